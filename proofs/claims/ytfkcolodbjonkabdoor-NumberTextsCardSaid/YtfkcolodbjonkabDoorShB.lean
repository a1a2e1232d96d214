/- How the layer of data stands while blocks are made, written and let go. -/
import Derived.Test.YtfkcolodbjonkabDoorShA
namespace Go.Proofs.YtfkcolodbjonkabDoor.Sh
open Go.RowKit
set_option linter.unusedVariables false
set_option linter.unusedSimpArgs false

theorem cell_of_block {w : World} {b : Nat} {arr : Array Value} {e : TypeId} {fz : Nat × Nat} (h : w.heap[b]? = some (.cells arr e fz)) (i : Nat) : w.cell? ⟨b, i, none⟩ = arr[i]? := by
  simp [World.cell?, h]

theorem cell_same {w w' : World} {ad : Addr} (h : w'.heap[ad.block]? = w.heap[ad.block]?) : w'.cell? ad = w.cell? ad := by
  simp only [World.cell?, h]

section
variable {P : Program} {w0 : Base} {A : Nat → Prop} {N : Nat} {Fr : Nat → Prop} {tm : Nat → Option SV} {hp : Nat → Option Row} {a : Act} {w : World} {m : Mem} {π : Plc}

theorem RelAt.world (h : RelAt P w0 A N Fr tm hp a w m π) {w' : World} (F : Nat → Prop) (h1 : w'.os = w.os) (h2 : w'.tape = w.tape) (h3 : w'.output = w.output)
    (hs : w.heap.size ≤ w'.heap.size) (hb : ∀ b, b < w.heap.size → ¬ F b → w'.heap[b]? = w.heap[b]?)
    (hA : ∀ b, F b → A b) (hF : ∀ r p, π r = some (some p) → ¬ F p.b) (hG : ∀ ad v, m ad = some v → ¬ F ad.block) : RelAt P w0 A N Fr tm hp a w' m π := by
  refine { h with rows := fun r row hr => ?_, mok := fun ad v hv => ?_, keep := ⟨h1.trans h.keep.os, h2.trans h.keep.tape, h3.trans h.keep.output, Nat.le_trans h.keep.size hs, fun b hb0 hA0 => ?_⟩ }
  · have := h.rows r row hr
    unfold RowOk at this ⊢
    cases hq : π r with
    | none => rw [hq] at this; exact this
    | some x =>
      rw [hq] at this
      cases x with
      | none => exact this
      | some p =>
        obtain ⟨g1, g2, arr, e, g3, g4, g5, g6⟩ := this
        exact ⟨g1, g2, arr, e, g3.same (hb _ (h.lt hq) (hF r p hq)), g4, g5, g6⟩
  · obtain ⟨g1, g2⟩ := h.mok ad v hv
    exact ⟨g1, by rw [cell_same (hb _ (World.block_lt_of_cell? _ _ g2) (hG ad v hv))]; exact g2⟩
  · rw [hb b (Nat.lt_of_lt_of_le hb0 h.keep.size) (fun hf => hA0 (hA b hf))]
    exact h.keep.block b hb0 hA0

theorem RelAt.adopt0 (h : RelAt P w0 A N Fr tm hp a w m π) (n : Nat) (hn : Fr n) (p : Place) (row : Row) (arr : Array Value) (e : TypeId)
    (hA : A p.b) (he : p.esz = row.esz) (hb : ObjAt w p.b p.esz arr e) (hsz : SzOk p arr) (hl : LnOk p row arr)
    (hc : ∀ (i : Nat) c, row.cells[i]? = some c → ∃ x, arr[p.o + i]? = some x ∧ VC m π c x) (hcl : ∀ c ∈ row.cells, c.cl Fr) (hso : ∀ c ∈ row.cells, c ≠ .un)
    (hfree : ∀ r q, π r = some (some q) → q.b ≠ p.b) (hm : ∀ ad v, m ad = some v → ad.block ≠ p.b) :
    RelAt P w0 A N (fun r => Fr r ∧ r ≠ n) tm (upd hp n (some row)) a w m (upd π n (some (some p))) := by
  have hπ : ∀ q, ¬ Fr q → upd π n (some (some p)) q = π q ∨ upd π n (some (some p)) q = none := fun q hq => by
    left; exact upd_ne _ _ _ _ (fun e => hq (e ▸ hn))
  have hm0 : ∀ a v, m a = some v → m a = some v := fun _ _ h => h
  have hFr : ∀ r, (Fr r ∧ r ≠ n) → Fr r := fun r h => h.1
  refine { h with tms := fun k v hk => VS.mono hm0 hπ (h.tcl k v hk) (h.tms k v hk), tcl := fun k v hk => SV.cl.mono hFr (h.tcl k v hk), rows := fun q r hq => ?_, rcl := fun q r hq => ?_, rsol := fun q r hq => ?_, live := fun q hq => ?_, fresh := fun q hq => ?_, inj := fun q q' p1 p2 g1 g2 => ?_, dis := fun q p1 ad v g1 => ?_, org := fun q hq => ?_, frk := fun q hq => h.frk q hq.1 }
  · unfold upd at hq
    by_cases e1 : q = n
    · subst e1
      simp only [↓reduceIte, Option.some.injEq] at hq
      subst hq
      unfold RowOk
      rw [upd_same]
      exact ⟨hA, he, arr, e, hb, hsz, hl, fun i c hi => by
        obtain ⟨x, hx, hv⟩ := hc i c hi
        exact ⟨x, hx, VC.mono hm0 hπ (hcl c (List.mem_of_getElem? hi)) hv⟩⟩
    · simp only [e1, ↓reduceIte] at hq
      have := h.rows q r hq
      unfold RowOk at this ⊢
      rw [upd_ne _ _ _ _ e1]
      cases hq2 : π q with
      | none => rw [hq2] at this; exact this
      | some x =>
        rw [hq2] at this
        cases x with
        | none => exact this
        | some p1 =>
          obtain ⟨g1, g2, arr, e', g3, g4, g5, g6⟩ := this
          refine ⟨g1, g2, arr, e', g3, g4, g5, fun i c hi => ?_⟩
          obtain ⟨x, hx, hv⟩ := g6 i c hi
          exact ⟨x, hx, VC.mono hm0 hπ (h.rcl q r hq c (List.mem_of_getElem? hi)) hv⟩
  · unfold upd at hq
    intro c hc2
    by_cases e1 : q = n
    · subst e1
      simp only [↓reduceIte, Option.some.injEq] at hq
      subst hq
      exact Cell.cl.mono hFr (hcl c hc2)
    · simp only [e1, ↓reduceIte] at hq
      exact Cell.cl.mono hFr (h.rcl q r hq c hc2)
  · unfold upd at hq
    intro c hc2
    by_cases e1 : q = n
    · subst e1
      simp only [↓reduceIte, Option.some.injEq] at hq
      subst hq
      exact hso c hc2
    · simp only [e1, ↓reduceIte] at hq
      exact h.rsol q r hq c hc2
  · unfold upd at hq ⊢
    by_cases e1 : q = n
    · simp [e1] at hq
    · simp only [e1, ↓reduceIte] at hq ⊢; exact h.live q hq
  · rw [upd_ne _ _ _ _ hq.2]; exact h.fresh q hq.1
  · unfold upd at g1 g2
    intro hbb
    by_cases e1 : q = n
    · by_cases e2 : q' = n
      · rw [e1, e2]
      · simp only [e1, e2, ↓reduceIte, Option.some.injEq] at g1 g2
        subst g1
        exact absurd hbb.symm (hfree q' p2 g2)
    · by_cases e2 : q' = n
      · simp only [e1, e2, ↓reduceIte, Option.some.injEq] at g1 g2
        subst g2
        exact absurd hbb (hfree q p1 g1)
      · simp only [e1, e2, ↓reduceIte] at g1 g2
        exact h.inj q q' p1 p2 g1 g2 hbb
  · unfold upd at g1
    intro hv
    by_cases e1 : q = n
    · simp only [e1, ↓reduceIte, Option.some.injEq] at g1
      subst g1
      exact hm ad v hv
    · simp only [e1, ↓reduceIte] at g1
      exact h.dis q p1 ad v g1 hv
  · have := h.frk n hn
    rw [upd_ne _ _ _ _ (by omega)]
    exact h.org q hq

theorem RelAt.adopt (h : RelAt P w0 A N Fr tm hp a w m π) (n : Nat) (hn : Fr n) (p : Place) (row : Row) (arr : Array Value) (e : TypeId)
    (hA : A p.b) (hz : row.esz ≠ 0) (he : p.esz = row.esz) (hb : w.heap[p.b]? = some (.cells arr e (0, 0))) (hsz : arr.size = p.o + p.tot) (hl : row.cells.length ≤ p.tot)
    (hc : ∀ (i : Nat) c, row.cells[i]? = some c → ∃ x, arr[p.o + i]? = some x ∧ VC m π c x) (hcl : ∀ c ∈ row.cells, c.cl Fr) (hso : ∀ c ∈ row.cells, c ≠ .un)
    (hfree : ∀ r q, π r = some (some q) → q.b ≠ p.b) (hm : ∀ ad v, m ad = some v → ad.block ≠ p.b) :
    RelAt P w0 A N (fun r => Fr r ∧ r ≠ n) tm (upd hp n (some row)) a w m (upd π n (some (some p))) :=
  h.adopt0 n hn p row arr e hA he (.mk (by rw [he]; exact hz) hb) ⟨fun _ => hsz, fun e0 => absurd (he ▸ e0) hz⟩ ⟨fun _ => hl, fun e0 => absurd (he ▸ e0) hz⟩ hc hcl hso hfree hm

theorem RelAt.nilrow (h : RelAt P w0 A N Fr tm hp a w m π) (n : Nat) (hn : Fr n) (esz : Nat) :
    RelAt P w0 A N (fun r => Fr r ∧ r ≠ n) tm (upd hp n (some ⟨[], esz⟩)) a w m (upd π n (some none)) := by
  have hπ : ∀ q, ¬ Fr q → upd π n (some none) q = π q ∨ upd π n (some none) q = none := fun q hq => by
    left; exact upd_ne _ _ _ _ (fun e => hq (e ▸ hn))
  have hm0 : ∀ a v, m a = some v → m a = some v := fun _ _ h => h
  have hFr : ∀ r, (Fr r ∧ r ≠ n) → Fr r := fun r h => h.1
  refine { h with tms := fun k v hk => VS.mono hm0 hπ (h.tcl k v hk) (h.tms k v hk), tcl := fun k v hk => SV.cl.mono hFr (h.tcl k v hk), rows := fun q r hq => ?_, rcl := fun q r hq => ?_, rsol := fun q r hq => ?_, live := fun q hq => ?_, fresh := fun q hq => ?_, inj := fun q q' p1 p2 g1 g2 => ?_, dis := fun q p1 ad v g1 => ?_, org := fun q hq => ?_, frk := fun q hq => h.frk q hq.1 }
  · unfold upd at hq
    by_cases e1 : q = n
    · subst e1
      simp only [↓reduceIte, Option.some.injEq] at hq
      subst hq
      unfold RowOk
      rw [upd_same]
    · simp only [e1, ↓reduceIte] at hq
      have := h.rows q r hq
      unfold RowOk at this ⊢
      rw [upd_ne _ _ _ _ e1]
      cases hq2 : π q with
      | none => rw [hq2] at this; exact this
      | some x =>
        rw [hq2] at this
        cases x with
        | none => exact this
        | some p1 =>
          obtain ⟨g1, g2, arr, e', g3, g4, g5, g6⟩ := this
          refine ⟨g1, g2, arr, e', g3, g4, g5, fun i c hi => ?_⟩
          obtain ⟨x, hx, hv⟩ := g6 i c hi
          exact ⟨x, hx, VC.mono hm0 hπ (h.rcl q r hq c (List.mem_of_getElem? hi)) hv⟩
  · unfold upd at hq
    intro c hc2
    by_cases e1 : q = n
    · subst e1
      simp only [↓reduceIte, Option.some.injEq] at hq
      subst hq
      simp at hc2
    · simp only [e1, ↓reduceIte] at hq
      exact Cell.cl.mono hFr (h.rcl q r hq c hc2)
  · unfold upd at hq
    intro c hc2
    by_cases e1 : q = n
    · subst e1
      simp only [↓reduceIte, Option.some.injEq] at hq
      subst hq
      simp at hc2
    · simp only [e1, ↓reduceIte] at hq
      exact h.rsol q r hq c hc2
  · unfold upd at hq ⊢
    by_cases e1 : q = n
    · simp [e1] at hq
    · simp only [e1, ↓reduceIte] at hq ⊢; exact h.live q hq
  · rw [upd_ne _ _ _ _ hq.2]; exact h.fresh q hq.1
  · unfold upd at g1 g2
    intro hbb
    by_cases e1 : q = n
    · simp [e1] at g1
    · by_cases e2 : q' = n
      · simp [e2] at g2
      · simp only [e1, e2, ↓reduceIte] at g1 g2
        exact h.inj q q' p1 p2 g1 g2 hbb
  · unfold upd at g1
    intro hv
    by_cases e1 : q = n
    · simp [e1] at g1
    · simp only [e1, ↓reduceIte] at g1
      exact h.dis q p1 ad v g1 hv
  · have := h.frk n hn
    rw [upd_ne _ _ _ _ (by omega)]
    exact h.org q hq

theorem RelAt.alloc (h : RelAt P w0 A N Fr tm hp a w m π) (n : Nat) (hn : Fr n) (row : Row) (hz : row.esz ≠ 0) (arr : Array Value) (e : TypeId)
    (hl : row.cells.length ≤ arr.size) (hc : ∀ (i : Nat) c, row.cells[i]? = some c → ∃ x, arr[i]? = some x ∧ VC m π c x) (hcl : ∀ c ∈ row.cells, c.cl Fr) (hso : ∀ c ∈ row.cells, c ≠ .un) :
    RelAt P w0 A N (fun r => Fr r ∧ r ≠ n) tm (upd hp n (some row)) a (w.alloc (.cells arr e)) m (upd π n (some (some ⟨w.heap.size, 0, arr.size, row.esz⟩))) := by
  have h1 : RelAt P w0 A N Fr tm hp a (w.alloc (.cells arr e)) m π :=
    h.world (fun _ => False) rfl rfl rfl (by simp) (fun b hb _ => Below.heap_alloc _ _ _ hb) (fun b hb => hb.elim) (fun _ _ _ hb => hb) (fun _ _ _ hb => hb)
  refine h1.adopt n hn ⟨w.heap.size, 0, arr.size, row.esz⟩ row arr e (h.new _ h.keep.size) hz rfl ?_ (by simp) hl ?_ hcl hso ?_ ?_
  · show (w.heap.push _)[w.heap.size]? = _
    simp
  · intro i c hi
    simpa using hc i c hi
  · intro r q hq
    have := h.lt hq
    show q.b ≠ w.heap.size
    omega
  · intro ad v hv
    have := World.block_lt_of_cell? _ _ (h.mok ad v hv).2
    show ad.block ≠ w.heap.size
    omega

def putAt (cs : List Cell) (off : Nat) : List Cell → List Cell
  | [] => cs
  | c :: r => putAt (cs.set off c) (off + 1) r

theorem putAt_length : ∀ (new : List Cell) (cs : List Cell) (off : Nat), (putAt cs off new).length = cs.length
  | [], _, _ => rfl
  | c :: r, cs, off => by simp [putAt, putAt_length r]

theorem putAt_get : ∀ (new : List Cell) (cs : List Cell) (off : Nat) (i : Nat) (c : Cell), off + new.length ≤ cs.length → (putAt cs off new)[i]? = some c →
    (∃ j, i = off + j ∧ new[j]? = some c) ∨ ((i < off ∨ off + new.length ≤ i) ∧ cs[i]? = some c)
  | [], cs, off, i, c, _, h => by
    right
    refine ⟨by simp; omega, h⟩
  | d :: r, cs, off, i, c, hl, h => by
    simp only [List.length_cons] at hl
    rcases putAt_get r (cs.set off d) (off + 1) i c (by simp; omega) h with ⟨j, rfl, hj⟩ | ⟨hi, hj⟩
    · exact .inl ⟨j + 1, by omega, by simpa using hj⟩
    · rw [List.getElem?_set] at hj
      by_cases e : off = i
      · subst e
        have : off < cs.length := by omega
        simp [this] at hj
        exact .inl ⟨0, by omega, by simp [hj]⟩
      · simp only [e, ↓reduceIte] at hj
        exact .inr ⟨by simp only [List.length_cons]; omega, hj⟩

theorem RelAt.store (P : Program) (h : RelAt P w0 A N Fr tm hp a w m π) {r : Nat} {row : Row} {p : Place} (hr : hp r = some row) (hp' : π r = some (some p)) (hz : p.esz ≠ 0)
    (off : Nat) (cs : List Cell) (vals : List Value) (hv : VL m π cs vals) (h1 : ∀ x ∈ vals, x.oneCell' = true) (hcl : ∀ c ∈ cs, c.cl Fr) (hso : ∀ c ∈ cs, c ≠ .un) (hoff : off + cs.length ≤ row.cells.length) :
    ∃ w', (storeCells ⟨p.b, p.o + off, none⟩ vals).run P w = .ok () w' ∧ RelAt P w0 A N Fr tm (upd hp r (some ⟨putAt row.cells off cs, row.esz⟩)) a w' m π := by
  have hrow := h.rows r row hr
  unfold RowOk at hrow
  rw [hp'] at hrow
  obtain ⟨g1, g2, arr, e, g3, g4, g5, g6⟩ := hrow
  replace g3 := g3.cells hz
  replace g4 := g4.1 hz
  replace g5 := g5.1 hz
  have hlen := hv.length
  have hrun := run_storeCells_at (P := P) p.b (p.o + off) e vals 0 arr w g3 (by omega) h1
  simp only [Nat.add_zero] at hrun
  refine ⟨_, hrun, ?_⟩
  generalize hnew : (arr.toList.take (p.o + off) ++ vals ++ arr.toList.drop (p.o + off + vals.length)).toArray = arr'
  have hsz : arr'.size = arr.size := by rw [← hnew]; simp; omega
  have hget : ∀ i, arr'[i]? = if i < p.o + off then arr[i]? else if i < p.o + off + vals.length then vals[i - (p.o + off)]? else arr[i]? := by
    intro i
    rw [← hnew]
    simp only [List.getElem?_toArray, List.append_assoc]
    have ht : (arr.toList.take (p.o + off)).length = p.o + off := by simp; omega
    by_cases c1 : i < p.o + off
    · rw [if_pos c1, List.getElem?_append_left (by omega), List.getElem?_take_of_lt c1]; simp
    · rw [if_neg c1, List.getElem?_append_right (by omega), ht]
      by_cases c2 : i < p.o + off + vals.length
      · rw [if_pos c2, List.getElem?_append_left (by omega)]
      · rw [if_neg c2, List.getElem?_append_right (by omega), List.getElem?_drop]
        simp only [Array.getElem?_toList]
        congr 1; omega
  refine { h with rows := fun q rw' hq => ?_, rcl := fun q rw' hq => ?_, rsol := fun q rw' hq => ?_, live := fun q hq => ?_, fresh := fun q hq => ?_, mok := fun ad v hv' => ?_, keep := ⟨h.keep.os, h.keep.tape, h.keep.output, by simpa using h.keep.size, fun b hb hA => ?_⟩ }
  · unfold upd at hq
    unfold RowOk
    by_cases e1 : q = r
    · subst e1
      simp only [↓reduceIte, Option.some.injEq] at hq
      subst hq
      rw [hp']
      refine ⟨g1, g2, arr', e, .mk hz (setRow_heap _ _ _ _ _ _ g3), ⟨fun _ => by rw [hsz]; exact g4, fun e0 => absurd e0 hz⟩, ⟨fun _ => by simpa [putAt_length] using g5, fun e0 => absurd e0 hz⟩, fun i c hc => ?_⟩
      rcases putAt_get cs row.cells off i c hoff hc with ⟨j, rfl, hj⟩ | ⟨hi, hj⟩
      · obtain ⟨v, hv1, hv2⟩ := hv.get j c hj
        have hjl : j < cs.length := (List.getElem?_eq_some_iff.1 hj).1
        refine ⟨v, ?_, hv2⟩
        rw [hget, if_neg (by omega), if_pos (by omega)]
        rw [show p.o + (off + j) - (p.o + off) = j by omega]; exact hv1
      · obtain ⟨x, hx, hvx⟩ := g6 i c hj
        refine ⟨x, ?_, hvx⟩
        rw [hget]
        split
        · exact hx
        · split
          · omega
          · exact hx
    · simp only [e1, ↓reduceIte] at hq
      have := h.rows q rw' hq
      unfold RowOk at this
      cases hq2 : π q with
      | none => rw [hq2] at this; exact this
      | some x =>
        rw [hq2] at this
        cases x with
        | none => exact this
        | some p1 =>
          obtain ⟨k1, k2, arr1, e', k3, k4, k5, k6⟩ := this
          refine ⟨k1, k2, arr1, e', ?_, k4, k5, k6⟩
          exact k3.same (setRow_other _ _ _ _ (fun e2 => e1 (h.inj q r p1 p hq2 hp' e2)))
  · unfold upd at hq
    by_cases e1 : q = r
    · subst e1
      simp only [↓reduceIte, Option.some.injEq] at hq
      subst hq
      intro c hc
      obtain ⟨i, hi, rfl⟩ := List.mem_iff_getElem.1 hc
      rcases putAt_get cs row.cells off i _ hoff (List.getElem?_eq_getElem hi) with ⟨j, _, hj⟩ | ⟨_, hj⟩
      · exact hcl _ (List.mem_of_getElem? hj)
      · exact h.rcl q row hr _ (List.mem_of_getElem? hj)
    · simp only [e1, ↓reduceIte] at hq
      exact h.rcl q rw' hq
  · unfold upd at hq
    by_cases e1 : q = r
    · subst e1
      simp only [↓reduceIte, Option.some.injEq] at hq
      subst hq
      intro c hc
      obtain ⟨i, hi, rfl⟩ := List.mem_iff_getElem.1 hc
      rcases putAt_get cs row.cells off i _ hoff (List.getElem?_eq_getElem hi) with ⟨j, _, hj⟩ | ⟨_, hj⟩
      · exact hso _ (List.mem_of_getElem? hj)
      · exact h.rsol q row hr _ (List.mem_of_getElem? hj)
    · simp only [e1, ↓reduceIte] at hq
      exact h.rsol q rw' hq
  · unfold upd at hq
    by_cases e1 : q = r
    · simp [e1] at hq
    · simp only [e1, ↓reduceIte] at hq; exact h.live q hq
  · unfold upd
    have := h.fresh q hq
    by_cases e1 : q = r
    · subst e1; rw [hr] at this; cases this
    · simp only [e1, ↓reduceIte]; exact this
  · obtain ⟨k1, k2⟩ := h.mok ad v hv'
    refine ⟨k1, ?_⟩
    rw [cell_setRow_other _ _ _ _ (h.dis r p ad v hp' hv')]
    exact k2
  · rw [setRow_other _ _ _ _ (fun e2 => hA (by rw [e2]; exact g1))]
    exact h.keep.block b hb hA

theorem RelAt.reobj (h : RelAt P w0 A N Fr tm hp a w m π) {r : Nat} {row : Row} {p : Place} (hr : hp r = some row) (hp' : π r = some (some p)) (o : Obj) (cs : List Cell) (arr : Array Value) (e : TypeId)
    (hm : ∀ ad v, m ad = some v → ad.block ≠ p.b)
    (ho : ObjAt { w with heap := w.heap.setIfInBounds p.b o } p.b p.esz arr e) (hs : SzOk p arr) (hl : LnOk p ⟨cs, row.esz⟩ arr)
    (hc : ∀ (i : Nat) c, cs[i]? = some c → ∃ x, arr[p.o + i]? = some x ∧ VC m π c x) (hcl : ∀ c ∈ cs, c.cl Fr) (hso : ∀ c ∈ cs, c ≠ .un) :
    RelAt P w0 A N Fr tm (upd hp r (some ⟨cs, row.esz⟩)) a { w with heap := w.heap.setIfInBounds p.b o } m π := by
  have hrow := h.rows r row hr
  unfold RowOk at hrow
  rw [hp'] at hrow
  obtain ⟨g1, g2, _, _, _, _, _, _⟩ := hrow
  have hoth : ∀ b, b ≠ p.b → ({ w with heap := w.heap.setIfInBounds p.b o } : World).heap[b]? = w.heap[b]? := fun b hb => by
    show (w.heap.setIfInBounds p.b o)[b]? = _
    exact Array.getElem?_setIfInBounds_ne (Ne.symm hb)
  refine { h with rows := fun q rw' hq => ?_, rcl := fun q rw' hq => ?_, rsol := fun q rw' hq => ?_, live := fun q hq => ?_, fresh := fun q hq => ?_, mok := fun ad v hv' => ?_, keep := ⟨h.keep.os, h.keep.tape, h.keep.output, by simpa using h.keep.size, fun b hb hA => ?_⟩ }
  · unfold upd at hq
    unfold RowOk
    by_cases e1 : q = r
    · subst e1
      simp only [↓reduceIte, Option.some.injEq] at hq
      subst hq
      rw [hp']
      exact ⟨g1, g2, arr, e, ho, hs, hl, hc⟩
    · simp only [e1, ↓reduceIte] at hq
      have := h.rows q rw' hq
      unfold RowOk at this
      cases hq2 : π q with
      | none => rw [hq2] at this; exact this
      | some x =>
        rw [hq2] at this
        cases x with
        | none => exact this
        | some p1 =>
          obtain ⟨k1, k2, arr1, e', k3, k4, k5, k6⟩ := this
          exact ⟨k1, k2, arr1, e', k3.same (hoth _ (fun e2 => e1 (h.inj q r p1 p hq2 hp' e2))), k4, k5, k6⟩
  · unfold upd at hq
    by_cases e1 : q = r
    · simp only [e1, ↓reduceIte, Option.some.injEq] at hq
      subst hq
      exact hcl
    · simp only [e1, ↓reduceIte] at hq
      exact h.rcl q rw' hq
  · unfold upd at hq
    by_cases e1 : q = r
    · simp only [e1, ↓reduceIte, Option.some.injEq] at hq
      subst hq
      exact hso
    · simp only [e1, ↓reduceIte] at hq
      exact h.rsol q rw' hq
  · unfold upd at hq
    by_cases e1 : q = r
    · simp [e1] at hq
    · simp only [e1, ↓reduceIte] at hq; exact h.live q hq
  · unfold upd
    have := h.fresh q hq
    by_cases e1 : q = r
    · subst e1; rw [hr] at this; cases this
    · simp only [e1, ↓reduceIte]; exact this
  · obtain ⟨k1, k2⟩ := h.mok ad v hv'
    refine ⟨k1, ?_⟩
    rw [cell_same (hoth _ (hm ad v hv'))]
    exact k2
  · rw [hoth b (fun e2 => hA (by rw [e2]; exact g1))]
    exact h.keep.block b hb hA

end
end Go.Proofs.YtfkcolodbjonkabDoor.Sh
