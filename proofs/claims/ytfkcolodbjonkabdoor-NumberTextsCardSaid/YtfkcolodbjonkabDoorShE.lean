/- What each kind of operation does, told of data: slices, append, make. -/
import Derived.Test.YtfkcolodbjonkabDoorShD
namespace Go.Proofs.YtfkcolodbjonkabDoor.Sh
open Go.RowKit
set_option linter.unusedVariables false
set_option linter.unusedSimpArgs false

def slc (sz : Nat) (get : Nat → Option Row) : SV → Option (List Cell × Nat)
  | .one (.osl r off len _) => (match get r with
    | some row => some ((row.cells.drop off).take (len * sz), len)
    | none => none)
  | .one (.gsl cs off len _) => some ((cs.drop off).take (len * sz), len)
  | .one (.sc (.slice none 0 0)) => some ([], 0)
  | .one (.sc (.slice (some _) 0 _)) => some ([], 0)
  | _ => none

def sAppend (T : Tab) (get : Nat → Option Row) (t : Nat) (s x : SV) (n : Nat) : Res :=
  match slot t T.ts with
  | none => bad
  | some ti =>
    (match ti.kind with
    | .slice e =>
      (match slot e T.ts with
      | none => bad
      | some te =>
        (match slc te.size get x with
        | none => bad
        | some (xc, k) =>
          (match s with
          | .one (.sc (.slice none 0 0)) => ⟨xc.length = k * te.size ∧ 0 < te.size ∧ 0 < te.bytes ∧ k * te.bytes ≤ 281474976710656, .one (.osl n 0 k none), [(n, some ⟨xc, te.size⟩)], 1⟩
          | .one (.osl r off len (some 0)) => ⟨xc.length = k * te.size ∧ 0 < te.size ∧ 0 < te.bytes ∧ k * te.bytes ≤ 281474976710656 ∧ live get r, .one (.osl n 0 k none), [(n, some ⟨xc, te.size⟩)], 1⟩
          | .one (.gsl cs off len (some 0)) => ⟨xc.length = k * te.size ∧ 0 < te.size ∧ 0 < te.bytes ∧ k * te.bytes ≤ 281474976710656, .one (.osl n 0 k none), [(n, some ⟨xc, te.size⟩)], 1⟩
          | .one (.osl r off len cap) =>
            (match get r with
            | none => bad
            | some row => ⟨xc.length = k * te.size ∧ 0 < te.size ∧ 0 < te.bytes ∧ (len + k) * te.bytes ≤ 140737488355328 ∧ row.esz = te.size ∧ off + len * te.size ≤ row.cells.length,
                .one (.osl n 0 (len + k) none), [(r, none), (n, some ⟨(row.cells.drop off).take (len * te.size) ++ xc, te.size⟩)], 1⟩)
          | _ => bad)))
    | _ => bad)

section
variable {P : Program} {o : Oper} {w0 : Base} {A : Nat → Prop} {N : Nat} {Fr : Nat → Prop} {tm : Nat → Option SV} {hp : Nat → Option Row} {a : Act} {w : World} {m : Mem} {π : Plc} {n : Nat}

theorem slc_ok (h : RelAt P w0 A N Fr tm hp a w m π) {x : SV} {v : Value} (hx : VS m π x v) (hcl : x.cl Fr) {sz : Nat} {xc : List Cell} {k : Nat} (hs : slc sz hp x = some (xc, k)) (hl : xc.length = k * sz) (hz : 0 < sz) :
    ∃ (ad : Option Addr) (c : Nat) (vals : List Value), v = .slice ad k c ∧ VL m π xc vals ∧ (∀ u ∈ vals, u.oneCell' = true) ∧ (∀ c ∈ xc, c.cl Fr) ∧ (∀ c ∈ xc, c ≠ .un) ∧
      (∀ d, ad = some d → ∀ (j : Nat) u, vals[j]? = some u → w.cell? (d.add j) = some u) ∧ (ad = none → k = 0 ∧ c = 0) ∧ k ≤ c := by
  have hzero : k = 0 → xc = [] := fun e => List.length_eq_zero_iff.1 (by rw [hl, e]; simp)
  cases x with
  | agg cs => cases hs
  | tup vs => cases hs
  | one cc =>
    cases cc with
    | optr _ _ => cases hs
    | un => cases hs
    | mp _ _ => cases hs
    | gptr _ _ => cases hs
    | fn f caps => cases hs
    | sc u =>
      unfold slc at hs
      split at hs
      case h_3 heq =>
        cases heq
        cases hs
        cases hx
        exact ⟨none, 0, [], rfl, trivial, by simp, by simp, by simp, by simp, fun _ => ⟨rfl, rfl⟩, Nat.le_refl _⟩
      case h_4 ad c heq =>
        cases heq
        cases hs
        cases hx
        exact ⟨some ad, c, [], rfl, trivial, by simp, by simp, by simp, by simp, fun h => (by cases h), Nat.zero_le _⟩
      case h_5 => cases hs
      all_goals (rename_i heq; cases heq)
    | gsl cs off len cap =>
      simp only [slc, Option.some.injEq, Prod.mk.injEq] at hs
      obtain ⟨rfl, rfl⟩ := hs
      cases hx with
      | gnil _ _ _ hc =>
        have := hzero rfl
        rw [this]
        exact ⟨none, 0, [], rfl, trivial, by simp, by simp, by simp, by simp, fun _ => ⟨rfl, rfl⟩, Nat.le_refl _⟩
      | gsl _ _ _ _ b o c ad vals hc hlc hm hv ha =>
        by_cases h0 : len = 0
        · have := hzero h0
          rw [this]
          exact ⟨some ad, c, [], rfl, trivial, by simp, by simp, by simp, by simp, fun h => (by cases h), hlc⟩
        · have had : ad = ⟨b, o + off, none⟩ := ha.resolve_right h0
          subst had
          have hlen : len * sz ≤ cs.length - off := by simp at hl; omega
          have hget : ∀ (j : Nat), j < len * sz → ∃ cj, cs[off + j]? = some cj := fun j hj => by
            exact ⟨_, List.getElem?_eq_getElem (by omega)⟩
          refine ⟨_, c, (List.range (len * sz)).map (fun j => vals (off + j)), rfl, ?_, ?_, ?_, ?_, ?_, fun h => (by cases h), hlc⟩
          · refine VL.of (by simp; omega) (fun i c v hi hv' => ?_)
            have hil : i < len * sz := by have := (List.getElem?_eq_some_iff.1 hi).1; omega
            rw [List.getElem?_take_of_lt hil, List.getElem?_drop] at hi
            simp [hil] at hv'
            rw [← hv']
            have := hv _ _ hi
            cases c <;> first | exact this | cases this
          · intro u hu
            obtain ⟨j, hj, rfl⟩ := List.mem_map.1 hu
            obtain ⟨cj, hcj⟩ := hget j (by simpa using hj)
            exact (hv _ _ hcj).one
          · exact fun c hc => (vg_ptr_cells (Fr := Fr) (h := h) hm hv).2 c (List.mem_of_mem_drop (List.mem_of_mem_take hc))
          · intro c hc e
            subst e
            obtain ⟨i, hi, hie⟩ := List.mem_iff_getElem.1 (List.mem_of_mem_drop (List.mem_of_mem_take hc))
            have := hv i _ (List.getElem?_eq_getElem hi)
            rw [hie] at this
            cases this
          · intro d hd j u hj
            cases hd
            have hjl : j < len * sz := by have := (List.getElem?_eq_some_iff.1 hj).1; simpa using this
            simp [hjl] at hj
            obtain ⟨cj, hcj⟩ := hget j hjl
            rw [addr_add, ← hj, Nat.add_assoc]
            exact (h.mok _ _ (hm _ _ hcj)).2
    | osl r off len cap =>
      simp only [slc] at hs
      cases hr : hp r with
      | none => rw [hr] at hs; cases hs
      | some row =>
        rw [hr] at hs
        simp only [Option.some.injEq, Prod.mk.injEq] at hs
        obtain ⟨rfl, rfl⟩ := hs
        have hrow := h.rows r row hr
        unfold RowOk at hrow
        obtain ⟨h1, h2⟩ := hx
        cases hπ : π r with
        | none => rw [hπ] at hrow; exact hrow.elim
        | some q =>
          rw [hπ] at h2 hrow
          cases q with
          | none =>
            simp only at h2
            obtain ⟨rfl, _, ad, rfl⟩ := h2
            have := hzero rfl
            rw [this]
            exact ⟨ad, 0, [], rfl, trivial, by simp, by simp, by simp, by simp, fun _ => ⟨rfl, rfl⟩, Nat.le_refl _⟩
          | some p =>
            simp only at h2
            obtain ⟨gz, ad, c, rfl, hlc, hc, hor⟩ := h2
            by_cases h0 : len = 0
            · have := hzero h0
              rw [this]
              exact ⟨some ad, c, [], rfl, trivial, by simp, by simp, by simp, by simp, fun h => (by cases h), hlc⟩
            · have had : ad = ⟨p.b, p.o + off, none⟩ := by
                rcases hor with ⟨e, _⟩ | ⟨e, _⟩
                · omega
                · exact e
              subst had
              have hlen : len * sz ≤ row.cells.length - off := by simp at hl; omega
              have hrc := rowcells h hr hπ gz
              have hex : ∀ j, j < len * sz → ∃ x, w.cell? ⟨p.b, p.o + off + j, none⟩ = some x ∧ ∀ c, row.cells[off + j]? = some c → VC m π c x := by
                intro j hj
                have hlt : off + j < row.cells.length := by omega
                obtain ⟨x, k1, k2⟩ := hrc (off + j) row.cells[off + j] (by simp [hlt])
                refine ⟨x, by rw [show p.o + off + j = p.o + (off + j) by omega]; exact k1, fun c hc' => ?_⟩
                rw [List.getElem?_eq_getElem hlt] at hc'
                cases hc'
                exact k2
              let f : Nat → Value := fun j => (w.cell? ⟨p.b, p.o + off + j, none⟩).getD undef
              have hf : ∀ j, j < len * sz → w.cell? ⟨p.b, p.o + off + j, none⟩ = some (f j) ∧ ∀ c, row.cells[off + j]? = some c → VC m π c (f j) := by
                intro j hj
                obtain ⟨x, k1, k2⟩ := hex j hj
                have : f j = x := by simp [f, k1]
                rw [this]; exact ⟨k1, k2⟩
              refine ⟨_, c, (List.range (len * sz)).map f, rfl, ?_, ?_, ?_, ?_, ?_, fun h => (by cases h), hlc⟩
              · refine VL.of (by simp; omega) (fun i c v hi hv' => ?_)
                have hil : i < len * sz := by have := (List.getElem?_eq_some_iff.1 hi).1; omega
                rw [List.getElem?_take_of_lt hil, List.getElem?_drop] at hi
                simp [hil] at hv'
                rw [← hv']
                exact (hf i hil).2 c hi
              · intro u hu
                obtain ⟨j, hj, rfl⟩ := List.mem_map.1 hu
                have hj' : j < len * sz := by simpa using hj
                have hlt : off + j < row.cells.length := by omega
                exact ((hf j hj').2 row.cells[off + j] (by simp [hlt])).one (h.rsol r row hr _ (List.getElem_mem hlt))
              · exact fun c hc => h.rcl r row hr c (List.mem_of_mem_drop (List.mem_of_mem_take hc))
              · exact fun c hc => h.rsol r row hr c (List.mem_of_mem_drop (List.mem_of_mem_take hc))
              · intro d hd j u hj
                cases hd
                have hjl : j < len * sz := by have := (List.getElem?_eq_some_iff.1 hj).1; simpa using this
                simp [hjl] at hj
                rw [addr_add, ← hj]
                exact (hf j hjl).1

theorem frm {new : Nat} (h : RelAt P w0 A N (fun r => Fr r ∧ r ≠ n) tm hp a w m π) (h1 : 1 ≤ new) : RelAt P w0 A N (fun r => Fr r ∧ ¬ (n ≤ r ∧ r < n + new)) tm hp a w m π :=
  h.frmono (fun r hr => ⟨hr.1, fun e => hr.2 ⟨by omega, by omega⟩⟩)

theorem RelAt.grown (h : RelAt P w0 A N Fr tm hp a w m π) (hn : Fr n) (cs : List Cell) (vals : List Value) (hv : VL m π cs vals) (hcl : ∀ c ∈ cs, c.cl Fr) (hso : ∀ c ∈ cs, c ≠ .un)
    (rest : Array Value) (e : TypeId) (esz : Nat) (hz : esz ≠ 0) (d : Nat) :
    RelAt P w0 A N (fun r => Fr r ∧ r ≠ n) tm (upd hp n (some ⟨cs, esz⟩)) a (({ w with drawn := d } : World).alloc (.cells (vals.toArray ++ rest) e)) m
      (upd π n (some (some ⟨w.heap.size, 0, vals.length + rest.size, esz⟩))) := by
  have hl := hv.length
  have := (h.drew d).alloc n hn ⟨cs, esz⟩ hz (vals.toArray ++ rest) e (by simp; omega) (fun i c hi => by
    obtain ⟨v, hv1, hv2⟩ := hv.get i c hi
    have hil : i < vals.length := (List.getElem?_eq_some_iff.1 hv1).1
    exact ⟨v, by rw [Array.getElem?_append_left (by simpa using hil)]; simpa using hv1, hv2⟩) hcl hso
  simpa using this

theorem zeroCells_size (z : Array Value) (k : Nat) : (Builtin.zeroCells z k).size = k * z.size := by simp [Builtin.zeroCells]

theorem grownCap_ge (w : World) (need old : Nat) (e : TypeId) : need ≤ grownCap w need old e := by
  simp [grownCap, Question.cut]

theorem append_fresh (T : Tab) (hT : TOk P T) (h : RelAt P w0 A N Fr tm hp a w m π) (hf : Fr n) {t e : Nat} {ti te : TI} (hl : slot t T.ts = some ti) (hk : ti.kind = .slice e) (hl2 : slot e T.ts = some te)
    {x : SV} {v : Value} (hx : VS m π x v) (hcx : x.cl Fr) {xc : List Cell} {k : Nat} (hs : slc te.size hp x = some (xc, k)) (hlen : xc.length = k * te.size) (hz : 0 < te.size) (hb : 0 < te.bytes) (hk2 : k * te.bytes ≤ 281474976710656)
    (base : Option Addr) (ty : TypeId) :
    ∃ v' w' π', (Builtin.append_ #[t, t] ty #[.slice base 0 0, v]).run P w = .ok v' w' ∧ RelAt P w0 A N (fun r => Fr r ∧ r ≠ n) tm (upd hp n (some ⟨xc, te.size⟩)) a w' m π' ∧ VS m π' (.one (.osl n 0 k none)) v' := by
  have hti := hT t ti hl
  have hte := hT e te hl2
  have hu := hti.slice hk
  obtain ⟨i, d, z, g1, g2, g3, g4, g5, g6, g7, g8, g9⟩ := hte.ex
  obtain ⟨ad, c, vals, rfl, q1, q2, q3, q4, q5, q6, q7⟩ := slc_ok h hx hcx hs hlen hz
  have hvl := q1.length
  by_cases h0 : k = 0
  · subst h0
    have hxc : xc = [] := List.length_eq_zero_iff.1 (by rw [hlen]; simp)
    subst hxc
    refine ⟨.slice base 0 0, w, upd π n (some none), ?_, h.nilrow n hf te.size, ⟨rfl, ?_⟩⟩
    · have h48 : Builtin.firstCells te.size 0 (.slice ad 0 c) = Builtin.firstCells te.size 0 (.slice ad 0 c) := rfl
      cases ad <;> cases base <;> simp [Builtin.append_, run_underlying hu, sizeOf, typeInfo, g1, Builtin.lenOf, Builtin.firstCells, loadCells, loadCellsFrom, storeCells]
    · rw [upd_same]
      exact ⟨rfl, fun k hk => (by cases hk), base, rfl⟩
  · cases hda : ad with
    | none => exact absurd (q6 hda).1 h0
    | some dd =>
      subst hda
      have hcell := q5 dd rfl
      have hbk : k ≤ k * te.bytes := Nat.le_mul_of_pos_right k hb
      have h63 : (k : Int) ≤ 9223372036854775807 := by omega
      have hzs : z.cells.size = te.size := by rw [← Array.length_toList, g7, g8]
      have hrun : (Builtin.append_ #[t, t] ty #[.slice base 0 0, .slice (some dd) k c]).run P w = .ok (.slice (some ⟨w.heap.size, 0, none⟩) k (grownCap w k 0 e)) (w.drew.alloc (.cells (vals.toArray ++ Builtin.zeroCells z.cells (grownCap w k 0 e - k)) e)) := by
        cases base with
        | none => exact run_append_nil w t ty e i z hu g1 g6 dd k c vals (by rw [hvl, hlen, g3]) hcell (by omega) h63 (by rw [g4]; exact hk2)
        | some bb =>
          have := run_append_grow w t ty e i z hu g1 g6 bb 0 0 [] (by simp) (by simp) dd k c vals (by rw [hvl, hlen, g3]) hcell (by omega) (by simpa using h63) (by rw [Nat.zero_add, nextslicecap_zero (by omega), g4]; exact hk2)
          simpa using this
      have hgc := grownCap_ge w k 0 e
      refine ⟨_, _, _, hrun, h.grown hf xc vals q1 q3 q4 _ e te.size (Nat.ne_of_gt hz) (w.drawn + 1), ⟨rfl, ?_⟩⟩
      rw [upd_same]
      refine ⟨Nat.ne_of_gt hz, _, _, rfl, hgc, fun k hk => (by cases hk), .inr ⟨rfl, ?_⟩⟩
      simp only [zeroCells_size, hzs, hvl, hlen]
      rw [← Nat.add_mul]
      have : k + (grownCap w k 0 e - k) = grownCap w k 0 e := by omega
      rw [this]
      omega


theorem osl_at (h : RelAt P w0 A N Fr tm hp a w m π) {r off len : Nat} {cap : Option Nat} {v : Value} {row : Row} (hx : VS m π (.one (.osl r off len cap)) v) (hr : hp r = some row) :
    (π r = some none ∧ len = 0 ∧ row.cells = [] ∧ ∃ ad, v = .slice ad 0 0) ∨
    ∃ p ad c, π r = some (some p) ∧ v = .slice (some ad) len c ∧ len ≤ c ∧ p.esz ≠ 0 ∧ ((len = 0 ∧ c = 0) ∨ (ad = ⟨p.b, p.o + off, none⟩ ∧ off + c * p.esz ≤ p.tot)) := by
  have hrow := h.rows r row hr
  unfold RowOk at hrow
  obtain ⟨h1, h2⟩ := hx
  cases hπ : π r with
  | none => rw [hπ] at hrow; exact hrow.elim
  | some q =>
    rw [hπ] at h2 hrow
    cases q with
    | none => exact .inl ⟨rfl, h2.1, hrow, h2.2.2⟩
    | some p =>
      obtain ⟨gz, ad, c, e, k1, k2, k3⟩ := h2
      exact .inr ⟨p, ad, c, rfl, e, k1, gz, k3⟩

theorem mono_kill {Fr : Nat → Prop} (π : Plc) (r : Nat) : ∀ q, ¬ Fr q → upd π r none q = π q ∨ upd π r none q = none := fun q _ => by
  unfold upd; split <;> simp

theorem append_kill (T : Tab) (hT : TOk P T) (h : RelAt P w0 A N Fr tm hp a w m π) (hf : Fr n) {t e : Nat} {ti te : TI} (hl : slot t T.ts = some ti) (hk : ti.kind = .slice e) (hl2 : slot e T.ts = some te)
    {x : SV} {v : Value} (hx : VS m π x v) (hcx : x.cl Fr) {xc : List Cell} {k : Nat} (hs : slc te.size hp x = some (xc, k)) (hlen : xc.length = k * te.size) (hz : 0 < te.size) (hb : 0 < te.bytes)
    {r off len : Nat} {cap : Option Nat} {row : Row} {u : Value} (hy : VS m π (.one (.osl r off len cap)) u) (hr : hp r = some row) (hk2 : (len + k) * te.bytes ≤ 140737488355328) (hes : row.esz = te.size)
    (hin : off + len * te.size ≤ row.cells.length) (ty : TypeId) :
    ∃ v' w' π', (Builtin.append_ #[t, t] ty #[u, v]).run P w = .ok v' w' ∧ RelAt P w0 A N (fun r => Fr r ∧ r ≠ n) tm (upd (upd hp r none) n (some ⟨(row.cells.drop off).take (len * te.size) ++ xc, te.size⟩)) a w' m π' ∧ VS m π' (.one (.osl n 0 (len + k) none)) v' := by
  have hne : n ≠ r := fun e => by subst e; rw [h.fresh n hf] at hr; cases hr
  have hti := hT t ti hl
  have hte := hT e te hl2
  have hu := hti.slice hk
  obtain ⟨i, d, z, g1, g2, g3, g4, g5, g6, g7, g8, g9⟩ := hte.ex
  obtain ⟨ad, c, vals, rfl, q1, q2, q3, q4, q5, q6, q7⟩ := slc_ok h hx hcx hs hlen hz
  have hvl := q1.length
  have hzs : z.cells.size = te.size := by rw [← Array.length_toList, g7, g8]
  have hkill := h.kill r
  have hxk : VS m (upd π r none) x (.slice ad k c) := VS.mono (fun _ _ h => h) (mono_kill π r) hcx hx
  rcases osl_at h hy hr with ⟨hπ, rfl, hrc, base, rfl⟩ | ⟨p, ad', c', hπ, rfl, hlc', hpz, hor⟩
  · -- the empty row
    have hsr : ∀ (h0 : k ≠ 0 ∨ k = 0), slc te.size (upd hp r none) x = some (xc, k) ∨ k = 0 := by
      intro _
      by_cases h0 : k = 0
      · exact .inr h0
      · left
        cases x with
        | agg cs => cases hs
        | tup vs => cases hs
        | one cc =>
          cases cc with
          | osl r' off' len' cap' =>
            have : r' ≠ r := by
              intro e
              subst e
              obtain ⟨_, h2⟩ := hx
              rw [hπ] at h2
              simp only at h2
              simp only [slc, hr] at hs
              cases hs
              exact h0 h2.1
            simp only [slc, upd_ne _ _ _ _ this]
            exact hs
          | sc u0 =>
            rw [← hs]
            unfold slc
            split <;> first | rfl | (rename_i e; cases e)
          | gsl _ _ _ _ => exact hs
          | gptr _ _ => cases hs
          | fn _ _ => cases hs
          | optr _ _ => cases hs
          | un => cases hs
          | mp _ _ => cases hs
    have hcr : (row.cells.drop off).take (0 * te.size) ++ xc = xc := by simp
    rw [hcr, Nat.zero_add]
    rcases hsr (by omega) with hs' | h0
    · obtain ⟨v', w', π', e1, e2, e3⟩ := append_fresh T hT hkill hf hl hk hl2 hxk hcx hs' hlen hz hb (by simp at hk2; omega) base ty
      exact ⟨v', w', π', e1, e2, e3⟩
    · subst h0
      have hxc : xc = [] := List.length_eq_zero_iff.1 (by rw [hlen]; simp)
      subst hxc
      refine ⟨.slice base 0 0, w, upd (upd π r none) n (some none), ?_, hkill.nilrow n hf te.size, ⟨rfl, ?_⟩⟩
      · cases ad <;> cases base <;> simp [Builtin.append_, run_underlying hu, sizeOf, typeInfo, g1, Builtin.lenOf, Builtin.firstCells, loadCells, loadCellsFrom, storeCells]
      · rw [upd_same]
        exact ⟨rfl, fun k hk => (by cases hk), base, rfl⟩
  · have hrow := h.rows r row hr
    unfold RowOk at hrow
    rw [hπ] at hrow
    obtain ⟨hA, hpe, arr, ety, hblk, hasz, hrl, hrcell⟩ := hrow
    replace hblk := hblk.cells hpz
    replace hasz := hasz.1 hpz
    replace hrl := hrl.1 hpz
    have hesz : p.esz = te.size := by rw [hpe]; exact hes
    -- the old cells' values
    have hold : ∃ olds : List Value, olds.length = len * te.size ∧ VL m π ((row.cells.drop off).take (len * te.size)) olds ∧ (∀ (j : Nat) u, olds[j]? = some u → arr[p.o + off + j]? = some u) := by
      refine ⟨(List.range (len * te.size)).map (fun j => (arr[p.o + off + j]?).getD undef), by simp, ?_, ?_⟩
      · refine VL.of (by simp; omega) (fun i c v hi hv' => ?_)
        have hil : i < len * te.size := by have := (List.getElem?_eq_some_iff.1 hi).1; simp at this; omega
        rw [List.getElem?_take_of_lt hil, List.getElem?_drop] at hi
        simp only [List.getElem?_map, List.getElem?_range hil, Option.map_some, Option.some.injEq] at hv'
        obtain ⟨x, hx1, hx2⟩ := hrcell _ _ hi
        rw [← hv', show p.o + off + i = p.o + (off + i) by omega, hx1]
        exact hx2
      · intro j u hj
        have hjl : j < len * te.size := by have := (List.getElem?_eq_some_iff.1 hj).1; simpa using this
        simp only [List.getElem?_map, List.getElem?_range hjl, Option.map_some, Option.some.injEq] at hj
        obtain ⟨x, hx1, hx2⟩ := hrcell (off + j) row.cells[off + j] (by rw [List.getElem?_eq_getElem])
        rw [show p.o + (off + j) = p.o + off + j by omega] at hx1
        rw [← hj, hx1]; rfl
    obtain ⟨olds, ho1, ho2, ho3⟩ := hold
    have hcs : VL m (upd π r none) ((row.cells.drop off).take (len * te.size) ++ xc) (olds ++ vals) := by
      have k1 : VL m (upd π r none) ((row.cells.drop off).take (len * te.size)) olds := VL.mono (fun _ _ h => h) (mono_kill π r) (fun c hc => h.rcl r row hr c (List.mem_of_mem_drop (List.mem_of_mem_take hc))) ho2
      have k2 : VL m (upd π r none) xc vals := VL.mono (fun _ _ h => h) (mono_kill π r) q3 q1
      refine VL.of (by simp [ho2.length, hvl]) (fun i c v hi hv' => ?_)
      have hll := ho2.length
      rw [List.getElem?_append] at hi hv'
      by_cases hlt : i < ((row.cells.drop off).take (len * te.size)).length
      · rw [if_pos hlt] at hi
        rw [if_pos (by omega)] at hv'
        obtain ⟨v2, e1, e2⟩ := k1.get i c hi
        rw [e1] at hv'; cases hv'; exact e2
      · rw [if_neg hlt] at hi
        rw [if_neg (by omega), hll] at hv'
        obtain ⟨v2, e1, e2⟩ := k2.get _ c hi
        rw [e1] at hv'; cases hv'; exact e2
    have hcl2 : ∀ c ∈ (row.cells.drop off).take (len * te.size) ++ xc, c.cl Fr := by
      intro c hc
      rcases List.mem_append.1 hc with hc | hc
      · exact h.rcl r row hr c (List.mem_of_mem_drop (List.mem_of_mem_take hc))
      · exact q3 c hc
    have hso2 : ∀ c ∈ (row.cells.drop off).take (len * te.size) ++ xc, c ≠ .un := by
      intro c hc
      rcases List.mem_append.1 hc with hc | hc
      · exact h.rsol r row hr c (List.mem_of_mem_drop (List.mem_of_mem_take hc))
      · exact q4 c hc
    have hl2' := hcs.length
    have hlt2 : ((row.cells.drop off).take (len * te.size)).length = len * te.size := by simp; omega
    have hnews : ∀ dd, ad = some dd → ∀ (j : Nat) u, vals[j]? = some u → w.cell? (dd.add j) = some u := q5
    by_cases hg : len + k ≤ c'
    · -- in place
      have hbig : ¬ (len + k = 0 ∧ c' = 0) ∨ (len + k = 0 ∧ c' = 0) := by omega
      have hfree : ∀ (q : Nat) (p2 : Place), upd π r none q = some (some p2) → ¬ (p2.b = p.b) := by
        intro q p2 hq e
        unfold upd at hq
        split at hq
        · cases hq
        · rename_i hqr; exact hqr (h.inj q r p2 p hq hπ e)
      have hmf : ∀ dd v, m dd = some v → ¬ (dd.block = p.b) := fun dd v hv => h.dis r p dd v hπ hv
      by_cases h00 : len = 0 ∧ c' = 0
      · obtain ⟨rfl, rfl⟩ := h00
        have hk0 : k = 0 := by omega
        subst hk0
        have hxc : xc = [] := List.length_eq_zero_iff.1 (by rw [hlen]; simp)
        subst hxc
        rw [show (row.cells.drop off).take (0 * te.size) ++ ([] : List Cell) = [] by simp]
        refine ⟨.slice (some ad') 0 0, w, _, ?_, hkill.nilrow n hf te.size, ⟨rfl, ?_⟩⟩
        · cases ad <;> simp [Builtin.append_, run_underlying hu, sizeOf, typeInfo, g1, Builtin.lenOf, Builtin.firstCells, loadCells, loadCellsFrom, storeCells]
        · rw [upd_same]
          exact ⟨rfl, fun k hk => (by cases hk), _, rfl⟩
      · obtain ⟨rfl, hcap⟩ : ad' = ⟨p.b, p.o + off, none⟩ ∧ off + c' * p.esz ≤ p.tot := by
          rcases hor with e | e
          · exact absurd e h00
          · exact e
        rw [hesz] at hcap
        have hfit : p.o + off + len * te.size + vals.length ≤ arr.size := by
          have : (len + k) * te.size ≤ c' * te.size := Nat.mul_le_mul_right _ hg
          rw [Nat.add_mul] at this
          rw [hvl, hlen, hasz]; omega
        have hst := run_storeCells_at (P := P) p.b (p.o + off + len * te.size) ety vals 0 arr w hblk (by omega) q2
        simp only [Nat.add_zero] at hst
        have hfc : (Builtin.firstCells te.size k (.slice ad k c)).run P w = .ok vals.toArray w := by
          cases ad with
          | none =>
            have : k = 0 := (q6 rfl).1
            subst this
            have : vals = [] := List.length_eq_zero_iff.1 (by rw [hvl, hlen]; simp)
            subst this
            simp [Builtin.firstCells]
          | some dd => exact run_firstCells_some w te.size k dd k c vals (by rw [hvl, hlen]) (q5 dd rfl)
        have hrun : (Builtin.append_ #[t, t] ty #[.slice (some ⟨p.b, p.o + off, none⟩) len c', .slice ad k c]).run P w = .ok (.slice (some ⟨p.b, p.o + off, none⟩) (len + k) c') (w.setRow p.b (arr.toList.take (p.o + off + len * te.size) ++ vals ++ arr.toList.drop (p.o + off + len * te.size + vals.length)).toArray) := by
          simp [Builtin.append_, run_underlying hu, sizeOf, typeInfo, g1, g3, Builtin.lenOf, hg, hfc, addr_add, hst]
        generalize hnew : (arr.toList.take (p.o + off + len * te.size) ++ vals ++ arr.toList.drop (p.o + off + len * te.size + vals.length)).toArray = arr' at hrun
        have hsz : arr'.size = arr.size := by rw [← hnew]; simp; omega
        have hget : ∀ i, i < len * te.size + vals.length → arr'[p.o + off + i]? = (olds ++ vals)[i]? := by
          intro i hi
          rw [← hnew]
          simp only [List.getElem?_toArray, List.append_assoc]
          have ht : (arr.toList.take (p.o + off + len * te.size)).length = p.o + off + len * te.size := by simp; omega
          by_cases c1 : i < len * te.size
          · rw [List.getElem?_append_left (by omega), List.getElem?_take_of_lt (by omega), List.getElem?_append_left (by omega)]
            simp only [Array.getElem?_toList]
            rw [ho3 i olds[i] (by rw [List.getElem?_eq_getElem (by omega)])]
            rw [List.getElem?_eq_getElem (by omega)]
          · rw [List.getElem?_append_right (by omega), ht, List.getElem?_append_left (by omega), List.getElem?_append_right (by omega), ho1]
            congr 1; omega
        refine ⟨_, _, upd (upd π r none) n (some (some ⟨p.b, p.o + off, p.tot - off, te.size⟩)), hrun, ?_, ⟨rfl, ?_⟩⟩
        · refine (hkill.world (w' := w.setRow p.b arr') (fun b => b = p.b) rfl rfl rfl (by simp) (fun b hb hnb => setRow_other _ _ _ _ hnb) (fun b hb => by rw [hb]; exact hA) hfree hmf).adopt n hf ⟨p.b, p.o + off, p.tot - off, te.size⟩ _ arr' ety hA (Nat.ne_of_gt hz) rfl (setRow_heap _ _ _ _ _ _ hblk) ?_ ?_ ?_ hcl2 hso2 hfree hmf
          · simp only [hsz, hasz]; omega
          · simp only [List.length_append, hlt2, hlen]
            have : (len + k) * te.size ≤ c' * te.size := Nat.mul_le_mul_right _ hg
            rw [Nat.add_mul] at this
            omega
          · intro i c hi
            simp only at hi ⊢
            have hil := (List.getElem?_eq_some_iff.1 hi).1
            obtain ⟨v2, e1, e2⟩ := hcs.get i c hi
            refine ⟨v2, ?_, e2⟩
            rw [hget i (by simp only [List.length_append, hlt2, hlen] at hil; rw [hvl, hlen]; exact hil)]
            exact e1
        · rw [upd_same]
          exact ⟨Nat.ne_of_gt hz, _, c', rfl, hg, fun k hk => (by cases hk), .inr ⟨by simp, by simp only; omega⟩⟩
    · -- a new block
      have hbk : len + k ≤ (len + k) * te.bytes := Nat.le_mul_of_pos_right _ hb
      have hk0 : k ≠ 0 := by omega
      cases ad with
      | none => exact absurd (q6 rfl).1 hk0
      | some dd =>
        have hocell : ∀ (j : Nat) u, olds[j]? = some u → w.cell? (ad'.add j) = some u := by
          intro j u hj
          have hjl : j < len * te.size := by have := (List.getElem?_eq_some_iff.1 hj).1; omega
          have hl0 : len ≠ 0 := by intro e; subst e; simp at hjl
          obtain ⟨rfl, _⟩ : ad' = ⟨p.b, p.o + off, none⟩ ∧ off + c' * p.esz ≤ p.tot := by
            rcases hor with e | e
            · exact absurd e.1 hl0
            · exact e
          rw [addr_add, cell_of_block hblk]
          exact ho3 j u hj
        have hgc := grownCap_ge w (len + k) c' e
        have hrun := run_append_grow w t ty e i z hu g1 g6 ad' len c' olds (by rw [ho1, g3]) hocell dd k c vals (by rw [hvl, hlen, g3]) (q5 dd rfl) (by omega) (by omega)
          (by rw [g4]; exact growslice_fits (by omega) hk2)
        rw [show olds.toArray ++ vals.toArray = (olds ++ vals).toArray by simp] at hrun
        refine ⟨_, _, _, hrun, hkill.grown hf _ (olds ++ vals) hcs hcl2 hso2 _ e te.size (Nat.ne_of_gt hz) (w.drawn + 1), ⟨rfl, ?_⟩⟩
        rw [upd_same]
        refine ⟨Nat.ne_of_gt hz, _, _, rfl, hgc, fun k hk => (by cases hk), .inr ⟨rfl, ?_⟩⟩
        simp only [zeroCells_size, hzs, List.length_append, ho1, hvl, hlen]
        rw [← Nat.add_mul, ← Nat.add_mul]
        have : len + k + (grownCap w (len + k) c' e - (len + k)) = grownCap w (len + k) c' e := by omega
        rw [this]
        omega

end
end Go.Proofs.YtfkcolodbjonkabDoor.Sh
