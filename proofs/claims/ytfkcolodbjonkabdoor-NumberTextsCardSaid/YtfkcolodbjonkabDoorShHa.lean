/- What more kinds of operations do, told of data: append where the capacity is known, copy, clear, cap. -/
import Derived.Test.YtfkcolodbjonkabDoorShH
import Derived.Lib.AppendZerosOnto
namespace Go.Proofs.YtfkcolodbjonkabDoor.Sh
open Go.RowKit
set_option linter.unusedVariables false
set_option linter.unusedSimpArgs false

def layAt (cs : List Cell) (off : Nat) (new : List Cell) : List Cell := cs.take off ++ new ++ cs.drop (off + new.length)

theorem layAt_length {cs : List Cell} {off : Nat} {new : List Cell} (h : off ≤ cs.length) : (layAt cs off new).length = max cs.length (off + new.length) := by
  unfold layAt
  simp only [List.length_append, List.length_take, List.length_drop]
  omega

theorem layAt_get {cs : List Cell} {off : Nat} {new : List Cell} (h : off ≤ cs.length) {i : Nat} {c : Cell} (hi : (layAt cs off new)[i]? = some c) :
    (∃ j, i = off + j ∧ new[j]? = some c) ∨ ((i < off ∨ off + new.length ≤ i) ∧ cs[i]? = some c) := by
  unfold layAt at hi
  have ht : (cs.take off).length = off := by simp; omega
  rw [List.append_assoc] at hi
  by_cases c1 : i < off
  · rw [List.getElem?_append_left (by omega), List.getElem?_take_of_lt c1] at hi
    exact .inr ⟨.inl c1, hi⟩
  · rw [List.getElem?_append_right (by omega), ht] at hi
    by_cases c2 : i < off + new.length
    · rw [List.getElem?_append_left (by omega)] at hi
      exact .inl ⟨i - off, by omega, hi⟩
    · rw [List.getElem?_append_right (by omega), List.getElem?_drop] at hi
      refine .inr ⟨.inr (by omega), ?_⟩
      rw [← hi]; congr 1; omega

section
variable {P : Program} {o : Oper} {w0 : Base} {A : Nat → Prop} {N : Nat} {Fr : Nat → Prop} {tm : Nat → Option SV} {hp : Nat → Option Row} {a : Act} {w : World} {m : Mem} {π : Plc} {n : Nat}

theorem RelAt.lay (P : Program) (h : RelAt P w0 A N Fr tm hp a w m π) {r : Nat} {row : Row} {p : Place} (hr : hp r = some row) (hp' : π r = some (some p)) (hz : p.esz ≠ 0)
    (off : Nat) (cs : List Cell) (vals : List Value) (hv : VL m π cs vals) (h1 : ∀ x ∈ vals, x.oneCell' = true) (hcl : ∀ c ∈ cs, c.cl Fr) (hso : ∀ c ∈ cs, c ≠ .un) (hoff : off ≤ row.cells.length) (htot : off + cs.length ≤ p.tot) :
    ∃ w', (storeCells ⟨p.b, p.o + off, none⟩ vals).run P w = .ok () w' ∧ RelAt P w0 A N Fr tm (upd hp r (some ⟨layAt row.cells off cs, row.esz⟩)) a w' m π := by
  have hrow := h.rows r row hr
  unfold RowOk at hrow
  rw [hp'] at hrow
  obtain ⟨g1, g2, arr, e, g3, g4, g5, g6⟩ := hrow
  replace g3 := g3.cells hz
  replace g4 := g4.1 hz
  replace g5 := g5.1 hz
  have hlen := hv.length
  have hrun := run_storeCells_at (P := P) p.b (p.o + off) e vals 0 arr w g3 (by omega) h1
  simp only [Nat.add_zero] at hrun
  refine ⟨_, hrun, ?_⟩
  generalize hnew : (arr.toList.take (p.o + off) ++ vals ++ arr.toList.drop (p.o + off + vals.length)).toArray = arr'
  have hsz : arr'.size = arr.size := by rw [← hnew]; simp; omega
  have hget : ∀ i, arr'[i]? = if i < p.o + off then arr[i]? else if i < p.o + off + vals.length then vals[i - (p.o + off)]? else arr[i]? := by
    intro i
    rw [← hnew]
    simp only [List.getElem?_toArray, List.append_assoc]
    have ht : (arr.toList.take (p.o + off)).length = p.o + off := by simp; omega
    by_cases c1 : i < p.o + off
    · rw [if_pos c1, List.getElem?_append_left (by omega), List.getElem?_take_of_lt c1]; simp
    · rw [if_neg c1, List.getElem?_append_right (by omega), ht]
      by_cases c2 : i < p.o + off + vals.length
      · rw [if_pos c2, List.getElem?_append_left (by omega)]
      · rw [if_neg c2, List.getElem?_append_right (by omega), List.getElem?_drop]
        simp only [Array.getElem?_toList]
        congr 1; omega
  refine { h with rows := fun q rw' hq => ?_, rcl := fun q rw' hq => ?_, rsol := fun q rw' hq => ?_, live := fun q hq => ?_, fresh := fun q hq => ?_, mok := fun ad v hv' => ?_, keep := ⟨h.keep.os, h.keep.tape, h.keep.output, by simpa using h.keep.size, fun b hb hA => ?_⟩ }
  · unfold upd at hq
    unfold RowOk
    by_cases e1 : q = r
    · subst e1
      simp only [↓reduceIte, Option.some.injEq] at hq
      subst hq
      rw [hp']
      refine ⟨g1, g2, arr', e, .mk hz (setRow_heap _ _ _ _ _ _ g3), ⟨fun _ => by rw [hsz]; exact g4, fun e0 => absurd e0 hz⟩, ⟨fun _ => by simp only [layAt_length hoff]; omega, fun e0 => absurd e0 hz⟩, fun i c hc => ?_⟩
      rcases layAt_get hoff hc with ⟨j, rfl, hj⟩ | ⟨hi, hj⟩
      · obtain ⟨v, hv1, hv2⟩ := hv.get j c hj
        have hjl : j < cs.length := (List.getElem?_eq_some_iff.1 hj).1
        refine ⟨v, ?_, hv2⟩
        rw [hget, if_neg (by omega), if_pos (by omega)]
        rw [show p.o + (off + j) - (p.o + off) = j by omega]; exact hv1
      · obtain ⟨x, hx, hvx⟩ := g6 i c hj
        refine ⟨x, ?_, hvx⟩
        rw [hget]
        split
        · exact hx
        · split
          · omega
          · exact hx
    · simp only [e1, ↓reduceIte] at hq
      have := h.rows q rw' hq
      unfold RowOk at this
      cases hq2 : π q with
      | none => rw [hq2] at this; exact this
      | some x =>
        rw [hq2] at this
        cases x with
        | none => exact this
        | some p1 =>
          obtain ⟨k1, k2, arr1, e', k3, k4, k5, k6⟩ := this
          refine ⟨k1, k2, arr1, e', ?_, k4, k5, k6⟩
          exact k3.same (setRow_other _ _ _ _ (fun e2 => e1 (h.inj q r p1 p hq2 hp' e2)))
  · unfold upd at hq
    by_cases e1 : q = r
    · subst e1
      simp only [↓reduceIte, Option.some.injEq] at hq
      subst hq
      intro c hc
      obtain ⟨i, hi, rfl⟩ := List.mem_iff_getElem.1 hc
      rcases layAt_get hoff (List.getElem?_eq_getElem hi) with ⟨j, _, hj⟩ | ⟨_, hj⟩
      · exact hcl _ (List.mem_of_getElem? hj)
      · exact h.rcl q row hr _ (List.mem_of_getElem? hj)
    · simp only [e1, ↓reduceIte] at hq
      exact h.rcl q rw' hq
  · unfold upd at hq
    by_cases e1 : q = r
    · subst e1
      simp only [↓reduceIte, Option.some.injEq] at hq
      subst hq
      intro c hc
      obtain ⟨i, hi, rfl⟩ := List.mem_iff_getElem.1 hc
      rcases layAt_get hoff (List.getElem?_eq_getElem hi) with ⟨j, _, hj⟩ | ⟨_, hj⟩
      · exact hso _ (List.mem_of_getElem? hj)
      · exact h.rsol q row hr _ (List.mem_of_getElem? hj)
    · simp only [e1, ↓reduceIte] at hq
      exact h.rsol q rw' hq
  · unfold upd at hq
    by_cases e1 : q = r
    · simp [e1] at hq
    · simp only [e1, ↓reduceIte] at hq; exact h.live q hq
  · unfold upd
    have := h.fresh q hq
    by_cases e1 : q = r
    · subst e1; rw [hr] at this; cases this
    · simp only [e1, ↓reduceIte]; exact this
  · obtain ⟨k1, k2⟩ := h.mok ad v hv'
    refine ⟨k1, ?_⟩
    rw [cell_setRow_other _ _ _ _ (h.dis r p ad v hp' hv')]
    exact k2
  · rw [setRow_other _ _ _ _ (fun e2 => hA (by rw [e2]; exact g1))]
    exact h.keep.block b hb hA

theorem layAt_nil {cs : List Cell} {off : Nat} (h : off ≤ cs.length) : layAt cs off [] = cs := by
  unfold layAt
  simp

theorem upd_id {hp : Nat → Option Row} {r : Nat} {x : Option Row} (h : hp r = x) : upd hp r x = hp := by
  funext q
  unfold upd
  split
  · rename_i e; rw [e, h]
  · rfl

theorem VL.take {m : Mem} {π : Plc} {cs : List Cell} {vs : List Value} (h : VL m π cs vs) (k : Nat) : VL m π (cs.take k) (vs.take k) := by
  have hl := h.length
  refine VL.of (by simp [hl]) (fun i c v hi hv => ?_)
  have hik : i < k := by have := (List.getElem?_eq_some_iff.1 hi).1; simp at this; omega
  rw [List.getElem?_take_of_lt hik] at hi hv
  obtain ⟨v2, e1, e2⟩ := h.get i c hi
  rw [e1] at hv
  cases hv
  exact e2

theorem RelAt.layS (P : Program) (h : RelAt P w0 A N Fr tm hp a w m π) {r off len : Nat} {cap : Option Nat} {row : Row} {u : Value} (hy : VS m π (.one (.osl r off len cap)) u) (hr : hp r = some row)
    {sz d : Nat} (hes : row.esz = sz) (hoff : off + d ≤ row.cells.length) (cs : List Cell) (vals : List Value) (hv : VL m π cs vals) (h1 : ∀ x ∈ vals, x.oneCell' = true) (hcl : ∀ c ∈ cs, c.cl Fr) (hso : ∀ c ∈ cs, c ≠ .un)
    (c' : Nat) (base : Option Addr) (hu : u = .slice base len c') (hfit : d + cs.length ≤ c' * sz) :
    ∃ w', (match base with | some b => storeCells (b.add d) vals | none => (pure () : Sem Unit)).run P w = .ok () w' ∧ RelAt P w0 A N Fr tm (upd hp r (some ⟨layAt row.cells (off + d) cs, row.esz⟩)) a w' m π := by
  have hlen := hv.length
  by_cases h0 : cs = []
  · subst h0
    have : vals = [] := List.length_eq_zero_iff.1 (by simpa using hlen)
    subst this
    refine ⟨w, ?_, ?_⟩
    · cases base <;> simp [storeCells]
    · rw [layAt_nil hoff]
      rw [upd_id (by rw [hr])]
      exact h
  · have hpos : 0 < cs.length := List.length_pos_iff.2 h0
    rcases osl_at h hy hr with ⟨_, _, _, ad, e1⟩ | ⟨p, ad, cc, hπ, e1, hlc, hpz, hor⟩
    · rw [hu] at e1
      cases e1
      rw [Nat.zero_mul] at hfit
      omega
    · rw [hu] at e1
      cases e1
      have hrow := h.rows r row hr
      unfold RowOk at hrow
      rw [hπ] at hrow
      obtain ⟨_, hpe, _⟩ := hrow
      have hesz : p.esz = sz := by rw [hpe]; exact hes
      rcases hor with ⟨_, rfl⟩ | ⟨rfl, hcap⟩
      · rw [Nat.zero_mul] at hfit
        omega
      · rw [hesz] at hcap
        obtain ⟨w', e2, e3⟩ := h.lay P hr hπ hpz (off + d) cs vals hv h1 hcl hso hoff (by omega)
        refine ⟨w', ?_, e3⟩
        simp only [addr_add]
        rw [Nat.add_assoc]
        exact e2

def sCap (T : Tab) (get : Nat → Option Row) (t : Nat) (x : SV) : Res :=
  match slot t T.ts with
  | none => bad
  | some ti => match ti.kind, x with
    | .slice _, .one (.osl r off len (some c)) => ⟨live get r, V (.int .i64 c), [], 0⟩
    | .slice _, .one (.gsl cs off len (some c)) => ⟨True, V (.int .i64 c), [], 0⟩
    | .slice _, .one (.sc (.slice none 0 0)) => ⟨True, V (.int .i64 0), [], 0⟩
    | _, _ => bad

theorem sCap_ok (T : Tab) (hT : TOk P T) (h : RelAt P w0 A N Fr tm hp a w m π) {t : Nat} {x : Operand} {c : Call} (ho : o.op = .call c) (hc1 : c.callee = .builtin .cap) (hc2 : c.args = #[x]) (hc3 : c.argTypes = #[t]) {p : SV}
    (hp' : VS m π p (a.eval x)) (hn : (sCap T hp t p).need) : Good P o w0 A N Fr tm hp a w n (sCap T hp t p) := by
  have hex : ∀ r w', (Builtin.cap_ #[t] o.type #[a.eval x]).run P w = .ok r w' → (execOp a.eval o).run P w = .ok (.value r) w' := by
    intro r w' hr
    unfold execOp
    rw [ho]
    simp [resolve, hc1, hc2, hc3, invoke, builtin, hr]
  unfold sCap at hn ⊢
  cases hl : slot t T.ts with
  | none => rw [hl] at hn; exact hn.elim
  | some ti =>
    rw [hl] at hn
    simp only at hn ⊢
    have hti := hT t ti hl
    split at hn
    · rename_i e r off len k hk
      have hu := hti.slice hk
      obtain ⟨row, q0, hr, hq, hq2⟩ := live_row h hn
      rcases osl_at h hp' hr with ⟨hπ, rfl, _, ad, e1⟩ | ⟨pl, ad, cc, hπ, e1, hlc, hpz, hor⟩
      · have hvc := hp'.2
        rw [hπ] at hvc
        have h0 := hvc.2.1 k rfl
        subst h0
        refine good_val h (hex _ _ ?_) rfl
        rw [e1]
        simp [Builtin.cap_, run_underlying hu, goInt]
      · have hvc := hp'.2
        rw [hπ] at hvc
        obtain ⟨_, ad2, c2, e2, hlc2, hcc, _⟩ := hvc
        have h0 := hcc k rfl
        subst h0
        refine good_val h (hex _ _ ?_) rfl
        rw [e2]
        simp [Builtin.cap_, run_underlying hu, goInt]
    · rename_i e cs off len k hk
      have hu := hti.slice hk
      generalize hev : a.eval x = u at hp'
      cases hp' with
      | gnil _ _ _ hc =>
        have h0 := hc k rfl
        subst h0
        refine good_val h (hex _ _ ?_) rfl
        rw [hev]
        simp [Builtin.cap_, run_underlying hu, goInt]
      | gsl _ _ _ _ b oo cc ad vals hc hlc hm hv ha =>
        have h0 := hc k rfl
        subst h0
        refine good_val h (hex _ _ ?_) rfl
        rw [hev]
        simp [Builtin.cap_, run_underlying hu, goInt]
    · rename_i e hk
      have hu := hti.slice hk
      refine good_val h (hex _ _ ?_) rfl
      rw [(vs_sc hp').1]
      simp [Builtin.cap_, run_underlying hu, goInt]
    · exact hn.elim

def SV.upto (j : Nat) : SV → SV
  | .one (.osl r off len cap) => .one (.osl r off j none)
  | .one (.gsl cs off len cap) => .one (.gsl cs off j none)
  | x => x

theorem slc_upto (h : RelAt P w0 A N Fr tm hp a w m π) {x : SV} {v : Value} (hx : VS m π x v) (hcl : x.cl Fr) {sz : Nat} {xc : List Cell} {k : Nat} (hs : slc sz hp x = some (xc, k)) {j : Nat} (hj : j ≤ k) :
    ∃ ad c, v = .slice ad k c ∧ VS m π (x.upto j) (.slice ad j c) ∧ (x.upto j).cl Fr ∧ slc sz hp (x.upto j) = some (xc.take (j * sz), j) := by
  have hjk : j * sz ≤ k * sz := Nat.mul_le_mul_right _ hj
  cases x with
  | agg cs => cases hs
  | tup vs => cases hs
  | one cc =>
    cases cc with
    | optr _ _ => cases hs
    | un => cases hs
    | mp _ _ => cases hs
    | gptr _ _ => cases hs
    | fn f caps => cases hs
    | sc u =>
      unfold slc at hs
      split at hs
      case h_3 heq =>
        cases heq
        cases hs
        cases hx
        have : j = 0 := by omega
        subst this
        exact ⟨none, 0, rfl, VG.sc _ rfl, hcl, by simp [slc, SV.upto]⟩
      case h_4 ad c heq =>
        cases heq
        cases hs
        cases hx
        have : j = 0 := by omega
        subst this
        exact ⟨some ad, c, rfl, VG.sc _ rfl, hcl, by simp [slc, SV.upto]⟩
      case h_5 => cases hs
      all_goals (rename_i heq; cases heq)
    | gsl cs off len cap =>
      simp only [slc, Option.some.injEq, Prod.mk.injEq] at hs
      obtain ⟨rfl, rfl⟩ := hs
      have e : slc sz hp (SV.upto j (.one (.gsl cs off len cap))) = some (((cs.drop off).take (len * sz)).take (j * sz), j) := by
        simp only [SV.upto, slc, List.take_take]
        rw [Nat.min_eq_left hjk]
      cases hx with
      | gnil _ _ _ hc =>
        have : j = 0 := by omega
        subst this
        exact ⟨none, 0, rfl, VG.gnil _ _ _ (fun k hk => by cases hk), trivial, e⟩
      | gsl _ _ _ _ b o c ad vals hc hlc hm hv ha =>
        refine ⟨some ad, c, rfl, VG.gsl cs off j none b o c ad vals (fun k hk => by cases hk) (by omega) hm hv ?_, trivial, e⟩
        rcases ha with h1 | h1
        · exact .inl h1
        · exact .inr (by omega)
    | osl r off len cap =>
      simp only [slc] at hs
      cases hr : hp r with
      | none => rw [hr] at hs; cases hs
      | some row =>
        rw [hr] at hs
        simp only [Option.some.injEq, Prod.mk.injEq] at hs
        obtain ⟨rfl, rfl⟩ := hs
        have e : slc sz hp (SV.upto j (.one (.osl r off len cap))) = some (((row.cells.drop off).take (len * sz)).take (j * sz), j) := by
          simp only [SV.upto, slc, hr, List.take_take]
          rw [Nat.min_eq_left hjk]
        rcases osl_at h hx hr with ⟨hπ, hl0, _, ad, e1⟩ | ⟨pl, ad, cc, hπ, e1, hlc, hpz, hor⟩
        · have : j = 0 := by omega
          subst this
          subst hl0
          refine ⟨ad, 0, e1, ⟨rfl, ?_⟩, hcl, e⟩
          rw [hπ]
          exact ⟨rfl, (fun k hk => by cases hk), ad, rfl⟩
        · refine ⟨some ad, cc, e1, ⟨rfl, ?_⟩, hcl, e⟩
          rw [hπ]
          refine ⟨hpz, ad, cc, rfl, by omega, (fun k hk => by cases hk), ?_⟩
          rcases hor with ⟨h1, h2⟩ | h1
          · exact .inl ⟨by omega, h2⟩
          · exact .inr h1

def sCopy (T : Tab) (get : Nat → Option Row) (t : Nat) (x y : SV) : Res :=
  match slot t T.ts with
  | none => bad
  | some ti =>
    (match ti.kind with
    | .slice e =>
      (match slot e T.ts with
      | none => bad
      | some te =>
        (match slc te.size get y with
        | none => bad
        | some (yc, k) =>
          (match x with
          | .one (.osl r off len cap) =>
            (match get r with
            | none => bad
            | some row => ⟨min k len * te.size ≤ yc.length ∧ 0 < te.size ∧ row.esz = te.size ∧ off ≤ row.cells.length, V (.int .i64 (min k len : Nat)), [(r, some ⟨layAt row.cells off (yc.take (min k len * te.size)), row.esz⟩)], 0⟩)
          | _ => bad)))
    | _ => bad)

theorem sCopy_ok (T : Tab) (hT : TOk P T) (h : RelAt P w0 A N Fr tm hp a w m π) {t t' : Nat} {x y : Operand} {c : Call} (ho : o.op = .call c) (hc1 : c.callee = .builtin .copy) (hc2 : c.args = #[x, y]) (hc3 : c.argTypes = #[t, t']) {p q : SV}
    (hp' : VS m π p (a.eval x)) (hq' : VS m π q (a.eval y)) (hcq : q.cl Fr) (hn : (sCopy T hp t p q).need) : Good P o w0 A N Fr tm hp a w n (sCopy T hp t p q) := by
  have hex : ∀ r w', (Builtin.copy_ #[t, t'] o.type #[a.eval x, a.eval y]).run P w = .ok r w' → (execOp a.eval o).run P w = .ok (.value r) w' := by
    intro r w' hr
    unfold execOp
    rw [ho]
    simp [resolve, hc1, hc2, hc3, invoke, builtin, hr]
  unfold sCopy at hn ⊢
  cases hl : slot t T.ts with
  | none => rw [hl] at hn; exact hn.elim
  | some ti =>
    rw [hl] at hn
    simp only at hn ⊢
    cases hk : ti.kind with
    | slice e =>
      rw [hk] at hn
      simp only at hn ⊢
      cases hl2 : slot e T.ts with
      | none => rw [hl2] at hn; exact hn.elim
      | some te =>
        rw [hl2] at hn
        simp only at hn ⊢
        cases hs : slc te.size hp q with
        | none => rw [hs] at hn; exact hn.elim
        | some xk =>
          obtain ⟨yc, k⟩ := xk
          rw [hs] at hn
          simp only at hn ⊢
          split at hn
          · rename_i r off len cap
            cases hr : hp r with
            | none => rw [hr] at hn; exact hn.elim
            | some row =>
              rw [hr] at hn
              obtain ⟨n1, n2, n3, n4⟩ := hn
              have hti := hT t ti hl
              have hte := hT e te hl2
              have hu := hti.slice hk
              obtain ⟨ad, c, ev, u1, u2, u3⟩ := slc_upto h hq' hcq hs (Nat.min_le_left k len)
              obtain ⟨ad', c'', vals, ev', q1, q2, q3, q4, q5, q6, q7⟩ := slc_ok h u1 u2 u3 (by rw [List.length_take]; omega) n2
              cases ev'
              have hvl := q1.length
              have hsl : ∃ base c', a.eval x = .slice base len c' ∧ len ≤ c' := by
                rcases osl_at h hp' hr with ⟨_, rfl, _, ad, e1⟩ | ⟨pl, ad, cc, hπ, e1, hlc, hpz, hor⟩
                · exact ⟨ad, 0, e1, Nat.le_refl _⟩
                · exact ⟨some ad, cc, e1, hlc⟩
              obtain ⟨base, c', ex, hlc⟩ := hsl
              have hml : min k len * te.size ≤ c' * te.size := Nat.mul_le_mul_right _ (by omega)
              obtain ⟨w', e1, e2⟩ := h.layS P hp' hr n3 (d := 0) (by simpa using n4) (yc.take (min k len * te.size)) vals q1 q2 q3 q4 c' base ex (by simp; omega)
              have hfc : (Builtin.firstCells te.size (min k len) (.slice ad k c)).run P w = .ok vals.toArray w := by
                cases ad with
                | none =>
                  have h0 := (q6 rfl).1
                  have : vals = [] := List.length_eq_zero_iff.1 (by rw [hvl, List.length_take, h0]; simp)
                  subst this
                  simp [Builtin.firstCells]
                | some dd => exact run_firstCells_some w te.size (min k len) dd k c vals (by rw [hvl, List.length_take]; omega) (fun j u hj => q5 dd rfl j u hj)
              refine ⟨_, w', m, π, .inl (hex (goInt ((min k len : Nat) : Int)) w' ?_), ?_, ?_, trivial⟩
              · rw [ex, ev]
                have hmin : Nat.min k len = min k len := rfl
                cases base with
                | none => simp only [Nat.add_zero] at e1; simp at e1; subst e1; simp [Builtin.copy_, run_underlying hu, hte.size, Builtin.lenOf, hmin, hfc]
                | some b =>
                  have hb0 : b.add 0 = b := by unfold Addr.add; simp
                  simp only [hb0] at e1
                  simp [Builtin.copy_, run_underlying hu, hte.size, Builtin.lenOf, hmin, hfc, e1]
              · simp only [Nat.add_zero] at e2
                exact e2.frmono (fun r hr => hr.1)
              · exact VG.sc (.int .i64 ((min k len : Nat) : Int)) rfl
          · exact hn.elim
    | _ => rw [hk] at hn; exact hn.elim

def sClear (T : Tab) (get : Nat → Option Row) (t : Nat) (x : SV) : Res :=
  match slot t T.ts with
  | none => bad
  | some ti =>
    (match ti.kind with
    | .slice e =>
      (match slot e T.ts with
      | none => bad
      | some te =>
        (match x with
        | .one (.osl r off len cap) =>
          (match get r with
          | none => bad
          | some row => ⟨0 < te.size ∧ row.esz = te.size ∧ off ≤ row.cells.length, .tup [], [(r, some ⟨layAt row.cells off (zeros te.size te.zero len), row.esz⟩)], 0⟩)
        | _ => bad))
    | _ => bad)

def sAppendK (T : Tab) (get : Nat → Option Row) (t : Nat) (s x : SV) (n : Nat) : Res :=
  match slot t T.ts with
  | none => bad
  | some ti =>
    (match ti.kind with
    | .slice e =>
      (match slot e T.ts with
      | none => bad
      | some te =>
        (match slc te.size get x with
        | none => bad
        | some (xc, k) =>
          (match s with
          | .one (.osl r off len (some c)) =>
            (match get r with
            | none => bad
            | some row => if len + k ≤ c
              then ⟨xc.length = k * te.size ∧ 0 < te.size ∧ row.esz = te.size ∧ off + len * te.size ≤ row.cells.length, .one (.osl r off (len + k) (some c)), [(r, some ⟨layAt row.cells (off + len * te.size) xc, row.esz⟩)], 1⟩
              else ⟨xc.length = k * te.size ∧ 0 < te.size ∧ 0 < te.bytes ∧ (len + k) * te.bytes ≤ 140737488355328 ∧ row.esz = te.size ∧ off + len * te.size ≤ row.cells.length,
                .one (.osl n 0 (len + k) none), [(n, some ⟨(row.cells.drop off).take (len * te.size) ++ xc, te.size⟩)], 1⟩)
          | _ => bad)))
    | _ => bad)

theorem osl_val (h : RelAt P w0 A N Fr tm hp a w m π) {r off len : Nat} {cap : Option Nat} {v : Value} {row : Row} (hx : VS m π (.one (.osl r off len cap)) v) (hr : hp r = some row) :
    ∃ base c', v = .slice base len c' ∧ len ≤ c' ∧ (base = none → len = 0) ∧ ∀ k, cap = some k → c' = k := by
  rcases osl_at h hx hr with ⟨hπ, rfl, _, ad, e1⟩ | ⟨pl, ad, cc, hπ, e1, hlc, hpz, hor⟩
  · refine ⟨ad, 0, e1, Nat.le_refl _, fun _ => rfl, fun k hk => ?_⟩
    have hvc := hx.2
    rw [hπ] at hvc
    exact (hvc.2.1 k hk).symm
  · refine ⟨some ad, cc, e1, hlc, (fun e => by cases e), fun k hk => ?_⟩
    have hvc := hx.2
    rw [hπ] at hvc
    obtain ⟨_, ad2, c2, e2, hlc2, hcc, _⟩ := hvc
    rw [e1] at e2
    cases e2
    exact hcc k hk

theorem sClear_ok (T : Tab) (hT : TOk P T) (h : RelAt P w0 A N Fr tm hp a w m π) {t : Nat} {x : Operand} {c : Call} (ho : o.op = .call c) (hc1 : c.callee = .builtin .clear) (hc2 : c.args = #[x]) (hc3 : c.argTypes = #[t]) {p : SV}
    (hp' : VS m π p (a.eval x)) (hn : (sClear T hp t p).need) : Good P o w0 A N Fr tm hp a w n (sClear T hp t p) := by
  have hex : ∀ r w', (Builtin.clear_ #[t] o.type #[a.eval x]).run P w = .ok r w' → (execOp a.eval o).run P w = .ok (.value r) w' := by
    intro r w' hr
    unfold execOp
    rw [ho]
    simp [resolve, hc1, hc2, hc3, invoke, builtin, hr]
  unfold sClear at hn ⊢
  cases hl : slot t T.ts with
  | none => rw [hl] at hn; exact hn.elim
  | some ti =>
    rw [hl] at hn
    simp only at hn ⊢
    cases hk : ti.kind with
    | slice e =>
      rw [hk] at hn
      simp only at hn ⊢
      cases hl2 : slot e T.ts with
      | none => rw [hl2] at hn; exact hn.elim
      | some te =>
        rw [hl2] at hn
        simp only at hn ⊢
        split at hn
        · rename_i r off len cap
          cases hr : hp r with
          | none => rw [hr] at hn; exact hn.elim
          | some row =>
            rw [hr] at hn
            obtain ⟨n2, n3, n4⟩ := hn
            have hti := hT t ti hl
            have hte := hT e te hl2
            have hu := hti.slice hk
            obtain ⟨i, d, z, g1, g2, g3, g4, g5, g6, g7, g8, g9⟩ := hte.ex
            obtain ⟨q1, q2, q3, q4⟩ := zeros_vl (m := m) (π := π) (Fr := Fr) g8 n2 z.cells g7 g9 len
            obtain ⟨base, c', ex, hlc, hbn, _⟩ := osl_val h hp' hr
            have hzl : (zeros te.size te.zero len).length = len * te.size := by rw [← q1.length]; simp [size_madeCells]
            have hml : len * te.size ≤ c' * te.size := Nat.mul_le_mul_right _ hlc
            have hzs : z.cells.size = te.size := by rw [← Array.length_toList, g7, g8]
            obtain ⟨w', e1, e2⟩ := h.layS P hp' hr n3 (d := 0) (by simpa using n4) _ _ q1 q4 q2 q3 c' base ex (by rw [hzl]; omega)
            refine ⟨_, w', m, π, .inl (hex (.tuple #[]) w' ?_), ?_, ⟨#[], rfl, trivial⟩, trivial⟩
            · rw [ex]
              have hzc : Builtin.zeroCells z.cells len = madeCells z.cells (len * te.size) := by rw [← hzs]; rfl
              cases base with
              | none =>
                simp at e1; subst e1
                simp [Builtin.clear_, run_underlying hu]
              | some b =>
                have hb0 : b.add 0 = b := by unfold Addr.add; simp
                simp only [hb0] at e1
                cases len with
                | zero =>
                  have : madeCells z.cells (0 * te.size) = #[] := by simp [madeCells]
                  rw [this] at e1
                  simp [storeCells] at e1
                  subst e1
                  simp [Builtin.clear_, run_underlying hu]
                | succ len =>
                  simp [Builtin.clear_, run_underlying hu, zeroValue, typeInfo, g1, g6, hzc, e1]
            · simp only [Nat.add_zero] at e2
              exact e2.frmono (fun r hr => hr.1)
        · exact hn.elim
    | _ => rw [hk] at hn; exact hn.elim

theorem sAppendK_ok (T : Tab) (hT : TOk P T) (h : RelAt P w0 A N Fr tm hp a w m π) (hf : Fr n) {t : Nat} {x y : Operand} {c : Call} (ho : o.op = .call c) (hc1 : c.callee = .builtin .append) (hc2 : c.args = #[x, y]) (hc3 : c.argTypes = #[t, t]) {p q : SV}
    (hp' : VS m π p (a.eval x)) (hq' : VS m π q (a.eval y)) (hcq : q.cl Fr) (hcp : p.cl Fr) (hn : (sAppendK T hp t p q n).need) : Good P o w0 A N Fr tm hp a w n (sAppendK T hp t p q n) := by
  have hex : ∀ r w', (Builtin.append_ #[t, t] o.type #[a.eval x, a.eval y]).run P w = .ok r w' → (execOp a.eval o).run P w = .ok (.value r) w' := by
    intro r w' hr
    unfold execOp
    rw [ho]
    simp [resolve, hc1, hc2, hc3, invoke, builtin, hr]
  unfold sAppendK at hn ⊢
  cases hl : slot t T.ts with
  | none => rw [hl] at hn; exact hn.elim
  | some ti =>
    rw [hl] at hn
    simp only at hn ⊢
    cases hk : ti.kind with
    | slice e =>
      rw [hk] at hn
      simp only at hn ⊢
      cases hl2 : slot e T.ts with
      | none => rw [hl2] at hn; exact hn.elim
      | some te =>
        rw [hl2] at hn
        simp only at hn ⊢
        cases hs : slc te.size hp q with
        | none => rw [hs] at hn; exact hn.elim
        | some xk =>
          obtain ⟨xc, k⟩ := xk
          rw [hs] at hn
          simp only at hn ⊢
          split at hn
          · rename_i r off len cp
            cases hr : hp r with
            | none => rw [hr] at hn; exact hn.elim
            | some row =>
              rw [hr] at hn
              simp only at hn ⊢
              have hti := hT t ti hl
              have hte := hT e te hl2
              have hu := hti.slice hk
              obtain ⟨i, d, z, g1, g2, g3, g4, g5, g6, g7, g8, g9⟩ := hte.ex
              obtain ⟨base, c', ex, hlc, hbn, hcp'⟩ := osl_val h hp' hr
              have hcc := hcp' cp rfl
              subst hcc
              by_cases hle : len + k ≤ c'
              · rw [if_pos hle] at hn ⊢
                obtain ⟨n1, n2, n3, n4⟩ := hn
                obtain ⟨ad, c, vals, ev, q1, q2, q3, q4, q5, q6, q7⟩ := slc_ok h hq' hcq hs n1 n2
                have hvl := q1.length
                have hml : (len + k) * te.size ≤ c' * te.size := Nat.mul_le_mul_right _ hle
                rw [Nat.add_mul] at hml
                obtain ⟨w', e1, e2⟩ := h.layS P hp' hr n3 (d := len * te.size) n4 xc vals q1 q2 q3 q4 c' base ex (by rw [n1]; omega)
                have hfc : (Builtin.firstCells te.size k (.slice ad k c)).run P w = .ok vals.toArray w := by
                  cases ad with
                  | none =>
                    have : k = 0 := (q6 rfl).1
                    subst this
                    have : vals = [] := List.length_eq_zero_iff.1 (by rw [hvl, n1]; simp)
                    subst this
                    simp [Builtin.firstCells]
                  | some dd => exact run_firstCells_some w te.size k dd k c vals (by rw [hvl, n1]) (q5 dd rfl)
                refine ⟨_, w', m, π, .inl (hex (.slice base (len + k) c') w' ?_), ?_, ⟨rfl, ?_⟩, ?_⟩
                · rw [ex, ev]
                  cases base with
                  | none =>
                    simp at e1; subst e1
                    simp [Builtin.append_, run_underlying hu, sizeOf, typeInfo, g1, g3, Builtin.lenOf, hle, hfc]
                  | some b =>
                    simp only at e1
                    simp [Builtin.append_, run_underlying hu, sizeOf, typeInfo, g1, g3, Builtin.lenOf, hle, hfc, e1]
                · exact e2.frmono (fun r hr => hr.1)
                · rcases osl_at h hp' hr with ⟨hπ, hl0, _, ad', e3⟩ | ⟨pl, ad', cc, hπ, e3, hlc', hpz, hor⟩
                  · rw [hπ]
                    rw [ex] at e3
                    cases e3
                    exact ⟨by omega, fun kk hkk => by cases hkk; rfl, base, by rw [show 0 + k = 0 by omega]⟩
                  · rw [hπ]
                    rw [ex] at e3
                    cases e3
                    refine ⟨hpz, ad', c', rfl, hle, fun kk hkk => by cases hkk; rfl, ?_⟩
                    rcases hor with ⟨h1, h2⟩ | h1
                    · exact .inl ⟨by omega, h2⟩
                    · exact .inr h1
                · exact SV.cl.mono (s := .one (.osl r off (len + k) (some c'))) (fun r hr => hr.1) hcp
              · rw [if_neg hle] at hn ⊢
                obtain ⟨n1, n2, n3, n4, n5, n6⟩ := hn
                obtain ⟨ad, c, vals, ev, q1, q2, q3, q4, q5, q6, q7⟩ := slc_ok h hq' hcq hs n1 n2
                have hvl := q1.length
                have hs2 : slc te.size hp (.one (.osl r off len (some c'))) = some ((row.cells.drop off).take (len * te.size), len) := by simp only [slc, hr]
                obtain ⟨ad2, c2, olds, ev2, o1, o2, o3, o4, o5, o6, o7⟩ := slc_ok h hp' hcp hs2 (by simp; omega) n2
                have hol := o1.length
                rw [ex] at ev2
                cases ev2
                have hk0 : k ≠ 0 := by omega
                have hzs : z.cells.size = te.size := by rw [← Array.length_toList, g7, g8]
                have hbk : len + k ≤ (len + k) * te.bytes := Nat.le_mul_of_pos_right _ n3
                have hlo : olds.length = len * te.size := by rw [hol]; simp; omega
                cases ad with
                | none => exact absurd (q6 rfl).1 hk0
                | some dd =>
                  have hcs : VL m π ((row.cells.drop off).take (len * te.size) ++ xc) (olds ++ vals) := by
                    refine VL.of (by simp [hol, hvl]) (fun i c v hi hv' => ?_)
                    rw [List.getElem?_append] at hi hv'
                    by_cases hlt : i < ((row.cells.drop off).take (len * te.size)).length
                    · rw [if_pos hlt] at hi
                      rw [if_pos (by omega)] at hv'
                      obtain ⟨v2, e1, e2⟩ := o1.get i c hi
                      rw [e1] at hv'; cases hv'; exact e2
                    · rw [if_neg hlt] at hi
                      rw [if_neg (by omega), hol] at hv'
                      obtain ⟨v2, e1, e2⟩ := q1.get _ c hi
                      rw [e1] at hv'; cases hv'; exact e2
                  have hgc := grownCap_ge w (len + k) c' e
                  have hnews := q5 dd rfl
                  have hrun : (Builtin.append_ #[t, t] o.type #[a.eval x, a.eval y]).run P w = .ok (.slice (some ⟨w.heap.size, 0, none⟩) (len + k) (grownCap w (len + k) c' e)) (w.drew.alloc (.cells ((olds ++ vals).toArray ++ Builtin.zeroCells z.cells (grownCap w (len + k) c' e - (len + k))) e)) := by
                    rw [ex, ev]
                    have hfo : (Builtin.firstCells i.size len (.slice base len c')).run P w.drew = .ok olds.toArray w.drew := by
                      cases base with
                      | none =>
                        have : len = 0 := hbn rfl
                        subst this
                        have : olds = [] := List.length_eq_zero_iff.1 (by rw [hlo]; simp)
                        subst this
                        simp [Builtin.firstCells]
                      | some bb => exact run_firstCells_some w.drew i.size len bb len c' olds (by rw [hlo, g3]) (fun j u hj => by simpa using o5 bb rfl j u hj)
                    exact run_append_grow_src w t t o.type e i z hu g1 g6 base len c' olds hfo _ k vals (Src.ofSlice w hu dd k c vals (by rw [hvl, n1, g3]) hnews q2) (by omega) (by omega) (by rw [g4]; exact growslice_fits (by omega) n4)
                  refine ⟨_, _, _, _, .inl (hex _ _ hrun), frm (h.grown hf _ (olds ++ vals) hcs ?_ ?_ _ e te.size (Nat.ne_of_gt n2) (w.drawn + 1)) (Nat.le_refl _), ⟨rfl, ?_⟩, ?_⟩
                  · intro c hc
                    rcases List.mem_append.1 hc with hc | hc
                    · exact o3 c hc
                    · exact q3 c hc
                  · intro c hc
                    rcases List.mem_append.1 hc with hc | hc
                    · exact o4 c hc
                    · exact q4 c hc
                  · rw [upd_same]
                    refine ⟨Nat.ne_of_gt n2, _, _, rfl, hgc, fun k hk => (by cases hk), .inr ⟨rfl, ?_⟩⟩
                    simp only [zeroCells_size, hzs, List.length_append, hlo, hvl, n1]
                    rw [← Nat.add_mul, ← Nat.add_mul]
                    have : len + k + (grownCap w (len + k) c' e - (len + k)) = grownCap w (len + k) c' e := by omega
                    rw [this]
                    omega
                  · exact fun hq => hq.2 ⟨Nat.le_refl _, by simp only; omega⟩
          · exact hn.elim
    | _ => rw [hk] at hn; exact hn.elim

def sAppendZ (T : Tab) (get : Nat → Option Row) (t t' : Nat) (s x : SV) (n : Nat) : Res :=
  match slot t T.ts, slot t' T.ts with
  | some ti, some tj =>
    (match ti.kind, tj.kind with
    | .slice e, .int _ =>
      (match slot e T.ts with
      | none => bad
      | some te =>
        (match s, x with
        | .one (.osl r off len (some c)), .one (.sc (.int _ j)) =>
          (match get r with
            | none => bad
            | some row => ⟨0 < j ∧ c < len + j.toNat ∧ 0 < te.size ∧ 0 < te.bytes ∧ (len + j.toNat) * te.bytes ≤ 140737488355328 ∧ row.esz = te.size ∧ off + len * te.size ≤ row.cells.length,
                .one (.osl n 0 (len + j.toNat) none), [(n, some ⟨(row.cells.drop off).take (len * te.size) ++ zeros te.size te.zero j.toNat, te.size⟩)], 1⟩)
        | _, _ => bad))
    | _, _ => bad)
  | _, _ => bad

theorem sAppendZ_ok (T : Tab) (hT : TOk P T) (h : RelAt P w0 A N Fr tm hp a w m π) (hf : Fr n) {t t' : Nat} {x y : Operand} {c : Call} (ho : o.op = .call c) (hc1 : c.callee = .builtin .append) (hc2 : c.args = #[x, y]) (hc3 : c.argTypes = #[t, t']) {p q : SV}
    (hp' : VS m π p (a.eval x)) (hq' : VS m π q (a.eval y)) (hcp : p.cl Fr) (hn : (sAppendZ T hp t t' p q n).need) : Good P o w0 A N Fr tm hp a w n (sAppendZ T hp t t' p q n) := by
  have hex : ∀ r w', (Builtin.append_ #[t, t'] o.type #[a.eval x, a.eval y]).run P w = .ok r w' → (execOp a.eval o).run P w = .ok (.value r) w' := by
    intro r w' hr
    unfold execOp
    rw [ho]
    simp [resolve, hc1, hc2, hc3, invoke, builtin, hr]
  unfold sAppendZ at hn ⊢
  split at hn
  · rename_i ti tj hl hlj
    split at hn
    · rename_i e kn hk hkj
      cases hl2 : slot e T.ts with
      | none => rw [hl2] at hn; exact hn.elim
      | some te =>
        rw [hl2] at hn
        simp only at hn ⊢
        split at hn
        · rename_i r off len c' kq j
          cases hr : hp r with
          | none => rw [hr] at hn; exact hn.elim
          | some row =>
            rw [hr] at hn
            simp only at hn ⊢
            obtain ⟨n0, n1, n2, n3, n4, n5, n6⟩ := hn
            have hti := hT t ti hl
            have htj := hT t' tj hlj
            have hte := hT e te hl2
            have hu := hti.slice hk
            have huj := htj.int hkj
            obtain ⟨i, d, z, g1, g2, g3, g4, g5, g6, g7, g8, g9⟩ := hte.ex
            obtain ⟨base, cc, ex, hlc, hbn, hcp'⟩ := osl_val h hp' hr
            have hcc := hcp' c' rfl
            subst hcc
            obtain ⟨k, rfl⟩ : ∃ k : Nat, j = k := ⟨j.toNat, by omega⟩
            simp only [Int.toNat_natCast] at *
            have hs2 : slc te.size hp (.one (.osl r off len (some cc))) = some ((row.cells.drop off).take (len * te.size), len) := by simp only [slc, hr]
            obtain ⟨ad2, c2, olds, ev2, o1, o2, o3, o4, o5, o6, o7⟩ := slc_ok h hp' hcp hs2 (by simp; omega) n2
            have hol := o1.length
            rw [ex] at ev2
            cases ev2
            have ey := (vs_sc hq').1
            have hzs : z.cells.size = te.size := by rw [← Array.length_toList, g7, g8]
            have hbk : len + k ≤ (len + k) * te.bytes := Nat.le_mul_of_pos_right _ n3
            have hlo : olds.length = len * te.size := by rw [hol]; simp; omega
            obtain ⟨q1, q2, q3, q4⟩ := zeros_vl (m := m) (π := π) (Fr := Fr) g8 n2 z.cells g7 g9 k
            have hzc : Builtin.zeroCells z.cells k = madeCells z.cells (k * te.size) := by rw [← hzs]; rfl
            have hkb : k * i.bytes ≤ (len + k) * te.bytes := by rw [g4]; exact Nat.mul_le_mul_right _ (by omega)
            have hfo : (Builtin.firstCells i.size len (.slice base len cc)).run P w.drew = .ok olds.toArray w.drew := by
              cases base with
              | none =>
                have : len = 0 := hbn rfl
                subst this
                have : olds = [] := List.length_eq_zero_iff.1 (by rw [hlo]; simp)
                subst this
                simp [Builtin.firstCells]
              | some bb => exact run_firstCells_some w.drew i.size len bb len cc olds (by rw [hlo, g3]) (fun j u hj => by simpa using o5 bb rfl j u hj)
            have hrun := Go.Lib.run_append_grow_zeros w t t' o.type e i z kq kn hu huj g1 g6 base len cc olds hfo k (by omega) (by rw [g3]; exact n2) n1 (by omega) (by omega) (by rw [g4]; exact growslice_fits (by omega) n4)
            rw [← ex, ← ey, hzc] at hrun
            rw [show olds.toArray ++ madeCells z.cells (k * te.size) = (olds ++ (madeCells z.cells (k * te.size)).toList).toArray by simp] at hrun
            have hgc := grownCap_ge w (len + k) cc e
            have hcs : VL m π ((row.cells.drop off).take (len * te.size) ++ zeros te.size te.zero k) (olds ++ (madeCells z.cells (k * te.size)).toList) := by
              refine VL.of (by simp only [List.length_append, hol, q1.length]) (fun i c v hi hv' => ?_)
              rw [List.getElem?_append] at hi hv'
              by_cases hlt : i < ((row.cells.drop off).take (len * te.size)).length
              · rw [if_pos hlt] at hi
                rw [if_pos (by omega)] at hv'
                obtain ⟨v2, e1, e2⟩ := o1.get i c hi
                rw [e1] at hv'; cases hv'; exact e2
              · rw [if_neg hlt] at hi
                rw [if_neg (by omega), hol] at hv'
                obtain ⟨v2, e1, e2⟩ := q1.get _ c hi
                rw [e1] at hv'; cases hv'; exact e2
            refine ⟨_, _, _, _, .inl (hex _ _ hrun), frm (h.grown hf _ _ hcs ?_ ?_ _ e te.size (Nat.ne_of_gt n2) (w.drawn + 1)) (Nat.le_refl _), ⟨rfl, ?_⟩, ?_⟩
            · intro c hc
              rcases List.mem_append.1 hc with hc | hc
              · exact o3 c hc
              · exact q2 c hc
            · intro c hc
              rcases List.mem_append.1 hc with hc | hc
              · exact o4 c hc
              · exact q3 c hc
            · rw [upd_same]
              refine ⟨Nat.ne_of_gt n2, _, _, rfl, hgc, fun k hk => (by cases hk), .inr ⟨rfl, ?_⟩⟩
              simp only [zeroCells_size, hzs, List.length_append, hlo, Array.length_toList, size_madeCells]
              rw [← Nat.add_mul, ← Nat.add_mul]
              have : len + k + (grownCap w (len + k) cc e - (len + k)) = grownCap w (len + k) cc e := by omega
              rw [this]
              omega
            · exact fun hq => hq.2 ⟨Nat.le_refl _, by simp only; omega⟩
        · exact hn.elim
    · exact hn.elim
  · exact hn.elim

def sAppend1 (T : Tab) (get : Nat → Option Row) (t : Nat) (s x : SV) (n : Nat) : Res :=
  match s with
  | .one (.osl r off len (some (c + 1))) => sAppendK T get t s x n
  | _ => sAppend T get t s x n

theorem sAppend1_ok (T : Tab) (hT : TOk P T) (h : RelAt P w0 A N Fr tm hp a w m π) (hf : Fr n) {t : Nat} {x y : Operand} {c : Call} (ho : o.op = .call c) (hc1 : c.callee = .builtin .append) (hc2 : c.args = #[x, y]) (hc3 : c.argTypes = #[t, t]) {p q : SV}
    (hp' : VS m π p (a.eval x)) (hq' : VS m π q (a.eval y)) (hcq : q.cl Fr) (hcp : p.cl Fr) (hn : (sAppend1 T hp t p q n).need) : Good P o w0 A N Fr tm hp a w n (sAppend1 T hp t p q n) := by
  unfold sAppend1 at hn ⊢
  split at hn
  · exact sAppendK_ok T hT h hf ho hc1 hc2 hc3 hp' hq' hcq hcp hn
  · exact sAppend_ok T hT h hf ho hc1 hc2 hc3 hp' hq' hcq hn

theorem slc_loc {sz : Nat} {get get' : Nat → Option Row} {x : SV} (h : ∀ r ∈ x.ref, get r = get' r) : slc sz get x = slc sz get' x := by
  cases x with
  | one c =>
    cases c with
    | osl r off len cap => simp only [slc, h r (by simp [SV.ref])]
    | sc u => unfold slc; split <;> first | rfl | (rename_i e; cases e)
    | _ => rfl
  | _ => rfl

section
variable {get get' : Nat → Option Row}
theorem sCap_loc (T : Tab) (t : Nat) {x : SV} (hx : ∀ r ∈ x.ref, get r = get' r) : sCap T get t x = sCap T get' t x := by
  unfold sCap
  split
  · rfl
  · split <;> first | rfl | skip
    rename_i r off len c _
    have hl : live get r = live get' r := by simp only [live, hx r (by simp [SV.ref])]
    rw [hl]
theorem sClear_loc (T : Tab) (t : Nat) {x : SV} (hx : ∀ r ∈ x.ref, get r = get' r) : sClear T get t x = sClear T get' t x := by
  unfold sClear
  split
  · rfl
  · split
    · split
      · rfl
      · split <;> first | rfl | skip
        rename_i r off len cap
        rw [hx r (by simp [SV.ref])]
    · rfl
theorem sCopy_loc (T : Tab) (t : Nat) {x y : SV} (hx : ∀ r ∈ x.ref, get r = get' r) (hy : ∀ r ∈ y.ref, get r = get' r) : sCopy T get t x y = sCopy T get' t x y := by
  unfold sCopy
  simp only [slc_loc hy]
  split
  · rfl
  · split
    · split
      · rfl
      · split
        · rfl
        · split <;> first | rfl | skip
          rename_i r off len cap
          rw [hx r (by simp [SV.ref])]
    · rfl
theorem sAppend_loc (T : Tab) (t n : Nat) {x y : SV} (hx : ∀ r ∈ x.ref, get r = get' r) (hy : ∀ r ∈ y.ref, get r = get' r) : sAppend T get t x y n = sAppend T get' t x y n := by
  simp only [sAppend, slc_loc hy]
  split
  · rfl
  · split
    · split
      · rfl
      · split
        · rfl
        · split <;> first | rfl | skip
          · rename_i r off len
            have hl : live get r = live get' r := by simp only [live, hx r (by simp [SV.ref])]
            rw [hl]
          · rename_i r off len cap _
            rw [hx r (by simp [SV.ref])]
    · rfl
theorem sAppendK_loc (T : Tab) (t n : Nat) {x y : SV} (hx : ∀ r ∈ x.ref, get r = get' r) (hy : ∀ r ∈ y.ref, get r = get' r) : sAppendK T get t x y n = sAppendK T get' t x y n := by
  simp only [sAppendK, slc_loc hy]
  split
  · rfl
  · split
    · split
      · rfl
      · split
        · rfl
        · split <;> first | rfl | skip
          rename_i r off len cap
          rw [hx r (by simp [SV.ref])]
    · rfl
theorem sAppend1_loc (T : Tab) (t n : Nat) {x y : SV} (hx : ∀ r ∈ x.ref, get r = get' r) (hy : ∀ r ∈ y.ref, get r = get' r) : sAppend1 T get t x y n = sAppend1 T get' t x y n := by
  unfold sAppend1
  split
  · exact sAppendK_loc T t n hx hy
  · exact sAppend_loc T t n hx hy
theorem sAppendZ_loc (T : Tab) (t t' n : Nat) {x y : SV} (hx : ∀ r ∈ x.ref, get r = get' r) : sAppendZ T get t t' x y n = sAppendZ T get' t t' x y n := by
  unfold sAppendZ
  split
  · split
    · split
      · rfl
      · split <;> first | rfl | skip
        rename_i r off len c kq j
        rw [hx r (by simp [SV.ref])]
    · rfl
  · rfl
end

def UpsOk (F : List Nat) (n : Nat) (r : Res) : Prop := ∀ u ∈ r.ups, u.1 ∈ F ∨ (n ≤ u.1 ∧ u.1 < n + max 1 r.new)
theorem ups_nil {F : List Nat} {n : Nat} {r : Res} (h : r.ups = []) : UpsOk F n r := fun u hu => by rw [h] at hu; simp at hu
theorem ups_new {F : List Nat} {n : Nat} {r : Res} {row : Option Row} (h : r.ups = [(n, row)]) : UpsOk F n r := fun u hu => by
  rw [h] at hu
  simp at hu
  subst hu
  right; simp only; omega
theorem ups_old {F : List Nat} {n q : Nat} {r : Res} {row : Option Row} (h : r.ups = [(q, row)]) (hq : q ∈ F) : UpsOk F n r := fun u hu => by
  rw [h] at hu
  simp at hu
  subst hu
  exact .inl hq
theorem sCap_ups (T : Tab) (get : Nat → Option Row) (t : Nat) (x : SV) (F : List Nat) (n : Nat) : UpsOk F n (sCap T get t x) := by
  refine ups_nil ?_
  unfold sCap
  split
  · rfl
  · split <;> rfl
theorem sClear_ups (T : Tab) (get : Nat → Option Row) (t : Nat) (x : SV) (F : List Nat) (n : Nat) (hF : ∀ r ∈ x.ref, r ∈ F) : UpsOk F n (sClear T get t x) := by
  unfold sClear
  split
  · exact ups_nil rfl
  · split
    · split
      · exact ups_nil rfl
      · split
        · split
          · exact ups_nil rfl
          · exact ups_old rfl (hF _ (by simp [SV.ref]))
        · exact ups_nil rfl
    · exact ups_nil rfl
theorem sCopy_ups (T : Tab) (get : Nat → Option Row) (t : Nat) (x y : SV) (F : List Nat) (n : Nat) (hF : ∀ r ∈ x.ref, r ∈ F) : UpsOk F n (sCopy T get t x y) := by
  unfold sCopy
  split
  · exact ups_nil rfl
  · split
    · split
      · exact ups_nil rfl
      · split
        · exact ups_nil rfl
        · split
          · split
            · exact ups_nil rfl
            · exact ups_old rfl (hF _ (by simp [SV.ref]))
          · exact ups_nil rfl
    · exact ups_nil rfl
theorem sAppend_ups (T : Tab) (get : Nat → Option Row) (t : Nat) (x y : SV) (F : List Nat) (n : Nat) (hF : ∀ r ∈ x.ref, r ∈ F) : UpsOk F n (sAppend T get t x y n) := by
  unfold sAppend
  split
  · exact ups_nil rfl
  · split
    · split
      · exact ups_nil rfl
      · split
        · exact ups_nil rfl
        · split
          · exact ups_new rfl
          · exact ups_new rfl
          · exact ups_new rfl
          · split
            · exact ups_nil rfl
            · intro u hu
              simp at hu
              rcases hu with hu | hu
              · subst hu
                exact .inl (hF _ (by simp [SV.ref]))
              · subst hu
                right; simp
          · exact ups_nil rfl
    · exact ups_nil rfl
theorem sAppendK_ups (T : Tab) (get : Nat → Option Row) (t : Nat) (x y : SV) (F : List Nat) (n : Nat) (hF : ∀ r ∈ x.ref, r ∈ F) : UpsOk F n (sAppendK T get t x y n) := by
  unfold sAppendK
  split
  · exact ups_nil rfl
  · split
    · split
      · exact ups_nil rfl
      · split
        · exact ups_nil rfl
        · split
          · split
            · exact ups_nil rfl
            · split
              · exact ups_old rfl (hF _ (by simp [SV.ref]))
              · exact ups_new rfl
          · exact ups_nil rfl
    · exact ups_nil rfl
theorem sAppend1_ups (T : Tab) (get : Nat → Option Row) (t : Nat) (x y : SV) (F : List Nat) (n : Nat) (hF : ∀ r ∈ x.ref, r ∈ F) : UpsOk F n (sAppend1 T get t x y n) := by
  unfold sAppend1
  split
  · exact sAppendK_ups T get t _ y F n hF
  · exact sAppend_ups T get t _ y F n hF
theorem sAppendZ_ups (T : Tab) (get : Nat → Option Row) (t t' : Nat) (x y : SV) (F : List Nat) (n : Nat) : UpsOk F n (sAppendZ T get t t' x y n) := by
  unfold sAppendZ
  split
  · split
    · split
      · exact ups_nil rfl
      · split
        · split
          · exact ups_nil rfl
          · exact ups_new rfl
        · exact ups_nil rfl
    · exact ups_nil rfl
  · exact ups_nil rfl

end
end Go.Proofs.YtfkcolodbjonkabDoor.Sh
