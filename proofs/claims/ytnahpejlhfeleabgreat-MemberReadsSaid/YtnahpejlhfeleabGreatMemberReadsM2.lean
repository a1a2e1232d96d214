/- Contracts of functions, told of values, on the way to MemberReads (part 2). -/
import Derived.Test.YtnahpejlhfeleabGreatMemberReadsM1
import Derived.Lib.AppendZerosOnto
import Derived.MapKept
import Derived.Laws.BytesString
-- short names of the library's lemmas
open Nat renaming zero_add → zab, le_refl → zad, mul_le_mul_right → zaf, add_assoc → zai, add_zero → zal, lt_or_ge → zaq, le_trans → zar
open List renaming map_cons → zac, map_congr_left → zah, length_cons → zaj, any_eq_true → zak, length_append → zam, mem_filter → zan, take_of_length_le → zao, range → zap, length_take → zas
open Option renaming map_eq_some_iff → zaa
open Bool renaming and_eq_true → zae, or_eq_true → zag
set_option linter.unusedSimpArgs false
set_option linter.unusedVariables false
namespace Go.Proofs.YtnahpejlhfeleabGreat.Sh
open Go.RowKit
def layAt (cs : List Cell) (off : Nat) (new : List Cell) : List Cell := cs.take off ++ new ++ cs.drop (off + new.length)
theorem layAt_length {cs : List Cell} {off : Nat} {new : List Cell} (h : off ≤ cs.length) : (layAt cs off new).length = max cs.length (off + new.length) := by
 unfold layAt
 simp only [zam, zas, List.length_drop]
 omega
theorem layAt_get {cs : List Cell} {off : Nat} {new : List Cell} (h : off ≤ cs.length) {i : Nat} {c : Cell} (hi : (layAt cs off new)[i]? = some c) : (∃ j, i = off + j ∧ new[j]? = some c) ∨ ((i < off ∨ off + new.length ≤ i) ∧ cs[i]? = some c) := by
 unfold layAt at hi
 have ht : (cs.take off).length = off := by simp; omega
 rw [List.append_assoc] at hi
 by_cases c1 : i < off
 · rw [List.getElem?_append_left (by omega), List.getElem?_take_of_lt c1] at hi
   exact .inr ⟨.inl c1, hi⟩
 · rw [List.getElem?_append_right (by omega), ht] at hi
   by_cases c2 : i < off + new.length
   · rw [List.getElem?_append_left (by omega)] at hi
     exact .inl ⟨i - off, by omega, hi⟩
   · rw [List.getElem?_append_right (by omega), List.getElem?_drop] at hi
     refine .inr ⟨.inr (by omega), ?_⟩
     rw [← hi]; congr 1; omega
section
variable {P : Program} {o : Oper} {w0 : Base} {A : Nat → Prop} {N : Nat} {Fr : Nat → Prop} {tm : Nat → Option SV} {hp : Nat → Option Row} {a : Act} {w : World} {m : Mem} {π : Plc} {n : Nat}
theorem RelAt.lay (P : Program) (h : RelAt P w0 A N Fr tm hp a w m π) {r : Nat} {row : Row} {p : Place} (hr : hp r = some row) (hp' : π r = some (some p)) (hz : p.esz ≠ 0) (off : Nat) (cs : List Cell) (vals : List Value) (hv : VL m π cs vals) (h1 : ∀ x ∈ vals, x.oneCell' = true) (hcl : ∀ c ∈ cs, c.cl Fr) (hso : ∀ c ∈ cs, c ≠ .un) (hoff : off ≤ row.cells.length) (htot : off + cs.length ≤ p.tot) : ∃ w', (storeCells ⟨p.b, p.o + off, none⟩ vals).run P w = .ok () w' ∧ RelAt P w0 A N Fr tm (upd hp r (some ⟨layAt row.cells off cs, row.esz⟩)) a w' m π := by
 have hrow := h.rows r row hr
 unfold RowOk at hrow
 rw [hp'] at hrow
 obtain ⟨g1, g2, arr, e, g3, g4, g5, g6⟩ := hrow
 replace g3 := g3.cells hz
 replace g4 := g4.1 hz
 replace g5 := g5.1 hz
 have hlen := hv.length
 have hrun := run_storeCells_at (P := P) p.b (p.o + off) e vals 0 arr w g3 (by omega) h1
 simp only [zal] at hrun
 refine ⟨_, hrun, ?_⟩
 generalize hnew : (arr.toList.take (p.o + off) ++ vals ++ arr.toList.drop (p.o + off + vals.length)).toArray = arr'
 have hsz : arr'.size = arr.size := by rw [← hnew]; simp; omega
 have hget : ∀ i, arr'[i]? = if i < p.o + off then arr[i]? else if i < p.o + off + vals.length then vals[i - (p.o + off)]? else arr[i]? := by
   intro i
   rw [← hnew]
   simp only [List.getElem?_toArray, List.append_assoc]
   have ht : (arr.toList.take (p.o + off)).length = p.o + off := by simp; omega
   by_cases c1 : i < p.o + off
   · rw [if_pos c1, List.getElem?_append_left (by omega), List.getElem?_take_of_lt c1]; simp
   · rw [if_neg c1, List.getElem?_append_right (by omega), ht]
     by_cases c2 : i < p.o + off + vals.length
     · rw [if_pos c2, List.getElem?_append_left (by omega)]
     · rw [if_neg c2, List.getElem?_append_right (by omega), List.getElem?_drop]
       simp only [Array.getElem?_toList]
       congr 1; omega
 refine { h with rows := fun q rw' hq => ?_, rcl := fun q rw' hq => ?_, rsol := fun q rw' hq => ?_, live := fun q hq => ?_, fresh := fun q hq => ?_, mok := fun ad v hv' => ?_, keep := ⟨h.keep.os, h.keep.tape, h.keep.output, by simpa using h.keep.size, fun b hb hA => ?_⟩ }
 · unfold upd at hq
   unfold RowOk
   by_cases e1 : q = r
   · subst e1
     simp only [↓reduceIte, Option.some.injEq] at hq
     subst hq
     rw [hp']
     refine ⟨g1, g2, arr', e, .mk hz (setRow_heap _ _ _ _ _ _ g3), ⟨fun _ => by rw [hsz]; exact g4, fun e0 => absurd e0 hz⟩, ⟨fun _ => by simp only [layAt_length hoff]; omega, fun e0 => absurd e0 hz⟩, fun i c hc => ?_⟩
     rcases layAt_get hoff hc with ⟨j, rfl, hj⟩ | ⟨hi, hj⟩
     · obtain ⟨v, hv1, hv2⟩ := hv.get j c hj
       have hjl : j < cs.length := (List.getElem?_eq_some_iff.1 hj).1
       refine ⟨v, ?_, hv2⟩
       rw [hget, if_neg (by omega), if_pos (by omega)]
       rw [show p.o + (off + j) - (p.o + off) = j by omega]; exact hv1
     · obtain ⟨x, hx, hvx⟩ := g6 i c hj
       refine ⟨x, ?_, hvx⟩
       rw [hget]
       split
       · exact hx
       · split
         · omega
         · exact hx
   · simp only [e1, ↓reduceIte] at hq
     have := h.rows q rw' hq
     unfold RowOk at this
     cases hq2 : π q with
     | none => rw [hq2] at this; exact this
     | some x =>
       rw [hq2] at this
       cases x with
       | none => exact this
       | some p1 =>
         obtain ⟨k1, k2, arr1, e', k3, k4, k5, k6⟩ := this
         refine ⟨k1, k2, arr1, e', ?_, k4, k5, k6⟩
         exact k3.same (setRow_other _ _ _ _ (fun e2 => e1 (h.inj q r p1 p hq2 hp' e2)))
 · unfold upd at hq
   by_cases e1 : q = r
   · subst e1
     simp only [↓reduceIte, Option.some.injEq] at hq
     subst hq
     intro c hc
     obtain ⟨i, hi, rfl⟩ := List.mem_iff_getElem.1 hc
     rcases layAt_get hoff (List.getElem?_eq_getElem hi) with ⟨j, _, hj⟩ | ⟨_, hj⟩
     · exact hcl _ (List.mem_of_getElem? hj)
     · exact h.rcl q row hr _ (List.mem_of_getElem? hj)
   · simp only [e1, ↓reduceIte] at hq
     exact h.rcl q rw' hq
 · unfold upd at hq
   by_cases e1 : q = r
   · subst e1
     simp only [↓reduceIte, Option.some.injEq] at hq
     subst hq
     intro c hc
     obtain ⟨i, hi, rfl⟩ := List.mem_iff_getElem.1 hc
     rcases layAt_get hoff (List.getElem?_eq_getElem hi) with ⟨j, _, hj⟩ | ⟨_, hj⟩
     · exact hso _ (List.mem_of_getElem? hj)
     · exact h.rsol q row hr _ (List.mem_of_getElem? hj)
   · simp only [e1, ↓reduceIte] at hq
     exact h.rsol q rw' hq
 · unfold upd at hq
   by_cases e1 : q = r
   · simp [e1] at hq
   · simp only [e1, ↓reduceIte] at hq; exact h.live q hq
 · unfold upd
   have := h.fresh q hq
   by_cases e1 : q = r
   · subst e1; rw [hr] at this; cases this
   · simp only [e1, ↓reduceIte]; exact this
 · obtain ⟨k1, k2⟩ := h.mok ad v hv'
   refine ⟨k1, ?_⟩
   rw [cell_setRow_other _ _ _ _ (h.dis r p ad v hp' hv')]
   exact k2
 · rw [setRow_other _ _ _ _ (fun e2 => hA (by rw [e2]; exact g1))]
   exact h.keep.block b hb hA
theorem layAt_nil {cs : List Cell} {off : Nat} (h : off ≤ cs.length) : layAt cs off [] = cs := by
 unfold layAt
 simp
theorem upd_id {hp : Nat → Option Row} {r : Nat} {x : Option Row} (h : hp r = x) : upd hp r x = hp := by
 funext q
 unfold upd
 split
 · rename_i e; rw [e, h]
 · rfl
theorem VL.take {m : Mem} {π : Plc} {cs : List Cell} {vs : List Value} (h : VL m π cs vs) (k : Nat) : VL m π (cs.take k) (vs.take k) := by
 have hl := h.length
 refine VL.of (by simp [hl]) (fun i c v hi hv => ?_)
 have hik : i < k := by have := (List.getElem?_eq_some_iff.1 hi).1; simp at this; omega
 rw [List.getElem?_take_of_lt hik] at hi hv
 obtain ⟨v2, e1, e2⟩ := h.get i c hi
 rw [e1] at hv
 cases hv
 exact e2
theorem RelAt.layS (P : Program) (h : RelAt P w0 A N Fr tm hp a w m π) {r off len : Nat} {cap : Option Nat} {row : Row} {u : Value} (hy : VS m π (.one (.osl r off len cap)) u) (hr : hp r = some row) {sz d : Nat} (hes : row.esz = sz) (hoff : off + d ≤ row.cells.length) (cs : List Cell) (vals : List Value) (hv : VL m π cs vals) (h1 : ∀ x ∈ vals, x.oneCell' = true) (hcl : ∀ c ∈ cs, c.cl Fr) (hso : ∀ c ∈ cs, c ≠ .un) (c' : Nat) (base : Option Addr) (hu : u = .slice base len c') (hfit : d + cs.length ≤ c' * sz) :
    ∃ w', (match base with | some b => storeCells (b.add d) vals | none => (pure () : Sem Unit)).run P w = .ok () w' ∧ RelAt P w0 A N Fr tm (upd hp r (some ⟨layAt row.cells (off + d) cs, row.esz⟩)) a w' m π := by
  have hlen := hv.length
  by_cases h0 : cs = []
  · subst h0
    have : vals = [] := List.length_eq_zero_iff.1 (by simpa using hlen)
    subst this
    refine ⟨w, ?_, ?_⟩
    · cases base <;> simp [storeCells]
    · rw [layAt_nil hoff]
      rw [upd_id (by rw [hr])]
      exact h
  · have hpos : 0 < cs.length := List.length_pos_iff.2 h0
    rcases osl_at h hy hr with ⟨_, _, _, ad, e1⟩ | ⟨p, ad, cc, hπ, e1, hlc, hpz, hor⟩
    · rw [hu] at e1
      cases e1
      rw [Nat.zero_mul] at hfit
      omega
    · rw [hu] at e1
      cases e1
      have hrow := h.rows r row hr
      unfold RowOk at hrow
      rw [hπ] at hrow
      obtain ⟨_, hpe, _⟩ := hrow
      have hesz : p.esz = sz := by rw [hpe]; exact hes
      rcases hor with ⟨_, rfl⟩ | ⟨rfl, hcap⟩
      · rw [Nat.zero_mul] at hfit
        omega
      · rw [hesz] at hcap
        obtain ⟨w', e2, e3⟩ := h.lay P hr hπ hpz (off + d) cs vals hv h1 hcl hso hoff (by omega)
        refine ⟨w', ?_, e3⟩
        simp only [addr_add]
        rw [zai]
        exact e2
def sCap (T : Tab) (get : Nat → Option Row) (t : Nat) (x : SV) : Res :=
  match slot t T.ts with
  | none => bad
  | some ti => match ti.kind, x with
    | .slice _, .one (.osl r off len (some c)) => ⟨live get r, V (.int .i64 c), [], 0⟩
    | .slice _, .one (.gsl cs off len (some c)) => ⟨True, V (.int .i64 c), [], 0⟩
    | .slice _, .one (.sc (.slice none 0 0)) => ⟨True, V (.int .i64 0), [], 0⟩
    | _, _ => bad
theorem sCap_ok (T : Tab) (hT : TOk P T) (h : RelAt P w0 A N Fr tm hp a w m π) {t : Nat} {x : Operand} {c : Call} (ho : o.op = .call c) (hc1 : c.callee = .builtin .cap) (hc2 : c.args = #[x]) (hc3 : c.argTypes = #[t]) {p : SV} (hp' : VS m π p (a.eval x)) (hn : (sCap T hp t p).need) : Good P o w0 A N Fr tm hp a w n (sCap T hp t p) := by
 have hex : ∀ r w', (Builtin.cap_ #[t] o.type #[a.eval x]).run P w = .ok r w' → (execOp a.eval o).run P w = .ok (.value r) w' := by
   intro r w' hr
   unfold execOp
   rw [ho]
   simp [resolve, hc1, hc2, hc3, invoke, builtin, hr]
 unfold sCap at hn ⊢
 cases hl : slot t T.ts with
 | none => rw [hl] at hn; exact hn.elim
 | some ti =>
   rw [hl] at hn
   simp only at hn ⊢
   have hti := hT t ti hl
   split at hn
   · rename_i e r off len k hk
     have hu := hti.slice hk
     obtain ⟨row, q0, hr, hq, hq2⟩ := live_row h hn
     rcases osl_at h hp' hr with ⟨hπ, rfl, _, ad, e1⟩ | ⟨pl, ad, cc, hπ, e1, hlc, hpz, hor⟩
     · have hvc := hp'.2
       rw [hπ] at hvc
       have h0 := hvc.2.1 k rfl
       subst h0
       refine good_val h (hex _ _ ?_) rfl
       rw [e1]
       simp [Builtin.cap_, run_underlying hu, goInt]
     · have hvc := hp'.2
       rw [hπ] at hvc
       obtain ⟨_, ad2, c2, e2, hlc2, hcc, _⟩ := hvc
       have h0 := hcc k rfl
       subst h0
       refine good_val h (hex _ _ ?_) rfl
       rw [e2]
       simp [Builtin.cap_, run_underlying hu, goInt]
   · rename_i e cs off len k hk
     have hu := hti.slice hk
     generalize hev : a.eval x = u at hp'
     cases hp' with
     | gnil _ _ _ hc =>
       have h0 := hc k rfl
       subst h0
       refine good_val h (hex _ _ ?_) rfl
       rw [hev]
       simp [Builtin.cap_, run_underlying hu, goInt]
     | gsl _ _ _ _ b oo cc ad vals hc hlc hm hv ha =>
       have h0 := hc k rfl
       subst h0
       refine good_val h (hex _ _ ?_) rfl
       rw [hev]
       simp [Builtin.cap_, run_underlying hu, goInt]
   · rename_i e hk
     have hu := hti.slice hk
     refine good_val h (hex _ _ ?_) rfl
     rw [(vs_sc hp').1]
     simp [Builtin.cap_, run_underlying hu, goInt]
   · exact hn.elim
def SV.upto (j : Nat) : SV → SV
  | .one (.osl r off len cap) => .one (.osl r off j none)
  | .one (.gsl cs off len cap) => .one (.gsl cs off j none)
  | x => x
theorem slc_upto (h : RelAt P w0 A N Fr tm hp a w m π) {x : SV} {v : Value} (hx : VS m π x v) (hcl : x.cl Fr) {sz : Nat} {xc : List Cell} {k : Nat} (hs : slc sz hp x = some (xc, k)) {j : Nat} (hj : j ≤ k) : ∃ ad c, v = .slice ad k c ∧ VS m π (x.upto j) (.slice ad j c) ∧ (x.upto j).cl Fr ∧ slc sz hp (x.upto j) = some (xc.take (j * sz), j) := by
 have hjk : j * sz ≤ k * sz := zaf _ hj
 cases x with
 | agg cs => cases hs
 | tup vs => cases hs
 | one cc =>
   cases cc with
   | optr _ _ => cases hs
   | un => cases hs
   | mp _ _ => cases hs
   | gptr _ _ => cases hs
   | fn f caps => cases hs
   | sc u =>
     unfold slc at hs
     split at hs
     case h_3 heq =>
       cases heq
       cases hs
       cases hx
       have : j = 0 := by omega
       subst this
       exact ⟨none, 0, rfl, VG.sc _ rfl, hcl, by simp [slc, SV.upto]⟩
     case h_4 ad c heq =>
       cases heq
       cases hs
       cases hx
       have : j = 0 := by omega
       subst this
       exact ⟨some ad, c, rfl, VG.sc _ rfl, hcl, by simp [slc, SV.upto]⟩
     case h_5 => cases hs
     all_goals (rename_i heq; cases heq)
   | gsl cs off len cap =>
     simp only [slc, Option.some.injEq, Prod.mk.injEq] at hs
     obtain ⟨rfl, rfl⟩ := hs
     have e : slc sz hp (SV.upto j (.one (.gsl cs off len cap))) = some (((cs.drop off).take (len * sz)).take (j * sz), j) := by
       simp only [SV.upto, slc, List.take_take]
       rw [Nat.min_eq_left hjk]
     cases hx with
     | gnil _ _ _ hc =>
       have : j = 0 := by omega
       subst this
       exact ⟨none, 0, rfl, VG.gnil _ _ _ (fun k hk => by cases hk), trivial, e⟩
     | gsl _ _ _ _ b o c ad vals hc hlc hm hv ha =>
       refine ⟨some ad, c, rfl, VG.gsl cs off j none b o c ad vals (fun k hk => by cases hk) (by omega) hm hv ?_, trivial, e⟩
       rcases ha with h1 | h1
       · exact .inl h1
       · exact .inr (by omega)
   | osl r off len cap =>
     simp only [slc] at hs
     cases hr : hp r with
     | none => rw [hr] at hs; cases hs
     | some row =>
       rw [hr] at hs
       simp only [Option.some.injEq, Prod.mk.injEq] at hs
       obtain ⟨rfl, rfl⟩ := hs
       have e : slc sz hp (SV.upto j (.one (.osl r off len cap))) = some (((row.cells.drop off).take (len * sz)).take (j * sz), j) := by
         simp only [SV.upto, slc, hr, List.take_take]
         rw [Nat.min_eq_left hjk]
       rcases osl_at h hx hr with ⟨hπ, hl0, _, ad, e1⟩ | ⟨pl, ad, cc, hπ, e1, hlc, hpz, hor⟩
       · have : j = 0 := by omega
         subst this
         subst hl0
         refine ⟨ad, 0, e1, ⟨rfl, ?_⟩, hcl, e⟩
         rw [hπ]
         exact ⟨rfl, (fun k hk => by cases hk), ad, rfl⟩
       · refine ⟨some ad, cc, e1, ⟨rfl, ?_⟩, hcl, e⟩
         rw [hπ]
         refine ⟨hpz, ad, cc, rfl, by omega, (fun k hk => by cases hk), ?_⟩
         rcases hor with ⟨h1, h2⟩ | h1
         · exact .inl ⟨by omega, h2⟩
         · exact .inr h1
def sCopy (T : Tab) (get : Nat → Option Row) (t : Nat) (x y : SV) : Res :=
  match slot t T.ts with
  | none => bad
  | some ti =>
    (match ti.kind with
    | .slice e =>
      (match slot e T.ts with
      | none => bad
      | some te =>
        (match slc te.size get y with
        | none => bad
        | some (yc, k) =>
          (match x with
          | .one (.osl r off len cap) =>
            (match get r with
            | none => bad
            | some row => ⟨min k len * te.size ≤ yc.length ∧ 0 < te.size ∧ row.esz = te.size ∧ off ≤ row.cells.length, V (.int .i64 (min k len : Nat)), [(r, some ⟨layAt row.cells off (yc.take (min k len * te.size)), row.esz⟩)], 0⟩)
          | _ => bad)))
    | _ => bad)
theorem sCopy_ok (T : Tab) (hT : TOk P T) (h : RelAt P w0 A N Fr tm hp a w m π) {t t' : Nat} {x y : Operand} {c : Call} (ho : o.op = .call c) (hc1 : c.callee = .builtin .copy) (hc2 : c.args = #[x, y]) (hc3 : c.argTypes = #[t, t']) {p q : SV} (hp' : VS m π p (a.eval x)) (hq' : VS m π q (a.eval y)) (hcq : q.cl Fr) (hn : (sCopy T hp t p q).need) : Good P o w0 A N Fr tm hp a w n (sCopy T hp t p q) := by
 have hex : ∀ r w', (Builtin.copy_ #[t, t'] o.type #[a.eval x, a.eval y]).run P w = .ok r w' → (execOp a.eval o).run P w = .ok (.value r) w' := by
   intro r w' hr
   unfold execOp
   rw [ho]
   simp [resolve, hc1, hc2, hc3, invoke, builtin, hr]
 unfold sCopy at hn ⊢
 cases hl : slot t T.ts with
 | none => rw [hl] at hn; exact hn.elim
 | some ti =>
   rw [hl] at hn
   simp only at hn ⊢
   cases hk : ti.kind with
   | slice e =>
     rw [hk] at hn
     simp only at hn ⊢
     cases hl2 : slot e T.ts with
     | none => rw [hl2] at hn; exact hn.elim
     | some te =>
       rw [hl2] at hn
       simp only at hn ⊢
       cases hs : slc te.size hp q with
       | none => rw [hs] at hn; exact hn.elim
       | some xk =>
         obtain ⟨yc, k⟩ := xk
         rw [hs] at hn
         simp only at hn ⊢
         split at hn
         · rename_i r off len cap
           cases hr : hp r with
           | none => rw [hr] at hn; exact hn.elim
           | some row =>
             rw [hr] at hn
             obtain ⟨n1, n2, n3, n4⟩ := hn
             have hti := hT t ti hl
             have hte := hT e te hl2
             have hu := hti.slice hk
             obtain ⟨ad, c, ev, u1, u2, u3⟩ := slc_upto h hq' hcq hs (Nat.min_le_left k len)
             obtain ⟨ad', c'', vals, ev', q1, q2, q3, q4, q5, q6, q7⟩ := slc_ok h u1 u2 u3 (by rw [zas]; omega) n2
             cases ev'
             have hvl := q1.length
             have hsl : ∃ base c', a.eval x = .slice base len c' ∧ len ≤ c' := by
               rcases osl_at h hp' hr with ⟨_, rfl, _, ad, e1⟩ | ⟨pl, ad, cc, hπ, e1, hlc, hpz, hor⟩
               · exact ⟨ad, 0, e1, zad _⟩
               · exact ⟨some ad, cc, e1, hlc⟩
             obtain ⟨base, c', ex, hlc⟩ := hsl
             have hml : min k len * te.size ≤ c' * te.size := zaf _ (by omega)
             obtain ⟨w', e1, e2⟩ := h.layS P hp' hr n3 (d := 0) (by simpa using n4) (yc.take (min k len * te.size)) vals q1 q2 q3 q4 c' base ex (by simp; omega)
             have hfc : (Builtin.firstCells te.size (min k len) (.slice ad k c)).run P w = .ok vals.toArray w := by
               cases ad with
               | none =>
                 have h0 := (q6 rfl).1
                 have : vals = [] := List.length_eq_zero_iff.1 (by rw [hvl, zas, h0]; simp)
                 subst this
                 simp [Builtin.firstCells]
               | some dd => exact run_firstCells_some w te.size (min k len) dd k c vals (by rw [hvl, zas]; omega) (fun j u hj => q5 dd rfl j u hj)
             refine ⟨_, w', m, π, .inl (hex (goInt ((min k len : Nat) : Int)) w' ?_), ?_, ?_, trivial⟩
             · rw [ex, ev]
               have hmin : Nat.min k len = min k len := rfl
               cases base with
               | none => simp only [zal] at e1; simp at e1; subst e1; simp [Builtin.copy_, run_underlying hu, hte.size, Builtin.lenOf, hmin, hfc]
               | some b =>
                 have hb0 : b.add 0 = b := by unfold Addr.add; simp
                 simp only [hb0] at e1
                 simp [Builtin.copy_, run_underlying hu, hte.size, Builtin.lenOf, hmin, hfc, e1]
             · simp only [zal] at e2
               exact e2.frmono (fun r hr => hr.1)
             · exact VG.sc (.int .i64 ((min k len : Nat) : Int)) rfl
         · exact hn.elim
   | _ => rw [hk] at hn; exact hn.elim
def sClear (T : Tab) (get : Nat → Option Row) (t : Nat) (x : SV) : Res :=
  match slot t T.ts with
  | none => bad
  | some ti =>
    (match ti.kind with
    | .slice e =>
      (match slot e T.ts with
      | none => bad
      | some te =>
        (match x with
        | .one (.osl r off len cap) =>
          (match get r with
          | none => bad
          | some row => ⟨0 < te.size ∧ row.esz = te.size ∧ off ≤ row.cells.length, .tup [], [(r, some ⟨layAt row.cells off (zeros te.size te.zero len), row.esz⟩)], 0⟩)
        | _ => bad))
    | _ => bad)
def sAppendK (T : Tab) (get : Nat → Option Row) (t : Nat) (s x : SV) (n : Nat) : Res :=
  match slot t T.ts with
  | none => bad
  | some ti =>
    (match ti.kind with
    | .slice e =>
      (match slot e T.ts with
      | none => bad
      | some te =>
        (match slc te.size get x with
        | none => bad
        | some (xc, k) =>
          (match s with
          | .one (.osl r off len (some c)) =>
            (match get r with
            | none => bad
            | some row => if len + k ≤ c
              then ⟨xc.length = k * te.size ∧ 0 < te.size ∧ row.esz = te.size ∧ off + len * te.size ≤ row.cells.length, .one (.osl r off (len + k) (some c)), [(r, some ⟨layAt row.cells (off + len * te.size) xc, row.esz⟩)], 1⟩
              else ⟨xc.length = k * te.size ∧ 0 < te.size ∧ 0 < te.bytes ∧ (len + k) * te.bytes ≤ 140737488355328 ∧ row.esz = te.size ∧ off + len * te.size ≤ row.cells.length,
                .one (.osl n 0 (len + k) none), [(n, some ⟨(row.cells.drop off).take (len * te.size) ++ xc, te.size⟩)], 1⟩)
          | _ => bad)))
    | _ => bad)
theorem osl_val (h : RelAt P w0 A N Fr tm hp a w m π) {r off len : Nat} {cap : Option Nat} {v : Value} {row : Row} (hx : VS m π (.one (.osl r off len cap)) v) (hr : hp r = some row) : ∃ base c', v = .slice base len c' ∧ len ≤ c' ∧ (base = none → len = 0) ∧ ∀ k, cap = some k → c' = k := by
 rcases osl_at h hx hr with ⟨hπ, rfl, _, ad, e1⟩ | ⟨pl, ad, cc, hπ, e1, hlc, hpz, hor⟩
 · refine ⟨ad, 0, e1, zad _, fun _ => rfl, fun k hk => ?_⟩
   have hvc := hx.2
   rw [hπ] at hvc
   exact (hvc.2.1 k hk).symm
 · refine ⟨some ad, cc, e1, hlc, (fun e => by cases e), fun k hk => ?_⟩
   have hvc := hx.2
   rw [hπ] at hvc
   obtain ⟨_, ad2, c2, e2, hlc2, hcc, _⟩ := hvc
   rw [e1] at e2
   cases e2
   exact hcc k hk
theorem sClear_ok (T : Tab) (hT : TOk P T) (h : RelAt P w0 A N Fr tm hp a w m π) {t : Nat} {x : Operand} {c : Call} (ho : o.op = .call c) (hc1 : c.callee = .builtin .clear) (hc2 : c.args = #[x]) (hc3 : c.argTypes = #[t]) {p : SV} (hp' : VS m π p (a.eval x)) (hn : (sClear T hp t p).need) : Good P o w0 A N Fr tm hp a w n (sClear T hp t p) := by
 have hex : ∀ r w', (Builtin.clear_ #[t] o.type #[a.eval x]).run P w = .ok r w' → (execOp a.eval o).run P w = .ok (.value r) w' := by
   intro r w' hr
   unfold execOp
   rw [ho]
   simp [resolve, hc1, hc2, hc3, invoke, builtin, hr]
 unfold sClear at hn ⊢
 cases hl : slot t T.ts with
 | none => rw [hl] at hn; exact hn.elim
 | some ti =>
   rw [hl] at hn
   simp only at hn ⊢
   cases hk : ti.kind with
   | slice e =>
     rw [hk] at hn
     simp only at hn ⊢
     cases hl2 : slot e T.ts with
     | none => rw [hl2] at hn; exact hn.elim
     | some te =>
       rw [hl2] at hn
       simp only at hn ⊢
       split at hn
       · rename_i r off len cap
         cases hr : hp r with
         | none => rw [hr] at hn; exact hn.elim
         | some row =>
           rw [hr] at hn
           obtain ⟨n2, n3, n4⟩ := hn
           have hti := hT t ti hl
           have hte := hT e te hl2
           have hu := hti.slice hk
           obtain ⟨i, d, z, g1, g2, g3, g4, g5, g6, g7, g8, g9⟩ := hte.ex
           obtain ⟨q1, q2, q3, q4⟩ := zeros_vl (m := m) (π := π) (Fr := Fr) g8 n2 z.cells g7 g9 len
           obtain ⟨base, c', ex, hlc, hbn, _⟩ := osl_val h hp' hr
           have hzl : (zeros te.size te.zero len).length = len * te.size := by rw [← q1.length]; simp [size_madeCells]
           have hml : len * te.size ≤ c' * te.size := zaf _ hlc
           have hzs : z.cells.size = te.size := by rw [← Array.length_toList, g7, g8]
           obtain ⟨w', e1, e2⟩ := h.layS P hp' hr n3 (d := 0) (by simpa using n4) _ _ q1 q4 q2 q3 c' base ex (by rw [hzl]; omega)
           refine ⟨_, w', m, π, .inl (hex (.tuple #[]) w' ?_), ?_, ⟨#[], rfl, trivial⟩, trivial⟩
           · rw [ex]
             have hzc : Builtin.zeroCells z.cells len = madeCells z.cells (len * te.size) := by rw [← hzs]; rfl
             cases base with
             | none =>
               simp at e1; subst e1
               simp [Builtin.clear_, run_underlying hu]
             | some b =>
               have hb0 : b.add 0 = b := by unfold Addr.add; simp
               simp only [hb0] at e1
               cases len with
               | zero =>
                 have : madeCells z.cells (0 * te.size) = #[] := by simp [madeCells]
                 rw [this] at e1
                 simp [storeCells] at e1
                 subst e1
                 simp [Builtin.clear_, run_underlying hu]
               | succ len =>
                 simp [Builtin.clear_, run_underlying hu, zeroValue, typeInfo, g1, g6, hzc, e1]
           · simp only [zal] at e2
             exact e2.frmono (fun r hr => hr.1)
       · exact hn.elim
   | _ => rw [hk] at hn; exact hn.elim
theorem sAppendK_ok (T : Tab) (hT : TOk P T) (h : RelAt P w0 A N Fr tm hp a w m π) (hf : Fr n) {t : Nat} {x y : Operand} {c : Call} (ho : o.op = .call c) (hc1 : c.callee = .builtin .append) (hc2 : c.args = #[x, y]) (hc3 : c.argTypes = #[t, t]) {p q : SV} (hp' : VS m π p (a.eval x)) (hq' : VS m π q (a.eval y)) (hcq : q.cl Fr) (hcp : p.cl Fr) (hn : (sAppendK T hp t p q n).need) : Good P o w0 A N Fr tm hp a w n (sAppendK T hp t p q n) := by
 have hex : ∀ r w', (Builtin.append_ #[t, t] o.type #[a.eval x, a.eval y]).run P w = .ok r w' → (execOp a.eval o).run P w = .ok (.value r) w' := by
   intro r w' hr
   unfold execOp
   rw [ho]
   simp [resolve, hc1, hc2, hc3, invoke, builtin, hr]
 unfold sAppendK at hn ⊢
 cases hl : slot t T.ts with
 | none => rw [hl] at hn; exact hn.elim
 | some ti =>
   rw [hl] at hn
   simp only at hn ⊢
   cases hk : ti.kind with
   | slice e =>
     rw [hk] at hn
     simp only at hn ⊢
     cases hl2 : slot e T.ts with
     | none => rw [hl2] at hn; exact hn.elim
     | some te =>
       rw [hl2] at hn
       simp only at hn ⊢
       cases hs : slc te.size hp q with
       | none => rw [hs] at hn; exact hn.elim
       | some xk =>
         obtain ⟨xc, k⟩ := xk
         rw [hs] at hn
         simp only at hn ⊢
         split at hn
         · rename_i r off len cp
           cases hr : hp r with
           | none => rw [hr] at hn; exact hn.elim
           | some row =>
             rw [hr] at hn
             simp only at hn ⊢
             have hti := hT t ti hl
             have hte := hT e te hl2
             have hu := hti.slice hk
             obtain ⟨i, d, z, g1, g2, g3, g4, g5, g6, g7, g8, g9⟩ := hte.ex
             obtain ⟨base, c', ex, hlc, hbn, hcp'⟩ := osl_val h hp' hr
             have hcc := hcp' cp rfl
             subst hcc
             by_cases hle : len + k ≤ c'
             · rw [if_pos hle] at hn ⊢
               obtain ⟨n1, n2, n3, n4⟩ := hn
               obtain ⟨ad, c, vals, ev, q1, q2, q3, q4, q5, q6, q7⟩ := slc_ok h hq' hcq hs n1 n2
               have hvl := q1.length
               have hml : (len + k) * te.size ≤ c' * te.size := zaf _ hle
               rw [Nat.add_mul] at hml
               obtain ⟨w', e1, e2⟩ := h.layS P hp' hr n3 (d := len * te.size) n4 xc vals q1 q2 q3 q4 c' base ex (by rw [n1]; omega)
               have hfc : (Builtin.firstCells te.size k (.slice ad k c)).run P w = .ok vals.toArray w := by
                 cases ad with
                 | none =>
                   have : k = 0 := (q6 rfl).1
                   subst this
                   have : vals = [] := List.length_eq_zero_iff.1 (by rw [hvl, n1]; simp)
                   subst this
                   simp [Builtin.firstCells]
                 | some dd => exact run_firstCells_some w te.size k dd k c vals (by rw [hvl, n1]) (q5 dd rfl)
               refine ⟨_, w', m, π, .inl (hex (.slice base (len + k) c') w' ?_), ?_, ⟨rfl, ?_⟩, ?_⟩
               · rw [ex, ev]
                 cases base with
                 | none =>
                   simp at e1; subst e1
                   simp [Builtin.append_, run_underlying hu, sizeOf, typeInfo, g1, g3, Builtin.lenOf, hle, hfc]
                 | some b =>
                   simp only at e1
                   simp [Builtin.append_, run_underlying hu, sizeOf, typeInfo, g1, g3, Builtin.lenOf, hle, hfc, e1]
               · exact e2.frmono (fun r hr => hr.1)
               · rcases osl_at h hp' hr with ⟨hπ, hl0, _, ad', e3⟩ | ⟨pl, ad', cc, hπ, e3, hlc', hpz, hor⟩
                 · rw [hπ]
                   rw [ex] at e3
                   cases e3
                   exact ⟨by omega, fun kk hkk => by cases hkk; rfl, base, by rw [show 0 + k = 0 by omega]⟩
                 · rw [hπ]
                   rw [ex] at e3
                   cases e3
                   refine ⟨hpz, ad', c', rfl, hle, fun kk hkk => by cases hkk; rfl, ?_⟩
                   rcases hor with ⟨h1, h2⟩ | h1
                   · exact .inl ⟨by omega, h2⟩
                   · exact .inr h1
               · exact SV.cl.mono (s := .one (.osl r off (len + k) (some c'))) (fun r hr => hr.1) hcp
             · rw [if_neg hle] at hn ⊢
               obtain ⟨n1, n2, n3, n4, n5, n6⟩ := hn
               obtain ⟨ad, c, vals, ev, q1, q2, q3, q4, q5, q6, q7⟩ := slc_ok h hq' hcq hs n1 n2
               have hvl := q1.length
               have hs2 : slc te.size hp (.one (.osl r off len (some c'))) = some ((row.cells.drop off).take (len * te.size), len) := by simp only [slc, hr]
               obtain ⟨ad2, c2, olds, ev2, o1, o2, o3, o4, o5, o6, o7⟩ := slc_ok h hp' hcp hs2 (by simp; omega) n2
               have hol := o1.length
               rw [ex] at ev2
               cases ev2
               have hk0 : k ≠ 0 := by omega
               have hzs : z.cells.size = te.size := by rw [← Array.length_toList, g7, g8]
               have hbk : len + k ≤ (len + k) * te.bytes := Nat.le_mul_of_pos_right _ n3
               have hlo : olds.length = len * te.size := by rw [hol]; simp; omega
               cases ad with
               | none => exact absurd (q6 rfl).1 hk0
               | some dd =>
                 have hcs : VL m π ((row.cells.drop off).take (len * te.size) ++ xc) (olds ++ vals) := by
                   refine VL.of (by simp [hol, hvl]) (fun i c v hi hv' => ?_)
                   rw [List.getElem?_append] at hi hv'
                   by_cases hlt : i < ((row.cells.drop off).take (len * te.size)).length
                   · rw [if_pos hlt] at hi
                     rw [if_pos (by omega)] at hv'
                     obtain ⟨v2, e1, e2⟩ := o1.get i c hi
                     rw [e1] at hv'; cases hv'; exact e2
                   · rw [if_neg hlt] at hi
                     rw [if_neg (by omega), hol] at hv'
                     obtain ⟨v2, e1, e2⟩ := q1.get _ c hi
                     rw [e1] at hv'; cases hv'; exact e2
                 have hgc := grownCap_ge w (len + k) c' e
                 have hnews := q5 dd rfl
                 have hrun : (Builtin.append_ #[t, t] o.type #[a.eval x, a.eval y]).run P w = .ok (.slice (some ⟨w.heap.size, 0, none⟩) (len + k) (grownCap w (len + k) c' e)) (w.drew.alloc (.cells ((olds ++ vals).toArray ++ Builtin.zeroCells z.cells (grownCap w (len + k) c' e - (len + k))) e)) := by
                   rw [ex, ev]
                   have hfo : (Builtin.firstCells i.size len (.slice base len c')).run P w.drew = .ok olds.toArray w.drew := by
                     cases base with
                     | none =>
                       have : len = 0 := hbn rfl
                       subst this
                       have : olds = [] := List.length_eq_zero_iff.1 (by rw [hlo]; simp)
                       subst this
                       simp [Builtin.firstCells]
                     | some bb => exact run_firstCells_some w.drew i.size len bb len c' olds (by rw [hlo, g3]) (fun j u hj => by simpa using o5 bb rfl j u hj)
                   exact run_append_grow_src w t t o.type e i z hu g1 g6 base len c' olds hfo _ k vals (Src.ofSlice w hu dd k c vals (by rw [hvl, n1, g3]) hnews q2) (by omega) (by omega) (by rw [g4]; exact growslice_fits (by omega) n4)
                 refine ⟨_, _, _, _, .inl (hex _ _ hrun), frm (h.grown hf _ (olds ++ vals) hcs ?_ ?_ _ e te.size (Nat.ne_of_gt n2) (w.drawn + 1)) (zad _), ⟨rfl, ?_⟩, ?_⟩
                 · intro c hc
                   rcases List.mem_append.1 hc with hc | hc
                   · exact o3 c hc
                   · exact q3 c hc
                 · intro c hc
                   rcases List.mem_append.1 hc with hc | hc
                   · exact o4 c hc
                   · exact q4 c hc
                 · rw [upd_same]
                   refine ⟨Nat.ne_of_gt n2, _, _, rfl, hgc, fun k hk => (by cases hk), .inr ⟨rfl, ?_⟩⟩
                   simp only [zeroCells_size, hzs, zam, hlo, hvl, n1]
                   rw [← Nat.add_mul, ← Nat.add_mul]
                   have : len + k + (grownCap w (len + k) c' e - (len + k)) = grownCap w (len + k) c' e := by omega
                   rw [this]
                   omega
                 · exact fun hq => hq.2 ⟨zad _, by simp only; omega⟩
         · exact hn.elim
   | _ => rw [hk] at hn; exact hn.elim
def sAppendZ (T : Tab) (get : Nat → Option Row) (t t' : Nat) (s x : SV) (n : Nat) : Res :=
  match slot t T.ts, slot t' T.ts with
  | some ti, some tj =>
    (match ti.kind, tj.kind with
    | .slice e, .int _ =>
      (match slot e T.ts with
      | none => bad
      | some te =>
        (match s, x with
        | .one (.osl r off len (some c)), .one (.sc (.int _ j)) =>
          (match get r with
            | none => bad
            | some row => ⟨0 < j ∧ c < len + j.toNat ∧ 0 < te.size ∧ 0 < te.bytes ∧ (len + j.toNat) * te.bytes ≤ 140737488355328 ∧ row.esz = te.size ∧ off + len * te.size ≤ row.cells.length,
                .one (.osl n 0 (len + j.toNat) none), [(n, some ⟨(row.cells.drop off).take (len * te.size) ++ zeros te.size te.zero j.toNat, te.size⟩)], 1⟩)
        | _, _ => bad))
    | _, _ => bad)
  | _, _ => bad
theorem sAppendZ_ok (T : Tab) (hT : TOk P T) (h : RelAt P w0 A N Fr tm hp a w m π) (hf : Fr n) {t t' : Nat} {x y : Operand} {c : Call} (ho : o.op = .call c) (hc1 : c.callee = .builtin .append) (hc2 : c.args = #[x, y]) (hc3 : c.argTypes = #[t, t']) {p q : SV} (hp' : VS m π p (a.eval x)) (hq' : VS m π q (a.eval y)) (hcp : p.cl Fr) (hn : (sAppendZ T hp t t' p q n).need) : Good P o w0 A N Fr tm hp a w n (sAppendZ T hp t t' p q n) := by
 have hex : ∀ r w', (Builtin.append_ #[t, t'] o.type #[a.eval x, a.eval y]).run P w = .ok r w' → (execOp a.eval o).run P w = .ok (.value r) w' := by
   intro r w' hr
   unfold execOp
   rw [ho]
   simp [resolve, hc1, hc2, hc3, invoke, builtin, hr]
 unfold sAppendZ at hn ⊢
 split at hn
 · rename_i ti tj hl hlj
   split at hn
   · rename_i e kn hk hkj
     cases hl2 : slot e T.ts with
     | none => rw [hl2] at hn; exact hn.elim
     | some te =>
       rw [hl2] at hn
       simp only at hn ⊢
       split at hn
       · rename_i r off len c' kq j
         cases hr : hp r with
         | none => rw [hr] at hn; exact hn.elim
         | some row =>
           rw [hr] at hn
           simp only at hn ⊢
           obtain ⟨n0, n1, n2, n3, n4, n5, n6⟩ := hn
           have hti := hT t ti hl
           have htj := hT t' tj hlj
           have hte := hT e te hl2
           have hu := hti.slice hk
           have huj := htj.int hkj
           obtain ⟨i, d, z, g1, g2, g3, g4, g5, g6, g7, g8, g9⟩ := hte.ex
           obtain ⟨base, cc, ex, hlc, hbn, hcp'⟩ := osl_val h hp' hr
           have hcc := hcp' c' rfl
           subst hcc
           obtain ⟨k, rfl⟩ : ∃ k : Nat, j = k := ⟨j.toNat, by omega⟩
           simp only [Int.toNat_natCast] at *
           have hs2 : slc te.size hp (.one (.osl r off len (some cc))) = some ((row.cells.drop off).take (len * te.size), len) := by simp only [slc, hr]
           obtain ⟨ad2, c2, olds, ev2, o1, o2, o3, o4, o5, o6, o7⟩ := slc_ok h hp' hcp hs2 (by simp; omega) n2
           have hol := o1.length
           rw [ex] at ev2
           cases ev2
           have ey := (vs_sc hq').1
           have hzs : z.cells.size = te.size := by rw [← Array.length_toList, g7, g8]
           have hbk : len + k ≤ (len + k) * te.bytes := Nat.le_mul_of_pos_right _ n3
           have hlo : olds.length = len * te.size := by rw [hol]; simp; omega
           obtain ⟨q1, q2, q3, q4⟩ := zeros_vl (m := m) (π := π) (Fr := Fr) g8 n2 z.cells g7 g9 k
           have hzc : Builtin.zeroCells z.cells k = madeCells z.cells (k * te.size) := by rw [← hzs]; rfl
           have hkb : k * i.bytes ≤ (len + k) * te.bytes := by rw [g4]; exact zaf _ (by omega)
           have hfo : (Builtin.firstCells i.size len (.slice base len cc)).run P w.drew = .ok olds.toArray w.drew := by
             cases base with
             | none =>
               have : len = 0 := hbn rfl
               subst this
               have : olds = [] := List.length_eq_zero_iff.1 (by rw [hlo]; simp)
               subst this
               simp [Builtin.firstCells]
             | some bb => exact run_firstCells_some w.drew i.size len bb len cc olds (by rw [hlo, g3]) (fun j u hj => by simpa using o5 bb rfl j u hj)
           have hrun := Go.Lib.run_append_grow_zeros w t t' o.type e i z kq kn hu huj g1 g6 base len cc olds hfo k (by omega) (by rw [g3]; exact n2) n1 (by omega) (by omega) (by rw [g4]; exact growslice_fits (by omega) n4)
           rw [← ex, ← ey, hzc] at hrun
           rw [show olds.toArray ++ madeCells z.cells (k * te.size) = (olds ++ (madeCells z.cells (k * te.size)).toList).toArray by simp] at hrun
           have hgc := grownCap_ge w (len + k) cc e
           have hcs : VL m π ((row.cells.drop off).take (len * te.size) ++ zeros te.size te.zero k) (olds ++ (madeCells z.cells (k * te.size)).toList) := by
             refine VL.of (by simp only [zam, hol, q1.length]) (fun i c v hi hv' => ?_)
             rw [List.getElem?_append] at hi hv'
             by_cases hlt : i < ((row.cells.drop off).take (len * te.size)).length
             · rw [if_pos hlt] at hi
               rw [if_pos (by omega)] at hv'
               obtain ⟨v2, e1, e2⟩ := o1.get i c hi
               rw [e1] at hv'; cases hv'; exact e2
             · rw [if_neg hlt] at hi
               rw [if_neg (by omega), hol] at hv'
               obtain ⟨v2, e1, e2⟩ := q1.get _ c hi
               rw [e1] at hv'; cases hv'; exact e2
           refine ⟨_, _, _, _, .inl (hex _ _ hrun), frm (h.grown hf _ _ hcs ?_ ?_ _ e te.size (Nat.ne_of_gt n2) (w.drawn + 1)) (zad _), ⟨rfl, ?_⟩, ?_⟩
           · intro c hc
             rcases List.mem_append.1 hc with hc | hc
             · exact o3 c hc
             · exact q2 c hc
           · intro c hc
             rcases List.mem_append.1 hc with hc | hc
             · exact o4 c hc
             · exact q3 c hc
           · rw [upd_same]
             refine ⟨Nat.ne_of_gt n2, _, _, rfl, hgc, fun k hk => (by cases hk), .inr ⟨rfl, ?_⟩⟩
             simp only [zeroCells_size, hzs, zam, hlo, Array.length_toList, size_madeCells]
             rw [← Nat.add_mul, ← Nat.add_mul]
             have : len + k + (grownCap w (len + k) cc e - (len + k)) = grownCap w (len + k) cc e := by omega
             rw [this]
             omega
           · exact fun hq => hq.2 ⟨zad _, by simp only; omega⟩
       · exact hn.elim
   · exact hn.elim
 · exact hn.elim
def sAppend1 (T : Tab) (get : Nat → Option Row) (t : Nat) (s x : SV) (n : Nat) : Res :=
  match s with
  | .one (.osl r off len (some (c + 1))) => sAppendK T get t s x n
  | _ => sAppend T get t s x n
theorem sAppend1_ok (T : Tab) (hT : TOk P T) (h : RelAt P w0 A N Fr tm hp a w m π) (hf : Fr n) {t : Nat} {x y : Operand} {c : Call} (ho : o.op = .call c) (hc1 : c.callee = .builtin .append) (hc2 : c.args = #[x, y]) (hc3 : c.argTypes = #[t, t]) {p q : SV} (hp' : VS m π p (a.eval x)) (hq' : VS m π q (a.eval y)) (hcq : q.cl Fr) (hcp : p.cl Fr) (hn : (sAppend1 T hp t p q n).need) : Good P o w0 A N Fr tm hp a w n (sAppend1 T hp t p q n) := by
 unfold sAppend1 at hn ⊢
 split at hn
 · exact sAppendK_ok T hT h hf ho hc1 hc2 hc3 hp' hq' hcq hcp hn
 · exact sAppend_ok T hT h hf ho hc1 hc2 hc3 hp' hq' hcq hn
theorem slc_loc {sz : Nat} {get get' : Nat → Option Row} {x : SV} (h : ∀ r ∈ x.ref, get r = get' r) : slc sz get x = slc sz get' x := by
 cases x with
 | one c =>
   cases c with
   | osl r off len cap => simp only [slc, h r (by simp [SV.ref])]
   | sc u => unfold slc; split <;> first | rfl | (rename_i e; cases e)
   | _ => rfl
 | _ => rfl
section
variable {get get' : Nat → Option Row}
theorem sCap_loc (T : Tab) (t : Nat) {x : SV} (hx : ∀ r ∈ x.ref, get r = get' r) : sCap T get t x = sCap T get' t x := by
 unfold sCap
 split
 · rfl
 · split <;> first | rfl | skip
   rename_i r off len c _
   have hl : live get r = live get' r := by simp only [live, hx r (by simp [SV.ref])]
   rw [hl]
theorem sClear_loc (T : Tab) (t : Nat) {x : SV} (hx : ∀ r ∈ x.ref, get r = get' r) : sClear T get t x = sClear T get' t x := by
 unfold sClear
 split
 · rfl
 · split
   · split
     · rfl
     · split <;> first | rfl | skip
       rename_i r off len cap
       rw [hx r (by simp [SV.ref])]
   · rfl
theorem sCopy_loc (T : Tab) (t : Nat) {x y : SV} (hx : ∀ r ∈ x.ref, get r = get' r) (hy : ∀ r ∈ y.ref, get r = get' r) : sCopy T get t x y = sCopy T get' t x y := by
 unfold sCopy
 simp only [slc_loc hy]
 split
 · rfl
 · split
   · split
     · rfl
     · split
       · rfl
       · split <;> first | rfl | skip
         rename_i r off len cap
         rw [hx r (by simp [SV.ref])]
   · rfl
theorem sAppend_loc (T : Tab) (t n : Nat) {x y : SV} (hx : ∀ r ∈ x.ref, get r = get' r) (hy : ∀ r ∈ y.ref, get r = get' r) : sAppend T get t x y n = sAppend T get' t x y n := by
 simp only [sAppend, slc_loc hy]
 split
 · rfl
 · split
   · split
     · rfl
     · split
       · rfl
       · split <;> first | rfl | skip
         · rename_i r off len
           have hl : live get r = live get' r := by simp only [live, hx r (by simp [SV.ref])]
           rw [hl]
         · rename_i r off len cap _
           rw [hx r (by simp [SV.ref])]
   · rfl
theorem sAppendK_loc (T : Tab) (t n : Nat) {x y : SV} (hx : ∀ r ∈ x.ref, get r = get' r) (hy : ∀ r ∈ y.ref, get r = get' r) : sAppendK T get t x y n = sAppendK T get' t x y n := by
 simp only [sAppendK, slc_loc hy]
 split
 · rfl
 · split
   · split
     · rfl
     · split
       · rfl
       · split <;> first | rfl | skip
         rename_i r off len cap
         rw [hx r (by simp [SV.ref])]
   · rfl
theorem sAppend1_loc (T : Tab) (t n : Nat) {x y : SV} (hx : ∀ r ∈ x.ref, get r = get' r) (hy : ∀ r ∈ y.ref, get r = get' r) : sAppend1 T get t x y n = sAppend1 T get' t x y n := by
 unfold sAppend1
 split
 · exact sAppendK_loc T t n hx hy
 · exact sAppend_loc T t n hx hy
theorem sAppendZ_loc (T : Tab) (t t' n : Nat) {x y : SV} (hx : ∀ r ∈ x.ref, get r = get' r) : sAppendZ T get t t' x y n = sAppendZ T get' t t' x y n := by
 unfold sAppendZ
 split
 · split
   · split
     · rfl
     · split <;> first | rfl | skip
       rename_i r off len c kq j
       rw [hx r (by simp [SV.ref])]
   · rfl
 · rfl
end
def UpsOk (F : List Nat) (n : Nat) (r : Res) : Prop := ∀ u ∈ r.ups, u.1 ∈ F ∨ (n ≤ u.1 ∧ u.1 < n + max 1 r.new)
theorem ups_nil {F : List Nat} {n : Nat} {r : Res} (h : r.ups = []) : UpsOk F n r := fun u hu => by rw [h] at hu; simp at hu
theorem ups_new {F : List Nat} {n : Nat} {r : Res} {row : Option Row} (h : r.ups = [(n, row)]) : UpsOk F n r := fun u hu => by
  rw [h] at hu
  simp at hu
  subst hu
  right; simp only; omega
theorem ups_old {F : List Nat} {n q : Nat} {r : Res} {row : Option Row} (h : r.ups = [(q, row)]) (hq : q ∈ F) : UpsOk F n r := fun u hu => by
  rw [h] at hu
  simp at hu
  subst hu
  exact .inl hq
theorem sCap_ups (T : Tab) (get : Nat → Option Row) (t : Nat) (x : SV) (F : List Nat) (n : Nat) : UpsOk F n (sCap T get t x) := by
 refine ups_nil ?_
 unfold sCap
 split
 · rfl
 · split <;> rfl
theorem sClear_ups (T : Tab) (get : Nat → Option Row) (t : Nat) (x : SV) (F : List Nat) (n : Nat) (hF : ∀ r ∈ x.ref, r ∈ F) : UpsOk F n (sClear T get t x) := by
 unfold sClear
 split
 · exact ups_nil rfl
 · split
   · split
     · exact ups_nil rfl
     · split
       · split
         · exact ups_nil rfl
         · exact ups_old rfl (hF _ (by simp [SV.ref]))
       · exact ups_nil rfl
   · exact ups_nil rfl
theorem sCopy_ups (T : Tab) (get : Nat → Option Row) (t : Nat) (x y : SV) (F : List Nat) (n : Nat) (hF : ∀ r ∈ x.ref, r ∈ F) : UpsOk F n (sCopy T get t x y) := by
 unfold sCopy
 split
 · exact ups_nil rfl
 · split
   · split
     · exact ups_nil rfl
     · split
       · exact ups_nil rfl
       · split
         · split
           · exact ups_nil rfl
           · exact ups_old rfl (hF _ (by simp [SV.ref]))
         · exact ups_nil rfl
   · exact ups_nil rfl
theorem sAppend_ups (T : Tab) (get : Nat → Option Row) (t : Nat) (x y : SV) (F : List Nat) (n : Nat) (hF : ∀ r ∈ x.ref, r ∈ F) : UpsOk F n (sAppend T get t x y n) := by
 unfold sAppend
 split
 · exact ups_nil rfl
 · split
   · split
     · exact ups_nil rfl
     · split
       · exact ups_nil rfl
       · split
         · exact ups_new rfl
         · exact ups_new rfl
         · exact ups_new rfl
         · split
           · exact ups_nil rfl
           · intro u hu
             simp at hu
             rcases hu with hu | hu
             · subst hu
               exact .inl (hF _ (by simp [SV.ref]))
             · subst hu
               right; simp
         · exact ups_nil rfl
   · exact ups_nil rfl
theorem sAppendK_ups (T : Tab) (get : Nat → Option Row) (t : Nat) (x y : SV) (F : List Nat) (n : Nat) (hF : ∀ r ∈ x.ref, r ∈ F) : UpsOk F n (sAppendK T get t x y n) := by
 unfold sAppendK
 split
 · exact ups_nil rfl
 · split
   · split
     · exact ups_nil rfl
     · split
       · exact ups_nil rfl
       · split
         · split
           · exact ups_nil rfl
           · split
             · exact ups_old rfl (hF _ (by simp [SV.ref]))
             · exact ups_new rfl
         · exact ups_nil rfl
   · exact ups_nil rfl
theorem sAppend1_ups (T : Tab) (get : Nat → Option Row) (t : Nat) (x y : SV) (F : List Nat) (n : Nat) (hF : ∀ r ∈ x.ref, r ∈ F) : UpsOk F n (sAppend1 T get t x y n) := by
 unfold sAppend1
 split
 · exact sAppendK_ups T get t _ y F n hF
 · exact sAppend_ups T get t _ y F n hF
theorem sAppendZ_ups (T : Tab) (get : Nat → Option Row) (t t' : Nat) (x y : SV) (F : List Nat) (n : Nat) : UpsOk F n (sAppendZ T get t t' x y n) := by
 unfold sAppendZ
 split
 · split
   · split
     · exact ups_nil rfl
     · split
       · split
         · exact ups_nil rfl
         · exact ups_new rfl
       · exact ups_nil rfl
   · exact ups_nil rfl
 · exact ups_nil rfl
end
end Go.Proofs.YtnahpejlhfeleabGreat.Sh
namespace Go.Proofs.YtnahpejlhfeleabGreat.Sh
open Go.RowKit
def keyB : TK → Value → Bool
  | .int k, .int k' _ => decide (k' = k)
  | .str, .string _ => true
  | .bool, .bool _ => true
  | _, _ => false
def keyEq : Value → Value → Bool
  | .int _ a, .int _ b => a == b
  | .string a, .string b => a == b
  | .bool a, .bool b => a == b
  | _, _ => false
def mkeys (k : TK) : List Cell → Bool
  | [] => true
  | .sc v :: _ :: r => keyB k v && mkeys k r
  | _ => false
def mget (k : Value) : List Cell → Option Cell
  | .sc v :: c :: r => if keyEq k v = true then some c else mget k r
  | _ => none
def mset (k : Value) (x : Cell) : List Cell → List Cell
  | .sc v :: c :: r => if keyEq k v = true then .sc k :: x :: r else .sc v :: c :: mset k x r
  | _ => [.sc k, x]
def mval (z : List Value) : Option Cell → Cell
  | some c => c
  | none => .sc (z.headD (.bool false))
theorem mval_some (z : List Value) (c : Cell) : mval z (some c) = c := rfl
theorem mval_none (z : Value) : mval [z] none = .sc z := rfl
def sMakeMap (T : Tab) (t n : Nat) : Res :=
  match slot t T.ts with
  | none => bad
  | some ti => match ti.kind with
    | .map _ _ => ⟨True, .one (.mp n false), [(n, some ⟨[], 0⟩)], 1⟩
    | _ => bad
def sLookup (T : Tab) (get : Nat → Option Row) (t : Nat) (x i : SV) (ok : Bool) : Res :=
  match slot t T.ts, i with
  | some ti, .one (.sc k) => (match ti.kind, x with
    | .map kt et, .one (.mp r false) => (match slot kt T.ts, slot et T.ts, get r with
      | some tk, some te, some row => ⟨row.esz = 0 ∧ mkeys tk.kind row.cells = true ∧ keyB tk.kind k = true ∧ te.kind.isAgg = false,
          (if ok then .tup [.one (mval te.zero (mget k row.cells)), V (.bool (mget k row.cells).isSome)] else .one (mval te.zero (mget k row.cells))), [], 0⟩
      | _, _, _ => bad)
    | _, _ => bad)
  | _, _ => bad
def sMapUpdate (T : Tab) (get : Nat → Option Row) (t : Nat) (x i v : SV) : Res :=
  match slot t T.ts, i, v with
  | some ti, .one (.sc k), .one c => (match ti.kind, x with
    | .map kt et, .one (.mp r false) => (match slot kt T.ts, get r with
      | some tk, some row => ⟨row.esz = 0 ∧ mkeys tk.kind row.cells = true ∧ keyB tk.kind k = true ∧ c ≠ .un, .one .un, [(r, some ⟨mset k c row.cells, 0⟩)], 0⟩
      | _, _ => bad)
    | _, _ => bad)
  | _, _, _ => bad
theorem keyB_is {k : TK} {d : TypeDesc} {v : Value} (hf : k.fits d) (h : keyB k v = true) : MapKept.IsKey d v := by
 cases k <;> cases v <;> simp [keyB] at h <;> cases d <;> simp_all [TK.fits, MapKept.IsKey]
theorem keyEq_iff {d : TypeDesc} {a b : Value} (ha : MapKept.IsKey d a) (hb : MapKept.IsKey d b) : Instr.sameNow d a b = some (keyEq a b) ∧ (keyEq a b = true ↔ a = b) := by
 cases d <;> cases a <;> cases b <;> simp_all [MapKept.IsKey, Instr.sameNow, MapKept.bytes_beq, keyEq]
theorem key_one {k : TK} {v : Value} (h : keyB k v = true) : v.oneCell' = true := by
 cases k <;> cases v <;> simp [keyB] at h <;> rfl
theorem mget_find {m : Mem} {π : Plc} {k : TK} {d : TypeDesc} (hf : k.fits d) {kv : Value} (hk : keyB k kv = true) : ∀ (es : List MapEntry) (cs : List Cell) (i : Nat), mkeys k cs = true → VL m π cs (es.flatMap fun e => [e.key, e.val]) →
    (Instr.findNow d kv es i = some none ∧ mget kv cs = none ∧ ∀ x, mset kv x cs = cs ++ [.sc kv, x]) ∨
    ∃ j e c, Instr.findNow d kv es i = some (some (i + j, e.val)) ∧ es[j]? = some e ∧ e.key = kv ∧ mget kv cs = some c ∧ cs[2 * j + 1]? = some c ∧ ∀ x, mset kv x cs = (cs.set (2 * j + 1) x)
  | [], [], i, _, _ => .inl ⟨rfl, rfl, fun _ => rfl⟩
  | [], _ :: _, i, _, h => h.elim
  | e :: es, [], i, _, h => h.elim
  | e :: es, [c], i, hm, _ => by cases c <;> simp [mkeys] at hm
  | e :: es, c :: c2 :: cs, i, hm, ⟨h1, h2, h3⟩ => by
    cases c <;> simp only [mkeys, zae] at hm <;> try (cases hm; done)
    rename_i v
    have hv : e.key = v := by cases h1; rfl
    obtain ⟨q1, q2⟩ := keyEq_iff (keyB_is hf hk) (keyB_is hf hm.1)
    by_cases he : keyEq kv v = true
    · have e1 := q2.1 he
      refine .inr ⟨0, e, c2, ?_, rfl, by rw [hv, e1], ?_, rfl, fun x => ?_⟩
      · unfold Instr.findNow
        rw [hv, q1, he]
        rfl
      · simp only [mget, if_pos he]
      · simp only [mset, if_pos he]
        rw [e1]
        rfl
    · have he' : keyEq kv v = false := by cases hh : keyEq kv v <;> simp_all
      rcases mget_find hf hk es cs (i + 1) hm.2 h3 with ⟨g1, g2, g3⟩ | ⟨j, e', c', g1, g2, g3, g4, g5, g6⟩
      · refine .inl ⟨?_, ?_, fun x => ?_⟩
        · unfold Instr.findNow
          rw [hv, q1, he']
          exact g1
        · simp only [mget, if_neg he, g2]
        · simp only [mset, if_neg he, g3]
          rfl
      · refine .inr ⟨j + 1, e', c', ?_, by simpa using g2, g3, ?_, ?_, fun x => ?_⟩
        · unfold Instr.findNow
          rw [hv, q1, he']
          show Instr.findNow _ _ es (i + 1) = _
          rw [g1, zai, Nat.add_comm 1 j]
        · simp only [mget, if_neg he, g4]
        · rw [show 2 * (j + 1) + 1 = (2 * j + 1) + 1 + 1 by omega]
          simpa using g5
        · simp only [mset, if_neg he, g6]
          rw [show 2 * (j + 1) + 1 = (2 * j + 1) + 1 + 1 by omega]
          rfl
theorem flatMap_set2 : ∀ (es : List MapEntry) (j : Nat) (e e' : MapEntry), es[j]? = some e → e'.key = e.key → (es.set j e').flatMap (fun e => [e.key, e.val]) = (es.flatMap fun e => [e.key, e.val]).set (2 * j + 1) e'.val
  | [], j, e, e', h, _ => by simp at h
  | x :: es, 0, e, e', h, hk => by
    simp at h
    subst h
    simp [hk]
  | x :: es, j + 1, e, e', h, hk => by
    have := flatMap_set2 es j e e' (by simpa using h) hk
    simp only [List.set_cons_succ, List.flatMap_cons, this]
    rw [show 2 * (j + 1) + 1 = (2 * j + 1) + 1 + 1 by omega]
    rfl
section
variable {P : Program} {o : Oper} {w0 : Base} {A : Nat → Prop} {N : Nat} {Fr : Nat → Prop} {tm : Nat → Option SV} {hp : Nat → Option Row} {a : Act} {w : World} {m : Mem} {π : Plc} {n : Nat}
theorem TIok.map {t : Nat} {ti : TI} (h : TIok P t ti) {k e : Nat} (hk : ti.kind = .map k e) : P.underlying t = some (.map k e) := by
 obtain ⟨i, d, z, _, h2, _, _, h5, _⟩ := h.ex
 rw [hk] at h5
 cases d <;> simp [TK.fits] at h5
 obtain ⟨rfl, rfl⟩ := h5
 exact h2
theorem sMakeMap_ok (T : Tab) (hT : TOk P T) (h : RelAt P w0 A N Fr tm hp a w m π) (hf : Fr n) {t : Nat} (ho : o.op = .makeMap t none) (hn : (sMakeMap T t n).need) : Good P o w0 A N Fr tm hp a w n (sMakeMap T t n) := by
 have hex : execOp a.eval o = (do pure (.value (← Instr.makeMap t none))) := by unfold execOp; rw [ho]; rfl
 unfold sMakeMap at hn ⊢
 split
 · rename_i e; rw [e] at hn; exact hn.elim
 · rename_i ti hl
   rw [hl] at hn
   simp only at hn
   split
   · have h1 : RelAt P w0 A N Fr tm hp a (w.alloc (.map #[] 0)) m π :=
       h.world (fun _ => False) rfl rfl rfl (by simp) (fun b hb _ => Below.heap_alloc _ _ _ hb) (fun b hb => hb.elim) (fun _ _ _ hb => hb) (fun _ _ _ hb => hb)
     have h2 := h1.adopt0 n hf ⟨w.heap.size, 0, 0, 0⟩ ⟨[], 0⟩ #[] 0 (h.new _ h.keep.size) rfl (.inr ⟨rfl, .map #[] 0, by show (w.heap.push _)[w.heap.size]? = _; simp, rfl⟩)
       ⟨fun e => absurd rfl e, fun _ => rfl⟩ ⟨fun e => absurd rfl e, fun _ => rfl⟩ (by simp) (by simp) (by simp)
       (fun r q hq => by have := h.lt hq; show q.b ≠ w.heap.size; omega)
       (fun ad v hv => by have := World.block_lt_of_cell? _ _ (h.mok ad v hv).2; show ad.block ≠ w.heap.size; omega)
     refine ⟨.map (some w.heap.size), _, m, _, .inl ?_, h2.frmono (fun r hr => ⟨hr.1, fun e => hr.2 (by simp only; omega)⟩), ⟨rfl, ?_⟩, fun hq => hq.2 (by simp only; omega)⟩
     · rw [hex]
       simp [Instr.makeMap]
     · show match upd π n _ n with | none => True | some none => False | some (some p) => _
       rw [upd_same]
       exact ⟨rfl, rfl⟩
   · rename_i hno
     split at hn
     · rename_i hk; exact absurd hk (hno _ _)
     · exact hn.elim
theorem mapObj_at (h : RelAt P w0 A N Fr tm hp a w m π) {r : Nat} {row : Row} (hr : hp r = some row) (hz : row.esz = 0) {tk : TK} (hev : mkeys tk row.cells = true) {x : Value} (hx : VS m π (.one (.mp r false)) x) : ∃ p es clock, π r = some (some p) ∧ p.esz = 0 ∧ x = .map (some p.b) ∧ w.heap[p.b]? = some (.map es clock) ∧ VL m π row.cells (mapArr es) := by
 have hrow := h.rows r row hr
 unfold RowOk at hrow
 obtain ⟨h1, h2⟩ := hx
 cases hπ : π r with
 | none => rw [hπ] at hrow; exact hrow.elim
 | some q =>
   rw [hπ] at h2 hrow
   cases q with
   | none => exact h2.elim
   | some p =>
     simp only at h2
     obtain ⟨g1, g2, arr, e, g3, g4, g5, g6⟩ := hrow
     rcases g3 with ⟨e0, _⟩ | ⟨_, o, g3, g3'⟩
     · exact absurd h2.1 e0
     have hlen := g5.2 h2.1
     have ho := g4.2 h2.1
     have hmk : ∃ es clock, o = .map es clock := by
       cases o <;> simp only [objArr, Option.some.injEq, reduceCtorEq] at g3'
       · exact ⟨_, _, rfl⟩
       · exfalso
         have : arr.size = 3 := by rw [← Array.length_toList, ← g3']; rfl
         rw [this] at hlen
         obtain ⟨c0, c1, c2, hc⟩ : ∃ c0 c1 c2, row.cells = [c0, c1, c2] := by
           match h : row.cells, hlen with
           | [a, b, c], _ => exact ⟨a, b, c, rfl⟩
         rw [hc] at hev
         cases c0 <;> cases c2 <;> simp [mkeys] at hev
     obtain ⟨es, clock, rfl⟩ := hmk
     simp only [objArr, Option.some.injEq] at g3'
     refine ⟨p, es, clock, rfl, h2.1, h2.2, g3, ?_⟩
     rw [g3']
     refine VL.of (by simpa using hlen) (fun i c v hi hv => ?_)
     obtain ⟨x, k1, k2⟩ := g6 i c hi
     rw [ho, zab] at k1
     have : v = x := by
       rw [Array.getElem?_toList] at hv
       rw [k1] at hv
       cases hv; rfl
     rw [this]; exact k2
theorem sLookup_ok (T : Tab) (hT : TOk P T) (h : RelAt P w0 A N Fr tm hp a w m π) {t : Nat} {x i : Operand} {ok : Bool} (ho : o.op = .lookup t x i ok) {p q : SV} (hp' : VS m π p (a.eval x)) (hq' : VS m π q (a.eval i)) (hn : (sLookup T hp t p q ok).need) : Good P o w0 A N Fr tm hp a w n (sLookup T hp t p q ok) := by
 have hex : execOp a.eval o = (do pure (.value (← Instr.lookup t (a.eval x) (a.eval i) ok))) := by unfold execOp; rw [ho]
 unfold sLookup at hn ⊢
 split at hn
 · rename_i ti k hl
   have hti := hT t ti hl
   obtain ⟨ei, _⟩ := vs_sc hq'
   split at hn
   · rename_i kt et r hk
     split at hn
     · rename_i tk te row hl2 hl3 hr
       obtain ⟨n1, n2, n3, n4⟩ := hn
       have hu := hti.map hk
       have htk := hT kt tk hl2
       have hte := hT et te hl3
       obtain ⟨dk, hdk, hfk⟩ := htk.und
       obtain ⟨p0, es, clock, hπ, hz, ex, hb, hvl⟩ := mapObj_at h hr n1 n2 hp'
       obtain ⟨it, d, z, z1, z2, z3, z4, z5, z6, z7, z8, z9⟩ := hte.ex
       have hzv : (zeroValue et).run P w = .ok z w := by simp [zeroValue, typeInfo, z1, z6]
       have hz1 : z.oneCell' = true := hte.flt n4 it z z1 z6
       have hz2 : te.zero = [z] := by
         rw [← z7]
         cases z <;> simp [Value.oneCell', Value.cells] at hz1 ⊢
       have hck : ∀ em, (Instr.checkKey em 10000 kt k).run P w = .ok () w := fun em => MapKept.run_checkKey hdk (keyB_is hfk n3) em 9999
       rcases mget_find hfk n3 es.toList row.cells 0 n2 hvl with ⟨f1, f2, f3⟩ | ⟨j, e, c, f1, f2, f3, f4, f5, f6⟩
       · have hrun : (Instr.lookup t (a.eval x) (a.eval i) ok).run P w = .ok (if ok then .tuple #[z, .bool false] else z) w := by
           rw [ex, ei]
           cases ok <;> simp [Instr.lookup, run_underlying hu, MapKept.run_getObj_map hb, hck, MapKept.run_findKey hdk f1, Result.andThen, hzv]
         refine good_pure h (v := if ok then .tuple #[z, .bool false] else z) (by rw [hex]; simp [hrun]) ?_ ?_
         · rw [f2, hz2]
           cases ok
           · exact VG.sc z hz1
           · exact ⟨#[z, .bool false], rfl, VG.sc z hz1, VG.sc _ rfl, trivial⟩
         · rw [f2]
           cases ok
           · exact trivial
           · exact ⟨trivial, trivial, trivial⟩
       · have hrun : (Instr.lookup t (a.eval x) (a.eval i) ok).run P w = .ok (if ok then .tuple #[e.val, .bool true] else e.val) w := by
           rw [ex, ei]
           cases ok <;> simp [Instr.lookup, run_underlying hu, MapKept.run_getObj_map hb, hck, MapKept.run_findKey hdk f1, Result.andThen]
         have hev : VC m π c e.val := by
           obtain ⟨u, k1, k2⟩ := hvl.get _ c f5
           have hfl : ∀ (l : List MapEntry) (j : Nat) e, l[j]? = some e → (l.flatMap fun e => [e.key, e.val])[2 * j + 1]? = some e.val := by
             intro l
             induction l with
             | nil => intro j e h; simp at h
             | cons y l ih =>
               intro j e h
               cases j with
               | zero => simp at h; subst h; simp
               | succ j =>
                 have := ih j e (by simpa using h)
                 rw [show 2 * (j + 1) + 1 = (2 * j + 1) + 1 + 1 by omega]
                 simpa using this
           rw [mapArr, hfl _ _ _ f2] at k1
           cases k1
           exact k2
         have hcl : c.cl Fr := h.rcl r row hr c (List.mem_of_getElem? f5)
         refine good_pure h (v := if ok then .tuple #[e.val, .bool true] else e.val) (by rw [hex]; simp [hrun]) ?_ ?_
         · rw [f4]
           cases ok
           · exact hev
           · exact ⟨#[e.val, .bool true], rfl, hev, VG.sc _ rfl, trivial⟩
         · rw [f4]
           cases ok
           · exact hcl
           · exact ⟨hcl, trivial, trivial⟩
     · exact hn.elim
   · exact hn.elim
 · exact hn.elim
theorem mset_mem {k : Value} {x : Cell} : ∀ (cs : List Cell) {c : Cell}, c ∈ mset k x cs → c = .sc k ∨ c = x ∨ c ∈ cs
  | [], c, h => by simp only [mset, List.mem_cons, List.not_mem_nil, or_false] at h ⊢; rcases h with e | e <;> simp [e]
  | [y], c, h => by
    have : c = .sc k ∨ c = x := by cases y <;> simpa [mset] using h
    rcases this with e | e <;> simp [e]
  | y :: z :: r, c, h => by
    cases y with
    | sc v =>
      simp only [mset] at h
      split at h
      · simp only [List.mem_cons] at h
        rcases h with e | e | e
        · exact .inl e
        · exact .inr (.inl e)
        · exact .inr (.inr (by simp [e]))
      · simp only [List.mem_cons] at h
        rcases h with e | e | e
        · exact .inr (.inr (by simp [e]))
        · exact .inr (.inr (by simp [e]))
        · rcases mset_mem r e with e | e | e
          · exact .inl e
          · exact .inr (.inl e)
          · exact .inr (.inr (by simp [e]))
    | _ =>
      simp only [mset, List.mem_cons, List.not_mem_nil, or_false] at h
      rcases h with e | e
      · exact .inl e
      · exact .inr (.inl e)
theorem sMapUpdate_ok (T : Tab) (hT : TOk P T) (h : RelAt P w0 A N Fr tm hp a w m π) {t : Nat} {x i y : Operand} (ho : o.op = .mapUpdate t x i y) {p q s : SV} (hp' : VS m π p (a.eval x)) (hq' : VS m π q (a.eval i)) (hs' : VS m π s (a.eval y)) (hcl : s.cl Fr) (hn : (sMapUpdate T hp t p q s).need) : Good P o w0 A N Fr tm hp a w n (sMapUpdate T hp t p q s) := by
 have hex : execOp a.eval o = (do Instr.mapUpdate t (a.eval x) (a.eval i) (a.eval y); pure .skip) := by unfold execOp; rw [ho]
 unfold sMapUpdate at hn ⊢
 split at hn
 · rename_i ti k c hl
   have hti := hT t ti hl
   obtain ⟨ei, _⟩ := vs_sc hq'
   split at hn
   · rename_i kt et r hk
     split at hn
     · rename_i tk row hl2 hr
       obtain ⟨n1, n2, n3, n4⟩ := hn
       have hu := hti.map hk
       have htk := hT kt tk hl2
       obtain ⟨dk, hdk, hfk⟩ := htk.und
       obtain ⟨p0, es, clock, hπ, hz, ex, hb, hvl⟩ := mapObj_at h hr n1 n2 hp'
       have hck : ∀ em, (Instr.checkKey em 10000 kt k).run P w = .ok () w := fun em => MapKept.run_checkKey hdk (keyB_is hfk n3) em 9999
       have hv1 : VC m π c (a.eval y) := hs'
       have hm : ∀ ad v, m ad = some v → ad.block ≠ p0.b := fun ad v hv => h.dis r p0 ad v hπ hv
       have hcl' : ∀ d ∈ mset k c row.cells, d.cl Fr := fun d hd => by
         rcases mset_mem _ hd with e | e | e
         · rw [e]; trivial
         · rw [e]; exact hcl
         · exact h.rcl r row hr d e
       have hso' : ∀ d ∈ mset k c row.cells, d ≠ .un := fun d hd => by
         rcases mset_mem _ hd with e | e | e
         · rw [e]; exact fun hh => by cases hh
         · rw [e]; exact n4
         · exact h.rsol r row hr d e
       have hgo : ∀ es' clock', (Instr.mapUpdate t (a.eval x) (a.eval i) (a.eval y)).run P w = .ok () { w with heap := w.heap.setIfInBounds p0.b (.map es' clock') } → VL m π (mset k c row.cells) (mapArr es') →
           Good P o w0 A N Fr tm hp a w n ⟨True, .one .un, [(r, some ⟨mset k c row.cells, 0⟩)], 0⟩ := by
         intro es' clock' hrun hvl'
         have hlen := hvl'.length
         have ho0 : p0.o = 0 := by
           have hro := h.rows r row hr
           unfold RowOk at hro
           rw [hπ] at hro
           obtain ⟨_, _, arr, e, _, g4, _⟩ := hro
           exact g4.2 hz
         have := h.reobj hr hπ (.map es' clock') (mset k c row.cells) (mapArr es').toArray 0 hm
           (.inr ⟨hz, .map es' clock', by show (w.heap.setIfInBounds p0.b _)[p0.b]? = _; rw [Array.getElem?_setIfInBounds_self_of_lt (h.lt hπ)], rfl⟩)
           ⟨fun e => absurd hz e, fun _ => ho0⟩ ⟨fun e => absurd hz e, fun _ => by simpa using hlen⟩
           (fun i c hi => by
             obtain ⟨u, k1, k2⟩ := hvl'.get i c hi
             exact ⟨u, by rw [ho0, zab]; simpa using k1, k2⟩) hcl' hso'
         rw [n1] at this
         refine ⟨undef, _, m, π, .inr ⟨?_, rfl⟩, this.frmono (fun r hr => hr.1), trivial, trivial⟩
         rw [hex]
         simp [hrun]
       have hmono : (⟨True, .one .un, [(r, some ⟨mset k c row.cells, 0⟩)], 0⟩ : Res).val = .one .un := rfl
       have fin : Good P o w0 A N Fr tm hp a w n ⟨True, .one .un, [(r, some ⟨mset k c row.cells, 0⟩)], 0⟩ := by
         rcases mget_find hfk n3 es.toList row.cells 0 n2 hvl with ⟨f1, f2, f3⟩ | ⟨j, e, c', f1, f2, f3, f4, f5, f6⟩
         · refine hgo (es.push { key := k, val := a.eval y, born := clock }) (clock + 1) ?_ ?_
           · rw [ex, ei]
             simp [Instr.mapUpdate, run_underlying hu, MapKept.run_getObj_map hb, hck, MapKept.run_findKey hdk f1, MapKept.run_setObj_map _ hb, Result.andThen]
           · rw [f3]
             have : mapArr (es.push { key := k, val := a.eval y, born := clock }) = mapArr es ++ [k, a.eval y] := by simp [mapArr]
             rw [this]
             have app : ∀ {xs : List Cell} {us : List Value}, VL m π xs us → VL m π (xs ++ [.sc k, c]) (us ++ [k, a.eval y]) := by
               intro xs
               induction xs with
               | nil => intro us hus; cases us with
                 | nil => exact ⟨VG.sc k (key_one n3), hv1, trivial⟩
                 | cons _ _ => exact hus.elim
               | cons x xs ih => intro us hus; cases us with
                 | nil => exact hus.elim
                 | cons u us => exact ⟨hus.1, ih hus.2⟩
             exact app hvl
         · have hj : es[j]? = some e := by simpa using f2
           rw [zab] at f1
           refine hgo (es.modify j fun e => { e with key := k, val := a.eval y }) clock ?_ ?_
           · have hst : (Instr.keyThatStays k k).run P w = .ok k w := MapKept.run_keyThatStays (keyB_is hfk n3)
             rw [ex, ei]
             simp [Instr.mapUpdate, run_underlying hu, MapKept.run_getObj_map hb, hck, MapKept.run_findKey hdk f1, hj, f3, hst, MapKept.run_setObj_map _ hb, Result.andThen]
           · rw [f6]
             have hlt : j < es.toList.length := by simpa using (Array.getElem?_eq_some_iff.1 hj).1
             have : mapArr (es.modify j fun e => { e with key := k, val := a.eval y }) = (mapArr es).set (2 * j + 1) (a.eval y) := by
               have e1 : (es.modify j fun e => { e with key := k, val := a.eval y }).toList = es.toList.set j { e with key := k, val := a.eval y } := by
                 apply List.ext_getElem?
                 intro i
                 simp only [Array.getElem?_toList, Array.getElem?_modify, List.getElem?_set]
                 by_cases hij : j = i
                 · subst hij
                   rw [if_pos rfl, if_pos rfl, if_pos hlt, hj]; rfl
                 · rw [if_neg hij, if_neg hij]
               unfold mapArr
               rw [e1, flatMap_set2 es.toList j e _ f2 (by simp [f3])]
             rw [this]
             have hset : ∀ {xs : List Cell} {us : List Value} (i : Nat), VL m π xs us → VL m π (xs.set i c) (us.set i (a.eval y)) := by
               intro xs
               induction xs with
               | nil => intro us i hus; cases us with
                 | nil => exact trivial
                 | cons _ _ => exact hus.elim
               | cons x xs ih => intro us i hus; cases us with
                 | nil => exact hus.elim
                 | cons u us => cases i with
                   | zero => exact ⟨hv1, hus.2⟩
                   | succ i => exact ⟨hus.1, ih i hus.2⟩
             exact hset _ hvl
       obtain ⟨v, w', m', π', k1, k2, k3, k4⟩ := fin
       exact ⟨v, w', m', π', k1, k2, k3, k4⟩
     · exact hn.elim
   · exact hn.elim
 · exact hn.elim
theorem sLookup_loc (T : Tab) (t : Nat) {x i : SV} {get get' : Nat → Option Row} (ok : Bool) (hx : ∀ r ∈ x.ref, get r = get' r) : sLookup T get t x i ok = sLookup T get' t x i ok := by
 unfold sLookup
 split
 · split
   · rename_i r hk
     rw [hx r (by simp [SV.ref])]
   · rfl
 · rfl
theorem sMapUpdate_loc (T : Tab) (t : Nat) {x i v : SV} {get get' : Nat → Option Row} (hx : ∀ r ∈ x.ref, get r = get' r) : sMapUpdate T get t x i v = sMapUpdate T get' t x i v := by
 unfold sMapUpdate
 split
 · split
   · rename_i r hk
     rw [hx r (by simp [SV.ref])]
   · rfl
 · rfl
theorem sLookup_ups (T : Tab) (get : Nat → Option Row) (t : Nat) (x i : SV) (ok : Bool) (F : List Nat) (n : Nat) : UpsOk F n (sLookup T get t x i ok) := by
 unfold sLookup
 split
 · split
   · split
     · exact ups_nil rfl
     · exact ups_nil rfl
   · exact ups_nil rfl
 · exact ups_nil rfl
theorem sMapUpdate_ups (T : Tab) (get : Nat → Option Row) (t : Nat) (x i v : SV) (F : List Nat) (n : Nat) (hF : ∀ r ∈ x.ref, r ∈ F) : UpsOk F n (sMapUpdate T get t x i v) := by
 unfold sMapUpdate
 split
 · split
   · split
     · exact ups_old rfl (hF _ (by simp [SV.ref]))
     · exact ups_nil rfl
   · exact ups_nil rfl
 · exact ups_nil rfl
theorem sMakeMap_ups (T : Tab) (t : Nat) (F : List Nat) (n : Nat) : UpsOk F n (sMakeMap T t n) := by
 unfold sMakeMap
 split
 · exact ups_nil rfl
 · split
   · exact ups_new rfl
   · exact ups_nil rfl
end
end Go.Proofs.YtnahpejlhfeleabGreat.Sh
namespace Go.Proofs.YtnahpejlhfeleabGreat.Sh
open Go.RowKit
def sRange (T : Tab) (t : Nat) (x : SV) (n : Nat) : Res :=
  match slot t T.ts with
  | none => bad
  | some ti => match ti.kind, x with
    | .str, .one (.sc (.string s)) => ⟨True, .one (.mp n true), [(n, some ⟨[.sc (.string s), .sc (.int .i64 0), .sc (.bool true)], 0⟩)], 1⟩
    | _, _ => bad
def sNext (get : Nat → Option Row) (x : SV) (isS : Bool) : Res :=
  match isS, x with
  | true, .one (.mp r true) => (match get r with
    | some row => (match row.cells with
      | [.sc (.string s), .sc (.int .i64 p), .sc (.bool b)] => (match decide (p < (s.size : Int)) with
        | true => ⟨0 ≤ p ∧ row.esz = 0, .tup [V (.bool true), V (.int .i64 p), V (.int .i32 (Utf8.decode s p.toNat).1)], [(r, some ⟨[.sc (.string s), .sc (.int .i64 (p + (Utf8.decode s p.toNat).2)), .sc (.bool b)], 0⟩)], 0⟩
        | false => ⟨0 ≤ p ∧ row.esz = 0, .tup [V (.bool false)], [], 0⟩)
      | _ => bad)
    | none => bad)
  | _, _ => bad
def allU8 : List Cell → Bool
  | [] => true
  | .sc (.int .u8 _) :: r => allU8 r
  | _ => false
def u8of : Cell → UInt8
  | .sc (.int _ n) => UInt8.ofNat n.toNat
  | _ => 0
def bs (l : List UInt8) : ByteArray := ⟨l.toArray⟩
def sConvS (T : Tab) (get : Nat → Option Row) (s d : Nat) (x : SV) : Res :=
  match slot s T.ts, slot d T.ts with
  | some ts, some td => (match ts.kind, td.kind with
    | .slice e, .str => (match slot e T.ts, slc 1 get x with
      | some te, some (xc, k) => ⟨te.kind = .int .u8 ∧ xc.length = k * 1 ∧ allU8 xc = true, V (.string (bs (xc.map u8of))), [], 0⟩
      | _, _ => bad)
    | _, _ => sConv T s d x)
  | _, _ => sConv T s d x
section
variable {P : Program} {o : Oper} {w0 : Base} {A : Nat → Prop} {N : Nat} {Fr : Nat → Prop} {tm : Nat → Option SV} {hp : Nat → Option Row} {a : Act} {w : World} {m : Mem} {π : Plc} {n : Nat}
theorem run_getObj_of {r : Nat} {s : ByteArray} {k : Nat} (hb : w.heap[r]? = some (.stringIter s k)) : (getObj r).run P w = .ok (.stringIter s k) w := by
 simp [getObj, Sem.run, hb]
theorem run_setObj_of {r : Nat} {s : ByteArray} {k : Nat} (o' : Obj) (hb : w.heap[r]? = some (.stringIter s k)) : (setObj r o').run P w = .ok () { w with heap := w.heap.setIfInBounds r o' } := by
 simp [setObj, Sem.run, hb]
theorem sRange_ok (T : Tab) (hT : TOk P T) (h : RelAt P w0 A N Fr tm hp a w m π) (hf : Fr n) {t : Nat} {x : Operand} (ho : o.op = .range t x) {p : SV} (hp' : VS m π p (a.eval x)) (hn : (sRange T t p n).need) : Good P o w0 A N Fr tm hp a w n (sRange T t p n) := by
 have hex : execOp a.eval o = (do pure (.value (← Instr.range t (a.eval x)))) := by unfold execOp; rw [ho]
 unfold sRange at hn ⊢
 split
 · rename_i e; rw [e] at hn; exact hn.elim
 · rename_i ti hl
   rw [hl] at hn
   simp only at hn
   have hti := hT t ti hl
   split at hn
   · rename_i s hk
     have hu := hti.str hk
     obtain ⟨e1, _⟩ := vs_sc hp'
     have h1 : RelAt P w0 A N Fr tm hp a (w.alloc (.stringIter s 0)) m π :=
       h.world (fun _ => False) rfl rfl rfl (by simp) (fun b hb _ => Below.heap_alloc _ _ _ hb) (fun b hb => hb.elim) (fun _ _ _ hb => hb) (fun _ _ _ hb => hb)
     have h2 := h1.adopt0 n hf ⟨w.heap.size, 0, 0, 0⟩ ⟨[.sc (.string s), .sc (.int .i64 0), .sc (.bool true)], 0⟩ #[.string s, .int .i64 0, .bool true] 0 (h.new _ h.keep.size) rfl
       (.inr ⟨rfl, .stringIter s 0, by show (w.heap.push _)[w.heap.size]? = _; simp, rfl⟩)
       ⟨fun e => absurd rfl e, fun _ => rfl⟩ ⟨fun e => absurd rfl e, fun _ => rfl⟩
       (fun i c hi => by
         match i, hi with
         | 0, hi => simp at hi; subst hi; exact ⟨_, rfl, VG.sc _ rfl⟩
         | 1, hi => simp at hi; subst hi; exact ⟨_, rfl, VG.sc _ rfl⟩
         | 2, hi => simp at hi; subst hi; exact ⟨_, rfl, VG.sc _ rfl⟩
         | i + 3, hi => simp at hi)
       (fun c hc => by simp at hc; rcases hc with rfl | rfl | rfl <;> trivial) (fun c hc => by simp at hc; rcases hc with rfl | rfl | rfl <;> exact fun hh => by cases hh)
       (fun r q hq => by have := h.lt hq; show q.b ≠ w.heap.size; omega)
       (fun ad v hv => by have := World.block_lt_of_cell? _ _ (h.mok ad v hv).2; show ad.block ≠ w.heap.size; omega)
     refine ⟨.pointer (some ⟨w.heap.size, 0, none⟩), _, m, _, .inl ?_, h2.frmono (fun r hr => ⟨hr.1, fun e => hr.2 (by simp only; omega)⟩), ⟨rfl, ?_⟩, fun hq => hq.2 (by simp only; omega)⟩
     · rw [hex, e1]
       simp [Instr.range, run_underlying hu, Result.andThen]
     · show match upd π n _ n with | none => True | some none => False | some (some p) => _
       rw [upd_same]
       exact ⟨rfl, rfl⟩
   · exact hn.elim
theorem iter_at (h : RelAt P w0 A N Fr tm hp a w m π) {r : Nat} {row : Row} (hr : hp r = some row) (hz : row.esz = 0) {s : ByteArray} {p : Int} {b : Bool} (hc : row.cells = [.sc (.string s), .sc (.int .i64 p), .sc (.bool b)]) {x : Value} (hx : VS m π (.one (.mp r true)) x) : ∃ q k, π r = some (some q) ∧ q.esz = 0 ∧ q.o = 0 ∧ x = .pointer (some ⟨q.b, 0, none⟩) ∧ w.heap[q.b]? = some (.stringIter s k) ∧ p = k ∧ b = true := by
 have hrow := h.rows r row hr
 unfold RowOk at hrow
 obtain ⟨h1, h2⟩ := hx
 cases hπ : π r with
 | none => rw [hπ] at hrow; exact hrow.elim
 | some q =>
   rw [hπ] at h2 hrow
   cases q with
   | none => exact h2.elim
   | some q =>
     simp only at h2
     obtain ⟨g1, g2, arr, e, g3, g4, g5, g6⟩ := hrow
     rcases g3 with ⟨e0, _⟩ | ⟨_, o, g3, g3'⟩
     · exact absurd h2.1 e0
     have hlen := g5.2 h2.1
     have ho := g4.2 h2.1
     rw [hc] at hlen
     have hat : ∀ (i : Nat) v, row.cells[i]? = some (.sc v) → arr[i]? = some v := by
       intro i v hi
       obtain ⟨y, k1, k2⟩ := g6 i _ hi
       rw [ho, zab] at k1
       cases k2
       exact k1
     have a0 := hat 0 _ (by rw [hc]; rfl)
     have a1 := hat 1 _ (by rw [hc]; rfl)
     have a2 := hat 2 _ (by rw [hc]; rfl)
     cases o <;> simp only [objArr, Option.some.injEq, reduceCtorEq] at g3'
     · rename_i es k
       exfalso
       have e1 : arr.size = 3 := hlen
       have e2 : (mapArr es).length = 2 * es.size := by
         unfold mapArr
         rw [List.length_flatMap]
         simp only [zaj, List.length_nil, List.map_const', List.sum_replicate_nat, Array.length_toList]
         omega
       rw [g3'] at e2
       simp at e2
       omega
     · rename_i s' k
       refine ⟨q, k, rfl, h2.1, ho, h2.2, ?_⟩
       rw [← Array.getElem?_toList, ← g3'] at a0 a1 a2
       simp at a0 a1 a2
       subst a0
       exact ⟨g3, a1.symm, a2⟩
theorem sNext_ok (h : RelAt P w0 A N Fr tm hp a w m π) {x : Operand} {isS : Bool} (ho : o.op = .next x isS) {p : SV} (hp' : VS m π p (a.eval x)) (hn : (sNext hp p isS).need) : Good P o w0 A N Fr tm hp a w n (sNext hp p isS) := by
 have hex : execOp a.eval o = (do pure (.value (← Instr.next (a.eval x) isS o.type))) := by unfold execOp; rw [ho]
 unfold sNext at hn ⊢
 split at hn
 · rename_i r
   split at hn
   · rename_i row hr
     split at hn
     · rename_i s p b hc
       have hz : row.esz = 0 := by split at hn <;> exact hn.2
       obtain ⟨q, k, hπ, hqz, hqo, ex, hb, rfl, rfl⟩ := iter_at h hr hz hc hp'
       have hgo : (getObj q.b).run P w = .ok (.stringIter s k) w := run_getObj_of hb
       by_cases hlt : (k : Int) < (s.size : Int)
       · simp only [decide_eq_true hlt] at hn ⊢
         have hlt' : k < s.size := by omega
         have hm : ∀ ad v, m ad = some v → ad.block ≠ q.b := fun ad v hv => h.dis r q ad v hπ hv
         have hrel := h.reobj hr hπ (.stringIter s (k + (Utf8.decode s k).2)) [.sc (.string s), .sc (.int .i64 ((k : Int) + (Utf8.decode s k).2)), .sc (.bool true)] #[.string s, .int .i64 ((k : Int) + (Utf8.decode s k).2), .bool true] 0 hm
           (.inr ⟨hqz, .stringIter s (k + (Utf8.decode s k).2), by show (w.heap.setIfInBounds q.b _)[q.b]? = _; rw [Array.getElem?_setIfInBounds_self_of_lt (h.lt hπ)], by simp [objArr]⟩)
           ⟨fun e => absurd hqz e, fun _ => hqo⟩ ⟨fun e => absurd hqz e, fun _ => rfl⟩
           (fun i c hi => by
             rw [hqo, zab]
             match i, hi with
             | 0, hi => simp at hi; subst hi; exact ⟨_, rfl, VG.sc _ rfl⟩
             | 1, hi => simp at hi; subst hi; exact ⟨_, rfl, VG.sc _ rfl⟩
             | 2, hi => simp at hi; subst hi; exact ⟨_, rfl, VG.sc _ rfl⟩
             | i + 3, hi => simp at hi)
           (fun c hc => by simp at hc; rcases hc with rfl | rfl | rfl <;> trivial) (fun c hc => by simp at hc; rcases hc with rfl | rfl | rfl <;> exact fun hh => by cases hh)
         rw [hz] at hrel
         refine ⟨.tuple #[.bool true, .int .i64 k, .int .i32 (Utf8.decode s k).1], _, m, π, .inl ?_, hrel.frmono (fun r hr => hr.1), ?_, ⟨trivial, trivial, trivial, trivial⟩⟩
         · rw [hex, ex]
           simp [Instr.next, hgo, hlt', run_setObj_of _ hb, goInt, Result.andThen]
         · refine ⟨#[.bool true, .int .i64 k, .int .i32 (Utf8.decode s k).1], rfl, VG.sc _ rfl, VG.sc _ rfl, ?_, trivial⟩
           rw [Int.toNat_natCast]
           exact VG.sc _ rfl
       · simp only [decide_eq_false hlt] at hn ⊢
         have hlt' : ¬ k < s.size := by omega
         refine good_pure h (v := .tuple #[.bool false]) ?_ ⟨#[.bool false], rfl, VG.sc _ rfl, trivial⟩ ⟨trivial, trivial⟩
         rw [hex, ex]
         simp [Instr.next, hgo, hlt', Result.andThen]
     · exact hn.elim
   · exact hn.elim
 · exact hn.elim
theorem bs_push (l : List UInt8) (b : UInt8) : (bs l).push b = bs (l ++ [b]) := by
 unfold bs
 simp [ByteArray.push]
theorem foldl_bs : ∀ (ns : List Int) (l : List UInt8), ns.foldl (fun r n => r.push (UInt8.ofNat n.toNat)) (bs l) = bs (l ++ ns.map fun n => UInt8.ofNat n.toNat)
  | [], l => by simp
  | n :: ns, l => by
    rw [List.foldl_cons, bs_push, foldl_bs ns]
    simp
theorem vl_u8 : ∀ {cs : List Cell} {vs : List Value}, VL m π cs vs → allU8 cs = true → ∃ ns : List Int, vs = ns.map (Value.int .u8) ∧ cs.map u8of = ns.map fun n => UInt8.ofNat n.toNat
  | [], [], _, _ => ⟨[], rfl, rfl⟩
  | [], _ :: _, h, _ => h.elim
  | _ :: _, [], h, _ => h.elim
  | c :: cs, v :: vs, ⟨h1, h2⟩, hu => by
    cases c with
    | sc x =>
      cases x with
      | int k n =>
        cases k <;> simp only [allU8] at hu <;> try (cases hu; done)
        obtain ⟨ns, e1, e2⟩ := vl_u8 h2 hu
        have e : v = .int .u8 n := by cases h1; rfl
        exact ⟨n :: ns, by rw [e, e1]; rfl, by rw [zac, e2]; rfl⟩
      | _ => cases hu
    | _ => cases hu
theorem sConvS_ok (T : Tab) (hT : TOk P T) (h : RelAt P w0 A N Fr tm hp a w m π) {s d : Nat} {x : Operand} (ho : o.op = .convert s d x) {p : SV} (hp' : VS m π p (a.eval x)) (hcl : p.cl Fr) (hn : (sConvS T hp s d p).need) : Good P o w0 A N Fr tm hp a w n (sConvS T hp s d p) := by
 unfold sConvS at hn ⊢
 cases hl : slot s T.ts with
 | none => rw [hl] at hn; exact sConv_ok T hT h ho hp' hn
 | some ts =>
   cases hl2 : slot d T.ts with
   | none => rw [hl, hl2] at hn; exact sConv_ok T hT h ho hp' hn
   | some td =>
     rw [hl, hl2] at hn
     simp only at hn ⊢
     split at hn
     · rename_i e hk hk2
       split at hn
       · rename_i te xc k hle hsl
         obtain ⟨n1, n2, n3⟩ := hn
         have hus := (hT s ts hl).slice hk
         have hud := (hT d td hl2).str hk2
         have hue := (hT e te hle).int n1
         obtain ⟨ad, c, vals, ev, q1, q2, q3, q4, q5, q6, q7⟩ := slc_ok h hp' hcl hsl n2 (by omega)
         obtain ⟨ns, e1, e2⟩ := vl_u8 q1 n3
         have hex : execOp a.eval o = (do pure (.value (← convert s d (a.eval x)))) := by unfold execOp; rw [ho]
         have hvl := q1.length
         refine good_val h (v := .string (bs (xc.map u8of))) ?_ rfl
         rw [hex, ev]
         cases ad with
         | none =>
           have hk0 := (q6 rfl).1
           subst hk0
           have hxc : xc = [] := List.length_eq_zero_iff.1 (by omega)
           subst hxc
           simp [run_convert_bytes_string w s d e none 0 c hus hue hud, Conv.bytesToString, Result.andThen, bs, ByteArray.empty, ByteArray.emptyWithCapacity]
           rfl
         | some dd =>
           have hld : (loadCells dd k).run P w = .ok (ns.map (Value.int .u8)).toArray w := by
             have := run_loadCells_list (P := P) (w := w) dd vals (fun j u hj => q5 dd rfl j u hj)
             rw [hvl, n2, Nat.mul_one, e1] at this
             exact this
           have hb := run_bytesToString (P := P) w dd k c ns hld
           have hfo : ns.foldl (fun r n => r.push (UInt8.ofNat n.toNat)) ByteArray.empty = bs (xc.map u8of) := by
             have := foldl_bs ns []
             rw [List.nil_append] at this
             rw [e2]
             exact this
           rw [hfo] at hb
           simp [run_convert_bytes_string w s d e (some dd) k c hus hue hud, hb]
       · exact hn.elim
     · exact sConv_ok T hT h ho hp' hn
theorem sConvS_loc (T : Tab) (s d : Nat) {x : SV} {get get' : Nat → Option Row} (hx : ∀ r ∈ x.ref, get r = get' r) : sConvS T get s d x = sConvS T get' s d x := by
 unfold sConvS
 split
 · split
   · rw [slc_loc hx]
   · rfl
 · rfl
theorem sConv_ups (T : Tab) (s d : Nat) (x : SV) (F : List Nat) (n : Nat) : UpsOk F n (sConv T s d x) := by
 refine ups_nil ?_
 unfold sConv
 split
 · split
   · unfold ari; split <;> rfl
   · rfl
   · rfl
 · rfl
theorem sConvS_ups (T : Tab) (get : Nat → Option Row) (s d : Nat) (x : SV) (F : List Nat) (n : Nat) : UpsOk F n (sConvS T get s d x) := by
 unfold sConvS
 split
 · split
   · split
     · exact ups_nil rfl
     · exact ups_nil rfl
   · exact sConv_ups T s d x F n
 · exact sConv_ups T s d x F n
theorem sRange_ups (T : Tab) (t : Nat) (x : SV) (F : List Nat) (n : Nat) : UpsOk F n (sRange T t x n) := by
 unfold sRange
 split
 · exact ups_nil rfl
 · split
   · exact ups_new rfl
   · exact ups_nil rfl
theorem sNext_loc {x : SV} (isS : Bool) {get get' : Nat → Option Row} (hx : ∀ r ∈ x.ref, get r = get' r) : sNext get x isS = sNext get' x isS := by
 unfold sNext
 split
 · rw [hx _ (by simp [SV.ref])]
 · rfl
theorem sNext_ups (get : Nat → Option Row) (x : SV) (isS : Bool) (F : List Nat) (n : Nat) (hF : ∀ r ∈ x.ref, r ∈ F) : UpsOk F n (sNext get x isS) := by
 unfold sNext
 split
 · split
   · split
     · split
       · exact ups_old rfl (hF _ (by simp [SV.ref]))
       · exact ups_nil rfl
     · exact ups_nil rfl
   · exact ups_nil rfl
 · exact ups_nil rfl
end
end Go.Proofs.YtnahpejlhfeleabGreat.Sh
namespace Go.Proofs.YtnahpejlhfeleabGreat.Sh
open Go.RowKit
def ofV : Value → SV
  | .agg cs => if cs.all (·.oneCell') then .agg (cs.toList.map .sc) else .one .un
  | .tuple _ => .one .un
  | v => V v
def evS (tm : Nat → Option SV) : Operand → SV
  | .tmp t => (tm t).getD (.one .un)
  | .const v => ofV v
  | .func f => .one (.fn f [])
  | .global _ => .one .un
def sCallB (T : Tab) (get : Nat → Option Row) (ρ : Operand → SV) (n : Nat) (c : Call) : Res :=
  match c.callee with
  | .builtin .len => (match c.args.toList, c.argTypes.toList with
    | [x], [t] => sLen T get t (ρ x)
    | _, _ => bad)
  | .builtin .append => (match c.args.toList, c.argTypes.toList with
    | [x, y], [t, t'] => if t = t' then sAppend1 T get t (ρ x) (ρ y) n else sAppendZ T get t t' (ρ x) (ρ y) n
    | _, _ => bad)
  | .builtin .cap => (match c.args.toList, c.argTypes.toList with
    | [x], [t] => sCap T get t (ρ x)
    | _, _ => bad)
  | .builtin .copy => (match c.args.toList, c.argTypes.toList with
    | [x, y], [t, _] => sCopy T get t (ρ x) (ρ y)
    | _, _ => bad)
  | .builtin .clear => (match c.args.toList, c.argTypes.toList with
    | [x], [t] => sClear T get t (ρ x)
    | _, _ => bad)
  | .builtin .min => sMin (c.args.toList.map ρ)
  | .builtin .max => sMax (c.args.toList.map ρ)
  | _ => bad
def sPick (c a b : SV) : Res :=
  match c with
  | .one (.sc (.bool t)) => ⟨True, if t = true then a else b, [], 0⟩
  | _ => bad
def cell1 : SV → Cell
  | .one c => c
  | _ => .un
def Cell.isG : Cell → Bool
  | .sc _ => true
  | .gsl _ _ _ _ => true
  | .gptr _ _ => true
  | .fn _ _ => true
  | _ => false
def sFunc (f : FuncId) (caps : List SV) : Res := ⟨∀ x ∈ caps, (cell1 x).isG = true, .one (.fn f (caps.map cell1)), [], 0⟩
def sop (T : Tab) (ρ : Operand → SV) (get : Nat → Option Row) (n : Nat) (op : Op) : Res :=
  match op with
  | .move x => ⟨True, ρ x, [], 0⟩
  | .assign x => ⟨True, ρ x, [], 0⟩
  | .pick c a b => sPick (ρ c) (ρ a) (ρ b)
  | .alloc t => sAlloc T t n
  | .box t x => sBox (ρ x) n
  | .build t ps => sBuild T t (ps.toList.map fun x => (x.1, ρ x.2))
  | .buildSlice t len ps => sBuildSlice T t len (ps.toList.map fun x => (x.1, ρ x.2)) n
  | .load t x => sLoad T get t (ρ x)
  | .store t x y => sStore T get t (ρ x) (ρ y)
  | .nilCheck x => sNil get (ρ x)
  | .binOp op t x y _ => sBinT T get op t (ρ x) (ρ y)
  | .unOp op _ x => sUn T.wr op (ρ x)
  | .convert s d x => sConvS T get s d (ρ x)
  | .makeSlice t l c => sMake T t (ρ l) (ρ c) n
  | .slice t x lo hi mx => sSlice T get t (ρ x) (lo.map ρ) (hi.map ρ) (mx.map ρ)
  | .fieldAddr t x f => sFieldAddr T get t (ρ x) f
  | .field t x f => sField T t (ρ x) f
  | .indexAddr t x i => sIndexAddr T get t (ρ x) (ρ i)
  | .index t x i => sIndex T t (ρ x) (ρ i)
  | .extract x i => sExtract (ρ x) i
  | .call c => sCallB T get ρ n c
  | .makeFunc (.func f) first cs => (match first.toList with
    | [] => sFunc f (cs.toList.map ρ)
    | _ => bad)
  | .makeMap t none => sMakeMap T t n
  | .range t x => sRange T t (ρ x) n
  | .next x isS => sNext get (ρ x) isS
  | .lookup t x i ok => sLookup T get t (ρ x) (ρ i) ok
  | .mapUpdate t x i v => sMapUpdate T get t (ρ x) (ρ i) (ρ v)
  | _ => bad
def fp (ρ : Operand → SV) (op : Op) : List Nat :=
  match op with
  | .load _ x => (ρ x).ref
  | .store _ x _ => (ρ x).ref
  | .nilCheck x => (ρ x).ref
  | .binOp _ _ x _ _ => (ρ x).ref
  | .slice _ x _ _ _ => (ρ x).ref
  | .fieldAddr _ x _ => (ρ x).ref
  | .indexAddr _ x _ => (ρ x).ref
  | .lookup _ x _ _ => (ρ x).ref
  | .next x _ => (ρ x).ref
  | .convert _ _ x => (ρ x).ref
  | .mapUpdate _ x _ _ => (ρ x).ref
  | .call c => c.args.toList.flatMap fun x => (ρ x).ref
  | _ => []
section
variable {P : Program} {o : Oper} {w0 : Base} {A : Nat → Prop} {N : Nat} {Fr : Nat → Prop} {tm : Nat → Option SV} {hp : Nat → Option Row} {a : Act} {w : World} {m : Mem} {π : Plc} {n : Nat}
theorem ofV_ok (v : Value) : VS m π (ofV v) v ∧ (ofV v).cl Fr := by
 unfold ofV
 split
 · rename_i cs
   split
   · rename_i h
     refine ⟨⟨cs, rfl, zero_vl (fun x hx => ?_)⟩, fun c hc => ?_⟩
     · exact Array.all_eq_true_iff_forall_mem.1 h x (by simpa using hx)
     · obtain ⟨x, _, rfl⟩ := List.mem_map.1 hc; trivial
   · exact ⟨trivial, trivial⟩
 · exact ⟨trivial, trivial⟩
 · rename_i h1 h2
   refine ⟨VG.sc v ?_, trivial⟩
   cases v <;> first | rfl | exact absurd rfl (h1 _) | exact absurd rfl (h2 _)
theorem evS_ok (h : RelAt P w0 A N Fr tm hp a w m π) (x : Operand) : VS m π (evS tm x) (a.eval x) ∧ (evS tm x).cl Fr := by
 cases x with
 | tmp t =>
   show VS m π ((tm t).getD (.one .un)) (a.tmps.getD t undef) ∧ ((tm t).getD (.one .un)).cl Fr
   cases ht : tm t with
   | none => exact ⟨trivial, trivial⟩
   | some v => exact ⟨h.tms t v ht, h.tcl t v ht⟩
 | const v => exact ofV_ok v
 | func f => exact ⟨VG.fn f [] #[] rfl (fun i x hi hx => by simp at hi), trivial⟩
 | global g => exact ⟨trivial, trivial⟩
theorem opt_ok {lo : Option Operand} {ρ : Operand → SV} (hρ : ∀ x ∈ lo.toList, VS m π (ρ x) (a.eval x)) : (∀ p y, lo.map ρ = some p → lo = some y → VS m π p (a.eval y)) ∧ (lo.map ρ).isSome = lo.isSome := by
 constructor
 · intro p y h1 h2
   subst h2
   simp at h1
   subst h1
   exact hρ y (by simp)
 · simp
theorem sop_ok (T : Tab) (hT : TOk P T) (hC : TClosed T = true) (h : RelAt P w0 A N Fr tm hp a w m π) (ρ : Operand → SV) (hρ : ∀ x ∈ o.op.operands, VS m π (ρ x) (a.eval x) ∧ (ρ x).cl Fr) (hf : Fr n) (hn : (sop T ρ hp n o.op).need) : Good P o w0 A N Fr tm hp a w n (sop T ρ hp n o.op) := by
 obtain ⟨dst, op, type, pos, after, guard⟩ := o
 simp only at hρ hn ⊢
 cases op with
 | move x =>
   obtain ⟨h1, h2⟩ := hρ x (by simp [Op.operands])
   exact good_pure h (v := a.eval x) (by simp [execOp]) h1 h2
 | assign x =>
   obtain ⟨h1, h2⟩ := hρ x (by simp [Op.operands])
   exact good_pure h (v := a.eval x) (by simp [execOp]) h1 h2
 | pick c x y =>
   obtain ⟨h1, _⟩ := hρ c (by simp [Op.operands])
   obtain ⟨h2, h3⟩ := hρ x (by simp [Op.operands])
   obtain ⟨h4, h5⟩ := hρ y (by simp [Op.operands])
   simp only [sop] at hn ⊢
   generalize ρ c = q at *
   have hq : ∃ t, q = V (.bool t) := by
     unfold sPick at hn
     split at hn
     · exact ⟨_, rfl⟩
     · exact hn.elim
   obtain ⟨t, rfl⟩ := hq
   obtain ⟨e1, _⟩ := vs_sc h1
   cases t with
   | true => exact good_pure h (v := a.eval x) (by simp [execOp, e1, asBool]) h2 h3
   | false => exact good_pure h (v := a.eval y) (by simp [execOp, e1, asBool]) h4 h5
 | alloc t => exact sAlloc_ok T hT h hf rfl hn
 | box t x => exact sBox_ok h hf rfl (hρ x (by simp [Op.operands])).1 (hρ x (by simp [Op.operands])).2 hn
 | build t ps => exact sBuild_ok T hT hC h rfl (fun x hx => hρ x (by simpa [Op.operands] using hx)) hn
 | buildSlice t len ps => exact sBuildSlice_ok T hT h hf rfl (fun x hx => hρ x (by simpa [Op.operands] using hx)) hn
 | load t x => exact sLoad_ok T hT h rfl (hρ x (by simp [Op.operands])).1 hn
 | store t x y => exact sStore_ok T hT h rfl (hρ x (by simp [Op.operands])).1 (hρ y (by simp [Op.operands])).1 (hρ y (by simp [Op.operands])).2 hn
 | nilCheck x => exact sNil_ok h rfl (hρ x (by simp [Op.operands])).1 (hρ x (by simp [Op.operands])).2 hn
 | binOp op t x y yt => exact sBinT_ok T hT h rfl (hρ x (by simp [Op.operands])).1 (hρ y (by simp [Op.operands])).1 hn
 | unOp op t x => exact sUn_ok h rfl (hρ x (by simp [Op.operands])).1 hn
 | convert s d x => exact sConvS_ok T hT h rfl (hρ x (by simp [Op.operands])).1 (hρ x (by simp [Op.operands])).2 hn
 | range t x => exact sRange_ok T hT h hf rfl (hρ x (by simp [Op.operands])).1 hn
 | next x isS => exact sNext_ok h rfl (hρ x (by simp [Op.operands])).1 hn
 | makeSlice t l c => exact sMake_ok T hT h hf rfl (hρ l (by simp [Op.operands])).1 (hρ c (by simp [Op.operands])).1 hn
 | slice t x lo hi mx =>
   have h1 := opt_ok (lo := lo) (ρ := ρ) (fun y hy => (hρ y (by simp [Op.operands] at hy ⊢; simp [hy])).1)
   have h2 := opt_ok (lo := hi) (ρ := ρ) (fun y hy => (hρ y (by simp [Op.operands] at hy ⊢; simp [hy])).1)
   have h3 := opt_ok (lo := mx) (ρ := ρ) (fun y hy => (hρ y (by simp [Op.operands] at hy ⊢; simp [hy])).1)
   exact sSlice_ok T hT h rfl (hρ x (by simp [Op.operands])).1 (hρ x (by simp [Op.operands])).2 h1.1 h1.2 h2.1 h2.2 h3.1 h3.2 hn
 | fieldAddr t x f => exact sFieldAddr_ok T hT h rfl (hρ x (by simp [Op.operands])).1 (hρ x (by simp [Op.operands])).2 hn
 | field t x f => exact sField_ok T hT h rfl (hρ x (by simp [Op.operands])).1 (hρ x (by simp [Op.operands])).2 hn
 | indexAddr t x i => exact sIndexAddr_ok T hT h rfl (hρ x (by simp [Op.operands])).1 (hρ i (by simp [Op.operands])).1 (hρ x (by simp [Op.operands])).2 hn
 | index t x i => exact sIndex_ok T hT h rfl (hρ x (by simp [Op.operands])).1 (hρ i (by simp [Op.operands])).1 (hρ x (by simp [Op.operands])).2 hn
 | extract x i => exact sExtract_ok h rfl (hρ x (by simp [Op.operands])).1 (hρ x (by simp [Op.operands])).2 hn
 | call c =>
   obtain ⟨callee, args, argTypes⟩ := c
   have hargs : ∀ x ∈ args.toList, VS m π (ρ x) (a.eval x) ∧ (ρ x).cl Fr := fun x hx => hρ x (by simp [Op.operands, Call.operands] at hx ⊢; simp [hx])
   have hvsl : ∀ l : List Operand, (∀ x ∈ l, VS m π (ρ x) (a.eval x) ∧ (ρ x).cl Fr) → VSL m π (l.map ρ) (l.map a.eval) := by
     intro l
     induction l with
     | nil => intro _; trivial
     | cons x l ih => exact fun hx => ⟨(hx x (by simp)).1, ih (fun y hy => hx y (by simp [hy]))⟩
   simp only [sop] at hn ⊢
   unfold sCallB at hn ⊢
   simp only at hn ⊢
   split at hn
   · split at hn
     · rename_i x t e1 e2
       have ea : args = #[x] := by apply Array.ext'; exact e1
       have et : argTypes = #[t] := by apply Array.ext'; exact e2
       exact sLen_ok T hT h rfl rfl ea et (hargs x (by rw [e1]; simp)).1 hn
     · exact hn.elim
   · split at hn
     · rename_i x y t t' e1 e2
       split at hn
       · rename_i ett
         subst ett
         have ea : args = #[x, y] := by apply Array.ext'; exact e1
         have et : argTypes = #[t, t] := by apply Array.ext'; exact e2
         rw [if_pos rfl]
         exact sAppend1_ok T hT h hf rfl rfl ea et (hargs x (by rw [e1]; simp)).1 (hargs y (by rw [e1]; simp)).1 (hargs y (by rw [e1]; simp)).2 (hargs x (by rw [e1]; simp)).2 hn
       · rename_i ett
         have ea : args = #[x, y] := by apply Array.ext'; exact e1
         have et : argTypes = #[t, t'] := by apply Array.ext'; exact e2
         rw [if_neg ett]
         exact sAppendZ_ok T hT h hf rfl rfl ea et (hargs x (by rw [e1]; simp)).1 (hargs y (by rw [e1]; simp)).1 (hargs x (by rw [e1]; simp)).2 hn
     · exact hn.elim
   · split at hn
     · rename_i x t e1 e2
       have ea : args = #[x] := by apply Array.ext'; exact e1
       have et : argTypes = #[t] := by apply Array.ext'; exact e2
       exact sCap_ok T hT h rfl rfl ea et (hargs x (by rw [e1]; simp)).1 hn
     · exact hn.elim
   · split at hn
     · rename_i x y t t' e1 e2
       have ea : args = #[x, y] := by apply Array.ext'; exact e1
       have et : argTypes = #[t, t'] := by apply Array.ext'; exact e2
       exact sCopy_ok T hT h rfl rfl ea et (hargs x (by rw [e1]; simp)).1 (hargs y (by rw [e1]; simp)).1 (hargs y (by rw [e1]; simp)).2 hn
     · exact hn.elim
   · split at hn
     · rename_i x t e1 e2
       have ea : args = #[x] := by apply Array.ext'; exact e1
       have et : argTypes = #[t] := by apply Array.ext'; exact e2
       exact sClear_ok T hT h rfl rfl ea et (hargs x (by rw [e1]; simp)).1 hn
     · exact hn.elim
   · exact sMin_ok h rfl rfl (by simpa using hvsl args.toList hargs) hn
   · exact sMax_ok h rfl rfl (by simpa using hvsl args.toList hargs) hn
   · exact hn.elim
 | makeFunc fn first cs =>
   cases fn with
   | func f =>
     simp only [sop] at hn ⊢
     split at hn
     · rename_i hf1
       have hcs : ∀ x ∈ cs.toList, VS m π (ρ x) (a.eval x) ∧ (ρ x).cl Fr := fun x hx => hρ x (by simp [Op.operands] at hx ⊢; simp [hx])
       have ef : first = #[] := by apply Array.ext'; exact hf1
       subst ef
       have one : ∀ s v, (cell1 s).isG = true → VS m π s v → VG m (cell1 s) v := by
         intro s v hg hv
         cases s with
         | one c => cases c <;> first | exact hv | (simp [cell1, Cell.isG] at hg)
         | _ => simp [cell1, Cell.isG] at hg
       refine good_pure h (v := .func (.func f) #[] (cs.map a.eval)) (by simp [execOp, Instr.makeFunc]) ?_ trivial
       refine VG.fn f _ _ (by simp) (fun i x hi hx => ?_)
       simp only [List.getElem?_map, zaa] at hx
       obtain ⟨y, ⟨z, hz, rfl⟩, rfl⟩ := hx
       have hm := List.mem_of_getElem? hz
       have hi2 : i < cs.size := by simpa using hi
       have ez : cs[i] = z := by
         have := (List.getElem?_eq_some_iff.1 hz).2
         simpa using this
       have := one (ρ z) (a.eval z) (hn (ρ z) (List.mem_map.2 ⟨z, hm, rfl⟩)) (hcs z hm).1
       simpa [ez] using this
     · exact hn.elim
   | _ => exact hn.elim
 | makeMap t r =>
   cases r with
   | none => exact sMakeMap_ok T hT h hf rfl hn
   | some _ => exact hn.elim
 | lookup t x i ok => exact sLookup_ok T hT h rfl (hρ x (by simp [Op.operands])).1 (hρ i (by simp [Op.operands])).1 hn
 | mapUpdate t x i v => exact sMapUpdate_ok T hT h rfl (hρ x (by simp [Op.operands])).1 (hρ i (by simp [Op.operands])).1 (hρ v (by simp [Op.operands])).1 (hρ v (by simp [Op.operands])).2 hn
 | _ => exact hn.elim
theorem sop_loc (T : Tab) (ρ : Operand → SV) (get get' : Nat → Option Row) (n : Nat) (op : Op) (h : ∀ r ∈ fp ρ op, get r = get' r) : sop T ρ get n op = sop T ρ get' n op := by
 cases op with
 | load t x =>
   simp only [fp] at h
   simp only [sop, sLoad]
   split
   · rfl
   · cases hx : ρ x with
     | one c => cases c <;> first | rfl | (rename_i r off; rw [hx] at h; simp only [h r (by simp [SV.ref])])
     | _ => rfl
 | store t x y =>
   simp only [fp] at h
   simp only [sop, sStore]
   split
   · rfl
   · cases hx : ρ x with
     | one c => cases c <;> first | rfl | (rename_i r off; rw [hx] at h; simp only [h r (by simp [SV.ref])])
     | _ => rfl
 | nilCheck x =>
   simp only [fp] at h
   simp only [sop, sNil]
   cases hx : ρ x with
   | one c => cases c <;> first | rfl | (rename_i r off; rw [hx] at h; simp only [live, h r (by simp [SV.ref])])
   | _ => rfl
 | binOp op t x y yt =>
   simp only [fp] at h
   simp only [sop, sBinT]
   split
   · rfl
   · generalize ρ y = z
     generalize ρ x = q at h
     split <;> first | rfl | skip
     rename_i r off len cap _
     have hl : live get r = live get' r := by simp only [live, h r (by simp [SV.ref])]
     rw [hl]
 | slice t x lo hi mx =>
   simp only [fp] at h
   simp only [sop, sSlice]
   split
   · split
     · rfl
     · split
       · rfl
       · cases hx : ρ x with
         | one c =>
           cases c with
           | osl r off len cap => rw [hx] at h; simp only [live, h r (by simp [SV.ref])]
           | sc u => split <;> first | rfl | (rename_i e; cases e)
           | _ => rfl
         | _ => rfl
     · rfl
   · rfl
 | fieldAddr t x f =>
   simp only [fp] at h
   simp only [sop, sFieldAddr]
   split
   · rfl
   · split
     · split
       · rfl
       · split
         · rfl
         · cases hx : ρ x with
           | one c => cases c <;> first | rfl | (rename_i r off; rw [hx] at h; simp only [live, h r (by simp [SV.ref])])
           | _ => rfl
     · rfl
 | indexAddr t x i =>
   simp only [fp] at h
   simp only [sop, sIndexAddr]
   split
   · split
     · split
       · rfl
       · cases hx : ρ x with
         | one c => cases c <;> first | rfl | (rename_i r off _ _; rw [hx] at h; simp only [live, h r (by simp [SV.ref])])
         | _ => rfl
     · split
       · rfl
       · cases hx : ρ x with
         | one c => cases c <;> first | rfl | (rename_i r off; rw [hx] at h; simp only [live, h r (by simp [SV.ref])])
         | _ => rfl
     · rfl
   · rfl
 | call c =>
   simp only [fp] at h
   simp only [sop, sCallB]
   split
   · split
     · rename_i x t e1 e2
       have hx : ∀ r ∈ (ρ x).ref, get r = get' r := fun r hr => h r (by rw [e1]; simpa using hr)
       simp only [sLen]
       split
       · rfl
       · generalize ρ x = q at hx
         split <;> first | rfl | skip
         rename_i r off len cap _
         have hl : live get r = live get' r := by simp only [live, hx r (by simp [SV.ref])]
         rw [hl]
     · rfl
   · split
     · rename_i x y t t' e1 e2
       have hx : ∀ r ∈ (ρ x).ref, get r = get' r := fun r hr => h r (by rw [e1]; simp [hr])
       have hy : ∀ r ∈ (ρ y).ref, get r = get' r := fun r hr => h r (by rw [e1]; simp [hr])
       rw [sAppend1_loc T t n hx hy, sAppendZ_loc T t t' n hx]
     · rfl
   · split
     · rename_i x t e1 e2
       have hx : ∀ r ∈ (ρ x).ref, get r = get' r := fun r hr => h r (by rw [e1]; simpa using hr)
       exact sCap_loc T t hx
     · rfl
   · split
     · rename_i x y t t' e1 e2
       have hx : ∀ r ∈ (ρ x).ref, get r = get' r := fun r hr => h r (by rw [e1]; simp [hr])
       have hy : ∀ r ∈ (ρ y).ref, get r = get' r := fun r hr => h r (by rw [e1]; simp [hr])
       exact sCopy_loc T t hx hy
     · rfl
   · split
     · rename_i x t e1 e2
       have hx : ∀ r ∈ (ρ x).ref, get r = get' r := fun r hr => h r (by rw [e1]; simpa using hr)
       exact sClear_loc T t hx
     · rfl
   · rfl
   · rfl
   · rfl
 | makeFunc fn first cs => cases fn <;> rfl
 | makeMap t r => cases r <;> rfl
 | convert s d x =>
   simp only [fp] at h
   exact sConvS_loc T s d h
 | next x isS =>
   simp only [fp] at h
   exact sNext_loc isS h
 | lookup t x i ok =>
   simp only [fp] at h
   exact sLookup_loc T t ok h
 | mapUpdate t x i v =>
   simp only [fp] at h
   exact sMapUpdate_loc T t h
 | _ => rfl
end
end Go.Proofs.YtnahpejlhfeleabGreat.Sh
namespace Go.Proofs.YtnahpejlhfeleabGreat.Sh
open Go.RowKit
structure Ef where
  val : SV
  ups : List (Nat × Option Row)
  new : Nat
  fp : List Nat
def Ef.cost (e : Ef) : Nat := max 1 e.new
def XOk (P : Program) (o : Oper) (ρ : Operand → SV) (hp : Nat → Option Row) (n : Nat) (e : Ef) : Prop :=
  ∀ (w0 : Base) (A : Nat → Prop) (N : Nat) (Fr : Nat → Prop) (tm : Nat → Option SV) (a : Act) (w : World) (m : Mem) (π : Plc) (K : Act → World → Prop) (Q : Exit → Act → World → Prop),
    RelAt P w0 A N Fr tm hp a w m π → (∀ x ∈ o.op.operands, VS m π (ρ x) (a.eval x) ∧ (ρ x).cl Fr) → (∀ r, n ≤ r → r < n + e.cost → Fr r) →
    (∀ v w' m' π', RelAt P w0 A N (fun r => Fr r ∧ ¬ (n ≤ r ∧ r < n + e.cost)) tm (upds hp e.ups) a w' m' π' → VS m' π' e.val v → e.val.cl (fun r => Fr r ∧ ¬ (n ≤ r ∧ r < n + e.cost)) → K (a.put o.dst v) w') → o.wp P a w K Q
def XLoc (P : Program) (o : Oper) (ρ : Operand → SV) (hp : Nat → Option Row) (n : Nat) (e : Ef) : Prop :=
  ∀ hp', (∀ r ∈ e.fp, hp' r = hp r) → XOk P o ρ hp' n e
theorem xloc_sop {P : Program} (T : Tab) (hT : TOk P T) (hC : TClosed T = true) (o : Oper) (ρ : Operand → SV) (hp : Nat → Option Row) (n : Nat) (hn : (sop T ρ hp n o.op).need) : XLoc P o ρ hp n ⟨(sop T ρ hp n o.op).val, (sop T ρ hp n o.op).ups, (sop T ρ hp n o.op).new, fp ρ o.op⟩ := by
 intro hp' hf w0 A N Fr tm a w m π K Q h hρ hFr hK
 have e := sop_loc T ρ hp' hp n o.op hf
 obtain ⟨v, w', m', π', h1, h2, h3, h4⟩ := sop_ok T hT hC h ρ hρ (hFr n (zad _) (by simp only [Ef.cost]; omega)) (by rw [e]; exact hn)
 rw [e] at h2 h3 h4
 have hsub : ∀ r, (Fr r ∧ ¬ (n ≤ r ∧ r < n + max 1 (sop T ρ hp n o.op).new)) → (Fr r ∧ ¬ (n ≤ r ∧ r < n + (sop T ρ hp n o.op).new)) := fun r hr => ⟨hr.1, fun q => hr.2 ⟨q.1, by omega⟩⟩
 have := hK v w' m' π' (h2.frmono hsub) h3 (SV.cl.mono hsub h4)
 unfold Oper.wp
 rcases h1 with h1 | ⟨h1, rfl⟩
 · rw [h1]; exact this
 · rw [h1]; exact this
def ud : SV := .tup []
def guardIs (all : Array Oper) (o : Oper) (tm : Nat → Option SV) (b : Bool) : Prop :=
  match o.guard with
  | none => b = true
  | some (j, want) => ∃ oj d, all[j]? = some oj ∧ oj.dst = some d ∧ ((∃ t, tm d = some (V (.bool t)) ∧ (t == want) = b) ∨ (tm d = some ud ∧ b = false))
def updD (tm : Nat → Option SV) (d : Option Tmp) (s : SV) : Nat → Option SV :=
  match d with
  | some k => upd tm k (some s)
  | none => tm
inductive Tr (P : Program) (all : Array Oper) (N : Nat) : List Oper → (Nat → Option SV) → (Nat → Option Row) → Nat → List (Oper × Ef) → (Nat → Option SV) → (Nat → Option Row) → Nat → Prop
  | nil (tm : Nat → Option SV) (hp : Nat → Option Row) (nx : Nat) : Tr P all N [] tm hp nx [] tm hp nx
  | exec {o : Oper} {rest : List Oper} {tm : Nat → Option SV} {hp : Nat → Option Row} {nx : Nat} {e : Ef} {rs : List (Oper × Ef)} {tm' : Nat → Option SV} {hp' : Nat → Option Row} {nx' : Nat}
      (hg : guardIs all o tm true) (hd : ∀ k, o.dst = some k → k < N) (hx : XLoc P o (evS tm) hp nx e) (hw : ∀ u ∈ e.ups, u.1 ∈ e.fp ∨ (nx ≤ u.1 ∧ u.1 < nx + e.cost))
      (h : Tr P all N rest (updD tm o.dst e.val) (upds hp e.ups) (nx + e.cost) rs tm' hp' nx') : Tr P all N (o :: rest) tm hp nx ((o, e) :: rs) tm' hp' nx'
  | skip {o : Oper} {rest : List Oper} {tm : Nat → Option SV} {hp : Nat → Option Row} {nx : Nat} {rs : List (Oper × Ef)} {tm' : Nat → Option SV} {hp' : Nat → Option Row} {nx' : Nat}
      (hg : guardIs all o tm false) (hd : ∀ k, o.dst = some k → k < N)
      (h : Tr P all N rest (updD tm o.dst ud) hp (nx + 1) rs tm' hp' nx') : Tr P all N (o :: rest) tm hp nx ((o, ⟨ud, [], 0, []⟩) :: rs) tm' hp' nx'
section
variable {P : Program} {all : Array Oper} {w0 : Base} {A : Nat → Prop} {N : Nat} {Fr : Nat → Prop} {tm : Nat → Option SV} {hp : Nat → Option Row} {a : Act} {w : World} {m : Mem} {π : Plc} {n : Nat}
theorem wanted_of (h : RelAt P w0 A N Fr tm hp a w m π) {o : Oper} {b : Bool} (hg : guardIs all o tm b) : Region.wanted o (yielded all a.tmps) = b := by
 unfold guardIs at hg
 unfold Region.wanted
 cases hgd : o.guard with
 | none => rw [hgd] at hg; exact hg.symm
 | some jw =>
   obtain ⟨j, want⟩ := jw
   rw [hgd] at hg
   obtain ⟨oj, d, h1, h2, hg⟩ := hg
   rcases hg with ⟨t, h3, h4⟩ | ⟨h3, h4⟩
   · have h5 := (vs_sc (h.tms d _ h3)).1
     have hlt : d < a.tmps.size := by
       rcases zaq d a.tmps.size with hl | hl
       · exact hl
       · exfalso
         have hnl : ¬ d < a.tmps.size := Nat.not_lt.2 hl
         simp [Array.getD, hnl, undef] at h5
     have h6 : a.tmps[d]? = some (.bool t) := by
       rw [Array.getElem?_eq_getElem hlt]
       simpa [Array.getD, hlt] using h5
     simp only [yielded, h1, Option.bind_some, h2, h6]
     rw [← h4]
     cases t <;> cases want <;> rfl
   · subst h4
     obtain ⟨vs, h5, h6⟩ := h.tms d _ h3
     have : yielded all a.tmps j = none := by
       simp only [yielded, h1, Option.bind_some, h2]
       by_cases hl : d < a.tmps.size
       · rw [Array.getElem?_eq_getElem hl]
         have : a.tmps[d] = .tuple vs := by simpa [Array.getD, hl] using h5
         rw [this]
       · have e : a.tmps[d]? = none := Array.getElem?_eq_none (Nat.le_of_not_lt hl)
         rw [e]
     simp only [this]
     cases want <;> rfl
theorem RelAt.putD (h : RelAt P w0 A N Fr tm hp a w m π) (d : Option Tmp) (hd : ∀ k, d = some k → k < N) {s : SV} {v : Value} (hv : VS m π s v) (hc : s.cl Fr) : RelAt P w0 A N Fr (updD tm d s) hp (a.put d v) w m π := by
 have := h.put d hd hv hc
 unfold updD
 cases d <;> exact this
theorem ud_v {m : Mem} {π : Plc} : VS m π ud undef := ⟨#[], rfl, trivial⟩
theorem ud_c {Fr : Nat → Prop} : ud.cl Fr := trivial
theorem Tr.seq {rest : List Oper} {tm : Nat → Option SV} {hp : Nat → Option Row} {nx : Nat} {rs : List (Oper × Ef)} {tm' : Nat → Option SV} {hp' : Nat → Option Row} {nx' : Nat} (ht : Tr P all N rest tm hp nx rs tm' hp' nx') {Q : Exit → Act → World → Prop} (hQ : ∀ a' w' m' π', RelAt P w0 A N (nx' ≤ ·) tm' hp' a' w' m' π' → Q .normal a' w') : ∀ (i : Nat) (a : Act) (w : World) (m : Mem) (π : Plc), all.toList.drop i = rest → RelAt P w0 A N (nx ≤ ·) tm hp a w m π → wpOps P all Q (List.range' i rest.length) a w := by
 induction ht with
 | nil tm hp nx => exact fun i a w m π _ h => hQ a w m π h
 | @exec o rest tm hp nx e rs tm' hp' nx' hg hd hx hw h ih =>
   intro i a w m π hi hr
   have hoi : all[i]? = some o := by
     have : (all.toList.drop i)[0]? = some o := by rw [hi]; rfl
     simpa using this
   have hi' : all.toList.drop (i + 1) = rest := by
     have : (all.toList.drop i).tail = rest := by rw [hi]; rfl
     simpa using this
   simp only [zaj, List.range'_succ, wpOps, hoi]
   rw [if_pos (wanted_of hr hg)]
   left
   refine hx hp (fun _ _ => rfl) w0 A N _ tm a w m π _ Q hr (fun x _ => evS_ok hr x) (fun r h1 _ => h1) (fun v w' m' π' h1 h2 h3 => ?_)
   have hsub : ∀ r, nx + e.cost ≤ r → nx ≤ r ∧ ¬ (nx ≤ r ∧ r < nx + e.cost) := fun r hr => ⟨by omega, by omega⟩
   exact ih hQ (i + 1) _ w' m' π' hi' ((h1.frmono hsub).putD o.dst hd h2 (SV.cl.mono hsub h3))
 | @skip o rest tm hp nx rs tm' hp' nx' hg hd h ih =>
   intro i a w m π hi hr
   have hoi : all[i]? = some o := by
     have : (all.toList.drop i)[0]? = some o := by rw [hi]; rfl
     simpa using this
   have hi' : all.toList.drop (i + 1) = rest := by
     have : (all.toList.drop i).tail = rest := by rw [hi]; rfl
     simpa using this
   simp only [zaj, List.range'_succ, wpOps, hoi]
   rw [if_neg (by rw [wanted_of hr hg]; simp)]
   exact ih hQ (i + 1) _ w m π hi' ((hr.frmono (fun r hr => by omega)).putD o.dst hd ud_v ud_c)
theorem wp_region_seq {id : Nat} {nx : Nat} {rs : List (Oper × Ef)} {tm' : Nat → Option SV} {hp' : Nat → Option Row} {nx' : Nat} {Q : Exit → Act → World → Prop} (ht : Tr P all N all.toList tm hp nx rs tm' hp' nx') (hQ : ∀ a' w' m' π', RelAt P w0 A N (nx' ≤ ·) tm' hp' a' w' m' π' → Q .normal a' w') (h : RelAt P w0 A N (nx ≤ ·) tm hp a w m π) : (Code.region id all false).wp P Q a w := by
 refine wp_region ?_
 have := ht.seq hQ 0 a w m π (by simp) h
 rwa [List.range_eq_range', ← Array.length_toList]
end
end Go.Proofs.YtnahpejlhfeleabGreat.Sh
namespace Go.Proofs.YtnahpejlhfeleabGreat.Sh
open Go.RowKit
structure U (β : Type) where
  ids : List Nat
  c : Nat → β
def app {β : Type} (u : U β) (f : Nat → β) : Nat → β := fun x => if x ∈ u.ids then u.c x else f x
def foldU {β : Type} (S : Nat → Bool) : Nat → List (U β) → (Nat → β) → (Nat → β)
  | _, [], f => f
  | b, u :: l, f => foldU S (b + 1) l (if S b = true then app u f else f)
theorem foldU_agree {β : Type} (S S' : Nat → Bool) (x : Nat) : ∀ (l : List (U β)) (b : Nat) (f f' : Nat → β), f x = f' x → (∀ (k : Nat) u, l[k]? = some u → x ∈ u.ids → S (b + k) = S' (b + k)) → foldU S b l f x = foldU S' b l f' x
  | [], _, _, _, h, _ => h
  | u :: l, b, f, f', h, hs => by
    unfold foldU
    refine foldU_agree S S' x l (b + 1) _ _ ?_ (fun k u' hk hx => by have := hs (k + 1) u' (by simpa using hk) hx; rwa [show b + (k + 1) = b + 1 + k by omega] at this)
    by_cases hx : x ∈ u.ids
    · have := hs 0 u (by simp) hx
      simp only [zal] at this
      rw [this]
      cases S' b
      · exact h
      · simp [app, hx]
    · cases S b <;> cases S' b <;> simp [app, hx, h]
theorem foldU_comm {β : Type} (S : Nat → Bool) (u : U β) : ∀ (l : List (U β)) (b : Nat) (f : Nat → β), (∀ (k : Nat) u', l[k]? = some u' → S (b + k) = true → ∀ x ∈ u.ids, x ∉ u'.ids) → foldU S b l (app u f) = app u (foldU S b l f)
  | [], _, _, _ => rfl
  | u' :: l, b, f, h => by
    unfold foldU
    have hr : ∀ (k : Nat) u2, l[k]? = some u2 → S (b + 1 + k) = true → ∀ x ∈ u.ids, x ∉ u2.ids := fun k u2 hk hs => h (k + 1) u2 (by simpa using hk) (by rwa [show b + (k + 1) = b + 1 + k by omega])
    by_cases hb : S b = true
    · rw [if_pos hb, if_pos hb, ← foldU_comm S u l (b + 1) (app u' f) hr]
      congr 1
      funext x
      have := h 0 u' (by simp) (by simpa using hb) x
      unfold app
      by_cases h1 : x ∈ u.ids
      · simp [h1, this h1]
      · simp [h1]
    · rw [if_neg hb, if_neg hb]
      exact foldU_comm S u l (b + 1) f hr
theorem foldU_insert {β : Type} (S : Nat → Bool) (u : U β) (i : Nat) : ∀ (l : List (U β)) (b k : Nat) (f : Nat → β), l[k]? = some u → i = b + k → S i = false → (∀ (k' : Nat) u', k < k' → l[k']? = some u' → S (b + k') = true → ∀ x ∈ u.ids, x ∉ u'.ids) → foldU (fun j => S j || j == i) b l f = app u (foldU S b l f)
  | [], _, _, _, h, _, _, _ => by cases h
  | u0 :: l, b, 0, f, h, hi, hs, hd => by
    simp at h
    subst h
    simp only [zal] at hi
    subst hi
    unfold foldU
    simp only [hs, beq_self_eq_true, Bool.or_true, ↓reduceIte, Bool.false_eq_true]
    rw [← foldU_comm S u0 l (i + 1) f (fun k u' hk hs' => hd (k + 1) u' (by omega) (by simpa using hk) (by rwa [show i + (k + 1) = i + 1 + k by omega]))]
    funext x
    refine foldU_agree _ _ x l (i + 1) _ _ rfl (fun k u' _ _ => ?_)
    have : (i + 1 + k == i) = false := by simp; omega
    simp [this]
  | u0 :: l, b, k + 1, f, h, hi, hs, hd => by
    unfold foldU
    have hb : (b == i) = false := by simp; omega
    simp only [hb, Bool.or_false]
    exact foldU_insert S u i l (b + 1) k _ (by simpa using h) (by omega) hs (fun k' u' hk hl hs' => hd (k' + 1) u' (by omega) (by simpa using hl) (by rwa [show b + (k' + 1) = b + 1 + k' by omega]))
def uT (x : Oper × Ef) : U (Option SV) := ⟨x.1.dst.toList, fun _ => some x.2.val⟩
def uH (x : Oper × Ef) : U (Option Row) := ⟨x.2.ups.map (·.1), upds (fun _ => none) x.2.ups⟩
theorem updD_app (x : Oper × Ef) (tm : Nat → Option SV) : updD tm x.1.dst x.2.val = app (uT x) tm := by
 funext k
 unfold updD app uT upd
 cases x.1.dst with
 | none => simp
 | some d => simp
theorem upds_out : ∀ (l : List (Nat × Option Row)) (hp : Nat → Option Row) (x : Nat), x ∉ l.map (·.1) → upds hp l x = hp x
  | [], _, _, _ => rfl
  | (r, y) :: l, hp, x, h => by
    simp at h
    unfold upds
    rw [upds_out l _ x (by simpa using h.2)]
    exact upd_ne _ _ _ _ h.1
theorem upds_in : ∀ (l : List (Nat × Option Row)) (hp hp' : Nat → Option Row) (x : Nat), x ∈ l.map (·.1) → upds hp l x = upds hp' l x
  | [], _, _, _, h => by simp at h
  | (r, y) :: l, hp, hp', x, h => by
    unfold upds
    by_cases hx : x ∈ l.map (·.1)
    · exact upds_in l _ _ x hx
    · rw [upds_out l _ x hx, upds_out l _ x hx]
      have : x = r := by
        simp at h hx
        rcases h with h | ⟨z, h⟩
        · exact h
        · exact absurd h (hx z)
      subst this
      simp [upd]
theorem upds_app (x : Oper × Ef) (hp : Nat → Option Row) : upds hp x.2.ups = app (uH x) hp := by
 funext k
 unfold app uH
 simp only
 split
 · rename_i h; exact upds_in _ _ _ k h
 · rename_i h; exact upds_out _ _ k h
def nxAt (nx : Nat) (rs : List (Oper × Ef)) (k : Nat) : Nat := nx + ((rs.take k).map (fun x => x.2.cost)).sum
theorem nxAt_succ (nx : Nat) (rs : List (Oper × Ef)) (k : Nat) (x : Oper × Ef) (h : rs[k]? = some x) : nxAt nx rs (k + 1) = nxAt nx rs k + x.2.cost := by
 have hl : k < rs.length := (List.getElem?_eq_some_iff.1 h).1
 have he : rs[k] = x := (List.getElem?_eq_some_iff.1 h).2
 unfold nxAt
 rw [List.take_succ_eq_append_getElem hl, List.map_append, List.sum_append, he]
 simp [zai]
theorem nxAt_mono (nx : Nat) (rs : List (Oper × Ef)) : ∀ (d k : Nat), nxAt nx rs k ≤ nxAt nx rs (k + d)
  | 0, k => zad _
  | d + 1, k => by
    refine zar (nxAt_mono nx rs d k) ?_
    rw [show k + (d + 1) = k + d + 1 by omega]
    by_cases h : k + d < rs.length
    · rw [nxAt_succ nx rs (k + d) rs[k + d] (by simp [h])]; omega
    · unfold nxAt
      rw [zao (by omega), zao (by omega)]
      exact zad _
section
variable {P : Program} {all : Array Oper} {w0 : Base} {A : Nat → Prop} {N : Nat}
structure At (P : Program) (all : Array Oper) (N : Nat) (o : Oper) (e : Ef) (tm : Nat → Option SV) (hp : Nat → Option Row) (nx : Nat) : Prop where
  dst : ∀ k, o.dst = some k → k < N
  ex : (guardIs all o tm true ∧ XLoc P o (evS tm) hp nx e ∧ ∀ u ∈ e.ups, u.1 ∈ e.fp ∨ (nx ≤ u.1 ∧ u.1 < nx + e.cost)) ∨ (guardIs all o tm false ∧ e = ⟨ud, [], 0, []⟩)
theorem foldU_none {β : Type} (S : Nat → Bool) : ∀ (l : List (U β)) (b : Nat) (f : Nat → β), (∀ k, b ≤ k → S k = false) → foldU S b l f = f
  | [], _, _, _ => rfl
  | u :: l, b, f, h => by
    unfold foldU
    rw [if_neg (by rw [h b (zad _)]; simp)]
    exact foldU_none S l (b + 1) f (fun k hk => h k (by omega))
theorem Tr.at {rest : List Oper} {tm : Nat → Option SV} {hp : Nat → Option Row} {nx : Nat} {rs : List (Oper × Ef)} {tm' : Nat → Option SV} {hp' : Nat → Option Row} {nx' : Nat} (ht : Tr P all N rest tm hp nx rs tm' hp' nx') : ∀ (b : Nat), rs.map (·.1) = rest ∧ tm' = foldU (fun _ => true) b (rs.map uT) tm ∧ hp' = foldU (fun _ => true) b (rs.map uH) hp ∧ nx' = nxAt nx rs rs.length ∧
      ∀ (k : Nat) x, rs[k]? = some x → At P all N x.1 x.2 (foldU (fun j => decide (j < b + k)) b (rs.map uT) tm) (foldU (fun j => decide (j < b + k)) b (rs.map uH) hp) (nxAt nx rs k) := by
  induction ht with
  | nil tm hp nx => exact fun b => ⟨rfl, rfl, rfl, rfl, fun k x h => by cases h⟩
  | @exec o rest tm hp nx e rs tm' hp' nx' hg hd hx hw h ih =>
    intro b
    obtain ⟨h1, h2, h3, h4, h5⟩ := ih (b + 1)
    refine ⟨by simp [h1], ?_, ?_, ?_, ?_⟩
    · rw [h2]; simp only [zac, foldU, ↓reduceIte]; rw [← updD_app]
    · rw [h3]; simp only [zac, foldU, ↓reduceIte]; rw [← upds_app]
    · rw [h4]; simp [nxAt, zai]
    · intro k x hk
      cases k with
      | zero =>
        simp at hk
        subst hk
        rw [foldU_none _ _ _ _ (fun k hk => by simp; omega), foldU_none _ _ _ _ (fun k hk => by simp; omega)]
        exact ⟨hd, .inl ⟨hg, hx, hw⟩⟩
      | succ k =>
        have := h5 k x (by simpa using hk)
        have hbk : decide (b < b + (k + 1)) = true := by simp
        simp only [zac, foldU, hbk, ↓reduceIte]
        rw [← updD_app (o, e), ← upds_app (o, e)]
        have e1 : nxAt nx ((o, e) :: rs) (k + 1) = nxAt (nx + e.cost) rs k := by simp [nxAt, zai]
        rw [e1, show b + (k + 1) = b + 1 + k by omega]
        exact this
  | @skip o rest tm hp nx rs tm' hp' nx' hg hd h ih =>
    intro b
    obtain ⟨h1, h2, h3, h4, h5⟩ := ih (b + 1)
    have hu : ∀ hp : Nat → Option Row, app (uH (o, ⟨ud, [], 0, []⟩)) hp = hp := fun hp => by funext x; simp [app, uH]
    refine ⟨by simp [h1], ?_, ?_, ?_, ?_⟩
    · rw [h2]; simp only [zac, foldU, ↓reduceIte]; rw [← updD_app]
    · rw [h3]; simp only [zac, foldU, ↓reduceIte, hu]
    · rw [h4]; simp [nxAt, Ef.cost, zai]
    · intro k x hk
      cases k with
      | zero =>
        simp at hk
        subst hk
        rw [foldU_none _ _ _ _ (fun k hk => by simp; omega), foldU_none _ _ _ _ (fun k hk => by simp; omega)]
        exact ⟨hd, .inr ⟨hg, rfl⟩⟩
      | succ k =>
        have := h5 k x (by simpa using hk)
        have hbk : decide (b < b + (k + 1)) = true := by simp
        simp only [zac, foldU, hbk, ↓reduceIte, hu]
        rw [← updD_app (o, ⟨ud, [], 0, []⟩)]
        have e1 : nxAt nx ((o, (⟨ud, [], 0, []⟩ : Ef)) :: rs) (k + 1) = nxAt (nx + 1) rs k := by simp [nxAt, Ef.cost, zai]
        rw [e1, show b + (k + 1) = b + 1 + k by omega]
        exact this
end
end Go.Proofs.YtnahpejlhfeleabGreat.Sh
namespace Go.Proofs.YtnahpejlhfeleabGreat.Sh
open Go.RowKit
def gB (acc : Array Nat) (o : Oper) : Nat := o.after.foldl (fun s e => if Region.binds .any e then s ||| 2 ^ e.on ||| acc.getD e.on 0 else s) 0
def bB (l : List Oper) : Array Nat := l.foldl (fun acc o => acc.push (gB acc o)) #[]
theorem before_eq (ops : Array Oper) : Region.before ops = bB ops.toList := by
 unfold Region.before bB gB
 rw [← Array.foldl_toList]
theorem bB_snoc (l : List Oper) (o : Oper) : bB (l ++ [o]) = (bB l).push (gB (bB l) o) := by simp [bB]
theorem bB_size : ∀ (n : Nat) (l : List Oper), l.length = n → (bB l).size = n
  | 0, l, h => by have : l = [] := List.length_eq_zero_iff.1 h; subst this; rfl
  | n + 1, l, h => by
    rcases List.eq_nil_or_concat l with e | ⟨l', o, e⟩
    · subst e; simp at h
    · subst e
      rw [List.concat_eq_append] at h ⊢
      rw [bB_snoc, Array.size_push, bB_size n l' (by simpa using h)]
theorem bB_get : ∀ (n : Nat) (l : List Oper), l.length = n → ∀ i o, l[i]? = some o → (bB l).getD i 0 = gB (bB (l.take i)) o
  | 0, l, h, i, o, hi => by have : l = [] := List.length_eq_zero_iff.1 h; subst this; cases hi
  | n + 1, l, h, i, o, hi => by
    rcases List.eq_nil_or_concat l with e | ⟨l', o', e⟩
    · subst e; simp at h
    · subst e
      rw [List.concat_eq_append] at h hi ⊢
      have hl : l'.length = n := by simpa using h
      have hs := bB_size n l' hl
      rw [bB_snoc]
      by_cases hlt : i < n
      · rw [List.getElem?_append_left (by omega)] at hi
        rw [List.take_append_of_le_length (by omega), ← bB_get n l' hl i o hi]
        simp [Array.getD, hs, hlt, Nat.lt_succ_of_lt hlt, Array.getElem_push]
      · have hin : i = n := by
          have := (List.getElem?_eq_some_iff.1 hi).1
          simp at this; omega
        subst hin
        rw [List.getElem?_append_right (by omega)] at hi
        simp [hl] at hi
        subst hi
        rw [List.take_append_of_le_length (by omega), zao (by omega)]
        simp [Array.getD, hs, Array.getElem_push]
theorem gB_bit (acc : Array Nat) (o : Oper) (j : Nat) (h : (gB acc o).testBit j = true) : ∃ e ∈ o.after, Region.binds .any e = true ∧ (e.on = j ∨ (acc.getD e.on 0).testBit j = true) := by
 unfold gB at h
 rw [← Array.foldl_toList] at h
 have : ∀ (l : List Edge) (s : Nat), (l.foldl (fun s e => if Region.binds .any e then s ||| 2 ^ e.on ||| acc.getD e.on 0 else s) s).testBit j = true → s.testBit j = true ∨ ∃ e ∈ l, Region.binds .any e = true ∧ (e.on = j ∨ (acc.getD e.on 0).testBit j = true) := by
   intro l
   induction l with
   | nil => exact fun s h => .inl h
   | cons e l ih =>
     intro s h
     rw [List.foldl_cons] at h
     rcases ih _ h with h1 | ⟨e', h1, h2⟩
     · by_cases hb : Region.binds .any e = true
       · rw [if_pos hb, Nat.testBit_or, Nat.testBit_or, zag, zag] at h1
         rcases h1 with (h1 | h1) | h1
         · exact .inl h1
         · refine .inr ⟨e, by simp, hb, .inl ?_⟩
           rw [Nat.testBit_two_pow] at h1
           exact of_decide_eq_true h1
         · exact .inr ⟨e, by simp, hb, .inr h1⟩
       · rw [if_neg hb] at h1; exact .inl h1
     · exact .inr ⟨e', by simp [h1], h2⟩
 rcases this _ _ h with h1 | ⟨e, h1, h2⟩
 · simp at h1
 · exact ⟨e, by simpa using h1, h2⟩
def edgeOk (all : Array Oper) : Bool := (zap all.size).all fun i => match all[i]? with
  | some o => o.after.all fun e => !Region.binds .any e || decide (e.on < i)
  | none => true
theorem edgeOk_spec {all : Array Oper} (h : edgeOk all = true) {i : Nat} {o : Oper} (ho : all[i]? = some o) {e : Edge} (he : e ∈ o.after) (hb : Region.binds .any e = true) : e.on < i := by
 have hi : i < all.size := (Array.getElem?_eq_some_iff.1 ho).1
 have := List.all_eq_true.1 h i (by simpa using hi)
 simp only [ho] at this
 have := Array.all_eq_true_iff_forall_mem.1 this e he
 simpa [hb] using this
theorem before_bit {all : Array Oper} (hE : edgeOk all = true) {i j : Nat} {o : Oper} (ho : all[i]? = some o) (h : ((Region.before all).getD i 0).testBit j = true) : ∃ e ∈ o.after, Region.binds .any e = true ∧ e.on < i ∧ (e.on = j ∨ ((Region.before all).getD e.on 0).testBit j = true) := by
 rw [before_eq] at h ⊢
 rw [bB_get all.size all.toList (by simp) i o (by simpa using ho)] at h
 obtain ⟨e, he, hb, h1⟩ := gB_bit _ _ _ h
 have hlt := edgeOk_spec hE ho he hb
 refine ⟨e, he, hb, hlt, h1.imp id (fun h2 => ?_)⟩
 have hi : i < all.size := (Array.getElem?_eq_some_iff.1 ho).1
 have hoe : all.toList[e.on]? = some (all[e.on]'(by omega)) := by simp
 have hoe2 : (all.toList.take i)[e.on]? = some (all[e.on]'(by omega)) := by rw [List.getElem?_take_of_lt hlt]; exact hoe
 rw [bB_get all.size all.toList (by simp) e.on _ hoe]
 rw [bB_get i (all.toList.take i) (by simp; omega) e.on _ hoe2] at h2
 rwa [List.take_take, Nat.min_eq_left (by omega)] at h2
theorem before_listed {all : Array Oper} (hE : edgeOk all = true) {listed : Array Bool} (hcl : ∀ (i : Nat) o, all[i]? = some o → listed.getD i false = true → ∀ e ∈ o.after, Region.binds .any e = true → listed.getD e.on false = true) : ∀ (i : Nat) o, all[i]? = some o → (∀ e ∈ o.after, Region.binds .any e = true → listed.getD e.on false = true) → ∀ j, ((Region.before all).getD i 0).testBit j = true → listed.getD j false = true := by
 intro i
 induction i using Nat.strongRecOn with
 | _ i ih =>
   intro o ho he j hj
   obtain ⟨e, h1, h2, h3, h4⟩ := before_bit hE ho hj
   rcases h4 with rfl | h4
   · exact he e h1 h2
   · have hi : i < all.size := (Array.getElem?_eq_some_iff.1 ho).1
     have hoe : all[e.on]? = some (all[e.on]'(by omega)) := by simp
     exact ih e.on h3 _ hoe (hcl e.on _ hoe (he e h1 h2)) j h4
def confl (all : Array Oper) (x y : Oper) (fx wx fy wy : List Nat) : Bool :=
  (x.dst.toList.any fun d => (y.looksAt all).contains d || y.dst == some d) || (y.dst.toList.any fun d => (x.looksAt all).contains d) ||
  (wx.any fun r => fy.contains r || wy.contains r) || (wy.any fun r => fx.contains r)
def okc (all : Array Oper) (L : List (List Nat × List Nat)) : Bool :=
  (zap all.size).all fun j => (zap j).all fun i => match all[i]?, all[j]?, L[i]?, L[j]? with
    | some x, some y, some (fx, wx), some (fy, wy) => !confl all x y fx wx fy wy || ((Region.before all).getD j 0).testBit i
    | _, _, _, _ => true
def tag (x : Oper × Ef) : List Nat × List Nat := (x.2.fp, x.2.ups.map (·.1))
theorem okc_spec {all : Array Oper} {rs : List (Oper × Ef)} (hr : rs.map (·.1) = all.toList) (h : okc all (rs.map tag) = true) {i j : Nat} {x y : Oper × Ef} (hij : i < j) (hx : rs[i]? = some x) (hy : rs[j]? = some y) (hc : confl all x.1 y.1 x.2.fp (x.2.ups.map (·.1)) y.2.fp (y.2.ups.map (·.1)) = true) : ((Region.before all).getD j 0).testBit i = true := by
 have e1 : all[i]? = some x.1 := by
   have : all.toList[i]? = some x.1 := by rw [← hr, List.getElem?_map, hx]; rfl
   simpa using this
 have e2 : all[j]? = some y.1 := by
   have : all.toList[j]? = some y.1 := by rw [← hr, List.getElem?_map, hy]; rfl
   simpa using this
 have hj : j < all.size := (Array.getElem?_eq_some_iff.1 e2).1
 have h1 := List.all_eq_true.1 h j (by simpa using hj)
 have h2 := List.all_eq_true.1 h1 i (by simpa using hij)
 simp only [e1, e2, List.getElem?_map, hx, hy, Option.map_some, tag] at h2
 simpa [hc] using h2
section
variable {P : Program} {all : Array Oper} {w0 : Base} {A : Nat → Prop} {N : Nat}
def FrL (nx : Nat) (rs : List (Oper × Ef)) (S : Nat → Bool) : Nat → Prop := fun r => nx ≤ r ∧ ∀ (k : Nat) x, rs[k]? = some x → S k = true → ¬ (nxAt nx rs k ≤ r ∧ r < nxAt nx rs k + x.2.cost)
def unl (listed : Array Bool) : Nat := (listed.toList.filter (!·)).length
theorem filter_set : ∀ (l : List Bool) (i : Nat), l[i]? = some false → ((l.set i true).filter (!·)).length + 1 = (l.filter (!·)).length
  | [], _, h => by cases h
  | b :: l, 0, h => by simp at h; subst h; simp
  | b :: l, i + 1, h => by
    have := filter_set l i (by simpa using h)
    cases b <;> simp <;> omega
theorem unl_set (listed : Array Bool) (i : Nat) (h : listed.getD i true = false) : unl (listed.setIfInBounds i true) + 1 = unl listed := by
 have hi : i < listed.size := by
   rcases zaq i listed.size with h' | h'
   · exact h'
   · simp [Array.getElem?_eq_none h'] at h
 have hv : listed.toList[i]? = some false := by
   simp [hi] at h ⊢
   exact h
 unfold unl
 rw [Array.toList_setIfInBounds]
 exact filter_set _ _ hv
theorem unl_zero (listed : Array Bool) (h : unl listed = 0) (i : Nat) (hi : i < listed.size) : listed.getD i false = true := by
 unfold unl at h
 have h1 := List.length_eq_zero_iff.1 h
 have h2 := List.filter_eq_nil_iff.1 h1 (listed[i]) (by simp)
 simp [hi]
 simpa using h2
structure Inv (P : Program) (all : Array Oper) (w0 : Base) (A : Nat → Prop) (N : Nat) (tm : Nat → Option SV) (hp : Nat → Option Row) (nx : Nat) (rs : List (Oper × Ef)) (listed : Array Bool) (a : Act) (w : World) : Prop where
  size : listed.size = all.size
  down : ∀ (i : Nat) o, all[i]? = some o → listed.getD i false = true → ∀ e ∈ o.after, Region.binds .any e = true → listed.getD e.on false = true
  rel : ∃ m π, RelAt P w0 A N (FrL nx rs (fun i => listed.getD i false)) (foldU (fun i => listed.getD i false) 0 (rs.map uT) tm) (foldU (fun i => listed.getD i false) 0 (rs.map uH) hp) a w m π
theorem getD_tf {listed : Array Bool} {i : Nat} (h : listed.getD i true = false) : listed.getD i false = false := by
 rcases zaq i listed.size with h' | h'
 · simp [h'] at h ⊢; exact h
 · simp [Array.getElem?_eq_none h'] at h
theorem getD_set {listed : Array Bool} {i : Nat} (hi : i < listed.size) (j : Nat) : (listed.setIfInBounds i true).getD j false = (listed.getD j false || j == i) := by
 by_cases e : j = i
 · subst e; simp [hi]
 · simp [Array.getElem?_setIfInBounds_ne (Ne.symm e), e]
theorem nxAt_lt {nx : Nat} {rs : List (Oper × Ef)} {i j : Nat} {x : Oper × Ef} (hij : i < j) (hx : rs[i]? = some x) : nxAt nx rs i + x.2.cost ≤ nxAt nx rs j := by
 rw [← nxAt_succ nx rs i x hx]
 have := nxAt_mono nx rs (j - (i + 1)) (i + 1)
 rwa [show i + 1 + (j - (i + 1)) = j by omega] at this
theorem Inv.step {tm : Nat → Option SV} {hp : Nat → Option Row} {nx : Nat} {rs : List (Oper × Ef)} {tm' : Nat → Option SV} {hp' : Nat → Option Row} {nx' : Nat} (ht : Tr P all N all.toList tm hp nx rs tm' hp' nx') (hE : edgeOk all = true) (hO : okc all (rs.map tag) = true) {listed : Array Bool} {a : Act} {w : World} (hI : Inv P all w0 A N tm hp nx rs listed a w) {i : Nat} (hr : i ∈ Region.ready .any all listed) {Q : Exit → Act → World → Prop} {K : Act → World → Prop} (hK : ∀ a' w', Inv P all w0 A N tm hp nx rs (listed.setIfInBounds i true) a' w' → K a' w') : wpOp P all Q i K a w := by
 obtain ⟨q1, q2, q3, q4, q5⟩ := ht.at 0
 obtain ⟨hun, o, ho, hpre⟩ := mem_ready.1 hr
 obtain ⟨m, π, hrel⟩ := hI.rel
 have hia : i < all.size := (Array.getElem?_eq_some_iff.1 ho).1
 have hil : i < listed.size := by rw [hI.size]; exact hia
 have hlen : rs.length = all.size := by rw [← List.length_map (f := (·.1)), q1]; simp
 obtain ⟨x, hx⟩ : ∃ x, rs[i]? = some x := ⟨_, List.getElem?_eq_getElem (by omega)⟩
 have hxo : x.1 = o := by
   have : (rs.map (·.1))[i]? = some x.1 := by rw [List.getElem?_map, hx]; rfl
   rw [q1] at this
   simp at this
   rw [ho] at this; cases this; rfl
 have hat := q5 i x hx
 simp only [zab] at hat
 -- those who wait
 have hbef := before_listed hE hI.down i o ho hpre
 have hlt : ∀ (j : Nat) y, rs[j]? = some y → j < i → confl all y.1 x.1 y.2.fp (y.2.ups.map (·.1)) x.2.fp (x.2.ups.map (·.1)) = true → listed.getD j false = true :=
   fun j y hy hji hc => hbef j (okc_spec q1 hO hji hy hx hc)
 have hgt : ∀ (j : Nat) y, rs[j]? = some y → i < j → confl all x.1 y.1 x.2.fp (x.2.ups.map (·.1)) y.2.fp (y.2.ups.map (·.1)) = true → listed.getD j false = false := by
   intro j y hy hij hc
   have hb := okc_spec q1 hO hij hx hy hc
   cases hj : listed.getD j false with
   | false => rfl
   | true =>
     exfalso
     have hjo : all[j]? = some y.1 := by
       have : (rs.map (·.1))[j]? = some y.1 := by rw [List.getElem?_map, hy]; rfl
       rw [q1] at this
       simpa using this
     have := before_listed hE hI.down j y.1 hjo (hI.down j y.1 hjo hj) i hb
     rw [getD_tf hun] at this
     cases this
 -- the state agrees on what it looks at
 have agT : ∀ d, (d ∈ o.looksAt all ∨ o.dst = some d) → foldU (fun j => listed.getD j false) 0 (rs.map uT) tm d = foldU (fun j => decide (j < i)) 0 (rs.map uT) tm d := by
   intro d hd
   refine foldU_agree _ _ d _ 0 _ _ rfl (fun k u hk hdu => ?_)
   simp only [zab]
   rw [List.getElem?_map, zaa] at hk
   obtain ⟨y, hy, rfl⟩ := hk
   have hdy : y.1.dst = some d := by simpa [uT] using hdu
   rcases Nat.lt_trichotomy k i with h | h | h
   · rw [hlt k y hy h (by
       simp only [confl, hdy, hxo, Option.toList_some, List.any_cons, List.any_nil, Bool.or_false, zag]
       left; left; left
       rcases hd with hd | hd
       · left; simpa using hd
       · right; simp [hd])]
     simp [h]
   · subst h; rw [getD_tf hun]; simp
   · rw [hgt k y hy h (by
       simp only [confl, hdy, hxo, Option.toList_some, List.any_cons, List.any_nil, Bool.or_false, zag]
       left; left
       rcases hd with hd | hd
       · right; simpa using hd
       · left; simp [hd])]
     simp; omega
 have agH : ∀ r, (r ∈ x.2.fp ∨ r ∈ x.2.ups.map (·.1)) → foldU (fun j => listed.getD j false) 0 (rs.map uH) hp r = foldU (fun j => decide (j < i)) 0 (rs.map uH) hp r := by
   intro r hrr
   refine foldU_agree _ _ r _ 0 _ _ rfl (fun k u hk hdu => ?_)
   simp only [zab]
   rw [List.getElem?_map, zaa] at hk
   obtain ⟨y, hy, rfl⟩ := hk
   have hdy : r ∈ y.2.ups.map (·.1) := hdu
   rcases Nat.lt_trichotomy k i with h | h | h
   · rw [hlt k y hy h (by
       simp only [confl, zag]
       left; right
       rw [zak]
       exact ⟨r, hdy, by rcases hrr with h | h <;> simp [h] <;> simp_all⟩)]
     simp [h]
   · subst h; rw [getD_tf hun]; simp
   · rw [hgt k y hy h (by
       simp only [confl, zag]
       rcases hrr with h' | h'
       · right
         rw [zak]
         exact ⟨r, hdy, by simpa using h'⟩
       · left; right
         rw [zak]
         exact ⟨r, h', by simp; right; simpa using hdy⟩)]
     simp; omega
 -- the order's next state
 have hsetS : (fun j => (listed.setIfInBounds i true).getD j false) = (fun j => listed.getD j false || j == i) := funext fun j => getD_set hil j
 have insT : foldU (fun j => listed.getD j false || j == i) 0 (rs.map uT) tm = app (uT x) (foldU (fun j => listed.getD j false) 0 (rs.map uT) tm) := by
   refine foldU_insert _ (uT x) i (rs.map uT) 0 i tm (by rw [List.getElem?_map, hx]; rfl) (by simp) (getD_tf hun) (fun k' u' hk hl hs d hd hd' => ?_)
   rw [List.getElem?_map, zaa] at hl
   obtain ⟨y, hy, rfl⟩ := hl
   simp only [zab] at hs
   have h1 : x.1.dst = some d := by simpa [uT] using hd
   have h2 : y.1.dst = some d := by simpa [uT] using hd'
   rw [hgt k' y hy hk (by simp [confl, h1, h2])] at hs
   cases hs
 have insH : foldU (fun j => listed.getD j false || j == i) 0 (rs.map uH) hp = app (uH x) (foldU (fun j => listed.getD j false) 0 (rs.map uH) hp) := by
   refine foldU_insert _ (uH x) i (rs.map uH) 0 i hp (by rw [List.getElem?_map, hx]; rfl) (by simp) (getD_tf hun) (fun k' u' hk hl hs d hd hd' => ?_)
   rw [List.getElem?_map, zaa] at hl
   obtain ⟨y, hy, rfl⟩ := hl
   simp only [zab] at hs
   have h1 : d ∈ x.2.ups.map (·.1) := hd
   have h2 : d ∈ y.2.ups.map (·.1) := hd'
   rw [hgt k' y hy hk (by
     simp only [confl, zag]
     left; right
     rw [zak]
     exact ⟨d, h1, by simp; right; simpa using h2⟩)] at hs
   cases hs
 have hdown : ∀ (j : Nat) oj, all[j]? = some oj → (listed.setIfInBounds i true).getD j false = true → ∀ e ∈ oj.after, Region.binds .any e = true → (listed.setIfInBounds i true).getD e.on false = true := by
   intro j oj hj hjl e he hb
   rw [getD_set hil] at hjl ⊢
   by_cases hji : j = i
   · subst hji
     rw [ho] at hj; cases hj
     rw [hpre e he hb]; rfl
   · have : listed.getD j false = true := by simpa [hji] using hjl
     rw [hI.down j oj hj this e he hb]; rfl
 have hfr : ∀ r, FrL nx rs (fun j => listed.getD j false || j == i) r → FrL nx rs (fun j => listed.getD j false) r ∧ ¬ (nxAt nx rs i ≤ r ∧ r < nxAt nx rs i + x.2.cost) := by
   intro r hr'
   exact ⟨⟨hr'.1, fun k y hy hk => hr'.2 k y hy (by simp [hk])⟩, hr'.2 i x hx (by simp)⟩
 have hnew : ∀ r, nxAt nx rs i ≤ r → r < nxAt nx rs i + x.2.cost → FrL nx rs (fun j => listed.getD j false) r := by
   intro r h1 h2
   refine ⟨zar (by simp [nxAt]) h1, fun k y hy hk hh => ?_⟩
   rcases Nat.lt_trichotomy k i with h | h | h
   · have := nxAt_lt (nx := nx) h hy; omega
   · subst h
     have hk' : listed.getD k false = true := hk
     rw [getD_tf hun] at hk'; cases hk'
   · have := nxAt_lt (nx := nx) h hx; omega
 have hgd : ∀ b, guardIs all o (foldU (fun j => decide (j < i)) 0 (rs.map uT) tm) b → guardIs all o (foldU (fun j => listed.getD j false) 0 (rs.map uT) tm) b := by
   intro b hg
   unfold guardIs at hg ⊢
   cases hgu : o.guard with
   | none => rw [hgu] at hg; exact hg
   | some jw =>
     obtain ⟨j, want⟩ := jw
     rw [hgu] at hg
     obtain ⟨oj, d, g1, g2, g3⟩ := hg
     refine ⟨oj, d, g1, g2, ?_⟩
     rw [agT d (.inl ?_)]
     · exact g3
     · unfold Oper.looksAt
       rw [hgu]
       simp only [g1, Option.bind_some, g2, Option.toList_some]
       simp
 unfold wpOp
 rw [ho]
 simp only
 rcases hat.ex with ⟨hg, hxl, hw⟩ | ⟨hg, he⟩
 · rw [hxo] at hg hxl
   rw [if_pos (wanted_of hrel (hgd true hg))]
   left
   refine hxl _ (fun r hr' => agH r (.inl hr')) w0 A N _ _ a w m π K Q hrel (fun y hy => ?_) hnew (fun v w' m' π' h1 h2 h3 => hK _ _ ⟨by simp [hI.size], hdown, ?_⟩)
   · have e1 : evS (foldU (fun j => decide (j < i)) 0 (rs.map uT) tm) y = evS (foldU (fun j => listed.getD j false) 0 (rs.map uT) tm) y := by
       cases y with
       | tmp t =>
         simp only [evS]
         rw [agT t (.inl (by
           unfold Oper.looksAt
           rw [List.mem_append]; left
           exact List.mem_filterMap.2 ⟨.tmp t, by simpa using hy, rfl⟩))]
       | _ => rfl
     rw [e1]
     exact evS_ok hrel y
   · refine ⟨m', π', ?_⟩
     rw [hsetS, insT, insH]
     rw [← updD_app, ← upds_app, hxo]
     exact (h1.frmono hfr).putD o.dst (by rw [← hxo]; exact hat.dst) h2 (SV.cl.mono hfr h3)
 · rw [hxo] at hg
   rw [if_neg (by rw [wanted_of hrel (hgd false hg)]; simp)]
   refine hK _ _ ⟨by simp [hI.size], hdown, m, π, ?_⟩
   rw [hsetS, insT, insH]
   rw [← updD_app, ← upds_app, hxo, he]
   exact (hrel.frmono (fun r hr' => (hfr r hr').1)).putD o.dst (by rw [← hxo]; exact hat.dst) ud_v ud_c
theorem Inv.any {tm : Nat → Option SV} {hp : Nat → Option Row} {nx : Nat} {rs : List (Oper × Ef)} {tm' : Nat → Option SV} {hp' : Nat → Option Row} {nx' : Nat} (ht : Tr P all N all.toList tm hp nx rs tm' hp' nx') (hE : edgeOk all = true) (hO : okc all (rs.map tag) = true) {Q : Exit → Act → World → Prop} (hQ : ∀ a' w' m' π', RelAt P w0 A N (nx' ≤ ·) tm' hp' a' w' m' π' → Q .normal a' w') : ∀ (fuel : Nat) (listed : Array Bool) (a : Act) (w : World), unl listed = fuel → Inv P all w0 A N tm hp nx rs listed a w → wpAny P .any all Q fuel listed a w := by
 obtain ⟨q1, q2, q3, q4, q5⟩ := ht.at 0
 have hlen : rs.length = all.size := by rw [← List.length_map (f := (·.1)), q1]; simp
 have hfin : ∀ (listed : Array Bool) (a : Act) (w : World), Inv P all w0 A N tm hp nx rs listed a w → (∀ i, i < all.size → listed.getD i false = true) → Q .normal a w := by
   intro listed a w hI hall
   obtain ⟨m, π, hrel⟩ := hI.rel
   refine hQ a w m π ?_
   have eT : foldU (fun i => listed.getD i false) 0 (rs.map uT) tm = tm' := by
     rw [q2]
     funext x
     refine foldU_agree _ _ x _ 0 _ _ rfl (fun k u hk _ => ?_)
     have : k < all.size := by have := (List.getElem?_eq_some_iff.1 hk).1; simp at this; omega
     simp only [zab]
     exact hall k this
   have eH : foldU (fun i => listed.getD i false) 0 (rs.map uH) hp = hp' := by
     rw [q3]
     funext x
     refine foldU_agree _ _ x _ 0 _ _ rfl (fun k u hk _ => ?_)
     have : k < all.size := by have := (List.getElem?_eq_some_iff.1 hk).1; simp at this; omega
     simp only [zab]
     exact hall k this
   rw [eT, eH] at hrel
   refine hrel.frmono (fun r hr => ⟨?_, fun k x hx _ hh => ?_⟩)
   · rw [q4] at hr
     exact zar (by simp [nxAt]) hr
   · have hk : k < rs.length := (List.getElem?_eq_some_iff.1 hx).1
     have := nxAt_lt (nx := nx) hk hx
     rw [q4] at hr
     omega
 have hready : ∀ (listed : Array Bool), listed.size = all.size → Region.ready .any all listed = [] → ∀ i, i < all.size → listed.getD i false = true := by
   intro listed hs hr i
   induction i using Nat.strongRecOn with
   | _ i ih =>
     intro hi
     cases hl : listed.getD i false with
     | true => rfl
     | false =>
       exfalso
       have : i ∈ Region.ready .any all listed := by
         refine mem_ready.2 ⟨?_, all[i], by simp [hi], fun e he hb => ?_⟩
         · have hil : i < listed.size := by omega
           simp [hil] at hl ⊢; exact hl
         · have hlt := edgeOk_spec hE (i := i) (o := all[i]) (by simp [hi]) he hb
           exact ih e.on hlt (by omega)
       rw [hr] at this
       cases this
 intro fuel
 induction fuel with
 | zero =>
   intro listed a w hu hI
   have hall : ∀ i, i < all.size → listed.getD i false = true := fun i hi => unl_zero listed hu i (by rw [hI.size]; exact hi)
   refine ⟨?_, hfin listed a w hI hall⟩
   rw [List.eq_nil_iff_forall_not_mem]
   intro i hi
   obtain ⟨h1, o, ho, _⟩ := mem_ready.1 hi
   have := hall i (Array.getElem?_eq_some_iff.1 ho).1
   rw [getD_tf h1] at this
   cases this
 | succ fuel ih =>
   intro listed a w hu hI
   refine ⟨fun hr => hfin listed a w hI (hready listed hI.size hr), fun i hi => ?_⟩
   refine hI.step ht hE hO hi (fun a' w' hI' => ih _ a' w' ?_ hI')
   have := unl_set listed i (mem_ready.1 hi).1
   omega
theorem wp_region_drawn (hm : P.follows .mixedOrders = true) {id : Nat} {tm : Nat → Option SV} {hp : Nat → Option Row} {nx : Nat} {rs : List (Oper × Ef)} {tm' : Nat → Option SV} {hp' : Nat → Option Row} {nx' : Nat} {a : Act} {w : World} {m : Mem} {π : Plc} {Q : Exit → Act → World → Prop} (ht : Tr P all N all.toList tm hp nx rs tm' hp' nx') (hE : edgeOk all = true) (hO : okc all (rs.map tag) = true) (hQ : ∀ a' w' m' π', RelAt P w0 A N (nx' ≤ ·) tm' hp' a' w' m' π' → Q .normal a' w') (h : RelAt P w0 A N (nx ≤ ·) tm hp a w m π) : (Code.region id all true).wp P Q a w := by
 refine wp_region_any hm ?_
 have hS : ∀ i, (Array.replicate all.size false).getD i false = false := by
   intro i
   by_cases hi : i < all.size <;> simp [hi]
 refine Inv.any ht hE hO hQ all.size _ a _ ?_ ⟨by simp, fun i o _ hl => (by rw [hS] at hl; cases hl), m, π, ?_⟩
 · unfold unl
   simp [List.filter_replicate]
 · rw [foldU_none _ _ _ _ (fun k _ => hS k), foldU_none _ _ _ _ (fun k _ => hS k)]
   exact (h.drew _).frmono (fun r hr => hr.1)
end
end Go.Proofs.YtnahpejlhfeleabGreat.Sh
namespace Go.Proofs.YtnahpejlhfeleabGreat.Sh
open Go.RowKit
def idx (r : Nat) : List Nat → Option Nat
  | [] => none
  | x :: l => if x = r then some 0 else (match idx r l with
    | some j => some (j + 1)
    | none => none)
theorem idx_some {r : Nat} : ∀ {l : List Nat} {j : Nat}, idx r l = some j → l[j]? = some r
  | [], _, h => by cases h
  | x :: l, j, h => by
    unfold idx at h
    split at h
    · rename_i e; cases h; simp [e]
    · split at h
      · rename_i j' h'; cases h; simpa using idx_some h'
      · cases h
theorem idx_none {r : Nat} : ∀ {l : List Nat}, idx r l = none → r ∉ l
  | [], _ => by simp
  | x :: l, h => by
    unfold idx at h
    split at h
    · cases h
    · rename_i hne
      split at h
      · cases h
      · rename_i h'
        have := idx_none h'
        simp [this]
        exact fun e => hne e.symm
theorem idx_of {r : Nat} : ∀ {l : List Nat} {j : Nat}, l.Nodup → l[j]? = some r → idx r l = some j
  | [], _, _, h => by cases h
  | x :: l, 0, _, h => by simp at h; simp [idx, h]
  | x :: l, j + 1, hn, h => by
    have h' : l[j]? = some r := by simpa using h
    have hne : x ≠ r := fun e => by
      subst e
      exact (List.nodup_cons.1 hn).1 (List.mem_of_getElem? h')
    simp [idx, hne, idx_of (List.nodup_cons.1 hn).2 h']
def hpL (rows : List (Option Row)) : Nat → Option Row := fun r => match rows[r]? with
  | some x => x
  | none => none
def Cell.ren (ρ : Nat → Option Nat) : Cell → Cell
  | .osl r off len cap => (match ρ r with
    | some j => .osl j off len cap
    | none => .un)
  | .optr r off => (match ρ r with
    | some j => .optr j off
    | none => .un)
  | .mp r kk => (match ρ r with
    | some j => .mp j kk
    | none => .un)
  | c => c
mutual
def SV.ren (ρ : Nat → Option Nat) : SV → SV
  | .one c => .one (c.ren ρ)
  | .agg cs => .agg (cs.map (Cell.ren ρ))
  | .tup vs => .tup (SV.renL ρ vs)
def SV.renL (ρ : Nat → Option Nat) : List SV → List SV
  | [] => []
  | s :: ss => s.ren ρ :: SV.renL ρ ss
end
def Row.ren (ρ : Nat → Option Nat) (r : Row) : Row := ⟨r.cells.map (Cell.ren ρ), r.esz⟩
def Cell.noG : Cell → Bool
  | .gsl _ _ _ _ => false
  | .gptr _ _ => false
  | .fn _ _ => false
  | _ => true
mutual
def SV.noG : SV → Prop
  | .one c => c.noG = true
  | .agg cs => ∀ c ∈ cs, c.noG = true
  | .tup vs => SV.noGL vs
def SV.noGL : List SV → Prop
  | [] => True
  | s :: ss => s.noG ∧ SV.noGL ss
end
def Callable (P : Program) (f : FuncId) : Prop := ∃ fn, P.funcs[f]? = some fn ∧ (fn.name == "runtime.NumGoroutine") = false ∧ fn.body.isNone = false
def base (w : World) (m : Mem) (π : Plc) (k : Nat) (A : Nat → Prop) : Base := ⟨w, fun ad => (m ad).isSome = true ∨ A ad.block, k, π⟩
def FnSpec (P : Program) (f : FuncId) (args : List SV) (rows : List Row) (res : SV) (outs : List (Option Row)) : Prop :=
  Callable P f ∧ ∀ (w : World) (vals : Array Value) (m : Mem) (π : Plc) (A : Nat → Prop), (∀ b, A b ↔ w.heap.size ≤ b ∨ ∃ r p, π r = some (some p) ∧ p.b = b) →
    RelAt P (base w m π rows.length A) A 0 (rows.length ≤ ·) (fun _ => none) (hpL (rows.map some)) ⟨#[], []⟩ w m π → VSL m π args vals.toList → SV.clL (rows.length ≤ ·) args →
    Calls P f vals w fun e w' => ∃ v m' π', e = .returned v ∧ RelAt P (base w m π rows.length A) A 0 (outs.length ≤ ·) (fun _ => none) (hpL outs) ⟨#[], []⟩ w' m' π' ∧ VS m' π' res v ∧ res.cl (outs.length ≤ ·)
def Does (P : Program) (f : FuncId) (vals : Array Value) (w : World) (R : Ending → World → Prop) : Prop :=
  (Callable P f ∧ Calls P f vals w R) ∨ ∃ v w', (callFunc f vals).run P w = .ok (.value v) w' ∧ R (.returned v) w'
theorem Does.mono {P : Program} {f : FuncId} {vals : Array Value} {w : World} {R R' : Ending → World → Prop} (h : Does P f vals w R) (hR : ∀ e w', R e w' → R' e w') : Does P f vals w R' := by
 rcases h with ⟨h1, h2⟩ | ⟨v, w', h1, h2⟩
 · exact .inl ⟨h1, h2.mono hR⟩
 · exact .inr ⟨v, w', h1, hR _ _ h2⟩
def FnSpecD (P : Program) (f : FuncId) (args : List SV) (rows : List Row) (res : SV) (outs : List (Option Row)) : Prop :=
  ∀ (w : World) (vals : Array Value) (m : Mem) (π : Plc) (A : Nat → Prop), (∀ b, A b ↔ w.heap.size ≤ b ∨ ∃ r p, π r = some (some p) ∧ p.b = b) →
    RelAt P (base w m π rows.length A) A 0 (rows.length ≤ ·) (fun _ => none) (hpL (rows.map some)) ⟨#[], []⟩ w m π → VSL m π args vals.toList → SV.clL (rows.length ≤ ·) args →
    Does P f vals w fun e w' => ∃ v m' π', e = .returned v ∧ RelAt P (base w m π rows.length A) A 0 (outs.length ≤ ·) (fun _ => none) (hpL outs) ⟨#[], []⟩ w' m' π' ∧ VS m' π' res v ∧ res.cl (outs.length ≤ ·)
theorem FnSpec.d {P : Program} {f : FuncId} {args : List SV} {rows : List Row} {res : SV} {outs : List (Option Row)} (h : FnSpec P f args rows res outs) : FnSpecD P f args rows res outs :=
  fun w vals m π A h1 h2 h3 h4 => .inl ⟨h.1, h.2 w vals m π A h1 h2 h3 h4⟩
def prepC (L : List Nat) (get : Nat → Option Row) : Cell → Cell
  | .osl r off len cap => (match idx r L with
    | some j => .osl j off len cap
    | none => (match get r with
      | some row => .gsl row.cells off len cap
      | none => .un))
  | .optr r off => (match idx r L with
    | some j => .optr j off
    | none => (match get r with
      | some row => .gptr row.cells off
      | none => .un))
  | .mp r kk => (match idx r L with
    | some j => .mp j kk
    | none => .un)
  | c => c
def prepV (L : List Nat) (get : Nat → Option Row) : SV → SV
  | .one c => .one (prepC L get c)
  | .agg cs => .agg (cs.map (prepC L get))
  | .tup _ => .one .un
def Cell.refs : Cell → List Nat
  | .osl r _ _ _ => [r]
  | .optr r _ => [r]
  | .mp r kk => [r]
  | _ => []
def SV.refs : SV → List Nat
  | .one c => c.refs
  | .agg cs => cs.flatMap Cell.refs
  | .tup _ => []
def snaps (L : List Nat) (args : List SV) : List Nat := (args.flatMap SV.refs).filter fun r => (idx r L).isNone
def bk (L : List Nat) (n : Nat) (j : Nat) : Nat := match L[j]? with
  | some r => r
  | none => n + (j - L.length)
def back (L : List Nat) (n : Nat) : Nat → Option Nat := fun j => some (bk L n j)
def lentRows (L : List Nat) (get : Nat → Option Row) : List Row := L.map fun r => match get r with
  | some row => row.ren fun q => idx q L
  | none => ⟨[], 0⟩
def renO (ρ : Nat → Option Nat) : Option Row → Option Row
  | some row => some (row.ren ρ)
  | none => none
def outUpsFrom (L : List Nat) (n : Nat) : Nat → List (Option Row) → List (Nat × Option Row)
  | _, [] => []
  | j, x :: l => (bk L n j, renO (back L n) x) :: outUpsFrom L n (j + 1) l
structure CallOk (L : List Nat) (get : Nat → Option Row) (args : List SV) (res : SV) (outs : List (Option Row)) : Prop where
  nodup : L.Nodup
  live : ∀ r ∈ L, ∃ row, get r = some row ∧ (∀ c ∈ row.cells, ∀ q ∈ c.refs, q ∈ L)
  shown : ∀ r ∈ snaps L args, ∃ row, get r = some row ∧ ∀ c ∈ row.cells, c.isG = true
  long : L.length ≤ outs.length
  fresh : snaps L args = [] ∨ (res.noG ∧ ∀ x ∈ outs, ∀ row, x = some row → ∀ c ∈ row.cells, c.noG = true)
section
variable {P : Program} {w0 : Base} {A : Nat → Prop} {N : Nat} {Fr : Nat → Prop} {tm : Nat → Option SV} {hp : Nat → Option Row} {a : Act} {w : World} {m : Mem} {π : Plc}
def inS (π : Plc) (S : List Nat) (b : Nat) : Bool := S.any fun r => match π r with
  | some (some p) => p.b == b
  | _ => false
def memS (m : Mem) (π : Plc) (w : World) (S : List Nat) : Mem := fun ad => if (ad.spot.isNone && inS π S ad.block) = true then w.cell? ad else m ad
theorem inS_iff {π : Plc} {S : List Nat} {b : Nat} : inS π S b = true ↔ ∃ r ∈ S, ∃ p, π r = some (some p) ∧ p.b = b := by
 unfold inS
 rw [zak]
 constructor
 · rintro ⟨r, hr, h⟩
   split at h
   · rename_i p hp; exact ⟨r, hr, p, hp, by simpa using h⟩
   · cases h
 · rintro ⟨r, hr, p, hp, hb⟩
   exact ⟨r, hr, by rw [hp]; simpa using hb⟩
theorem memS_le (h : RelAt P w0 A N Fr tm hp a w m π) (S : List Nat) : ∀ ad v, m ad = some v → memS m π w S ad = some v := by
 intro ad v hv
 unfold memS
 rw [if_neg]
 · exact hv
 · intro hc
   rw [zae] at hc
   obtain ⟨r, hr, p, hp, hb⟩ := inS_iff.1 hc.2
   exact h.dis r p ad v hp hv hb.symm
theorem memS_in {S : List Nat} {r : Nat} (hr : r ∈ S) {p : Place} (hp : π r = some (some p)) (i : Nat) : memS m π w S ⟨p.b, i, none⟩ = w.cell? ⟨p.b, i, none⟩ := by
 unfold memS
 rw [if_pos]
 simp
 exact inS_iff.2 ⟨r, hr, p, hp, rfl⟩
theorem vg_of_vc {c : Cell} {x : Value} (hg : c.isG = true) (h : VC m π c x) : VG m c x := by
 cases c <;> first | exact h | cases hg
theorem shown_vals (h : RelAt P w0 A N Fr tm hp a w m π) {S : List Nat} {r : Nat} (hr : r ∈ S) {row : Row} (hrow : hp r = some row) (hg : ∀ c ∈ row.cells, c.isG = true) {p : Place} (hp' : π r = some (some p)) (hz : p.esz ≠ 0) : ∃ vals : Nat → Value, (∀ (i : Nat) x, row.cells[i]? = some x → memS m π w S ⟨p.b, p.o + i, none⟩ = some (vals i)) ∧ (∀ (i : Nat) x, row.cells[i]? = some x → VG (memS m π w S) x (vals i)) := by
 refine ⟨fun i => (w.cell? ⟨p.b, p.o + i, none⟩).getD undef, fun i x hi => ?_, fun i x hi => ?_⟩
 · obtain ⟨v, h1, h2⟩ := rowcells h hrow hp' hz i x hi
   show memS m π w S ⟨p.b, p.o + i, none⟩ = some ((w.cell? ⟨p.b, p.o + i, none⟩).getD undef)
   rw [memS_in hr hp', h1]; rfl
 · obtain ⟨v, h1, h2⟩ := rowcells h hrow hp' hz i x hi
   show VG _ x ((w.cell? ⟨p.b, p.o + i, none⟩).getD undef)
   rw [h1]
   exact VG.mono (memS_le h S) (vg_of_vc (hg x (List.mem_of_getElem? hi)) h2)
theorem prepC_ok (h : RelAt P w0 A N Fr tm hp a w m π) (L S : List Nat) {c : Cell} (hS : ∀ r ∈ c.refs, idx r L = none → r ∈ S) (hsh : ∀ r ∈ S, ∃ row, hp r = some row ∧ ∀ c ∈ row.cells, c.isG = true) {v : Value} (hv : VC m π c v) :
    VC (memS m π w S) (fun j => match L[j]? with | some r => π r | none => none) (prepC L hp c) v ∧ (prepC L hp c).cl (L.length ≤ ·) := by
  cases c with
  | un => exact ⟨trivial, trivial⟩
  | mp r kk =>
    cases hi : idx r L with
    | some j =>
      have hj := idx_some hi
      have e : prepC L hp (.mp r kk) = .mp j kk := by simp only [prepC, hi]
      rw [e]
      refine ⟨⟨hv.1, ?_⟩, fun hh => ?_⟩
      · simp only [hj]
        exact hv.2
      · have := (List.getElem?_eq_some_iff.1 hj).1; omega
    | none =>
      have e : prepC L hp (.mp r kk) = .un := by simp only [prepC, hi]
      rw [e]
      exact ⟨trivial, trivial⟩
  | sc u => exact ⟨VG.mono (memS_le h S) hv, trivial⟩
  | gsl _ _ _ _ => exact ⟨VG.mono (memS_le h S) hv, trivial⟩
  | gptr _ _ => exact ⟨VG.mono (memS_le h S) hv, trivial⟩
  | fn _ _ => exact ⟨VG.mono (memS_le h S) hv, trivial⟩
  | osl r off len cap =>
    cases hi : idx r L with
    | some j =>
      have hj := idx_some hi
      have e : prepC L hp (.osl r off len cap) = .osl j off len cap := by simp only [prepC, hi]
      rw [e]
      refine ⟨⟨hv.1, ?_⟩, fun hh => ?_⟩
      · simp only [hj]
        exact hv.2
      · have := (List.getElem?_eq_some_iff.1 hj).1; omega
    | none =>
      have hrS := hS r (by simp [Cell.refs]) hi
      obtain ⟨row, hrow, hg⟩ := hsh r hrS
      have e : prepC L hp (.osl r off len cap) = .gsl row.cells off len cap := by simp only [prepC, hi, hrow]
      rw [e]
      refine ⟨?_, trivial⟩
      have hro := h.rows r row hrow
      unfold RowOk at hro
      obtain ⟨_, h2⟩ := hv
      cases hπ : π r with
      | none => rw [hπ] at hro; exact hro.elim
      | some q =>
        rw [hπ] at h2 hro
        cases q with
        | none =>
          simp only at h2 hro
          obtain ⟨rfl, hc, ad, rfl⟩ := h2
          show VG _ _ _
          cases ad with
          | none => exact VG.gnil _ _ _ hc
          | some ad =>
            rw [hro]
            exact VG.gsl [] off 0 cap 0 0 0 ad (fun _ => undef) (fun k hk => (hc k hk).symm) (zad _) (fun i x hi => by simp at hi) (fun i x hi => by simp at hi) (.inr rfl)
        | some p =>
          obtain ⟨gz, ad, c, rfl, hlc, hcc, hor⟩ := h2
          obtain ⟨vals, k1, k2⟩ := shown_vals h hrS hrow hg hπ gz
          refine VG.gsl row.cells off len cap p.b p.o c ad vals hcc hlc k1 k2 ?_
          rcases hor with ⟨e, _⟩ | ⟨e, _⟩
          · exact .inr e
          · exact .inl e
  | optr r off =>
    cases hi : idx r L with
    | some j =>
      have hj := idx_some hi
      have e : prepC L hp (.optr r off) = .optr j off := by simp only [prepC, hi]
      rw [e]
      refine ⟨⟨hv.1, ?_⟩, fun hh => ?_⟩
      · simp only [hj]
        exact hv.2
      · have := (List.getElem?_eq_some_iff.1 hj).1; omega
    | none =>
      have hrS := hS r (by simp [Cell.refs]) hi
      obtain ⟨row, hrow, hg⟩ := hsh r hrS
      have e : prepC L hp (.optr r off) = .gptr row.cells off := by simp only [prepC, hi, hrow]
      rw [e]
      refine ⟨?_, trivial⟩
      have hro := h.rows r row hrow
      unfold RowOk at hro
      obtain ⟨_, h2⟩ := hv
      cases hπ : π r with
      | none => rw [hπ] at hro; exact hro.elim
      | some q =>
        rw [hπ] at h2 hro
        cases q with
        | none => exact h2.elim
        | some p =>
          simp only at h2
          obtain ⟨gz, h2⟩ := h2
          subst h2
          obtain ⟨vals, k1, k2⟩ := shown_vals h hrS hrow hg hπ gz
          exact VG.gptr row.cells off p.b p.o vals k1 k2
theorem prepL_ok (h : RelAt P w0 A N Fr tm hp a w m π) (L S : List Nat) (hsh : ∀ r ∈ S, ∃ row, hp r = some row ∧ ∀ c ∈ row.cells, c.isG = true) : ∀ (cs : List Cell) (vs : List Value), (∀ r ∈ cs.flatMap Cell.refs, idx r L = none → r ∈ S) → VL m π cs vs →
    VL (memS m π w S) (fun j => match L[j]? with | some r => π r | none => none) (cs.map (prepC L hp)) vs ∧ ∀ c ∈ cs.map (prepC L hp), c.cl (L.length ≤ ·)
  | [], [], _, _ => ⟨trivial, by simp⟩
  | c :: cs, v :: vs, hS, hv => by
    obtain ⟨h1, h2⟩ := prepC_ok h L S (c := c) (fun r hr => hS r (by simp [hr])) hsh hv.1
    obtain ⟨h3, h4⟩ := prepL_ok h L S hsh cs vs (fun r hr => hS r (by rw [List.flatMap_cons, List.mem_append]; exact .inr hr)) hv.2
    exact ⟨⟨h1, h3⟩, fun c hc => by
      rcases List.mem_cons.1 (by simpa using hc : c ∈ prepC L hp _ :: cs.map (prepC L hp)) with e | e
      · rw [e]; exact h2
      · exact h4 c e⟩
theorem prepV_ok (h : RelAt P w0 A N Fr tm hp a w m π) (L S : List Nat) (hsh : ∀ r ∈ S, ∃ row, hp r = some row ∧ ∀ c ∈ row.cells, c.isG = true) : ∀ (ss : List SV) (vs : List Value), (∀ r ∈ ss.flatMap SV.refs, idx r L = none → r ∈ S) → VSL m π ss vs →
    VSL (memS m π w S) (fun j => match L[j]? with | some r => π r | none => none) (ss.map (prepV L hp)) vs ∧ SV.clL (L.length ≤ ·) (ss.map (prepV L hp))
  | [], [], _, _ => ⟨trivial, trivial⟩
  | s :: ss, v :: vs, hS, hv => by
    obtain ⟨h3, h4⟩ := prepV_ok h L S hsh ss vs (fun r hr => hS r (by rw [List.flatMap_cons, List.mem_append]; exact .inr hr)) hv.2
    have hS1 : ∀ r ∈ s.refs, idx r L = none → r ∈ S := fun r hr => hS r (by simp [hr])
    cases s with
    | one c =>
      obtain ⟨h1, h2⟩ := prepC_ok h L S (c := c) hS1 hsh hv.1
      exact ⟨⟨h1, h3⟩, h2, h4⟩
    | agg cs =>
      obtain ⟨arr, e, hl⟩ := hv.1
      obtain ⟨h1, h2⟩ := prepL_ok h L S hsh cs arr.toList hS1 hl
      exact ⟨⟨⟨arr, e, h1⟩, h3⟩, h2, h4⟩
    | tup _ => exact ⟨⟨trivial, h3⟩, trivial, h4⟩
theorem lent_get {L : List Nat} {j : Nat} : hpL ((lentRows L hp).map some) j = (match L[j]? with
    | some r => some (match hp r with
      | some row => row.ren fun q => idx q L
      | none => ⟨[], 0⟩)
    | none => none) := by
  unfold hpL lentRows
  simp only [List.getElem?_map]
  cases L[j]? <;> rfl
theorem lent_len (L : List Nat) : (lentRows L hp).length = L.length := by simp [lentRows]
theorem callee_rel (h : RelAt P w0 A N Fr tm hp a w m π) (L : List Nat) (hn : L.Nodup) (hl : ∀ r ∈ L, ∃ row, hp r = some row ∧ (∀ c ∈ row.cells, ∀ q ∈ c.refs, q ∈ L)) (S : List Nat) (hS : ∀ r ∈ S, idx r L = none) (A' : Nat → Prop)
    (hA' : ∀ b, A' b ↔ w.heap.size ≤ b ∨ ∃ (j : Nat) (p : Place), (match L[j]? with | some r => π r | none => none) = some (some p) ∧ p.b = b) :
    RelAt P (base w (memS m π w S) (fun j => match L[j]? with | some r => π r | none => none) (lentRows L hp).length A') A' 0 ((lentRows L hp).length ≤ ·) (fun _ => none) (hpL ((lentRows L hp).map some)) ⟨#[], []⟩ w (memS m π w S) (fun j => match L[j]? with | some r => π r | none => none) := by
  have hpc : ∀ (j : Nat) (p : Place), (match L[j]? with | some r => π r | none => none) = some (some p) → ∃ r, L[j]? = some r ∧ π r = some (some p) := by
    intro j p hj
    cases hL : L[j]? with
    | none => rw [hL] at hj; cases hj
    | some r => rw [hL] at hj; exact ⟨r, rfl, hj⟩
  have hidx : ∀ q ∈ L, ∃ j, idx q L = some j := by
    intro q hq
    cases hi : idx q L with
    | some j => exact ⟨j, rfl⟩
    | none => exact absurd hq (idx_none hi)
  rw [lent_len]
  have hgl : GL P A' w := h.gl.keep h.keep fun b hb hna hab => by
    rcases (hA' b).1 hab with hsz | ⟨j, p, hj, hpb⟩
    · exact absurd (Nat.lt_of_lt_of_le hb h.keep.size) (by omega)
    · obtain ⟨r, hr, hpr⟩ := hpc j p hj
      obtain ⟨row, hrow, _⟩ := hl r (List.mem_of_getElem? hr)
      have hro := h.rows r row hrow
      unfold RowOk at hro
      rw [hpr] at hro
      exact hna (hpb ▸ hro.1)
  refine ⟨rfl, rfl, fun k v hk => (by cases hk), fun k v hk => (by cases hk), ?_, ?_, ?_, ?_, ?_, ?_, ?_, ?_, ?_, ?_, ?_, ?_, ?_, ?_, hgl⟩
  · intro j row hj
    rw [lent_get] at hj
    cases hL : L[j]? with
    | none => rw [hL] at hj; cases hj
    | some r =>
      rw [hL] at hj
      obtain ⟨row0, hrow0, hin⟩ := hl r (List.mem_of_getElem? hL)
      simp only [hrow0, Option.some.injEq] at hj
      subst hj
      have hro := h.rows r row0 hrow0
      unfold RowOk at hro ⊢
      simp only [hL]
      cases hπ : π r with
      | none => rw [hπ] at hro; exact hro.elim
      | some q =>
        rw [hπ] at hro
        cases q with
        | none => simp only at hro ⊢; simp [Row.ren, hro]
        | some p =>
          obtain ⟨g1, g2, arr, e, g3, g4, g5, g6⟩ := hro
          refine ⟨(hA' p.b).2 (.inr ⟨j, p, by simp only [hL]; exact hπ, rfl⟩), g2, arr, e, g3, g4, ⟨fun hz => by simpa [Row.ren] using g5.1 hz, fun hz => by simpa [Row.ren] using g5.2 hz⟩, fun i c hi => ?_⟩
          simp only [Row.ren, List.getElem?_map, zaa] at hi
          obtain ⟨c0, hc0, rfl⟩ := hi
          obtain ⟨x, k1, k2⟩ := g6 i c0 hc0
          refine ⟨x, k1, ?_⟩
          have hmem := List.mem_of_getElem? hc0
          cases c0 with
          | osl r' off len cap =>
            obtain ⟨j', hj'⟩ := hidx r' (hin _ hmem r' (by simp [Cell.refs]))
            simp only [Cell.ren, hj']
            refine ⟨k2.1, ?_⟩
            simp only [idx_some hj']
            exact k2.2
          | optr r' off =>
            obtain ⟨j', hj'⟩ := hidx r' (hin _ hmem r' (by simp [Cell.refs]))
            simp only [Cell.ren, hj']
            refine ⟨k2.1, ?_⟩
            simp only [idx_some hj']
            exact k2.2
          | mp r' kk =>
            obtain ⟨j', hj'⟩ := hidx r' (hin _ hmem r' (by simp [Cell.refs]))
            simp only [Cell.ren, hj']
            refine ⟨k2.1, ?_⟩
            simp only [idx_some hj']
            exact k2.2
          | un => trivial
          | _ => exact VG.mono (memS_le h S) k2
  · intro j row hj c hc
    rw [lent_get] at hj
    cases hL : L[j]? with
    | none => rw [hL] at hj; cases hj
    | some r =>
      rw [hL] at hj
      obtain ⟨row0, hrow0, hin⟩ := hl r (List.mem_of_getElem? hL)
      simp only [hrow0, Option.some.injEq] at hj
      subst hj
      obtain ⟨c0, hc0, rfl⟩ := List.mem_map.1 hc
      cases c0 with
      | osl r' off len cap =>
        obtain ⟨j', hj'⟩ := hidx r' (hin _ hc0 r' (by simp [Cell.refs]))
        simp only [Cell.ren, hj']
        have := (List.getElem?_eq_some_iff.1 (idx_some hj')).1
        show ¬ _
        omega
      | optr r' off =>
        obtain ⟨j', hj'⟩ := hidx r' (hin _ hc0 r' (by simp [Cell.refs]))
        simp only [Cell.ren, hj']
        have := (List.getElem?_eq_some_iff.1 (idx_some hj')).1
        show ¬ _
        omega
      | mp r' kk =>
        obtain ⟨j', hj'⟩ := hidx r' (hin _ hc0 r' (by simp [Cell.refs]))
        simp only [Cell.ren, hj']
        have := (List.getElem?_eq_some_iff.1 (idx_some hj')).1
        show ¬ _
        omega
      | _ => trivial
  · intro j row hj c hc
    rw [lent_get] at hj
    cases hL : L[j]? with
    | none => rw [hL] at hj; cases hj
    | some r =>
      rw [hL] at hj
      obtain ⟨row0, hrow0, hin⟩ := hl r (List.mem_of_getElem? hL)
      simp only [hrow0, Option.some.injEq] at hj
      subst hj
      obtain ⟨c0, hc0, rfl⟩ := List.mem_map.1 hc
      have hso := h.rsol r row0 hrow0 c0 hc0
      cases c0 with
      | osl r' off len cap =>
        obtain ⟨j', hj'⟩ := hidx r' (hin _ hc0 r' (by simp [Cell.refs]))
        simp only [Cell.ren, hj']
        exact fun hh => by cases hh
      | optr r' off =>
        obtain ⟨j', hj'⟩ := hidx r' (hin _ hc0 r' (by simp [Cell.refs]))
        simp only [Cell.ren, hj']
        exact fun hh => by cases hh
      | mp r' kk =>
        obtain ⟨j', hj'⟩ := hidx r' (hin _ hc0 r' (by simp [Cell.refs]))
        simp only [Cell.ren, hj']
        exact fun hh => by cases hh
      | _ => exact hso
  · intro j hj
    rw [lent_get] at hj
    cases hL : L[j]? with
    | none => rfl
    | some r => rw [hL] at hj; cases hj
  · intro j hj
    rw [lent_get, List.getElem?_eq_none hj]
  · intro j j' p p' h1 h2 h3
    obtain ⟨r, e1, e2⟩ := hpc j p h1
    obtain ⟨r', e3, e4⟩ := hpc j' p' h2
    have := h.inj r r' p p' e2 e4 h3
    subst this
    have k1 := idx_of hn e1
    have k2 := idx_of hn e3
    rw [k1] at k2; cases k2; rfl
  · intro ad v hv
    unfold memS at hv
    split at hv
    · rename_i hc
      rw [zae] at hc
      exact ⟨by simpa using hc.1, hv⟩
    · exact h.mok ad v hv
  · intro j p ad v hj hv
    obtain ⟨r, e1, e2⟩ := hpc j p hj
    unfold memS at hv
    split at hv
    · rename_i hc
      rw [zae] at hc
      obtain ⟨r2, hr2, p2, hp2, hb2⟩ := inS_iff.1 hc.2
      intro e
      have := h.inj r2 r p2 p hp2 e2 (by rw [hb2, e])
      subst this
      have hnone := hS r2 hr2
      rw [idx_of hn e1] at hnone
      cases hnone
    · exact h.dis r p ad v e2 hv
  · intro b hb
    exact (hA' b).2 (.inl hb)
  · exact ⟨rfl, rfl, rfl, zad _, fun _ _ _ => rfl⟩
  · intro ad v hv
    exact .inl (by rw [hv]; rfl)
  · intro ad had
    exact .inr had
  · intro r _
    exact .inl rfl
  · intro r hr
    exact hr
end
end Go.Proofs.YtnahpejlhfeleabGreat.Sh
namespace Go.Proofs.YtnahpejlhfeleabGreat.Sh
open Go.RowKit
theorem outUps_in (L : List Nat) (n : Nat) : ∀ (l : List (Option Row)) (j : Nat) (hp : Nat → Option Row), (∀ i i', i < l.length → i' < l.length → bk L n (j + i) = bk L n (j + i') → i = i') → ∀ i x, l[i]? = some x → upds hp (outUpsFrom L n j l) (bk L n (j + i)) = renO (back L n) x
  | [], _, _, _, _, _, h => by cases h
  | y :: l, j, hp, hinj, 0, x, h => by
    simp at h
    subst h
    unfold outUpsFrom upds
    rw [upds_out]
    · simp only [zal, upd_same]
    · intro hm
      have hids : ∀ (l : List (Option Row)) (j : Nat), (outUpsFrom L n j l).map (·.1) = (zap l.length).map (fun i => bk L n (j + i)) := by
        intro l
        induction l with
        | nil => intro j; rfl
        | cons y l ih =>
          intro j
          simp only [outUpsFrom, zac, zaj, List.range_succ_eq_map, List.map_map, ih]
          congr 1
          apply zah
          intro i _
          simp only [Function.comp]
          congr 1; omega
      rw [hids] at hm
      obtain ⟨i, hi, he⟩ := List.mem_map.1 hm
      have hil : i < l.length := by simpa using hi
      have := hinj (i + 1) 0 (by simp; omega) (by simp) (by rw [← he]; congr 1; omega)
      omega
  | y :: l, j, hp, hinj, i + 1, x, h => by
    unfold outUpsFrom upds
    have := outUps_in L n l (j + 1) (upd hp (bk L n j) (renO (back L n) y)) (fun i i' h1 h2 he => by
      have := hinj (i + 1) (i' + 1) (by simp; omega) (by simp; omega) (by rw [show j + (i + 1) = j + 1 + i by omega, show j + (i' + 1) = j + 1 + i' by omega]; exact he)
      omega) i x (by simpa using h)
    rw [show j + (i + 1) = j + 1 + i by omega]
    exact this
theorem outUps_ids (L : List Nat) (n : Nat) : ∀ (l : List (Option Row)) (j : Nat), (outUpsFrom L n j l).map (·.1) = (zap l.length).map (fun i => bk L n (j + i)) := by
 intro l
 induction l with
 | nil => intro j; rfl
 | cons y l ih =>
   intro j
   simp only [outUpsFrom, zac, zaj, List.range_succ_eq_map, List.map_map, ih]
   congr 1
   apply zah
   intro i _
   simp only [Function.comp]
   congr 1; omega
theorem outUps_out (L : List Nat) (n : Nat) (l : List (Option Row)) (j : Nat) (hp : Nat → Option Row) (r : Nat) (h : ∀ i, i < l.length → bk L n (j + i) ≠ r) : upds hp (outUpsFrom L n j l) r = hp r := by
 rw [upds_out]
 rw [outUps_ids]
 intro hm
 obtain ⟨i, hi, he⟩ := List.mem_map.1 hm
 exact h i (by simpa using hi) he
section
variable {P : Program} {w0 : Base} {A : Nat → Prop} {N : Nat} {Fr : Nat → Prop} {tm : Nat → Option SV} {hp : Nat → Option Row} {a : Act} {w : World} {m : Mem} {π : Plc}
theorem vc_back {m' m2 : Mem} {π' π2 : Plc} {ρ : Nat → Option Nat} {K : Nat} (hm : ∀ ad v, m' ad = some v → m2 ad = some v) (hπ : ∀ j, j < K → ∃ r, ρ j = some r ∧ π2 r = π' j) {c : Cell} (hc : c.cl (K ≤ ·)) {v : Value} (hv : VC m' π' c v) : VC m2 π2 (c.ren ρ) v := by
 cases c with
 | osl j off len cap =>
   have hj : j < K := Nat.not_le.1 hc
   obtain ⟨r, h1, h2⟩ := hπ j hj
   simp only [Cell.ren, h1]
   exact ⟨hv.1, by rw [h2]; exact hv.2⟩
 | optr j off =>
   have hj : j < K := Nat.not_le.1 hc
   obtain ⟨r, h1, h2⟩ := hπ j hj
   simp only [Cell.ren, h1]
   exact ⟨hv.1, by rw [h2]; exact hv.2⟩
 | un => trivial
 | mp j kk =>
   have hj : j < K := Nat.not_le.1 hc
   obtain ⟨r, h1, h2⟩ := hπ j hj
   simp only [Cell.ren, h1]
   exact ⟨hv.1, by rw [h2]; exact hv.2⟩
 | sc u => exact VG.mono hm hv
 | gsl _ _ _ _ => exact VG.mono hm hv
 | gptr _ _ => exact VG.mono hm hv
 | fn _ _ => exact VG.mono hm hv
theorem vc_back_noG {m' m2 : Mem} {π' π2 : Plc} {ρ : Nat → Option Nat} {K : Nat} (hπ : ∀ j, j < K → ∃ r, ρ j = some r ∧ π2 r = π' j) {c : Cell} (hg : c.noG = true) (hc : c.cl (K ≤ ·)) {v : Value} (hv : VC m' π' c v) : VC m2 π2 (c.ren ρ) v := by
 cases c with
 | osl j off len cap =>
   have hj : j < K := Nat.not_le.1 hc
   obtain ⟨r, h1, h2⟩ := hπ j hj
   simp only [Cell.ren, h1]
   exact ⟨hv.1, by rw [h2]; exact hv.2⟩
 | optr j off =>
   have hj : j < K := Nat.not_le.1 hc
   obtain ⟨r, h1, h2⟩ := hπ j hj
   simp only [Cell.ren, h1]
   exact ⟨hv.1, by rw [h2]; exact hv.2⟩
 | un => trivial
 | mp j kk =>
   have hj : j < K := Nat.not_le.1 hc
   obtain ⟨r, h1, h2⟩ := hπ j hj
   simp only [Cell.ren, h1]
   exact ⟨hv.1, by rw [h2]; exact hv.2⟩
 | sc u => cases hv; exact VG.sc _ (by assumption)
 | gsl _ _ _ _ => cases hg
 | gptr _ _ => cases hg
 | fn _ _ => cases hg
theorem vl_map {m' m2 : Mem} {π' π2 : Plc} {ρ : Nat → Option Nat} {C : Cell → Prop} (hc : ∀ c v, C c → VC m' π' c v → VC m2 π2 (c.ren ρ) v) : ∀ {cs : List Cell} {vs : List Value}, (∀ c ∈ cs, C c) → VL m' π' cs vs → VL m2 π2 (cs.map (Cell.ren ρ)) vs
  | [], [], _, _ => trivial
  | c :: cs, v :: vs, h, hv => ⟨hc c v (h c (by simp)) hv.1, vl_map hc (fun c hx => h c (by simp [hx])) hv.2⟩
mutual
def SV.allC (C : Cell → Prop) : SV → Prop
  | .one c => C c
  | .agg cs => ∀ c ∈ cs, C c
  | .tup vs => SV.allCL C vs
def SV.allCL (C : Cell → Prop) : List SV → Prop
  | [] => True
  | s :: ss => s.allC C ∧ SV.allCL C ss
end
mutual
theorem vs_map {m' m2 : Mem} {π' π2 : Plc} {ρ : Nat → Option Nat} {C : Cell → Prop} (hc : ∀ c v, C c → VC m' π' c v → VC m2 π2 (c.ren ρ) v) : ∀ {s : SV} {v : Value}, s.allC C → VS m' π' s v → VS m2 π2 (s.ren ρ) v
  | .one c, v, h, hv => hc c v h hv
  | .agg cs, v, h, hv => by
    obtain ⟨arr, e, hl⟩ := hv
    exact ⟨arr, e, vl_map hc h hl⟩
  | .tup vs, v, h, hv => by
    obtain ⟨arr, e, hl⟩ := hv
    exact ⟨arr, e, vsl_map hc (ss := vs) h hl⟩
theorem vsl_map {m' m2 : Mem} {π' π2 : Plc} {ρ : Nat → Option Nat} {C : Cell → Prop} (hc : ∀ c v, C c → VC m' π' c v → VC m2 π2 (c.ren ρ) v) : ∀ {ss : List SV} {vs : List Value}, SV.allCL C ss → VSL m' π' ss vs → VSL m2 π2 (SV.renL ρ ss) vs
  | [], [], _, _ => trivial
  | s :: ss, v :: vs, h, hv => ⟨vs_map hc h.1 hv.1, vsl_map hc h.2 hv.2⟩
end
mutual
theorem allC_of {C D : Cell → Prop} (Fr : Nat → Prop) (h : ∀ c, C c → c.cl Fr → D c) : ∀ {s : SV}, s.allC C → s.cl Fr → s.allC D
  | .one c, h1, h2 => h c h1 h2
  | .agg cs, h1, h2 => fun c hc => h c (h1 c hc) (h2 c hc)
  | .tup vs, h1, h2 => allCL_of Fr h (ss := vs) h1 h2
theorem allCL_of {C D : Cell → Prop} (Fr : Nat → Prop) (h : ∀ c, C c → c.cl Fr → D c) : ∀ {ss : List SV}, SV.allCL C ss → SV.clL Fr ss → SV.allCL D ss
  | [], _, _ => trivial
  | s :: ss, h1, h2 => ⟨allC_of Fr h h1.1 h2.1, allCL_of Fr h h1.2 h2.2⟩
end
mutual
theorem allC_true : ∀ (s : SV), s.allC (fun _ => True)
  | .one c => trivial
  | .agg cs => fun _ _ => trivial
  | .tup vs => allCL_true vs
theorem allCL_true : ∀ (ss : List SV), SV.allCL (fun _ => True) ss
  | [] => trivial
  | s :: ss => ⟨allC_true s, allCL_true ss⟩
end
mutual
theorem allC_noG : ∀ {s : SV}, s.noG → s.allC (fun c => c.noG = true)
  | .one c, h => h
  | .agg cs, h => h
  | .tup vs, h => allCL_noG (ss := vs) h
theorem allCL_noG : ∀ {ss : List SV}, SV.noGL ss → SV.allCL (fun c => c.noG = true) ss
  | [], _ => trivial
  | s :: ss, h => ⟨allC_noG h.1, allCL_noG h.2⟩
end
theorem cl_ren {ρ : Nat → Option Nat} {K : Nat} {Fr : Nat → Prop} (hρ : ∀ j, j < K → ∃ r, ρ j = some r ∧ ¬ Fr r) {c : Cell} (hc : c.cl (K ≤ ·)) : (c.ren ρ).cl Fr := by
 cases c with
 | osl j off len cap =>
   obtain ⟨r, h1, h2⟩ := hρ j (Nat.not_le.1 hc)
   simp only [Cell.ren, h1]
   exact h2
 | optr j off =>
   obtain ⟨r, h1, h2⟩ := hρ j (Nat.not_le.1 hc)
   simp only [Cell.ren, h1]
   exact h2
 | mp j kk =>
   obtain ⟨r, h1, h2⟩ := hρ j (Nat.not_le.1 hc)
   simp only [Cell.ren, h1]
   exact h2
 | _ => trivial
mutual
theorem clS_ren {ρ : Nat → Option Nat} {K : Nat} {Fr : Nat → Prop} (hρ : ∀ j, j < K → ∃ r, ρ j = some r ∧ ¬ Fr r) : ∀ {s : SV}, s.cl (K ≤ ·) → (s.ren ρ).cl Fr
  | .one c, h => cl_ren hρ h
  | .agg cs, h => fun c hc => by
    obtain ⟨c0, h0, rfl⟩ := List.mem_map.1 hc
    exact cl_ren hρ (h c0 h0)
  | .tup vs, h => clL_ren hρ (ss := vs) h
theorem clL_ren {ρ : Nat → Option Nat} {K : Nat} {Fr : Nat → Prop} (hρ : ∀ j, j < K → ∃ r, ρ j = some r ∧ ¬ Fr r) : ∀ {ss : List SV}, SV.clL (K ≤ ·) ss → SV.clL Fr (SV.renL ρ ss)
  | [], _ => trivial
  | s :: ss, h => ⟨clS_ren hρ h.1, clL_ren hρ h.2⟩
end
theorem call_gen (h : RelAt P w0 A N Fr tm hp a w m π) {f : FuncId} {args' : List SV} {vals : Array Value} {L : List Nat} {n : Nat} {res : SV} {outs : List (Option Row)} (S : List Nat) (hS2 : ∀ r ∈ S, idx r L = none) (hsh : ∀ r ∈ S, ∃ row, hp r = some row ∧ ∀ c ∈ row.cells, c.isG = true) (hnd : L.Nodup) (hlv : ∀ r ∈ L, ∃ row, hp r = some row ∧ (∀ c ∈ row.cells, ∀ q ∈ c.refs, q ∈ L)) (hlg : L.length ≤ outs.length) (hfr : S = [] ∨ (res.noG ∧ ∀ x ∈ outs, ∀ row, x = some row → ∀ c ∈ row.cells, c.noG = true))
    (hv1 : VSL (memS m π w S) (fun j => match L[j]? with | some r => π r | none => none) args' vals.toList) (hv2 : SV.clL (L.length ≤ ·) args')
    (hs : FnSpecD P f args' (lentRows L hp) res outs) (hF : ∀ r, n ≤ r → r < n + max 1 (outs.length - L.length) → Fr r) :
    Does P f vals w fun e w' => ∃ v m' π', e = .returned v ∧ RelAt P w0 A N (fun r => Fr r ∧ ¬ (n ≤ r ∧ r < n + max 1 (outs.length - L.length))) tm (upds hp (outUpsFrom L n 0 outs)) a w' m' π' ∧
      VS m' π' (res.ren (back L n)) v ∧ (res.ren (back L n)).cl (fun r => Fr r ∧ ¬ (n ≤ r ∧ r < n + max 1 (outs.length - L.length))) := by
  let πc : Plc := fun j => match L[j]? with | some r => π r | none => none
  let A' : Nat → Prop := fun b => w.heap.size ≤ b ∨ ∃ (j : Nat) (p : Place), πc j = some (some p) ∧ p.b = b
  have hrel := callee_rel h L hnd hlv S hS2 A' (fun b => Iff.rfl)
  have hcall := hs w vals (memS m π w S) πc A' (fun b => Iff.rfl) hrel hv1 (by rw [lent_len]; exact hv2)
  refine hcall.mono ?_
  rintro e w' ⟨v, m', π', rfl, h', hv', hcl'⟩
  rw [lent_len] at h'
  -- places
  have hlen := hlg
  obtain ⟨k, hk⟩ : ∃ k, k = L.length := ⟨_, rfl⟩
  have hlive : ∀ r ∈ L, hp r ≠ none := fun r hr => by obtain ⟨row, h1, _⟩ := hlv r hr; rw [h1]; simp
  have hbk1 : ∀ j r, L[j]? = some r → bk L n j = r := fun j r hj => by simp [bk, hj]
  have hbk2 : ∀ j, L.length ≤ j → bk L n j = n + (j - L.length) := fun j hj => by simp [bk, List.getElem?_eq_none hj]
  have hnotFr : ∀ r ∈ L, ¬ Fr r := fun r hr hf => hlive r hr (h.fresh r hf)
  have hinjb : ∀ i i', i < outs.length → i' < outs.length → bk L n i = bk L n i' → i = i' := by
    intro i i' hi hi' he
    by_cases c1 : i < L.length
    · have e1 := hbk1 i L[i] (by simp [c1])
      by_cases c2 : i' < L.length
      · have e2 := hbk1 i' L[i'] (by simp [c2])
        rw [e1, e2] at he
        have k1 := idx_of hnd (List.getElem?_eq_getElem c1)
        have k2 := idx_of hnd (List.getElem?_eq_getElem c2)
        rw [he] at k1; rw [k1] at k2; cases k2; rfl
      · rw [e1, hbk2 i' (by omega)] at he
        exact absurd (hF L[i] (by omega) (by omega)) (hnotFr _ (List.getElem_mem c1))
    · by_cases c2 : i' < L.length
      · have e2 := hbk1 i' L[i'] (by simp [c2])
        rw [e2, hbk2 i (by omega)] at he
        exact absurd (hF L[i'] (by omega) (by omega)) (hnotFr _ (List.getElem_mem c2))
      · rw [hbk2 i (by omega), hbk2 i' (by omega)] at he
        omega
  obtain ⟨hp2, hhp2⟩ : ∃ hp2, hp2 = upds hp (outUpsFrom L n 0 outs) := ⟨_, rfl⟩
  have hin : ∀ j x, outs[j]? = some x → hp2 (bk L n j) = renO (back L n) x := fun j x hj => by
    rw [hhp2]
    have := outUps_in L n outs 0 hp (fun i i' h1 h2 he => hinjb i i' h1 h2 (by simpa using he)) j x hj
    simpa using this
  have hout : ∀ r, (∀ j, j < outs.length → bk L n j ≠ r) → hp2 r = hp r := fun r hr => by
    rw [hhp2]; exact outUps_out L n outs 0 hp r (fun i hi => by simpa using hr i hi)
  -- which row of the callee's a number of the caller's is
  have hcase : ∀ r, (∃ j, j < outs.length ∧ bk L n j = r) ∨ (∀ j, j < outs.length → bk L n j ≠ r) := by
    intro r
    by_cases c : ∃ j, j < outs.length ∧ bk L n j = r
    · exact .inl c
    · exact .inr (fun j hj he => c ⟨j, hj, he⟩)
  have hπ2 : ∃ π2 : Plc, (∀ j, j < outs.length → π2 (bk L n j) = π' j) ∧ (∀ r, (∀ j, j < outs.length → bk L n j ≠ r) → π2 r = π r) := by
    refine ⟨fun r => match (zap outs.length).find? (fun j => bk L n j == r) with | some j => π' j | none => π r, fun j hj => ?_, fun r hr => ?_⟩
    · have : (zap outs.length).find? (fun i => bk L n i == bk L n j) = some j := by
        rw [List.find?_range_eq_some]
        refine ⟨by simp, by simpa using hj, fun i hi => ?_⟩
        simp only [Bool.not_eq_true', beq_eq_false_iff_ne]
        exact fun he => by have := hinjb i j (by omega) hj he; omega
      simp only [this]
    · have : (zap outs.length).find? (fun i => bk L n i == r) = none := by
        rw [List.find?_eq_none]
        intro i hi
        simpa using hr i (by simpa using hi)
      simp only [this]
  obtain ⟨π2, hπ2a, hπ2b⟩ := hπ2
  -- lent blocks
  have hA'old : ∀ b, A' b → b < w.heap.size → ∃ r p, r ∈ L ∧ π r = some (some p) ∧ p.b = b := by
    rintro b (h1 | ⟨j, p, h1, h2⟩) hb
    · omega
    · cases hL : L[j]? with
      | none => simp only [πc, hL] at h1; cases h1
      | some r => simp only [πc, hL] at h1; exact ⟨r, p, List.mem_of_getElem? hL, h1, h2⟩
  have horg : ∀ j r, L[j]? = some r → π' j = π r ∨ π' j = none := by
    intro j r hj
    have hjl : j < L.length := (List.getElem?_eq_some_iff.1 hj).1
    have := h'.org j hjl
    have e : πc j = π r := by simp only [πc, hj]
    rw [← e]
    exact this
  have hnewlive : ∀ j p, π' j = some (some p) → j < outs.length := by
    intro j p hj
    rcases zaq j outs.length with hl | hl
    · exact hl
    · have := h'.live j (by unfold hpL; rw [List.getElem?_eq_none hl])
      rw [this] at hj; cases hj
  have hA'p : ∀ j p, π' j = some (some p) → A' p.b := by
    intro j p hj
    have hlt := hnewlive j p hj
    cases hh : hpL outs j with
    | none => rw [h'.live j hh] at hj; cases hj
    | some row =>
      have := h'.rows j row hh
      unfold RowOk at this
      rw [hj] at this
      exact this.1
  have holdblk : ∀ b, b < w.heap.size → ¬ A' b → w'.heap[b]? = w.heap[b]? := fun b hb hA => h'.keep.block b hb hA
  have hmold : ∀ ad u, m ad = some u → ad.block < w.heap.size ∧ ¬ A' ad.block := by
    intro ad u hu
    have h1 := World.block_lt_of_cell? _ _ (h.mok ad u hu).2
    refine ⟨h1, fun hA => ?_⟩
    obtain ⟨r, p, _, h2, h3⟩ := hA'old _ hA h1
    exact h.dis r p ad u h2 hu h3.symm
  obtain ⟨m2, hm2a, hm2b⟩ : ∃ m2 : Mem, (∀ ad, ad.block < w.heap.size ∧ ¬ A' ad.block → m2 ad = m ad) ∧ (∀ ad, ¬ (ad.block < w.heap.size ∧ ¬ A' ad.block) → m2 ad = m' ad) := by
    classical
    exact ⟨fun ad => if ad.block < w.heap.size ∧ ¬ A' ad.block then m ad else m' ad, fun ad h => if_pos h, fun ad h => if_neg h⟩
  have hm2 : ∀ ad u, m ad = some u → m2 ad = some u := fun ad u hu => by
    rw [hm2a ad (hmold ad u hu)]; exact hu
  have hm2c : ∀ ad u, m2 ad = some u → (ad.block < w.heap.size ∧ ¬ A' ad.block ∧ m ad = some u) ∨ (A' ad.block ∧ m' ad = some u) := by
    intro ad u hu
    by_cases c : ad.block < w.heap.size ∧ ¬ A' ad.block
    · rw [hm2a ad c] at hu; exact .inl ⟨c.1, c.2, hu⟩
    · rw [hm2b ad c] at hu
      refine .inr ⟨?_, hu⟩
      by_cases c2 : A' ad.block
      · exact c2
      · exact .inl (Nat.not_lt.1 (fun c3 => c ⟨c3, c2⟩))
  -- what comes back
  have hback : ∀ j, j < outs.length → ∃ r, back L n j = some r ∧ π2 r = π' j := fun j hj => ⟨bk L n j, rfl, hπ2a j hj⟩
  have hcells : ∀ (C : Cell → Prop), (∀ c, C c → c.cl (outs.length ≤ ·)) → (S = [] ∨ ∀ c, C c → c.noG = true) → ∀ c u, C c → VC m' π' c u → VC m2 π2 (c.ren (back L n)) u := by
    intro C hC hor c u hcc hvc
    rcases hor with hS0 | hg
    · refine vc_back (fun ad x hx => ?_) hback (hC c hcc) hvc
      by_cases hb : ad.block < w.heap.size ∧ ¬ A' ad.block
      · rw [hm2a ad hb]
        have hmg := h'.mg ad x hx
        simp only [base] at hmg
        rcases hmg with hsome | hge
        · have hms : memS m π w S ad = m ad := by
            unfold memS; rw [if_neg]; rw [hS0]; simp [inS]
          rw [hms] at hsome
          obtain ⟨u0, hu0⟩ := Option.isSome_iff_exists.1 hsome
          have h1 := (h'.mok ad x hx).2
          have h2 := (h.mok ad u0 hu0).2
          rw [cell_same (holdblk _ hb.1 (hmold ad u0 hu0).2), h2] at h1
          cases h1; exact hu0
        · exact absurd hge hb.2
      · rw [hm2b ad hb]; exact hx
    · exact vc_back_noG hback (hg c hcc) (hC c hcc) hvc
  have hfresh := hfr
  have hsub : ∀ r, (Fr r ∧ ¬ (n ≤ r ∧ r < n + max 1 (outs.length - L.length))) → Fr r := fun r hr => hr.1
  have hbkFr : ∀ j, j < outs.length → ∃ r, back L n j = some r ∧ ¬ (Fr r ∧ ¬ (n ≤ r ∧ r < n + max 1 (outs.length - L.length))) := by
    intro j hj
    refine ⟨bk L n j, rfl, ?_⟩
    by_cases c : j < L.length
    · rw [hbk1 j L[j] (by simp [c])]
      exact fun hh => hnotFr _ (List.getElem_mem c) hh.1
    · rw [hbk2 j (by omega)]
      exact fun hh => hh.2 ⟨by omega, by omega⟩
  have hnoFr2 : ∀ r, ¬ Fr r → π2 r = π r ∨ π2 r = none := by
    intro r hr
    rcases hcase r with ⟨j, hj, he⟩ | hno
    · rw [← he, hπ2a j hj]
      by_cases c : j < L.length
      · have e := hbk1 j L[j] (by simp [c])
        rw [e]
        exact horg j L[j] (by simp [c])
      · exfalso
        rw [hbk2 j (by omega)] at he
        exact hr (he ▸ hF _ (by omega) (by omega))
    · exact .inl (hπ2b r hno)
  have hrowc : ∀ j row, hpL outs j = some row → S = [] ∨ ∀ c ∈ row.cells, c.noG = true := by
    intro j row hj
    rcases hfresh with h1 | ⟨_, h2⟩
    · exact .inl h1
    · right
      unfold hpL at hj
      cases ho : outs[j]? with
      | none => rw [ho] at hj; cases hj
      | some x => rw [ho] at hj; exact h2 x (List.mem_of_getElem? ho) row hj
  have hout' : ∀ j, j < outs.length → hp2 (bk L n j) = renO (back L n) (hpL outs j) := by
    intro j hj
    have e : outs[j]? = some outs[j] := by simp [hj]
    rw [hin j _ e]
    unfold hpL
    rw [e]
  refine ⟨v, m2, π2, rfl, ?_, ?_, ?_⟩
  · rw [← hhp2]
    refine ⟨h.defers, h.size, ?_, ?_, ?_, ?_, ?_, ?_, ?_, ?_, ?_, ?_, h.new, ?_, ?_, h.gnew, ?_, ?_, h.gl⟩
    · intro k v hk
      exact VS.mono hm2 hnoFr2 (h.tcl k v hk) (h.tms k v hk)
    · intro k v hk
      exact SV.cl.mono hsub (h.tcl k v hk)
    · -- rows
      intro r row hr
      rcases hcase r with ⟨j, hj, he⟩ | hno
      · rw [← he, hout' j hj] at hr
        cases hh : hpL outs j with
        | none => rw [hh] at hr; cases hr
        | some row0 =>
          rw [hh] at hr
          simp only [renO, Option.some.injEq] at hr
          subst hr
          have hro := h'.rows j row0 hh
          unfold RowOk at hro ⊢
          rw [← he, hπ2a j hj]
          cases hq : π' j with
          | none => rw [hq] at hro; exact hro.elim
          | some q =>
            rw [hq] at hro
            cases q with
            | none => simp only at hro ⊢; simp [Row.ren, hro]
            | some p =>
              obtain ⟨g1, g2, arr, ee, g3, g4, g5, g6⟩ := hro
              refine ⟨?_, g2, arr, ee, g3, g4, ⟨fun hz => by simpa [Row.ren] using g5.1 hz, fun hz => by simpa [Row.ren] using g5.2 hz⟩, fun i c hi => ?_⟩
              · rcases zaq p.b w.heap.size with hb | hb
                · obtain ⟨r', p', hr', hp', hb'⟩ := hA'old _ g1 hb
                  obtain ⟨row', hrow', _⟩ := hlv r' hr'
                  have := h.rows r' row' hrow'
                  unfold RowOk at this
                  rw [hp'] at this
                  rw [← hb']; exact this.1
                · exact h.new _ (zar h.keep.size hb)
              · simp only [Row.ren, List.getElem?_map, zaa] at hi
                obtain ⟨c0, hc0, rfl⟩ := hi
                obtain ⟨x, k1, k2⟩ := g6 i c0 hc0
                refine ⟨x, k1, ?_⟩
                refine hcells (fun c => c ∈ row0.cells) (fun c hcm => h'.rcl j row0 hh c hcm) (hrowc j row0 hh) c0 x (List.mem_of_getElem? hc0) k2
      · rw [hout r hno] at hr
        have hro := h.rows r row hr
        unfold RowOk at hro ⊢
        rw [hπ2b r hno]
        cases hq : π r with
        | none => rw [hq] at hro; exact hro.elim
        | some q =>
          rw [hq] at hro
          cases q with
          | none => exact hro
          | some p =>
            obtain ⟨g1, g2, arr, ee, g3, g4, g5, g6⟩ := hro
            have hnA : ¬ A' p.b := by
              intro hA
              obtain ⟨r', p', hr', hp', hb'⟩ := hA'old _ hA (h.lt hq)
              have := h.inj r' r p' p hp' hq hb'
              subst this
              cases hi : idx r' L with
              | none => exact idx_none hi hr'
              | some j =>
                have hj := idx_some hi
                have hjl := (List.getElem?_eq_some_iff.1 hj).1
                exact hno j (by omega) (hbk1 j r' hj)
            refine ⟨g1, g2, arr, ee, g3.same (holdblk _ (h.lt hq) hnA), g4, g5, fun i c hi => ?_⟩
            obtain ⟨x, k1, k2⟩ := g6 i c hi
            exact ⟨x, k1, VC.mono hm2 hnoFr2 (h.rcl r row hr c (List.mem_of_getElem? hi)) k2⟩
    · intro r row hr c hcm
      rcases hcase r with ⟨j, hj, he⟩ | hno
      · rw [← he, hout' j hj] at hr
        cases hh : hpL outs j with
        | none => rw [hh] at hr; cases hr
        | some row0 =>
          rw [hh] at hr
          simp only [renO, Option.some.injEq] at hr
          subst hr
          obtain ⟨c0, hc0, rfl⟩ := List.mem_map.1 hcm
          exact cl_ren hbkFr (h'.rcl j row0 hh c0 hc0)
      · rw [hout r hno] at hr
        exact Cell.cl.mono hsub (h.rcl r row hr c hcm)
    · intro r row hr c hcm
      rcases hcase r with ⟨j, hj, he⟩ | hno
      · rw [← he, hout' j hj] at hr
        cases hh : hpL outs j with
        | none => rw [hh] at hr; cases hr
        | some row0 =>
          rw [hh] at hr
          simp only [renO, Option.some.injEq] at hr
          subst hr
          obtain ⟨c0, hc0, rfl⟩ := List.mem_map.1 hcm
          have hso := h'.rsol j row0 hh c0 hc0
          cases c0 with
          | osl _ _ _ _ => simp only [Cell.ren, back]; exact fun hh => by cases hh
          | optr _ _ => simp only [Cell.ren, back]; exact fun hh => by cases hh
          | mp _ _ => simp only [Cell.ren, back]; exact fun hh => by cases hh
          | _ => exact hso
      · rw [hout r hno] at hr
        exact h.rsol r row hr c hcm
    · intro r hr
      rcases hcase r with ⟨j, hj, he⟩ | hno
      · rw [← he, hout' j hj] at hr
        rw [← he, hπ2a j hj]
        cases hh : hpL outs j with
        | none => exact h'.live j hh
        | some row0 => rw [hh] at hr; cases hr
      · rw [hout r hno] at hr
        rw [hπ2b r hno]
        exact h.live r hr
    · intro r hr
      rcases hcase r with ⟨j, hj, he⟩ | hno
      · exfalso
        obtain ⟨r', h1, h2⟩ := hbkFr j hj
        simp only [back, Option.some.injEq] at h1
        rw [h1] at he
        exact h2 (he ▸ hr)
      · rw [hout r hno]
        exact h.fresh r hr.1
    · intro r r' p p' h1 h2 h3
      rcases hcase r with ⟨j, hj, he⟩ | hno
      · rcases hcase r' with ⟨j', hj', he'⟩ | hno'
        · rw [← he, hπ2a j hj] at h1
          rw [← he', hπ2a j' hj'] at h2
          have := h'.inj j j' p p' h1 h2 h3
          rw [← he, ← he', this]
        · exfalso
          rw [← he, hπ2a j hj] at h1
          rw [hπ2b r' hno'] at h2
          have hb := h.lt h2
          obtain ⟨r2, p2, hr2, hp2', hb2⟩ := hA'old _ (hA'p j p h1) (by omega)
          have := h.inj r2 r' p2 p' hp2' h2 (by omega)
          subst this
          cases hi : idx r2 L with
          | none => exact idx_none hi hr2
          | some jj =>
            have hjj := idx_some hi
            have hjl := (List.getElem?_eq_some_iff.1 hjj).1
            exact hno' jj (by omega) (hbk1 jj r2 hjj)
      · rcases hcase r' with ⟨j', hj', he'⟩ | hno'
        · exfalso
          rw [← he', hπ2a j' hj'] at h2
          rw [hπ2b r hno] at h1
          have hb := h.lt h1
          obtain ⟨r2, p2, hr2, hp2', hb2⟩ := hA'old _ (hA'p j' p' h2) (by omega)
          have := h.inj r2 r p2 p hp2' h1 (by omega)
          subst this
          cases hi : idx r2 L with
          | none => exact idx_none hi hr2
          | some jj =>
            have hjj := idx_some hi
            have hjl := (List.getElem?_eq_some_iff.1 hjj).1
            exact hno jj (by omega) (hbk1 jj r2 hjj)
        · rw [hπ2b r hno] at h1
          rw [hπ2b r' hno'] at h2
          exact h.inj r r' p p' h1 h2 h3
    · intro ad u hu
      rcases hm2c ad u hu with ⟨hb, hnA, hu⟩ | ⟨hA2, hu⟩
      · obtain ⟨h1, h2⟩ := h.mok ad u hu
        exact ⟨h1, by rw [cell_same (holdblk _ hb hnA)]; exact h2⟩
      · exact h'.mok ad u hu
    · intro r p ad u h1 hu
      rcases hm2c ad u hu with ⟨hb, hnA, hu⟩ | ⟨hA2, hu⟩
      · rcases hcase r with ⟨j, hj, he⟩ | hno
        · rw [← he, hπ2a j hj] at h1
          intro e
          exact hnA (e ▸ hA'p j p h1)
        · rw [hπ2b r hno] at h1
          exact h.dis r p ad u h1 hu
      · rcases hcase r with ⟨j, hj, he⟩ | hno
        · rw [← he, hπ2a j hj] at h1
          exact h'.dis j p ad u h1 hu
        · rw [hπ2b r hno] at h1
          have hlt := h.lt h1
          intro e
          obtain ⟨r2, p2, hr2, hp2', hb2⟩ := hA'old _ hA2 (by omega)
          have := h.inj r2 r p2 p hp2' h1 (by omega)
          subst this
          cases hi : idx r2 L with
          | none => exact idx_none hi hr2
          | some jj =>
            have hjj := idx_some hi
            have hjl := (List.getElem?_eq_some_iff.1 hjj).1
            exact hno jj (by omega) (hbk1 jj r2 hjj)
    · refine ⟨h'.keep.os.trans h.keep.os, h'.keep.tape.trans h.keep.tape, h'.keep.output.trans h.keep.output, zar h.keep.size h'.keep.size, fun b hb hA => ?_⟩
      rw [holdblk b (Nat.lt_of_lt_of_le hb h.keep.size) (fun hA2 => ?_)]
      · exact h.keep.block b hb hA
      · obtain ⟨r2, p2, hr2, hp2', hb2⟩ := hA'old _ hA2 (Nat.lt_of_lt_of_le hb h.keep.size)
        obtain ⟨row', hrow', _⟩ := hlv r2 hr2
        have := h.rows r2 row' hrow'
        unfold RowOk at this
        rw [hp2'] at this
        exact hA (hb2 ▸ this.1)
    · intro ad u hu
      rcases hm2c ad u hu with ⟨hb, hnA, hu⟩ | ⟨hA2, hu⟩
      · exact h.mg ad u hu
      · refine h.gnew ad ?_
        rcases zaq ad.block w.heap.size with hb | hb
        · obtain ⟨r2, p2, hr2, hp2', hb2⟩ := hA'old _ hA2 hb
          obtain ⟨row', hrow', _⟩ := hlv r2 hr2
          have := h.rows r2 row' hrow'
          unfold RowOk at this
          rw [hp2'] at this
          exact hb2 ▸ this.1
        · exact h.new _ (zar h.keep.size hb)
    · intro r hr
      rcases hcase r with ⟨j, hj, he⟩ | hno
      · rw [← he, hπ2a j hj]
        by_cases c : j < L.length
        · have e := hbk1 j L[j] (by simp [c])
          rcases horg j L[j] (by simp [c]) with h1 | h1
          · rw [h1, e]
            rw [← he, e] at hr
            exact h.org _ hr
          · exact .inr h1
        · exfalso
          rw [hbk2 j (by omega)] at he
          have := h.frk _ (hF (n + (j - L.length)) (by omega) (by omega))
          omega
      · rw [hπ2b r hno]
        exact h.org r hr
    · intro r hr
      exact h.frk r hr.1
  · rcases hfresh with hS0 | ⟨hg, _⟩
    · exact vs_map (C := fun c => c.cl (outs.length ≤ ·)) (fun c u hcc hvc => hcells _ (fun c h => h) (.inl hS0) c u hcc hvc) (allC_of (C := fun _ => True) (outs.length ≤ ·) (fun c _ h => h) (allC_true res) hcl') hv'
    · exact vs_map (C := fun c => c.noG = true ∧ c.cl (outs.length ≤ ·)) (fun c u hcc hvc => hcells (fun c => c.noG = true ∧ c.cl (outs.length ≤ ·)) (fun c h => h.2) (.inr (fun c h => h.1)) c u hcc hvc) (allC_of (outs.length ≤ ·) (fun c h1 h2 => ⟨h1, h2⟩) (allC_noG hg) hcl') hv'
  · exact clS_ren hbkFr hcl'
theorem call_ok (h : RelAt P w0 A N Fr tm hp a w m π) {f : FuncId} {args : List SV} {vals : Array Value} (hv : VSL m π args vals.toList) {L : List Nat} {n : Nat} {res : SV} {outs : List (Option Row)} (hc : CallOk L hp args res outs) (hs : FnSpecD P f (args.map (prepV L hp)) (lentRows L hp) res outs) (hF : ∀ r, n ≤ r → r < n + max 1 (outs.length - L.length) → Fr r) : Does P f vals w fun e w' => ∃ v m' π', e = .returned v ∧ RelAt P w0 A N (fun r => Fr r ∧ ¬ (n ≤ r ∧ r < n + max 1 (outs.length - L.length))) tm (upds hp (outUpsFrom L n 0 outs)) a w' m' π' ∧
      VS m' π' (res.ren (back L n)) v ∧ (res.ren (back L n)).cl (fun r => Fr r ∧ ¬ (n ≤ r ∧ r < n + max 1 (outs.length - L.length))) := by
  obtain ⟨S, hSdef⟩ : ∃ S, S = snaps L args := ⟨_, rfl⟩
  have hS1 : ∀ r ∈ args.flatMap SV.refs, idx r L = none → r ∈ S := fun r hr hi => by
    rw [hSdef]; unfold snaps; rw [zan]; exact ⟨hr, by rw [hi]; rfl⟩
  have hS2 : ∀ r ∈ S, idx r L = none := fun r hr => by
    rw [hSdef] at hr; unfold snaps at hr; rw [zan] at hr
    cases hi : idx r L with
    | none => rfl
    | some j => rw [hi] at hr; cases hr.2
  have hsh : ∀ r ∈ S, ∃ row, hp r = some row ∧ ∀ c ∈ row.cells, c.isG = true := by rw [hSdef]; exact hc.shown
  exact call_gen h S hS2 hsh hc.nodup hc.live hc.long (by rw [hSdef]; exact hc.fresh) (prepV_ok h L S hsh args vals.toList hS1 hv).1 (prepV_ok h L S hsh args vals.toList hS1 hv).2 hs hF
end
end Go.Proofs.YtnahpejlhfeleabGreat.Sh
namespace Go.Proofs.YtnahpejlhfeleabGreat.Sh
open Go.RowKit
theorem prepC_loc {L : List Nat} {get get' : Nat → Option Row} {c : Cell} (h : ∀ r ∈ c.refs, idx r L = none → get r = get' r) : prepC L get c = prepC L get' c := by
 cases c with
 | osl r off len cap =>
   simp only [prepC]
   cases hi : idx r L with
   | some j => rfl
   | none => simp only [h r (by simp [Cell.refs]) hi]
 | optr r off =>
   simp only [prepC]
   cases hi : idx r L with
   | some j => rfl
   | none => simp only [h r (by simp [Cell.refs]) hi]
 | _ => rfl
theorem prepV_loc {L : List Nat} {get get' : Nat → Option Row} {s : SV} (h : ∀ r ∈ s.refs, idx r L = none → get r = get' r) : prepV L get s = prepV L get' s := by
 cases s with
 | one c => simp only [prepV]; rw [prepC_loc h]
 | agg cs =>
   simp only [prepV]
   congr 1
   apply zah
   intro c hc
   exact prepC_loc (fun r hr => h r (List.mem_flatMap.2 ⟨c, hc, hr⟩))
 | tup _ => rfl
theorem mem_snaps {L : List Nat} {args : List SV} {r : Nat} {s : SV} (hs : s ∈ args) (hr : r ∈ s.refs) (hi : idx r L = none) : r ∈ snaps L args := by
 unfold snaps
 rw [zan]
 exact ⟨List.mem_flatMap.2 ⟨s, hs, hr⟩, by rw [hi]; rfl⟩
theorem lentRows_loc {L : List Nat} {get get' : Nat → Option Row} (h : ∀ r ∈ L, get r = get' r) : lentRows L get = lentRows L get' := by
 unfold lentRows
 apply zah
 intro r hr
 rw [h r hr]
theorem CallOk.loc {L : List Nat} {get get' : Nat → Option Row} {args : List SV} {res : SV} {outs : List (Option Row)} (hc : CallOk L get args res outs) (h : ∀ r ∈ L ++ snaps L args, get' r = get r) : CallOk L get' args res outs :=
  ⟨hc.nodup, fun r hr => by rw [h r (List.mem_append.2 (.inl hr))]; exact hc.live r hr, fun r hr => by rw [h r (List.mem_append.2 (.inr hr))]; exact hc.shown r hr, hc.long, hc.fresh⟩
structure CallG (g : Bool) (L : List Nat) (get : Nat → Option Row) (args : List SV) (res : SV) (outs : List (Option Row)) : Prop where
  nodup : L.Nodup
  live : ∀ r ∈ L, ∃ row, get r = some row ∧ (∀ c ∈ row.cells, ∀ q ∈ c.refs, q ∈ L)
  shown : ∀ r ∈ snaps L args, ∃ row, get r = some row ∧ ∀ c ∈ row.cells, c.isG = true
  long : L.length ≤ outs.length
  fresh : g = true ∨ snaps L args = [] ∨ (res.noG ∧ ∀ x ∈ outs, ∀ row, x = some row → ∀ c ∈ row.cells, c.noG = true)
def gone (g : Bool) (L : List Nat) (args : List SV) : List (Nat × Option Row) := match g with
  | true => (snaps L args).map fun r => (r, none)
  | false => []
theorem CallG.loc {g : Bool} {L : List Nat} {get get' : Nat → Option Row} {args : List SV} {res : SV} {outs : List (Option Row)} (hc : CallG g L get args res outs) (h : ∀ r ∈ L ++ snaps L args, get' r = get r) : CallG g L get' args res outs :=
  ⟨hc.nodup, fun r hr => by rw [h r (List.mem_append.2 (.inl hr))]; exact hc.live r hr, fun r hr => by rw [h r (List.mem_append.2 (.inr hr))]; exact hc.shown r hr, hc.long, hc.fresh⟩
theorem upds_none : ∀ (S : List Nat) (hp : Nat → Option Row), upds hp (S.map fun r => (r, none)) = fun r => if r ∈ S then none else hp r
  | [], hp => by funext r; simp [upds]
  | x :: S, hp => by
    funext r
    simp only [zac, upds, upds_none S]
    by_cases h : r ∈ S
    · simp [h]
    · by_cases e : r = x
      · subst e; simp [upd]
      · simp [h, e, upd]
theorem upds_cat : ∀ (us vs : List (Nat × Option Row)) (hp : Nat → Option Row), upds hp (us ++ vs) = upds (upds hp us) vs
  | [], _, _ => rfl
  | (r, x) :: us, vs, hp => by simp only [List.cons_append, upds]; exact upds_cat us vs _
section
variable {P : Program} {w0 : Base} {A : Nat → Prop} {N : Nat} {Fr : Nat → Prop} {tm : Nat → Option SV} {hp : Nat → Option Row} {a : Act} {w : World} {m : Mem} {π : Plc}
theorem RelAt.giveup (h : RelAt P w0 A N Fr tm hp a w m π) (S : List Nat) (hsh : ∀ r ∈ S, ∃ row, hp r = some row ∧ ∀ c ∈ row.cells, c.isG = true) : RelAt P w0 A N Fr tm (fun r => if r ∈ S then none else hp r) a w (memS m π w S) (fun r => if r ∈ S then none else π r) := by
 have hm := memS_le h S
 have hπ : ∀ r, ¬ Fr r → (fun r => if r ∈ S then none else π r) r = π r ∨ (fun r => if r ∈ S then none else π r) r = none := fun r _ => by
   by_cases hr : r ∈ S
   · right; simp [hr]
   · left; simp [hr]
 refine ⟨h.defers, h.size, fun k v hk => VS.mono hm hπ (h.tcl k v hk) (h.tms k v hk), h.tcl, ?_, ?_, ?_, ?_, ?_, ?_, ?_, ?_, h.new, h.keep, ?_, h.gnew, ?_, h.frk, h.gl⟩
 · intro r row hr
   by_cases hS : r ∈ S
   · simp [hS] at hr
   · simp only [hS, if_false] at hr
     have hro := h.rows r row hr
     unfold RowOk at hro ⊢
     simp only [hS, if_false]
     cases hq : π r with
     | none => rw [hq] at hro; exact hro.elim
     | some x =>
       rw [hq] at hro
       cases x with
       | none => exact hro
       | some p =>
         obtain ⟨g1, g2, arr, ee, g3, g4, g5, g6⟩ := hro
         refine ⟨g1, g2, arr, ee, g3, g4, g5, fun i c hi => ?_⟩
         obtain ⟨x, r1, r2⟩ := g6 i c hi
         exact ⟨x, r1, VC.mono hm hπ (h.rcl r row hr c (List.mem_of_getElem? hi)) r2⟩
 · intro r row hr
   by_cases hS : r ∈ S
   · simp [hS] at hr
   · simp only [hS, if_false] at hr; exact h.rcl r row hr
 · intro r row hr
   by_cases hS : r ∈ S
   · simp [hS] at hr
   · simp only [hS, if_false] at hr; exact h.rsol r row hr
 · intro r hr
   by_cases hS : r ∈ S
   · simp [hS]
   · simp only [hS, if_false] at hr ⊢; exact h.live r hr
 · intro r hr
   by_cases hS : r ∈ S
   · simp [hS]
   · simp only [hS, if_false]; exact h.fresh r hr
 · intro r r' p p' e1 e2 e3
   by_cases hS : r ∈ S
   · simp [hS] at e1
   · by_cases hS' : r' ∈ S
     · simp [hS'] at e2
     · simp only [hS, hS', if_false] at e1 e2; exact h.inj r r' p p' e1 e2 e3
 · intro ad v hv
   unfold memS at hv
   split at hv
   · rename_i hc
     rw [zae] at hc
     exact ⟨by simpa using hc.1, hv⟩
   · exact h.mok ad v hv
 · intro q p ad v e1 hv
   by_cases hS : q ∈ S
   · simp [hS] at e1
   · simp only [hS, if_false] at e1
     unfold memS at hv
     split at hv
     · rename_i hc
       rw [zae] at hc
       obtain ⟨r2, hr2, p2, hp2, hb2⟩ := inS_iff.1 hc.2
       intro e
       have := h.inj q r2 p p2 e1 hp2 (by rw [hb2, e])
       subst this
       exact hS hr2
     · exact h.dis q p ad v e1 hv
 · intro ad v hv
   unfold memS at hv
   split at hv
   · rename_i hc
     rw [zae] at hc
     obtain ⟨r2, hr2, p2, hp2, hb2⟩ := inS_iff.1 hc.2
     obtain ⟨row, hrow, _⟩ := hsh r2 hr2
     have hro := h.rows r2 row hrow
     unfold RowOk at hro
     rw [hp2] at hro
     exact h.gnew ad (hb2 ▸ hro.1)
   · exact h.mg ad v hv
 · intro q hq
   by_cases hS : q ∈ S
   · right; simp [hS]
   · simp only [hS, if_false]; exact h.org q hq
theorem call_okG (h : RelAt P w0 A N Fr tm hp a w m π) {g : Bool} {f : FuncId} {args : List SV} {vals : Array Value} (hv : VSL m π args vals.toList) {L : List Nat} {n : Nat} {res : SV} {outs : List (Option Row)} (hc : CallG g L hp args res outs) (hs : FnSpecD P f (args.map (prepV L hp)) (lentRows L hp) res outs) (hF : ∀ r, n ≤ r → r < n + max 1 (outs.length - L.length) → Fr r) : Does P f vals w fun e w' => ∃ v m' π', e = .returned v ∧ RelAt P w0 A N (fun r => Fr r ∧ ¬ (n ≤ r ∧ r < n + max 1 (outs.length - L.length))) tm (upds hp (gone g L args ++ outUpsFrom L n 0 outs)) a w' m' π' ∧
      VS m' π' (res.ren (back L n)) v ∧ (res.ren (back L n)).cl (fun r => Fr r ∧ ¬ (n ≤ r ∧ r < n + max 1 (outs.length - L.length))) := by
  cases g with
  | false => exact call_ok h hv ⟨hc.nodup, hc.live, hc.shown, hc.long, by rcases hc.fresh with h | h; (· cases h); exact h⟩ hs hF
  | true =>
    have hS1 : ∀ r ∈ args.flatMap SV.refs, idx r L = none → r ∈ snaps L args := fun r hr hi => by
      unfold snaps; rw [zan]; exact ⟨hr, by rw [hi]; rfl⟩
    have hLS : ∀ r ∈ L, r ∉ snaps L args := fun r hr hr2 => by
      unfold snaps at hr2; rw [zan] at hr2
      cases hi : idx r L with
      | none => exact absurd hr (idx_none hi)
      | some j => rw [hi] at hr2; cases hr2.2
    have hgu := h.giveup (snaps L args) hc.shown
    obtain ⟨p1, p2⟩ := prepV_ok h L (snaps L args) hc.shown args vals.toList hS1 hv
    have eg : upds hp (gone true L args ++ outUpsFrom L n 0 outs) = upds (fun r => if r ∈ snaps L args then none else hp r) (outUpsFrom L n 0 outs) := by
      rw [upds_cat]; unfold gone; rw [upds_none]
    rw [eg]
    have em : memS (memS m π w (snaps L args)) (fun r => if r ∈ snaps L args then none else π r) w [] = memS m π w (snaps L args) := by
      funext ad
      generalize memS m π w (snaps L args) = M
      simp [memS, inS]
    have e2 : ∀ (M : Mem) (π1 π2 : Plc) (X : List SV) (Y : List Value), (∀ j, π1 j = π2 j) → VSL M π2 X Y → VSL M π1 X Y := fun _ _ _ _ _ h hv => by rw [funext h]; exact hv
    refine call_gen hgu [] (by simp) (by simp) hc.nodup (fun r hr => ?_) hc.long (.inl rfl) (args' := args.map (prepV L hp)) ?_ p2 ?_ hF
    · simp only [hLS r hr, if_false]; exact hc.live r hr
    · rw [em]
      refine e2 _ _ _ _ _ (fun j => ?_) p1
      cases hj : L[j]? with
      | none => rfl
      | some r => simp only [hLS r (List.mem_of_getElem? hj), if_false]
    · rw [lentRows_loc (get := fun r => if r ∈ snaps L args then none else hp r) (get' := hp) (fun r hr => by simp only [hLS r hr, if_false])]
      exact hs
end
theorem cl_mem {Fr : Nat → Prop} {m : Mem} {π : Plc} {caps : List Cell} {vals : Array Value} (hl : vals.size = caps.length) (hv : ∀ (i : Nat) x (hi : i < vals.size), caps[i]? = some x → VG m x vals[i]) : VSL m π (caps.map SV.one) vals.toList ∧ SV.clL Fr (caps.map SV.one) := by
 have : ∀ (l : List Cell) (vs : List Value), vs.length = l.length → (∀ (i : Nat) x v, l[i]? = some x → vs[i]? = some v → VG m x v) → VSL m π (l.map SV.one) vs ∧ SV.clL Fr (l.map SV.one) := by
   intro l
   induction l with
   | nil => intro vs hl _; cases vs <;> simp at hl; exact ⟨trivial, trivial⟩
   | cons c l ih =>
     intro vs hl h
     cases vs with
     | nil => simp at hl
     | cons v vs =>
       obtain ⟨h1, h2⟩ := ih vs (by simpa using hl) (fun i x v hx hv => h (i + 1) x v (by simpa using hx) (by simpa using hv))
       have hg := h 0 c v (by simp) (by simp)
       have hvc : VC m π c v := by cases c <;> first | exact hg | cases hg
       have hcl : c.cl Fr := by cases c <;> first | trivial | cases hg
       exact ⟨⟨hvc, h1⟩, hcl, h2⟩
 refine this caps vals.toList (by simpa using hl) (fun i x v hx hv' => ?_)
 have hi : i < vals.size := by have := (List.getElem?_eq_some_iff.1 hv').1; simpa using this
 have := hv i x hi hx
 simp [hi] at hv'
 rw [← hv']; exact this
theorem vsl_app {m : Mem} {π : Plc} : ∀ {asx : List SV} {vs : List Value} {bs : List SV} {us : List Value}, VSL m π asx vs → VSL m π bs us → VSL m π (asx ++ bs) (vs ++ us)
  | [], [], _, _, _, h => h
  | _ :: _, _ :: _, _, _, h1, h2 => ⟨h1.1, vsl_app h1.2 h2⟩
theorem xloc_call {g : Bool} {P : Program} {o : Oper} {ρ : Operand → SV} {hp : Nat → Option Row} {n : Nat} {c : Call} {x : Operand} {f : FuncId} {caps : List Cell} {L : List Nat} {res : SV} {outs : List (Option Row)} (ho : o.op = .call c) (hx : c.callee = .value x) (hf : ρ x = .one (.fn f caps)) (hc : CallG g L hp (c.args.toList.map ρ ++ caps.map SV.one) res outs) (hs : FnSpecD P f ((c.args.toList.map ρ ++ caps.map SV.one).map (prepV L hp)) (lentRows L hp) res outs) : XLoc P o ρ hp n ⟨res.ren (back L n), gone g L (c.args.toList.map ρ ++ caps.map SV.one) ++ outUpsFrom L n 0 outs, outs.length - L.length, L ++ snaps L (c.args.toList.map ρ ++ caps.map SV.one)⟩ := by
 intro hp' hfp w0 A N Fr tm a w m π K Q h hρ hFr hK
 have hops : o.op.operands = #[x] ++ c.args := by rw [ho]; simp [Op.operands, Call.operands, hx]
 have hxv := (hρ x (by rw [hops]; simp)).1
 rw [hf] at hxv
 obtain ⟨capv, hev, hcl, hcv⟩ : ∃ capv : Array Value, a.eval x = .func (.func f) #[] capv ∧ capv.size = caps.length ∧ ∀ (i : Nat) y (hi : i < capv.size), caps[i]? = some y → VG m y capv[i] := by
   generalize a.eval x = u at hxv
   cases hxv with
   | fn _ _ vals hl hv => exact ⟨vals, rfl, hl, hv⟩
 have hargs : VSL m π (c.args.toList.map ρ ++ caps.map SV.one) (c.args.map a.eval ++ capv).toList := by
   rw [Array.toList_append, Array.toList_map]
   refine vsl_app ?_ (cl_mem (Fr := Fr) hcl hcv).1
   have : ∀ l : List Operand, (∀ y ∈ l, VS m π (ρ y) (a.eval y)) → VSL m π (l.map ρ) (l.map a.eval) := by
     intro l
     induction l with
     | nil => intro _; trivial
     | cons y l ih => exact fun hy => ⟨hy y (by simp), ih (fun z hz => hy z (by simp [hz]))⟩
   exact this _ (fun y hy => (hρ y (by rw [hops]; simp at hy ⊢; exact .inr hy)).1)
 have hc' := hc.loc hfp
 have hs' : FnSpecD P f ((c.args.toList.map ρ ++ caps.map SV.one).map (prepV L hp')) (lentRows L hp') res outs := by
   rw [lentRows_loc (get := hp') (get' := hp) (fun r hr => hfp r (List.mem_append.2 (.inl hr)))]
   have : (c.args.toList.map ρ ++ caps.map SV.one).map (prepV L hp') = (c.args.toList.map ρ ++ caps.map SV.one).map (prepV L hp) := by
     apply zah
     intro s hs
     exact prepV_loc (fun r hr hi => hfp r (List.mem_append.2 (.inr (mem_snaps hs hr hi))))
   rw [this]
   exact hs
 have hcall := call_okG h hargs hc' hs' (n := n) (fun r h1 h2 => hFr r h1 h2)
 rcases hcall with ⟨⟨fn, hfn, hname, hbody⟩, hcall⟩ | ⟨v0, w1, hrun0, v, m', π', e0, h1, h2, h3⟩
 · have hrun : (execOp a.eval o).run P w = .ok (.enter f (c.args.map a.eval ++ capv)) w := by
     unfold execOp
     rw [ho]
     simp only [resolve, hx, hev, Deferred.ofValue, Sem.run_bind, Sem.run_pure, Result.andThen_ok, invoke, callFunc, run_program, hfn, hname, hbody]
     simp
   unfold Oper.wp
   rw [hrun, Oper.upon_enter]
   refine hcall.mono ?_
   rintro e w' ⟨v, m', π', rfl, h1, h2, h3⟩
   exact hK v w' m' π' h1 h2 h3
 · have hrun : (execOp a.eval o).run P w = .ok (.value v0) w1 := by
     unfold execOp
     rw [ho]
     simp only [resolve, hx, hev, Deferred.ofValue, Sem.run_bind, Sem.run_pure, Result.andThen_ok, invoke]
     simp [hrun0]
   cases e0
   unfold Oper.wp
   rw [hrun]
   exact hK v0 w1 m' π' h1 h2 h3
end Go.Proofs.YtnahpejlhfeleabGreat.Sh
