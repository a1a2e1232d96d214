/- Contracts of functions, told of values, on the way to ThrottleSteps (part 4). -/
import Derived.Test.YtcnilpdlcmpbbaaGreatThrottleStepsM3
-- short names of the library's lemmas
open Nat renaming reduceEqDiff → zaa, reduceLeDiff → zad, reduceAdd → zag, reduceSub → zah, reduceMul → zai, reduceLT → zaj, le_of_ble_eq_true → zav, zero_le → zaR
open List renaming reduceReplicate → zab, map_cons → zae, map_nil → zaf, forall_mem_cons → zao, not_mem_nil → zap, getD_cons_zero → zas, getD_cons_succ → zat, append_nil → zaF, length_cons → zaK, length_nil → zaN, length_set → zaP, take_of_length_le → zaQ, mem_cons → zaS
open Int renaming cast_ofNat_Int → zac, reduceEq → zak, reduceLT → zal, reduceLE → zam
open Option renaming getD_some → zay, getD_none → zaA
open Bool renaming or_eq_false_iff → zaq, not_eq_true' → zau, not_eq_false' → zaw, and_eq_false_iff → zax, and_eq_true → zaz, or_eq_true → zaC, false_eq_true → zaI
open And renaming intro → zan
open Go.Proofs.YtcnilpdlcmpbbaaGreat.Sh.Cell renaming ren → zar, refs → zaH, isG → zaL, frz → zaM
open Go.Proofs.YtcnilpdlcmpbbaaGreat.Sh.SV renaming renL → zaD, ren → zaE, frzL → zaO, frz → zaT
open Go.Proofs.YtcnilpdlcmpbbaaGreat.Sh.Row renaming ren → zaB
open Go.Proofs.YtcnilpdlcmpbbaaGreat.Sh.St renaming hpF → zaG, tmF → zaJ
namespace Go.Proofs.YtcnilpdlcmpbbaaGreat
set_option linter.unusedVariables false
set_option linter.unusedSimpArgs false
open Go.Proofs.YtcnilpdlcmpbbaaGreat.Sh
abbrev dice (l : List Int) (i : Nat) : Row := ⟨[.gsl (Ints l) 0 l.length none, int i], 2⟩
abbrev dp : SV := .one (.optr 0 0)
def nxS (l : List Int) (i : Nat) (n : Int) : Bool := decide ((l.length : Int) ≤ i) || decide (n < 1)
def nxV (l : List Int) (i : Nat) (n : Int) : Int := if nxS l i n = true then 0 else l.getD i 0 % n
def nxA (l : List Int) (i : Nat) (n : Int) : Nat := if nxS l i n = true then i else i + 1
theorem roll_spec (l : List Int) : FnSpec Tryz.prog 8 [gi l none] [] dp [some (dice l 0)] := by
  refine fnspec_of mixed TT_ok TT_cl ⟨fun _ => false, fun _ => [], 0, fun _ => false, fun _ => false⟩ Tryz.func8 rfl (by kernel_rfl) rfl 6 rfl [.tmp 2] rfl ?_
  simp only [go_sem, zaa, zag, zah, zai, zaj, zad, ↓reduceIte, reduceCtorEq, zab, zac, zak, zal, zam]
  repeat' (first
 | fail)
  all_goals (refine fs_flat [(3, dice l 0)] (by simp) (by simp only [zae, zaf]; decide) (by simp only [go_sem, resV, resS, zaE, zaD, zar, zaJ, zaG, idx, renO, zaB, evS, slot, lookR, zaa, ↓reduceIte, reduceCtorEq, if_true, if_false, zay, zaA, zae, zaf, sLoad, readAt, readNeed, Ints_ren, Ints_length, Ints_getD, and_true, true_and, zas, zat]; try decide) ?_ (by simp only [zao, zap, false_implies, implies_true, and_true, zaG, lookR, zaa, if_true, if_false, ↓reduceIte] <;> (repeat' apply zan) <;> (first | rfl | trivial)) (by simp only [zao, zap, false_implies, implies_true, and_true, true_and, flat_cons, flat_nil, flat_ints, flat_bools, flat_app, zaH, and_self, eq_self_iff_true, zaF]) ?_ <;> (try simp only [go_sem, resV, resS, zaE, zaD, zar, zaJ, zaG, idx, renO, zaB, evS, slot, lookR, zaa, ↓reduceIte, reduceCtorEq, if_true, if_false, zay, zaA, zae, zaf, sLoad, readAt, readNeed, Ints_ren, Ints_length, Ints_getD, and_true, true_and, zas, zat]) <;> (try rfl))
theorem light_spec (l : List Int) (c : Option Nat) : FnSpec Tryz.prog 6 [gi l c] [] (b1 (decide ((l.length : Int) ≤ 600))) [] := by
  refine fnspec_of mixed TT_ok TT_cl ⟨fun _ => false, fun _ => [], 0, fun _ => false, fun _ => false⟩ Tryz.func6 rfl (by kernel_rfl) rfl 6 rfl [.tmp 2] rfl ?_
  simp only [go_sem, zaa, zag, zah, zai, zaj, zad, ↓reduceIte, reduceCtorEq, zab, zac, zak, zal, zam]
  repeat' (first
 | exact fs_nil trivial rfl
 | fail)
theorem tmod_emod (x n : Int) (h : 0 < n) : (if x.tmod n < 0 then x.tmod n + n else x.tmod n) = x % n := by
  have h1 := Int.emod_nonneg x (show n ≠ 0 by omega)
  have h2 := Int.emod_lt_of_pos x h
  rw [Int.tmod_eq_emod]
  split <;> split <;> omega
theorem next_spec (l : List Int) (i : Nat) (n : Int) (hl : l.length ≤ 600) (hr : ∀ x ∈ l, -9223372036854775808 ≤ x ∧ x ≤ 9223372036854775807) (hn : n ≤ 9223372036854775807) : FnSpec Tryz.prog 11 [dp, i1 n] [dice l i] (i1 (nxV l i n)) [some (dice l (nxA l i n))] := by
  refine fnspec_of mixed TT_ok TT_cl ⟨fun _ => false, fun _ => [], 1, fun _ => false, fun _ => false⟩ Tryz.func11 rfl (by kernel_rfl) rfl 46 rfl [.tmp 4] rfl ?_
  simp only [go_sem, zaa, zag, zah, zai, zaj, zad, ↓reduceIte, reduceCtorEq, zab, zac, zak, zal, zam]
  repeat' (first
 | with_reducible refine zan ?_ ?_
 | (unfold OKC; kernel_rfl)
 | (unfold EDG; kernel_rfl)
 | (refine gt_if (fun h => ?_) (fun h => ?_) <;> (first | (simp only [h, go_sem, zaa, zag, zah, zai, zaj, zad, ↓reduceIte, reduceCtorEq, zab, zac, zak, zal, zam]; done) | simp only [h, go_sem, zaa, zag, zah, zai, zaj, zad, ↓reduceIte, reduceCtorEq, zab, zac, zak, zal, zam] | skip))
 | (intros; omega)
 | (intros; (try simp only [zaz, zaC, zau, zaw, zax, zaq, decide_eq_true_eq, decide_eq_false_iff_not] at *); omega)
 | fail)
  · (refine fs_flat [(0, dice l i)] (by simp) (by simp only [zae, zaf]; decide) (by simp only [go_sem, resV, resS, zaE, zaD, zar, zaJ, zaG, idx, renO, zaB, evS, slot, lookR, zaa, ↓reduceIte, reduceCtorEq, if_true, if_false, zay, zaA, zae, zaf, sLoad, readAt, readNeed, Ints_ren, Ints_length, Ints_getD, and_true, true_and, zas, zat]; try decide) ?_ (by simp only [zao, zap, false_implies, implies_true, and_true, zaG, lookR, zaa, if_true, if_false, ↓reduceIte] <;> (repeat' apply zan) <;> (first | rfl | trivial)) (by simp only [zao, zap, false_implies, implies_true, and_true, true_and, flat_cons, flat_nil, flat_ints, flat_bools, flat_app, zaH, and_self, eq_self_iff_true, zaF]) ?_ <;> (try simp only [go_sem, resV, resS, zaE, zaD, zar, zaJ, zaG, idx, renO, zaB, evS, slot, lookR, zaa, ↓reduceIte, reduceCtorEq, if_true, if_false, zay, zaA, zae, zaf, sLoad, readAt, readNeed, Ints_ren, Ints_length, Ints_getD, and_true, true_and, zas, zat]) <;> (try rfl))
    · simp only [nxV, nxS, h, if_true]
    · simp only [nxA, nxS, h, if_true]
  all_goals
    rename_i h0
    have h1 : nxS l i n = false := h0
    simp only [zaq, decide_eq_false_iff_not] at h0
    have e := tmod_emod (l.getD i 0) n (by omega)
    have b1 := Int.tmod_lt_of_pos (l.getD i 0) (b := n) (by omega)
    have b2 := Int.lt_tmod_of_pos (l.getD i 0) (b := n) (by omega)
    simp only [decide_eq_true_eq, decide_eq_false_iff_not] at h
    first
    | omega
    | rw [if_pos h] at e
      (refine fs_flat [(0, dice l (i + 1))] (by simp) (by simp only [zae, zaf]; decide) (by simp only [go_sem, resV, resS, zaE, zaD, zar, zaJ, zaG, idx, renO, zaB, evS, slot, lookR, zaa, ↓reduceIte, reduceCtorEq, if_true, if_false, zay, zaA, zae, zaf, sLoad, readAt, readNeed, Ints_ren, Ints_length, Ints_getD, and_true, true_and, zas, zat]; try decide) ?_ (by simp only [zao, zap, false_implies, implies_true, and_true, zaG, lookR, zaa, if_true, if_false, ↓reduceIte] <;> (repeat' apply zan) <;> (first | rfl | trivial)) (by simp only [zao, zap, false_implies, implies_true, and_true, true_and, flat_cons, flat_nil, flat_ints, flat_bools, flat_app, zaH, and_self, eq_self_iff_true, zaF]) ?_ <;> (try simp only [go_sem, resV, resS, zaE, zaD, zar, zaJ, zaG, idx, renO, zaB, evS, slot, lookR, zaa, ↓reduceIte, reduceCtorEq, if_true, if_false, zay, zaA, zae, zaf, sLoad, readAt, readNeed, Ints_ren, Ints_length, Ints_getD, and_true, true_and, zas, zat]) <;> (try rfl))
      all_goals simp only [nxV, nxA, h1, if_false, zaI, e]
    | rw [if_neg h] at e
      (refine fs_flat [(0, dice l (i + 1))] (by simp) (by simp only [zae, zaf]; decide) (by simp only [go_sem, resV, resS, zaE, zaD, zar, zaJ, zaG, idx, renO, zaB, evS, slot, lookR, zaa, ↓reduceIte, reduceCtorEq, if_true, if_false, zay, zaA, zae, zaf, sLoad, readAt, readNeed, Ints_ren, Ints_length, Ints_getD, and_true, true_and, zas, zat]; try decide) ?_ (by simp only [zao, zap, false_implies, implies_true, and_true, zaG, lookR, zaa, if_true, if_false, ↓reduceIte] <;> (repeat' apply zan) <;> (first | rfl | trivial)) (by simp only [zao, zap, false_implies, implies_true, and_true, true_and, flat_cons, flat_nil, flat_ints, flat_bools, flat_app, zaH, and_self, eq_self_iff_true, zaF]) ?_ <;> (try simp only [go_sem, resV, resS, zaE, zaD, zar, zaJ, zaG, idx, renO, zaB, evS, slot, lookR, zaa, ↓reduceIte, reduceCtorEq, if_true, if_false, zay, zaA, zae, zaf, sLoad, readAt, readNeed, Ints_ren, Ints_length, Ints_getD, and_true, true_and, zas, zat]) <;> (try rfl))
      all_goals simp only [nxV, nxA, h1, if_false, zaI, e]
theorem bool_spec (l : List Int) (i : Nat) (n : Int) (hl : l.length ≤ 600) (hr : ∀ x ∈ l, -9223372036854775808 ≤ x ∧ x ≤ 9223372036854775807) (hn : 0 ≤ n ∧ n ≤ 65536) : FnSpec Tryz.prog 37 [dp, i1 n] [dice l i] (b1 (decide (nxV l i n = n - 1))) [some (dice l (nxA l i n))] := by
  refine fnspec_of mixed TT_ok TT_cl ⟨fun _ => false, fun f => if f = 11 then [0] else [], 1, fun _ => false, fun _ => false⟩ Tryz.func37 rfl (by kernel_rfl) rfl 11 rfl [.tmp 4] rfl ?_
  simp only [go_sem, zaa, zag, zah, zai, zaj, zad, ↓reduceIte, reduceCtorEq, zab, zac, zak, zal, zam]
  repeat' (first
 | with_reducible refine zan ?_ ?_
 | (apply cl_lend
    case hr => (simp only [zae, zaf, hpL', lookR, zaa, if_true, if_false]; first | exact map1 _ | exact map2 _ _ | exact map3 _ _ _)
    case ha => (simp only [zae, zaf, prepV, prepC, idx, hpL', lookR, zaa, if_true, if_false]; rfl)
    case hs => rfl
    case hn => decide
    case h => (first | exact next_spec _ _ _ hl hr (by omega))
    case hf => (simp only [zao, zap, false_implies, implies_true, and_true, true_and, flat_cons, flat_nil, flat_ints, flat_bools, flat_app, zaH, and_self, eq_self_iff_true, zaF])
    case hl => (simp only [zaK, zaN]; decide)
    case' hk => simp only [go_sem, zaa, zag, zah, zai, zaj, zad, ↓reduceIte, reduceCtorEq, zab, zac, zak, zal, zam, zaE, zaD, zar, zaB, renO, bk, back, outUpsFrom, Ints_ren])
 | (intros; omega)
 | fail)
  (refine fs_flat [(0, dice l (nxA l i n))] (by simp) (by simp only [zae, zaf]; decide) (by simp only [go_sem, resV, resS, zaE, zaD, zar, zaJ, zaG, idx, renO, zaB, evS, slot, lookR, zaa, ↓reduceIte, reduceCtorEq, if_true, if_false, zay, zaA, zae, zaf, sLoad, readAt, readNeed, Ints_ren, Ints_length, Ints_getD, and_true, true_and, zas, zat]; try decide) ?_ (by simp only [zao, zap, false_implies, implies_true, and_true, zaG, lookR, zaa, if_true, if_false, ↓reduceIte] <;> (repeat' apply zan) <;> (first | rfl | trivial)) (by simp only [zao, zap, false_implies, implies_true, and_true, true_and, flat_cons, flat_nil, flat_ints, flat_bools, flat_app, zaH, and_self, eq_self_iff_true, zaF]) ?_ <;> (try simp only [go_sem, resV, resS, zaE, zaD, zar, zaJ, zaG, idx, renO, zaB, evS, slot, lookR, zaa, ↓reduceIte, reduceCtorEq, if_true, if_false, zay, zaA, zae, zaf, sLoad, readAt, readNeed, Ints_ren, Ints_length, Ints_getD, and_true, true_and, zas, zat]) <;> (try rfl))
end Go.Proofs.YtcnilpdlcmpbbaaGreat
-- NEWGO
-- PRUNE: cg_ts cg_show cl_use
namespace Go.Proofs.YtcnilpdlcmpbbaaGreat
set_option linter.unusedVariables false
set_option linter.unusedSimpArgs false
open Go.Proofs.YtcnilpdlcmpbbaaGreat.Sh
structure Pl where
  g : Int
  q : Int
  b : Int
  s : Int
  l : Int
  c : List Int
  sp : Int
  pe : Int
  th : Int
  em : Bool
abbrev plc (x : Pl) (k : Option Nat) : List Cell := [int x.g, int x.q, int x.b, int x.s, int x.l, .gsl (Ints x.c) 0 x.c.length k, int x.sp, int x.pe, int x.th, bool x.em]
abbrev plt (x : Pl) (k : Option Nat) : SV := .agg (plc x k)
abbrev plo (x : Pl) (r : Nat) (n : Nat) (k : Option Nat) : List Cell := [int x.g, int x.q, int x.b, int x.s, int x.l, .osl r 0 n k, int x.sp, int x.pe, int x.th, bool x.em]
def wi (n a b : Int) : Bool := decide (a ≤ n) && decide (n ≤ b)
theorem wi_iff {n a b : Int} : wi n a b = true ↔ a ≤ n ∧ n ≤ b := by simp [wi]
theorem wi_no {n a b : Int} : wi n a b = false ↔ n < a ∨ b < n := by simp only [wi, zax, decide_eq_false_iff_not]; omega
theorem within_spec (n a b : Int) : FnSpec Tryz.prog 94 [i1 n, i1 a, i1 b] [] (b1 (wi n a b)) [] := by
  refine fnspec_of mixed TT_ok TT_cl ⟨fun _ => false, fun _ => [], 0, fun _ => false, fun _ => false⟩ Tryz.func94 rfl (by kernel_rfl) rfl 15 rfl [.tmp 6] rfl ?_
  simp only [go_sem, zaa, zag, zah, zai, zaj, zad, ↓reduceIte, reduceCtorEq, zab, zac, zak, zal, zam]
  repeat' (first
 | exact fs_nil trivial rfl
 | fail)
theorem rin_spec (n a b : Int) : FnSpec Tryz.prog 99 [i1 n, i1 a, i1 b] [] (b1 (wi n a b)) [] := by
  refine fnspec_of mixed TT_ok TT_cl ⟨fun _ => false, fun _ => [], 0, fun _ => false, fun _ => false⟩ Tryz.func99 rfl (by kernel_rfl) rfl 15 rfl [.tmp 6] rfl ?_
  simp only [go_sem, zaa, zag, zah, zai, zaj, zad, ↓reduceIte, reduceCtorEq, zab, zac, zak, zal, zam]
  repeat' (first
 | exact fs_nil trivial rfl
 | fail)
def lim (x : Pl) : Bool := !decide (x.q = 4611686018427387904)
theorem limited_spec (x : Pl) (k : Option Nat) : FnSpec Tryz.prog 81 [plt x k] [] (b1 (lim x)) [] := by
  obtain ⟨g, q, b, s, l, c, sp, pe, th, em⟩ := x
  refine fnspec_of mixed TT_ok TT_cl ⟨fun _ => false, fun _ => [], 0, fun _ => false, fun _ => false⟩ Tryz.func81 rfl (by kernel_rfl) rfl 6 rfl [.tmp 2] rfl ?_
  simp only [go_sem, zaa, zag, zah, zai, zaj, zad, ↓reduceIte, reduceCtorEq, zab, zac, zak, zal, zam, plc]
  repeat' (first
 | exact fs_nil trivial rfl
 | fail)
theorem rlimited_spec (x : Pl) (k : Option Nat) : FnSpec Tryz.prog 18 [plt x k] [] (b1 (lim x)) [] := by
  obtain ⟨g, q, b, s, l, c, sp, pe, th, em⟩ := x
  refine fnspec_of mixed TT_ok TT_cl ⟨fun _ => false, fun _ => [], 0, fun _ => false, fun _ => false⟩ Tryz.func18 rfl (by kernel_rfl) rfl 6 rfl [.tmp 2] rfl ?_
  simp only [go_sem, zaa, zag, zah, zai, zaj, zad, ↓reduceIte, reduceCtorEq, zab, zac, zak, zal, zam, plc]
  repeat' (first
 | exact fs_nil trivial rfl
 | fail)
def stl (q b : Int) : Bool := if q = 4611686018427387904 then decide (b = 0) else wi q 1 1000000 && wi b 0 q
theorem settable_spec (q b : Int) : FnSpec Tryz.prog 95 [i1 q, i1 b] [] (b1 (stl q b)) [] := by
  refine fnspec_of mixed TT_ok TT_cl ⟨fun _ => false, fun _ => [], 0, fun _ => false, fun _ => false⟩ Tryz.func95 rfl (by kernel_rfl) rfl 16 rfl [.tmp 4] rfl ?_
  simp only [go_sem, zaa, zag, zah, zai, zaj, zad, ↓reduceIte, reduceCtorEq, zab, zac, zak, zal, zam]
  repeat' (first
 | (refine gt_if (fun h => ?_) (fun h => ?_) <;> (try simp only [h]))
 | (apply cg_any
    case hl => rfl
    case ha => (intro hb; simp only [zae, zaf, cnd, hb, if_true, prepV, prepC, idx, hpL', lookR, zaa, if_false]; rfl)
    case hs => (intro hb; simp only [cnd, hb, if_true]; rfl)
    case h => (first | exact within_spec ..))
 | (apply cl_plain
    case hs => rfl
    case ha => (simp only [zae, zaf, prepV, prepC, idx, hpL', lookR, zaa, if_true, if_false]; rfl)
    case h => (first | exact within_spec ..))
 | ((first | refine s1_id ?_ | refine swp_id ?_ | refine sops_id ?_ | refine s2_id ?_); simp only [go_sem, zaa, zag, zah, zai, zaj, zad, ↓reduceIte, reduceCtorEq, zab, zac, zak, zal, zam, zaE, zaD, zar, zaB, renO, bk, back, outUpsFrom, Ints_ren])
 | (apply fs_nil <;> (try simp only [go_sem, resV, resS, zaE, zaD, zar, zaJ, zaG, idx, renO, zaB, evS, slot, lookR, zaa, ↓reduceIte, reduceCtorEq, if_true, if_false, zay, zaA, zae, zaf, sLoad, readAt, readNeed, Ints_ren, Ints_length, Ints_getD, and_true, true_and, zas, zat]) <;> (try rfl))
 | fail)
  all_goals
    simp only [zau, zaw, decide_eq_true_eq, decide_eq_false_iff_not, zaC, zaq, zaz] at *
    simp only [stl, *, if_true, if_false]
def mst (x : Pl) : Int := if lim x = true then x.q + x.b else 0
theorem stl_iff {q b : Int} : stl q b = true ↔ (q = 4611686018427387904 ∧ b = 0) ∨ (q ≠ 4611686018427387904 ∧ 1 ≤ q ∧ q ≤ 1000000 ∧ 0 ≤ b ∧ b ≤ q) := by
  unfold stl
  split
  · simp only [decide_eq_true_eq]; omega
  · simp only [wi, zaz, decide_eq_true_eq]; omega
theorem mst_rng {x : Pl} (h : stl x.q x.b = true) : 0 ≤ mst x ∧ mst x ≤ 2000000 := by
  rw [stl_iff] at h
  simp only [mst, lim, zau, decide_eq_false_iff_not]
  split <;> omega
theorem most_spec (x : Pl) (k : Option Nat) (h : stl x.q x.b = true) : FnSpec Tryz.prog 83 [plt x k] [] (i1 (mst x)) [] := by
  have hm := stl_iff.1 h
  obtain ⟨g, q, b, s, l, c, sp, pe, th, em⟩ := x
  simp only at hm
  refine fnspec_of mixed TT_ok TT_cl ⟨fun _ => false, fun _ => [], 0, fun _ => false, fun _ => false⟩ Tryz.func83 rfl (by kernel_rfl) rfl 11 rfl [.tmp 2] rfl ?_
  simp only [go_sem, zaa, zag, zah, zai, zaj, zad, ↓reduceIte, reduceCtorEq, zab, zac, zak, zal, zam, plc]
  repeat' (first
 | with_reducible refine zan ?_ ?_
 | (refine gt_if (fun h => ?_) (fun h => ?_) <;> (try simp only [h]))
 | (apply cl_plain
    case hs => rfl
    case ha => (simp only [zae, zaf, prepV, prepC, idx, hpL', lookR, zaa, if_true, if_false]; rfl)
    case h => (first | exact limited_spec (.mk ..) _))
 | ((first | refine s1_id ?_ | refine swp_id ?_ | refine sops_id ?_ | refine s2_id ?_); simp only [plc, go_sem, zaa, zag, zah, zai, zaj, zad, ↓reduceIte, reduceCtorEq, zab, zac, zak, zal, zam, zaE, zaD, zar, zaB, renO, bk, back, outUpsFrom, Ints_ren])
 | (intros; omega)
 | (apply fs_nil <;> (try simp only [go_sem, resV, resS, zaE, zaD, zar, zaJ, zaG, idx, renO, zaB, evS, slot, lookR, zaa, ↓reduceIte, reduceCtorEq, if_true, if_false, zay, zaA, zae, zaf, sLoad, readAt, readNeed, Ints_ren, Ints_length, Ints_getD, and_true, true_and, zas, zat]) <;> (try rfl))
 | fail)
  all_goals
    simp only [lim, zau, decide_eq_false_iff_not, decide_eq_true_eq, zaw, Bool.not_not] at *
    first
    | omega
    | (simp only [mst, lim, zau, decide_eq_false_iff_not, *, if_true, if_false, not_true_eq_false, not_false_eq_true]; done)
def sumN (c : List Int) : Nat → Int
  | 0 => 0
  | n + 1 => sumN c n + c.getD n 0
theorem sumN_rng {c : List Int} {a b : Int} (h : ∀ y ∈ c, a ≤ y ∧ y ≤ b) : ∀ n, n ≤ c.length → a * n ≤ sumN c n ∧ sumN c n ≤ b * n
  | 0, _ => by simp [sumN]
  | n + 1, hn => by
    have h1 := sumN_rng h n (by omega)
    have hm : c.getD n 0 ∈ c := by
      rw [List.getD_eq_getElem?_getD, List.getElem?_eq_getElem (by omega)]; exact List.getElem_mem _
    have h2 := h _ hm
    have e1 : a * ((n + 1 : Nat) : Int) = a * n + a := by rw [Int.natCast_add, Int.mul_add]; simp
    have e2 : b * ((n + 1 : Nat) : Int) = b * n + b := by rw [Int.natCast_add, Int.mul_add]; simp
    simp only [sumN]; omega
abbrev tot (c : List Int) : Int := sumN c c.length
def hld (x : Pl) : Int := x.l + tot x.c
structure Sml (x : Pl) : Prop where
  len : x.c.length ≤ 1000
  all : ∀ y ∈ x.c, -1000000000 ≤ y ∧ y ≤ 1000000000
  left : -1000000000 ≤ x.l ∧ x.l ≤ 1000000000
theorem sumN_sml {c : List Int} (h1 : c.length ≤ 1000) (h : ∀ y ∈ c, -1000000000 ≤ y ∧ y ≤ 1000000000) (n : Nat) (hn : n ≤ c.length) : -1000000000000 ≤ sumN c n ∧ sumN c n ≤ 1000000000000 := by
  have := sumN_rng h n hn
  omega
theorem sum_spec (c : List Int) (k : Option Nat) (h1 : c.length ≤ 1000) (hsm : ∀ n, n ≤ c.length → -9000000000000000000 ≤ sumN c n ∧ sumN c n ≤ 9000000000000000000) : FnSpec Tryz.prog 103 [gi c k] [] (i1 (tot c)) [] := by
  refine fnspec_of mixed TT_ok TT_cl ⟨fun _ => false, fun _ => [], 0, fun _ => false, fun _ => false⟩ Tryz.func103 rfl (by kernel_rfl) rfl 17 rfl [.tmp 2] rfl ?_
  simp only [go_sem, zaa, zag, zah, zai, zaj, zad, ↓reduceIte, reduceCtorEq, zab, zac, zak, zal, zam]
  refine w_loop (ι := Nat) (fun i => ⟨[(8, i1 i), (7, i1 c.length), (6, gi c k), (3, i1 (sumN c i))], [], 5⟩) (fun i => i ≤ c.length) (fun i => c.length - i) 0 ?_ (zaR _) ?_
  · (refine imp_sub _ _ _ [] (by simp) (by simp) (by simp) (zaR _) ?_ rfl (by simp); simp only [zao, zap, false_implies, implies_true, and_true, lk, slot, zaE, zar, zaa, if_true, if_false, ↓reduceIte, reduceCtorEq]); ((repeat' apply zan) <;> (first | rfl | trivial))
  intro i hi
  have h2 := hsm i hi
  have h3 : i < c.length → -9000000000000000000 ≤ sumN c i + c.getD i 0 ∧ sumN c i + c.getD i 0 ≤ 9000000000000000000 := fun hlt => hsm (i + 1) hlt
  simp only [go_sem, zaa, zag, zah, zai, zaj, zad, ↓reduceIte, reduceCtorEq, zab, zac, zak, zal, zam]
  repeat' (first
 | with_reducible refine zan ?_ ?_
 | (refine gt_if (fun h => ?_) (fun h => ?_) <;> (try simp only [h]))
 | ((first | refine s1_id ?_ | refine swp_id ?_ | refine sops_id ?_ | refine s2_id ?_); simp only [go_sem, zaa, zag, zah, zai, zaj, zad, ↓reduceIte, reduceCtorEq, zab, zac, zak, zal, zam, zaE, zaD, zar, zaB, renO, bk, back, outUpsFrom, Ints_ren])
 | (intros; omega)
 | (intros; (try simp only [zaz, zaC, zau, zaw, zax, zaq, decide_eq_true_eq, decide_eq_false_iff_not] at *); omega)
 | (apply fs_nil <;> (try simp only [go_sem, resV, resS, zaE, zaD, zar, zaJ, zaG, idx, renO, zaB, evS, slot, lookR, zaa, ↓reduceIte, reduceCtorEq, if_true, if_false, zay, zaA, zae, zaf, sLoad, readAt, readNeed, Ints_ren, Ints_length, Ints_getD, and_true, true_and, zas, zat]) <;> (try rfl))
 | fail)
  · simp only [zau, zaw, decide_eq_true_eq, decide_eq_false_iff_not, zaC, zaq, zaz] at *
    refine le_mk (i + 1) ?_ (by omega) (by omega)
    (refine imp_sub _ _ _ [] (by simp) (by simp) (by simp) (zaR _) ?_ rfl (by simp); simp only [zao, zap, false_implies, implies_true, and_true, lk, slot, zaE, zar, zaa, if_true, if_false, ↓reduceIte, reduceCtorEq]); ((repeat' apply zan) <;> (first | rfl | trivial))
  · simp only [zau, zaw, decide_eq_true_eq, decide_eq_false_iff_not, zaC, zaq, zaz] at *
    rw [show i = c.length by omega]
theorem held_spec (x : Pl) (k : Option Nat) (hs : Sml x) : FnSpec Tryz.prog 84 [plt x k] [] (i1 (hld x)) [] := by
  have h1 := sum_spec x.c k hs.len (fun n hn => by have := sumN_sml hs.len hs.all n hn; omega)
  have hb := sumN_sml hs.len hs.all x.c.length (Nat.le_refl _)
  have h2 := sum_spec [x.l, tot x.c] (some 2) (by simp) (fun n hn => by
    have := hs.left
    match n, hn with
    | 0, _ => simp [sumN]
    | 1, _ => simp [sumN]; omega
    | 2, _ => simp only [sumN, zas, zat]; simp only [tot] at *; omega
    | n + 3, hn => simp at hn)
  have e : tot [x.l, tot x.c] = hld x := by simp [tot, sumN, hld]
  rw [e] at h2
  clear e hs hb
  obtain ⟨g, q, b, s, l, c, sp, pe, th, em⟩ := x
  simp only at h1 h2
  refine fnspec_of mixed TT_ok TT_cl ⟨fun _ => false, fun _ => [], 0, fun _ => false, fun _ => false⟩ Tryz.func84 rfl (by kernel_rfl) rfl 10 rfl [.tmp 2] rfl ?_
  simp only [go_sem, zaa, zag, zah, zai, zaj, zad, ↓reduceIte, reduceCtorEq, zab, zac, zak, zal, zam, plc]
  repeat' (first
 | with_reducible refine zan ?_ ?_
 | (unfold OKC; kernel_rfl)
 | (unfold EDG; kernel_rfl)
 | (apply cl_plain
    case hs => rfl
    case ha => (simp only [zae, zaf, prepV, prepC, idx, hpL', lookR, zaa, if_true, if_false]; rfl)
    case h => (first | exact h1 .. | exact h2 ..))
 | (apply cl_show
    case ha => (simp only [zae, zaf, prepV, prepC, idx, hpL', lookR, zaa, if_true, if_false]; rfl)
    case hs => ((simp [snaps, SV.refs, zaH, idx, hpL', lookR]) <;> (repeat' apply zan) <;> exact Ints_isG _)
    case h => (first | exact h1 .. | exact h2 ..)
    case hg => ((simp [SV.noG, SV.noGL, Cell.noG]) <;> (repeat' apply zan) <;> exact Ints_noG _))
 | ((first | refine s1_id ?_ | refine swp_id ?_ | refine sops_id ?_ | refine s2_id ?_); simp only [plc, go_sem, zaa, zag, zah, zai, zaj, zad, ↓reduceIte, reduceCtorEq, zab, zac, zak, zal, zam, zaE, zaD, zar, zaB, renO, bk, back, outUpsFrom, Ints_ren])
 | exact fs_nil trivial rfl
 | fail)
theorem rheld_spec (x : Pl) (k : Option Nat) (hs : Sml x) : FnSpec Tryz.prog 17 [plt x k] [] (i1 (hld x)) [] := by
  have hr := fun n hn => sumN_sml hs.len hs.all n hn
  have hl := hs.left
  have hlen := hs.len
  clear hs
  obtain ⟨g, q, b, s, l, c, sp, pe, th, em⟩ := x
  simp only at hr hl hlen
  refine fnspec_of mixed TT_ok TT_cl ⟨fun _ => false, fun _ => [], 0, fun _ => false, fun _ => false⟩ Tryz.func17 rfl (by kernel_rfl) rfl 22 rfl [.tmp 2] rfl ?_
  simp only [go_sem, zaa, zag, zah, zai, zaj, zad, ↓reduceIte, reduceCtorEq, zab, zac, zak, zal, zam, plc]
  refine w_loop (ι := Nat) (fun i => ⟨[(1, .one (.optr 0 0)), (3, i1 (l + sumN c i)), (4, i1 i)], [(0, some ⟨plc ⟨g, q, b, s, l, c, sp, pe, th, em⟩ k, 10⟩)], 1⟩) (fun i => i ≤ c.length) (fun i => c.length - i) 0 ?_ (zaR _) ?_
  · (refine imp_ren _ _ _ [(0, 0, ⟨plc ⟨g, q, b, s, l, c, sp, pe, th, em⟩ k, 10⟩)] (by simp) (by simp) (by simp) (zav rfl) ?_ rfl (by simp only [zao, zap, false_implies, implies_true, and_true, zaG, lookR, zaa, if_true, if_false, ↓reduceIte] <;> (repeat' apply zan) <;> (first | rfl | trivial)) (by simp only [zao, zap, false_implies, implies_true, and_true, true_and, flat_cons, flat_nil, flat_ints, flat_bools, flat_app, zaH, and_self, eq_self_iff_true, zaF]); simp only [zae, zaf, zao, zap, false_implies, implies_true, and_true, lk, slot, zaE, zar, toN, zaa, if_true, if_false, ↓reduceIte, reduceCtorEq])
    all_goals ((repeat' apply zan) <;> (first | rfl | trivial | (simp only [sumN, Int.add_zero]; done) | (simp only [sumN, Int.add_zero]; rfl) | (simp only [sumN, Int.add_zero]; trivial)))
  intro i hi
  have h2 := hr i hi
  have h3 : i < c.length → -1000000000000 ≤ sumN c i + c.getD i 0 ∧ sumN c i + c.getD i 0 ≤ 1000000000000 := fun hlt => hr (i + 1) hlt
  simp only [go_sem, zaa, zag, zah, zai, zaj, zad, ↓reduceIte, reduceCtorEq, zab, zac, zak, zal, zam, plc]
  repeat' (first
 | with_reducible refine zan ?_ ?_
 | (refine gt_if (fun h => ?_) (fun h => ?_) <;> (try simp only [h]))
 | ((first | refine s1_id ?_ | refine swp_id ?_ | refine sops_id ?_ | refine s2_id ?_); simp only [plc, go_sem, zaa, zag, zah, zai, zaj, zad, ↓reduceIte, reduceCtorEq, zab, zac, zak, zal, zam, zaE, zaD, zar, zaB, renO, bk, back, outUpsFrom, Ints_ren])
 | (intros; omega)
 | (intros; (try simp only [zaz, zaC, zau, zaw, zax, zaq, decide_eq_true_eq, decide_eq_false_iff_not] at *); omega)
 | (apply fs_nil <;> (try simp only [go_sem, resV, resS, zaE, zaD, zar, zaJ, zaG, idx, renO, zaB, evS, slot, lookR, zaa, ↓reduceIte, reduceCtorEq, if_true, if_false, zay, zaA, zae, zaf, sLoad, readAt, readNeed, Ints_ren, Ints_length, Ints_getD, and_true, true_and, zas, zat]) <;> (try rfl))
 | fail)
  · simp only [zau, zaw, decide_eq_true_eq, decide_eq_false_iff_not, zaC, zaq, zaz] at *
    refine le_mk (i + 1) ?_ (by omega) (by omega)
    (refine imp_ren _ _ _ [(0, 0, ⟨plc ⟨g, q, b, s, l, c, sp, pe, th, em⟩ k, 10⟩)] (by simp) (by simp) (by simp) (zav rfl) ?_ rfl (by simp only [zao, zap, false_implies, implies_true, and_true, zaG, lookR, zaa, if_true, if_false, ↓reduceIte] <;> (repeat' apply zan) <;> (first | rfl | trivial)) (by simp only [zao, zap, false_implies, implies_true, and_true, true_and, flat_cons, flat_nil, flat_ints, flat_bools, flat_app, zaH, and_self, eq_self_iff_true, zaF]); simp only [zae, zaf, zao, zap, false_implies, implies_true, and_true, lk, slot, zaE, zar, toN, zaa, if_true, if_false, ↓reduceIte, reduceCtorEq])
    all_goals ((repeat' apply zan) <;> (first | rfl | trivial | (simp only [sumN, Int.add_assoc]; done) | (simp only [sumN, Int.add_assoc]; rfl) | (simp only [sumN, Int.add_assoc]; trivial)))
  · simp only [zau, zaw, decide_eq_true_eq, decide_eq_false_iff_not, zaC, zaq, zaz] at *
    rw [show i = c.length by omega]
    rfl
end Go.Proofs.YtcnilpdlcmpbbaaGreat
-- NEWGO
-- PRUNE: cg_ts cg_show cl_use cl_lend
namespace Go.Proofs.YtcnilpdlcmpbbaaGreat
set_option linter.unusedVariables false
set_option linter.unusedSimpArgs false
open Go.Proofs.YtcnilpdlcmpbbaaGreat.Sh
set_option maxRecDepth 20000
theorem all_take {p : Int → Bool} {c : List Int} {i : Nat} (h : (c.take i).all p = true) (hlt : i < c.length) (hp : p (c.getD i 0) = true) : (c.take (i + 1)).all p = true := by
  rw [List.take_add_one, List.all_append, h, List.getElem?_eq_getElem hlt]
  rw [List.getD_eq_getElem?_getD, List.getElem?_eq_getElem hlt] at hp
  simpa using hp
theorem all_no {p : Int → Bool} {c : List Int} {i : Nat} (hlt : i < c.length) (hp : p (c.getD i 0) = false) : c.all p = false := by
  rw [List.all_eq_false]
  refine ⟨c.getD i 0, ?_, by simpa using hp⟩
  rw [List.getD_eq_getElem?_getD, List.getElem?_eq_getElem hlt]
  exact List.getElem_mem _
def call (x : Pl) : Bool := x.c.all fun n => wi n 0 (mst x)
def ctok (x : Pl) : Bool := call x && (wi x.l 0 (mst x) && decide (hld x ≤ mst x))
theorem sml_of {x : Pl} (h1 : stl x.q x.b = true) (h2 : x.c.length ≤ 16) (h3 : call x = true) (h4 : wi x.l 0 (mst x) = true) : Sml x := by
  have hm := mst_rng h1
  rw [wi_iff] at h4
  refine ⟨by omega, fun y hy => ?_, by omega⟩
  have := List.all_eq_true.1 h3 y hy
  rw [wi_iff] at this
  omega
theorem tokens_spec (x : Pl) (k : Option Nat) (hst : stl x.q x.b = true) (hlen : x.c.length ≤ 16) : FnSpec Tryz.prog 96 [plt x k] [] (b1 (ctok x)) [] := by
  have hsml := fun h3 h4 => sml_of hst hlen h3 h4
  obtain ⟨g, q, b, s, l, c, sp, pe, th, em⟩ := x
  try simp only at hst
  try simp only at hlen
  have hms := most_spec ⟨g, q, b, s, l, c, sp, pe, th, em⟩ k hst
  generalize hX : (Pl.mk g q b s l c sp pe th em) = X at *
  have hXc : X.c = c := by rw [← hX]
  have hXl : X.l = l := by rw [← hX]
  have ec : plc X k = [int g, int q, int b, int s, int l, .gsl (Ints c) 0 c.length k, int sp, int pe, int th, bool em] := by rw [← hX]
  refine fnspec_of mixed TT_ok TT_cl ⟨fun _ => false, fun _ => [], 0, fun _ => false, fun _ => false⟩ Tryz.func96 rfl (by kernel_rfl) rfl 30 rfl [.tmp 2] rfl ?_
  simp only [go_sem, zaa, zag, zah, zai, zaj, zad, ↓reduceIte, reduceCtorEq, zab, zac, zak, zal, zam, ec]
  simp only [plt, ec] at hms
  refine w_loop (ι := Nat) (fun i => ⟨[(1, .one (.optr 0 0)), (6, gi c k), (7, i1 c.length), (8, i1 i)], [(0, some ⟨[int g, int q, int b, int s, int l, .gsl (Ints c) 0 c.length k, int sp, int pe, int th, bool em], 10⟩)], 1⟩) (fun i => i ≤ c.length ∧ (c.take i).all (fun n => wi n 0 (mst X)) = true) (fun i => c.length - i) 0 ?_ ⟨zaR _, rfl⟩ ?_
  · (refine imp_ren _ _ _ [(0, 0, ⟨[int g, int q, int b, int s, int l, .gsl (Ints c) 0 c.length k, int sp, int pe, int th, bool em], 10⟩)] (by simp) (by simp) (by simp) (zav rfl) ?_ rfl (by simp only [zao, zap, false_implies, implies_true, and_true, zaG, lookR, zaa, if_true, if_false, ↓reduceIte] <;> (repeat' apply zan) <;> (first | rfl | trivial)) (by simp only [zao, zap, false_implies, implies_true, and_true, true_and, flat_cons, flat_nil, flat_ints, flat_bools, flat_app, zaH, and_self, eq_self_iff_true, zaF]); simp only [zae, zaf, zao, zap, false_implies, implies_true, and_true, lk, slot, zaE, zar, toN, zaa, if_true, if_false, ↓reduceIte, reduceCtorEq])
    all_goals ((repeat' apply zan) <;> (first | rfl | trivial))
  intro i hi
  rcases Nat.lt_or_ge i c.length with hlt | hge
  · have hlt' : (i : Int) < c.length := by omega
    cases hw : wi (c.getD i 0) 0 (mst X) with
    | true =>
      simp only [go_sem, zaa, zag, zah, zai, zaj, zad, ↓reduceIte, reduceCtorEq, zab, zac, zak, zal, zam, decide_eq_true hlt']
      repeat' (first
 | with_reducible refine zan ?_ ?_
 | (apply cl_plain
    case hs => rfl
    case ha => (simp only [zae, zaf, prepV, prepC, idx, hpL', lookR, zaa, if_true, if_false]; rfl)
    case h => (first | exact hms .. | exact within_spec ..))
 | ((first | refine s1_id ?_ | refine swp_id ?_ | refine sops_id ?_ | refine s2_id ?_); simp only [hw, go_sem, zaa, zag, zah, zai, zaj, zad, ↓reduceIte, reduceCtorEq, zab, zac, zak, zal, zam, zaE, zaD, zar, zaB, renO, bk, back, outUpsFrom, Ints_ren])
 | (intros; omega)
 | fail)
      refine le_mk (i + 1) ?_ ⟨by omega, all_take hi.2 hlt hw⟩ (by omega)
      (refine imp_ren _ _ _ [(0, 0, ⟨[int g, int q, int b, int s, int l, .gsl (Ints c) 0 c.length k, int sp, int pe, int th, bool em], 10⟩)] (by simp) (by simp) (by simp) (zav rfl) ?_ rfl (by simp only [zao, zap, false_implies, implies_true, and_true, zaG, lookR, zaa, if_true, if_false, ↓reduceIte] <;> (repeat' apply zan) <;> (first | rfl | trivial)) (by simp only [zao, zap, false_implies, implies_true, and_true, true_and, flat_cons, flat_nil, flat_ints, flat_bools, flat_app, zaH, and_self, eq_self_iff_true, zaF]); simp only [zae, zaf, zao, zap, false_implies, implies_true, and_true, lk, slot, zaE, zar, toN, zaa, if_true, if_false, ↓reduceIte, reduceCtorEq])
      all_goals ((repeat' apply zan) <;> (first | rfl | trivial))
    | false =>
      have : ctok X = false := by
        unfold ctok call; rw [hXc, all_no hlt hw]; rfl
      simp only [go_sem, zaa, zag, zah, zai, zaj, zad, ↓reduceIte, reduceCtorEq, zab, zac, zak, zal, zam, decide_eq_true hlt']
      repeat' (first
 | with_reducible refine zan ?_ ?_
 | (apply cl_plain
    case hs => rfl
    case ha => (simp only [zae, zaf, prepV, prepC, idx, hpL', lookR, zaa, if_true, if_false]; rfl)
    case h => (first | exact hms .. | exact within_spec ..))
 | ((first | refine s1_id ?_ | refine swp_id ?_ | refine sops_id ?_ | refine s2_id ?_); simp only [hw, go_sem, zaa, zag, zah, zai, zaj, zad, ↓reduceIte, reduceCtorEq, zab, zac, zak, zal, zam, zaE, zaD, zar, zaB, renO, bk, back, outUpsFrom, Ints_ren])
 | (intros; omega)
 | (apply fs_nil <;> (try simp only [go_sem, resV, resS, zaE, zaD, zar, zaJ, zaG, idx, renO, zaB, evS, slot, lookR, zaa, ↓reduceIte, reduceCtorEq, if_true, if_false, zay, zaA, zae, zaf, sLoad, readAt, readNeed, Ints_ren, Ints_length, Ints_getD, and_true, true_and, zas, zat]) <;> (try rfl))
 | fail)
      rw [this]
  · have hlt' : ¬ (i : Int) < c.length := by omega
    have hall : call X = true := by
      have := hi.2
      rw [zaQ hge] at this
      unfold call; rw [hXc]; exact this
    have ect : ctok X = (wi l 0 (mst X) && decide (hld X ≤ mst X)) := by unfold ctok; rw [hall, hXl]; rfl
    cases hw : wi l 0 (mst X) with
    | true =>
      have hh := held_spec X k (hsml hall (by rw [hXl]; exact hw))
      simp only [plt, ec] at hh
      simp only [go_sem, zaa, zag, zah, zai, zaj, zad, ↓reduceIte, reduceCtorEq, zab, zac, zak, zal, zam, decide_eq_false hlt', ect, hw]
      repeat' (first
 | with_reducible refine zan ?_ ?_
 | (unfold OKC; kernel_rfl)
 | (unfold EDG; kernel_rfl)
 | (apply cg_tp
    case hl => rfl
    case ha => (simp only [zae, zaf, prepV, prepC, idx, hpL', lookR, zaa, if_true, if_false]; rfl)
    case hs => rfl
    case h => (first | exact hms .. | exact within_spec .. | exact hh ..))
 | (apply cl_plain
    case hs => rfl
    case ha => (simp only [zae, zaf, prepV, prepC, idx, hpL', lookR, zaa, if_true, if_false]; rfl)
    case h => (first | exact hms .. | exact within_spec .. | exact hh ..))
 | ((first | refine s1_id ?_ | refine swp_id ?_ | refine sops_id ?_ | refine s2_id ?_); simp only [hw, go_sem, zaa, zag, zah, zai, zaj, zad, ↓reduceIte, reduceCtorEq, zab, zac, zak, zal, zam, zaE, zaD, zar, zaB, renO, bk, back, outUpsFrom, Ints_ren])
 | exact fs_nil trivial rfl
 | fail)
    | false =>
      simp only [go_sem, zaa, zag, zah, zai, zaj, zad, ↓reduceIte, reduceCtorEq, zab, zac, zak, zal, zam, decide_eq_false hlt', ect, hw]
      repeat' (first
 | with_reducible refine zan ?_ ?_
 | (unfold OKC; kernel_rfl)
 | (unfold EDG; kernel_rfl)
 | (apply cl_plain
    case hs => rfl
    case ha => (simp only [zae, zaf, prepV, prepC, idx, hpL', lookR, zaa, if_true, if_false]; rfl)
    case h => (first | exact hms .. | exact within_spec ..))
 | ((first | refine s1_id ?_ | refine swp_id ?_ | refine sops_id ?_ | refine s2_id ?_); simp only [hw, go_sem, zaa, zag, zah, zai, zaj, zad, ↓reduceIte, reduceCtorEq, zab, zac, zak, zal, zam, zaE, zaD, zar, zaB, renO, bk, back, outUpsFrom, Ints_ren])
 | exact fs_nil trivial rfl
 | fail)
def ccnt (x : Pl) : Bool := wi x.sp 0 1099511627776 && (wi x.pe 0 1099511627776 && wi x.th 0 (if x.em = true then x.pe else x.pe - 1))
theorem counts_spec (x : Pl) (k : Option Nat) : FnSpec Tryz.prog 97 [plt x k] [] (b1 (ccnt x)) [] := by
  obtain ⟨g, q, b, s, l, c, sp, pe, th, em⟩ := x
  simp only [ccnt]
  cases h1 : wi sp 0 1099511627776 with
  | false =>
    refine fnspec_of mixed TT_ok TT_cl ⟨fun _ => false, fun _ => [], 0, fun _ => false, fun _ => false⟩ Tryz.func97 rfl (by kernel_rfl) rfl 26 rfl [.tmp 2] rfl ?_
    simp only [go_sem, zaa, zag, zah, zai, zaj, zad, ↓reduceIte, reduceCtorEq, zab, zac, zak, zal, zam, plc]
    repeat' (first
 | (apply cl_plain
    case hs => rfl
    case ha => (simp only [zae, zaf, prepV, prepC, idx, hpL', lookR, zaa, if_true, if_false]; rfl)
    case h => (first | exact within_spec ..))
 | ((first | refine s1_id ?_ | refine swp_id ?_ | refine sops_id ?_ | refine s2_id ?_); simp only [h1, plc, go_sem, zaa, zag, zah, zai, zaj, zad, ↓reduceIte, reduceCtorEq, zab, zac, zak, zal, zam, zaE, zaD, zar, zaB, renO, bk, back, outUpsFrom, Ints_ren])
 | exact fs_nil trivial rfl
 | fail)
  | true =>
    cases h2 : wi pe 0 1099511627776 with
    | false =>
      refine fnspec_of mixed TT_ok TT_cl ⟨fun _ => false, fun _ => [], 0, fun _ => false, fun _ => false⟩ Tryz.func97 rfl (by kernel_rfl) rfl 26 rfl [.tmp 2] rfl ?_
      simp only [go_sem, zaa, zag, zah, zai, zaj, zad, ↓reduceIte, reduceCtorEq, zab, zac, zak, zal, zam, plc]
      repeat' (first
 | (apply cg_tp
    case hl => rfl
    case ha => (simp only [zae, zaf, prepV, prepC, idx, hpL', lookR, zaa, if_true, if_false]; rfl)
    case hs => rfl
    case h => (first | exact within_spec ..))
 | (apply cl_plain
    case hs => rfl
    case ha => (simp only [zae, zaf, prepV, prepC, idx, hpL', lookR, zaa, if_true, if_false]; rfl)
    case h => (first | exact within_spec ..))
 | ((first | refine s1_id ?_ | refine swp_id ?_ | refine sops_id ?_ | refine s2_id ?_); simp only [h1, h2, plc, go_sem, zaa, zag, zah, zai, zaj, zad, ↓reduceIte, reduceCtorEq, zab, zac, zak, zal, zam, zaE, zaD, zar, zaB, renO, bk, back, outUpsFrom, Ints_ren])
 | exact fs_nil trivial rfl
 | fail)
    | true =>
      rw [wi_iff] at h2
      have h2' := wi_iff.2 h2
      cases em with
      | true =>
        refine fnspec_of mixed TT_ok TT_cl ⟨fun _ => false, fun _ => [], 0, fun _ => false, fun _ => false⟩ Tryz.func97 rfl (by kernel_rfl) rfl 26 rfl [.tmp 2] rfl ?_
        simp only [go_sem, zaa, zag, zah, zai, zaj, zad, ↓reduceIte, reduceCtorEq, zab, zac, zak, zal, zam, plc]
        repeat' (first
 | (apply cg_tp
    case hl => rfl
    case ha => (simp only [zae, zaf, prepV, prepC, idx, hpL', lookR, zaa, if_true, if_false]; rfl)
    case hs => rfl
    case h => (first | exact within_spec ..))
 | (apply cl_plain
    case hs => rfl
    case ha => (simp only [zae, zaf, prepV, prepC, idx, hpL', lookR, zaa, if_true, if_false]; rfl)
    case h => (first | exact within_spec ..))
 | ((first | refine s1_id ?_ | refine swp_id ?_ | refine sops_id ?_ | refine s2_id ?_); simp only [h1, h2', plc, go_sem, zaa, zag, zah, zai, zaj, zad, ↓reduceIte, reduceCtorEq, zab, zac, zak, zal, zam, zaE, zaD, zar, zaB, renO, bk, back, outUpsFrom, Ints_ren])
 | exact fs_nil trivial rfl
 | fail)
      | false =>
        refine fnspec_of mixed TT_ok TT_cl ⟨fun _ => false, fun _ => [], 0, fun _ => false, fun _ => false⟩ Tryz.func97 rfl (by kernel_rfl) rfl 26 rfl [.tmp 2] rfl ?_
        simp only [go_sem, zaa, zag, zah, zai, zaj, zad, ↓reduceIte, reduceCtorEq, zab, zac, zak, zal, zam, plc]
        repeat' (first
 | with_reducible refine zan ?_ ?_
 | (apply cg_tp
    case hl => rfl
    case ha => (simp only [zae, zaf, prepV, prepC, idx, hpL', lookR, zaa, if_true, if_false]; rfl)
    case hs => rfl
    case h => (first | exact within_spec ..))
 | (apply cl_plain
    case hs => rfl
    case ha => (simp only [zae, zaf, prepV, prepC, idx, hpL', lookR, zaa, if_true, if_false]; rfl)
    case h => (first | exact within_spec ..))
 | ((first | refine s1_id ?_ | refine swp_id ?_ | refine sops_id ?_ | refine s2_id ?_); simp only [h1, h2', plc, go_sem, zaa, zag, zah, zai, zaj, zad, ↓reduceIte, reduceCtorEq, zab, zac, zak, zal, zam, zaE, zaD, zar, zaB, renO, bk, back, outUpsFrom, Ints_ren])
 | (intros; omega)
 | exact fs_nil trivial rfl
 | fail)
def pck (x : Pl) : Bool := wi x.g 1 2147483647 && (stl x.q x.b && (wi x.s 1 1000000 && (wi x.c.length 1 16 && (ctok x && ccnt x))))
theorem check_spec (x : Pl) (k : Option Nat) : FnSpec Tryz.prog 61 [plt x k] [] (b1 (pck x)) [] := by
  have ht := tokens_spec x k
  have hc := counts_spec x k
  have e : pck x = (wi x.g 1 2147483647 && (stl x.q x.b && (wi x.s 1 1000000 && (wi x.c.length 1 16 && (ctok x && ccnt x))))) := rfl
  generalize pck x = r at *
  generalize ctok x = ct at *
  generalize ccnt x = cc at *
  obtain ⟨g, q, b, s, l, c, sp, pe, th, em⟩ := x
  simp only [plc] at ht hc e
  subst e
  cases h1 : wi g 1 2147483647 with
  | false =>
    refine fnspec_of mixed TT_ok TT_cl ⟨fun _ => false, fun _ => [], 0, fun _ => false, fun _ => false⟩ Tryz.func61 rfl (by kernel_rfl) rfl 32 rfl [.tmp 2] rfl ?_
    simp only [go_sem, zaa, zag, zah, zai, zaj, zad, ↓reduceIte, reduceCtorEq, zab, zac, zak, zal, zam, plc]
    repeat' (first
 | (apply cl_plain
    case hs => rfl
    case ha => (simp only [zae, zaf, prepV, prepC, idx, hpL', lookR, zaa, if_true, if_false]; rfl)
    case h => (first | exact within_spec .. | exact settable_spec ..))
 | ((first | refine s1_id ?_ | refine swp_id ?_ | refine sops_id ?_ | refine s2_id ?_); simp only [h1, plc, go_sem, zaa, zag, zah, zai, zaj, zad, ↓reduceIte, reduceCtorEq, zab, zac, zak, zal, zam, zaE, zaD, zar, zaB, renO, bk, back, outUpsFrom, Ints_ren])
 | exact fs_nil trivial rfl
 | fail)
  | true =>
    cases h2 : stl q b with
    | false =>
      refine fnspec_of mixed TT_ok TT_cl ⟨fun _ => false, fun _ => [], 0, fun _ => false, fun _ => false⟩ Tryz.func61 rfl (by kernel_rfl) rfl 32 rfl [.tmp 2] rfl ?_
      simp only [go_sem, zaa, zag, zah, zai, zaj, zad, ↓reduceIte, reduceCtorEq, zab, zac, zak, zal, zam, plc]
      repeat' (first
 | (apply cg_tp
    case hl => rfl
    case ha => (simp only [zae, zaf, prepV, prepC, idx, hpL', lookR, zaa, if_true, if_false]; rfl)
    case hs => rfl
    case h => (first | exact within_spec .. | exact settable_spec ..))
 | (apply cl_plain
    case hs => rfl
    case ha => (simp only [zae, zaf, prepV, prepC, idx, hpL', lookR, zaa, if_true, if_false]; rfl)
    case h => (first | exact within_spec .. | exact settable_spec ..))
 | ((first | refine s1_id ?_ | refine swp_id ?_ | refine sops_id ?_ | refine s2_id ?_); simp only [h1, h2, plc, go_sem, zaa, zag, zah, zai, zaj, zad, ↓reduceIte, reduceCtorEq, zab, zac, zak, zal, zam, zaE, zaD, zar, zaB, renO, bk, back, outUpsFrom, Ints_ren])
 | exact fs_nil trivial rfl
 | fail)
    | true =>
      cases h3 : wi s 1 1000000 with
      | false =>
        refine fnspec_of mixed TT_ok TT_cl ⟨fun _ => false, fun _ => [], 0, fun _ => false, fun _ => false⟩ Tryz.func61 rfl (by kernel_rfl) rfl 32 rfl [.tmp 2] rfl ?_
        simp only [go_sem, zaa, zag, zah, zai, zaj, zad, ↓reduceIte, reduceCtorEq, zab, zac, zak, zal, zam, plc]
        repeat' (first
 | (apply cg_tp
    case hl => rfl
    case ha => (simp only [zae, zaf, prepV, prepC, idx, hpL', lookR, zaa, if_true, if_false]; rfl)
    case hs => rfl
    case h => (first | exact within_spec .. | exact settable_spec ..))
 | (apply cl_plain
    case hs => rfl
    case ha => (simp only [zae, zaf, prepV, prepC, idx, hpL', lookR, zaa, if_true, if_false]; rfl)
    case h => (first | exact within_spec .. | exact settable_spec ..))
 | ((first | refine s1_id ?_ | refine swp_id ?_ | refine sops_id ?_ | refine s2_id ?_); simp only [h1, h2, h3, plc, go_sem, zaa, zag, zah, zai, zaj, zad, ↓reduceIte, reduceCtorEq, zab, zac, zak, zal, zam, zaE, zaD, zar, zaB, renO, bk, back, outUpsFrom, Ints_ren])
 | exact fs_nil trivial rfl
 | fail)
      | true =>
        cases h4 : wi c.length 1 16 with
        | false =>
          refine fnspec_of mixed TT_ok TT_cl ⟨fun _ => false, fun _ => [], 0, fun _ => false, fun _ => false⟩ Tryz.func61 rfl (by kernel_rfl) rfl 32 rfl [.tmp 2] rfl ?_
          simp only [go_sem, zaa, zag, zah, zai, zaj, zad, ↓reduceIte, reduceCtorEq, zab, zac, zak, zal, zam, plc]
          repeat' (first
 | (apply cg_tp
    case hl => rfl
    case ha => (simp only [zae, zaf, prepV, prepC, idx, hpL', lookR, zaa, if_true, if_false]; rfl)
    case hs => rfl
    case h => (first | exact within_spec .. | exact settable_spec ..))
 | (apply cl_plain
    case hs => rfl
    case ha => (simp only [zae, zaf, prepV, prepC, idx, hpL', lookR, zaa, if_true, if_false]; rfl)
    case h => (first | exact within_spec .. | exact settable_spec ..))
 | ((first | refine s1_id ?_ | refine swp_id ?_ | refine sops_id ?_ | refine s2_id ?_); simp only [h1, h2, h3, h4, plc, go_sem, zaa, zag, zah, zai, zaj, zad, ↓reduceIte, reduceCtorEq, zab, zac, zak, zal, zam, zaE, zaD, zar, zaB, renO, bk, back, outUpsFrom, Ints_ren])
 | exact fs_nil trivial rfl
 | fail)
        | true =>
          have h4' := wi_iff.1 h4
          have ht' := ht h2 (by omega)
          cases ct with
          | false =>
            refine fnspec_of mixed TT_ok TT_cl ⟨fun _ => false, fun _ => [], 0, fun _ => false, fun _ => false⟩ Tryz.func61 rfl (by kernel_rfl) rfl 32 rfl [.tmp 2] rfl ?_
            simp only [go_sem, zaa, zag, zah, zai, zaj, zad, ↓reduceIte, reduceCtorEq, zab, zac, zak, zal, zam, plc]
            repeat' (first
 | (apply cg_tp
    case hl => rfl
    case ha => (simp only [zae, zaf, prepV, prepC, idx, hpL', lookR, zaa, if_true, if_false]; rfl)
    case hs => rfl
    case h => (first | exact within_spec .. | exact settable_spec .. | exact ht' .. | exact hc ..))
 | (apply cl_plain
    case hs => rfl
    case ha => (simp only [zae, zaf, prepV, prepC, idx, hpL', lookR, zaa, if_true, if_false]; rfl)
    case h => (first | exact within_spec .. | exact settable_spec .. | exact ht' .. | exact hc ..))
 | ((first | refine s1_id ?_ | refine swp_id ?_ | refine sops_id ?_ | refine s2_id ?_); simp only [h1, h2, h3, h4, plc, go_sem, zaa, zag, zah, zai, zaj, zad, ↓reduceIte, reduceCtorEq, zab, zac, zak, zal, zam, zaE, zaD, zar, zaB, renO, bk, back, outUpsFrom, Ints_ren])
 | exact fs_nil trivial rfl
 | fail)
          | true =>
            refine fnspec_of mixed TT_ok TT_cl ⟨fun _ => false, fun _ => [], 0, fun _ => false, fun _ => false⟩ Tryz.func61 rfl (by kernel_rfl) rfl 32 rfl [.tmp 2] rfl ?_
            simp only [go_sem, zaa, zag, zah, zai, zaj, zad, ↓reduceIte, reduceCtorEq, zab, zac, zak, zal, zam, plc]
            repeat' (first
 | (apply cg_tp
    case hl => rfl
    case ha => (simp only [zae, zaf, prepV, prepC, idx, hpL', lookR, zaa, if_true, if_false]; rfl)
    case hs => rfl
    case h => (first | exact within_spec .. | exact settable_spec .. | exact ht' .. | exact hc ..))
 | (apply cl_plain
    case hs => rfl
    case ha => (simp only [zae, zaf, prepV, prepC, idx, hpL', lookR, zaa, if_true, if_false]; rfl)
    case h => (first | exact within_spec .. | exact settable_spec .. | exact ht' .. | exact hc ..))
 | ((first | refine s1_id ?_ | refine swp_id ?_ | refine sops_id ?_ | refine s2_id ?_); simp only [h1, h2, h3, h4, plc, go_sem, zaa, zag, zah, zai, zaj, zad, ↓reduceIte, reduceCtorEq, zab, zac, zak, zal, zam, zaE, zaD, zar, zaB, renO, bk, back, outUpsFrom, Ints_ren])
 | exact fs_nil trivial rfl
 | fail)
end Go.Proofs.YtcnilpdlcmpbbaaGreat
-- NEWGO
-- PRUNE: cg_ts cg_show cl_use cl_lend
namespace Go.Proofs.YtcnilpdlcmpbbaaGreat
set_option linter.unusedVariables false
set_option linter.unusedSimpArgs false
open Go.Proofs.YtcnilpdlcmpbbaaGreat.Sh
set_option maxRecDepth 20000
theorem pck_iff {x : Pl} : pck x = true ↔ (1 ≤ x.g ∧ x.g ≤ 2147483647) ∧ stl x.q x.b = true ∧ (1 ≤ x.s ∧ x.s ≤ 1000000) ∧ (1 ≤ x.c.length ∧ x.c.length ≤ 16) ∧ (call x = true ∧ (0 ≤ x.l ∧ x.l ≤ mst x) ∧ hld x ≤ mst x) ∧ (0 ≤ x.sp ∧ x.sp ≤ 1099511627776) ∧ (0 ≤ x.pe ∧ x.pe ≤ 1099511627776) ∧ 0 ≤ x.th ∧ x.th ≤ (if x.em = true then x.pe else x.pe - 1) := by
  simp only [pck, ctok, ccnt, zaz, wi_iff, decide_eq_true_eq]
  constructor
  · rintro ⟨h1, h2, h3, h4, ⟨h5, h6, h7⟩, h8, h9, h10⟩
    exact ⟨h1, h2, h3, by omega, ⟨h5, h6, h7⟩, h8, h9, h10⟩
  · rintro ⟨h1, h2, h3, h4, ⟨h5, h6, h7⟩, h8, h9, h10⟩
    exact ⟨h1, h2, h3, by omega, ⟨h5, h6, h7⟩, h8, h9, h10⟩
theorem pck_no {x : Pl} (h : ¬ ((1 ≤ x.g ∧ x.g ≤ 2147483647) ∧ stl x.q x.b = true ∧ (1 ≤ x.s ∧ x.s ≤ 1000000) ∧ (1 ≤ x.c.length ∧ x.c.length ≤ 16) ∧ (call x = true ∧ (0 ≤ x.l ∧ x.l ≤ mst x) ∧ hld x ≤ mst x) ∧ (0 ≤ x.sp ∧ x.sp ≤ 1099511627776) ∧ (0 ≤ x.pe ∧ x.pe ≤ 1099511627776) ∧ 0 ≤ x.th ∧ x.th ≤ (if x.em = true then x.pe else x.pe - 1))) : pck x = false := by
  rw [← Bool.not_eq_true, pck_iff]; exact h
theorem rcheck_spec (x : Pl) (k : Option Nat) (hb : x.b ≤ 4611686018427387904) (hb0 : -9223372036854775808 ≤ x.b) (hp : -1000000 ≤ x.pe ∧ x.pe ≤ 9223372036854775807) (hlen : x.c.length ≤ 9223372036854775807) : FnSpec Tryz.prog 65 [plt x k] [] (b1 (pck x)) [] := by
  have hsml := fun h1 h2 h3 h4 => sml_of (x := x) h1 h2 h3 h4
  have hno := fun h => pck_no (x := x) h
  have hyes := pck_iff (x := x)
  have hcall : call x = x.c.all fun n => wi n 0 (mst x) := rfl
  have hmst : mst x = if lim x = true then x.q + x.b else 0 := rfl
  have hlim : lim x = !decide (x.q = 4611686018427387904) := rfl
  have hrl := rlimited_spec x k
  have hrh := rheld_spec x k
  have hstl := stl_iff (q := x.q) (b := x.b)
  generalize pck x = r at *
  generalize mst x = M at *
  generalize call x = ca at *
  generalize hld x = H at *
  generalize lim x = li at *
  generalize Sml x = sm at *
  obtain ⟨g, q, b, s, l, c, sp, pe, th, em⟩ := x
  simp only [plt, plc] at *
  by_cases hq : q = 4611686018427387904
  · subst hq
    have hl0 : li = false := by rw [hlim]; simp
    subst hl0
    have hM0 : M = 0 := by rw [hmst]; simp
    subst hM0
    refine fnspec_of mixed TT_ok TT_cl ⟨fun _ => false, fun _ => [], 0, fun _ => false, fun _ => false⟩ Tryz.func65 rfl (by kernel_rfl) rfl 93 rfl [.tmp 2] rfl ?_
    simp only [go_sem, zaa, zag, zah, zai, zaj, zad, ↓reduceIte, reduceCtorEq, zab, zac, zak, zal, zam, plc]
    repeat' (first
 | (refine gt_if (fun h => ?_) (fun h => ?_) <;> (try simp only [h]))
 | (apply cg_any
    case hl => rfl
    case ha => (intro hb; simp only [zae, zaf, cnd, hb, if_true, prepV, prepC, idx, hpL', lookR, zaa, if_false]; rfl)
    case hs => (intro hb; simp only [cnd, hb, if_true]; rfl)
    case h => (first | exact hrl .. | exact rin_spec ..))
 | (apply cl_plain
    case hs => rfl
    case ha => (simp only [zae, zaf, prepV, prepC, idx, hpL', lookR, zaa, if_true, if_false]; rfl)
    case h => (first | exact hrl .. | exact rin_spec ..))
 | ((first | refine s1_id ?_ | refine swp_id ?_ | refine sops_id ?_ | refine s2_id ?_); simp only [plc, go_sem, zaa, zag, zah, zai, zaj, zad, ↓reduceIte, reduceCtorEq, zab, zac, zak, zal, zam, zaE, zaD, zar, zaB, renO, bk, back, outUpsFrom, Ints_ren])
 | (apply fs_nil <;> (try simp only [go_sem, resV, resS, zaE, zaD, zar, zaJ, zaG, idx, renO, zaB, evS, slot, lookR, zaa, ↓reduceIte, reduceCtorEq, if_true, if_false, zay, zaA, zae, zaf, sLoad, readAt, readNeed, Ints_ren, Ints_length, Ints_getD, and_true, true_and, zas, zat]) <;> (try rfl))
 | fail)
    · have : r = false := hno fun hc => by
        have hs := hstl.1 hc.2.1
        have h1 := hc.2.2.2.2.1.2.1
        simp only [zaC, zau, wi_no] at h
        omega
      rw [this]
    · simp only [zaq, zaw, wi_iff] at h
      have hst : stl 4611686018427387904 b = true := hstl.2 (by omega)
      have hl' : wi l 0 (0) = true := wi_iff.2 (by omega)
      refine w_loop (ι := Nat) (fun i => ⟨[(1, .one (.optr 0 0)), (3, i1 (0)), (5, i1 i)], [(0, some ⟨[int g, int 4611686018427387904, int b, int s, int l, .gsl (Ints c) 0 c.length k, int sp, int pe, int th, bool em], 10⟩)], 1⟩) (fun i => i ≤ c.length ∧ (c.take i).all (fun n => wi n 0 (0)) = true) (fun i => c.length - i) 0 ?_ ⟨zaR _, rfl⟩ ?_
      · (refine imp_ren _ _ _ [(0, 0, ⟨[int g, int 4611686018427387904, int b, int s, int l, .gsl (Ints c) 0 c.length k, int sp, int pe, int th, bool em], 10⟩)] (by simp) (by simp) (by simp) (zav rfl) ?_ rfl (by simp only [zao, zap, false_implies, implies_true, and_true, zaG, lookR, zaa, if_true, if_false, ↓reduceIte] <;> (repeat' apply zan) <;> (first | rfl | trivial)) (by simp only [zao, zap, false_implies, implies_true, and_true, true_and, flat_cons, flat_nil, flat_ints, flat_bools, flat_app, zaH, and_self, eq_self_iff_true, zaF]); simp only [zae, zaf, zao, zap, false_implies, implies_true, and_true, lk, slot, zaE, zar, toN, zaa, if_true, if_false, ↓reduceIte, reduceCtorEq])
        all_goals ((repeat' apply zan) <;> (first | rfl | trivial))
      intro i hi
      rcases Nat.lt_or_ge i c.length with hlt | hge
      · have hlt' : (i : Int) < c.length := by omega
        cases hw : wi (c.getD i 0) 0 (0) with
        | true =>
          simp only [go_sem, zaa, zag, zah, zai, zaj, zad, ↓reduceIte, reduceCtorEq, zab, zac, zak, zal, zam, decide_eq_true hlt']
          repeat' (first
 | with_reducible refine zan ?_ ?_
 | (apply cl_plain
    case hs => rfl
    case ha => (simp only [zae, zaf, prepV, prepC, idx, hpL', lookR, zaa, if_true, if_false]; rfl)
    case h => (first | exact rin_spec ..))
 | ((first | refine s1_id ?_ | refine swp_id ?_ | refine sops_id ?_ | refine s2_id ?_); simp only [hw, go_sem, zaa, zag, zah, zai, zaj, zad, ↓reduceIte, reduceCtorEq, zab, zac, zak, zal, zam, zaE, zaD, zar, zaB, renO, bk, back, outUpsFrom, Ints_ren])
 | (intros; omega)
 | fail)
          refine le_mk (i + 1) ?_ ⟨by omega, all_take hi.2 hlt hw⟩ (by omega)
          (refine imp_ren _ _ _ [(0, 0, ⟨[int g, int 4611686018427387904, int b, int s, int l, .gsl (Ints c) 0 c.length k, int sp, int pe, int th, bool em], 10⟩)] (by simp) (by simp) (by simp) (zav rfl) ?_ rfl (by simp only [zao, zap, false_implies, implies_true, and_true, zaG, lookR, zaa, if_true, if_false, ↓reduceIte] <;> (repeat' apply zan) <;> (first | rfl | trivial)) (by simp only [zao, zap, false_implies, implies_true, and_true, true_and, flat_cons, flat_nil, flat_ints, flat_bools, flat_app, zaH, and_self, eq_self_iff_true, zaF]); simp only [zae, zaf, zao, zap, false_implies, implies_true, and_true, lk, slot, zaE, zar, toN, zaa, if_true, if_false, ↓reduceIte, reduceCtorEq])
          all_goals ((repeat' apply zan) <;> (first | rfl | trivial))
        | false =>
          have : r = false := hno fun hc => by
            have h1 := hc.2.2.2.2.1.1
            rw [hcall, all_no hlt hw] at h1; cases h1
          simp only [go_sem, zaa, zag, zah, zai, zaj, zad, ↓reduceIte, reduceCtorEq, zab, zac, zak, zal, zam, decide_eq_true hlt']
          repeat' (first
 | with_reducible refine zan ?_ ?_
 | (apply cl_plain
    case hs => rfl
    case ha => (simp only [zae, zaf, prepV, prepC, idx, hpL', lookR, zaa, if_true, if_false]; rfl)
    case h => (first | exact rin_spec ..))
 | ((first | refine s1_id ?_ | refine swp_id ?_ | refine sops_id ?_ | refine s2_id ?_); simp only [hw, go_sem, zaa, zag, zah, zai, zaj, zad, ↓reduceIte, reduceCtorEq, zab, zac, zak, zal, zam, zaE, zaD, zar, zaB, renO, bk, back, outUpsFrom, Ints_ren])
 | (intros; omega)
 | (apply fs_nil <;> (try simp only [go_sem, resV, resS, zaE, zaD, zar, zaJ, zaG, idx, renO, zaB, evS, slot, lookR, zaa, ↓reduceIte, reduceCtorEq, if_true, if_false, zay, zaA, zae, zaf, sLoad, readAt, readNeed, Ints_ren, Ints_length, Ints_getD, and_true, true_and, zas, zat]) <;> (try rfl))
 | fail)
          rw [this]
      · have hlt' : ¬ (i : Int) < c.length := by omega
        have hall : ca = true := by
          rw [hcall]; have := hi.2; rwa [zaQ hge] at this
        have hh := hrh (hsml hst (by omega) hall hl')
        have er : r = (decide (H ≤ 0) && (wi sp 0 1099511627776 && (wi pe 0 1099511627776 && wi th 0 (if em = true then pe else pe - 1)))) := by
          rw [Bool.eq_iff_iff, hyes]
          simp only [zaz, decide_eq_true_eq, wi_iff]
          constructor
          · intro hc; exact ⟨hc.2.2.2.2.1.2.2, hc.2.2.2.2.2⟩
          · intro hc; exact ⟨by omega, hst, by omega, by omega, ⟨hall, by omega, hc.1⟩, hc.2⟩
        subst er
        cases em with
        | true =>
          simp only [go_sem, zaa, zag, zah, zai, zaj, zad, ↓reduceIte, reduceCtorEq, zab, zac, zak, zal, zam, decide_eq_false hlt']
          repeat' (first
 | (apply cg_any
    case hl => rfl
    case ha => (intro hb; simp only [zae, zaf, cnd, hb, if_true, prepV, prepC, idx, hpL', lookR, zaa, if_false]; rfl)
    case hs => (intro hb; simp only [cnd, hb, if_true]; rfl)
    case h => (first | exact rin_spec .. | exact hh ..))
 | (apply cl_plain
    case hs => rfl
    case ha => (simp only [zae, zaf, prepV, prepC, idx, hpL', lookR, zaa, if_true, if_false]; rfl)
    case h => (first | exact rin_spec .. | exact hh ..))
 | ((first | refine s1_id ?_ | refine swp_id ?_ | refine sops_id ?_ | refine s2_id ?_); simp only [go_sem, zaa, zag, zah, zai, zaj, zad, ↓reduceIte, reduceCtorEq, zab, zac, zak, zal, zam, zaE, zaD, zar, zaB, renO, bk, back, outUpsFrom, Ints_ren])
 | (apply fs_nil <;> (try simp only [go_sem, resV, resS, zaE, zaD, zar, zaJ, zaG, idx, renO, zaB, evS, slot, lookR, zaa, ↓reduceIte, reduceCtorEq, if_true, if_false, zay, zaA, zae, zaf, sLoad, readAt, readNeed, Ints_ren, Ints_length, Ints_getD, and_true, true_and, zas, zat]) <;> (try rfl))
 | fail)
          all_goals try simp only [Bool.and_assoc]
        | false =>
          simp only [go_sem, zaa, zag, zah, zai, zaj, zad, ↓reduceIte, reduceCtorEq, zab, zac, zak, zal, zam, decide_eq_false hlt']
          repeat' (first
 | with_reducible refine zan ?_ ?_
 | (apply cg_any
    case hl => rfl
    case ha => (intro hb; simp only [zae, zaf, cnd, hb, if_true, prepV, prepC, idx, hpL', lookR, zaa, if_false]; rfl)
    case hs => (intro hb; simp only [cnd, hb, if_true]; rfl)
    case h => (first | exact rin_spec .. | exact hh ..))
 | (apply cl_plain
    case hs => rfl
    case ha => (simp only [zae, zaf, prepV, prepC, idx, hpL', lookR, zaa, if_true, if_false]; rfl)
    case h => (first | exact rin_spec .. | exact hh ..))
 | ((first | refine s1_id ?_ | refine swp_id ?_ | refine sops_id ?_ | refine s2_id ?_); simp only [go_sem, zaa, zag, zah, zai, zaj, zad, ↓reduceIte, reduceCtorEq, zab, zac, zak, zal, zam, zaE, zaD, zar, zaB, renO, bk, back, outUpsFrom, Ints_ren])
 | (intros; omega)
 | (apply fs_nil <;> (try simp only [go_sem, resV, resS, zaE, zaD, zar, zaJ, zaG, idx, renO, zaB, evS, slot, lookR, zaa, ↓reduceIte, reduceCtorEq, if_true, if_false, zay, zaA, zae, zaf, sLoad, readAt, readNeed, Ints_ren, Ints_length, Ints_getD, and_true, true_and, zas, zat]) <;> (try rfl))
 | fail)
          all_goals try simp only [Bool.and_assoc]
  · have hl0 : li = true := by rw [hlim]; simp [hq]
    subst hl0
    have hM0 : M = q + b := by rw [hmst]; simp
    subst hM0
    cases h0 : wi q 1 1000000 with
    | false =>
      have : r = false := hno fun hc => by
        have := hstl.1 hc.2.1
        rw [wi_no] at h0; omega
      subst this
      refine fnspec_of mixed TT_ok TT_cl ⟨fun _ => false, fun _ => [], 0, fun _ => false, fun _ => false⟩ Tryz.func65 rfl (by kernel_rfl) rfl 93 rfl [.tmp 2] rfl ?_
      simp only [go_sem, zaa, zag, zah, zai, zaj, zad, ↓reduceIte, reduceCtorEq, zab, zac, zak, zal, zam, plc]
      repeat' (first
 | (apply cl_plain
    case hs => rfl
    case ha => (simp only [zae, zaf, prepV, prepC, idx, hpL', lookR, zaa, if_true, if_false]; rfl)
    case h => (first | exact hrl .. | exact rin_spec ..))
 | ((first | refine s1_id ?_ | refine swp_id ?_ | refine sops_id ?_ | refine s2_id ?_); simp only [plc, h0, go_sem, zaa, zag, zah, zai, zaj, zad, ↓reduceIte, reduceCtorEq, zab, zac, zak, zal, zam, zaE, zaD, zar, zaB, renO, bk, back, outUpsFrom, Ints_ren])
 | exact fs_nil trivial rfl
 | fail)
    | true =>
      rw [wi_iff] at h0
      have h0' := wi_iff.2 h0
      refine fnspec_of mixed TT_ok TT_cl ⟨fun _ => false, fun _ => [], 0, fun _ => false, fun _ => false⟩ Tryz.func65 rfl (by kernel_rfl) rfl 93 rfl [.tmp 2] rfl ?_
      simp only [go_sem, zaa, zag, zah, zai, zaj, zad, ↓reduceIte, reduceCtorEq, zab, zac, zak, zal, zam, plc]
      repeat' (first
 | with_reducible refine zan ?_ ?_
 | (refine gt_if (fun h => ?_) (fun h => ?_) <;> (try simp only [h]))
 | (apply cg_any
    case hl => rfl
    case ha => (intro hb; simp only [zae, zaf, cnd, hb, if_true, prepV, prepC, idx, hpL', lookR, zaa, if_false]; rfl)
    case hs => (intro hb; simp only [cnd, hb, if_true]; rfl)
    case h => (first | exact hrl .. | exact rin_spec ..))
 | (apply cl_plain
    case hs => rfl
    case ha => (simp only [zae, zaf, prepV, prepC, idx, hpL', lookR, zaa, if_true, if_false]; rfl)
    case h => (first | exact hrl .. | exact rin_spec ..))
 | ((first | refine s1_id ?_ | refine swp_id ?_ | refine sops_id ?_ | refine s2_id ?_); simp only [plc, h0', go_sem, zaa, zag, zah, zai, zaj, zad, ↓reduceIte, reduceCtorEq, zab, zac, zak, zal, zam, zaE, zaD, zar, zaB, renO, bk, back, outUpsFrom, Ints_ren])
 | (intros; omega)
 | (apply fs_nil <;> (try simp only [go_sem, resV, resS, zaE, zaD, zar, zaJ, zaG, idx, renO, zaB, evS, slot, lookR, zaa, ↓reduceIte, reduceCtorEq, if_true, if_false, zay, zaA, zae, zaf, sLoad, readAt, readNeed, Ints_ren, Ints_length, Ints_getD, and_true, true_and, zas, zat]) <;> (try rfl))
 | fail)
      · have : r = false := hno fun hc => by
          have hs := hstl.1 hc.2.1
          have h1 := hc.2.2.2.2.1.2.1
          simp only [zaC, zau, wi_no] at h
          omega
        rw [this]
      · simp only [zaq, zaw, wi_iff] at h
        have hst : stl q b = true := hstl.2 (by omega)
        have hl' : wi l 0 (q + b) = true := wi_iff.2 (by omega)
        refine w_loop (ι := Nat) (fun i => ⟨[(1, .one (.optr 0 0)), (3, i1 (q + b)), (5, i1 i)], [(0, some ⟨[int g, int q, int b, int s, int l, .gsl (Ints c) 0 c.length k, int sp, int pe, int th, bool em], 10⟩)], 1⟩) (fun i => i ≤ c.length ∧ (c.take i).all (fun n => wi n 0 (q + b)) = true) (fun i => c.length - i) 0 ?_ ⟨zaR _, rfl⟩ ?_
        · (refine imp_ren _ _ _ [(0, 0, ⟨[int g, int q, int b, int s, int l, .gsl (Ints c) 0 c.length k, int sp, int pe, int th, bool em], 10⟩)] (by simp) (by simp) (by simp) (zav rfl) ?_ rfl (by simp only [zao, zap, false_implies, implies_true, and_true, zaG, lookR, zaa, if_true, if_false, ↓reduceIte] <;> (repeat' apply zan) <;> (first | rfl | trivial)) (by simp only [zao, zap, false_implies, implies_true, and_true, true_and, flat_cons, flat_nil, flat_ints, flat_bools, flat_app, zaH, and_self, eq_self_iff_true, zaF]); simp only [zae, zaf, zao, zap, false_implies, implies_true, and_true, lk, slot, zaE, zar, toN, zaa, if_true, if_false, ↓reduceIte, reduceCtorEq])
          all_goals ((repeat' apply zan) <;> (first | rfl | trivial))
        intro i hi
        rcases Nat.lt_or_ge i c.length with hlt | hge
        · have hlt' : (i : Int) < c.length := by omega
          cases hw : wi (c.getD i 0) 0 (q + b) with
          | true =>
            simp only [go_sem, zaa, zag, zah, zai, zaj, zad, ↓reduceIte, reduceCtorEq, zab, zac, zak, zal, zam, decide_eq_true hlt']
            repeat' (first
 | with_reducible refine zan ?_ ?_
 | (apply cl_plain
    case hs => rfl
    case ha => (simp only [zae, zaf, prepV, prepC, idx, hpL', lookR, zaa, if_true, if_false]; rfl)
    case h => (first | exact rin_spec ..))
 | ((first | refine s1_id ?_ | refine swp_id ?_ | refine sops_id ?_ | refine s2_id ?_); simp only [hw, go_sem, zaa, zag, zah, zai, zaj, zad, ↓reduceIte, reduceCtorEq, zab, zac, zak, zal, zam, zaE, zaD, zar, zaB, renO, bk, back, outUpsFrom, Ints_ren])
 | (intros; omega)
 | fail)
            refine le_mk (i + 1) ?_ ⟨by omega, all_take hi.2 hlt hw⟩ (by omega)
            (refine imp_ren _ _ _ [(0, 0, ⟨[int g, int q, int b, int s, int l, .gsl (Ints c) 0 c.length k, int sp, int pe, int th, bool em], 10⟩)] (by simp) (by simp) (by simp) (zav rfl) ?_ rfl (by simp only [zao, zap, false_implies, implies_true, and_true, zaG, lookR, zaa, if_true, if_false, ↓reduceIte] <;> (repeat' apply zan) <;> (first | rfl | trivial)) (by simp only [zao, zap, false_implies, implies_true, and_true, true_and, flat_cons, flat_nil, flat_ints, flat_bools, flat_app, zaH, and_self, eq_self_iff_true, zaF]); simp only [zae, zaf, zao, zap, false_implies, implies_true, and_true, lk, slot, zaE, zar, toN, zaa, if_true, if_false, ↓reduceIte, reduceCtorEq])
            all_goals ((repeat' apply zan) <;> (first | rfl | trivial))
          | false =>
            have : r = false := hno fun hc => by
              have h1 := hc.2.2.2.2.1.1
              rw [hcall, all_no hlt hw] at h1; cases h1
            simp only [go_sem, zaa, zag, zah, zai, zaj, zad, ↓reduceIte, reduceCtorEq, zab, zac, zak, zal, zam, decide_eq_true hlt']
            repeat' (first
 | with_reducible refine zan ?_ ?_
 | (apply cl_plain
    case hs => rfl
    case ha => (simp only [zae, zaf, prepV, prepC, idx, hpL', lookR, zaa, if_true, if_false]; rfl)
    case h => (first | exact rin_spec ..))
 | ((first | refine s1_id ?_ | refine swp_id ?_ | refine sops_id ?_ | refine s2_id ?_); simp only [hw, go_sem, zaa, zag, zah, zai, zaj, zad, ↓reduceIte, reduceCtorEq, zab, zac, zak, zal, zam, zaE, zaD, zar, zaB, renO, bk, back, outUpsFrom, Ints_ren])
 | (intros; omega)
 | (apply fs_nil <;> (try simp only [go_sem, resV, resS, zaE, zaD, zar, zaJ, zaG, idx, renO, zaB, evS, slot, lookR, zaa, ↓reduceIte, reduceCtorEq, if_true, if_false, zay, zaA, zae, zaf, sLoad, readAt, readNeed, Ints_ren, Ints_length, Ints_getD, and_true, true_and, zas, zat]) <;> (try rfl))
 | fail)
            rw [this]
        · have hlt' : ¬ (i : Int) < c.length := by omega
          have hall : ca = true := by
            rw [hcall]; have := hi.2; rwa [zaQ hge] at this
          have hh := hrh (hsml hst (by omega) hall hl')
          have er : r = (decide (H ≤ q + b) && (wi sp 0 1099511627776 && (wi pe 0 1099511627776 && wi th 0 (if em = true then pe else pe - 1)))) := by
            rw [Bool.eq_iff_iff, hyes]
            simp only [zaz, decide_eq_true_eq, wi_iff]
            constructor
            · intro hc; exact ⟨hc.2.2.2.2.1.2.2, hc.2.2.2.2.2⟩
            · intro hc; exact ⟨by omega, hst, by omega, by omega, ⟨hall, by omega, hc.1⟩, hc.2⟩
          subst er
          cases em with
          | true =>
            simp only [go_sem, zaa, zag, zah, zai, zaj, zad, ↓reduceIte, reduceCtorEq, zab, zac, zak, zal, zam, decide_eq_false hlt']
            repeat' (first
 | (apply cg_any
    case hl => rfl
    case ha => (intro hb; simp only [zae, zaf, cnd, hb, if_true, prepV, prepC, idx, hpL', lookR, zaa, if_false]; rfl)
    case hs => (intro hb; simp only [cnd, hb, if_true]; rfl)
    case h => (first | exact rin_spec .. | exact hh ..))
 | (apply cl_plain
    case hs => rfl
    case ha => (simp only [zae, zaf, prepV, prepC, idx, hpL', lookR, zaa, if_true, if_false]; rfl)
    case h => (first | exact rin_spec .. | exact hh ..))
 | ((first | refine s1_id ?_ | refine swp_id ?_ | refine sops_id ?_ | refine s2_id ?_); simp only [go_sem, zaa, zag, zah, zai, zaj, zad, ↓reduceIte, reduceCtorEq, zab, zac, zak, zal, zam, zaE, zaD, zar, zaB, renO, bk, back, outUpsFrom, Ints_ren])
 | (apply fs_nil <;> (try simp only [go_sem, resV, resS, zaE, zaD, zar, zaJ, zaG, idx, renO, zaB, evS, slot, lookR, zaa, ↓reduceIte, reduceCtorEq, if_true, if_false, zay, zaA, zae, zaf, sLoad, readAt, readNeed, Ints_ren, Ints_length, Ints_getD, and_true, true_and, zas, zat]) <;> (try rfl))
 | fail)
            all_goals try simp only [Bool.and_assoc]
          | false =>
            simp only [go_sem, zaa, zag, zah, zai, zaj, zad, ↓reduceIte, reduceCtorEq, zab, zac, zak, zal, zam, decide_eq_false hlt']
            repeat' (first
 | with_reducible refine zan ?_ ?_
 | (apply cg_any
    case hl => rfl
    case ha => (intro hb; simp only [zae, zaf, cnd, hb, if_true, prepV, prepC, idx, hpL', lookR, zaa, if_false]; rfl)
    case hs => (intro hb; simp only [cnd, hb, if_true]; rfl)
    case h => (first | exact rin_spec .. | exact hh ..))
 | (apply cl_plain
    case hs => rfl
    case ha => (simp only [zae, zaf, prepV, prepC, idx, hpL', lookR, zaa, if_true, if_false]; rfl)
    case h => (first | exact rin_spec .. | exact hh ..))
 | ((first | refine s1_id ?_ | refine swp_id ?_ | refine sops_id ?_ | refine s2_id ?_); simp only [go_sem, zaa, zag, zah, zai, zaj, zad, ↓reduceIte, reduceCtorEq, zab, zac, zak, zal, zam, zaE, zaD, zar, zaB, renO, bk, back, outUpsFrom, Ints_ren])
 | (intros; omega)
 | (apply fs_nil <;> (try simp only [go_sem, resV, resS, zaE, zaD, zar, zaJ, zaG, idx, renO, zaB, evS, slot, lookR, zaa, ↓reduceIte, reduceCtorEq, if_true, if_false, zay, zaA, zae, zaf, sLoad, readAt, readNeed, Ints_ren, Ints_length, Ints_getD, and_true, true_and, zas, zat]) <;> (try rfl))
 | fail)
            all_goals try simp only [Bool.and_assoc]
theorem tw_ts : TW.ts = TT.ts := rfl
theorem rcheck_big (x : Pl) (k : Option Nat) (hb : 4611686018427387904 < x.b) : FnSpec Tryz.prog 65 [plt x k] [] (b1 (pck x)) [] := by
  have hno := fun h => pck_no (x := x) h
  have hstl := stl_iff (q := x.q) (b := x.b)
  have hr : pck x = false := hno fun hc => by
    have := hstl.1 hc.2.1
    omega
  have hrl := rlimited_spec x k
  have hlim : lim x = !decide (x.q = 4611686018427387904) := rfl
  rw [hr]
  generalize lim x = li at *
  clear hno hstl hr
  obtain ⟨g, q, b, s, l, c, sp, pe, th, em⟩ := x
  simp only [plt, plc] at *
  by_cases hq : q = 4611686018427387904
  · subst hq
    have hl0 : li = false := by rw [hlim]; simp
    subst hl0
    have hb0 : wi b 0 0 = false := by rw [wi_no]; omega
    refine fnspec_of mixed TW_ok TW_cl ⟨fun _ => false, fun _ => [], 0, fun _ => false, fun _ => false⟩ Tryz.func65 rfl (by kernel_rfl) rfl 93 rfl [.tmp 2] rfl ?_
    simp only [wr_l, tw_ts, go_sem, zaa, zag, zah, zai, zaj, zad, ↓reduceIte, reduceCtorEq, zab, zac, zak, zal, zam, plc]
    repeat' (first
 | (apply cg_any
    case hl => rfl
    case ha => (intro hb; simp only [zae, zaf, cnd, hb, if_true, prepV, prepC, idx, hpL', lookR, zaa, if_false]; rfl)
    case hs => (intro hb; simp only [cnd, hb, if_true]; rfl)
    case h => (first | exact hrl .. | exact rin_spec ..))
 | (apply cl_plain
    case hs => rfl
    case ha => (simp only [zae, zaf, prepV, prepC, idx, hpL', lookR, zaa, if_true, if_false]; rfl)
    case h => (first | exact hrl .. | exact rin_spec ..))
 | ((first | refine s1_id ?_ | refine swp_id ?_ | refine sops_id ?_ | refine s2_id ?_); simp only [wr_l, tw_ts, hb0, plc, Bool.or_true, Bool.true_or, go_sem, zaa, zag, zah, zai, zaj, zad, ↓reduceIte, reduceCtorEq, zab, zac, zak, zal, zam, zaE, zaD, zar, zaB, renO, bk, back, outUpsFrom, Ints_ren])
 | exact fs_nil trivial rfl
 | fail)
  · have hl0 : li = true := by rw [hlim]; simp [hq]
    subst hl0
    cases h0 : wi q 1 1000000 with
    | false =>
      refine fnspec_of mixed TW_ok TW_cl ⟨fun _ => false, fun _ => [], 0, fun _ => false, fun _ => false⟩ Tryz.func65 rfl (by kernel_rfl) rfl 93 rfl [.tmp 2] rfl ?_
      simp only [wr_l, tw_ts, go_sem, zaa, zag, zah, zai, zaj, zad, ↓reduceIte, reduceCtorEq, zab, zac, zak, zal, zam, plc]
      repeat' (first
 | (apply cl_plain
    case hs => rfl
    case ha => (simp only [zae, zaf, prepV, prepC, idx, hpL', lookR, zaa, if_true, if_false]; rfl)
    case h => (first | exact hrl .. | exact rin_spec ..))
 | ((first | refine s1_id ?_ | refine swp_id ?_ | refine sops_id ?_ | refine s2_id ?_); simp only [wr_l, tw_ts, plc, h0, go_sem, zaa, zag, zah, zai, zaj, zad, ↓reduceIte, reduceCtorEq, zab, zac, zak, zal, zam, zaE, zaD, zar, zaB, renO, bk, back, outUpsFrom, Ints_ren])
 | exact fs_nil trivial rfl
 | fail)
    | true =>
      rw [wi_iff] at h0
      have h0' := wi_iff.2 h0
      have hb0 : wi b 0 q = false := by rw [wi_no]; omega
      refine fnspec_of mixed TW_ok TW_cl ⟨fun _ => false, fun _ => [], 0, fun _ => false, fun _ => false⟩ Tryz.func65 rfl (by kernel_rfl) rfl 93 rfl [.tmp 2] rfl ?_
      simp only [wr_l, tw_ts, go_sem, zaa, zag, zah, zai, zaj, zad, ↓reduceIte, reduceCtorEq, zab, zac, zak, zal, zam, plc]
      repeat' (first
 | (apply cg_any
    case hl => rfl
    case ha => (intro hb; simp only [zae, zaf, cnd, hb, if_true, prepV, prepC, idx, hpL', lookR, zaa, if_false]; rfl)
    case hs => (intro hb; simp only [cnd, hb, if_true]; rfl)
    case h => (first | exact hrl .. | exact rin_spec ..))
 | (apply cl_plain
    case hs => rfl
    case ha => (simp only [zae, zaf, prepV, prepC, idx, hpL', lookR, zaa, if_true, if_false]; rfl)
    case h => (first | exact hrl .. | exact rin_spec ..))
 | ((first | refine s1_id ?_ | refine swp_id ?_ | refine sops_id ?_ | refine s2_id ?_); simp only [wr_l, tw_ts, plc, h0', hb0, Bool.or_true, Bool.true_or, go_sem, zaa, zag, zah, zai, zaj, zad, ↓reduceIte, reduceCtorEq, zab, zac, zak, zal, zam, zaE, zaD, zar, zaB, renO, bk, back, outUpsFrom, Ints_ren])
 | exact fs_nil trivial rfl
 | fail)
end Go.Proofs.YtcnilpdlcmpbbaaGreat
-- NEWGO
-- PRUNE: cg_ts cg_show cl_use
namespace Go.Proofs.YtcnilpdlcmpbbaaGreat
set_option linter.unusedVariables false
set_option linter.unusedSimpArgs false
open Go.Proofs.YtcnilpdlcmpbbaaGreat.Sh
set_option maxRecDepth 20000
theorem clone_spec (c : List Int) (k : Option Nat) (h0 : 0 < c.length) (h1 : c.length ≤ 1000) : FnSpec Tryz.prog 102 [gi c k] [] (.one (.osl 0 0 c.length none)) [some ⟨Ints c, 1⟩] := by
  refine fnspec_of mixed TT_ok TT_cl ⟨fun _ => false, fun _ => [], 0, fun _ => false, fun _ => false⟩ Tryz.func102 rfl (by kernel_rfl) rfl 8 rfl [.tmp 2] rfl ?_
  simp only [go_sem, zaa, zag, zah, zai, zaj, zad, ↓reduceIte, reduceCtorEq, zab, zac, zak, zal, zam]
  repeat' (first
 | with_reducible refine zan ?_ ?_
 | (intros; omega)
 | fail)
  (refine fs_flat [(5, ⟨Ints c, 1⟩)] (by simp) (by simp only [zae, zaf]; decide) (by simp only [go_sem, resV, resS, zaE, zaD, zar, zaJ, zaG, idx, renO, zaB, evS, slot, lookR, zaa, ↓reduceIte, reduceCtorEq, if_true, if_false, zay, zaA, zae, zaf, sLoad, readAt, readNeed, Ints_ren, Ints_length, Ints_getD, and_true, true_and, zas, zat]; try decide) ?_ (by simp only [zao, zap, false_implies, implies_true, and_true, zaG, lookR, zaa, if_true, if_false, ↓reduceIte] <;> (repeat' apply zan) <;> (first | rfl | trivial)) (by simp only [zao, zap, false_implies, implies_true, and_true, true_and, flat_cons, flat_nil, flat_ints, flat_bools, flat_app, zaH, and_self, eq_self_iff_true, zaF]) ?_ <;> (try simp only [go_sem, resV, resS, zaE, zaD, zar, zaJ, zaG, idx, renO, zaB, evS, slot, lookR, zaa, ↓reduceIte, reduceCtorEq, if_true, if_false, zay, zaA, zae, zaf, sLoad, readAt, readNeed, Ints_ren, Ints_length, Ints_getD, and_true, true_and, zas, zat]) <;> (try rfl))
theorem rcopy_spec (x : Pl) (k : Option Nat) (h1 : x.c.length ≤ 1000) : FnSpec Tryz.prog 67 [plt x k] [] (.agg (plo x 0 x.c.length none)) [some ⟨Ints x.c, 1⟩] := by
  obtain ⟨g, q, b, s, l, c, sp, pe, th, em⟩ := x
  simp only at h1
  refine fnspec_of mixed TT_ok TT_cl ⟨fun _ => false, fun _ => [], 0, fun _ => false, fun _ => false⟩ Tryz.func67 rfl (by kernel_rfl) rfl 8 rfl [.cell 2 43] rfl ?_
  simp only [go_sem, zaa, zag, zah, zai, zaj, zad, ↓reduceIte, reduceCtorEq, zab, zac, zak, zal, zam, plc]
  repeat' (first
 | with_reducible refine zan ?_ ?_
 | (intros; omega)
 | fail)
  (refine fs_flat [(4, ⟨Ints c, 1⟩)] (by simp) (by simp only [zae, zaf]; decide) (by simp only [go_sem, resV, resS, zaE, zaD, zar, zaJ, zaG, idx, renO, zaB, evS, slot, lookR, zaa, ↓reduceIte, reduceCtorEq, if_true, if_false, zay, zaA, zae, zaf, sLoad, readAt, readNeed, Ints_ren, Ints_length, Ints_getD, and_true, true_and, zas, zat]; try decide) ?_ (by simp only [zao, zap, false_implies, implies_true, and_true, zaG, lookR, zaa, if_true, if_false, ↓reduceIte] <;> (repeat' apply zan) <;> (first | rfl | trivial)) (by simp only [zao, zap, false_implies, implies_true, and_true, true_and, flat_cons, flat_nil, flat_ints, flat_bools, flat_app, zaH, and_self, eq_self_iff_true, zaF]) ?_ <;> (try simp only [go_sem, resV, resS, zaE, zaD, zar, zaJ, zaG, idx, renO, zaB, evS, slot, lookR, zaa, ↓reduceIte, reduceCtorEq, if_true, if_false, zay, zaA, zae, zaf, sLoad, readAt, readNeed, Ints_ren, Ints_length, Ints_getD, and_true, true_and, zas, zat]) <;> (try rfl))
theorem copy_spec (x : Pl) (k : Option Nat) (h0 : 0 < x.c.length) (h1 : x.c.length ≤ 1000) : FnSpec Tryz.prog 77 [plt x k] [] (.agg (plo x 0 x.c.length none)) [some ⟨Ints x.c, 1⟩] := by
  obtain ⟨g, q, b, s, l, c, sp, pe, th, em⟩ := x
  simp only at h0 h1
  refine fnspec_of mixed TT_ok TT_cl ⟨fun _ => false, fun _ => [], 0, fun _ => false, fun _ => false⟩ Tryz.func77 rfl (by kernel_rfl) rfl 8 rfl [.cell 2 43] rfl ?_
  simp only [go_sem, zaa, zag, zah, zai, zaj, zad, ↓reduceIte, reduceCtorEq, zab, zac, zak, zal, zam, plc]
  repeat' (first
 | (apply cl_plain
    case hs => rfl
    case ha => (simp only [zae, zaf, prepV, prepC, idx, hpL', lookR, zaa, if_true, if_false]; rfl)
    case h => (first | exact clone_spec _ _ h0 h1))
 | ((first | refine s1_id ?_ | refine swp_id ?_ | refine sops_id ?_ | refine s2_id ?_); simp only [plc, go_sem, zaa, zag, zah, zai, zaj, zad, ↓reduceIte, reduceCtorEq, zab, zac, zak, zal, zam, zaE, zaD, zar, zaB, renO, bk, back, outUpsFrom, Ints_ren])
 | fail)
  (refine fs_flat [(4, ⟨Ints c, 1⟩)] (by simp) (by simp only [zae, zaf]; decide) (by simp only [go_sem, resV, resS, zaE, zaD, zar, zaJ, zaG, idx, renO, zaB, evS, slot, lookR, zaa, ↓reduceIte, reduceCtorEq, if_true, if_false, zay, zaA, zae, zaf, sLoad, readAt, readNeed, Ints_ren, Ints_length, Ints_getD, and_true, true_and, zas, zat]; try decide) ?_ (by simp only [zao, zap, false_implies, implies_true, and_true, zaG, lookR, zaa, if_true, if_false, ↓reduceIte] <;> (repeat' apply zan) <;> (first | rfl | trivial)) (by simp only [zao, zap, false_implies, implies_true, and_true, true_and, flat_cons, flat_nil, flat_ints, flat_bools, flat_app, zaH, and_self, eq_self_iff_true, zaF]) ?_ <;> (try simp only [go_sem, resV, resS, zaE, zaD, zar, zaJ, zaG, idx, renO, zaB, evS, slot, lookR, zaa, ↓reduceIte, reduceCtorEq, if_true, if_false, zay, zaA, zae, zaf, sLoad, readAt, readNeed, Ints_ren, Ints_length, Ints_getD, and_true, true_and, zas, zat]) <;> (try rfl))
def pmv (x : Pl) (cpu n : Int) : Pl := { x with l := x.l - n, c := x.c.set cpu.toNat (x.c.getD cpu.toNat 0 + n) }
theorem move_spec (x : Pl) (cpu n : Int) (j : Nat) (k : Option Nat) (hj : x.c.length = j) (hc : 0 ≤ cpu ∧ cpu < j) (h1 : -1000000000000 ≤ n ∧ n ≤ 1000000000000) (h2 : -1000000000000 ≤ x.l ∧ x.l ≤ 1000000000000) (h3 : -1000000000000 ≤ x.c.getD cpu.toNat 0 ∧ x.c.getD cpu.toNat 0 ≤ 1000000000000) :
    FnSpec Tryz.prog 80 [.one (.optr 0 0), i1 cpu, i1 n] [⟨plo x 1 j k, 10⟩, ⟨Ints x.c, 1⟩] (.tup []) [some ⟨plo (pmv x cpu n) 1 j k, 10⟩, some ⟨Ints (pmv x cpu n).c, 1⟩] := by
  obtain ⟨g, q, b, s, l, c, sp, pe, th, em⟩ := x
  simp only at h2 h3 hj
  refine fnspec_of mixed TT_ok TT_cl ⟨fun _ => false, fun _ => [], 2, fun _ => false, fun _ => false⟩ Tryz.func80 rfl (by kernel_rfl) rfl 24 rfl [] rfl ?_
  simp only [go_sem, zaa, zag, zah, zai, zaj, zad, ↓reduceIte, reduceCtorEq, zab, zac, zak, zal, zam, plo]
  repeat' (first
 | with_reducible refine zan ?_ ?_
 | (intros; omega)
 | fail)
  (refine fs_mk [0, 1] (by simp) (by decide) (by simp only [go_sem, resV, resS, zaE, zaD, zar, zaJ, zaG, idx, renO, zaB, evS, slot, lookR, zaa, ↓reduceIte, reduceCtorEq, if_true, if_false, zay, zaA, zae, zaf, sLoad, readAt, readNeed, Ints_ren, Ints_length, Ints_getD, and_true, true_and, zas, zat]; try decide) ?_ ?_ ?_ <;> (try simp only [go_sem, resV, resS, zaE, zaD, zar, zaJ, zaG, idx, renO, zaB, evS, slot, lookR, zaa, ↓reduceIte, reduceCtorEq, if_true, if_false, zay, zaA, zae, zaf, sLoad, readAt, readNeed, Ints_ren, Ints_length, Ints_getD, and_true, true_and, zas, zat, zaG, lookR, renO, zaB, zar, idx, zae, zaf, Ints_ren, zao, zap, false_implies, implies_true, Option.some.injEq, forall_eq', and_true, true_and, pmv, plo]) <;> (try rfl) <;> (try ((repeat' apply zan) <;> (first | trivial | exact fun c hc q hq => absurd hq (Ints_refs0 _ _ c hc) | (simp [zaH]; done)))))
structure Wk (x : Pl) : Prop where
  b : -9223372036854775808 ≤ x.b ∧ x.b ≤ 9223372036854775807
  pe : -1000000 ≤ x.pe ∧ x.pe ≤ 9223372036854775807
  len : x.c.length ≤ 1000
theorem rchk_spec (x : Pl) (k : Option Nat) (hw : Wk x) : FnSpec Tryz.prog 65 [plt x k] [] (b1 (pck x)) [] := by
  by_cases h : x.b ≤ 4611686018427387904
  · exact rcheck_spec x k h hw.b.1 hw.pe (by have := hw.len; omega)
  · exact rcheck_big x k (by omega)
theorem wk_of {x : Pl} (h : pck x = true) : Wk x := by
  rw [pck_iff, stl_iff] at h
  exact ⟨by omega, by omega, by omega⟩
theorem sml_pck {x : Pl} (h : pck x = true) : Sml x := by
  rw [pck_iff] at h
  exact sml_of h.2.1 (by omega) h.2.2.2.2.1.1 (wi_iff.2 h.2.2.2.2.1.2.1)
def pchk (x : Pl) (cpu : Int) : Int := if pck x = false then 1 else if wi cpu 0 (x.c.length - 1) = false then 3 else 0
theorem pchk_ok {x : Pl} {cpu : Int} (h : pchk x cpu = 0) : pck x = true ∧ 0 ≤ cpu ∧ cpu < x.c.length := by
  unfold pchk at h
  split at h
  · cases h
  · split at h
    · cases h
    · rename_i h1 h2
      simp only [Bool.not_eq_false, wi_iff] at h1 h2
      exact ⟨h1, by omega, by omega⟩
theorem chk_spec (x : Pl) (k : Option Nat) (cpu : Int) (hl : x.c.length ≤ 1000) : FnSpec Tryz.prog 79 [plt x k, i1 cpu] [] (i1 (pchk x cpu)) [] := by
  have h1 := check_spec x k
  have e : pchk x cpu = if pck x = false then 1 else if wi cpu 0 (x.c.length - 1) = false then 3 else 0 := rfl
  generalize pchk x cpu = r at *
  generalize pck x = p at *
  obtain ⟨g, q, b, s, l, c, sp, pe, th, em⟩ := x
  simp only [plt, plc] at *
  subst e
  refine fnspec_of mixed TT_ok TT_cl ⟨fun _ => false, fun _ => [], 0, fun _ => false, fun _ => false⟩ Tryz.func79 rfl (by kernel_rfl) rfl 15 rfl [.tmp 4] rfl ?_
  simp only [go_sem, zaa, zag, zah, zai, zaj, zad, ↓reduceIte, reduceCtorEq, zab, zac, zak, zal, zam, plc]
  repeat' (first
 | with_reducible refine zan ?_ ?_
 | (refine gt_if (fun h => ?_) (fun h => ?_) <;> (try simp only [h]))
 | (apply cl_plain
    case hs => rfl
    case ha => (simp only [zae, zaf, prepV, prepC, idx, hpL', lookR, zaa, if_true, if_false]; rfl)
    case h => (first | exact h1 .. | exact within_spec ..))
 | ((first | refine s1_id ?_ | refine swp_id ?_ | refine sops_id ?_ | refine s2_id ?_); simp only [plc, go_sem, zaa, zag, zah, zai, zaj, zad, ↓reduceIte, reduceCtorEq, zab, zac, zak, zal, zam, zaE, zaD, zar, zaB, renO, bk, back, outUpsFrom, Ints_ren])
 | (intros; omega)
 | (apply fs_nil <;> (try simp only [go_sem, resV, resS, zaE, zaD, zar, zaJ, zaG, idx, renO, zaB, evS, slot, lookR, zaa, ↓reduceIte, reduceCtorEq, if_true, if_false, zay, zaA, zae, zaf, sLoad, readAt, readNeed, Ints_ren, Ints_length, Ints_getD, and_true, true_and, zas, zat]) <;> (try rfl))
 | fail)
  all_goals simp only [zau, zaw, decide_eq_true_eq, decide_eq_false_iff_not, zaC, zaq, zaz] at *
  all_goals simp only [*, if_true, if_false, Bool.true_eq_false, zaI]
theorem rready_spec (x : Pl) (k : Option Nat) (cpu : Int) (hw : Wk x) : FnSpec Tryz.prog 88 [plt x k, i1 cpu] [] (i1 (pchk x cpu)) [] := by
  have h1 := rchk_spec x k hw
  have hl := hw.len
  have e : pchk x cpu = if pck x = false then 1 else if wi cpu 0 (x.c.length - 1) = false then 3 else 0 := rfl
  generalize pchk x cpu = r at *
  generalize pck x = p at *
  clear hw
  obtain ⟨g, q, b, s, l, c, sp, pe, th, em⟩ := x
  simp only [plt, plc] at *
  subst e
  refine fnspec_of mixed TT_ok TT_cl ⟨fun _ => false, fun _ => [], 0, fun _ => false, fun _ => false⟩ Tryz.func88 rfl (by kernel_rfl) rfl 17 rfl [.tmp 4] rfl ?_
  simp only [go_sem, zaa, zag, zah, zai, zaj, zad, ↓reduceIte, reduceCtorEq, zab, zac, zak, zal, zam, plc]
  repeat' (first
 | with_reducible refine zan ?_ ?_
 | (refine gt_if (fun h => ?_) (fun h => ?_) <;> (try simp only [h]))
 | (apply cl_plain
    case hs => rfl
    case ha => (simp only [zae, zaf, prepV, prepC, idx, hpL', lookR, zaa, if_true, if_false]; rfl)
    case h => (first | exact h1 .. | exact rin_spec ..))
 | ((first | refine s1_id ?_ | refine swp_id ?_ | refine sops_id ?_ | refine s2_id ?_); simp only [plc, go_sem, zaa, zag, zah, zai, zaj, zad, ↓reduceIte, reduceCtorEq, zab, zac, zak, zal, zam, zaE, zaD, zar, zaB, renO, bk, back, outUpsFrom, Ints_ren])
 | (intros; omega)
 | (apply fs_nil <;> (try simp only [go_sem, resV, resS, zaE, zaD, zar, zaJ, zaG, idx, renO, zaB, evS, slot, lookR, zaa, ↓reduceIte, reduceCtorEq, if_true, if_false, zay, zaA, zae, zaf, sLoad, readAt, readNeed, Ints_ren, Ints_length, Ints_getD, and_true, true_and, zas, zat]) <;> (try rfl))
 | fail)
  all_goals simp only [zau, zaw, decide_eq_true_eq, decide_eq_false_iff_not, zaC, zaq, zaz] at *
  all_goals simp only [*, if_true, if_false, Bool.true_eq_false, zaI]
end Go.Proofs.YtcnilpdlcmpbbaaGreat
-- NEWGO
-- PRUNE: cg_ts cg_show cl_use
namespace Go.Proofs.YtcnilpdlcmpbbaaGreat
set_option linter.unusedVariables false
set_option linter.unusedSimpArgs false
open Go.Proofs.YtcnilpdlcmpbbaaGreat.Sh
set_option maxRecDepth 20000
def pz : Pl := ⟨0, 0, 0, 0, 0, [], 0, 0, 0, false⟩
abbrev pre (r : Pl × Int) : SV := .tup [plt r.1 none, i1 r.2]
abbrev pro (x : Pl) : SV := .tup [.agg (plo x 0 x.c.length none), i1 0]
def mn (a b : Int) : Int := if b < a then b else a
theorem mn_le (a b : Int) : mn a b ≤ a ∧ mn a b ≤ b ∧ (mn a b = a ∨ mn a b = b) := by unfold mn; split <;> omega
theorem pck_all {x : Pl} (h : pck x = true) (i : Nat) : 0 ≤ x.c.getD i 0 ∧ x.c.getD i 0 ≤ mst x := by
  have h1 := pck_iff.1 h
  have hm := mst_rng h1.2.1
  rcases Nat.lt_or_ge i x.c.length with hl | hl
  · have := List.all_eq_true.1 h1.2.2.2.2.1.1 (x.c.getD i 0) (by
      rw [List.getD_eq_getElem?_getD, List.getElem?_eq_getElem hl]; exact List.getElem_mem _)
    rwa [wi_iff] at this
  · rw [List.getD_eq_getElem?_getD, List.getElem?_eq_none hl]
    exact ⟨Int.le_refl _, by simpa using hm.1⟩
structure Nums (x : Pl) : Prop where
  g : 1 ≤ x.g ∧ x.g ≤ 2147483647
  st : (x.q = 4611686018427387904 ∧ x.b = 0) ∨ (x.q ≠ 4611686018427387904 ∧ 1 ≤ x.q ∧ x.q ≤ 1000000 ∧ 0 ≤ x.b ∧ x.b ≤ x.q)
  s : 1 ≤ x.s ∧ x.s ≤ 1000000
  len : 1 ≤ x.c.length ∧ x.c.length ≤ 16
  m : 0 ≤ mst x ∧ mst x ≤ 2000000
  l : 0 ≤ x.l ∧ x.l ≤ mst x
  h : hld x ≤ mst x
  sp : 0 ≤ x.sp ∧ x.sp ≤ 1099511627776
  pe : 0 ≤ x.pe ∧ x.pe ≤ 1099511627776
  th : 0 ≤ x.th ∧ x.th ≤ (if x.em = true then x.pe else x.pe - 1)
theorem nums {x : Pl} (h : pck x = true) : Nums x := by
  have h1 := pck_iff.1 h
  exact ⟨h1.1, stl_iff.1 h1.2.1, h1.2.2.1, h1.2.2.2.1, mst_rng h1.2.1, h1.2.2.2.2.1.2.1, h1.2.2.2.2.1.2.2, h1.2.2.2.2.2.1, h1.2.2.2.2.2.2.1, h1.2.2.2.2.2.2.2⟩
def proom (x : Pl) (cpu : Int) : Int := if pchk x cpu ≠ 0 then 0 else if lim x = false then 1099511627776 else x.l + x.c.getD cpu.toNat 0
theorem room_spec (x : Pl) (k : Option Nat) (cpu : Int) (hl : x.c.length ≤ 1000) : FnSpec Tryz.prog 72 [plt x k, i1 cpu] [] (i1 (proom x cpu)) [] := by
  have h1 := chk_spec x k cpu hl
  have h2 := limited_spec x k
  have e : proom x cpu = if pchk x cpu ≠ 0 then 0 else if lim x = false then 1099511627776 else x.l + x.c.getD cpu.toNat 0 := rfl
  by_cases hc : pchk x cpu = 0
  · have hc' := pchk_ok hc
    have hn := nums hc'.1
    have ha := pck_all hc'.1 cpu.toNat
    have hnl := hn.l
    have hnm := hn.m
    rw [hc] at h1
    rw [if_neg (by simp [hc])] at e
    generalize proom x cpu = r at *
    generalize mst x = M at *
    generalize lim x = li at *
    clear hc hn
    obtain ⟨g, q, b, s, l, c, sp, pe, th, em⟩ := x
    simp only [plt, plc] at *
    subst e
    cases li with
    | true =>
      refine fnspec_of mixed TT_ok TT_cl ⟨fun _ => false, fun _ => [], 0, fun _ => false, fun _ => false⟩ Tryz.func72 rfl (by kernel_rfl) rfl 20 rfl [.tmp 4] rfl ?_
      simp only [go_sem, zaa, zag, zah, zai, zaj, zad, ↓reduceIte, reduceCtorEq, zab, zac, zak, zal, zam, plc]
      repeat' (first
 | with_reducible refine zan ?_ ?_
 | (unfold OKC; kernel_rfl)
 | (unfold EDG; kernel_rfl)
 | (apply cl_plain
    case hs => rfl
    case ha => (simp only [zae, zaf, prepV, prepC, idx, hpL', lookR, zaa, if_true, if_false]; rfl)
    case h => (first | exact h1 .. | exact h2 ..))
 | ((first | refine s1_id ?_ | refine swp_id ?_ | refine sops_id ?_ | refine s2_id ?_); simp only [plc, go_sem, zaa, zag, zah, zai, zaj, zad, ↓reduceIte, reduceCtorEq, zab, zac, zak, zal, zam, zaE, zaD, zar, zaB, renO, bk, back, outUpsFrom, Ints_ren])
 | (intros; omega)
 | exact fs_nil trivial rfl
 | fail)
    | false =>
      refine fnspec_of mixed TT_ok TT_cl ⟨fun _ => false, fun _ => [], 0, fun _ => false, fun _ => false⟩ Tryz.func72 rfl (by kernel_rfl) rfl 20 rfl [.tmp 4] rfl ?_
      simp only [go_sem, zaa, zag, zah, zai, zaj, zad, ↓reduceIte, reduceCtorEq, zab, zac, zak, zal, zam, plc]
      repeat' (first
 | (apply cl_plain
    case hs => rfl
    case ha => (simp only [zae, zaf, prepV, prepC, idx, hpL', lookR, zaa, if_true, if_false]; rfl)
    case h => (first | exact h1 .. | exact h2 ..))
 | ((first | refine s1_id ?_ | refine swp_id ?_ | refine sops_id ?_ | refine s2_id ?_); simp only [plc, go_sem, zaa, zag, zah, zai, zaj, zad, ↓reduceIte, reduceCtorEq, zab, zac, zak, zal, zam, zaE, zaD, zar, zaB, renO, bk, back, outUpsFrom, Ints_ren])
 | exact fs_nil trivial rfl
 | fail)
  · rw [if_pos (by simpa using hc)] at e
    rw [e]
    generalize pchk x cpu = r at *
    generalize lim x = li at *
    obtain ⟨g, q, b, s, l, c, sp, pe, th, em⟩ := x
    simp only [plt, plc] at *
    refine fnspec_of mixed TT_ok TT_cl ⟨fun _ => false, fun _ => [], 0, fun _ => false, fun _ => false⟩ Tryz.func72 rfl (by kernel_rfl) rfl 20 rfl [.tmp 4] rfl ?_
    simp only [go_sem, zaa, zag, zah, zai, zaj, zad, ↓reduceIte, reduceCtorEq, zab, zac, zak, zal, zam, plc]
    repeat' (first
 | (apply cl_plain
    case hs => rfl
    case ha => (simp only [zae, zaf, prepV, prepC, idx, hpL', lookR, zaa, if_true, if_false]; rfl)
    case h => (first | exact h1 .. | exact h2 ..))
 | ((first | refine s1_id ?_ | refine swp_id ?_ | refine sops_id ?_ | refine s2_id ?_); simp only [plc, decide_eq_false hc, go_sem, zaa, zag, zah, zai, zaj, zad, ↓reduceIte, reduceCtorEq, zab, zac, zak, zal, zam, zaE, zaD, zar, zaB, renO, bk, back, outUpsFrom, Ints_ren])
 | exact fs_nil trivial rfl
 | fail)
theorem rroom_spec (x : Pl) (k : Option Nat) (cpu : Int) (hw : Wk x) : FnSpec Tryz.prog 87 [plt x k, i1 cpu] [] (i1 (proom x cpu)) [] := by
  have h1 := rchk_spec x k hw
  have h2 := rlimited_spec x k
  have hlen := hw.len
  have e : proom x cpu = if pchk x cpu ≠ 0 then 0 else if lim x = false then 1099511627776 else x.l + x.c.getD cpu.toNat 0 := rfl
  have ec : pchk x cpu = if pck x = false then 1 else if wi cpu 0 (x.c.length - 1) = false then 3 else 0 := rfl
  by_cases hc : pchk x cpu = 0
  · have hc' := pchk_ok hc
    have hn := nums hc'.1
    have ha := pck_all hc'.1 cpu.toNat
    have hnl := hn.l
    have hnm := hn.m
    have hwi : wi cpu 0 (x.c.length - 1) = true := wi_iff.2 (by omega)
    rw [hc'.1] at h1
    rw [if_neg (by simp [hc])] at e
    generalize proom x cpu = r at *
    generalize mst x = M at *
    generalize lim x = li at *
    clear hc hn hw ec
    obtain ⟨g, q, b, s, l, c, sp, pe, th, em⟩ := x
    simp only [plt, plc] at *
    subst e
    cases li with
    | true =>
      refine fnspec_of mixed TT_ok TT_cl ⟨fun _ => false, fun _ => [], 0, fun _ => false, fun _ => false⟩ Tryz.func87 rfl (by kernel_rfl) rfl 30 rfl [.tmp 4] rfl ?_
      simp only [go_sem, zaa, zag, zah, zai, zaj, zad, ↓reduceIte, reduceCtorEq, zab, zac, zak, zal, zam, plc]
      repeat' (first
 | with_reducible refine zan ?_ ?_
 | (unfold OKC; kernel_rfl)
 | (unfold EDG; kernel_rfl)
 | (apply cg_tp
    case hl => rfl
    case ha => (simp only [zae, zaf, prepV, prepC, idx, hpL', lookR, zaa, if_true, if_false]; rfl)
    case hs => rfl
    case h => (first | exact h1 .. | exact h2 .. | exact rin_spec ..))
 | (apply cl_plain
    case hs => rfl
    case ha => (simp only [zae, zaf, prepV, prepC, idx, hpL', lookR, zaa, if_true, if_false]; rfl)
    case h => (first | exact h1 .. | exact h2 .. | exact rin_spec ..))
 | ((first | refine s1_id ?_ | refine swp_id ?_ | refine sops_id ?_ | refine s2_id ?_); simp only [plc, hwi, go_sem, zaa, zag, zah, zai, zaj, zad, ↓reduceIte, reduceCtorEq, zab, zac, zak, zal, zam, zaE, zaD, zar, zaB, renO, bk, back, outUpsFrom, Ints_ren])
 | (intros; omega)
 | exact fs_nil trivial rfl
 | fail)
    | false =>
      refine fnspec_of mixed TT_ok TT_cl ⟨fun _ => false, fun _ => [], 0, fun _ => false, fun _ => false⟩ Tryz.func87 rfl (by kernel_rfl) rfl 30 rfl [.tmp 4] rfl ?_
      simp only [go_sem, zaa, zag, zah, zai, zaj, zad, ↓reduceIte, reduceCtorEq, zab, zac, zak, zal, zam, plc]
      repeat' (first
 | with_reducible refine zan ?_ ?_
 | (apply cg_tp
    case hl => rfl
    case ha => (simp only [zae, zaf, prepV, prepC, idx, hpL', lookR, zaa, if_true, if_false]; rfl)
    case hs => rfl
    case h => (first | exact h1 .. | exact h2 .. | exact rin_spec ..))
 | (apply cl_plain
    case hs => rfl
    case ha => (simp only [zae, zaf, prepV, prepC, idx, hpL', lookR, zaa, if_true, if_false]; rfl)
    case h => (first | exact h1 .. | exact h2 .. | exact rin_spec ..))
 | ((first | refine s1_id ?_ | refine swp_id ?_ | refine sops_id ?_ | refine s2_id ?_); simp only [plc, hwi, go_sem, zaa, zag, zah, zai, zaj, zad, ↓reduceIte, reduceCtorEq, zab, zac, zak, zal, zam, zaE, zaD, zar, zaB, renO, bk, back, outUpsFrom, Ints_ren])
 | (intros; omega)
 | exact fs_nil trivial rfl
 | fail)
  · rw [if_pos (by simpa using hc)] at e
    rw [e]
    rw [ec] at hc
    generalize lim x = li at *
    generalize pck x = p at *
    clear hw ec e
    obtain ⟨g, q, b, s, l, c, sp, pe, th, em⟩ := x
    simp only [plt, plc] at *
    cases p with
    | false =>
      refine fnspec_of mixed TT_ok TT_cl ⟨fun _ => false, fun _ => [], 0, fun _ => false, fun _ => false⟩ Tryz.func87 rfl (by kernel_rfl) rfl 30 rfl [.tmp 4] rfl ?_
      simp only [go_sem, zaa, zag, zah, zai, zaj, zad, ↓reduceIte, reduceCtorEq, zab, zac, zak, zal, zam, plc]
      repeat' (first
 | (apply cl_plain
    case hs => rfl
    case ha => (simp only [zae, zaf, prepV, prepC, idx, hpL', lookR, zaa, if_true, if_false]; rfl)
    case h => (first | exact h1 .. | exact h2 .. | exact rin_spec ..))
 | ((first | refine s1_id ?_ | refine swp_id ?_ | refine sops_id ?_ | refine s2_id ?_); simp only [plc, go_sem, zaa, zag, zah, zai, zaj, zad, ↓reduceIte, reduceCtorEq, zab, zac, zak, zal, zam, zaE, zaD, zar, zaB, renO, bk, back, outUpsFrom, Ints_ren])
 | exact fs_nil trivial rfl
 | fail)
    | true =>
      have hwi : wi cpu 0 (c.length - 1) = false := by
        cases hq : wi cpu 0 (c.length - 1) with
        | false => rfl
        | true => exfalso; apply hc; simp [hq]
      refine fnspec_of mixed TT_ok TT_cl ⟨fun _ => false, fun _ => [], 0, fun _ => false, fun _ => false⟩ Tryz.func87 rfl (by kernel_rfl) rfl 30 rfl [.tmp 4] rfl ?_
      simp only [go_sem, zaa, zag, zah, zai, zaj, zad, ↓reduceIte, reduceCtorEq, zab, zac, zak, zal, zam, plc]
      repeat' (first
 | with_reducible refine zan ?_ ?_
 | (apply cg_tp
    case hl => rfl
    case ha => (simp only [zae, zaf, prepV, prepC, idx, hpL', lookR, zaa, if_true, if_false]; rfl)
    case hs => rfl
    case h => (first | exact h1 .. | exact h2 .. | exact rin_spec ..))
 | (apply cl_plain
    case hs => rfl
    case ha => (simp only [zae, zaf, prepV, prepC, idx, hpL', lookR, zaa, if_true, if_false]; rfl)
    case h => (first | exact h1 .. | exact h2 .. | exact rin_spec ..))
 | ((first | refine s1_id ?_ | refine swp_id ?_ | refine sops_id ?_ | refine s2_id ?_); simp only [plc, hwi, go_sem, zaa, zag, zah, zai, zaj, zad, ↓reduceIte, reduceCtorEq, zab, zac, zak, zal, zam, zaE, zaD, zar, zaB, renO, bk, back, outUpsFrom, Ints_ren])
 | (intros; omega)
 | exact fs_nil trivial rfl
 | fail)
/-! ### Take -/
def takes (x : Pl) : Bool := !(lim x && decide (x.l = 0))
def ptk (x : Pl) (cpu : Int) : Pl := pmv x cpu (mn x.s x.l)
theorem pmv_len (x : Pl) (cpu n : Int) : (pmv x cpu n).c.length = x.c.length := by simp [pmv]
theorem rtake_own (x : Pl) (k : Option Nat) (cpu : Int) (h0 : pchk x cpu = 0) (ht : takes x = true) : FnSpec Tryz.prog 89 [plt x k, i1 cpu] [] (pro (ptk x cpu)) [some ⟨Ints (ptk x cpu).c, 1⟩] := by
  have hp := pchk_ok h0
  have hn := nums hp.1
  have ha := pck_all hp.1 cpu.toNat
  have hm := hn.m
  have hl := hn.l
  have hs := hn.s
  have hlen := hn.len
  have hmn := mn_le x.s x.l
  have hlt := hp.2
  have h1 := rready_spec x k cpu (wk_of hp.1)
  rw [h0] at h1
  have h2 := rlimited_spec x k
  have h3 := rcopy_spec x k (by omega)
  have emn : mn x.s x.l = if x.l < x.s then x.l else x.s := rfl
  have hcd : (lim x && decide (x.l = 0)) = false := by simpa only [takes, zau] using ht
  have epk : ptk x cpu = pmv x cpu (mn x.s x.l) := rfl
  simp only [pro, epk, pmv_len, pmv]
  generalize mn x.s x.l = n at *
  generalize mst x = M at *
  generalize lim x = li at *
  clear h0 hp hn ht epk
  obtain ⟨g, q, b, s, l, c, sp, pe, th, em⟩ := x
  simp only [plt, plc, plo] at *
  subst emn
  refine fnspec_of mixed TT_ok TT_cl ⟨fun _ => false, fun _ => [], 0, fun _ => false, fun _ => false⟩ Tryz.func89 rfl (by kernel_rfl) rfl 45 rfl [.cell 4 43, .tmp 5] rfl ?_
  simp only [go_sem, zaa, zag, zah, zai, zaj, zad, ↓reduceIte, reduceCtorEq, zab, zac, zak, zal, zam, plc, plo]
  repeat' (first
 | with_reducible refine zan ?_ ?_
 | (apply cl_plain
    case hs => rfl
    case ha => (simp only [zae, zaf, prepV, prepC, idx, hpL', lookR, zaa, if_true, if_false]; rfl)
    case h => (first | exact h1 .. | exact h2 .. | exact h3 ..))
 | ((first | refine s1_id ?_ | refine swp_id ?_ | refine sops_id ?_ | refine s2_id ?_); simp only [plc, plo, hcd, go_sem, zaa, zag, zah, zai, zaj, zad, ↓reduceIte, reduceCtorEq, zab, zac, zak, zal, zam, zaE, zaD, zar, zaB, renO, bk, back, outUpsFrom, Ints_ren])
 | (intros; omega)
 | fail)
  (refine fs_flat [(17, ⟨Ints (c.set cpu.toNat (c.getD cpu.toNat 0 + if l < s then l else s)), 1⟩)] (by simp) (by simp only [zae, zaf]; decide) (by simp only [go_sem, resV, resS, zaE, zaD, zar, zaJ, zaG, idx, renO, zaB, evS, slot, lookR, zaa, ↓reduceIte, reduceCtorEq, if_true, if_false, zay, zaA, zae, zaf, sLoad, readAt, readNeed, Ints_ren, Ints_length, Ints_getD, and_true, true_and, zas, zat]; try decide) ?_ (by simp only [zao, zap, false_implies, implies_true, and_true, zaG, lookR, zaa, if_true, if_false, ↓reduceIte] <;> (repeat' apply zan) <;> (first | rfl | trivial)) (by simp only [zao, zap, false_implies, implies_true, and_true, true_and, flat_cons, flat_nil, flat_ints, flat_bools, flat_app, zaH, and_self, eq_self_iff_true, zaF]) ?_ <;> (try simp only [go_sem, resV, resS, zaE, zaD, zar, zaJ, zaG, idx, renO, zaB, evS, slot, lookR, zaa, ↓reduceIte, reduceCtorEq, if_true, if_false, zay, zaA, zae, zaf, sLoad, readAt, readNeed, Ints_ren, Ints_length, Ints_getD, and_true, true_and, zas, zat]) <;> (try rfl))
end Go.Proofs.YtcnilpdlcmpbbaaGreat
-- NEWGO
-- PRUNE: cg_ts cg_show cl_use
namespace Go.Proofs.YtcnilpdlcmpbbaaGreat
set_option linter.unusedVariables false
set_option linter.unusedSimpArgs false
open Go.Proofs.YtcnilpdlcmpbbaaGreat.Sh
set_option maxRecDepth 20000
theorem set_self (c : List Int) (i : Nat) : c.set i (c.getD i 0) = c := by
  apply List.ext_getElem?
  intro j
  rw [List.getElem?_set]
  split
  · rename_i h; subst h
    split
    · rename_i h2; rw [List.getD_eq_getElem?_getD, List.getElem?_eq_getElem h2]; rfl
    · rename_i h2; rw [List.getElem?_eq_none (by omega)]
  · rfl
def pret (x : Pl) (cpu : Int) : Pl := { x with l := x.l + x.c.getD cpu.toNat 0, c := x.c.set cpu.toNat 0 }
def preturn (x : Pl) (cpu : Int) : Pl × Int := if pchk x cpu ≠ 0 then (pz, pchk x cpu) else (pret x cpu, 0)
theorem return_spec (x : Pl) (k : Option Nat) (cpu : Int) (hl : x.c.length ≤ 1000) : FnSpec Tryz.prog 47 [plt x k, i1 cpu] [] (pre (preturn x cpu)) [] := by
  have h1 := chk_spec x k cpu hl
  unfold preturn
  split
  · rename_i h0
    generalize pchk x cpu = e at *
    obtain ⟨g, q, b, s, l, c, sp, pe, th, em⟩ := x
    simp only [plt, plc, pz, pre] at *
    refine fnspec_of mixed TT_ok TT_cl ⟨fun _ => false, fun _ => [], 0, fun _ => false, fun _ => false⟩ Tryz.func47 rfl (by kernel_rfl) rfl 26 rfl [.cell 4 43, .tmp 5] rfl ?_
    simp only [go_sem, zaa, zag, zah, zai, zaj, zad, ↓reduceIte, reduceCtorEq, zab, zac, zak, zal, zam, plc]
    repeat' (first
 | (apply cl_plain
    case hs => rfl
    case ha => (simp only [zae, zaf, prepV, prepC, idx, hpL', lookR, zaa, if_true, if_false]; rfl)
    case h => (first | exact h1 ..))
 | ((first | refine s1_id ?_ | refine swp_id ?_ | refine sops_id ?_ | refine s2_id ?_); simp only [plc, decide_eq_false h0, go_sem, zaa, zag, zah, zai, zaj, zad, ↓reduceIte, reduceCtorEq, zab, zac, zak, zal, zam, zaE, zaD, zar, zaB, renO, bk, back, outUpsFrom, Ints_ren])
 | (intros; (try simp only [zaz, zaC, zau, zaw, zax, zaq, decide_eq_true_eq, decide_eq_false_iff_not] at *); omega))
    repeat' (first
 | (refine fs_w ?h1 (svw_of ?h2); (case h1 => repeat' (first | exact trivial | exact rfl | exact zav rfl | apply zan)); (case h2 => repeat' (first | ((with_reducible refine (?_ : CW _ _)); first | exact cw_gnil | exact cw_rfl _ | exact cw_niln _ _ | exact cw_cap _ _ _ _) | exact trivial | (show _ ∧ SWL _ _; apply zan) | (show _ ∧ CWL _ _; apply zan) | show CW _ _)))
 | fail)
  · rename_i h0
    have h0 : pchk x cpu = 0 := by simpa using h0
    have hp := pchk_ok h0
    have hn := nums hp.1
    have ha := pck_all hp.1 cpu.toNat
    have hm := hn.m
    have hll := hn.l
    have hlen := hn.len
    have hlt := hp.2
    rw [h0] at h1
    have h3 := copy_spec x k (by omega) (by omega)
    have h4 := move_spec x cpu (0 - x.c.getD cpu.toNat 0) x.c.length none rfl (by omega) (by omega) (by omega) (by omega)
    have epk : pmv x cpu (0 - x.c.getD cpu.toNat 0) = pret x cpu := by
      simp only [pmv, pret]
      congr 1
      · omega
      · congr 1; omega
    rw [epk] at h4
    have elen : (pret x cpu).c.length = x.c.length := by simp [pret]
    simp only [pre, plt, plc, elen]
    generalize mst x = M at *
    generalize pret x cpu = y at *
    clear h0 hp hn epk
    obtain ⟨g, q, b, s, l, c, sp, pe, th, em⟩ := x
    obtain ⟨g2, q2, b2, s2, l2, c2, sp2, pe2, th2, em2⟩ := y
    simp only [plt, plc, plo] at *
    refine fnspec_of mixed TT_ok TT_cl ⟨fun _ => false, fun f => if f = 80 then [0, 100] else [], 0, fun _ => false, fun _ => false⟩ Tryz.func47 rfl (by kernel_rfl) rfl 26 rfl [.cell 4 43, .tmp 5] rfl ?_
    simp only [go_sem, zaa, zag, zah, zai, zaj, zad, ↓reduceIte, reduceCtorEq, zab, zac, zak, zal, zam, plc, plo]
    repeat' (first
 | with_reducible refine zan ?_ ?_
 | (apply cl_plain
    case hs => rfl
    case ha => (simp only [zae, zaf, prepV, prepC, idx, hpL', lookR, zaa, if_true, if_false]; rfl)
    case h => (first | exact h1 .. | exact h3 .. | exact h4 ..))
 | (apply cl_lendx
    case ha => (simp only [zae, zaf, prepV, prepC, idx, hpL', lookR, zaa, if_true, if_false]; rfl)
    case hr => (simp only [lentRows, zae, zaf, hpL', lookR, zaB, zar, idx, Ints_ren, zaa, if_true, if_false, ↓reduceIte, reduceCtorEq]; rfl)
    case hs => rfl
    case hn => decide
    case h => (first | exact h1 .. | exact h3 .. | exact h4 ..)
    case hf => (intro r hr; simp only [zaS, zap, or_false] at hr; rcases hr with rfl | rfl <;> (refine ⟨_, rfl, ?_⟩; first | exact fun c hc q hq => absurd hq (Ints_refs0 _ _ c hc) | (simp [zaH]; done)))
    case hl => (simp only [zaK, zaN]; decide))
 | ((first | refine s1_id ?_ | refine swp_id ?_ | refine sops_id ?_ | refine s2_id ?_); simp only [plc, plo, go_sem, zaa, zag, zah, zai, zaj, zad, ↓reduceIte, reduceCtorEq, zab, zac, zak, zal, zam, zaE, zaD, zar, zaB, renO, bk, back, outUpsFrom, Ints_ren])
 | (intros; omega)
 | (intros; (try simp only [zaz, zaC, zau, zaw, zax, zaq, decide_eq_true_eq, decide_eq_false_iff_not] at *); omega))
    (refine fs_frz 10 ⟨Ints c2, 1⟩ (by simp only [zaG, lookR, zaa, if_true, if_false, ↓reduceIte]) (by first | exact Ints_isG _ | exact Bools_isG _ | (simp [zaL]; done)) ?_; simp only [frzTm, zaT, zaO, zaM, frzHp, frzO, Ints_frz, Bools_frz, zae, zaf, zaa, if_true, if_false, ↓reduceIte])
    repeat' (first
 | (refine fs_w ?h1 (svw_of ?h2); (case h1 => repeat' (first | exact trivial | exact rfl | exact zav rfl | apply zan)); (case h2 => repeat' (first | ((with_reducible refine (?_ : CW _ _)); first | exact cw_gnil | exact cw_rfl _ | exact cw_niln _ _ | exact cw_cap _ _ _ _) | exact trivial | (show _ ∧ SWL _ _; apply zan) | (show _ ∧ CWL _ _; apply zan) | show CW _ _)))
 | fail)
theorem rreturn_spec (x : Pl) (k : Option Nat) (cpu : Int) (hw : Wk x) : FnSpec Tryz.prog 57 [plt x k, i1 cpu] [] (pre (preturn x cpu)) [] := by
  have h1 := rready_spec x k cpu hw
  unfold preturn
  split
  · rename_i h0
    clear hw
    generalize pchk x cpu = e at *
    obtain ⟨g, q, b, s, l, c, sp, pe, th, em⟩ := x
    simp only [plt, plc, pz, pre] at *
    refine fnspec_of mixed TT_ok TT_cl ⟨fun _ => false, fun _ => [], 0, fun _ => false, fun _ => false⟩ Tryz.func57 rfl (by kernel_rfl) rfl 31 rfl [.cell 4 43, .tmp 5] rfl ?_
    simp only [go_sem, zaa, zag, zah, zai, zaj, zad, ↓reduceIte, reduceCtorEq, zab, zac, zak, zal, zam, plc]
    repeat' (first
 | (apply cl_plain
    case hs => rfl
    case ha => (simp only [zae, zaf, prepV, prepC, idx, hpL', lookR, zaa, if_true, if_false]; rfl)
    case h => (first | exact h1 ..))
 | ((first | refine s1_id ?_ | refine swp_id ?_ | refine sops_id ?_ | refine s2_id ?_); simp only [plc, decide_eq_false h0, go_sem, zaa, zag, zah, zai, zaj, zad, ↓reduceIte, reduceCtorEq, zab, zac, zak, zal, zam, zaE, zaD, zar, zaB, renO, bk, back, outUpsFrom, Ints_ren])
 | (intros; (try simp only [zaz, zaC, zau, zaw, zax, zaq, decide_eq_true_eq, decide_eq_false_iff_not] at *); omega))
    repeat' (first
 | (refine fs_w ?h1 (svw_of ?h2); (case h1 => repeat' (first | exact trivial | exact rfl | exact zav rfl | apply zan)); (case h2 => repeat' (first | ((with_reducible refine (?_ : CW _ _)); first | exact cw_gnil | exact cw_rfl _ | exact cw_niln _ _ | exact cw_cap _ _ _ _) | exact trivial | (show _ ∧ SWL _ _; apply zan) | (show _ ∧ CWL _ _; apply zan) | show CW _ _)))
 | fail)
  · rename_i h0
    have h0 : pchk x cpu = 0 := by simpa using h0
    have hp := pchk_ok h0
    have hn := nums hp.1
    have ha := pck_all hp.1 cpu.toNat
    have hm := hn.m
    have hll := hn.l
    have hlen := hn.len
    have hlt := hp.2
    rw [h0] at h1
    have h3 := rcopy_spec x k (by omega)
    simp only [pre, plt, plc, pret, zaP]
    generalize mst x = M at *
    clear h0 hp hn hw
    obtain ⟨g, q, b, s, l, c, sp, pe, th, em⟩ := x
    simp only [plt, plc, plo] at *
    refine fnspec_of mixed TT_ok TT_cl ⟨fun _ => false, fun _ => [], 0, fun _ => false, fun _ => false⟩ Tryz.func57 rfl (by kernel_rfl) rfl 31 rfl [.cell 4 43, .tmp 5] rfl ?_
    simp only [go_sem, zaa, zag, zah, zai, zaj, zad, ↓reduceIte, reduceCtorEq, zab, zac, zak, zal, zam, plc, plo]
    repeat' (first
 | with_reducible refine zan ?_ ?_
 | (unfold OKC; kernel_rfl)
 | (unfold EDG; kernel_rfl)
 | (apply cl_plain
    case hs => rfl
    case ha => (simp only [zae, zaf, prepV, prepC, idx, hpL', lookR, zaa, if_true, if_false]; rfl)
    case h => (first | exact h1 .. | exact h3 ..))
 | ((first | refine s1_id ?_ | refine swp_id ?_ | refine sops_id ?_ | refine s2_id ?_); simp only [plc, plo, go_sem, zaa, zag, zah, zai, zaj, zad, ↓reduceIte, reduceCtorEq, zab, zac, zak, zal, zam, zaE, zaD, zar, zaB, renO, bk, back, outUpsFrom, Ints_ren])
 | (intros; omega)
 | (intros; (try simp only [zaz, zaC, zau, zaw, zax, zaq, decide_eq_true_eq, decide_eq_false_iff_not] at *); omega))
    (refine fs_frz 10 ⟨Ints (c.set cpu.toNat 0), 1⟩ (by simp only [zaG, lookR, zaa, if_true, if_false, ↓reduceIte]) (by first | exact Ints_isG _ | exact Bools_isG _ | (simp [zaL]; done)) ?_; simp only [frzTm, zaT, zaO, zaM, frzHp, frzO, Ints_frz, Bools_frz, zae, zaf, zaa, if_true, if_false, ↓reduceIte])
    repeat' (first
 | (refine fs_w ?h1 (svw_of ?h2); (case h1 => repeat' (first | exact trivial | exact rfl | exact zav rfl | apply zan)); (case h2 => repeat' (first | ((with_reducible refine (?_ : CW _ _)); first | exact cw_gnil | exact cw_rfl _ | exact cw_niln _ _ | exact cw_cap _ _ _ _) | exact trivial | (show _ ∧ SWL _ _; apply zan) | (show _ ∧ CWL _ _; apply zan) | show CW _ _)))
 | fail)
/-! ### Refill -/
theorem hld_ge {x : Pl} (h : pck x = true) : 0 ≤ hld x := by
  have h1 := pck_iff.1 h
  have := sumN_rng (c := x.c) (a := 0) (b := 2000000) (fun y hy => by
    have h2 := List.all_eq_true.1 h1.2.2.2.2.1.1 y hy
    have hm := mst_rng h1.2.1
    rw [wi_iff] at h2; omega) x.c.length (Nat.le_refl _)
  have hl := h1.2.2.2.2.1.2.1
  simp only [hld, tot]; omega
def pfil (x : Pl) : Pl := { x with l := x.l + (if lim x = true then mn x.q (mst x - hld x) else 0), pe := x.pe + 1, sp := 0, em := false }
def prefill (x : Pl) : Pl × Int := if pck x = false then (pz, 1) else if x.pe = 1099511627776 then (pz, 7) else (pfil x, 0)
theorem refill_spec (x : Pl) (k : Option Nat) : FnSpec Tryz.prog 50 [plt x k] [] (pre (prefill x)) [] := by
  have h1 := check_spec x k
  unfold prefill
  split
  · rename_i h0
    rw [h0] at h1
    clear h0
    obtain ⟨g, q, b, s, l, c, sp, pe, th, em⟩ := x
    simp only [plt, plc, pz, pre] at *
    refine fnspec_of mixed TT_ok TT_cl ⟨fun _ => false, fun _ => [], 0, fun _ => false, fun _ => false⟩ Tryz.func50 rfl (by kernel_rfl) rfl 34 rfl [.cell 2 43, .tmp 3] rfl ?_
    simp only [go_sem, zaa, zag, zah, zai, zaj, zad, ↓reduceIte, reduceCtorEq, zab, zac, zak, zal, zam, plc]
    repeat' (first
 | (apply cl_plain
    case hs => rfl
    case ha => (simp only [zae, zaf, prepV, prepC, idx, hpL', lookR, zaa, if_true, if_false]; rfl)
    case h => (first | exact h1 ..))
 | ((first | refine s1_id ?_ | refine swp_id ?_ | refine sops_id ?_ | refine s2_id ?_); simp only [plc, go_sem, zaa, zag, zah, zai, zaj, zad, ↓reduceIte, reduceCtorEq, zab, zac, zak, zal, zam, zaE, zaD, zar, zaB, renO, bk, back, outUpsFrom, Ints_ren])
 | (intros; (try simp only [zaz, zaC, zau, zaw, zax, zaq, decide_eq_true_eq, decide_eq_false_iff_not] at *); omega))
    repeat' (first
 | (refine fs_w ?h1 (svw_of ?h2); (case h1 => repeat' (first | exact trivial | exact rfl | exact zav rfl | apply zan)); (case h2 => repeat' (first | ((with_reducible refine (?_ : CW _ _)); first | exact cw_gnil | exact cw_rfl _ | exact cw_niln _ _ | exact cw_cap _ _ _ _) | exact trivial | (show _ ∧ SWL _ _; apply zan) | (show _ ∧ CWL _ _; apply zan) | show CW _ _)))
 | fail)
  · rename_i h0
    rw [Bool.not_eq_false] at h0
    rw [h0] at h1
    split
    · rename_i hpe
      clear h0
      obtain ⟨g, q, b, s, l, c, sp, pe, th, em⟩ := x
      simp only [plt, plc, pz, pre] at *
      refine fnspec_of mixed TT_ok TT_cl ⟨fun _ => false, fun _ => [], 0, fun _ => false, fun _ => false⟩ Tryz.func50 rfl (by kernel_rfl) rfl 34 rfl [.cell 2 43, .tmp 3] rfl ?_
      simp only [go_sem, zaa, zag, zah, zai, zaj, zad, ↓reduceIte, reduceCtorEq, zab, zac, zak, zal, zam, plc]
      repeat' (first
 | (apply cl_plain
    case hs => rfl
    case ha => (simp only [zae, zaf, prepV, prepC, idx, hpL', lookR, zaa, if_true, if_false]; rfl)
    case h => (first | exact h1 ..))
 | ((first | refine s1_id ?_ | refine swp_id ?_ | refine sops_id ?_ | refine s2_id ?_); simp only [plc, decide_eq_true hpe, go_sem, zaa, zag, zah, zai, zaj, zad, ↓reduceIte, reduceCtorEq, zab, zac, zak, zal, zam, zaE, zaD, zar, zaB, renO, bk, back, outUpsFrom, Ints_ren])
 | (intros; (try simp only [zaz, zaC, zau, zaw, zax, zaq, decide_eq_true_eq, decide_eq_false_iff_not] at *); omega))
      repeat' (first
 | (refine fs_w ?h1 (svw_of ?h2); (case h1 => repeat' (first | exact trivial | exact rfl | exact zav rfl | apply zan)); (case h2 => repeat' (first | ((with_reducible refine (?_ : CW _ _)); first | exact cw_gnil | exact cw_rfl _ | exact cw_niln _ _ | exact cw_cap _ _ _ _) | exact trivial | (show _ ∧ SWL _ _; apply zan) | (show _ ∧ CWL _ _; apply zan) | show CW _ _)))
 | fail)
    · rename_i hpe
      have hn := nums h0
      have h2 := most_spec x k (stl_iff.2 hn.st)
      have h3 := held_spec x k (sml_pck h0)
      have h4 := copy_spec x k (by have := hn.len; omega) (by have := hn.len; omega)
      have hh := hld_ge h0
      have hH := hn.h
      have hM := hn.m
      have hL := hn.l
      have hP := hn.pe
      have hS := hn.st
      have hmst : mst x = if lim x = true then x.q + x.b else 0 := rfl
      have hlim : lim x = !decide (x.q = 4611686018427387904) := rfl
      have emn : (if lim x = true then mn x.q (mst x - hld x) else 0) = (if mst x - hld x < x.q then mst x - hld x else x.q) := by
        cases hx : lim x with
        | true => simp only [if_true]; rfl
        | false =>
          rw [hx] at hmst hlim
          have hq : x.q = 4611686018427387904 := by simpa using hlim
          simp only [zaI, if_false] at hmst ⊢
          rw [hmst, hq, if_pos (by omega)]
          omega
      simp only [pre, plt, plc, pfil, emn]
      generalize mst x = M at *
      generalize hld x = H at *
      clear h0 hn emn hmst hlim
      obtain ⟨g, q, b, s, l, c, sp, pe, th, em⟩ := x
      simp only [plt, plc, plo] at *
      refine fnspec_of mixed TT_ok TT_cl ⟨fun _ => false, fun _ => [], 0, fun _ => false, fun _ => false⟩ Tryz.func50 rfl (by kernel_rfl) rfl 34 rfl [.cell 2 43, .tmp 3] rfl ?_
      simp only [go_sem, zaa, zag, zah, zai, zaj, zad, ↓reduceIte, reduceCtorEq, zab, zac, zak, zal, zam, plc, plo]
      repeat' (first
 | with_reducible refine zan ?_ ?_
 | (unfold OKC; kernel_rfl)
 | (unfold EDG; kernel_rfl)
 | (apply cl_plain
    case hs => rfl
    case ha => (simp only [zae, zaf, prepV, prepC, idx, hpL', lookR, zaa, if_true, if_false]; rfl)
    case h => (first | exact h1 .. | exact h2 .. | exact h3 .. | exact h4 ..))
 | ((first | refine s1_id ?_ | refine swp_id ?_ | refine sops_id ?_ | refine s2_id ?_); simp only [plc, plo, decide_eq_false hpe, go_sem, zaa, zag, zah, zai, zaj, zad, ↓reduceIte, reduceCtorEq, zab, zac, zak, zal, zam, zaE, zaD, zar, zaB, renO, bk, back, outUpsFrom, Ints_ren])
 | (intros; omega)
 | (intros; (try simp only [zaz, zaC, zau, zaw, zax, zaq, decide_eq_true_eq, decide_eq_false_iff_not] at *); omega))
      (refine fs_frz 10 ⟨Ints c, 1⟩ (by simp only [zaG, lookR, zaa, if_true, if_false, ↓reduceIte]) (by first | exact Ints_isG _ | exact Bools_isG _ | (simp [zaL]; done)) ?_; simp only [frzTm, zaT, zaO, zaM, frzHp, frzO, Ints_frz, Bools_frz, zae, zaf, zaa, if_true, if_false, ↓reduceIte])
      repeat' (first
 | (refine fs_w ?h1 (svw_of ?h2); (case h1 => repeat' (first | exact trivial | exact rfl | exact zav rfl | apply zan)); (case h2 => repeat' (first | ((with_reducible refine (?_ : CW _ _)); first | exact cw_gnil | exact cw_rfl _ | exact cw_niln _ _ | exact cw_cap _ _ _ _) | exact trivial | (show _ ∧ SWL _ _; apply zan) | (show _ ∧ CWL _ _; apply zan) | show CW _ _)))
 | fail)
theorem rrefill_spec (x : Pl) (k : Option Nat) (hw : Wk x) : FnSpec Tryz.prog 58 [plt x k] [] (pre (prefill x)) [] := by
  have h1 := rchk_spec x k hw
  clear hw
  unfold prefill
  split
  · rename_i h0
    rw [h0] at h1
    clear h0
    obtain ⟨g, q, b, s, l, c, sp, pe, th, em⟩ := x
    simp only [plt, plc, pz, pre] at *
    refine fnspec_of mixed TT_ok TT_cl ⟨fun _ => false, fun _ => [], 0, fun _ => false, fun _ => false⟩ Tryz.func58 rfl (by kernel_rfl) rfl 41 rfl [.cell 2 43, .tmp 3] rfl ?_
    simp only [go_sem, zaa, zag, zah, zai, zaj, zad, ↓reduceIte, reduceCtorEq, zab, zac, zak, zal, zam, plc]
    repeat' (first
 | (apply cl_plain
    case hs => rfl
    case ha => (simp only [zae, zaf, prepV, prepC, idx, hpL', lookR, zaa, if_true, if_false]; rfl)
    case h => (first | exact h1 ..))
 | ((first | refine s1_id ?_ | refine swp_id ?_ | refine sops_id ?_ | refine s2_id ?_); simp only [plc, go_sem, zaa, zag, zah, zai, zaj, zad, ↓reduceIte, reduceCtorEq, zab, zac, zak, zal, zam, zaE, zaD, zar, zaB, renO, bk, back, outUpsFrom, Ints_ren])
 | (intros; (try simp only [zaz, zaC, zau, zaw, zax, zaq, decide_eq_true_eq, decide_eq_false_iff_not] at *); omega))
    repeat' (first
 | (refine fs_w ?h1 (svw_of ?h2); (case h1 => repeat' (first | exact trivial | exact rfl | exact zav rfl | apply zan)); (case h2 => repeat' (first | ((with_reducible refine (?_ : CW _ _)); first | exact cw_gnil | exact cw_rfl _ | exact cw_niln _ _ | exact cw_cap _ _ _ _) | exact trivial | (show _ ∧ SWL _ _; apply zan) | (show _ ∧ CWL _ _; apply zan) | show CW _ _)))
 | fail)
  · rename_i h0
    rw [Bool.not_eq_false] at h0
    rw [h0] at h1
    split
    · rename_i hpe
      clear h0
      obtain ⟨g, q, b, s, l, c, sp, pe, th, em⟩ := x
      simp only [plt, plc, pz, pre] at *
      refine fnspec_of mixed TT_ok TT_cl ⟨fun _ => false, fun _ => [], 0, fun _ => false, fun _ => false⟩ Tryz.func58 rfl (by kernel_rfl) rfl 41 rfl [.cell 2 43, .tmp 3] rfl ?_
      simp only [go_sem, zaa, zag, zah, zai, zaj, zad, ↓reduceIte, reduceCtorEq, zab, zac, zak, zal, zam, plc]
      repeat' (first
 | (apply cl_plain
    case hs => rfl
    case ha => (simp only [zae, zaf, prepV, prepC, idx, hpL', lookR, zaa, if_true, if_false]; rfl)
    case h => (first | exact h1 ..))
 | ((first | refine s1_id ?_ | refine swp_id ?_ | refine sops_id ?_ | refine s2_id ?_); simp only [plc, decide_eq_true hpe, go_sem, zaa, zag, zah, zai, zaj, zad, ↓reduceIte, reduceCtorEq, zab, zac, zak, zal, zam, zaE, zaD, zar, zaB, renO, bk, back, outUpsFrom, Ints_ren])
 | (intros; (try simp only [zaz, zaC, zau, zaw, zax, zaq, decide_eq_true_eq, decide_eq_false_iff_not] at *); omega))
      repeat' (first
 | (refine fs_w ?h1 (svw_of ?h2); (case h1 => repeat' (first | exact trivial | exact rfl | exact zav rfl | apply zan)); (case h2 => repeat' (first | ((with_reducible refine (?_ : CW _ _)); first | exact cw_gnil | exact cw_rfl _ | exact cw_niln _ _ | exact cw_cap _ _ _ _) | exact trivial | (show _ ∧ SWL _ _; apply zan) | (show _ ∧ CWL _ _; apply zan) | show CW _ _)))
 | fail)
    · rename_i hpe
      have hn := nums h0
      have h2 := rlimited_spec x k
      have h3 := rheld_spec x k (sml_pck h0)
      have h4 := rcopy_spec x k (by have := hn.len; omega)
      have hh := hld_ge h0
      have hH := hn.h
      have hM := hn.m
      have hL := hn.l
      have hP := hn.pe
      have hS := hn.st
      have hmst : mst x = if lim x = true then x.q + x.b else 0 := rfl
      simp only [pre, plt, plc, pfil]
      cases hx : lim x with
      | true =>
        rw [hx] at h2 hmst
        simp only [if_true] at hmst ⊢
        have hlim : x.q ≠ 4611686018427387904 := by
          have hlim : lim x = !decide (x.q = 4611686018427387904) := rfl
          rw [hx] at hlim; simpa using hlim.symm
        rw [hmst] at hM hL hH ⊢
        have emn : mn x.q (x.q + x.b - hld x) = if x.q + x.b - hld x < x.q then x.q + x.b - hld x else x.q := rfl
        rw [emn]
        generalize mst x = M at *
        generalize hld x = H at *
        clear h0 hn emn hx
        obtain ⟨g, q, b, s, l, c, sp, pe, th, em⟩ := x
        simp only [plt, plc, plo] at *
        refine fnspec_of mixed TT_ok TT_cl ⟨fun _ => false, fun _ => [], 0, fun _ => false, fun _ => false⟩ Tryz.func58 rfl (by kernel_rfl) rfl 41 rfl [.cell 2 43, .tmp 3] rfl ?_
        simp only [go_sem, zaa, zag, zah, zai, zaj, zad, ↓reduceIte, reduceCtorEq, zab, zac, zak, zal, zam, plc, plo]
        repeat' (first
 | with_reducible refine zan ?_ ?_
 | (unfold OKC; kernel_rfl)
 | (unfold EDG; kernel_rfl)
 | (apply cl_plain
    case hs => rfl
    case ha => (simp only [zae, zaf, prepV, prepC, idx, hpL', lookR, zaa, if_true, if_false]; rfl)
    case h => (first | exact h1 .. | exact h2 .. | exact h3 .. | exact h4 ..))
 | ((first | refine s1_id ?_ | refine swp_id ?_ | refine sops_id ?_ | refine s2_id ?_); simp only [plc, plo, decide_eq_false hpe, go_sem, zaa, zag, zah, zai, zaj, zad, ↓reduceIte, reduceCtorEq, zab, zac, zak, zal, zam, zaE, zaD, zar, zaB, renO, bk, back, outUpsFrom, Ints_ren])
 | (intros; omega)
 | (intros; (try simp only [zaz, zaC, zau, zaw, zax, zaq, decide_eq_true_eq, decide_eq_false_iff_not] at *); omega))
        (refine fs_frz 12 ⟨Ints c, 1⟩ (by simp only [zaG, lookR, zaa, if_true, if_false, ↓reduceIte]) (by first | exact Ints_isG _ | exact Bools_isG _ | (simp [zaL]; done)) ?_; simp only [frzTm, zaT, zaO, zaM, frzHp, frzO, Ints_frz, Bools_frz, zae, zaf, zaa, if_true, if_false, ↓reduceIte])
        repeat' (first
 | (refine fs_w ?h1 (svw_of ?h2); (case h1 => repeat' (first | exact trivial | exact rfl | exact zav rfl | apply zan)); (case h2 => repeat' (first | ((with_reducible refine (?_ : CW _ _)); first | exact cw_gnil | exact cw_rfl _ | exact cw_niln _ _ | exact cw_cap _ _ _ _) | exact trivial | (show _ ∧ SWL _ _; apply zan) | (show _ ∧ CWL _ _; apply zan) | show CW _ _)))
 | fail)
      | false =>
        rw [hx] at h2
        simp only [zaI, if_false, Int.add_zero]
        generalize mst x = M at *
        generalize hld x = H at *
        clear h0 hn hx hmst
        obtain ⟨g, q, b, s, l, c, sp, pe, th, em⟩ := x
        simp only [plt, plc, plo] at *
        refine fnspec_of mixed TT_ok TT_cl ⟨fun _ => false, fun _ => [], 0, fun _ => false, fun _ => false⟩ Tryz.func58 rfl (by kernel_rfl) rfl 41 rfl [.cell 2 43, .tmp 3] rfl ?_
        simp only [go_sem, zaa, zag, zah, zai, zaj, zad, ↓reduceIte, reduceCtorEq, zab, zac, zak, zal, zam, plc, plo]
        repeat' (first
 | with_reducible refine zan ?_ ?_
 | (apply cl_plain
    case hs => rfl
    case ha => (simp only [zae, zaf, prepV, prepC, idx, hpL', lookR, zaa, if_true, if_false]; rfl)
    case h => (first | exact h1 .. | exact h2 .. | exact h3 .. | exact h4 ..))
 | ((first | refine s1_id ?_ | refine swp_id ?_ | refine sops_id ?_ | refine s2_id ?_); simp only [plc, plo, decide_eq_false hpe, go_sem, zaa, zag, zah, zai, zaj, zad, ↓reduceIte, reduceCtorEq, zab, zac, zak, zal, zam, zaE, zaD, zar, zaB, renO, bk, back, outUpsFrom, Ints_ren])
 | (intros; omega)
 | (intros; (try simp only [zaz, zaC, zau, zaw, zax, zaq, decide_eq_true_eq, decide_eq_false_iff_not] at *); omega))
        (refine fs_frz 12 ⟨Ints c, 1⟩ (by simp only [zaG, lookR, zaa, if_true, if_false, ↓reduceIte]) (by first | exact Ints_isG _ | exact Bools_isG _ | (simp [zaL]; done)) ?_; simp only [frzTm, zaT, zaO, zaM, frzHp, frzO, Ints_frz, Bools_frz, zae, zaf, zaa, if_true, if_false, ↓reduceIte])
        repeat' (first
 | (refine fs_w ?h1 (svw_of ?h2); (case h1 => repeat' (first | exact trivial | exact rfl | exact zav rfl | apply zan)); (case h2 => repeat' (first | ((with_reducible refine (?_ : CW _ _)); first | exact cw_gnil | exact cw_rfl _ | exact cw_niln _ _ | exact cw_cap _ _ _ _) | exact trivial | (show _ ∧ SWL _ _; apply zan) | (show _ ∧ CWL _ _; apply zan) | show CW _ _)))
 | fail)
/-! ### Spend -/
def msp (x : Pl) : Int := mn (x.sp + 1) 1099511627776
def pemp (x : Pl) : Pl := { x with th := if x.em = true then x.th else x.th + 1, em := true }
def pdec (x : Pl) (cpu : Int) : Pl := { x with c := x.c.set cpu.toNat (x.c.getD cpu.toNat 0 - 1), sp := msp x }
def pspend (x : Pl) (cpu : Int) : Pl × Int :=
  if pchk x cpu ≠ 0 then (pz, pchk x cpu) else if lim x = false then ({ x with sp := msp x }, 0)
  else if x.l + x.c.getD cpu.toNat 0 = 0 then (pemp x, 11) else if x.c.getD cpu.toNat 0 = 0 then (pdec (ptk x cpu) cpu, 0) else (pdec x cpu, 0)
theorem pmv_zero {x : Pl} {cpu : Int} : pmv x cpu 0 = x := by
  simp only [pmv, Int.sub_zero, Int.add_zero, set_self]
theorem spend_no (x : Pl) (k : Option Nat) (cpu : Int) (hl : x.c.length ≤ 1000) (h0 : pchk x cpu ≠ 0) : FnSpec Tryz.prog 44 [plt x k, i1 cpu] [] (pre (pz, pchk x cpu)) [] := by
  have h1 := chk_spec x k cpu hl
  generalize pchk x cpu = e at *
  obtain ⟨g, q, b, s, l, c, sp, pe, th, em⟩ := x
  simp only [plt, plc, pz, pre] at *
  refine fnspec_of mixed TT_ok TT_cl ⟨fun _ => false, fun _ => [], 0, fun _ => false, fun _ => false⟩ Tryz.func44 rfl (by kernel_rfl) rfl 64 rfl [.cell 4 43, .tmp 5] rfl ?_
  simp only [go_sem, zaa, zag, zah, zai, zaj, zad, ↓reduceIte, reduceCtorEq, zab, zac, zak, zal, zam, plc]
  repeat' (first
 | (apply cl_plain
    case hs => rfl
    case ha => (simp only [zae, zaf, prepV, prepC, idx, hpL', lookR, zaa, if_true, if_false]; rfl)
    case h => (first | exact h1 ..))
 | ((first | refine s1_id ?_ | refine swp_id ?_ | refine sops_id ?_ | refine s2_id ?_); simp only [plc, decide_eq_false h0, go_sem, zaa, zag, zah, zai, zaj, zad, ↓reduceIte, reduceCtorEq, zab, zac, zak, zal, zam, zaE, zaD, zar, zaB, renO, bk, back, outUpsFrom, Ints_ren])
 | (intros; (try simp only [zaz, zaC, zau, zaw, zax, zaq, decide_eq_true_eq, decide_eq_false_iff_not] at *); omega))
  repeat' (first
 | (refine fs_w ?h1 (svw_of ?h2); (case h1 => repeat' (first | exact trivial | exact rfl | exact zav rfl | apply zan)); (case h2 => repeat' (first | ((with_reducible refine (?_ : CW _ _)); first | exact cw_gnil | exact cw_rfl _ | exact cw_niln _ _ | exact cw_cap _ _ _ _) | exact trivial | (show _ ∧ SWL _ _; apply zan) | (show _ ∧ CWL _ _; apply zan) | show CW _ _)))
 | fail)
theorem spend_ok (x : Pl) (k : Option Nat) (cpu : Int) (h0 : pchk x cpu = 0) : FnSpec Tryz.prog 44 [plt x k, i1 cpu] [] (pre (pspend x cpu)) [] := by
  have hp := pchk_ok h0
  have hn := nums hp.1
  have ha := pck_all hp.1 cpu.toNat
  have hM := hn.m
  have hL := hn.l
  have hlen := hn.len
  have hS := hn.s
  have hT := hn.th
  have hP := hn.pe
  have hSp := hn.sp
  have hlt := hp.2
  have h1 := chk_spec x k cpu (by omega)
  rw [h0] at h1
  have h2 := limited_spec x k
  have h3 := copy_spec x k (by omega) (by omega)
  have hmn := mn_le x.s x.l
  have hmst : mst x = if lim x = true then x.q + x.b else 0 := rfl
  unfold pspend
  rw [if_neg (by simpa using h0)]
  have esp : msp x = if 1099511627776 < x.sp + 1 then 1099511627776 else x.sp + 1 := rfl
  by_cases hc : x.c.getD cpu.toNat 0 = 0
  · have h4 := move_spec x cpu (mn x.s x.l) x.c.length none rfl (by omega) (by omega) (by omega) (by omega)
    have emn : mn x.s x.l = if x.l < x.s then x.l else x.s := rfl
    cases hx : lim x with
    | false =>
      rw [hx] at h2 hmst
      simp only [zaI, if_false] at hmst
      have hl0 : x.l = 0 := by omega
      have e0 : mn x.s x.l = 0 := by rw [emn, hl0, if_pos (by omega)]
      rw [e0, pmv_zero] at h4
      rw [e0, hl0] at emn
      rw [if_pos rfl]
      simp only [pre, plt, plc]
      rw [esp]
      generalize mst x = M at *
      clear h0 hp hn esp hmst e0 hx
      obtain ⟨g, q, b, s, l, c, sp, pe, th, em⟩ := x
      simp only [plt, plc, plo] at *
      subst hl0
      refine fnspec_of mixed TT_ok TT_cl ⟨fun _ => false, fun f => if f = 80 then [0, 100] else [], 0, fun _ => false, fun _ => false⟩ Tryz.func44 rfl (by kernel_rfl) rfl 64 rfl [.cell 4 43, .tmp 5] rfl ?_
      simp only [go_sem, zaa, zag, zah, zai, zaj, zad, ↓reduceIte, reduceCtorEq, zab, zac, zak, zal, zam, plc, plo]
      repeat' (first
 | with_reducible refine zan ?_ ?_
 | (apply cl_plain
    case hs => rfl
    case ha => (simp only [zae, zaf, prepV, prepC, idx, hpL', lookR, zaa, if_true, if_false]; rfl)
    case h => (first | exact h1 .. | exact h2 .. | exact h3 .. | exact h4 ..))
 | (apply cl_lendx
    case ha => (simp only [zae, zaf, prepV, prepC, idx, hpL', lookR, zaa, if_true, if_false]; rfl)
    case hr => (simp only [lentRows, zae, zaf, hpL', lookR, zaB, zar, idx, Ints_ren, zaa, if_true, if_false, ↓reduceIte, reduceCtorEq]; rfl)
    case hs => rfl
    case hn => decide
    case h => (first | exact h1 .. | exact h2 .. | exact h3 .. | exact h4 ..)
    case hf => (intro r hr; simp only [zaS, zap, or_false] at hr; rcases hr with rfl | rfl <;> (refine ⟨_, rfl, ?_⟩; first | exact fun c hc q hq => absurd hq (Ints_refs0 _ _ c hc) | (simp [zaH]; done)))
    case hl => (simp only [zaK, zaN]; decide))
 | ((first | refine s1_id ?_ | refine swp_id ?_ | refine sops_id ?_ | refine s2_id ?_); simp only [plc, plo, decide_eq_true hc, ← emn, go_sem, zaa, zag, zah, zai, zaj, zad, ↓reduceIte, reduceCtorEq, zab, zac, zak, zal, zam, zaE, zaD, zar, zaB, renO, bk, back, outUpsFrom, Ints_ren])
 | (intros; omega)
 | (intros; (try simp only [zaz, zaC, zau, zaw, zax, zaq, decide_eq_true_eq, decide_eq_false_iff_not] at *); omega))
      (refine fs_frz 10 ⟨Ints c, 1⟩ (by simp only [zaG, lookR, zaa, if_true, if_false, ↓reduceIte]) (by first | exact Ints_isG _ | exact Bools_isG _ | (simp [zaL]; done)) ?_; simp only [frzTm, zaT, zaO, zaM, frzHp, frzO, Ints_frz, Bools_frz, zae, zaf, zaa, if_true, if_false, ↓reduceIte])
      repeat' (first
 | (refine fs_w ?h1 (svw_of ?h2); (case h1 => repeat' (first | exact trivial | exact rfl | exact zav rfl | apply zan)); (case h2 => repeat' (first | ((with_reducible refine (?_ : CW _ _)); first | exact cw_gnil | exact cw_rfl _ | exact cw_niln _ _ | exact cw_cap _ _ _ _) | exact trivial | (show _ ∧ SWL _ _; apply zan) | (show _ ∧ CWL _ _; apply zan) | show CW _ _)))
 | fail)
    | true =>
      rw [hx] at h2
      rw [if_neg (by simp)]
      by_cases hl0 : x.l = 0
      · have e0 : mn x.s x.l = 0 := by rw [emn, hl0, if_pos (by omega)]
        rw [e0, pmv_zero] at h4
        rw [e0, hl0] at emn
        rw [if_pos (by omega)]
        simp only [pre, plt, plc, pemp]
        generalize mst x = M at *
        clear h0 hp hn esp hmst e0 hx
        obtain ⟨g, q, b, s, l, c, sp, pe, th, em⟩ := x
        simp only [plt, plc, plo] at *
        subst hl0
        cases em with
        | true =>
          refine fnspec_of mixed TT_ok TT_cl ⟨fun _ => false, fun f => if f = 80 then [0, 100] else [], 0, fun _ => false, fun _ => false⟩ Tryz.func44 rfl (by kernel_rfl) rfl 64 rfl [.cell 4 43, .tmp 5] rfl ?_
          simp only [go_sem, zaa, zag, zah, zai, zaj, zad, ↓reduceIte, reduceCtorEq, zab, zac, zak, zal, zam, plc, plo]
          repeat' (first
 | with_reducible refine zan ?_ ?_
 | (apply cl_plain
    case hs => rfl
    case ha => (simp only [zae, zaf, prepV, prepC, idx, hpL', lookR, zaa, if_true, if_false]; rfl)
    case h => (first | exact h1 .. | exact h2 .. | exact h3 .. | exact h4 ..))
 | (apply cl_lendx
    case ha => (simp only [zae, zaf, prepV, prepC, idx, hpL', lookR, zaa, if_true, if_false]; rfl)
    case hr => (simp only [lentRows, zae, zaf, hpL', lookR, zaB, zar, idx, Ints_ren, zaa, if_true, if_false, ↓reduceIte, reduceCtorEq]; rfl)
    case hs => rfl
    case hn => decide
    case h => (first | exact h1 .. | exact h2 .. | exact h3 .. | exact h4 ..)
    case hf => (intro r hr; simp only [zaS, zap, or_false] at hr; rcases hr with rfl | rfl <;> (refine ⟨_, rfl, ?_⟩; first | exact fun c hc q hq => absurd hq (Ints_refs0 _ _ c hc) | (simp [zaH]; done)))
    case hl => (simp only [zaK, zaN]; decide))
 | ((first | refine s1_id ?_ | refine swp_id ?_ | refine sops_id ?_ | refine s2_id ?_); simp only [plc, plo, decide_eq_true hc, ← emn, go_sem, zaa, zag, zah, zai, zaj, zad, ↓reduceIte, reduceCtorEq, zab, zac, zak, zal, zam, zaE, zaD, zar, zaB, renO, bk, back, outUpsFrom, Ints_ren])
 | (intros; omega)
 | (intros; (try simp only [zaz, zaC, zau, zaw, zax, zaq, decide_eq_true_eq, decide_eq_false_iff_not] at *); omega))
          (refine fs_frz 10 ⟨Ints c, 1⟩ (by simp only [zaG, lookR, zaa, if_true, if_false, ↓reduceIte]) (by first | exact Ints_isG _ | exact Bools_isG _ | (simp [zaL]; done)) ?_; simp only [frzTm, zaT, zaO, zaM, frzHp, frzO, Ints_frz, Bools_frz, zae, zaf, zaa, if_true, if_false, ↓reduceIte])
          repeat' (first
 | (refine fs_w ?h1 (svw_of ?h2); (case h1 => repeat' (first | exact trivial | exact rfl | exact zav rfl | apply zan)); (case h2 => repeat' (first | ((with_reducible refine (?_ : CW _ _)); first | exact cw_gnil | exact cw_rfl _ | exact cw_niln _ _ | exact cw_cap _ _ _ _) | exact trivial | (show _ ∧ SWL _ _; apply zan) | (show _ ∧ CWL _ _; apply zan) | show CW _ _)))
 | fail)
        | false =>
          refine fnspec_of mixed TT_ok TT_cl ⟨fun _ => false, fun f => if f = 80 then [0, 100] else [], 0, fun _ => false, fun _ => false⟩ Tryz.func44 rfl (by kernel_rfl) rfl 64 rfl [.cell 4 43, .tmp 5] rfl ?_
          simp only [go_sem, zaa, zag, zah, zai, zaj, zad, ↓reduceIte, reduceCtorEq, zab, zac, zak, zal, zam, plc, plo]
          repeat' (first
 | with_reducible refine zan ?_ ?_
 | (apply cl_plain
    case hs => rfl
    case ha => (simp only [zae, zaf, prepV, prepC, idx, hpL', lookR, zaa, if_true, if_false]; rfl)
    case h => (first | exact h1 .. | exact h2 .. | exact h3 .. | exact h4 ..))
 | (apply cl_lendx
    case ha => (simp only [zae, zaf, prepV, prepC, idx, hpL', lookR, zaa, if_true, if_false]; rfl)
    case hr => (simp only [lentRows, zae, zaf, hpL', lookR, zaB, zar, idx, Ints_ren, zaa, if_true, if_false, ↓reduceIte, reduceCtorEq]; rfl)
    case hs => rfl
    case hn => decide
    case h => (first | exact h1 .. | exact h2 .. | exact h3 .. | exact h4 ..)
    case hf => (intro r hr; simp only [zaS, zap, or_false] at hr; rcases hr with rfl | rfl <;> (refine ⟨_, rfl, ?_⟩; first | exact fun c hc q hq => absurd hq (Ints_refs0 _ _ c hc) | (simp [zaH]; done)))
    case hl => (simp only [zaK, zaN]; decide))
 | ((first | refine s1_id ?_ | refine swp_id ?_ | refine sops_id ?_ | refine s2_id ?_); simp only [plc, plo, decide_eq_true hc, ← emn, go_sem, zaa, zag, zah, zai, zaj, zad, ↓reduceIte, reduceCtorEq, zab, zac, zak, zal, zam, zaE, zaD, zar, zaB, renO, bk, back, outUpsFrom, Ints_ren])
 | (intros; omega)
 | (intros; (try simp only [zaz, zaC, zau, zaw, zax, zaq, decide_eq_true_eq, decide_eq_false_iff_not] at *); omega))
          (refine fs_frz 10 ⟨Ints c, 1⟩ (by simp only [zaG, lookR, zaa, if_true, if_false, ↓reduceIte]) (by first | exact Ints_isG _ | exact Bools_isG _ | (simp [zaL]; done)) ?_; simp only [frzTm, zaT, zaO, zaM, frzHp, frzO, Ints_frz, Bools_frz, zae, zaf, zaa, if_true, if_false, ↓reduceIte])
          repeat' (first
 | (refine fs_w ?h1 (svw_of ?h2); (case h1 => repeat' (first | exact trivial | exact rfl | exact zav rfl | apply zan)); (case h2 => repeat' (first | ((with_reducible refine (?_ : CW _ _)); first | exact cw_gnil | exact cw_rfl _ | exact cw_niln _ _ | exact cw_cap _ _ _ _) | exact trivial | (show _ ∧ SWL _ _; apply zan) | (show _ ∧ CWL _ _; apply zan) | show CW _ _)))
 | fail)
      · have hn1 : 1 ≤ mn x.s x.l := by rw [emn]; split <;> omega
        rw [if_neg (by omega), if_pos hc]
        simp only [pre, plt, plc, ptk, pdec, pmv, zaP, msp, mn] at *
        generalize hng : (if x.l < x.s then x.l else x.s) = n at *
        have hgd : (x.c.set cpu.toNat (x.c.getD cpu.toNat 0 + n)).getD cpu.toNat 0 = n := by
          rw [List.getD_eq_getElem?_getD, List.getElem?_set_self (by omega)]
          simp only [zay]; omega
        rw [hgd]
        have hc2 : (x.c.set cpu.toNat (x.c.getD cpu.toNat 0 + n)).length = x.c.length := by simp
        generalize (x.c.set cpu.toNat (x.c.getD cpu.toNat 0 + n)) = c2 at *
        have hn0 : ¬ n = 0 := by omega
        generalize mst x = M at *
        clear h0 hp hn esp hmst hx
        obtain ⟨g, q, b, s, l, c, sp, pe, th, em⟩ := x
        simp only [plt, plc, plo] at *
        refine fnspec_of mixed TT_ok TT_cl ⟨fun _ => false, fun f => if f = 80 then [0, 100] else [], 0, fun _ => false, fun _ => false⟩ Tryz.func44 rfl (by kernel_rfl) rfl 64 rfl [.cell 4 43, .tmp 5] rfl ?_
        simp only [go_sem, zaa, zag, zah, zai, zaj, zad, ↓reduceIte, reduceCtorEq, zab, zac, zak, zal, zam, plc, plo]
        repeat' (first
 | with_reducible refine zan ?_ ?_
 | (apply cl_plain
    case hs => rfl
    case ha => (simp only [zae, zaf, prepV, prepC, idx, hpL', lookR, zaa, if_true, if_false]; rfl)
    case h => (first | exact h1 .. | exact h2 .. | exact h3 .. | exact h4 ..))
 | (apply cl_lendx
    case ha => (simp only [zae, zaf, prepV, prepC, idx, hpL', lookR, zaa, if_true, if_false]; rfl)
    case hr => (simp only [lentRows, zae, zaf, hpL', lookR, zaB, zar, idx, Ints_ren, zaa, if_true, if_false, ↓reduceIte, reduceCtorEq]; rfl)
    case hs => rfl
    case hn => decide
    case h => (first | exact h1 .. | exact h2 .. | exact h3 .. | exact h4 ..)
    case hf => (intro r hr; simp only [zaS, zap, or_false] at hr; rcases hr with rfl | rfl <;> (refine ⟨_, rfl, ?_⟩; first | exact fun c hc q hq => absurd hq (Ints_refs0 _ _ c hc) | (simp [zaH]; done)))
    case hl => (simp only [zaK, zaN]; decide))
 | ((first | refine s1_id ?_ | refine swp_id ?_ | refine sops_id ?_ | refine s2_id ?_); simp only [plc, plo, decide_eq_true hc, decide_eq_false hn0, hng, hgd, go_sem, zaa, zag, zah, zai, zaj, zad, ↓reduceIte, reduceCtorEq, zab, zac, zak, zal, zam, zaE, zaD, zar, zaB, renO, bk, back, outUpsFrom, Ints_ren])
 | (intros; omega)
 | (intros; (try simp only [zaz, zaC, zau, zaw, zax, zaq, decide_eq_true_eq, decide_eq_false_iff_not] at *); omega))
        (refine fs_frz 10 ⟨Ints (c2.set cpu.toNat (n - 1)), 1⟩ (by simp only [zaG, lookR, zaa, if_true, if_false, ↓reduceIte]) (by first | exact Ints_isG _ | exact Bools_isG _ | (simp [zaL]; done)) ?_; simp only [frzTm, zaT, zaO, zaM, frzHp, frzO, Ints_frz, Bools_frz, zae, zaf, zaa, if_true, if_false, ↓reduceIte])
        repeat' (first
 | (refine fs_w ?h1 (svw_of ?h2); (case h1 => repeat' (first | exact trivial | exact rfl | exact zav rfl | apply zan)); (case h2 => repeat' (first | ((with_reducible refine (?_ : CW _ _)); first | exact cw_gnil | exact cw_rfl _ | exact cw_niln _ _ | exact cw_cap _ _ _ _) | exact trivial | (show _ ∧ SWL _ _; apply zan) | (show _ ∧ CWL _ _; apply zan) | show CW _ _)))
 | fail)
  · have hx : lim x = true := by
      cases hx : lim x with
      | true => rfl
      | false =>
        rw [hx] at hmst
        simp only [zaI, if_false] at hmst
        omega
    rw [hx] at h2
    rw [if_neg (by simp [hx]), if_neg (by omega), if_neg hc]
    simp only [pre, plt, plc, pdec, zaP, msp, mn]
    generalize mst x = M at *
    clear h0 hp hn esp hmst hx hmn
    obtain ⟨g, q, b, s, l, c, sp, pe, th, em⟩ := x
    simp only [plt, plc, plo] at *
    refine fnspec_of mixed TT_ok TT_cl ⟨fun _ => false, fun f => if f = 80 then [0, 100] else [], 0, fun _ => false, fun _ => false⟩ Tryz.func44 rfl (by kernel_rfl) rfl 64 rfl [.cell 4 43, .tmp 5] rfl ?_
    simp only [go_sem, zaa, zag, zah, zai, zaj, zad, ↓reduceIte, reduceCtorEq, zab, zac, zak, zal, zam, plc, plo]
    repeat' (first
 | with_reducible refine zan ?_ ?_
 | (apply cl_plain
    case hs => rfl
    case ha => (simp only [zae, zaf, prepV, prepC, idx, hpL', lookR, zaa, if_true, if_false]; rfl)
    case h => (first | exact h1 .. | exact h2 .. | exact h3 ..))
 | ((first | refine s1_id ?_ | refine swp_id ?_ | refine sops_id ?_ | refine s2_id ?_); simp only [plc, plo, decide_eq_false hc, go_sem, zaa, zag, zah, zai, zaj, zad, ↓reduceIte, reduceCtorEq, zab, zac, zak, zal, zam, zaE, zaD, zar, zaB, renO, bk, back, outUpsFrom, Ints_ren])
 | (intros; omega)
 | (intros; (try simp only [zaz, zaC, zau, zaw, zax, zaq, decide_eq_true_eq, decide_eq_false_iff_not] at *); omega))
    (refine fs_frz 10 ⟨Ints (c.set cpu.toNat (c.getD cpu.toNat 0 - 1)), 1⟩ (by simp only [zaG, lookR, zaa, if_true, if_false, ↓reduceIte]) (by first | exact Ints_isG _ | exact Bools_isG _ | (simp [zaL]; done)) ?_; simp only [frzTm, zaT, zaO, zaM, frzHp, frzO, Ints_frz, Bools_frz, zae, zaf, zaa, if_true, if_false, ↓reduceIte])
    repeat' (first
 | (refine fs_w ?h1 (svw_of ?h2); (case h1 => repeat' (first | exact trivial | exact rfl | exact zav rfl | apply zan)); (case h2 => repeat' (first | ((with_reducible refine (?_ : CW _ _)); first | exact cw_gnil | exact cw_rfl _ | exact cw_niln _ _ | exact cw_cap _ _ _ _) | exact trivial | (show _ ∧ SWL _ _; apply zan) | (show _ ∧ CWL _ _; apply zan) | show CW _ _)))
 | fail)
theorem spend_spec (x : Pl) (k : Option Nat) (cpu : Int) (hl : x.c.length ≤ 1000) : FnSpec Tryz.prog 44 [plt x k, i1 cpu] [] (pre (pspend x cpu)) [] := by
  by_cases h0 : pchk x cpu = 0
  · exact spend_ok x k cpu h0
  · have := spend_no x k cpu hl h0
    unfold pspend
    rw [if_pos h0]
    exact this
end Go.Proofs.YtcnilpdlcmpbbaaGreat
-- NEWGO
-- PRUNE: cg_ts cg_show cl_use
namespace Go.Proofs.YtcnilpdlcmpbbaaGreat
set_option linter.unusedVariables false
set_option linter.unusedSimpArgs false
open Go.Proofs.YtcnilpdlcmpbbaaGreat.Sh
set_option maxRecDepth 20000
theorem rspend_no (x : Pl) (k : Option Nat) (cpu : Int) (hw : Wk x) (h0 : pchk x cpu ≠ 0) : FnSpec Tryz.prog 56 [plt x k, i1 cpu] [] (pre (pz, pchk x cpu)) [] := by
  have h1 := rready_spec x k cpu hw
  clear hw
  generalize pchk x cpu = e at *
  obtain ⟨g, q, b, s, l, c, sp, pe, th, em⟩ := x
  simp only [plt, plc, pz, pre] at *
  refine fnspec_of mixed TT_ok TT_cl ⟨fun _ => false, fun _ => [], 0, fun _ => false, fun _ => false⟩ Tryz.func56 rfl (by kernel_rfl) rfl 57 rfl [.cell 4 43, .tmp 5] rfl ?_
  simp only [go_sem, zaa, zag, zah, zai, zaj, zad, ↓reduceIte, reduceCtorEq, zab, zac, zak, zal, zam, plc]
  repeat' (first
 | (apply cl_plain
    case hs => rfl
    case ha => (simp only [zae, zaf, prepV, prepC, idx, hpL', lookR, zaa, if_true, if_false]; rfl)
    case h => (first | exact h1 ..))
 | ((first | refine s1_id ?_ | refine swp_id ?_ | refine sops_id ?_ | refine s2_id ?_); simp only [plc, decide_eq_false h0, go_sem, zaa, zag, zah, zai, zaj, zad, ↓reduceIte, reduceCtorEq, zab, zac, zak, zal, zam, zaE, zaD, zar, zaB, renO, bk, back, outUpsFrom, Ints_ren])
 | (intros; (try simp only [zaz, zaC, zau, zaw, zax, zaq, decide_eq_true_eq, decide_eq_false_iff_not] at *); omega))
  repeat' (first
 | (refine fs_w ?h1 (svw_of ?h2); (case h1 => repeat' (first | exact trivial | exact rfl | exact zav rfl | apply zan)); (case h2 => repeat' (first | ((with_reducible refine (?_ : CW _ _)); first | exact cw_gnil | exact cw_rfl _ | exact cw_niln _ _ | exact cw_cap _ _ _ _) | exact trivial | (show _ ∧ SWL _ _; apply zan) | (show _ ∧ CWL _ _; apply zan) | show CW _ _)))
 | fail)
theorem rspend_ok (x : Pl) (k : Option Nat) (cpu : Int) (h0 : pchk x cpu = 0) : FnSpec Tryz.prog 56 [plt x k, i1 cpu] [] (pre (pspend x cpu)) [] := by
  have hp := pchk_ok h0
  have hn := nums hp.1
  have ha := pck_all hp.1 cpu.toNat
  have hM := hn.m
  have hL := hn.l
  have hlen := hn.len
  have hS := hn.s
  have hT := hn.th
  have hP := hn.pe
  have hSp := hn.sp
  have hlt := hp.2
  have hmn := mn_le x.s x.l
  have h1 := rready_spec x k cpu (wk_of hp.1)
  rw [h0] at h1
  have h2 := rlimited_spec x k
  have h3 := rcopy_spec x k (by omega)
  have h4 := rroom_spec x k cpu (wk_of hp.1)
  have hmst : mst x = if lim x = true then x.q + x.b else 0 := rfl
  have eroom : proom x cpu = if lim x = false then 1099511627776 else x.l + x.c.getD cpu.toNat 0 := by
    unfold proom; rw [if_neg (by simpa using h0)]
  rw [eroom] at h4
  unfold pspend
  rw [if_neg (by simpa using h0)]
  have esp : msp x = if 1099511627776 < x.sp + 1 then 1099511627776 else x.sp + 1 := rfl
  cases hx : lim x with
  | false =>
    rw [hx] at h2 h4
    rw [if_pos rfl]
    simp only [if_true] at h4
    simp only [pre, plt, plc]
    rw [esp]
    generalize mst x = M at *
    clear h0 hp hn esp hmst hx hmn eroom
    obtain ⟨g, q, b, s, l, c, sp, pe, th, em⟩ := x
    simp only [plt, plc, plo] at *
    refine fnspec_of mixed TT_ok TT_cl ⟨fun _ => false, fun _ => [], 0, fun _ => false, fun _ => false⟩ Tryz.func56 rfl (by kernel_rfl) rfl 57 rfl [.cell 4 43, .tmp 5] rfl ?_
    simp only [go_sem, zaa, zag, zah, zai, zaj, zad, ↓reduceIte, reduceCtorEq, zab, zac, zak, zal, zam, plc, plo]
    repeat' (first
 | with_reducible refine zan ?_ ?_
 | (apply cl_plain
    case hs => rfl
    case ha => (simp only [zae, zaf, prepV, prepC, idx, hpL', lookR, zaa, if_true, if_false]; rfl)
    case h => (first | exact h1 .. | exact h2 .. | exact h3 .. | exact h4 ..))
 | ((first | refine s1_id ?_ | refine swp_id ?_ | refine sops_id ?_ | refine s2_id ?_); simp only [plc, plo, go_sem, zaa, zag, zah, zai, zaj, zad, ↓reduceIte, reduceCtorEq, zab, zac, zak, zal, zam, zaE, zaD, zar, zaB, renO, bk, back, outUpsFrom, Ints_ren])
 | (intros; omega)
 | (intros; (try simp only [zaz, zaC, zau, zaw, zax, zaq, decide_eq_true_eq, decide_eq_false_iff_not] at *); omega))
    (refine fs_frz 10 ⟨Ints c, 1⟩ (by simp only [zaG, lookR, zaa, if_true, if_false, ↓reduceIte]) (by first | exact Ints_isG _ | exact Bools_isG _ | (simp [zaL]; done)) ?_; simp only [frzTm, zaT, zaO, zaM, frzHp, frzO, Ints_frz, Bools_frz, zae, zaf, zaa, if_true, if_false, ↓reduceIte])
    repeat' (first
 | (refine fs_w ?h1 (svw_of ?h2); (case h1 => repeat' (first | exact trivial | exact rfl | exact zav rfl | apply zan)); (case h2 => repeat' (first | ((with_reducible refine (?_ : CW _ _)); first | exact cw_gnil | exact cw_rfl _ | exact cw_niln _ _ | exact cw_cap _ _ _ _) | exact trivial | (show _ ∧ SWL _ _; apply zan) | (show _ ∧ CWL _ _; apply zan) | show CW _ _)))
 | fail)
  | true =>
    rw [hx] at h2 h4
    rw [if_neg (by simp)]
    simp only [Bool.true_eq_false, if_false] at h4
    by_cases hr : x.l + x.c.getD cpu.toNat 0 = 0
    · rw [hr] at h4
      rw [if_pos hr]
      simp only [pre, plt, plc, pemp]
      generalize mst x = M at *
      clear h0 hp hn esp hmst hx hmn eroom
      obtain ⟨g, q, b, s, l, c, sp, pe, th, em⟩ := x
      simp only [plt, plc, plo] at *
      cases em with
      | true =>
        refine fnspec_of mixed TT_ok TT_cl ⟨fun _ => false, fun _ => [], 0, fun _ => false, fun _ => false⟩ Tryz.func56 rfl (by kernel_rfl) rfl 57 rfl [.cell 4 43, .tmp 5] rfl ?_
        simp only [go_sem, zaa, zag, zah, zai, zaj, zad, ↓reduceIte, reduceCtorEq, zab, zac, zak, zal, zam, plc, plo]
        repeat' (first
 | (apply cl_plain
    case hs => rfl
    case ha => (simp only [zae, zaf, prepV, prepC, idx, hpL', lookR, zaa, if_true, if_false]; rfl)
    case h => (first | exact h1 .. | exact h2 .. | exact h3 .. | exact h4 ..))
 | ((first | refine s1_id ?_ | refine swp_id ?_ | refine sops_id ?_ | refine s2_id ?_); simp only [plc, plo, go_sem, zaa, zag, zah, zai, zaj, zad, ↓reduceIte, reduceCtorEq, zab, zac, zak, zal, zam, zaE, zaD, zar, zaB, renO, bk, back, outUpsFrom, Ints_ren])
 | (intros; (try simp only [zaz, zaC, zau, zaw, zax, zaq, decide_eq_true_eq, decide_eq_false_iff_not] at *); omega))
        (refine fs_frz 10 ⟨Ints c, 1⟩ (by simp only [zaG, lookR, zaa, if_true, if_false, ↓reduceIte]) (by first | exact Ints_isG _ | exact Bools_isG _ | (simp [zaL]; done)) ?_; simp only [frzTm, zaT, zaO, zaM, frzHp, frzO, Ints_frz, Bools_frz, zae, zaf, zaa, if_true, if_false, ↓reduceIte])
        repeat' (first
 | (refine fs_w ?h1 (svw_of ?h2); (case h1 => repeat' (first | exact trivial | exact rfl | exact zav rfl | apply zan)); (case h2 => repeat' (first | ((with_reducible refine (?_ : CW _ _)); first | exact cw_gnil | exact cw_rfl _ | exact cw_niln _ _ | exact cw_cap _ _ _ _) | exact trivial | (show _ ∧ SWL _ _; apply zan) | (show _ ∧ CWL _ _; apply zan) | show CW _ _)))
 | fail)
      | false =>
        refine fnspec_of mixed TT_ok TT_cl ⟨fun _ => false, fun _ => [], 0, fun _ => false, fun _ => false⟩ Tryz.func56 rfl (by kernel_rfl) rfl 57 rfl [.cell 4 43, .tmp 5] rfl ?_
        simp only [go_sem, zaa, zag, zah, zai, zaj, zad, ↓reduceIte, reduceCtorEq, zab, zac, zak, zal, zam, plc, plo]
        repeat' (first
 | with_reducible refine zan ?_ ?_
 | (apply cl_plain
    case hs => rfl
    case ha => (simp only [zae, zaf, prepV, prepC, idx, hpL', lookR, zaa, if_true, if_false]; rfl)
    case h => (first | exact h1 .. | exact h2 .. | exact h3 .. | exact h4 ..))
 | ((first | refine s1_id ?_ | refine swp_id ?_ | refine sops_id ?_ | refine s2_id ?_); simp only [plc, plo, go_sem, zaa, zag, zah, zai, zaj, zad, ↓reduceIte, reduceCtorEq, zab, zac, zak, zal, zam, zaE, zaD, zar, zaB, renO, bk, back, outUpsFrom, Ints_ren])
 | (intros; omega)
 | (intros; (try simp only [zaz, zaC, zau, zaw, zax, zaq, decide_eq_true_eq, decide_eq_false_iff_not] at *); omega))
        (refine fs_frz 10 ⟨Ints c, 1⟩ (by simp only [zaG, lookR, zaa, if_true, if_false, ↓reduceIte]) (by first | exact Ints_isG _ | exact Bools_isG _ | (simp [zaL]; done)) ?_; simp only [frzTm, zaT, zaO, zaM, frzHp, frzO, Ints_frz, Bools_frz, zae, zaf, zaa, if_true, if_false, ↓reduceIte])
        repeat' (first
 | (refine fs_w ?h1 (svw_of ?h2); (case h1 => repeat' (first | exact trivial | exact rfl | exact zav rfl | apply zan)); (case h2 => repeat' (first | ((with_reducible refine (?_ : CW _ _)); first | exact cw_gnil | exact cw_rfl _ | exact cw_niln _ _ | exact cw_cap _ _ _ _) | exact trivial | (show _ ∧ SWL _ _; apply zan) | (show _ ∧ CWL _ _; apply zan) | show CW _ _)))
 | fail)
    · rw [if_neg hr]
      by_cases hc : x.c.getD cpu.toNat 0 = 0
      · rw [if_pos hc]
        have htk : takes x = true := by simp only [takes, hx, Bool.true_and, zau, decide_eq_false_iff_not]; omega
        have h5 := rtake_own x none cpu h0 htk
        have hn1 : 1 ≤ mn x.s x.l := by unfold mn; split <;> omega
        have hgd : (ptk x cpu).c.getD cpu.toNat 0 = mn x.s x.l := by
          simp only [ptk, pmv]
          rw [List.getD_eq_getElem?_getD, List.getElem?_set_self (by omega)]
          simp only [zay]; omega
        have hcl : (ptk x cpu).c.length = x.c.length := by simp [ptk, pmv]
        have hsp : (ptk x cpu).sp = x.sp := rfl
        simp only [pro, plt, plc, hcl] at h5
        simp only [pre, plt, plc, pdec, zaP, msp, hcl, hgd, hsp]
        rw [show mn (x.sp + 1) 1099511627776 = if 1099511627776 < x.sp + 1 then 1099511627776 else x.sp + 1 from rfl]
        generalize mn x.s x.l = n at *
        generalize ptk x cpu = y at *
        generalize mst x = M at *
        clear h0 hp hn esp hmst hx eroom htk
        obtain ⟨g, q, b, s, l, c, sp, pe, th, em⟩ := x
        obtain ⟨g2, q2, b2, s2, l2, c2, sp2, pe2, th2, em2⟩ := y
        simp only [plt, plc, plo] at *
        subst hsp
        have hcl' : cpu.toNat < c2.length := by omega
        refine fnspec_of mixed TT_ok TT_cl ⟨fun _ => false, fun _ => [], 0, fun _ => false, fun _ => false⟩ Tryz.func56 rfl (by kernel_rfl) rfl 57 rfl [.cell 4 43, .tmp 5] rfl ?_
        simp only [go_sem, zaa, zag, zah, zai, zaj, zad, ↓reduceIte, reduceCtorEq, zab, zac, zak, zal, zam, plc, plo]
        repeat' (first
 | with_reducible refine zan ?_ ?_
 | (apply cl_plain
    case hs => rfl
    case ha => (simp only [zae, zaf, prepV, prepC, idx, hpL', lookR, zaa, if_true, if_false]; rfl)
    case h => (first | exact h1 .. | exact h2 .. | exact h3 .. | exact h4 .. | exact h5 ..))
 | (apply cl_show
    case ha => (simp only [zae, zaf, prepV, prepC, idx, hpL', lookR, zaa, if_true, if_false]; rfl)
    case hs => ((simp [snaps, SV.refs, zaH, idx, hpL', lookR]) <;> (repeat' apply zan) <;> exact Ints_isG _)
    case h => (first | exact h1 .. | exact h2 .. | exact h3 .. | exact h4 .. | exact h5 ..)
    case hg => ((simp [SV.noG, SV.noGL, Cell.noG]) <;> (repeat' apply zan) <;> exact Ints_noG _))
 | ((first | refine s1_id ?_ | refine swp_id ?_ | refine sops_id ?_ | refine s2_id ?_); simp only [plc, plo, decide_eq_false hr, decide_eq_true hc, hgd, go_sem, zaa, zag, zah, zai, zaj, zad, ↓reduceIte, reduceCtorEq, zab, zac, zak, zal, zam, zaE, zaD, zar, zaB, renO, bk, back, outUpsFrom, Ints_ren])
 | (intros; omega)
 | (intros; (try simp only [zaz, zaC, zau, zaw, zax, zaq, decide_eq_true_eq, decide_eq_false_iff_not] at *); omega))
        (refine fs_frz 27 ⟨Ints (c2.set cpu.toNat (n - 1)), 1⟩ (by simp only [zaG, lookR, zaa, if_true, if_false, ↓reduceIte]) (by first | exact Ints_isG _ | exact Bools_isG _ | (simp [zaL]; done)) ?_; simp only [frzTm, zaT, zaO, zaM, frzHp, frzO, Ints_frz, Bools_frz, zae, zaf, zaa, if_true, if_false, ↓reduceIte])
        repeat' (first
 | (refine fs_w ?h1 (svw_of ?h2); (case h1 => repeat' (first | exact trivial | exact rfl | exact zav rfl | apply zan)); (case h2 => repeat' (first | ((with_reducible refine (?_ : CW _ _)); first | exact cw_gnil | exact cw_rfl _ | exact cw_niln _ _ | exact cw_cap _ _ _ _) | exact trivial | (show _ ∧ SWL _ _; apply zan) | (show _ ∧ CWL _ _; apply zan) | show CW _ _)))
 | fail)
      · rw [if_neg hc]
        simp only [pre, plt, plc, pdec, zaP, msp, mn]
        generalize mst x = M at *
        clear h0 hp hn esp hmst hx hmn eroom
        obtain ⟨g, q, b, s, l, c, sp, pe, th, em⟩ := x
        simp only [plt, plc, plo] at *
        refine fnspec_of mixed TT_ok TT_cl ⟨fun _ => false, fun _ => [], 0, fun _ => false, fun _ => false⟩ Tryz.func56 rfl (by kernel_rfl) rfl 57 rfl [.cell 4 43, .tmp 5] rfl ?_
        simp only [go_sem, zaa, zag, zah, zai, zaj, zad, ↓reduceIte, reduceCtorEq, zab, zac, zak, zal, zam, plc, plo]
        repeat' (first
 | with_reducible refine zan ?_ ?_
 | (apply cl_plain
    case hs => rfl
    case ha => (simp only [zae, zaf, prepV, prepC, idx, hpL', lookR, zaa, if_true, if_false]; rfl)
    case h => (first | exact h1 .. | exact h2 .. | exact h3 .. | exact h4 ..))
 | ((first | refine s1_id ?_ | refine swp_id ?_ | refine sops_id ?_ | refine s2_id ?_); simp only [plc, plo, decide_eq_false hr, decide_eq_false hc, go_sem, zaa, zag, zah, zai, zaj, zad, ↓reduceIte, reduceCtorEq, zab, zac, zak, zal, zam, zaE, zaD, zar, zaB, renO, bk, back, outUpsFrom, Ints_ren])
 | (intros; omega)
 | (intros; (try simp only [zaz, zaC, zau, zaw, zax, zaq, decide_eq_true_eq, decide_eq_false_iff_not] at *); omega))
        (refine fs_frz 10 ⟨Ints (c.set cpu.toNat (c.getD cpu.toNat 0 - 1)), 1⟩ (by simp only [zaG, lookR, zaa, if_true, if_false, ↓reduceIte]) (by first | exact Ints_isG _ | exact Bools_isG _ | (simp [zaL]; done)) ?_; simp only [frzTm, zaT, zaO, zaM, frzHp, frzO, Ints_frz, Bools_frz, zae, zaf, zaa, if_true, if_false, ↓reduceIte])
        repeat' (first
 | (refine fs_w ?h1 (svw_of ?h2); (case h1 => repeat' (first | exact trivial | exact rfl | exact zav rfl | apply zan)); (case h2 => repeat' (first | ((with_reducible refine (?_ : CW _ _)); first | exact cw_gnil | exact cw_rfl _ | exact cw_niln _ _ | exact cw_cap _ _ _ _) | exact trivial | (show _ ∧ SWL _ _; apply zan) | (show _ ∧ CWL _ _; apply zan) | show CW _ _)))
 | fail)
theorem rspend_spec (x : Pl) (k : Option Nat) (cpu : Int) (hw : Wk x) : FnSpec Tryz.prog 56 [plt x k, i1 cpu] [] (pre (pspend x cpu)) [] := by
  by_cases h0 : pchk x cpu = 0
  · exact rspend_ok x k cpu h0
  · have := rspend_no x k cpu hw h0
    unfold pspend
    rw [if_pos h0]
    exact this
end Go.Proofs.YtcnilpdlcmpbbaaGreat
