/- Contracts of functions, told of values, on the way to ThrottleSteps (part 6). -/
import Derived.Test.YtcnilpdlcmpbbaaGreatThrottleStepsM3
import Derived.Test.YtcnilpdlcmpbbaaGreatThrottleStepsM5
import Derived.Test.YtcnilpdlcmpbbaaGreatThrottleStepsM4
-- short names of the library's lemmas
open Nat renaming reduceEqDiff → zaa, reduceLeDiff → zad, reduceAdd → zaf, reduceSub → zag, reduceMul → zah, reduceLT → zak, le_of_ble_eq_true → zaw, zero_mul → zaX, zero_le → zaY, le_refl → zbb, lt_or_ge → zbc, sub_zero → zbd, lt_succ_self → zbf, zero_add → zbg
open List renaming reduceReplicate → zab, forall_mem_cons → zae, map_cons → zai, not_mem_nil → zaj, map_nil → zao, append_nil → zav, length_cons → zaA, take_succ_cons → zaB, length_nil → zaC, set_cons_zero → zaD, set_cons_succ → zaE, flatten_cons → zaF, flatten_nil → zaH, cons_append → zaI, nil_append → zaL, getD_cons_zero → zaM, getD_cons_succ → zaN, take_zero → zaO, take_nil → zaP, length_take → zaW, take_of_length_le → zaZ, drop_of_length_le → zbe, take → zbj
open Int renaming cast_ofNat_Int → zac, reduceEq → zal, reduceLT → zam, reduceLE → zan, natCast_add → zaz, toNat_natCast → zaT, toNat_zero → zaV
open Option renaming getD_some → zaR, getD_none → zaS
open Bool renaming and_eq_false_iff → zap, or_eq_false_iff → zaq, not_eq_false' → zas, not_eq_true' → zat, and_eq_true → zau, or_eq_true → zax, true_and → zba, false_eq_true → zbh, false_and → zbi
open And renaming intro → zar
open Go.Proofs.YtcnilpdlcmpbbaaGreat.Sh.Cell renaming ren → zay, refs → zaQ
open Go.Proofs.YtcnilpdlcmpbbaaGreat.Sh.SV renaming ren → zaG, renL → zaK
open Go.Proofs.YtcnilpdlcmpbbaaGreat.Sh.Row renaming ren → zaJ
open Go.Proofs.YtcnilpdlcmpbbaaGreat.Sh.St renaming hpF → zaU, tmF → zbk
-- NEWGO
-- PRUNE: cl_lendx cl_use cl_lend
-- ISG: Cs_isG
-- FLAT: Cs_flat
namespace Go.Proofs.YtcnilpdlcmpbbaaGreat
set_option linter.unusedVariables false
set_option linter.unusedSimpArgs false
open Go.Proofs.YtcnilpdlcmpbbaaGreat.Sh
set_option maxRecDepth 20000
structure CkI (l : List Nd) (m : Nat) : Prop where
  le : m ≤ l.length
  p1 : 1 ≤ m
  st : ∀ i, i < m → stOk l i = true
  dp : ∀ i, i < m → (upL (l.take (i + 1)) (gN l i).i).length ≤ 9
theorem CkI.asc {l : List Nd} {m : Nat} (h : CkI l m) : AscI (l.take m) := by
  refine asc_of_step fun i h0 hi => ?_
  rw [zaW] at hi
  rw [gN_take l m _ (by omega), gN_take l m i (by omega)]
  have hle := h.le
  exact (stOk_ch (by omega) h0 (h.st i (by omega))).lt
def dps (l : List Nd) (m : Nat) : List Int := (List.range 64).map fun i => if i < m then (((upL (l.take (i + 1)) (gN l i).i).length : Int) - 1) else 0
theorem dps_len (l : List Nd) (m : Nat) : (dps l m).length = 64 := by simp [dps]
theorem dps_at (l : List Nd) (m i : Nat) (hi : i < 64) : (dps l m).getD i 0 = if i < m then (((upL (l.take (i + 1)) (gN l i).i).length : Int) - 1) else 0 := by
  simp [dps, List.getD_eq_getElem?_getD, hi]
theorem dps_set (l : List Nd) (m : Nat) (hm : m < 64) : (dps l m).set m (((upL (l.take (m + 1)) (gN l m).i).length : Int) - 1) = dps l (m + 1) := by
  apply List.ext_getElem?
  intro i
  by_cases hi : i < 64
  · rw [List.getElem?_set]
    by_cases e : m = i
    · subst e
      simp [dps, hm]
    · rw [if_neg e]
      simp only [dps, List.getElem?_map, List.getElem?_range hi, Option.map_some]
      congr 1
      by_cases c : i < m
      · rw [if_pos c, if_pos (by omega)]
      · rw [if_neg c, if_neg (by omega)]
  · rw [List.getElem?_eq_none (by rw [List.length_set, dps_len]; omega), List.getElem?_eq_none (by rw [dps_len]; omega)]
theorem up_next {l : List Nd} {m j : Nat} (hA : AscI (l.take m)) (hm : m < l.length) (hj : j < m) (e : (gN l j).i = (gN l m).p) : (upL (l.take (m + 1)) (gN l m).i).length = (upL (l.take (j + 1)) (gN l j).i).length + 1 := by
  rw [upL_take l m hm, if_pos rfl, zaA, ← e]
  congr 2
  have h1 := upL_skip (l.take m) (gN l j).i (j + 1) (by rw [zaW]; omega) (fun k hk hk2 => by
    rw [zaW] at hk2
    have := hA j k (by omega) (by rw [zaW]; omega)
    rw [gN_take l m j hj, gN_take l m k (by omega)] at this
    rw [gN_take l m k (by omega)]; omega)
  rw [h1, List.take_take, Nat.min_eq_left (by omega)]
theorem up_takeA {l : List Nd} (hA : AscI l) {i : Nat} (hi : i < l.length) : upL (l.take (i + 1)) (gN l i).i = upL l (gN l i).i := by
  rw [upL_node hA hi, upL_take l i hi, if_pos rfl]
theorem index_take (l : List Nd) (k : Option Nat) (m : Nat) (id : Int) (hm : m ≤ l.length) (hl : l.length ≤ 1000000) : FnSpec Tryz.prog 91 [.one (.gsl (Cs l) 0 m k), i1 id] [] (.tup [i1 (bsV Nd.i (l.take m) id), b1 (bsF Nd.i (l.take m) id)]) [] := by
  have h1 := index_spec (l.take m) k id (by rw [zaW]; omega)
  have e : (l.take m).length = m := by rw [zaW]; omega
  simp only [gr, e, ← Cs_take] at h1
  exact h1.pre ⟨cw_take _ _ _ _ _, cw_rfl _, trivial⟩
theorem taken_take (l : List Nd) (k : Option Nat) (m : Nat) (p : Int) (s : Str) (hm : m ≤ l.length) (hl : l.length ≤ 1000000) : FnSpec Tryz.prog 93 [.one (.gsl (Cs l) 0 m k), i1 p, s1 s] [] (b1 ((l.take m).any (same1 p s))) [] := by
  have h1 := taken_spec (l.take m) k p s (by rw [zaW]; omega)
  have e : (l.take m).length = m := by rw [zaW]; omega
  simp only [gr, e, ← Cs_take] at h1
  exact h1.pre ⟨cw_take _ _ _ _ _, cw_rfl _, cw_rfl _, trivial⟩
set_option maxHeartbeats 16000000 in
theorem tchk_spec (l : List Nd) (n : Int) (hl : l.length ≤ 1000000) (hnm : NmR l) (hct : CtR l) : FnSpec Tryz.prog 59 [trV l none n] [] (b1 (chkT l n)) [] := by
  have hnl := nd_len l
  by_cases h1 : (l.length : Int) < 1
  · rw [chkT_not fun h => by have := h.ne; omega]
    refine fnspec_of mixed TT_ok TT_cl ⟨fun _ => false, fun _ => [], 0, fun _ => false, fun _ => false⟩ Tryz.func59 rfl (by kernel_rfl) rfl 108 rfl [.tmp 2] rfl ?_
    simp only [go_sem, zaa, zaf, zag, zah, zak, zad, ↓reduceIte, reduceCtorEq, zab, zac, zal, zam, zan, decide_eq_true h1]
    repeat' (first
 | exact fs_nil trivial rfl
 | fail)
  by_cases h64 : 64 < (l.length : Int)
  · rw [chkT_not fun h => by have := h.le; omega]
    refine fnspec_of mixed TT_ok TT_cl ⟨fun _ => false, fun _ => [], 0, fun _ => false, fun _ => false⟩ Tryz.func59 rfl (by kernel_rfl) rfl 108 rfl [.tmp 2] rfl ?_
    simp only [go_sem, zaa, zaf, zag, zah, zak, zad, ↓reduceIte, reduceCtorEq, zab, zac, zal, zam, zan, decide_eq_false h1, decide_eq_true h64]
    repeat' (first
 | exact fs_nil trivial rfl
 | fail)
  have h1' : 1 ≤ l.length := by omega
  have h64' : l.length ≤ 64 := by omega
  have hN0 := nd_td l 0 (by omega)
  have r1 := isRoot_spec (gN l 0) (hct _ (getD_mem l 0 zn (by omega)))
  have e0 : stOk l 0 = (rootOk (gN l 0) && rngOk (gN l 0)) := by
    unfold stOk
    rw [if_pos rfl]
    cases hr : rootOk (gN l 0) with
    | false => rw [Bool.and_false]; rfl
    | true =>
      have hk : kdOk (gN l 0) = true := by
        unfold rootOk at hr
        simp only [zau, decide_eq_true_eq] at hr
        unfold kdOk
        rw [decide_eq_true hr.2]; rfl
      rw [hk, zba, Bool.and_true]
  rw [← e0] at r1
  have hN0' : zbj 6 (List.drop (Int.toNat 0 * 6) (Cs l)) = ndc (gN l 0) := hN0
  cases hs0 : stOk l 0 with
  | false =>
    rw [chkT_not fun h => by have := h.st 0 (by omega); rw [hs0] at this; cases this]
    rw [hs0] at r1
    simp only [ndc] at hN0' r1
    refine fnspec_of mixed TT_ok TT_cl ⟨fun _ => false, fun _ => [], 0, fun _ => false, fun _ => false⟩ Tryz.func59 rfl (by kernel_rfl) rfl 108 rfl [.tmp 2] rfl ?_
    simp only [go_sem, zaa, zaf, zag, zah, zak, zad, ↓reduceIte, reduceCtorEq, zab, zac, zal, zam, zan, decide_eq_false h1, decide_eq_false h64, hN0']
    repeat' (first
 | with_reducible refine zar ?_ ?_
 | (apply cg_tp
    case hl => rfl
    case ha => (simp only [zai, zao, prepV, prepC, idx, hpL', lookR, zaa, if_true, if_false]; rfl)
    case hs => rfl
    case h => (first | exact r1 ..))
 | ((first | refine s1_id ?_ | refine swp_id ?_ | refine sops_id ?_ | refine s2_id ?_); simp only [decide_eq_false h1, decide_eq_false h64, hN0', go_sem, zaa, zaf, zag, zah, zak, zad, ↓reduceIte, reduceCtorEq, zab, zac, zal, zam, zan, zaG, zaK, zay, zaJ, renO, bk, back, outUpsFrom, Ints_ren])
 | (intros; omega)
 | exact fs_nil trivial rfl
 | fail)
  | true =>
  rw [hs0] at r1
  simp only [ndc] at hN0' r1
  refine fnspec_of mixed TT_ok TT_cl ⟨fun _ => false, fun _ => [], 0, fun _ => false, fun _ => false⟩ Tryz.func59 rfl (by kernel_rfl) rfl 108 rfl [.tmp 2] rfl ?_
  simp only [go_sem, zaa, zaf, zag, zah, zak, zad, ↓reduceIte, reduceCtorEq, zab, zac, zal, zam, zan, decide_eq_false h1, decide_eq_false h64, hN0']
  repeat' (first
 | with_reducible refine zar ?_ ?_
 | (apply cg_tp
    case hl => rfl
    case ha => (simp only [zai, zao, prepV, prepC, idx, hpL', lookR, zaa, if_true, if_false]; rfl)
    case hs => rfl
    case h => (first | exact r1 ..))
 | ((first | refine s1_id ?_ | refine swp_id ?_ | refine sops_id ?_ | refine s2_id ?_); simp only [decide_eq_false h1, decide_eq_false h64, hN0', go_sem, zaa, zaf, zag, zah, zak, zad, ↓reduceIte, reduceCtorEq, zab, zac, zal, zam, zan, zaG, zaK, zay, zaJ, renO, bk, back, outUpsFrom, Ints_ren])
 | (intros; omega)
 | (intros; (try simp only [zau, zax, zat, zas, zap, zaq, decide_eq_true_eq, decide_eq_false_iff_not] at *); omega))
  have hu0 : (upL (l.take 1) (gN l 0).i).length = 1 := by rw [upL_take l 0 (by omega), if_pos rfl]; rfl
  have hd1 : dps l 1 = List.replicate 64 0 := by
    apply List.ext_getElem?
    intro i
    by_cases hi : i < 64
    · simp only [dps, List.getElem?_map, List.getElem?_range hi, Option.map_some, List.getElem?_replicate, if_pos hi]
      by_cases c : i < 1
      · have : i = 0 := by omega
        subst this
        rw [if_pos c, hu0]; rfl
      · rw [if_neg c]
    · rw [List.getElem?_eq_none (by rw [dps_len]; omega), List.getElem?_eq_none (by rw [List.length_replicate]; omega)]
  refine w_loop (ι := Nat) (fun m => ⟨[(1, .one (.optr 0 0)), (3, gr l none), (4, .one (.optr 1 0)), (5, i1 m)], [(0, some ⟨[.gsl (Cs l) 0 l.length none, int n], 2⟩), (1, some ⟨Ints (dps l m), 64⟩)], 2⟩) (fun m => CkI l m) (fun m => l.length - m) 1 ?_ ⟨h1', zbb _, fun i hi => by rw [show i = 0 by omega]; exact hs0, fun i hi => by rw [show i = 0 by omega, hu0]; decide⟩ ?_
  · rw [hd1]
    (refine imp_ren _ _ _ [(0, 0, ⟨[.gsl (Cs l) 0 l.length none, int n], 2⟩), (1, 20, ⟨Ints (List.replicate 64 0), 64⟩)] (by simp) (by simp) (by simp) (zaw rfl) ?_ rfl (by simp only [zae, zaj, false_implies, implies_true, and_true, zaU, lookR, zaa, if_true, if_false, ↓reduceIte] <;> (repeat' apply zar) <;> (first | rfl | trivial)) (by simp only [zae, zaj, false_implies, implies_true, and_true, true_and, flat_cons, flat_nil, flat_ints, flat_bools, flat_app, zaQ, and_self, eq_self_iff_true, zav]); simp only [zai, zao, zae, zaj, false_implies, implies_true, and_true, lk, slot, zaG, zay, toN, zaa, if_true, if_false, ↓reduceIte, reduceCtorEq])
    all_goals ((repeat' apply zar) <;> (first | rfl | trivial))
  clear r1 hN0 hN0' hd1
  intro m hI
  simp only at hI ⊢
  have hm := hI.le
  have hm1 := hI.p1
  have hA := hI.asc
  rcases zbc m l.length with hlt | hge
  case inr =>
    have c : ¬ (m : Int) < (l.length : Int) := by omega
    obtain rfl : m = l.length := by omega
    rw [List.take_length] at hA
    have hin : ((l.length : Int) - 1).toNat = l.length - 1 := by omega
    obtain ⟨g1, _⟩ := nd_f l (l.length - 1) (by omega) (.sc (.int .i64 0))
    have hres : chkT l n = (decide ((gN l (l.length - 1)).i < n) && decide (n ≤ 2147483648)) := by
      unfold chkT
      rw [decide_eq_true h1', decide_eq_true h64', (allN_iff _ _).2 hI.st, (allN_iff _ _).2 fun i hi => decide_eq_true (by rw [← up_takeA hA hi]; exact hI.dp i hi)]
      rfl
    rw [hres]
    simp only [go_sem, zaa, zaf, zag, zah, zak, zad, ↓reduceIte, reduceCtorEq, zab, zac, zal, zam, zan, decide_eq_false c, hin, g1]
    repeat' (first
 | with_reducible refine zar ?_ ?_
 | (unfold OKC; kernel_rfl)
 | (unfold EDG; kernel_rfl)
 | (intros; omega)
 | exact fs_nil trivial rfl
 | fail)
  have c : (m : Int) < (l.length : Int) := by omega
  have h2 := index_take l none m (gN l m).p hm hl
  have h3 := isChild_spec (gN l m) (hct _ (getD_mem l m zn hlt)) (hnm.at m hlt)
  have h4 := taken_take l none m (gN l m).p (gN l m).nm hm hl
  obtain ⟨g1, g2, _⟩ := nd_f l m hlt (.sc (.int .i64 0))
  have g3 := (nd_f l m hlt (.sc (.string (bs [])))).2.2.1
  have hN := nd_td l m hlt
  obtain ⟨q1, _⟩ := nd_f l (m - 1) (by omega) (.sc (.int .i64 0))
  have hin : ((m : Int) - 1).toNat = m - 1 := by omega
  have hst : stOk l m = (kdOk (gN l m) && rngOk (gN l m) && (decide ((gN l (m - 1)).i < (gN l m).i) && nmOk (gN l m).nm && bsF Nd.i (l.take m) (gN l m).p && !(l.take m).any (same1 (gN l m).p (gN l m).nm))) := by
    unfold stOk
    rw [if_neg (by omega), bs_any Nd.i (l.take m) (fun i j => hA i j)]
    rfl
  have hno : stOk l m = false → chkT l n = false := fun hf => chkT_not fun h => by have := h.st m hlt; rw [hf] at this; cases this
  have hvl := bsV_le Nd.i (l.take m) (gN l m).p
  rw [zaW] at hvl
  cases hf : bsF Nd.i (l.take m) (gN l m).p with
  | false =>
    rw [hno (by rw [hst, hf]; simp)]
    rw [hf] at h2
    generalize bsV Nd.i (l.take m) (gN l m).p = v at *
    simp only [go_sem, zaa, zaf, zag, zah, zak, zad, ↓reduceIte, reduceCtorEq, zab, zac, zal, zam, zan, decide_eq_true c, g2, zaV, zaX, zbd]
    repeat' (first
 | with_reducible refine zar ?_ ?_
 | (unfold OKC; kernel_rfl)
 | (unfold EDG; kernel_rfl)
 | (apply cl_plain
    case hs => rfl
    case ha => (simp only [zai, zao, prepV, prepC, idx, hpL', lookR, zaa, if_true, if_false]; rfl)
    case h => (first | exact h2 ..))
 | ((first | refine s1_id ?_ | refine swp_id ?_ | refine sops_id ?_ | refine s2_id ?_); simp only [decide_eq_true c, g2, zaV, zaX, zbd, go_sem, zaa, zaf, zag, zah, zak, zad, ↓reduceIte, reduceCtorEq, zab, zac, zal, zam, zan, zaG, zaK, zay, zaJ, renO, bk, back, outUpsFrom, Ints_ren])
 | (intros; omega)
 | exact fs_nil trivial rfl
 | fail)
  | true =>
  obtain ⟨hv1, hv2⟩ := bsF_at Nd.i (l.take m) (gN l m).p hf
  rw [zaW] at hv1
  rw [hf] at h2 hst
  generalize bsV Nd.i (l.take m) (gN l m).p = v at *
  have hvm : v < m := by omega
  have hv3 : (gN l v).i = (gN l m).p := by rw [← gN_take l m v hvm]; exact hv2
  by_cases hle : (gN l m).i ≤ (gN l (m - 1)).i
  · rw [hno (by rw [hst, decide_eq_false (by omega)]; simp)]
    simp only [go_sem, zaa, zaf, zag, zah, zak, zad, ↓reduceIte, reduceCtorEq, zab, zac, zal, zam, zan, decide_eq_true c, g1, g2, zaV, zaX, zbd, hin, q1, decide_eq_true hle]
    repeat' (first
 | with_reducible refine zar ?_ ?_
 | (unfold OKC; kernel_rfl)
 | (unfold EDG; kernel_rfl)
 | (apply cl_plain
    case hs => rfl
    case ha => (simp only [zai, zao, prepV, prepC, idx, hpL', lookR, zaa, if_true, if_false]; rfl)
    case h => (first | exact h2 ..))
 | ((first | refine s1_id ?_ | refine swp_id ?_ | refine sops_id ?_ | refine s2_id ?_); simp only [decide_eq_true c, g1, g2, zaV, zaX, zbd, hin, q1, decide_eq_true hle, go_sem, zaa, zaf, zag, zah, zak, zad, ↓reduceIte, reduceCtorEq, zab, zac, zal, zam, zan, zaG, zaK, zay, zaJ, renO, bk, back, outUpsFrom, Ints_ren])
 | (intros; omega)
 | exact fs_nil trivial rfl
 | fail)
  rw [decide_eq_true (by omega : (gN l (m - 1)).i < (gN l m).i)] at hst
  cases hcb : (nmOk (gN l m).nm && kdOk (gN l m) && rngOk (gN l m)) with
  | false =>
    rw [hno (by rw [hst]; revert hcb; cases nmOk (gN l m).nm <;> cases kdOk (gN l m) <;> cases rngOk (gN l m) <;> simp)]
    rw [hcb] at h3
    simp only [ndc] at hN h3
    simp only [go_sem, zaa, zaf, zag, zah, zak, zad, ↓reduceIte, reduceCtorEq, zab, zac, zal, zam, zan, decide_eq_true c, g1, g2, zaV, zaX, zbd, hin, q1, decide_eq_false hle, hN]
    repeat' (first
 | with_reducible refine zar ?_ ?_
 | (unfold OKC; kernel_rfl)
 | (unfold EDG; kernel_rfl)
 | (apply cg_tp
    case hl => rfl
    case ha => (simp only [zai, zao, prepV, prepC, idx, hpL', lookR, zaa, if_true, if_false]; rfl)
    case hs => rfl
    case h => (first | exact h2 .. | exact h3 ..))
 | (apply cl_plain
    case hs => rfl
    case ha => (simp only [zai, zao, prepV, prepC, idx, hpL', lookR, zaa, if_true, if_false]; rfl)
    case h => (first | exact h2 .. | exact h3 ..))
 | ((first | refine s1_id ?_ | refine swp_id ?_ | refine sops_id ?_ | refine s2_id ?_); simp only [decide_eq_true c, g1, g2, zaV, zaX, zbd, hin, q1, decide_eq_false hle, hN, go_sem, zaa, zaf, zag, zah, zak, zad, ↓reduceIte, reduceCtorEq, zab, zac, zal, zam, zan, zaG, zaK, zay, zaJ, renO, bk, back, outUpsFrom, Ints_ren])
 | (intros; omega)
 | exact fs_nil trivial rfl
 | fail)
  | true =>
  rw [hcb] at h3
  cases htk : (l.take m).any (same1 (gN l m).p (gN l m).nm) with
  | true =>
    rw [hno (by rw [hst, htk]; simp)]
    rw [htk] at h4
    simp only [ndc] at hN h3
    simp only [go_sem, zaa, zaf, zag, zah, zak, zad, ↓reduceIte, reduceCtorEq, zab, zac, zal, zam, zan, decide_eq_true c, g1, g2, g3, zaV, zaX, zbd, hin, q1, decide_eq_false hle, hN]
    repeat' (first
 | with_reducible refine zar ?_ ?_
 | (unfold OKC; kernel_rfl)
 | (unfold EDG; kernel_rfl)
 | (apply cg_tp
    case hl => rfl
    case ha => (simp only [zai, zao, prepV, prepC, idx, hpL', lookR, zaa, if_true, if_false]; rfl)
    case hs => rfl
    case h => (first | exact h2 .. | exact h3 .. | exact h4 ..))
 | (apply cl_plain
    case hs => rfl
    case ha => (simp only [zai, zao, prepV, prepC, idx, hpL', lookR, zaa, if_true, if_false]; rfl)
    case h => (first | exact h2 .. | exact h3 .. | exact h4 ..))
 | ((first | refine s1_id ?_ | refine swp_id ?_ | refine sops_id ?_ | refine s2_id ?_); simp only [decide_eq_true c, g1, g2, g3, zaV, zaX, zbd, hin, q1, decide_eq_false hle, hN, go_sem, zaa, zaf, zag, zah, zak, zad, ↓reduceIte, reduceCtorEq, zab, zac, zal, zam, zan, zaG, zaK, zay, zaJ, renO, bk, back, outUpsFrom, Ints_ren])
 | (intros; omega)
 | exact fs_nil trivial rfl
 | fail)
  | false =>
  have hok : stOk l m = true := by rw [hst, htk]; revert hcb; cases nmOk (gN l m).nm <;> cases kdOk (gN l m) <;> cases rngOk (gN l m) <;> simp
  rw [htk] at h4
  have hun := up_next hA hlt hvm hv3
  have hdv := dps_at l m v (by omega)
  rw [if_pos hvm] at hdv
  have hset := dps_set l m (by omega)
  have hdm := dps_at l (m + 1) m (by omega)
  rw [if_pos (by omega)] at hdm
  have hu1 : 1 ≤ (upL (l.take (v + 1)) (gN l v).i).length := by rw [upL_take l v (by omega), if_pos rfl, zaA]; omega
  have hu9 := hI.dp v hvm
  have hsv : ((upL (l.take (v + 1)) (gN l v).i).length : Int) - 1 + 1 = ((upL (l.take (m + 1)) (gN l m).i).length : Int) - 1 := by rw [hun]; omega
  generalize (upL (l.take (v + 1)) (gN l v).i).length = D at *
  obtain ⟨D2, hD2⟩ : ∃ D2, (upL (l.take (m + 1)) (gN l m).i).length = D2 := ⟨_, rfl⟩
  have hseti : (Ints (dps l m)).set m (int ((D2 : Int) - 1)) = Ints (dps l (m + 1)) := by rw [← hset, hD2]; simp [Ints, List.map_set]
  rw [hD2] at hsv hdm hun
  have hdl := dps_len l m
  have hdl1 := dps_len l (m + 1)
  simp only [ndc] at hN h3
  by_cases h9 : 8 < (D2 : Int) - 1
  · rw [chkT_not fun h => by
      have := h.dp m hlt
      rw [← up_takeA h.asc hlt, hD2] at this; omega]
    simp only [go_sem, zaa, zaf, zag, zah, zak, zad, ↓reduceIte, reduceCtorEq, zab, zac, zal, zam, zan, decide_eq_true c, g1, g2, g3, zaV, zaX, zbd, hin, q1, decide_eq_false hle, hN, hdv, hsv, hdm, decide_eq_true h9]
    repeat' (first
 | with_reducible refine zar ?_ ?_
 | (unfold OKC; kernel_rfl)
 | (unfold EDG; kernel_rfl)
 | (apply cg_tp
    case hl => rfl
    case ha => (simp only [zai, zao, prepV, prepC, idx, hpL', lookR, zaa, if_true, if_false]; rfl)
    case hs => rfl
    case h => (first | exact h2 .. | exact h3 .. | exact h4 ..))
 | (apply cl_plain
    case hs => rfl
    case ha => (simp only [zai, zao, prepV, prepC, idx, hpL', lookR, zaa, if_true, if_false]; rfl)
    case h => (first | exact h2 .. | exact h3 .. | exact h4 ..))
 | ((first | refine s1_id ?_ | refine swp_id ?_ | refine sops_id ?_ | refine s2_id ?_); simp only [decide_eq_true c, g1, g2, g3, zaV, zaX, zbd, hin, q1, decide_eq_false hle, hN, hdv, hsv, hseti, hdm, decide_eq_true h9, go_sem, zaa, zaf, zag, zah, zak, zad, ↓reduceIte, reduceCtorEq, zab, zac, zal, zam, zan, zaG, zaK, zay, zaJ, renO, bk, back, outUpsFrom, Ints_ren])
 | (intros; omega)
 | exact fs_nil trivial rfl
 | fail)
  · have hst2 : CkI l (m + 1) := ⟨hlt, by omega, fun i hi => by rcases Nat.lt_succ_iff_lt_or_eq.1 hi with h | h; (· exact hI.st i h); (· rw [h]; exact hok), fun i hi => by rcases Nat.lt_succ_iff_lt_or_eq.1 hi with h | h; (· exact hI.dp i h); (· rw [h, hD2]; omega)⟩
    simp only [go_sem, zaa, zaf, zag, zah, zak, zad, ↓reduceIte, reduceCtorEq, zab, zac, zal, zam, zan, decide_eq_true c, g1, g2, g3, zaV, zaX, zbd, hin, q1, decide_eq_false hle, hN, hdv, hsv, hdm, decide_eq_false h9]
    repeat' (first
 | with_reducible refine zar ?_ ?_
 | (unfold OKC; kernel_rfl)
 | (unfold EDG; kernel_rfl)
 | (apply cg_tp
    case hl => rfl
    case ha => (simp only [zai, zao, prepV, prepC, idx, hpL', lookR, zaa, if_true, if_false]; rfl)
    case hs => rfl
    case h => (first | exact h2 .. | exact h3 .. | exact h4 ..))
 | (apply cl_plain
    case hs => rfl
    case ha => (simp only [zai, zao, prepV, prepC, idx, hpL', lookR, zaa, if_true, if_false]; rfl)
    case h => (first | exact h2 .. | exact h3 .. | exact h4 ..))
 | ((first | refine s1_id ?_ | refine swp_id ?_ | refine sops_id ?_ | refine s2_id ?_); simp only [decide_eq_true c, g1, g2, g3, zaV, zaX, zbd, hin, q1, decide_eq_false hle, hN, hdv, hsv, hseti, hdm, decide_eq_false h9, go_sem, zaa, zaf, zag, zah, zak, zad, ↓reduceIte, reduceCtorEq, zab, zac, zal, zam, zan, zaG, zaK, zay, zaJ, renO, bk, back, outUpsFrom, Ints_ren])
 | (intros; omega)
 | (intros; (try simp only [zau, zax, zat, zas, zap, zaq, decide_eq_true_eq, decide_eq_false_iff_not] at *); omega))
    refine le_mk (m + 1) ?_ hst2 (by omega)
    (refine imp_ren _ _ _ [(0, 0, ⟨[.gsl (Cs l) 0 l.length none, int n], 2⟩), (1, 1, ⟨Ints (dps l (m + 1)), 64⟩)] (by simp) (by simp) (by simp) (zaw rfl) ?_ rfl (by simp only [zae, zaj, false_implies, implies_true, and_true, zaU, lookR, zaa, if_true, if_false, ↓reduceIte, hseti] <;> (repeat' apply zar) <;> (first | rfl | trivial)) (by simp only [zae, zaj, false_implies, implies_true, and_true, true_and, flat_cons, flat_nil, flat_ints, flat_bools, flat_app, zaQ, and_self, eq_self_iff_true, zav, hseti]); simp only [zai, zao, zae, zaj, false_implies, implies_true, and_true, lk, slot, zaG, zay, toN, zaa, if_true, if_false, ↓reduceIte, reduceCtorEq])
    all_goals ((repeat' apply zar) <;> (first | rfl | trivial | (simp only [zaz]; done) | (simp only [zaz]; rfl) | (simp only [zaz]; trivial)))
end Go.Proofs.YtcnilpdlcmpbbaaGreat
-- NEWGO
-- PRUNE: cl_lendx cl_use
-- ISG: Cs_isG
-- FLAT: Cs_flat
namespace Go.Proofs.YtcnilpdlcmpbbaaGreat
set_option linter.unusedVariables false
set_option linter.unusedSimpArgs false
open Go.Proofs.YtcnilpdlcmpbbaaGreat.Sh
set_option maxRecDepth 20000
abbrev hasI (id : Int) (x : Nd) : Bool := decide (x.i = id)
def fdM (l : List Nd) (n id : Int) : Nd × Bool := if chkT l n = true then (match l.find? (hasI id) with
  | some x => (x, true)
  | none => (zn, false)) else (zn, false)
def hasM (l : List Nd) (n id : Int) : Bool := chkT l n && l.any (hasI id)
theorem fdM_2 (l : List Nd) (n id : Int) : (fdM l n id).2 = hasM l n id := by
  unfold fdM hasM
  cases hc : chkT l n with
  | false => rfl
  | true =>
    rw [if_pos rfl, zba]
    cases hf : l.find? (hasI id) with
    | none =>
      have := List.find?_eq_none.1 hf
      exact (List.any_eq_false.2 this).symm
    | some x =>
      exact (List.any_eq_true.2 ⟨x, List.mem_of_find?_eq_some hf, List.find?_some hf⟩).symm
theorem find_drop {l : List Nd} {m : Nat} (h : m < l.length) (id : Int) : (l.drop m).find? (hasI id) = if (gN l m).i = id then some (gN l m) else (l.drop (m + 1)).find? (hasI id) := by
  rw [drop_getD l m zn h, List.find?_cons]
  by_cases c : (gN l m).i = id
  · rw [if_pos c, show hasI id (l.getD m zn) = true from decide_eq_true c]
  · rw [if_neg c, show hasI id (l.getD m zn) = false from decide_eq_false c]
abbrev zr : Row := ⟨[int 0, int 0, st [], int 0, int 0, int 0], 6⟩
set_option maxHeartbeats 8000000 in
theorem rfindT_spec (l : List Nd) (k : Option Nat) (n id : Int) (hl : l.length ≤ 1000000) (hnm : NmR l) : FnSpec Tryz.prog 85 [trV l k n, i1 id] [] (.tup [.agg (ndc (fdM l n id).1), b1 (fdM l n id).2]) [] := by
  have h1 := trcheck_spec l k n hl hnm
  have hnl := nd_len l
  unfold fdM
  cases hc : chkT l n with
  | false =>
    rw [hc] at h1
    simp only [zbh, if_false]
    refine fnspec_of mixed TT_ok TT_cl ⟨fun _ => false, fun _ => [], 0, fun _ => false, fun _ => false⟩ Tryz.func85 rfl (by kernel_rfl) rfl 32 rfl [.cell 4 34, .tmp 5] rfl ?_
    simp only [go_sem, zaa, zaf, zag, zah, zak, zad, ↓reduceIte, reduceCtorEq, zab, zac, zal, zam, zan]
    repeat' (first
 | with_reducible refine zar ?_ ?_
 | (apply cl_plain
    case hs => rfl
    case ha => (simp only [zai, zao, prepV, prepC, idx, hpL', lookR, zaa, if_true, if_false]; rfl)
    case h => (first | exact h1 ..))
 | ((first | refine s1_id ?_ | refine swp_id ?_ | refine sops_id ?_ | refine s2_id ?_); simp only [go_sem, zaa, zaf, zag, zah, zak, zad, ↓reduceIte, reduceCtorEq, zab, zac, zal, zam, zan, zaG, zaK, zay, zaJ, renO, bk, back, outUpsFrom, Ints_ren])
 | (intros; omega)
 | (apply fs_nil <;> (try simp only [go_sem, resV, resS, zaG, zaK, zay, zbk, zaU, idx, renO, zaJ, evS, slot, lookR, zaa, ↓reduceIte, reduceCtorEq, if_true, if_false, zaR, zaS, zai, zao, sLoad, readAt, readNeed, Ints_ren, Ints_length, Ints_getD, and_true, true_and, zaM, zaN]) <;> (try rfl))
 | fail)
  | true =>
    rw [hc] at h1
    rw [if_pos rfl]
    refine fnspec_of mixed TT_ok TT_cl ⟨fun _ => false, fun _ => [], 0, fun _ => false, fun _ => false⟩ Tryz.func85 rfl (by kernel_rfl) rfl 32 rfl [.cell 4 34, .tmp 5] rfl ?_
    simp only [go_sem, zaa, zaf, zag, zah, zak, zad, ↓reduceIte, reduceCtorEq, zab, zac, zal, zam, zan]
    repeat' (first
 | (apply cl_plain
    case hs => rfl
    case ha => (simp only [zai, zao, prepV, prepC, idx, hpL', lookR, zaa, if_true, if_false]; rfl)
    case h => (first | exact h1 ..))
 | ((first | refine s1_id ?_ | refine swp_id ?_ | refine sops_id ?_ | refine s2_id ?_); simp only [go_sem, zaa, zaf, zag, zah, zak, zad, ↓reduceIte, reduceCtorEq, zab, zac, zal, zam, zan, zaG, zaK, zay, zaJ, renO, bk, back, outUpsFrom, Ints_ren])
 | (intros; (try simp only [zau, zax, zat, zas, zap, zaq, decide_eq_true_eq, decide_eq_false_iff_not] at *); omega))
    refine w_loop (ι := Nat) (fun m => ⟨[(1, i1 id), (2, .one (.optr 0 0)), (4, .one (.optr 1 0)), (6, i1 m)], [(0, some ⟨[.gsl (Cs l) 0 l.length k, int n], 2⟩), (1, some zr)], 2⟩) (fun m => m ≤ l.length ∧ l.find? (hasI id) = (l.drop m).find? (hasI id)) (fun m => l.length - m) 0 ?_ ⟨zaY _, rfl⟩ ?_
    · (refine imp_ren _ _ _ [(0, 0, ⟨[.gsl (Cs l) 0 l.length k, int n], 2⟩), (1, 1, zr)] (by simp) (by simp) (by simp) (zaw rfl) ?_ rfl (by simp only [zae, zaj, false_implies, implies_true, and_true, zaU, lookR, zaa, if_true, if_false, ↓reduceIte] <;> (repeat' apply zar) <;> (first | rfl | trivial)) (by simp only [zae, zaj, false_implies, implies_true, and_true, true_and, flat_cons, flat_nil, flat_ints, flat_bools, flat_app, zaQ, and_self, eq_self_iff_true, zav]); simp only [zai, zao, zae, zaj, false_implies, implies_true, and_true, lk, slot, zaG, zay, toN, zaa, if_true, if_false, ↓reduceIte, reduceCtorEq])
      all_goals ((repeat' apply zar) <;> (first | rfl | trivial))
    clear h1
    rintro m ⟨hm, hf⟩
    simp only at hm hf ⊢
    rcases zbc m l.length with hlt | hge
    case inr =>
      have c : ¬ (m : Int) < (l.length : Int) := by omega
      rw [zbe hge] at hf
      rw [hf]
      simp only [go_sem, zaa, zaf, zag, zah, zak, zad, ↓reduceIte, reduceCtorEq, zab, zac, zal, zam, zan, decide_eq_false c, zr, List.find?_nil]
      repeat' (first
 | with_reducible refine zar ?_ ?_
 | (intros; omega)
 | (apply fs_nil <;> (try simp only [go_sem, resV, resS, zaG, zaK, zay, zbk, zaU, idx, renO, zaJ, evS, slot, lookR, zaa, ↓reduceIte, reduceCtorEq, if_true, if_false, zaR, zaS, zai, zao, sLoad, readAt, readNeed, Ints_ren, Ints_length, Ints_getD, and_true, true_and, zaM, zaN]) <;> (try rfl))
 | fail)
    have c : (m : Int) < (l.length : Int) := by omega
    obtain ⟨g1, _⟩ := nd_f l m hlt (.sc (.int .i64 0))
    have hN := nd_td l m hlt
    rw [find_drop hlt] at hf
    by_cases hid : (gN l m).i = id
    · rw [if_pos hid] at hf
      rw [hf]
      generalize gN l m = x at *
      obtain ⟨xi, xp, xn, xc, xk, xo⟩ := x
      simp only [ndc] at hN g1 hid ⊢
      simp only [go_sem, zaa, zaf, zag, zah, zak, zad, ↓reduceIte, reduceCtorEq, zab, zac, zal, zam, zan, decide_eq_true c, g1, decide_eq_true hid, hN, zr]
      repeat' (first
 | with_reducible refine zar ?_ ?_
 | (intros; omega)
 | (apply fs_nil <;> (try simp only [go_sem, resV, resS, zaG, zaK, zay, zbk, zaU, idx, renO, zaJ, evS, slot, lookR, zaa, ↓reduceIte, reduceCtorEq, if_true, if_false, zaR, zaS, zai, zao, sLoad, readAt, readNeed, Ints_ren, Ints_length, Ints_getD, and_true, true_and, zaM, zaN]) <;> (try rfl))
 | fail)
    · rw [if_neg hid] at hf
      simp only [go_sem, zaa, zaf, zag, zah, zak, zad, ↓reduceIte, reduceCtorEq, zab, zac, zal, zam, zan, decide_eq_true c, g1, decide_eq_false hid, zr]
      repeat' (first
 | with_reducible refine zar ?_ ?_
 | (intros; omega)
 | (intros; (try simp only [zau, zax, zat, zas, zap, zaq, decide_eq_true_eq, decide_eq_false_iff_not] at *); omega))
      refine le_mk (m + 1) ?_ ⟨hlt, hf⟩ (by omega)
      (refine imp_ren _ _ _ [(0, 0, ⟨[.gsl (Cs l) 0 l.length k, int n], 2⟩), (1, 1, zr)] (by simp) (by simp) (by simp) (zaw rfl) ?_ rfl (by simp only [zae, zaj, false_implies, implies_true, and_true, zaU, lookR, zaa, if_true, if_false, ↓reduceIte] <;> (repeat' apply zar) <;> (first | rfl | trivial)) (by simp only [zae, zaj, false_implies, implies_true, and_true, true_and, flat_cons, flat_nil, flat_ints, flat_bools, flat_app, zaQ, and_self, eq_self_iff_true, zav]); simp only [zai, zao, zae, zaj, false_implies, implies_true, and_true, lk, slot, zaG, zay, toN, zaa, if_true, if_false, ↓reduceIte, reduceCtorEq])
      all_goals ((repeat' apply zar) <;> (first | rfl | trivial | (simp only [zaz]; done) | (simp only [zaz]; rfl) | (simp only [zaz]; trivial)))
theorem rhas_spec (l : List Nd) (k : Option Nat) (n id : Int) (hl : l.length ≤ 1000000) (hnm : NmR l) : FnSpec Tryz.prog 51 [trV l k n, i1 id] [] (b1 (hasM l n id)) [] := by
  have h1 := rfindT_spec l k n id hl hnm
  rw [← fdM_2]
  generalize fdM l n id = u at *
  obtain ⟨⟨xi, xp, xn, xc, xk, xo⟩, b⟩ := u
  simp only [ndc] at h1 ⊢
  refine fnspec_of mixed TT_ok TT_cl ⟨fun _ => false, fun _ => [], 0, fun _ => false, fun _ => false⟩ Tryz.func51 rfl (by kernel_rfl) rfl 14 rfl [.tmp 4] rfl ?_
  simp only [go_sem, zaa, zaf, zag, zah, zak, zad, ↓reduceIte, reduceCtorEq, zab, zac, zal, zam, zan]
  repeat' (first
 | (apply cl_plain
    case hs => rfl
    case ha => (simp only [zai, zao, prepV, prepC, idx, hpL', lookR, zaa, if_true, if_false]; rfl)
    case h => (first | exact h1 ..))
 | ((first | refine s1_id ?_ | refine swp_id ?_ | refine sops_id ?_ | refine s2_id ?_); simp only [zaF, zaH, zav, zaI, zaL, zaD, zaE, zaB, zaO, zaP, zaA, zaC, go_sem, zaa, zaf, zag, zah, zak, zad, ↓reduceIte, reduceCtorEq, zab, zac, zal, zam, zan, zaG, zaK, zay, zaJ, renO, bk, back, outUpsFrom, Ints_ren])
 | exact fs_nil trivial rfl
 | fail)
def ancM (l : List Nd) (n id : Int) : List Int := if hasM l n id = true then upL l id else []
theorem ancM_len (l : List Nd) (n id : Int) : (ancM l n id).length ≤ l.length := by
  unfold ancM
  split
  · have := upR_len l.reverse id; rw [List.length_reverse] at this; exact this
  · exact zaY _
theorem ranc_spec (l : List Nd) (k : Option Nat) (n id : Int) (hl : l.length ≤ 1000000) (hnm : NmR l) : FnSpec Tryz.prog 15 [trV l k n, i1 id] [] (gi (ancM l n id) none) [] := by
  have h1 := rhas_spec l k n id hl hnm
  have h2 := up_spec l k n id hl
  unfold ancM
  cases hh : hasM l n id with
  | false =>
    rw [hh] at h1
    simp only [zbh, if_false]
    refine fnspec_of mixed TT_ok TT_cl ⟨fun _ => false, fun _ => [], 0, fun _ => false, fun _ => false⟩ Tryz.func15 rfl (by kernel_rfl) rfl 12 rfl [.tmp 4] rfl ?_
    simp only [go_sem, zaa, zaf, zag, zah, zak, zad, ↓reduceIte, reduceCtorEq, zab, zac, zal, zam, zan]
    repeat' (first
 | (apply cl_plain
    case hs => rfl
    case ha => (simp only [zai, zao, prepV, prepC, idx, hpL', lookR, zaa, if_true, if_false]; rfl)
    case h => (first | exact h1 ..))
 | ((first | refine s1_id ?_ | refine swp_id ?_ | refine sops_id ?_ | refine s2_id ?_); simp only [go_sem, zaa, zaf, zag, zah, zak, zad, ↓reduceIte, reduceCtorEq, zab, zac, zal, zam, zan, zaG, zaK, zay, zaJ, renO, bk, back, outUpsFrom, Ints_ren])
 | (intros; (try simp only [zau, zax, zat, zas, zap, zaq, decide_eq_true_eq, decide_eq_false_iff_not] at *); omega))
    repeat' (first
 | exact fs_w trivial (svw_of cw_gnil)
 | fail)
  | true =>
    rw [hh] at h1
    rw [if_pos rfl]
    generalize upL l id = U at *
    refine fnspec_of mixed TT_ok TT_cl ⟨fun _ => false, fun _ => [], 0, fun _ => false, fun _ => false⟩ Tryz.func15 rfl (by kernel_rfl) rfl 12 rfl [.tmp 4] rfl ?_
    simp only [go_sem, zaa, zaf, zag, zah, zak, zad, ↓reduceIte, reduceCtorEq, zab, zac, zal, zam, zan]
    repeat' (first
 | (apply cl_plain
    case hs => rfl
    case ha => (simp only [zai, zao, prepV, prepC, idx, hpL', lookR, zaa, if_true, if_false]; rfl)
    case h => (first | exact h1 .. | exact h2 ..))
 | ((first | refine s1_id ?_ | refine swp_id ?_ | refine sops_id ?_ | refine s2_id ?_); simp only [go_sem, zaa, zaf, zag, zah, zak, zad, ↓reduceIte, reduceCtorEq, zab, zac, zal, zam, zan, zaG, zaK, zay, zaJ, renO, bk, back, outUpsFrom, Ints_ren])
 | exact fs_nil trivial rfl
 | fail)
theorem rdepth_spec (l : List Nd) (k : Option Nat) (n id : Int) (hl : l.length ≤ 1000000) (hnm : NmR l) : FnSpec Tryz.prog 70 [trV l k n, i1 id] [] (i1 ((ancM l n id).length - 1)) [] := by
  have h1 := ranc_spec l k n id hl hnm
  have h2 := ancM_len l n id
  generalize ancM l n id = U at *
  refine fnspec_of mixed TT_ok TT_cl ⟨fun _ => false, fun _ => [], 0, fun _ => false, fun _ => false⟩ Tryz.func70 rfl (by kernel_rfl) rfl 10 rfl [.tmp 4] rfl ?_
  simp only [go_sem, zaa, zaf, zag, zah, zak, zad, ↓reduceIte, reduceCtorEq, zab, zac, zal, zam, zan]
  repeat' (first
 | with_reducible refine zar ?_ ?_
 | (apply cl_plain
    case hs => rfl
    case ha => (simp only [zai, zao, prepV, prepC, idx, hpL', lookR, zaa, if_true, if_false]; rfl)
    case h => (first | exact h1 ..))
 | ((first | refine s1_id ?_ | refine swp_id ?_ | refine sops_id ?_ | refine s2_id ?_); simp only [go_sem, zaa, zaf, zag, zah, zak, zad, ↓reduceIte, reduceCtorEq, zab, zac, zal, zam, zan, zaG, zaK, zay, zaJ, renO, bk, back, outUpsFrom, Ints_ren])
 | (intros; omega)
 | exact fs_nil trivial rfl
 | fail)
def kidsL (l : List Nd) (id : Int) : List Int := (l.filter fun x => decide (x.p = id)).map (·.i)
theorem kidsL_len (l : List Nd) (id : Int) : (kidsL l id).length ≤ l.length := by
  rw [kidsL, List.length_map]; exact List.length_filter_le _ _
theorem kidsL_take (l : List Nd) (m : Nat) (h : m < l.length) (id : Int) : kidsL (l.take (m + 1)) id = kidsL (l.take m) id ++ (if (gN l m).p = id then [(gN l m).i] else []) := by
  rw [kidsL, take_getD l m zn h, List.filter_append, List.map_append]
  by_cases c : (gN l m).p = id
  · rw [if_pos c, List.filter_cons_of_pos (by exact decide_eq_true c)]; rfl
  · rw [if_neg c, List.filter_cons_of_neg (by rw [decide_eq_true_eq]; exact c)]; rfl
def chM (l : List Nd) (n id : Int) : List Int := if hasM l n id = true then kidsL l id else []
set_option maxHeartbeats 8000000 in
theorem rkids_spec (l : List Nd) (k : Option Nat) (n id : Int) (hl : l.length ≤ 1000000) (hnm : NmR l) : FnSpec Tryz.prog 73 [trV l k n, i1 id] [] (gi (chM l n id) none) [] := by
  have h1 := rhas_spec l k n id hl hnm
  have hnl := nd_len l
  unfold chM
  cases hh : hasM l n id with
  | false =>
    rw [hh] at h1
    simp only [zbh, if_false]
    refine fnspec_of mixed TT_ok TT_cl ⟨fun _ => false, fun _ => [], 0, fun _ => false, fun _ => false⟩ Tryz.func73 rfl (by kernel_rfl) rfl 36 rfl [.tmp 4] rfl ?_
    simp only [go_sem, zaa, zaf, zag, zah, zak, zad, ↓reduceIte, reduceCtorEq, zab, zac, zal, zam, zan]
    repeat' (first
 | (apply cl_plain
    case hs => rfl
    case ha => (simp only [zai, zao, prepV, prepC, idx, hpL', lookR, zaa, if_true, if_false]; rfl)
    case h => (first | exact h1 ..))
 | ((first | refine s1_id ?_ | refine swp_id ?_ | refine sops_id ?_ | refine s2_id ?_); simp only [go_sem, zaa, zaf, zag, zah, zak, zad, ↓reduceIte, reduceCtorEq, zab, zac, zal, zam, zan, zaG, zaK, zay, zaJ, renO, bk, back, outUpsFrom, Ints_ren])
 | (intros; (try simp only [zau, zax, zat, zas, zap, zaq, decide_eq_true_eq, decide_eq_false_iff_not] at *); omega))
    repeat' (first
 | exact fs_w trivial (svw_of cw_gnil)
 | fail)
  | true =>
    rw [hh] at h1
    rw [if_pos rfl]
    refine fnspec_of mixed TT_ok TT_cl ⟨fun _ => false, fun _ => [], 0, fun _ => false, fun _ => false⟩ Tryz.func73 rfl (by kernel_rfl) rfl 36 rfl [.tmp 4] rfl ?_
    simp only [go_sem, zaa, zaf, zag, zah, zak, zad, ↓reduceIte, reduceCtorEq, zab, zac, zal, zam, zan]
    repeat' (first
 | (apply cl_plain
    case hs => rfl
    case ha => (simp only [zai, zao, prepV, prepC, idx, hpL', lookR, zaa, if_true, if_false]; rfl)
    case h => (first | exact h1 ..))
 | ((first | refine s1_id ?_ | refine swp_id ?_ | refine sops_id ?_ | refine s2_id ?_); simp only [go_sem, zaa, zaf, zag, zah, zak, zad, ↓reduceIte, reduceCtorEq, zab, zac, zal, zam, zan, zaG, zaK, zay, zaJ, renO, bk, back, outUpsFrom, Ints_ren])
 | (intros; (try simp only [zau, zax, zat, zas, zap, zaq, decide_eq_true_eq, decide_eq_false_iff_not] at *); omega))
    refine w_loop (ι := Nat) (fun m => ⟨[(1, i1 id), (2, .one (.optr 0 0)), (5, .one (.osl 1 0 (kidsL (l.take m) id).length none)), (6, i1 m)], [(0, some ⟨[.gsl (Cs l) 0 l.length k, int n], 2⟩), (1, some ⟨Ints (kidsL (l.take m) id), 1⟩)], 2⟩) (fun m => m ≤ l.length) (fun m => l.length - m) 0 ?_ (zaY _) ?_
    · (refine Imp.trans (imp_nilA _ _ 5 1 99 (by simp only []; omega) rfl) ?_)
      (refine imp_ren _ _ _ [(0, 0, ⟨[.gsl (Cs l) 0 l.length k, int n], 2⟩), (1, 99, ⟨[], 1⟩)] (by simp) (by simp) (by simp) (zaw rfl) ?_ rfl (by simp only [zae, zaj, false_implies, implies_true, and_true, zaU, lookR, zaa, if_true, if_false, ↓reduceIte] <;> (repeat' apply zar) <;> (first | rfl | trivial)) (by simp only [zae, zaj, false_implies, implies_true, and_true, true_and, flat_cons, flat_nil, flat_ints, flat_bools, flat_app, zaQ, and_self, eq_self_iff_true, zav]); simp only [zai, zao, zae, zaj, false_implies, implies_true, and_true, lk, slot, zaG, zay, toN, zaa, if_true, if_false, ↓reduceIte, reduceCtorEq])
      all_goals ((repeat' apply zar) <;> (first | rfl | trivial))
    clear h1
    intro m hm
    simp only at hm ⊢
    rcases zbc m l.length with hlt | hge
    case inr =>
      have c : ¬ (m : Int) < (l.length : Int) := by omega
      rw [zaZ hge]
      simp only [go_sem, zaa, zaf, zag, zah, zak, zad, ↓reduceIte, reduceCtorEq, zab, zac, zal, zam, zan, decide_eq_false c]
      repeat' (first
 | (intros; (try simp only [zau, zax, zat, zas, zap, zaq, decide_eq_true_eq, decide_eq_false_iff_not] at *); omega))
      (refine fs_frz 1 ⟨Ints (kidsL l id), 1⟩ (by simp only [zaU, lookR, zaa, if_true, if_false, ↓reduceIte]) (by first | exact Ints_isG _ | exact Bools_isG _ | exact Cs_isG _ | (simp [Cell.isG]; done)) ?_; simp only [frzTm, SV.frz, SV.frzL, Cell.frz, frzHp, frzO, Ints_frz, Bools_frz, zai, zao, zaa, if_true, if_false, ↓reduceIte])
      apply fs_nil <;> (try simp only [go_sem, resV, resS, zaG, zaK, zay, zbk, zaU, idx, renO, zaJ, evS, slot, lookR, zaa, ↓reduceIte, reduceCtorEq, if_true, if_false, zaR, zaS, zai, zao, sLoad, readAt, readNeed, Ints_ren, Ints_length, Ints_getD, and_true, true_and, zaM, zaN]) <;> (try rfl)
    have c : (m : Int) < (l.length : Int) := by omega
    obtain ⟨g1, g2, _⟩ := nd_f l m hlt (.sc (.int .i64 0))
    have hk := kidsL_take l m hlt id
    have hkl := kidsL_len (l.take m) id
    rw [zaW] at hkl
    generalize kidsL (l.take m) id = K at *
    by_cases hid : (gN l m).p = id
    · rw [if_pos hid] at hk
      have htk : zbj K.length (Ints K) = Ints K := zaZ (by rw [Ints_length]; exact zbb _)
      have hpp : Ints K ++ [int (gN l m).i] = Ints (K ++ [(gN l m).i]) := by simp [Ints]
      have hla : (K ++ [(gN l m).i]).length = K.length + 1 := by simp
      simp only [go_sem, zaa, zaf, zag, zah, zak, zad, ↓reduceIte, reduceCtorEq, zab, zac, zal, zam, zan, decide_eq_true c, g1, g2, decide_eq_true hid]
      repeat' (first
 | with_reducible refine zar ?_ ?_
 | (intros; omega)
 | (intros; (try simp only [zau, zax, zat, zas, zap, zaq, decide_eq_true_eq, decide_eq_false_iff_not] at *); omega))
      refine le_mk (m + 1) ?_ hlt (by omega)
      simp only [hk, hla]
      (refine imp_ren _ _ _ [(0, 0, ⟨[.gsl (Cs l) 0 l.length k, int n], 2⟩), (1, 23, ⟨Ints (K ++ [(gN l m).i]), 1⟩)] (by simp) (by simp) (by simp) (zaw rfl) ?_ rfl (by simp only [zae, zaj, false_implies, implies_true, and_true, zaU, lookR, zaa, if_true, if_false, ↓reduceIte] <;> (repeat' apply zar) <;> (first | rfl | trivial)) (by simp only [zae, zaj, false_implies, implies_true, and_true, true_and, flat_cons, flat_nil, flat_ints, flat_bools, flat_app, zaQ, and_self, eq_self_iff_true, zav]); simp only [zai, zao, zae, zaj, false_implies, implies_true, and_true, lk, slot, zaG, zay, toN, zaa, if_true, if_false, ↓reduceIte, reduceCtorEq])
      all_goals ((repeat' apply zar) <;> (first | rfl | trivial | (simp only [zaz]; done) | (simp only [zaz]; rfl) | (simp only [zaz]; trivial)))
    · rw [if_neg hid, zav] at hk
      simp only [go_sem, zaa, zaf, zag, zah, zak, zad, ↓reduceIte, reduceCtorEq, zab, zac, zal, zam, zan, decide_eq_true c, g1, g2, decide_eq_false hid]
      repeat' (first
 | with_reducible refine zar ?_ ?_
 | (intros; omega)
 | (intros; (try simp only [zau, zax, zat, zas, zap, zaq, decide_eq_true_eq, decide_eq_false_iff_not] at *); omega))
      refine le_mk (m + 1) ?_ hlt (by omega)
      simp only [hk]
      (refine imp_ren _ _ _ [(0, 0, ⟨[.gsl (Cs l) 0 l.length k, int n], 2⟩), (1, 1, ⟨Ints K, 1⟩)] (by simp) (by simp) (by simp) (zaw rfl) ?_ rfl (by simp only [zae, zaj, false_implies, implies_true, and_true, zaU, lookR, zaa, if_true, if_false, ↓reduceIte] <;> (repeat' apply zar) <;> (first | rfl | trivial)) (by simp only [zae, zaj, false_implies, implies_true, and_true, true_and, flat_cons, flat_nil, flat_ints, flat_bools, flat_app, zaQ, and_self, eq_self_iff_true, zav]); simp only [zai, zao, zae, zaj, false_implies, implies_true, and_true, lk, slot, zaG, zay, toN, zaa, if_true, if_false, ↓reduceIte, reduceCtorEq])
      all_goals ((repeat' apply zar) <;> (first | rfl | trivial | (simp only [zaz]; done) | (simp only [zaz]; rfl) | (simp only [zaz]; trivial)))
theorem trcopy_spec (l : List Nd) (k : Option Nat) (n : Int) (h1 : 1 ≤ l.length) (hl : l.length ≤ 1000000) : FnSpec Tryz.prog 71 [trV l k n] [] (.agg [.osl 0 0 l.length none, int n]) [some ⟨Cs l, 6⟩] := by
  have hnl := nd_len l
  have hca : zbj (l.length * 6) (Cs l) = Cs l := Cs_all l _ (zbb _)
  refine fnspec_of mixed TT_ok TT_cl ⟨fun _ => false, fun _ => [], 0, fun _ => false, fun _ => false⟩ Tryz.func71 rfl (by kernel_rfl) rfl 9 rfl [.cell 2 29] rfl ?_
  simp only [go_sem, zaa, zaf, zag, zah, zak, zad, ↓reduceIte, reduceCtorEq, zab, zac, zal, zam, zan]
  repeat' (first
 | with_reducible refine zar ?_ ?_
 | (unfold OKC; kernel_rfl)
 | (unfold EDG; kernel_rfl)
 | (intros; omega)
 | (intros; (try simp only [zau, zax, zat, zas, zap, zaq, decide_eq_true_eq, decide_eq_false_iff_not] at *); omega))
  all_goals try (rw [hca, hnl])
  (refine fs_flat [(4, ⟨Cs l, 6⟩)] (by simp) (by simp only [zai, zao]; decide) (by simp only [go_sem, resV, resS, zaG, zaK, zay, zbk, zaU, idx, renO, zaJ, evS, slot, lookR, zaa, ↓reduceIte, reduceCtorEq, if_true, if_false, zaR, zaS, zai, zao, sLoad, readAt, readNeed, Ints_ren, Ints_length, Ints_getD, and_true, true_and, zaM, zaN]; try decide) ?_ (by simp only [zae, zaj, false_implies, implies_true, and_true, zaU, lookR, zaa, if_true, if_false, ↓reduceIte, hca, Cs_flat] <;> (repeat' apply zar) <;> (first | rfl | trivial)) (by simp only [zae, zaj, false_implies, implies_true, and_true, true_and, flat_cons, flat_nil, flat_ints, flat_bools, flat_app, zaQ, and_self, eq_self_iff_true, zav, hca, Cs_flat]) ?_ <;> (try simp only [go_sem, resV, resS, zaG, zaK, zay, zbk, zaU, idx, renO, zaJ, evS, slot, lookR, zaa, ↓reduceIte, reduceCtorEq, if_true, if_false, zaR, zaS, zai, zao, sLoad, readAt, readNeed, Ints_ren, Ints_length, Ints_getD, and_true, true_and, zaM, zaN]) <;> (try rfl))
theorem trnew_spec : FnSpec Tryz.prog 34 [] [] (trV [⟨1, 0, [], 0, 0, 0⟩] none 2) [] := by
  refine fnspec_of mixed TT_ok TT_cl ⟨fun _ => false, fun _ => [], 0, fun _ => false, fun _ => false⟩ Tryz.func34 rfl (by kernel_rfl) rfl 4 rfl [.cell 0 29] rfl ?_
  simp only [go_sem, zaa, zaf, zag, zah, zak, zad, ↓reduceIte, reduceCtorEq, zab, zac, zal, zam, zan]
  repeat' (first
 | with_reducible refine zar ?_ ?_
 | (intros; (try simp only [zau, zax, zat, zas, zap, zaq, decide_eq_true_eq, decide_eq_false_iff_not] at *); omega))
  all_goals try (exact zbb _)
  simp only [zaF, zaH, zav, zaI, zaL, zaD, zaE, zaB, zaO, zaP, zaA, zaC]
  (refine fs_frz 2 ⟨[int 1, int 0, st [], int 0, int 0, int 0], 6⟩ (by simp only [zaU, lookR, zaa, if_true, if_false, ↓reduceIte]) (by first | exact Ints_isG _ | exact Bools_isG _ | exact Cs_isG _ | (simp [Cell.isG]; done)) ?_; simp only [frzTm, SV.frz, SV.frzL, Cell.frz, frzHp, frzO, Ints_frz, Bools_frz, zai, zao, zaa, if_true, if_false, ↓reduceIte])
  repeat' (first
 | (refine fs_w ?h1 (svw_of ?h2); (case h1 => repeat' (first | exact trivial | exact rfl | exact zaw rfl | apply zar)); (case h2 => repeat' (first | ((with_reducible refine (?_ : CW _ _)); first | exact cw_gnil | exact cw_rfl _ | exact cw_niln _ _ | exact cw_cap _ _ _ _) | exact trivial | (show _ ∧ SWL _ _; apply zar) | (show _ ∧ CWL _ _; apply zar) | show CW _ _)))
 | fail)
end Go.Proofs.YtcnilpdlcmpbbaaGreat
-- NEWGO
-- PRUNE: cl_lendx cl_use
-- ISG: Cs_isG
-- FLAT: Cs_flat
namespace Go.Proofs.YtcnilpdlcmpbbaaGreat
set_option linter.unusedVariables false
set_option linter.unusedSimpArgs false
open Go.Proofs.YtcnilpdlcmpbbaaGreat.Sh
set_option maxRecDepth 20000
abbrev newN (n p : Int) (s : Str) : Nd := ⟨n, p, s, 0, 0, 0⟩
def addM (l : List Nd) (n p : Int) (s : Str) : (List Nd × Int) × Int × Int :=
  if (chkT l n && nmOk s) = false then (([], 0), 0, 1)
  else if hasM l n p = false then (([], 0), 0, 4)
  else if l.any (same1 p s) = true then (([], 0), 0, 5)
  else if 8 ≤ ((ancM l n p).length : Int) - 1 ∨ 64 ≤ (l.length : Int) ∨ 2147483647 < n then (([], 0), 0, 7)
  else ((l ++ [newN n p s], n + 1), n, 0)
abbrev adV (x : (List Nd × Int) × Int × Int) : SV := .tup [trV x.1.1 none x.1.2, i1 x.2.1, i1 x.2.2]
set_option maxHeartbeats 16000000 in
theorem radd_spec (l : List Nd) (k : Option Nat) (n p : Int) (s : Str) (hl : l.length ≤ 1000000) (hnm : NmR l) (hs : s.length ≤ 1000000000) : FnSpec Tryz.prog 33 [trV l k n, i1 p, s1 s] [] (adV (addM l n p s)) [] := by
  have h1 := trcheck_spec l k n hl hnm
  have h2 := rvalid_spec s (by omega)
  have hnl := nd_len l
  unfold addM
  cases hc : chkT l n with
  | false =>
    rw [hc] at h1
    rw [zbi, if_pos rfl]
    refine fnspec_of mixed TT_ok TT_cl ⟨fun _ => false, fun _ => [], 0, fun _ => false, fun _ => false⟩ Tryz.func33 rfl (by kernel_rfl) rfl 86 rfl [.cell 6 29, .tmp 7, .tmp 8] rfl ?_
    simp only [go_sem, zaa, zaf, zag, zah, zak, zad, ↓reduceIte, reduceCtorEq, zab, zac, zal, zam, zan]
    repeat' (first
 | (apply cl_plain
    case hs => rfl
    case ha => (simp only [zai, zao, prepV, prepC, idx, hpL', lookR, zaa, if_true, if_false]; rfl)
    case h => (first | exact h1 .. | exact h2 ..))
 | ((first | refine s1_id ?_ | refine swp_id ?_ | refine sops_id ?_ | refine s2_id ?_); simp only [go_sem, zaa, zaf, zag, zah, zak, zad, ↓reduceIte, reduceCtorEq, zab, zac, zal, zam, zan, zaG, zaK, zay, zaJ, renO, bk, back, outUpsFrom, Ints_ren])
 | (intros; (try simp only [zau, zax, zat, zas, zap, zaq, decide_eq_true_eq, decide_eq_false_iff_not] at *); omega))
    repeat' (first
 | (refine fs_w ?h1 (svw_of ?h2); (case h1 => repeat' (first | exact trivial | exact rfl | exact zaw rfl | apply zar)); (case h2 => repeat' (first | ((with_reducible refine (?_ : CW _ _)); first | exact cw_gnil | exact cw_rfl _ | exact cw_niln _ _ | exact cw_cap _ _ _ _) | exact trivial | (show _ ∧ SWL _ _; apply zar) | (show _ ∧ CWL _ _; apply zar) | show CW _ _)))
 | fail)
  | true =>
  rw [hc] at h1
  rw [zba]
  have hV := (chkT_iff l n).1 hc
  cases hv : nmOk s with
  | false =>
    rw [hv] at h2
    rw [if_pos rfl]
    refine fnspec_of mixed TT_ok TT_cl ⟨fun _ => false, fun _ => [], 0, fun _ => false, fun _ => false⟩ Tryz.func33 rfl (by kernel_rfl) rfl 86 rfl [.cell 6 29, .tmp 7, .tmp 8] rfl ?_
    simp only [go_sem, zaa, zaf, zag, zah, zak, zad, ↓reduceIte, reduceCtorEq, zab, zac, zal, zam, zan]
    repeat' (first
 | (apply cg_tp
    case hl => rfl
    case ha => (simp only [zai, zao, prepV, prepC, idx, hpL', lookR, zaa, if_true, if_false]; rfl)
    case hs => rfl
    case h => (first | exact h1 .. | exact h2 ..))
 | (apply cl_plain
    case hs => rfl
    case ha => (simp only [zai, zao, prepV, prepC, idx, hpL', lookR, zaa, if_true, if_false]; rfl)
    case h => (first | exact h1 .. | exact h2 ..))
 | ((first | refine s1_id ?_ | refine swp_id ?_ | refine sops_id ?_ | refine s2_id ?_); simp only [go_sem, zaa, zaf, zag, zah, zak, zad, ↓reduceIte, reduceCtorEq, zab, zac, zal, zam, zan, zaG, zaK, zay, zaJ, renO, bk, back, outUpsFrom, Ints_ren])
 | (intros; (try simp only [zau, zax, zat, zas, zap, zaq, decide_eq_true_eq, decide_eq_false_iff_not] at *); omega))
    repeat' (first
 | (refine fs_w ?h1 (svw_of ?h2); (case h1 => repeat' (first | exact trivial | exact rfl | exact zaw rfl | apply zar)); (case h2 => repeat' (first | ((with_reducible refine (?_ : CW _ _)); first | exact cw_gnil | exact cw_rfl _ | exact cw_niln _ _ | exact cw_cap _ _ _ _) | exact trivial | (show _ ∧ SWL _ _; apply zar) | (show _ ∧ CWL _ _; apply zar) | show CW _ _)))
 | fail)
  | true =>
  rw [hv] at h2
  rw [if_neg (by decide)]
  have h3 := rhas_spec l k n p hl hnm
  cases hh : hasM l n p with
  | false =>
    rw [hh] at h3
    rw [if_pos rfl]
    refine fnspec_of mixed TT_ok TT_cl ⟨fun _ => false, fun _ => [], 0, fun _ => false, fun _ => false⟩ Tryz.func33 rfl (by kernel_rfl) rfl 86 rfl [.cell 6 29, .tmp 7, .tmp 8] rfl ?_
    simp only [go_sem, zaa, zaf, zag, zah, zak, zad, ↓reduceIte, reduceCtorEq, zab, zac, zal, zam, zan]
    repeat' (first
 | (apply cg_tp
    case hl => rfl
    case ha => (simp only [zai, zao, prepV, prepC, idx, hpL', lookR, zaa, if_true, if_false]; rfl)
    case hs => rfl
    case h => (first | exact h1 .. | exact h2 .. | exact h3 ..))
 | (apply cl_plain
    case hs => rfl
    case ha => (simp only [zai, zao, prepV, prepC, idx, hpL', lookR, zaa, if_true, if_false]; rfl)
    case h => (first | exact h1 .. | exact h2 .. | exact h3 ..))
 | ((first | refine s1_id ?_ | refine swp_id ?_ | refine sops_id ?_ | refine s2_id ?_); simp only [go_sem, zaa, zaf, zag, zah, zak, zad, ↓reduceIte, reduceCtorEq, zab, zac, zal, zam, zan, zaG, zaK, zay, zaJ, renO, bk, back, outUpsFrom, Ints_ren])
 | (intros; (try simp only [zau, zax, zat, zas, zap, zaq, decide_eq_true_eq, decide_eq_false_iff_not] at *); omega))
    repeat' (first
 | (refine fs_w ?h1 (svw_of ?h2); (case h1 => repeat' (first | exact trivial | exact rfl | exact zaw rfl | apply zar)); (case h2 => repeat' (first | ((with_reducible refine (?_ : CW _ _)); first | exact cw_gnil | exact cw_rfl _ | exact cw_niln _ _ | exact cw_cap _ _ _ _) | exact trivial | (show _ ∧ SWL _ _; apply zar) | (show _ ∧ CWL _ _; apply zar) | show CW _ _)))
 | fail)
  | true =>
  rw [hh] at h3
  rw [if_neg (by decide)]
  have h4 := rdepth_spec l k n p hl hnm
  refine fnspec_of mixed TT_ok TT_cl ⟨fun _ => false, fun _ => [], 0, fun _ => false, fun _ => false⟩ Tryz.func33 rfl (by kernel_rfl) rfl 86 rfl [.cell 6 29, .tmp 7, .tmp 8] rfl ?_
  simp only [go_sem, zaa, zaf, zag, zah, zak, zad, ↓reduceIte, reduceCtorEq, zab, zac, zal, zam, zan]
  repeat' (first
 | (apply cg_tp
    case hl => rfl
    case ha => (simp only [zai, zao, prepV, prepC, idx, hpL', lookR, zaa, if_true, if_false]; rfl)
    case hs => rfl
    case h => (first | exact h1 .. | exact h2 .. | exact h3 ..))
 | (apply cl_plain
    case hs => rfl
    case ha => (simp only [zai, zao, prepV, prepC, idx, hpL', lookR, zaa, if_true, if_false]; rfl)
    case h => (first | exact h1 .. | exact h2 .. | exact h3 ..))
 | ((first | refine s1_id ?_ | refine swp_id ?_ | refine sops_id ?_ | refine s2_id ?_); simp only [go_sem, zaa, zaf, zag, zah, zak, zad, ↓reduceIte, reduceCtorEq, zab, zac, zal, zam, zan, zaG, zaK, zay, zaJ, renO, bk, back, outUpsFrom, Ints_ren])
 | (intros; (try simp only [zau, zax, zat, zas, zap, zaq, decide_eq_true_eq, decide_eq_false_iff_not] at *); omega))
  refine w_loop (ι := Nat) (fun m => ⟨[(1, i1 p), (2, s1 s), (3, .one (.optr 0 0)), (6, .one (.optr 1 0)), (9, i1 m)], [(0, some ⟨[.gsl (Cs l) 0 l.length k, int n], 2⟩), (1, some ⟨[.sc (.slice none 0 0), int 0], 2⟩)], 2⟩) (fun m => m ≤ l.length ∧ (l.take m).any (same1 p s) = false) (fun m => l.length - m) 0 ?_ ⟨zaY _, rfl⟩ ?_
  · (refine imp_ren _ _ _ [(0, 0, ⟨[.gsl (Cs l) 0 l.length k, int n], 2⟩), (1, 1, ⟨[.sc (.slice none 0 0), int 0], 2⟩)] (by simp) (by simp) (by simp) (zaw rfl) ?_ rfl (by simp only [zae, zaj, false_implies, implies_true, and_true, zaU, lookR, zaa, if_true, if_false, ↓reduceIte] <;> (repeat' apply zar) <;> (first | rfl | trivial)) (by simp only [zae, zaj, false_implies, implies_true, and_true, true_and, flat_cons, flat_nil, flat_ints, flat_bools, flat_app, zaQ, and_self, eq_self_iff_true, zav]); simp only [zai, zao, zae, zaj, false_implies, implies_true, and_true, lk, slot, zaG, zay, toN, zaa, if_true, if_false, ↓reduceIte, reduceCtorEq])
    all_goals ((repeat' apply zar) <;> (first | rfl | trivial))
  clear h1 h2 h3
  rintro m ⟨hm, hno⟩
  simp only at hm hno ⊢
  rcases zbc m l.length with hlt | hge
  case inl =>
    have c : (m : Int) < (l.length : Int) := by omega
    obtain ⟨_, g2, _⟩ := nd_f l m hlt (.sc (.int .i64 0))
    have g3 := (nd_f l m hlt (.sc (.string (bs [])))).2.2.1
    have hs2 := any_take_succ l m hlt (same1 p s)
    have hsm : same1 p s (gN l m) = (decide ((gN l m).p = p) && decide ((gN l m).nm = s)) := rfl
    rw [hno, Bool.false_or] at hs2
    cases hdup : same1 p s (gN l m) with
    | true =>
      have hany : l.any (same1 p s) = true := List.any_eq_true.2 ⟨gN l m, getD_mem l m zn hlt, hdup⟩
      rw [if_pos hany]
      rw [hsm] at hdup
      simp only [go_sem, zaa, zaf, zag, zah, zak, zad, ↓reduceIte, reduceCtorEq, zab, zac, zal, zam, zan, decide_eq_true c, g2, g3, hdup]
      repeat' (first
 | with_reducible refine zar ?_ ?_
 | (intros; omega)
 | (intros; (try simp only [zau, zax, zat, zas, zap, zaq, decide_eq_true_eq, decide_eq_false_iff_not] at *); omega))
      repeat' (first
 | (refine fs_w ?h1 (svw_of ?h2); (case h1 => repeat' (first | exact trivial | exact rfl | exact zaw rfl | apply zar)); (case h2 => repeat' (first | ((with_reducible refine (?_ : CW _ _)); first | exact cw_gnil | exact cw_rfl _ | exact cw_niln _ _ | exact cw_cap _ _ _ _) | exact trivial | (show _ ∧ SWL _ _; apply zar) | (show _ ∧ CWL _ _; apply zar) | show CW _ _)))
 | fail)
    | false =>
      rw [hdup] at hs2
      rw [hsm] at hdup
      simp only [go_sem, zaa, zaf, zag, zah, zak, zad, ↓reduceIte, reduceCtorEq, zab, zac, zal, zam, zan, decide_eq_true c, g2, g3, hdup]
      repeat' (first
 | with_reducible refine zar ?_ ?_
 | (intros; omega)
 | (intros; (try simp only [zau, zax, zat, zas, zap, zaq, decide_eq_true_eq, decide_eq_false_iff_not] at *); omega))
      refine le_mk (m + 1) ?_ ⟨hlt, hs2⟩ (by omega)
      (refine imp_ren _ _ _ [(0, 0, ⟨[.gsl (Cs l) 0 l.length k, int n], 2⟩), (1, 1, ⟨[.sc (.slice none 0 0), int 0], 2⟩)] (by simp) (by simp) (by simp) (zaw rfl) ?_ rfl (by simp only [zae, zaj, false_implies, implies_true, and_true, zaU, lookR, zaa, if_true, if_false, ↓reduceIte] <;> (repeat' apply zar) <;> (first | rfl | trivial)) (by simp only [zae, zaj, false_implies, implies_true, and_true, true_and, flat_cons, flat_nil, flat_ints, flat_bools, flat_app, zaQ, and_self, eq_self_iff_true, zav]); simp only [zai, zao, zae, zaj, false_implies, implies_true, and_true, lk, slot, zaG, zay, toN, zaa, if_true, if_false, ↓reduceIte, reduceCtorEq])
      all_goals ((repeat' apply zar) <;> (first | rfl | trivial | (simp only [zaz]; done) | (simp only [zaz]; rfl) | (simp only [zaz]; trivial)))
  have c : ¬ (m : Int) < (l.length : Int) := by omega
  rw [zaZ hge] at hno
  rw [if_neg (by rw [hno]; decide)]
  have h5 := trcopy_spec l k n hV.ne hl
  have hmx := hV.mx
  have hpos := hV.nx
  have hp1 := hV.pos (i := l.length - 1) (by have := hV.ne; omega)
  by_cases hd : 8 ≤ ((ancM l n p).length : Int) - 1 ∨ 64 ≤ (l.length : Int) ∨ 2147483647 < n
  · rw [if_pos hd]
    have hdd : (decide (8 ≤ ((ancM l n p).length : Int) - 1) || decide (64 ≤ (l.length : Int)) || decide (2147483647 < n)) = true := by
      simp only [zax, decide_eq_true_eq]; omega
    simp only [go_sem, zaa, zaf, zag, zah, zak, zad, ↓reduceIte, reduceCtorEq, zab, zac, zal, zam, zan, decide_eq_false c, hdd]
    repeat' (first
 | (apply cl_plain
    case hs => rfl
    case ha => (simp only [zai, zao, prepV, prepC, idx, hpL', lookR, zaa, if_true, if_false]; rfl)
    case h => (first | exact h4 ..))
 | ((first | refine s1_id ?_ | refine swp_id ?_ | refine sops_id ?_ | refine s2_id ?_); simp only [decide_eq_false c, hdd, go_sem, zaa, zaf, zag, zah, zak, zad, ↓reduceIte, reduceCtorEq, zab, zac, zal, zam, zan, zaG, zaK, zay, zaJ, renO, bk, back, outUpsFrom, Ints_ren])
 | (intros; (try simp only [zau, zax, zat, zas, zap, zaq, decide_eq_true_eq, decide_eq_false_iff_not] at *); omega))
    repeat' (first
 | (refine fs_w ?h1 (svw_of ?h2); (case h1 => repeat' (first | exact trivial | exact rfl | exact zaw rfl | apply zar)); (case h2 => repeat' (first | ((with_reducible refine (?_ : CW _ _)); first | exact cw_gnil | exact cw_rfl _ | exact cw_niln _ _ | exact cw_cap _ _ _ _) | exact trivial | (show _ ∧ SWL _ _; apply zar) | (show _ ∧ CWL _ _; apply zar) | show CW _ _)))
 | fail)
  · rw [if_neg hd]
    have hdd : (decide (8 ≤ ((ancM l n p).length : Int) - 1) || decide (64 ≤ (l.length : Int)) || decide (2147483647 < n)) = false := by
      simp only [zaq, decide_eq_false_iff_not]; omega
    have hca : zbj (l.length * 6) (Cs l) = Cs l := Cs_all l _ (zbb _)
    have hpp : Cs l ++ [int n, int p, st s, int 0, int 0, int 0] = Cs (l ++ [newN n p s]) := Cs_snoc l (newN n p s)
    have hla : (l ++ [newN n p s]).length = l.length + 1 := by simp
    simp only [go_sem, zaa, zaf, zag, zah, zak, zad, ↓reduceIte, reduceCtorEq, zab, zac, zal, zam, zan, decide_eq_false c, hdd]
    repeat' (first
 | with_reducible refine zar ?_ ?_
 | (unfold OKC; kernel_rfl)
 | (unfold EDG; kernel_rfl)
 | (apply cl_plain
    case hs => rfl
    case ha => (simp only [zai, zao, prepV, prepC, idx, hpL', lookR, zaa, if_true, if_false]; rfl)
    case h => (first | exact h4 .. | exact h5 ..))
 | ((first | refine s1_id ?_ | refine swp_id ?_ | refine sops_id ?_ | refine s2_id ?_); simp only [decide_eq_false c, hdd, hca, hpp, zaF, zaH, zav, zaI, zaL, zaD, zaE, zaB, zaO, zaP, zaA, zaC, go_sem, zaa, zaf, zag, zah, zak, zad, ↓reduceIte, reduceCtorEq, zab, zac, zal, zam, zan, zaG, zaK, zay, zaJ, renO, bk, back, outUpsFrom, Ints_ren])
 | (intros; omega)
 | (intros; (try simp only [zau, zax, zat, zas, zap, zaq, decide_eq_true_eq, decide_eq_false_iff_not] at *); omega))
    simp only [adV, trV, hla]
    (refine fs_frz 34 ⟨Cs (l ++ [newN n p s]), 6⟩ (by simp only [zaU, lookR, zaa, if_true, if_false, ↓reduceIte]) (by first | exact Ints_isG _ | exact Bools_isG _ | exact Cs_isG _ | (simp [Cell.isG]; done)) ?_; simp only [frzTm, SV.frz, SV.frzL, Cell.frz, frzHp, frzO, Ints_frz, Bools_frz, zai, zao, zaa, if_true, if_false, ↓reduceIte])
    apply fs_nil <;> (try simp only [go_sem, resV, resS, zaG, zaK, zay, zbk, zaU, idx, renO, zaJ, evS, slot, lookR, zaa, ↓reduceIte, reduceCtorEq, if_true, if_false, zaR, zaS, zai, zao, sLoad, readAt, readNeed, Ints_ren, Ints_length, Ints_getD, and_true, true_and, zaM, zaN]) <;> (first | rfl | decide | skip)
def rmM (l : List Nd) (n id : Int) : (List Nd × Int) × Int :=
  if chkT l n = false then (([], 0), 1)
  else if hasM l n id = false then (([], 0), 4)
  else if id = 1 then (([], 0), 9)
  else if 0 < ((chM l n id).length : Int) then (([], 0), 6)
  else ((rmN l id, n), 0)
abbrev rmV (x : (List Nd × Int) × Int) : SV := .tup [trV x.1.1 none x.1.2, i1 x.2]
theorem rmN_take (l : List Nd) (m : Nat) (h : m < l.length) (id : Int) : rmN (l.take (m + 1)) id = rmN (l.take m) id ++ (if (gN l m).i = id then [] else [gN l m]) := by
  unfold rmN
  rw [take_getD l m zn h, List.filter_append]
  by_cases c : (gN l m).i = id
  · rw [if_pos c, List.filter_cons_of_neg (by simp only [zat, decide_eq_false_iff_not]; exact fun e => e c)]; rfl
  · rw [if_neg c, List.filter_cons_of_pos (by simp only [zat, decide_eq_false_iff_not]; exact c)]; rfl
theorem rmN_len (l : List Nd) (id : Int) : (rmN l id).length ≤ l.length := List.length_filter_le _ _
set_option maxHeartbeats 16000000 in
theorem rrem_spec (l : List Nd) (k : Option Nat) (n id : Int) (hl : l.length ≤ 1000000) (hnm : NmR l) : FnSpec Tryz.prog 38 [trV l k n, i1 id] [] (rmV (rmM l n id)) [] := by
  have h1 := trcheck_spec l k n hl hnm
  have hnl := nd_len l
  unfold rmM
  cases hc : chkT l n with
  | false =>
    rw [hc] at h1
    rw [if_pos rfl]
    refine fnspec_of mixed TT_ok TT_cl ⟨fun _ => false, fun _ => [], 0, fun _ => false, fun _ => false⟩ Tryz.func38 rfl (by kernel_rfl) rfl 59 rfl [.cell 4 29, .tmp 5] rfl ?_
    simp only [go_sem, zaa, zaf, zag, zah, zak, zad, ↓reduceIte, reduceCtorEq, zab, zac, zal, zam, zan]
    repeat' (first
 | (apply cl_plain
    case hs => rfl
    case ha => (simp only [zai, zao, prepV, prepC, idx, hpL', lookR, zaa, if_true, if_false]; rfl)
    case h => (first | exact h1 ..))
 | ((first | refine s1_id ?_ | refine swp_id ?_ | refine sops_id ?_ | refine s2_id ?_); simp only [go_sem, zaa, zaf, zag, zah, zak, zad, ↓reduceIte, reduceCtorEq, zab, zac, zal, zam, zan, zaG, zaK, zay, zaJ, renO, bk, back, outUpsFrom, Ints_ren])
 | (intros; (try simp only [zau, zax, zat, zas, zap, zaq, decide_eq_true_eq, decide_eq_false_iff_not] at *); omega))
    repeat' (first
 | (refine fs_w ?h1 (svw_of ?h2); (case h1 => repeat' (first | exact trivial | exact rfl | exact zaw rfl | apply zar)); (case h2 => repeat' (first | ((with_reducible refine (?_ : CW _ _)); first | exact cw_gnil | exact cw_rfl _ | exact cw_niln _ _ | exact cw_cap _ _ _ _) | exact trivial | (show _ ∧ SWL _ _; apply zar) | (show _ ∧ CWL _ _; apply zar) | show CW _ _)))
 | fail)
  | true =>
  rw [hc] at h1
  rw [if_neg (by decide)]
  have h3 := rhas_spec l k n id hl hnm
  cases hh : hasM l n id with
  | false =>
    rw [hh] at h3
    rw [if_pos rfl]
    refine fnspec_of mixed TT_ok TT_cl ⟨fun _ => false, fun _ => [], 0, fun _ => false, fun _ => false⟩ Tryz.func38 rfl (by kernel_rfl) rfl 59 rfl [.cell 4 29, .tmp 5] rfl ?_
    simp only [go_sem, zaa, zaf, zag, zah, zak, zad, ↓reduceIte, reduceCtorEq, zab, zac, zal, zam, zan]
    repeat' (first
 | (apply cl_plain
    case hs => rfl
    case ha => (simp only [zai, zao, prepV, prepC, idx, hpL', lookR, zaa, if_true, if_false]; rfl)
    case h => (first | exact h1 .. | exact h3 ..))
 | ((first | refine s1_id ?_ | refine swp_id ?_ | refine sops_id ?_ | refine s2_id ?_); simp only [go_sem, zaa, zaf, zag, zah, zak, zad, ↓reduceIte, reduceCtorEq, zab, zac, zal, zam, zan, zaG, zaK, zay, zaJ, renO, bk, back, outUpsFrom, Ints_ren])
 | (intros; (try simp only [zau, zax, zat, zas, zap, zaq, decide_eq_true_eq, decide_eq_false_iff_not] at *); omega))
    repeat' (first
 | (refine fs_w ?h1 (svw_of ?h2); (case h1 => repeat' (first | exact trivial | exact rfl | exact zaw rfl | apply zar)); (case h2 => repeat' (first | ((with_reducible refine (?_ : CW _ _)); first | exact cw_gnil | exact cw_rfl _ | exact cw_niln _ _ | exact cw_cap _ _ _ _) | exact trivial | (show _ ∧ SWL _ _; apply zar) | (show _ ∧ CWL _ _; apply zar) | show CW _ _)))
 | fail)
  | true =>
  rw [hh] at h3
  rw [if_neg (by decide)]
  by_cases hid : id = 1
  · rw [if_pos hid]
    refine fnspec_of mixed TT_ok TT_cl ⟨fun _ => false, fun _ => [], 0, fun _ => false, fun _ => false⟩ Tryz.func38 rfl (by kernel_rfl) rfl 59 rfl [.cell 4 29, .tmp 5] rfl ?_
    simp only [go_sem, zaa, zaf, zag, zah, zak, zad, ↓reduceIte, reduceCtorEq, zab, zac, zal, zam, zan, decide_eq_true hid]
    repeat' (first
 | (apply cl_plain
    case hs => rfl
    case ha => (simp only [zai, zao, prepV, prepC, idx, hpL', lookR, zaa, if_true, if_false]; rfl)
    case h => (first | exact h1 .. | exact h3 ..))
 | ((first | refine s1_id ?_ | refine swp_id ?_ | refine sops_id ?_ | refine s2_id ?_); simp only [decide_eq_true hid, go_sem, zaa, zaf, zag, zah, zak, zad, ↓reduceIte, reduceCtorEq, zab, zac, zal, zam, zan, zaG, zaK, zay, zaJ, renO, bk, back, outUpsFrom, Ints_ren])
 | (intros; (try simp only [zau, zax, zat, zas, zap, zaq, decide_eq_true_eq, decide_eq_false_iff_not] at *); omega))
    repeat' (first
 | (refine fs_w ?h1 (svw_of ?h2); (case h1 => repeat' (first | exact trivial | exact rfl | exact zaw rfl | apply zar)); (case h2 => repeat' (first | ((with_reducible refine (?_ : CW _ _)); first | exact cw_gnil | exact cw_rfl _ | exact cw_niln _ _ | exact cw_cap _ _ _ _) | exact trivial | (show _ ∧ SWL _ _; apply zar) | (show _ ∧ CWL _ _; apply zar) | show CW _ _)))
 | fail)
  rw [if_neg hid]
  have h4 := rkids_spec l k n id hl hnm
  generalize chM l n id = K at *
  by_cases hk : 0 < (K.length : Int)
  · rw [if_pos hk]
    refine fnspec_of mixed TT_ok TT_cl ⟨fun _ => false, fun _ => [], 0, fun _ => false, fun _ => false⟩ Tryz.func38 rfl (by kernel_rfl) rfl 59 rfl [.cell 4 29, .tmp 5] rfl ?_
    simp only [go_sem, zaa, zaf, zag, zah, zak, zad, ↓reduceIte, reduceCtorEq, zab, zac, zal, zam, zan, decide_eq_false hid, decide_eq_true hk]
    repeat' (first
 | (apply cl_plain
    case hs => rfl
    case ha => (simp only [zai, zao, prepV, prepC, idx, hpL', lookR, zaa, if_true, if_false]; rfl)
    case h => (first | exact h1 .. | exact h3 .. | exact h4 ..))
 | ((first | refine s1_id ?_ | refine swp_id ?_ | refine sops_id ?_ | refine s2_id ?_); simp only [decide_eq_false hid, decide_eq_true hk, go_sem, zaa, zaf, zag, zah, zak, zad, ↓reduceIte, reduceCtorEq, zab, zac, zal, zam, zan, zaG, zaK, zay, zaJ, renO, bk, back, outUpsFrom, Ints_ren])
 | (intros; (try simp only [zau, zax, zat, zas, zap, zaq, decide_eq_true_eq, decide_eq_false_iff_not] at *); omega))
    repeat' (first
 | (refine fs_w ?h1 (svw_of ?h2); (case h1 => repeat' (first | exact trivial | exact rfl | exact zaw rfl | apply zar)); (case h2 => repeat' (first | ((with_reducible refine (?_ : CW _ _)); first | exact cw_gnil | exact cw_rfl _ | exact cw_niln _ _ | exact cw_cap _ _ _ _) | exact trivial | (show _ ∧ SWL _ _; apply zar) | (show _ ∧ CWL _ _; apply zar) | show CW _ _)))
 | fail)
  rw [if_neg hk]
  refine fnspec_of mixed TT_ok TT_cl ⟨fun _ => false, fun _ => [], 0, fun _ => false, fun _ => false⟩ Tryz.func38 rfl (by kernel_rfl) rfl 59 rfl [.cell 4 29, .tmp 5] rfl ?_
  simp only [go_sem, zaa, zaf, zag, zah, zak, zad, ↓reduceIte, reduceCtorEq, zab, zac, zal, zam, zan, decide_eq_false hid, decide_eq_false hk]
  repeat' (first
 | (apply cl_plain
    case hs => rfl
    case ha => (simp only [zai, zao, prepV, prepC, idx, hpL', lookR, zaa, if_true, if_false]; rfl)
    case h => (first | exact h1 .. | exact h3 .. | exact h4 ..))
 | ((first | refine s1_id ?_ | refine swp_id ?_ | refine sops_id ?_ | refine s2_id ?_); simp only [decide_eq_false hid, decide_eq_false hk, go_sem, zaa, zaf, zag, zah, zak, zad, ↓reduceIte, reduceCtorEq, zab, zac, zal, zam, zan, zaG, zaK, zay, zaJ, renO, bk, back, outUpsFrom, Ints_ren])
 | (intros; (try simp only [zau, zax, zat, zas, zap, zaq, decide_eq_true_eq, decide_eq_false_iff_not] at *); omega))
  refine w_loop (ι := Nat) (fun m => ⟨[(1, i1 id), (2, .one (.optr 0 0)), (4, .one (.optr 1 0)), (6, .one (.optr 2 0)), (7, i1 m)], [(0, some ⟨[.gsl (Cs l) 0 l.length k, int n], 2⟩), (1, some ⟨[.sc (.slice none 0 0), int 0], 2⟩), (2, some ⟨[.osl 3 0 (rmN (l.take m) id).length none, int n], 2⟩), (3, some ⟨Cs (rmN (l.take m) id), 6⟩)], 4⟩) (fun m => m ≤ l.length) (fun m => l.length - m) 0 ?_ (zaY _) ?_
  · (refine Imp.trans (imp_nilC _ _ 24 0 6 99 (by simp only []; omega) (by simp only [zaU, lookR, zaa, if_true, if_false, ↓reduceIte]; rfl) rfl) ?_)
    (refine imp_sub _ _ _ [(0, 0), (1, 1), (2, 24), (3, 99)] (by simp) (by simp) (by simp) (zaw rfl) ?_ (by simp only [zai, zao, zaU, lookR, renO, zaJ, zay, toN, Ints_ren, Bools_ren, zaa, if_true, if_false, ↓reduceIte, Cs_ren, Cs_flat, zaD] <;> (try rfl)) (by simp only [zae, zaj, false_implies, implies_true, and_true, zaU, lookR, zaa, if_true, if_false, ↓reduceIte, Option.some.injEq, forall_eq'] <;> ((repeat' with_reducible apply zar) <;> (first | with_reducible trivial | exact fun c hc q hq => absurd hq (Ints_refs0 _ _ c hc) | exact fun c hc q hq => absurd hq (by rw [Cs_flat _ c hc]; exact zaj) | (simp [zaQ, toN]; done)))); simp only [zai, zao, zae, zaj, false_implies, implies_true, and_true, lk, slot, zaG, zay, toN, zaa, if_true, if_false, ↓reduceIte, reduceCtorEq])
    all_goals ((repeat' apply zar) <;> (first | rfl | trivial))
  clear h1 h3 h4
  intro m hm
  simp only at hm ⊢
  rcases zbc m l.length with hlt | hge
  case inr =>
    have c : ¬ (m : Int) < (l.length : Int) := by omega
    rw [zaZ hge]
    simp only [go_sem, zaa, zaf, zag, zah, zak, zad, ↓reduceIte, reduceCtorEq, zab, zac, zal, zam, zan, decide_eq_false c]
    repeat' (first
 | (intros; (try simp only [zau, zax, zat, zas, zap, zaq, decide_eq_true_eq, decide_eq_false_iff_not] at *); omega))
    (refine fs_frz 3 ⟨Cs (rmN l id), 6⟩ (by simp only [zaU, lookR, zaa, if_true, if_false, ↓reduceIte]) (by first | exact Ints_isG _ | exact Bools_isG _ | exact Cs_isG _ | (simp [Cell.isG]; done)) ?_; simp only [frzTm, SV.frz, SV.frzL, Cell.frz, frzHp, frzO, Ints_frz, Bools_frz, zai, zao, zaa, if_true, if_false, ↓reduceIte])
    apply fs_nil <;> (try simp only [go_sem, resV, resS, zaG, zaK, zay, zbk, zaU, idx, renO, zaJ, evS, slot, lookR, zaa, ↓reduceIte, reduceCtorEq, if_true, if_false, zaR, zaS, zai, zao, sLoad, readAt, readNeed, Ints_ren, Ints_length, Ints_getD, and_true, true_and, zaM, zaN]) <;> (first | rfl | decide | skip)
  have c : (m : Int) < (l.length : Int) := by omega
  obtain ⟨g1, _⟩ := nd_f l m hlt (.sc (.int .i64 0))
  have hN := nd_td l m hlt
  have ht := rmN_take l m hlt id
  have htl := rmN_len (l.take m) id
  rw [zaW] at htl
  generalize rmN (l.take m) id = K2 at *
  by_cases hi : (gN l m).i = id
  · rw [if_pos hi, zav] at ht
    simp only [go_sem, zaa, zaf, zag, zah, zak, zad, ↓reduceIte, reduceCtorEq, zab, zac, zal, zam, zan, decide_eq_true c, g1, decide_eq_true hi]
    repeat' (first
 | with_reducible refine zar ?_ ?_
 | (intros; omega)
 | (intros; (try simp only [zau, zax, zat, zas, zap, zaq, decide_eq_true_eq, decide_eq_false_iff_not] at *); omega))
    refine le_mk (m + 1) ?_ hlt (by omega)
    simp only [ht]
    (refine imp_sub _ _ _ [(0, 0), (1, 1), (2, 2), (3, 3)] (by simp) (by simp) (by simp) (zaw rfl) ?_ (by simp only [zai, zao, zaU, lookR, renO, zaJ, zay, toN, Ints_ren, Bools_ren, zaa, if_true, if_false, ↓reduceIte, Cs_ren, Cs_flat] <;> (try rfl)) (by simp only [zae, zaj, false_implies, implies_true, and_true, zaU, lookR, zaa, if_true, if_false, ↓reduceIte, Option.some.injEq, forall_eq'] <;> ((repeat' with_reducible apply zar) <;> (first | with_reducible trivial | exact fun c hc q hq => absurd hq (Ints_refs0 _ _ c hc) | exact fun c hc q hq => absurd hq (by rw [Cs_flat _ c hc]; exact zaj) | (simp [zaQ, toN]; done)))); simp only [zai, zao, zae, zaj, false_implies, implies_true, and_true, lk, slot, zaG, zay, toN, zaa, if_true, if_false, ↓reduceIte, reduceCtorEq])
    all_goals ((repeat' apply zar) <;> (first | rfl | trivial | (simp only [zaz]; done) | (simp only [zaz]; rfl) | (simp only [zaz]; trivial)))
  · rw [if_neg hi] at ht
    have hca : zbj (K2.length * 6) (Cs K2) = Cs K2 := Cs_all K2 _ (zbb _)
    have hck : (Cs K2).length = K2.length * 6 := Cs_len K2
    have hla : (K2 ++ [gN l m]).length = K2.length + 1 := by simp
    have hpp : Cs K2 ++ ndc (gN l m) = Cs (K2 ++ [gN l m]) := Cs_snoc K2 _
    simp only [ndc] at hN hpp
    simp only [go_sem, zaa, zaf, zag, zah, zak, zad, ↓reduceIte, reduceCtorEq, zab, zac, zal, zam, zan, decide_eq_true c, g1, decide_eq_false hi, hN]
    repeat' (first
 | with_reducible refine zar ?_ ?_
 | (unfold OKC; kernel_rfl)
 | (unfold EDG; kernel_rfl)
 | (intros; omega)
 | (intros; (try simp only [zau, zax, zat, zas, zap, zaq, decide_eq_true_eq, decide_eq_false_iff_not] at *); omega))
    all_goals try (exact zbb _)
    all_goals try (rw [hck]; exact zbb _)
    all_goals try (show List.length _ = 6; rfl)
    refine le_mk (m + 1) ?_ hlt (by omega)
    simp only [ht, hla, hca, zaF, zaH, zav, zaI, zaL, zaD, zaE, zaB, zaO, zaP, zaA, zaC]
    simp only [hpp]
    (refine imp_sub _ _ _ [(0, 0), (1, 1), (2, 2), (3, 25)] (by simp) (by simp) (by simp) (zaw rfl) ?_ (by simp only [zai, zao, zaU, lookR, renO, zaJ, zay, toN, Ints_ren, Bools_ren, zaa, if_true, if_false, ↓reduceIte, Cs_ren, Cs_flat] <;> (try rfl)) (by simp only [zae, zaj, false_implies, implies_true, and_true, zaU, lookR, zaa, if_true, if_false, ↓reduceIte, Option.some.injEq, forall_eq'] <;> ((repeat' with_reducible apply zar) <;> (first | with_reducible trivial | exact fun c hc q hq => absurd hq (Ints_refs0 _ _ c hc) | exact fun c hc q hq => absurd hq (by rw [Cs_flat _ c hc]; exact zaj) | (simp [zaQ, toN]; done)))); simp only [zai, zao, zae, zaj, false_implies, implies_true, and_true, lk, slot, zaG, zay, toN, zaa, if_true, if_false, ↓reduceIte, reduceCtorEq])
    all_goals ((repeat' apply zar) <;> (first | rfl | trivial | (simp only [zaz]; done) | (simp only [zaz]; rfl) | (simp only [zaz]; trivial)))
end Go.Proofs.YtcnilpdlcmpbbaaGreat
-- NEWGO
-- PRUNE: cl_lendx cl_use
-- ISG: Strs_isG
-- FLAT: Strs_flat
namespace Go.Proofs.YtcnilpdlcmpbbaaGreat
set_option linter.unusedVariables false
set_option linter.unusedSimpArgs false
open Go.Proofs.YtcnilpdlcmpbbaaGreat.Sh
set_option maxRecDepth 20000
def nmL : List Str := [[97], [98], [99], [119, 101, 98], [100, 98, 45, 49], [88, 95, 57]]
theorem nx_rng (l : List Int) (i : Nat) (n : Int) (hn : 0 < n) : 0 ≤ nxV l i n ∧ nxV l i n < n := by
  unfold nxV
  split
  · omega
  · exact ⟨Int.emod_nonneg _ (by omega), Int.emod_lt_of_pos _ hn⟩
def nmV (l : List Int) (i : Nat) : Str := nmL.getD (nxV l i 6).toNat []
theorem getD_len (L : List Str) (n : Nat) (h : ∀ s ∈ L, s.length ≤ n) (j : Nat) : (L.getD j []).length ≤ n := by
  rw [List.getD_eq_getElem?_getD]
  cases hx : L[j]? with
  | none => exact zaY _
  | some s => exact h s (List.mem_of_getElem? hx)
theorem nmV_len (l : List Int) (i : Nat) : (nmV l i).length ≤ 4 := getD_len nmL 4 (by decide) _
variable {l : List Int} (hl : l.length ≤ 600) (hr : ∀ x ∈ l, -9223372036854775808 ≤ x ∧ x ≤ 9223372036854775807)
include hl hr
theorem name_spec (i : Nat) : FnSpec Tryz.prog 36 [dp] [dice l i] (s1 (nmV l i)) [some (dice l (nxA l i 6))] := by
  have h1 := next_spec l i 6 hl hr (by omega)
  have h2 := nx_rng l i 6 (by omega)
  have hat := Strs_getD' nmL (nxV l i 6).toNat (.sc (.string (bs []))) (by show _ < 6; omega)
  simp only [Strs, nmL, zai, zao] at hat
  unfold nmV nmL
  generalize nxV l i 6 = x at *
  generalize nxA l i 6 = j at *
  refine fnspec_of mixed TT_ok TT_cl ⟨fun _ => false, fun f => if f = 11 then [0] else [], 1, fun _ => false, fun _ => false⟩ Tryz.func36 rfl (by kernel_rfl) rfl 8 rfl [.tmp 2] rfl ?_
  simp only [go_sem, zaa, zaf, zag, zah, zak, zad, ↓reduceIte, reduceCtorEq, zab, zac, zal, zam, zan]
  repeat' (first
 | with_reducible refine zar ?_ ?_
 | (apply cl_lend
    case hr => (simp only [zai, zao, hpL', lookR, zaa, if_true, if_false]; first | exact map1 _ | exact map2 _ _ | exact map3 _ _ _)
    case ha => (simp only [zai, zao, prepV, prepC, idx, hpL', lookR, zaa, if_true, if_false]; rfl)
    case hs => rfl
    case hn => decide
    case h => (first | exact h1 ..)
    case hf => (simp only [zae, zaj, false_implies, implies_true, and_true, true_and, flat_cons, flat_nil, flat_ints, flat_bools, flat_app, Strs_flat, zaQ, and_self, eq_self_iff_true, zav])
    case hl => (simp only [zaA, zaC]; decide))
 | ((first | refine s1_id ?_ | refine swp_id ?_ | refine sops_id ?_ | refine s2_id ?_); simp only [hat, dice, go_sem, zaa, zaf, zag, zah, zak, zad, ↓reduceIte, reduceCtorEq, zab, zac, zal, zam, zan, zaG, zaK, zay, zaJ, renO, bk, back, outUpsFrom, Ints_ren])
 | (intros; omega)
 | fail)
  (refine fs_flat [(0, dice l j)] (by simp) (by simp only [zai, zao]; decide) (by simp only [go_sem, resV, resS, zaG, zaK, zay, zbk, zaU, idx, renO, zaJ, evS, slot, lookR, zaa, ↓reduceIte, reduceCtorEq, if_true, if_false, zaR, zaS, zai, zao, sLoad, readAt, readNeed, Ints_ren, Ints_length, Ints_getD, and_true, true_and, zaM, zaN]; try decide) ?_ (by simp only [zae, zaj, false_implies, implies_true, and_true, zaU, lookR, zaa, if_true, if_false, ↓reduceIte] <;> (repeat' apply zar) <;> (first | rfl | trivial)) (by simp only [zae, zaj, false_implies, implies_true, and_true, true_and, flat_cons, flat_nil, flat_ints, flat_bools, flat_app, zaQ, and_self, eq_self_iff_true, zav]) ?_ <;> (try simp only [go_sem, resV, resS, zaG, zaK, zay, zbk, zaU, idx, renO, zaJ, evS, slot, lookR, zaa, ↓reduceIte, reduceCtorEq, if_true, if_false, zaR, zaS, zai, zao, sLoad, readAt, readNeed, Ints_ren, Ints_length, Ints_getD, and_true, true_and, zaM, zaN]) <;> (try rfl))
end Go.Proofs.YtcnilpdlcmpbbaaGreat
-- NEWGO
-- PRUNE: cl_lendx cl_use
-- ISG: Cs_isG
-- FLAT: Cs_flat
namespace Go.Proofs.YtcnilpdlcmpbbaaGreat
set_option linter.unusedVariables false
set_option linter.unusedSimpArgs false
open Go.Proofs.YtcnilpdlcmpbbaaGreat.Sh
set_option maxRecDepth 20000
abbrev TrS := (List Nd × Int) × Nat
def tPk (L : List Int) (s : TrS) : Int := (gN s.1.1 (nxV L s.2 s.1.1.length).toNat).i
def tAddM (L : List Int) (s : TrS) : (List Nd × Int) × Int × Int := addM s.1.1 s.1.2 (tPk L s) (nmV L (nxA L s.2 s.1.1.length))
def tAdd (L : List Int) (s : TrS) : TrS := (if (tAddM L s).2.2 = 0 then (tAddM L s).1 else s.1, nxA L (nxA L s.2 s.1.1.length) 6)
def tRemM (L : List Int) (s : TrS) : (List Nd × Int) × Int := rmM s.1.1 s.1.2 (tPk L (s.1, nxA L s.2 6))
def tRem (L : List Int) (s : TrS) : TrS := if nxV L s.2 6 = 5 then (if (tRemM L s).2 = 0 then (tRemM L s).1 else s.1, nxA L (nxA L s.2 6) s.1.1.length) else (s.1, nxA L s.2 6)
def tLp (L : List Int) : Nat → TrS → TrS
  | 0, s => s
  | m + 1, s => tLp L m (tRem L (tAdd L s))
def mkT (L : List Int) (j : Nat) (N : Nat) : TrS := tLp L (nxV L j ((N : Int) + 1)).toNat (([⟨1, 0, [], 0, 0, 0⟩], 2), nxA L j ((N : Int) + 1))
structure TI (l : List Nd) (n : Int) (B : Nat) : Prop where
  v : VL l n
  nm : ∀ x ∈ l, x.nm.length ≤ 4
  b : l.length ≤ B
  z : ∀ x ∈ l, x.c = 0 ∧ x.k = 0 ∧ x.o = 0
theorem TI.nr {l : List Nd} {n : Int} {B : Nat} (h : TI l n B) : NmR l := fun x hx => by have := h.nm x hx; omega
theorem TI.len {l : List Nd} {n : Int} {B : Nat} (h : TI l n B) : 1 ≤ l.length ∧ l.length ≤ 64 := ⟨h.v.ne, h.v.le⟩
theorem TI.mono {l : List Nd} {n : Int} {B C : Nat} (h : TI l n B) (hc : B ≤ C) : TI l n C := ⟨h.v, h.nm, Nat.le_trans h.b hc, h.z⟩
theorem hasM_iff {l : List Nd} {n id : Int} : hasM l n id = true ↔ chkT l n = true ∧ ∃ y ∈ l, y.i = id := by
  unfold hasM
  rw [zau, List.any_eq_true]
  simp only [hasI, decide_eq_true_eq]
theorem addM_ok {l : List Nd} {n p : Int} {s : Str} (h : (addM l n p s).2.2 = 0) : addM l n p s = ((l ++ [newN n p s], n + 1), n, 0) ∧ chkT l n = true ∧ nmOk s = true ∧ (∃ y ∈ l, y.i = p) ∧ (∀ y ∈ l, ¬ (y.p = p ∧ y.nm = s)) ∧ (upL l p).length ≤ 8 ∧ l.length < 64 ∧ n ≤ 2147483647 := by
  unfold addM at h ⊢
  by_cases h1 : (chkT l n && nmOk s) = false
  · rw [if_pos h1] at h; cases h
  rw [if_neg h1] at h ⊢
  by_cases h2 : hasM l n p = false
  · rw [if_pos h2] at h; cases h
  rw [if_neg h2] at h ⊢
  by_cases h3 : l.any (same1 p s) = true
  · rw [if_pos h3] at h; cases h
  rw [if_neg h3] at h ⊢
  by_cases h4 : 8 ≤ ((ancM l n p).length : Int) - 1 ∨ 64 ≤ (l.length : Int) ∨ 2147483647 < n
  · rw [if_pos h4] at h; cases h
  rw [if_neg h4]
  have h1' : (chkT l n && nmOk s) = true := by revert h1; cases (chkT l n && nmOk s) <;> simp
  rw [zau] at h1'
  have h2' : hasM l n p = true := by revert h2; cases hasM l n p <;> simp
  have ha : ancM l n p = upL l p := if_pos h2'
  rw [ha] at h4
  refine ⟨rfl, h1'.1, h1'.2, (hasM_iff.1 h2').2, fun y hy hh => h3 (List.any_eq_true.2 ⟨y, hy, ?_⟩), by omega, by omega, by omega⟩
  unfold same1
  rw [decide_eq_true hh.1, decide_eq_true hh.2]; rfl
theorem rmM_ok {l : List Nd} {n id : Int} (h : (rmM l n id).2 = 0) : rmM l n id = ((rmN l id, n), 0) ∧ chkT l n = true ∧ (∃ y ∈ l, y.i = id) ∧ id ≠ 1 ∧ ∀ x ∈ l, x.p ≠ id := by
  unfold rmM at h ⊢
  by_cases h1 : chkT l n = false
  · rw [if_pos h1] at h; cases h
  rw [if_neg h1] at h ⊢
  by_cases h2 : hasM l n id = false
  · rw [if_pos h2] at h; cases h
  rw [if_neg h2] at h ⊢
  by_cases h3 : id = 1
  · rw [if_pos h3] at h; cases h
  rw [if_neg h3] at h ⊢
  by_cases h4 : 0 < ((chM l n id).length : Int)
  · rw [if_pos h4] at h; cases h
  rw [if_neg h4]
  have h2' : hasM l n id = true := by revert h2; cases hasM l n id <;> simp
  have hc : chM l n id = kidsL l id := if_pos h2'
  rw [hc] at h4
  refine ⟨rfl, (hasM_iff.1 h2').1, (hasM_iff.1 h2').2, h3, fun x hx e => h4 ?_⟩
  have : x.i ∈ kidsL l id := List.mem_map_of_mem (List.mem_filter.2 ⟨hx, decide_eq_true e⟩)
  have := List.length_pos_of_mem this
  omega
theorem TI.add {l : List Nd} {n p : Int} {s : Str} {B : Nat} (h : TI l n B) (hs : s.length ≤ 4) (he : (addM l n p s).2.2 = 0) : TI (addM l n p s).1.1 (addM l n p s).1.2 (B + 1) := by
  obtain ⟨e, h1, h2, h3, h4, h5, h6, h7⟩ := addM_ok he
  rw [e]
  refine ⟨h.v.add h2 h3 h4 h5 h6 h7, fun x hx => ?_, by rw [List.length_append, List.length_singleton]; have := h.b; omega, fun x hx => ?_⟩
  · rcases List.mem_append.1 hx with hx | hx
    · exact h.nm x hx
    · rw [List.mem_singleton.1 hx]; exact hs
  · rcases List.mem_append.1 hx with hx | hx
    · exact h.z x hx
    · rw [List.mem_singleton.1 hx]; exact ⟨rfl, rfl, rfl⟩
theorem TI.rem {l : List Nd} {n id : Int} {B : Nat} (h : TI l n B) (he : (rmM l n id).2 = 0) : TI (rmM l n id).1.1 (rmM l n id).1.2 B := by
  obtain ⟨e, h1, h2, h3, h4⟩ := rmM_ok he
  rw [e]
  refine ⟨h.v.rm h3 h4, fun x hx => h.nm x ((rmN_mem l id x).1 hx).1, Nat.le_trans (rmN_len l id) h.b, fun x hx => h.z x ((rmN_mem l id x).1 hx).1⟩
theorem tAdd_ok (L : List Int) {s : TrS} {B : Nat} (h : TI s.1.1 s.1.2 B) : TI (tAdd L s).1.1 (tAdd L s).1.2 (B + 1) := by
  unfold tAdd
  simp only
  by_cases he : (tAddM L s).2.2 = 0
  · rw [if_pos he]
    exact h.add (nmV_len _ _) he
  · rw [if_neg he]; exact h.mono (Nat.le_succ B)
theorem tRem_ok (L : List Int) {s : TrS} {B : Nat} (h : TI s.1.1 s.1.2 B) : TI (tRem L s).1.1 (tRem L s).1.2 B := by
  unfold tRem
  by_cases hb : nxV L s.2 6 = 5
  · rw [if_pos hb]
    simp only
    by_cases he : (tRemM L s).2 = 0
    · rw [if_pos he]; exact h.rem he
    · rw [if_neg he]; exact h
  · rw [if_neg hb]; exact h
theorem tLp_ok (L : List Int) : ∀ (m : Nat) (s : TrS) (B : Nat), TI s.1.1 s.1.2 B → TI (tLp L m s).1.1 (tLp L m s).1.2 (B + m)
  | 0, s, B, h => h
  | m + 1, s, B, h => by
    have := tLp_ok L m _ _ (tRem_ok L (tAdd_ok L h))
    rw [show B + 1 + m = B + (m + 1) by omega] at this
    exact this
theorem TI_new : TI [⟨1, 0, [], 0, 0, 0⟩] 2 1 := ⟨VL_new, fun x hx => by rw [List.mem_singleton.1 hx]; decide, zbb _, fun x hx => by rw [List.mem_singleton.1 hx]; exact ⟨rfl, rfl, rfl⟩⟩
theorem mkT_ok (L : List Int) (j N : Nat) : TI (mkT L j N).1.1 (mkT L j N).1.2 (N + 1) := by
  have h := tLp_ok L (nxV L j ((N : Int) + 1)).toNat (([⟨1, 0, [], 0, 0, 0⟩], 2), nxA L j ((N : Int) + 1)) 1 TI_new
  have h2 := nx_rng L j ((N : Int) + 1) (by omega)
  exact h.mono (by omega)
def lendT : FuncId → List Nat := fun f => if f = 11 then [0] else if f = 36 then [0] else if f = 37 then [0] else []
set_option maxHeartbeats 32000000 in
theorem tree_spec (L : List Int) (hl : L.length ≤ 600) (hr : ∀ x ∈ L, -9223372036854775808 ≤ x ∧ x ≤ 9223372036854775807) (j N : Nat) (hN : N ≤ 50) :
    FnSpec Tryz.prog 9 [dp, i1 N] [dice L j] (trV (mkT L j N).1.1 none (mkT L j N).1.2) [some (dice L (mkT L j N).2)] := by
  have n0 := next_spec L j ((N : Int) + 1) hl hr (by omega)
  have r0 := nx_rng L j ((N : Int) + 1) (by omega)
  obtain ⟨T, hT⟩ : ∃ T, mkT L j N = T := ⟨_, rfl⟩
  have hT0 := hT
  rw [hT]
  unfold mkT at hT
  obtain ⟨c0, hc0, hc1⟩ : ∃ c : Nat, nxV L j ((N : Int) + 1) = c ∧ c ≤ N := ⟨(nxV L j ((N : Int) + 1)).toNat, by omega, by omega⟩
  rw [hc0, zaT] at hT
  rw [hc0] at n0
  refine fnspec_of mixed TT_ok TT_cl ⟨fun _ => false, lendT, 1, fun _ => false, fun _ => false⟩ Tryz.func9 rfl (by kernel_rfl) rfl 65 rfl [.cell 4 29] rfl ?_
  simp only [go_sem, zaa, zaf, zag, zah, zak, zad, ↓reduceIte, reduceCtorEq, zab, zac, zal, zam, zan, lendT]
  repeat' (first
 | with_reducible refine zar ?_ ?_
 | (apply cl_plain
    case hs => rfl
    case ha => (simp only [zai, zao, prepV, prepC, idx, hpL', lookR, zaa, if_true, if_false]; rfl)
    case h => (first | exact trnew_spec .. | exact n0 ..))
 | (apply cl_lend
    case hr => (simp only [zai, zao, hpL', lookR, zaa, if_true, if_false]; first | exact map1 _ | exact map2 _ _ | exact map3 _ _ _)
    case ha => (simp only [zai, zao, prepV, prepC, idx, hpL', lookR, zaa, if_true, if_false]; rfl)
    case hs => rfl
    case hn => decide
    case h => (first | exact trnew_spec .. | exact n0 ..)
    case hf => (simp only [zae, zaj, false_implies, implies_true, and_true, true_and, flat_cons, flat_nil, flat_ints, flat_bools, flat_app, Cs_flat, zaQ, and_self, eq_self_iff_true, zav])
    case hl => (simp only [zaA, zaC]; decide))
 | ((first | refine s1_id ?_ | refine swp_id ?_ | refine sops_id ?_ | refine s2_id ?_); simp only [lendT, dice, go_sem, zaa, zaf, zag, zah, zak, zad, ↓reduceIte, reduceCtorEq, zab, zac, zal, zam, zan, zaG, zaK, zay, zaJ, renO, bk, back, outUpsFrom, Ints_ren])
 | (intros; omega)
 | (intros; (try simp only [zau, zax, zat, zas, zap, zaq, decide_eq_true_eq, decide_eq_false_iff_not] at *); omega))
  refine w_loop (ι := Nat × TrS) (fun s => ⟨[(0, dp), (4, .one (.optr 1 0)), (5, .one (.optr 2 0)), (6, i1 s.1)], [(0, some (dice L s.2.2)), (1, some ⟨[.sc (.slice none 0 0), int 0], 2⟩), (2, some ⟨[.gsl (Cs s.2.1.1) 0 s.2.1.1.length none, int s.2.1.2], 2⟩)], 3⟩) (fun s => T = tLp L s.1 s.2 ∧ TI s.2.1.1 s.2.1.2 (N + 1 - s.1) ∧ s.1 ≤ N) (fun s => s.1) (c0, (([⟨1, 0, [], 0, 0, 0⟩], 2), nxA L j ((N : Int) + 1))) ?_ ⟨hT.symm, TI_new.mono (by omega), hc1⟩ ?_
  · (refine imp_ren _ _ _ [(0, 0, dice L (nxA L j ((N : Int) + 1))), (1, 1, ⟨[.sc (.slice none 0 0), int 0], 2⟩), (2, 3, ⟨[.gsl (Cs ([⟨1, 0, [], 0, 0, 0⟩] : List Nd)) 0 1 none, int 2], 2⟩)] (by simp) (by simp) (by simp) (zaw rfl) ?_ rfl (by simp only [zae, zaj, false_implies, implies_true, and_true, zaU, lookR, zaa, if_true, if_false, ↓reduceIte, dice] <;> (repeat' apply zar) <;> (first | rfl | trivial)) (by simp only [zae, zaj, false_implies, implies_true, and_true, true_and, flat_cons, flat_nil, flat_ints, flat_bools, flat_app, zaQ, and_self, eq_self_iff_true, zav, dice]); simp only [zai, zao, zae, zaj, false_implies, implies_true, and_true, lk, slot, zaG, zay, toN, zaa, if_true, if_false, ↓reduceIte, reduceCtorEq])
    all_goals ((repeat' apply zar) <;> (first | rfl | trivial))
  clear n0 r0 hT hT0 hc0
  rintro ⟨m, ⟨⟨l, n⟩, i⟩⟩ ⟨hI, hti, hmN⟩
  simp only at hI hti hmN ⊢
  cases m with
  | zero =>
    rw [tLp] at hI
    subst hI
    simp only [go_sem, zaa, zaf, zag, zah, zak, zad, ↓reduceIte, reduceCtorEq, zab, zac, zal, zam, zan, lendT]
    repeat' (first
 | (intros; (try simp only [zau, zax, zat, zas, zap, zaq, decide_eq_true_eq, decide_eq_false_iff_not] at *); omega))
    (refine fs_flat [(0, dice L i)] (by simp) (by simp only [zai, zao]; decide) (by simp only [go_sem, resV, resS, zaG, zaK, zay, zbk, zaU, idx, renO, zaJ, evS, slot, lookR, zaa, ↓reduceIte, reduceCtorEq, if_true, if_false, zaR, zaS, zai, zao, sLoad, readAt, readNeed, Ints_ren, Ints_length, Ints_getD, and_true, true_and, zaM, zaN]; try decide) ?_ (by simp only [zae, zaj, false_implies, implies_true, and_true, zaU, lookR, zaa, if_true, if_false, ↓reduceIte, dice] <;> (repeat' apply zar) <;> (first | rfl | trivial)) (by simp only [zae, zaj, false_implies, implies_true, and_true, true_and, flat_cons, flat_nil, flat_ints, flat_bools, flat_app, zaQ, and_self, eq_self_iff_true, zav, dice]) ?_ <;> (try simp only [go_sem, resV, resS, zaG, zaK, zay, zbk, zaU, idx, renO, zaJ, evS, slot, lookR, zaa, ↓reduceIte, reduceCtorEq, if_true, if_false, zaR, zaS, zai, zao, sLoad, readAt, readNeed, Ints_ren, Ints_length, Ints_getD, and_true, true_and, zaM, zaN]) <;> (try rfl))
  | succ m =>
  have c : (0 : Int) < ((m + 1 : Nat) : Int) := by omega
  have e2 : ((m + 1 : Nat) : Int) - 1 = (m : Int) := by omega
  have hlen := hti.len
  rw [tLp] at hI
  have hta := tAdd_ok L (s := ((l, n), i)) hti
  have htr := tRem_ok L hta
  have hnl := nd_len l
  have n1 := next_spec L i l.length hl hr (by omega)
  have r1 := nx_rng L i l.length (by omega)
  obtain ⟨x, hx, hxl⟩ : ∃ x : Nat, nxV L i l.length = x ∧ x < l.length := ⟨(nxV L i l.length).toNat, by omega, by omega⟩
  obtain ⟨g1, _⟩ := nd_f l x hxl (.sc (.int .i64 0))
  have hA0 : tAddM L ((l, n), i) = addM l n (gN l x).i (nmV L (nxA L i l.length)) := by unfold tAddM tPk; simp only; rw [hx, zaT]
  rw [hx] at n1
  have n2 := name_spec (l := L) hl hr (nxA L i l.length)
  have s1' := nmV_len L (nxA L i l.length)
  have a1 := radd_spec l none n (gN l x).i (nmV L (nxA L i l.length)) (by omega) hti.nr (by omega)
  rw [← hA0] at a1
  have hj2 : (tAdd L ((l, n), i)).2 = nxA L (nxA L i l.length) 6 := rfl
  have ht1 : (tAdd L ((l, n), i)).1 = if (tAddM L ((l, n), i)).2.2 = 0 then (tAddM L ((l, n), i)).1 else (l, n) := rfl
  generalize nmV L (nxA L i l.length) = nam at *
  generalize tAddM L ((l, n), i) = AM at *
  obtain ⟨⟨la, na⟩, ia, ea⟩ := AM
  clear hA0
  simp only [adV] at a1
  obtain ⟨S1, hS1⟩ : ∃ S1, tAdd L ((l, n), i) = S1 := ⟨_, rfl⟩
  rw [hS1] at hI hta htr hj2 ht1
  clear hS1
  obtain ⟨⟨l1, n1'⟩, j2⟩ := S1
  simp only at hta hj2 ht1
  subst hj2
  have hlen1 := hta.len
  have n3 := bool_spec L (nxA L (nxA L i l.length) 6) 6 hl hr (by decide)
  generalize nxA L (nxA L i l.length) 6 = j2 at *
  have htr2 : tRem L ((l1, n1'), j2) = if nxV L j2 6 = 5 then (if (tRemM L ((l1, n1'), j2)).2 = 0 then (tRemM L ((l1, n1'), j2)).1 else (l1, n1'), nxA L (nxA L j2 6) l1.length) else ((l1, n1'), nxA L j2 6) := rfl
  have hnl1 := nd_len l1
  have n4 := next_spec L (nxA L j2 6) l1.length hl hr (by omega)
  have r4 := nx_rng L (nxA L j2 6) l1.length (by omega)
  obtain ⟨y, hy, hyl⟩ : ∃ y : Nat, nxV L (nxA L j2 6) l1.length = y ∧ y < l1.length := ⟨(nxV L (nxA L j2 6) l1.length).toNat, by omega, by omega⟩
  obtain ⟨g2, _⟩ := nd_f l1 y hyl (.sc (.int .i64 0))
  have hR0 : tRemM L ((l1, n1'), j2) = rmM l1 n1' (gN l1 y).i := by unfold tRemM tPk; simp only; rw [hy, zaT]
  rw [hy] at n4
  have a2 := rrem_spec l1 none n1' (gN l1 y).i (by omega) hta.nr
  rw [← hR0] at a2
  generalize tRemM L ((l1, n1'), j2) = RM at *
  obtain ⟨⟨lr, nr⟩, er⟩ := RM
  clear hR0
  simp only [rmV] at a2
  simp only at ht1 htr2
  obtain ⟨S2, hS2⟩ : ∃ S2, tRem L ((l1, n1'), j2) = S2 := ⟨_, rfl⟩
  rw [hS2] at hI htr htr2
  clear hS2
  have hBB : TI S2.1.1 S2.1.2 (N + 1 - m) := htr.mono (by omega)
  obtain ⟨⟨l2, n2'⟩, j3⟩ := S2
  simp only at hBB
  clear htr hta hti
  by_cases hea : ea = 0
  · rw [if_pos hea] at ht1
    obtain ⟨rfl, rfl⟩ := Prod.mk.inj ht1
    by_cases hb : nxV L j2 6 = 5
    · rw [if_pos hb] at htr2
      rw [decide_eq_true (by omega : nxV L j2 6 = 6 - 1)] at n3
      by_cases her : er = 0
      · rw [if_pos her] at htr2
        obtain ⟨e1, rfl⟩ := Prod.mk.inj htr2
        obtain ⟨rfl, rfl⟩ := Prod.mk.inj e1
        simp only [go_sem, zaa, zaf, zag, zah, zak, zad, ↓reduceIte, reduceCtorEq, zab, zac, zal, zam, zan, decide_eq_true c, e2, lendT, g1, g2, zaT, decide_eq_true hea, decide_eq_true her]
        repeat' (first
 | with_reducible refine zar ?_ ?_
 | (unfold OKC; kernel_rfl)
 | (unfold EDG; kernel_rfl)
 | (apply cl_plain
    case hs => rfl
    case ha => (simp only [zai, zao, prepV, prepC, idx, hpL', lookR, zaa, if_true, if_false]; rfl)
    case h => (first | exact n1 .. | exact n2 .. | exact a1 .. | exact n3 .. | exact n4 .. | exact a2 ..))
 | (apply cl_lend
    case hr => (simp only [zai, zao, hpL', lookR, zaa, if_true, if_false]; first | exact map1 _ | exact map2 _ _ | exact map3 _ _ _)
    case ha => (simp only [zai, zao, prepV, prepC, idx, hpL', lookR, zaa, if_true, if_false]; rfl)
    case hs => rfl
    case hn => decide
    case h => (first | exact n1 .. | exact n2 .. | exact a1 .. | exact n3 .. | exact n4 .. | exact a2 ..)
    case hf => (simp only [zae, zaj, false_implies, implies_true, and_true, true_and, flat_cons, flat_nil, flat_ints, flat_bools, flat_app, Cs_flat, zaQ, and_self, eq_self_iff_true, zav])
    case hl => (simp only [zaA, zaC]; decide))
 | ((first | refine s1_id ?_ | refine swp_id ?_ | refine sops_id ?_ | refine s2_id ?_); simp only [decide_eq_true c, e2, lendT, g1, g2, dice, zaT, decide_eq_true hea, decide_eq_true her, zaF, zaH, zav, zaI, zaL, zaD, zaE, zaB, zaO, zaP, zaA, zaC, go_sem, zaa, zaf, zag, zah, zak, zad, ↓reduceIte, reduceCtorEq, zab, zac, zal, zam, zan, zaG, zaK, zay, zaJ, renO, bk, back, outUpsFrom, Ints_ren])
 | (intros; omega)
 | (intros; (try simp only [zau, zax, zat, zas, zap, zaq, decide_eq_true_eq, decide_eq_false_iff_not] at *); omega))
        refine le_mk (m, ((l2, n2'), (nxA L (nxA L j2 6) l1.length))) ?_ ⟨hI, hBB, by show m ≤ N; omega⟩ (zbf m)
        (refine imp_ren _ _ _ [(0, 0, dice L (nxA L (nxA L j2 6) l1.length)), (1, 1, ⟨[.sc (.slice none 0 0), int 0], 2⟩), (2, 2, ⟨[.gsl (Cs l2) 0 l2.length none, int n2'], 2⟩)] (by simp) (by simp) (by simp) (zaw rfl) ?_ rfl (by simp only [zae, zaj, false_implies, implies_true, and_true, zaU, lookR, zaa, if_true, if_false, ↓reduceIte, dice] <;> (repeat' apply zar) <;> (first | rfl | trivial)) (by simp only [zae, zaj, false_implies, implies_true, and_true, true_and, flat_cons, flat_nil, flat_ints, flat_bools, flat_app, zaQ, and_self, eq_self_iff_true, zav, dice]); simp only [zai, zao, zae, zaj, false_implies, implies_true, and_true, lk, slot, zaG, zay, toN, zaa, if_true, if_false, ↓reduceIte, reduceCtorEq])
        all_goals ((repeat' apply zar) <;> (first | rfl | trivial | (simp only []; done) | (simp only []; rfl) | (simp only []; trivial)))
      · rw [if_neg her] at htr2
        obtain ⟨e1, rfl⟩ := Prod.mk.inj htr2
        obtain ⟨rfl, rfl⟩ := Prod.mk.inj e1
        simp only [go_sem, zaa, zaf, zag, zah, zak, zad, ↓reduceIte, reduceCtorEq, zab, zac, zal, zam, zan, decide_eq_true c, e2, lendT, g1, g2, zaT, decide_eq_true hea, decide_eq_false her]
        repeat' (first
 | with_reducible refine zar ?_ ?_
 | (unfold OKC; kernel_rfl)
 | (unfold EDG; kernel_rfl)
 | (apply cl_plain
    case hs => rfl
    case ha => (simp only [zai, zao, prepV, prepC, idx, hpL', lookR, zaa, if_true, if_false]; rfl)
    case h => (first | exact n1 .. | exact n2 .. | exact a1 .. | exact n3 .. | exact n4 .. | exact a2 ..))
 | (apply cl_lend
    case hr => (simp only [zai, zao, hpL', lookR, zaa, if_true, if_false]; first | exact map1 _ | exact map2 _ _ | exact map3 _ _ _)
    case ha => (simp only [zai, zao, prepV, prepC, idx, hpL', lookR, zaa, if_true, if_false]; rfl)
    case hs => rfl
    case hn => decide
    case h => (first | exact n1 .. | exact n2 .. | exact a1 .. | exact n3 .. | exact n4 .. | exact a2 ..)
    case hf => (simp only [zae, zaj, false_implies, implies_true, and_true, true_and, flat_cons, flat_nil, flat_ints, flat_bools, flat_app, Cs_flat, zaQ, and_self, eq_self_iff_true, zav])
    case hl => (simp only [zaA, zaC]; decide))
 | ((first | refine s1_id ?_ | refine swp_id ?_ | refine sops_id ?_ | refine s2_id ?_); simp only [decide_eq_true c, e2, lendT, g1, g2, dice, zaT, decide_eq_true hea, decide_eq_false her, zaF, zaH, zav, zaI, zaL, zaD, zaE, zaB, zaO, zaP, zaA, zaC, go_sem, zaa, zaf, zag, zah, zak, zad, ↓reduceIte, reduceCtorEq, zab, zac, zal, zam, zan, zaG, zaK, zay, zaJ, renO, bk, back, outUpsFrom, Ints_ren])
 | (intros; omega)
 | (intros; (try simp only [zau, zax, zat, zas, zap, zaq, decide_eq_true_eq, decide_eq_false_iff_not] at *); omega))
        refine le_mk (m, ((l2, n2'), (nxA L (nxA L j2 6) l2.length))) ?_ ⟨hI, hBB, by show m ≤ N; omega⟩ (zbf m)
        (refine imp_ren _ _ _ [(0, 0, dice L (nxA L (nxA L j2 6) l2.length)), (1, 1, ⟨[.sc (.slice none 0 0), int 0], 2⟩), (2, 2, ⟨[.gsl (Cs l2) 0 l2.length none, int n2'], 2⟩)] (by simp) (by simp) (by simp) (zaw rfl) ?_ rfl (by simp only [zae, zaj, false_implies, implies_true, and_true, zaU, lookR, zaa, if_true, if_false, ↓reduceIte, dice] <;> (repeat' apply zar) <;> (first | rfl | trivial)) (by simp only [zae, zaj, false_implies, implies_true, and_true, true_and, flat_cons, flat_nil, flat_ints, flat_bools, flat_app, zaQ, and_self, eq_self_iff_true, zav, dice]); simp only [zai, zao, zae, zaj, false_implies, implies_true, and_true, lk, slot, zaG, zay, toN, zaa, if_true, if_false, ↓reduceIte, reduceCtorEq])
        all_goals ((repeat' apply zar) <;> (first | rfl | trivial | (simp only []; done) | (simp only []; rfl) | (simp only []; trivial)))
    · rw [if_neg hb] at htr2
      rw [decide_eq_false (by omega : ¬ nxV L j2 6 = 6 - 1)] at n3
      obtain ⟨e1, rfl⟩ := Prod.mk.inj htr2
      obtain ⟨rfl, rfl⟩ := Prod.mk.inj e1
      simp only [go_sem, zaa, zaf, zag, zah, zak, zad, ↓reduceIte, reduceCtorEq, zab, zac, zal, zam, zan, decide_eq_true c, e2, lendT, g1, g2, zaT, decide_eq_true hea]
      repeat' (first
 | with_reducible refine zar ?_ ?_
 | (unfold OKC; kernel_rfl)
 | (unfold EDG; kernel_rfl)
 | (apply cl_plain
    case hs => rfl
    case ha => (simp only [zai, zao, prepV, prepC, idx, hpL', lookR, zaa, if_true, if_false]; rfl)
    case h => (first | exact n1 .. | exact n2 .. | exact a1 .. | exact n3 ..))
 | (apply cl_lend
    case hr => (simp only [zai, zao, hpL', lookR, zaa, if_true, if_false]; first | exact map1 _ | exact map2 _ _ | exact map3 _ _ _)
    case ha => (simp only [zai, zao, prepV, prepC, idx, hpL', lookR, zaa, if_true, if_false]; rfl)
    case hs => rfl
    case hn => decide
    case h => (first | exact n1 .. | exact n2 .. | exact a1 .. | exact n3 ..)
    case hf => (simp only [zae, zaj, false_implies, implies_true, and_true, true_and, flat_cons, flat_nil, flat_ints, flat_bools, flat_app, Cs_flat, zaQ, and_self, eq_self_iff_true, zav])
    case hl => (simp only [zaA, zaC]; decide))
 | ((first | refine s1_id ?_ | refine swp_id ?_ | refine sops_id ?_ | refine s2_id ?_); simp only [decide_eq_true c, e2, lendT, g1, g2, dice, zaT, decide_eq_true hea, zaF, zaH, zav, zaI, zaL, zaD, zaE, zaB, zaO, zaP, zaA, zaC, go_sem, zaa, zaf, zag, zah, zak, zad, ↓reduceIte, reduceCtorEq, zab, zac, zal, zam, zan, zaG, zaK, zay, zaJ, renO, bk, back, outUpsFrom, Ints_ren])
 | (intros; omega)
 | (intros; (try simp only [zau, zax, zat, zas, zap, zaq, decide_eq_true_eq, decide_eq_false_iff_not] at *); omega))
      refine le_mk (m, ((l2, n2'), (nxA L j2 6))) ?_ ⟨hI, hBB, by show m ≤ N; omega⟩ (zbf m)
      (refine imp_ren _ _ _ [(0, 0, dice L (nxA L j2 6)), (1, 1, ⟨[.sc (.slice none 0 0), int 0], 2⟩), (2, 2, ⟨[.gsl (Cs l2) 0 l2.length none, int n2'], 2⟩)] (by simp) (by simp) (by simp) (zaw rfl) ?_ rfl (by simp only [zae, zaj, false_implies, implies_true, and_true, zaU, lookR, zaa, if_true, if_false, ↓reduceIte, dice] <;> (repeat' apply zar) <;> (first | rfl | trivial)) (by simp only [zae, zaj, false_implies, implies_true, and_true, true_and, flat_cons, flat_nil, flat_ints, flat_bools, flat_app, zaQ, and_self, eq_self_iff_true, zav, dice]); simp only [zai, zao, zae, zaj, false_implies, implies_true, and_true, lk, slot, zaG, zay, toN, zaa, if_true, if_false, ↓reduceIte, reduceCtorEq])
      all_goals ((repeat' apply zar) <;> (first | rfl | trivial | (simp only []; done) | (simp only []; rfl) | (simp only []; trivial)))
  · rw [if_neg hea] at ht1
    obtain ⟨rfl, rfl⟩ := Prod.mk.inj ht1
    by_cases hb : nxV L j2 6 = 5
    · rw [if_pos hb] at htr2
      rw [decide_eq_true (by omega : nxV L j2 6 = 6 - 1)] at n3
      by_cases her : er = 0
      · rw [if_pos her] at htr2
        obtain ⟨e1, rfl⟩ := Prod.mk.inj htr2
        obtain ⟨rfl, rfl⟩ := Prod.mk.inj e1
        simp only [go_sem, zaa, zaf, zag, zah, zak, zad, ↓reduceIte, reduceCtorEq, zab, zac, zal, zam, zan, decide_eq_true c, e2, lendT, g1, g2, zaT, decide_eq_false hea, decide_eq_true her]
        repeat' (first
 | with_reducible refine zar ?_ ?_
 | (unfold OKC; kernel_rfl)
 | (unfold EDG; kernel_rfl)
 | (apply cl_plain
    case hs => rfl
    case ha => (simp only [zai, zao, prepV, prepC, idx, hpL', lookR, zaa, if_true, if_false]; rfl)
    case h => (first | exact n1 .. | exact n2 .. | exact a1 .. | exact n3 .. | exact n4 .. | exact a2 ..))
 | (apply cl_lend
    case hr => (simp only [zai, zao, hpL', lookR, zaa, if_true, if_false]; first | exact map1 _ | exact map2 _ _ | exact map3 _ _ _)
    case ha => (simp only [zai, zao, prepV, prepC, idx, hpL', lookR, zaa, if_true, if_false]; rfl)
    case hs => rfl
    case hn => decide
    case h => (first | exact n1 .. | exact n2 .. | exact a1 .. | exact n3 .. | exact n4 .. | exact a2 ..)
    case hf => (simp only [zae, zaj, false_implies, implies_true, and_true, true_and, flat_cons, flat_nil, flat_ints, flat_bools, flat_app, Cs_flat, zaQ, and_self, eq_self_iff_true, zav])
    case hl => (simp only [zaA, zaC]; decide))
 | ((first | refine s1_id ?_ | refine swp_id ?_ | refine sops_id ?_ | refine s2_id ?_); simp only [decide_eq_true c, e2, lendT, g1, g2, dice, zaT, decide_eq_false hea, decide_eq_true her, zaF, zaH, zav, zaI, zaL, zaD, zaE, zaB, zaO, zaP, zaA, zaC, go_sem, zaa, zaf, zag, zah, zak, zad, ↓reduceIte, reduceCtorEq, zab, zac, zal, zam, zan, zaG, zaK, zay, zaJ, renO, bk, back, outUpsFrom, Ints_ren])
 | (intros; omega)
 | (intros; (try simp only [zau, zax, zat, zas, zap, zaq, decide_eq_true_eq, decide_eq_false_iff_not] at *); omega))
        refine le_mk (m, ((l2, n2'), (nxA L (nxA L j2 6) l1.length))) ?_ ⟨hI, hBB, by show m ≤ N; omega⟩ (zbf m)
        (refine imp_ren _ _ _ [(0, 0, dice L (nxA L (nxA L j2 6) l1.length)), (1, 1, ⟨[.sc (.slice none 0 0), int 0], 2⟩), (2, 2, ⟨[.gsl (Cs l2) 0 l2.length none, int n2'], 2⟩)] (by simp) (by simp) (by simp) (zaw rfl) ?_ rfl (by simp only [zae, zaj, false_implies, implies_true, and_true, zaU, lookR, zaa, if_true, if_false, ↓reduceIte, dice] <;> (repeat' apply zar) <;> (first | rfl | trivial)) (by simp only [zae, zaj, false_implies, implies_true, and_true, true_and, flat_cons, flat_nil, flat_ints, flat_bools, flat_app, zaQ, and_self, eq_self_iff_true, zav, dice]); simp only [zai, zao, zae, zaj, false_implies, implies_true, and_true, lk, slot, zaG, zay, toN, zaa, if_true, if_false, ↓reduceIte, reduceCtorEq])
        all_goals ((repeat' apply zar) <;> (first | rfl | trivial | (simp only []; done) | (simp only []; rfl) | (simp only []; trivial)))
      · rw [if_neg her] at htr2
        obtain ⟨e1, rfl⟩ := Prod.mk.inj htr2
        obtain ⟨rfl, rfl⟩ := Prod.mk.inj e1
        simp only [go_sem, zaa, zaf, zag, zah, zak, zad, ↓reduceIte, reduceCtorEq, zab, zac, zal, zam, zan, decide_eq_true c, e2, lendT, g1, g2, zaT, decide_eq_false hea, decide_eq_false her]
        repeat' (first
 | with_reducible refine zar ?_ ?_
 | (unfold OKC; kernel_rfl)
 | (unfold EDG; kernel_rfl)
 | (apply cl_plain
    case hs => rfl
    case ha => (simp only [zai, zao, prepV, prepC, idx, hpL', lookR, zaa, if_true, if_false]; rfl)
    case h => (first | exact n1 .. | exact n2 .. | exact a1 .. | exact n3 .. | exact n4 .. | exact a2 ..))
 | (apply cl_lend
    case hr => (simp only [zai, zao, hpL', lookR, zaa, if_true, if_false]; first | exact map1 _ | exact map2 _ _ | exact map3 _ _ _)
    case ha => (simp only [zai, zao, prepV, prepC, idx, hpL', lookR, zaa, if_true, if_false]; rfl)
    case hs => rfl
    case hn => decide
    case h => (first | exact n1 .. | exact n2 .. | exact a1 .. | exact n3 .. | exact n4 .. | exact a2 ..)
    case hf => (simp only [zae, zaj, false_implies, implies_true, and_true, true_and, flat_cons, flat_nil, flat_ints, flat_bools, flat_app, Cs_flat, zaQ, and_self, eq_self_iff_true, zav])
    case hl => (simp only [zaA, zaC]; decide))
 | ((first | refine s1_id ?_ | refine swp_id ?_ | refine sops_id ?_ | refine s2_id ?_); simp only [decide_eq_true c, e2, lendT, g1, g2, dice, zaT, decide_eq_false hea, decide_eq_false her, zaF, zaH, zav, zaI, zaL, zaD, zaE, zaB, zaO, zaP, zaA, zaC, go_sem, zaa, zaf, zag, zah, zak, zad, ↓reduceIte, reduceCtorEq, zab, zac, zal, zam, zan, zaG, zaK, zay, zaJ, renO, bk, back, outUpsFrom, Ints_ren])
 | (intros; omega)
 | (intros; (try simp only [zau, zax, zat, zas, zap, zaq, decide_eq_true_eq, decide_eq_false_iff_not] at *); omega))
        refine le_mk (m, ((l2, n2'), (nxA L (nxA L j2 6) l2.length))) ?_ ⟨hI, hBB, by show m ≤ N; omega⟩ (zbf m)
        (refine imp_ren _ _ _ [(0, 0, dice L (nxA L (nxA L j2 6) l2.length)), (1, 1, ⟨[.sc (.slice none 0 0), int 0], 2⟩), (2, 2, ⟨[.gsl (Cs l2) 0 l2.length none, int n2'], 2⟩)] (by simp) (by simp) (by simp) (zaw rfl) ?_ rfl (by simp only [zae, zaj, false_implies, implies_true, and_true, zaU, lookR, zaa, if_true, if_false, ↓reduceIte, dice] <;> (repeat' apply zar) <;> (first | rfl | trivial)) (by simp only [zae, zaj, false_implies, implies_true, and_true, true_and, flat_cons, flat_nil, flat_ints, flat_bools, flat_app, zaQ, and_self, eq_self_iff_true, zav, dice]); simp only [zai, zao, zae, zaj, false_implies, implies_true, and_true, lk, slot, zaG, zay, toN, zaa, if_true, if_false, ↓reduceIte, reduceCtorEq])
        all_goals ((repeat' apply zar) <;> (first | rfl | trivial | (simp only []; done) | (simp only []; rfl) | (simp only []; trivial)))
    · rw [if_neg hb] at htr2
      rw [decide_eq_false (by omega : ¬ nxV L j2 6 = 6 - 1)] at n3
      obtain ⟨e1, rfl⟩ := Prod.mk.inj htr2
      obtain ⟨rfl, rfl⟩ := Prod.mk.inj e1
      simp only [go_sem, zaa, zaf, zag, zah, zak, zad, ↓reduceIte, reduceCtorEq, zab, zac, zal, zam, zan, decide_eq_true c, e2, lendT, g1, g2, zaT, decide_eq_false hea]
      repeat' (first
 | with_reducible refine zar ?_ ?_
 | (unfold OKC; kernel_rfl)
 | (unfold EDG; kernel_rfl)
 | (apply cl_plain
    case hs => rfl
    case ha => (simp only [zai, zao, prepV, prepC, idx, hpL', lookR, zaa, if_true, if_false]; rfl)
    case h => (first | exact n1 .. | exact n2 .. | exact a1 .. | exact n3 ..))
 | (apply cl_lend
    case hr => (simp only [zai, zao, hpL', lookR, zaa, if_true, if_false]; first | exact map1 _ | exact map2 _ _ | exact map3 _ _ _)
    case ha => (simp only [zai, zao, prepV, prepC, idx, hpL', lookR, zaa, if_true, if_false]; rfl)
    case hs => rfl
    case hn => decide
    case h => (first | exact n1 .. | exact n2 .. | exact a1 .. | exact n3 ..)
    case hf => (simp only [zae, zaj, false_implies, implies_true, and_true, true_and, flat_cons, flat_nil, flat_ints, flat_bools, flat_app, Cs_flat, zaQ, and_self, eq_self_iff_true, zav])
    case hl => (simp only [zaA, zaC]; decide))
 | ((first | refine s1_id ?_ | refine swp_id ?_ | refine sops_id ?_ | refine s2_id ?_); simp only [decide_eq_true c, e2, lendT, g1, g2, dice, zaT, decide_eq_false hea, zaF, zaH, zav, zaI, zaL, zaD, zaE, zaB, zaO, zaP, zaA, zaC, go_sem, zaa, zaf, zag, zah, zak, zad, ↓reduceIte, reduceCtorEq, zab, zac, zal, zam, zan, zaG, zaK, zay, zaJ, renO, bk, back, outUpsFrom, Ints_ren])
 | (intros; omega)
 | (intros; (try simp only [zau, zax, zat, zas, zap, zaq, decide_eq_true_eq, decide_eq_false_iff_not] at *); omega))
      refine le_mk (m, ((l2, n2'), (nxA L j2 6))) ?_ ⟨hI, hBB, by show m ≤ N; omega⟩ (zbf m)
      (refine imp_ren _ _ _ [(0, 0, dice L (nxA L j2 6)), (1, 1, ⟨[.sc (.slice none 0 0), int 0], 2⟩), (2, 2, ⟨[.gsl (Cs l2) 0 l2.length none, int n2'], 2⟩)] (by simp) (by simp) (by simp) (zaw rfl) ?_ rfl (by simp only [zae, zaj, false_implies, implies_true, and_true, zaU, lookR, zaa, if_true, if_false, ↓reduceIte, dice] <;> (repeat' apply zar) <;> (first | rfl | trivial)) (by simp only [zae, zaj, false_implies, implies_true, and_true, true_and, flat_cons, flat_nil, flat_ints, flat_bools, flat_app, zaQ, and_self, eq_self_iff_true, zav, dice]); simp only [zai, zao, zae, zaj, false_implies, implies_true, and_true, lk, slot, zaG, zay, toN, zaa, if_true, if_false, ↓reduceIte, reduceCtorEq])
      all_goals ((repeat' apply zar) <;> (first | rfl | trivial | (simp only []; done) | (simp only []; rfl) | (simp only []; trivial)))
end Go.Proofs.YtcnilpdlcmpbbaaGreat
-- NEWGO
-- PRUNE: cl_lendx cl_use
-- ISG: Cs_isG
-- FLAT: Cs_flat
namespace Go.Proofs.YtcnilpdlcmpbbaaGreat
set_option linter.unusedVariables false
set_option linter.unusedSimpArgs false
open Go.Proofs.YtcnilpdlcmpbbaaGreat.Sh
set_option maxRecDepth 20000
theorem fd_ix {l : List Nd} {n id : Int} (h : VT l n) (hb : bsF Nd.i l id = true) : fdM l n id = (gN l (bsV Nd.i l id), true) := by
  obtain ⟨h1, h2⟩ := bsF_at Nd.i l id hb
  have h2' : (gN l (bsV Nd.i l id)).i = id := h2
  unfold fdM
  rw [(chkT_iff l n).2 h, if_pos rfl]
  have : l.find? (hasI id) = some (gN l (bsV Nd.i l id)) := by
    rw [List.find?_eq_some_iff_getElem]
    refine ⟨decide_eq_true h2', bsV Nd.i l id, h1, (getD_at l _ zn h1).symm, fun j hj => ?_⟩
    have h3 := h.asc j _ hj h1
    rw [h2', show gN l j = l[j] from getD_at l j zn (by omega)] at h3
    simp only [zat, decide_eq_false_iff_not]; omega
  rw [this]
theorem fd_no {l : List Nd} {n id : Int} (h : VT l n) (hb : bsF Nd.i l id = false) : fdM l n id = (zn, false) := by
  unfold fdM
  rw [(chkT_iff l n).2 h, if_pos rfl]
  rw [bs_any Nd.i l (fun i j hij hj => h.asc i j hij hj) id] at hb
  rw [List.find?_eq_none.2 fun x hx e => List.any_eq_false.1 hb x hx e]
theorem hasM_bs {l : List Nd} {n id : Int} (h : VT l n) : hasM l n id = bsF Nd.i l id := by
  rw [bs_any Nd.i l (fun i j hij hj => h.asc i j hij hj) id]
  unfold hasM
  rw [(chkT_iff l n).2 h, zba]
set_option maxHeartbeats 8000000 in
theorem tfind_spec (l : List Nd) (n id : Int) (hl : l.length ≤ 1000000) (hnm : NmR l) (hct : CtR l) : FnSpec Tryz.prog 101 [trV l none n, i1 id] [] (.tup [.agg (ndc (fdM l n id).1), b1 (fdM l n id).2]) [] := by
  have h1 := tchk_spec l n hl hnm hct
  have h2 := index_spec l none id hl
  have hnl := nd_len l
  cases hb : bsF Nd.i l id with
  | false =>
    have e : fdM l n id = (zn, false) := by
      cases hc : chkT l n with
      | false => unfold fdM; rw [hc]; rfl
      | true => exact fd_no ((chkT_iff l n).1 hc) hb
    rw [e]
    rw [hb] at h2
    generalize bsV Nd.i l id = v at *
    refine fnspec_of mixed TT_ok TT_cl ⟨fun _ => false, fun _ => [], 0, fun _ => false, fun _ => false⟩ Tryz.func101 rfl (by kernel_rfl) rfl 28 rfl [.cell 4 34, .tmp 5] rfl ?_
    simp only [go_sem, zaa, zaf, zag, zah, zak, zad, ↓reduceIte, reduceCtorEq, zab, zac, zal, zam, zan]
    repeat' (first
 | with_reducible refine zar ?_ ?_
 | (apply cl_plain
    case hs => rfl
    case ha => (simp only [zai, zao, prepV, prepC, idx, hpL', lookR, zaa, if_true, if_false]; rfl)
    case h => (first | exact h2 ..))
 | ((first | refine s1_id ?_ | refine swp_id ?_ | refine sops_id ?_ | refine s2_id ?_); simp only [zaF, zaH, zav, zaI, zaL, zaD, zaE, zaB, zaO, zaP, zaA, zaC, go_sem, zaa, zaf, zag, zah, zak, zad, ↓reduceIte, reduceCtorEq, zab, zac, zal, zam, zan, zaG, zaK, zay, zaJ, renO, bk, back, outUpsFrom, Ints_ren])
 | (intros; omega)
 | (apply fs_nil <;> (try simp only [go_sem, resV, resS, zaG, zaK, zay, zbk, zaU, idx, renO, zaJ, evS, slot, lookR, zaa, ↓reduceIte, reduceCtorEq, if_true, if_false, zaR, zaS, zai, zao, sLoad, readAt, readNeed, Ints_ren, Ints_length, Ints_getD, and_true, true_and, zaM, zaN]) <;> (try rfl))
 | fail)
  | true =>
  rw [hb] at h2
  cases hc : chkT l n with
  | false =>
    have e : fdM l n id = (zn, false) := by unfold fdM; rw [hc]; rfl
    rw [e]
    rw [hc] at h1
    generalize bsV Nd.i l id = v at *
    refine fnspec_of mixed TT_ok TT_cl ⟨fun _ => false, fun _ => [], 0, fun _ => false, fun _ => false⟩ Tryz.func101 rfl (by kernel_rfl) rfl 28 rfl [.cell 4 34, .tmp 5] rfl ?_
    simp only [go_sem, zaa, zaf, zag, zah, zak, zad, ↓reduceIte, reduceCtorEq, zab, zac, zal, zam, zan]
    repeat' (first
 | with_reducible refine zar ?_ ?_
 | (apply cg_tp
    case hl => rfl
    case ha => (simp only [zai, zao, prepV, prepC, idx, hpL', lookR, zaa, if_true, if_false]; rfl)
    case hs => rfl
    case h => (first | exact h1 .. | exact h2 ..))
 | (apply cl_plain
    case hs => rfl
    case ha => (simp only [zai, zao, prepV, prepC, idx, hpL', lookR, zaa, if_true, if_false]; rfl)
    case h => (first | exact h1 .. | exact h2 ..))
 | ((first | refine s1_id ?_ | refine swp_id ?_ | refine sops_id ?_ | refine s2_id ?_); simp only [zaF, zaH, zav, zaI, zaL, zaD, zaE, zaB, zaO, zaP, zaA, zaC, go_sem, zaa, zaf, zag, zah, zak, zad, ↓reduceIte, reduceCtorEq, zab, zac, zal, zam, zan, zaG, zaK, zay, zaJ, renO, bk, back, outUpsFrom, Ints_ren])
 | (intros; omega)
 | (apply fs_nil <;> (try simp only [go_sem, resV, resS, zaG, zaK, zay, zbk, zaU, idx, renO, zaJ, evS, slot, lookR, zaa, ↓reduceIte, reduceCtorEq, if_true, if_false, zaR, zaS, zai, zao, sLoad, readAt, readNeed, Ints_ren, Ints_length, Ints_getD, and_true, true_and, zaM, zaN]) <;> (try rfl))
 | fail)
  | true =>
  rw [fd_ix ((chkT_iff l n).1 hc) hb]
  rw [hc] at h1
  have hlt := (bsF_at Nd.i l id hb).1
  generalize bsV Nd.i l id = v at *
  have hN := nd_td l v hlt
  generalize gN l v = x at *
  obtain ⟨xi, xp, xn, xc, xk, xo⟩ := x
  simp only [ndc] at hN ⊢
  refine fnspec_of mixed TT_ok TT_cl ⟨fun _ => false, fun _ => [], 0, fun _ => false, fun _ => false⟩ Tryz.func101 rfl (by kernel_rfl) rfl 28 rfl [.cell 4 34, .tmp 5] rfl ?_
  simp only [go_sem, zaa, zaf, zag, zah, zak, zad, ↓reduceIte, reduceCtorEq, zab, zac, zal, zam, zan, hN]
  repeat' (first
 | with_reducible refine zar ?_ ?_
 | (apply cg_tp
    case hl => rfl
    case ha => (simp only [zai, zao, prepV, prepC, idx, hpL', lookR, zaa, if_true, if_false]; rfl)
    case hs => rfl
    case h => (first | exact h1 .. | exact h2 ..))
 | (apply cl_plain
    case hs => rfl
    case ha => (simp only [zai, zao, prepV, prepC, idx, hpL', lookR, zaa, if_true, if_false]; rfl)
    case h => (first | exact h1 .. | exact h2 ..))
 | ((first | refine s1_id ?_ | refine swp_id ?_ | refine sops_id ?_ | refine s2_id ?_); simp only [hN, zaF, zaH, zav, zaI, zaL, zaD, zaE, zaB, zaO, zaP, zaA, zaC, go_sem, zaa, zaf, zag, zah, zak, zad, ↓reduceIte, reduceCtorEq, zab, zac, zal, zam, zan, zaG, zaK, zay, zaJ, renO, bk, back, outUpsFrom, Ints_ren])
 | (intros; omega)
 | (apply fs_nil <;> (try simp only [go_sem, resV, resS, zaG, zaK, zay, zbk, zaU, idx, renO, zaJ, evS, slot, lookR, zaa, ↓reduceIte, reduceCtorEq, if_true, if_false, zaR, zaS, zai, zao, sLoad, readAt, readNeed, Ints_ren, Ints_length, Ints_getD, and_true, true_and, zaM, zaN]) <;> (try rfl))
 | fail)
def upT (l : List Nd) (t : Nat) : List Int := if t = 0 then [] else upL l (gN l t).p
theorem VT.upT {l : List Nd} {n : Int} (h : VT l n) {t : Nat} (ht : t < l.length) : upL l (gN l t).i = (gN l t).i :: upT l t := by
  unfold Go.Proofs.YtcnilpdlcmpbbaaGreat.upT
  by_cases h0 : t = 0
  · subst h0
    rw [if_pos rfl, h.root.1, h.up0]
  · rw [if_neg h0, h.up ht h0]
set_option maxHeartbeats 16000000 in
theorem tanc_spec (l : List Nd) (n id : Int) (hl : l.length ≤ 1000000) (hnm : NmR l) (hct : CtR l) : FnSpec Tryz.prog 75 [trV l none n, i1 id] [] (gi (ancM l n id) none) [] := by
  have h1 := tfind_spec l n id hl hnm hct
  have h2 := fdM_2 l n id
  have hnl := nd_len l
  unfold ancM
  cases hh : hasM l n id with
  | false =>
    rw [hh] at h2
    rw [if_neg Bool.false_ne_true]
    generalize fdM l n id = u at *
    obtain ⟨⟨xi, xp, xn, xc, xk, xo⟩, b⟩ := u
    simp only at h2
    subst h2
    simp only [ndc] at h1
    refine fnspec_of mixed TT_ok TT_cl ⟨fun _ => false, fun _ => [], 0, fun _ => false, fun _ => false⟩ Tryz.func75 rfl (by kernel_rfl) rfl 42 rfl [.tmp 4] rfl ?_
    simp only [go_sem, zaa, zaf, zag, zah, zak, zad, ↓reduceIte, reduceCtorEq, zab, zac, zal, zam, zan]
    repeat' (first
 | (apply cl_plain
    case hs => rfl
    case ha => (simp only [zai, zao, prepV, prepC, idx, hpL', lookR, zaa, if_true, if_false]; rfl)
    case h => (first | exact h1 ..))
 | ((first | refine s1_id ?_ | refine swp_id ?_ | refine sops_id ?_ | refine s2_id ?_); simp only [zaF, zaH, zav, zaI, zaL, zaD, zaE, zaB, zaO, zaP, zaA, zaC, go_sem, zaa, zaf, zag, zah, zak, zad, ↓reduceIte, reduceCtorEq, zab, zac, zal, zam, zan, zaG, zaK, zay, zaJ, renO, bk, back, outUpsFrom, Ints_ren])
 | (intros; (try simp only [zau, zax, zat, zas, zap, zaq, decide_eq_true_eq, decide_eq_false_iff_not] at *); omega))
    repeat' (first
 | exact fs_w trivial (svw_of cw_gnil)
 | fail)
  | true =>
  rw [if_pos rfl]
  have hk : chkT l n = true := (hasM_iff.1 hh).1
  have hV := (chkT_iff l n).1 hk
  have hb : bsF Nd.i l id = true := by rw [← hasM_bs hV, hh]
  obtain ⟨b1', b2'⟩ := bsF_at Nd.i l id hb
  rw [fd_ix hV hb] at h1
  generalize bsV Nd.i l id = v at *
  have e0 : (gN l v).i = id := b2'
  have hu := hV.upT b1'
  rw [e0] at hu
  obtain ⟨U, hU⟩ : ∃ U, upL l id = U := ⟨_, rfl⟩
  have hUl : U.length ≤ l.length := by rw [← hU]; have := upR_len l.reverse id; rw [List.length_reverse] at this; exact this
  rw [hU] at hu ⊢
  simp only at h1
  generalize hx : gN l v = x at *
  obtain ⟨xi, xp, xn, xc, xk, xo⟩ := x
  simp only [ndc] at h1
  refine fnspec_of mixed TT_ok TT_cl ⟨fun _ => false, fun _ => [], 0, fun _ => false, fun _ => false⟩ Tryz.func75 rfl (by kernel_rfl) rfl 42 rfl [.tmp 4] rfl ?_
  simp only [go_sem, zaa, zaf, zag, zah, zak, zad, ↓reduceIte, reduceCtorEq, zab, zac, zal, zam, zan]
  repeat' (first
 | (apply cl_plain
    case hs => rfl
    case ha => (simp only [zai, zao, prepV, prepC, idx, hpL', lookR, zaa, if_true, if_false]; rfl)
    case h => (first | exact h1 ..))
 | ((first | refine s1_id ?_ | refine swp_id ?_ | refine sops_id ?_ | refine s2_id ?_); simp only [zaF, zaH, zav, zaI, zaL, zaD, zaE, zaB, zaO, zaP, zaA, zaC, go_sem, zaa, zaf, zag, zah, zak, zad, ↓reduceIte, reduceCtorEq, zab, zac, zal, zam, zan, zaG, zaK, zay, zaJ, renO, bk, back, outUpsFrom, Ints_ren])
 | (intros; (try simp only [zau, zax, zat, zas, zap, zaq, decide_eq_true_eq, decide_eq_false_iff_not] at *); omega))
  refine w_loop (ι := Nat × List Int) (fun s => ⟨[(2, .one (.optr 0 0)), (5, .one (.optr 1 0)), (7, .one (.osl 2 0 s.2.length none))], [(0, some ⟨[.gsl (Cs l) 0 l.length none, int n], 2⟩), (1, some ⟨ndc (gN l s.1), 6⟩), (2, some ⟨Ints s.2, 1⟩)], 3⟩) (fun s => s.1 < l.length ∧ U = s.2 ++ upT l s.1) (fun s => s.1) (v, [id]) ?_ ⟨b1', hu⟩ ?_
  · refine Imp.trans (t := ⟨[(2, .one (.optr 0 0)), (5, .one (.optr 1 0)), (7, .one (.osl 2 0 1 (some 1)))], [(0, some ⟨[.gsl (Cs l) 0 l.length none, int n], 2⟩), (1, some ⟨[int xi, int xp, st xn, int xc, int xk, int xo], 6⟩), (2, some ⟨Ints [id], 1⟩)], 3⟩) ?_ (imp_w _ _ _ ?_ (by rw [hx]) (zbb _))
    · skip
      (refine imp_ren _ _ _ [(0, 0, ⟨[.gsl (Cs l) 0 l.length none, int n], 2⟩), (1, 8, ⟨[int xi, int xp, st xn, int xc, int xk, int xo], 6⟩), (2, 14, ⟨Ints [id], 1⟩)] (by simp) (by simp) (by simp) (zaw rfl) ?_ rfl (by simp only [zae, zaj, false_implies, implies_true, and_true, zaU, lookR, zaa, if_true, if_false, ↓reduceIte] <;> (repeat' apply zar) <;> (first | rfl | trivial)) (by simp only [zae, zaj, false_implies, implies_true, and_true, true_and, flat_cons, flat_nil, flat_ints, flat_bools, flat_app, zaQ, and_self, eq_self_iff_true, zav]); simp only [zai, zao, zae, zaj, false_implies, implies_true, and_true, lk, slot, zaG, zay, toN, zaa, if_true, if_false, ↓reduceIte, reduceCtorEq])
      all_goals ((repeat' apply zar) <;> (first | rfl | trivial))
    · intro x hx
      simp only [List.mem_cons, zaj, or_false] at hx
      rcases hx with rfl | rfl | rfl <;> first | exact ⟨_, rfl, SVW.refl _⟩ | exact ⟨_, rfl, svw_of (cw_ocap _ _ _ _)⟩
  clear h1 hx hu e0
  rintro ⟨t, W⟩ ⟨ht, hW⟩
  simp only at ht hW ⊢
  have hWl : W.length ≤ l.length := by rw [hW, List.length_append] at hUl; omega
  by_cases h0 : t = 0
  · subst h0
    have hr := hV.root.1
    rw [show upT l 0 = [] from rfl, zav] at hW
    subst hW
    generalize gN l 0 = y at *
    obtain ⟨yi, yp, yn, yc, yk, yo⟩ := y
    simp only at hr
    subst hr
    simp only [go_sem, zaa, zaf, zag, zah, zak, zad, ↓reduceIte, reduceCtorEq, zab, zac, zal, zam, zan, ndc]
    repeat' (first
 | (intros; (try simp only [zau, zax, zat, zas, zap, zaq, decide_eq_true_eq, decide_eq_false_iff_not] at *); omega))
    (refine fs_frz 2 ⟨Ints U, 1⟩ (by simp only [zaU, lookR, zaa, if_true, if_false, ↓reduceIte]) (by first | exact Ints_isG _ | exact Bools_isG _ | exact Cs_isG _ | (simp [Cell.isG]; done)) ?_; simp only [frzTm, SV.frz, SV.frzL, Cell.frz, frzHp, frzO, Ints_frz, Bools_frz, zai, zao, zaa, if_true, if_false, ↓reduceIte])
    apply fs_nil <;> (try simp only [go_sem, resV, resS, zaG, zaK, zay, zbk, zaU, idx, renO, zaJ, evS, slot, lookR, zaa, ↓reduceIte, reduceCtorEq, if_true, if_false, zaR, zaS, zai, zao, sLoad, readAt, readNeed, Ints_ren, Ints_length, Ints_getD, and_true, true_and, zaM, zaN]) <;> (try rfl)
  · have hne : ¬ (gN l t).i = 1 := by
      have := hV.asc 0 t (by omega) ht
      rw [hV.root.1] at this; omega
    obtain ⟨j, hj, hp⟩ := (hV.ch ht h0).par
    obtain ⟨q1, q2⟩ := bs_found Nd.i l (fun i j hij hj => hV.asc i j hij hj) j (by omega)
    have q1' : bsV Nd.i l (gN l j).i = j := q1
    have q2' : bsF Nd.i l (gN l j).i = true := q2
    have h3 := index_spec l none (gN l j).i hl
    rw [q1', q2', hp] at h3
    have hW2 : U = (W ++ [(gN l t).p]) ++ upT l j := by
      rw [hW, show upT l t = upL l (gN l t).p from if_neg h0, ← hp, hV.upT (by omega), List.append_assoc]; rfl
    have hN := nd_td l j (by omega)
    generalize gN l t = y at *
    obtain ⟨yi, yp, yn, yc, yk, yo⟩ := y
    simp only at hne h3 hW2 hp
    have htk : zbj W.length (Ints W) = Ints W := zaZ (by rw [Ints_length]; exact zbb _)
    have hpp : Ints W ++ [int yp] = Ints (W ++ [yp]) := by simp [Ints]
    have hla : (W ++ [yp]).length = W.length + 1 := by simp
    simp only [go_sem, zaa, zaf, zag, zah, zak, zad, ↓reduceIte, reduceCtorEq, zab, zac, zal, zam, zan, ndc, decide_eq_false hne, hN]
    repeat' (first
 | with_reducible refine zar ?_ ?_
 | (apply cl_plain
    case hs => rfl
    case ha => (simp only [zai, zao, prepV, prepC, idx, hpL', lookR, zaa, if_true, if_false]; rfl)
    case h => (first | exact h3 ..))
 | ((first | refine s1_id ?_ | refine swp_id ?_ | refine sops_id ?_ | refine s2_id ?_); simp only [ndc, decide_eq_false hne, htk, hpp, hN, zaF, zaH, zav, zaI, zaL, zaD, zaE, zaB, zaO, zaP, zaA, zaC, go_sem, zaa, zaf, zag, zah, zak, zad, ↓reduceIte, reduceCtorEq, zab, zac, zal, zam, zan, zaG, zaK, zay, zaJ, renO, bk, back, outUpsFrom, Ints_ren])
 | (intros; omega)
 | (intros; (try simp only [zau, zax, zat, zas, zap, zaq, decide_eq_true_eq, decide_eq_false_iff_not] at *); omega))
    refine le_mk (j, W ++ [yp]) ?_ ⟨by omega, hW2⟩ hj
    simp only [hla]
    (refine imp_ren _ _ _ [(0, 0, ⟨[.gsl (Cs l) 0 l.length none, int n], 2⟩), (1, 1, ⟨ndc (gN l j), 6⟩), (2, 10, ⟨Ints (W ++ [yp]), 1⟩)] (by simp) (by simp) (by simp) (zaw rfl) ?_ rfl (by simp only [zae, zaj, false_implies, implies_true, and_true, zaU, lookR, zaa, if_true, if_false, ↓reduceIte, ndc] <;> (repeat' apply zar) <;> (first | rfl | trivial)) (by simp only [zae, zaj, false_implies, implies_true, and_true, true_and, flat_cons, flat_nil, flat_ints, flat_bools, flat_app, zaQ, and_self, eq_self_iff_true, zav, ndc]); simp only [zai, zao, zae, zaj, false_implies, implies_true, and_true, lk, slot, zaG, zay, toN, zaa, if_true, if_false, ↓reduceIte, reduceCtorEq])
    all_goals ((repeat' apply zar) <;> (first | rfl | trivial | (simp only [ndc]; done) | (simp only [ndc]; rfl) | (simp only [ndc]; trivial)))
end Go.Proofs.YtcnilpdlcmpbbaaGreat
-- NEWGO
-- PRUNE: cl_lendx cl_use cl_lend
-- ISG: Cs_isG
-- FLAT: Cs_flat
namespace Go.Proofs.YtcnilpdlcmpbbaaGreat
set_option linter.unusedVariables false
set_option linter.unusedSimpArgs false
open Go.Proofs.YtcnilpdlcmpbbaaGreat.Sh
set_option maxRecDepth 20000
abbrev zpl : Pl := ⟨0, 0, 0, 0, 0, [], 0, 0, 0, false⟩
instance : Rec Pl := ⟨fun x => plc x none, 10, zpl, fun _ => rfl, fun x c h => by
  simp only [plc, List.mem_cons, zaj, or_false] at h
  rcases h with rfl | rfl | rfl | rfl | rfl | rfl | rfl | rfl | rfl | rfl <;> rfl⟩
abbrev gP (l : List Pl) (i : Nat) : Pl := l.getD i zpl
theorem pl_td (l : List Pl) (i : Nat) (h : i < l.length) : zbj 10 (List.drop (i * 10) (Cs l)) = plc (gP l i) none := Cs_td l i h
theorem pl_len (l : List Pl) : (Cs l).length = l.length * 10 := Cs_len l
theorem pl_f0 (l : List Pl) (i : Nat) (h : i < l.length) (d : Cell) : (Cs l).getD (i * 10) d = int (gP l i).g := Cs_fld l i 0 d h (by decide)
theorem pl_f5 (l : List Pl) (i : Nat) (h : i < l.length) (d : Cell) : (Cs l).getD (i * 10 + 5) d = .gsl (Ints (gP l i).c) 0 (gP l i).c.length none := Cs_fld l i 5 d h (by decide)
set_option maxHeartbeats 4000000 in
theorem pl_ix (g : FuncId) (c0 : List Cell) (q : Pl → Bool) (xs : List (Pl)) (hg : ∀ x ∈ xs, FnSpec Tryz.prog g [.agg (Rec.cs x), .one (.gptr c0 0)] [] (b1 (q x)) []) (cap : Option Nat)
    (hs : xs.length ≤ 9223372036854775807) : FnSpec Tryz.prog 62 [gr xs cap, .one (.fn g [.gptr c0 0])] [] (i1 (ixR q xs 0)) [] := by
  refine fnspec_of mixed TT_ok TT_cl ⟨fun _ => false, fun _ => [], 0, fun _ => false, fun _ => false⟩ Tryz.func62 rfl (by kernel_rfl) rfl 19 rfl [.tmp 4] rfl ?_
  simp only [go_sem, zaa, zaf, zag, zah, zak, zad, ↓reduceIte, reduceCtorEq, zab, zac, zal, zam, zan]
  repeat' (first
 | (intros; (try simp only [zau, zax, zat, zas, zap, zaq, decide_eq_true_eq, decide_eq_false_iff_not] at *); omega))
  refine w_loop (ι := Nat) (fun i => ⟨[(0, gr xs cap), (1, .one (.fn g [.gptr c0 0])), (7, i1 xs.length), (8, i1 i)], [], 0⟩) (fun i => i ≤ xs.length ∧ ixR q xs 0 = ixR q (xs.drop i) i) (fun i => xs.length - i) 0 ?_ ⟨zaY _, rfl⟩ ?_
  · (refine imp_sub _ _ _ [] (by simp) (by simp) (by simp) (zaY _) ?_ rfl (by simp); simp only [zae, zaj, false_implies, implies_true, and_true, lk, slot, zaG, zay, zaa, if_true, if_false, ↓reduceIte, reduceCtorEq])
    all_goals ((repeat' apply zar) <;> (first | rfl | trivial))
  rintro i ⟨hi, he⟩
  simp only at hi he ⊢
  rcases zbc i xs.length with hlt | hge
  case inr =>
    have hlt' : ¬ (i : Int) < (xs.length : Int) := by omega
    rw [zbe hge] at he
    rw [he]
    simp only [go_sem, zaa, zaf, zag, zah, zak, zad, ↓reduceIte, reduceCtorEq, zab, zac, zal, zam, zan, decide_eq_false hlt', ixR]
    repeat' (first
 | exact fs_nil trivial rfl
 | fail)
  have hlt' : (i : Int) < (xs.length : Int) := by omega
  have hcl : (Cs xs).length = xs.length * 10 := Cs_len xs
  have hat : zbj 10 (List.drop (i * 10) (Cs xs)) = Rec.cs (xs.getD i Rec.z) := Cs_td xs i hlt
  have hm := getD_mem xs i Rec.z hlt
  have hc := hg _ hm
  rw [drop_getD xs i Rec.z hlt, ixR] at he
  have hrl : (Rec.cs (xs.getD i Rec.z)).length = 10 := Rec.len _
  have hrg := Rec.g (xs.getD i Rec.z)
  generalize xs.getD i Rec.z = b at *
  have hcs : Rec.cs b = [int b.g, int b.q, int b.b, int b.s, int b.l, .gsl (Ints b.c) 0 b.c.length none, int b.sp, int b.pe, int b.th, bool b.em] := rfl
  rw [hcs] at hat hc
  clear hrl hrg
  cases hqb : q b with
  | true =>
    rw [hqb] at hc he
    simp only [if_true] at he
    rw [he]
    simp only [go_sem, zaa, zaf, zag, zah, zak, zad, ↓reduceIte, reduceCtorEq, zab, zac, zal, zam, zan, decide_eq_true hlt', hat]
    repeat' (first
 | with_reducible refine zar ?_ ?_
 | (apply cl_plain
    case hs => rfl
    case ha => (simp only [zai, zao, prepV, prepC, idx, hpL', lookR, zaa, if_true, if_false]; rfl)
    case h => (first | exact hc ..))
 | ((first | refine s1_id ?_ | refine swp_id ?_ | refine sops_id ?_ | refine s2_id ?_); simp only [decide_eq_true hlt', hat, go_sem, zaa, zaf, zag, zah, zak, zad, ↓reduceIte, reduceCtorEq, zab, zac, zal, zam, zan, zaG, zaK, zay, zaJ, renO, bk, back, outUpsFrom, Ints_ren])
 | (intros; omega)
 | exact fs_nil trivial rfl
 | fail)
  | false =>
    rw [hqb] at hc he
    simp only [zbh, if_false] at he
    simp only [go_sem, zaa, zaf, zag, zah, zak, zad, ↓reduceIte, reduceCtorEq, zab, zac, zal, zam, zan, decide_eq_true hlt', hat]
    repeat' (first
 | with_reducible refine zar ?_ ?_
 | (apply cl_plain
    case hs => rfl
    case ha => (simp only [zai, zao, prepV, prepC, idx, hpL', lookR, zaa, if_true, if_false]; rfl)
    case h => (first | exact hc ..))
 | ((first | refine s1_id ?_ | refine swp_id ?_ | refine sops_id ?_ | refine s2_id ?_); simp only [decide_eq_true hlt', hat, go_sem, zaa, zaf, zag, zah, zak, zad, ↓reduceIte, reduceCtorEq, zab, zac, zal, zam, zan, zaG, zaK, zay, zaJ, renO, bk, back, outUpsFrom, Ints_ren])
 | (intros; omega)
 | (intros; (try simp only [zau, zax, zat, zas, zap, zaq, decide_eq_true_eq, decide_eq_false_iff_not] at *); omega))
    refine le_mk (i + 1) ?_ ⟨by omega, he⟩ (by omega)
    (refine imp_sub _ _ _ [] (by simp) (by simp) (by simp) (zaY _) ?_ rfl (by simp); simp only [zae, zaj, false_implies, implies_true, and_true, lk, slot, zaG, zay, zaa, if_true, if_false, ↓reduceIte, reduceCtorEq])
    all_goals ((repeat' apply zar) <;> (first | rfl | trivial | (simp only [zaz]; done) | (simp only [zaz]; rfl) | (simp only [zaz]; trivial)))
theorem pos1_spec (x : Pl) (g : Int) : FnSpec Tryz.prog 78 [.agg (Rec.cs x), .one (.gptr [int g] 0)] [] (b1 (decide (x.g = g))) [] := by
  show FnSpec Tryz.prog 78 [.agg (plc x none), .one (.gptr [int g] 0)] [] (b1 (decide (x.g = g))) []
  obtain ⟨a, b, c, d, e, f, g1, h1, i1', j1⟩ := x
  simp only [plc]
  refine fnspec_of mixed TT_ok TT_cl ⟨fun _ => false, fun _ => [], 0, fun _ => false, fun _ => false⟩ Tryz.func78 rfl (by kernel_rfl) rfl 8 rfl [.tmp 3] rfl ?_
  simp only [go_sem, zaa, zaf, zag, zah, zak, zad, ↓reduceIte, reduceCtorEq, zab, zac, zal, zam, zan]
  repeat' (first
 | exact fs_nil trivial rfl
 | fail)
theorem pos_spec (L : List Pl) (k : Option Nat) (g : Int) (hl : L.length ≤ 1000000) : FnSpec Tryz.prog 43 [gr L k, i1 g] [] (i1 (ixR (fun x : Pl => decide (x.g = g)) L 0)) [] := by
  have h1 := pl_ix 78 [int g] (fun x => decide (x.g = g)) L (fun x _ => pos1_spec x g) k (by omega)
  generalize ixR (fun x : Pl => decide (x.g = g)) L 0 = v at *
  refine fnspec_of mixed TT_ok TT_cl ⟨fun _ => false, fun _ => [], 0 , fun _ => false, fun i => if i = 1 then true else false⟩ Tryz.func43 rfl (by kernel_rfl) rfl 8 rfl [.tmp 4] rfl ?_
  simp only [go_sem, zaa, zaf, zag, zah, zak, zad, ↓reduceIte, reduceCtorEq, zab, zac, zal, zam, zan]
  repeat' (first
 | (intros; (try simp only [zau, zax, zat, zas, zap, zaq, decide_eq_true_eq, decide_eq_false_iff_not] at *); omega))
  (refine rgf_t _ (imp_frz _ _ 0 ⟨[int g], 1⟩ (by simp only [zaU, lookR, zaa, if_true, if_false, ↓reduceIte]) (by first | exact Ints_isG _ | exact Bools_isG _ | exact Cs_isG _ | (simp [Cell.isG]; done))) ?_; simp only [frzTm, SV.frz, SV.frzL, Cell.frz, frzHp, frzO, Ints_frz, Bools_frz, zai, zao, zaa, if_true, if_false, ↓reduceIte])
  simp only [go_sem, zaa, zaf, zag, zah, zak, zad, ↓reduceIte, reduceCtorEq, zab, zac, zal, zam, zan]
  repeat' (first
 | (apply cl_plain
    case hs => rfl
    case ha => (simp only [zai, zao, prepV, prepC, idx, hpL', lookR, zaa, if_true, if_false]; rfl)
    case h => (first | exact h1 ..))
 | ((first | refine s1_id ?_ | refine swp_id ?_ | refine sops_id ?_ | refine s2_id ?_); simp only [go_sem, zaa, zaf, zag, zah, zak, zad, ↓reduceIte, reduceCtorEq, zab, zac, zal, zam, zan, zaG, zaK, zay, zaJ, renO, bk, back, outUpsFrom, Ints_ren])
 | exact fs_nil trivial rfl
 | fail)
def thOk (l : List Nd) (L : List Pl) (i : Nat) : Bool := decide ((gP L i).g = (gN l i).i) && (pck (gP L i) && decide ((gP L i).c.length = (gP L 0).c.length))
def thC (l : List Nd) (n : Int) (L : List Pl) : Bool := chkT l n && (decide (L.length = l.length) && allN L.length (thOk l L))
set_option maxHeartbeats 8000000 in
theorem thck_spec (l : List Nd) (n : Int) (L : List Pl) (k : Option Nat) (hl : l.length ≤ 1000000) (hL : L.length ≤ 1000000) (hnm : NmR l) (hct : CtR l) : FnSpec Tryz.prog 40 [trV l none n, gr L k] [] (b1 (thC l n L)) [] := by
  have h1 := tchk_spec l n hl hnm hct
  have hnl := nd_len l
  have hpl := pl_len L
  unfold thC
  cases hk : chkT l n with
  | false =>
    rw [hk] at h1
    rw [zbi]
    refine fnspec_of mixed TT_ok TT_cl ⟨fun _ => false, fun _ => [], 0, fun _ => false, fun _ => false⟩ Tryz.func40 rfl (by kernel_rfl) rfl 51 rfl [.tmp 4] rfl ?_
    simp only [go_sem, zaa, zaf, zag, zah, zak, zad, ↓reduceIte, reduceCtorEq, zab, zac, zal, zam, zan]
    repeat' (first
 | (apply cl_plain
    case hs => rfl
    case ha => (simp only [zai, zao, prepV, prepC, idx, hpL', lookR, zaa, if_true, if_false]; rfl)
    case h => (first | exact h1 ..))
 | ((first | refine s1_id ?_ | refine swp_id ?_ | refine sops_id ?_ | refine s2_id ?_); simp only [go_sem, zaa, zaf, zag, zah, zak, zad, ↓reduceIte, reduceCtorEq, zab, zac, zal, zam, zan, zaG, zaK, zay, zaJ, renO, bk, back, outUpsFrom, Ints_ren])
 | exact fs_nil trivial rfl
 | fail)
  | true =>
  rw [hk] at h1
  rw [zba]
  by_cases hle : L.length = l.length
  case neg =>
    have c : ¬ (L.length : Int) = (l.length : Int) := by omega
    rw [decide_eq_false hle, zbi]
    refine fnspec_of mixed TT_ok TT_cl ⟨fun _ => false, fun _ => [], 0, fun _ => false, fun _ => false⟩ Tryz.func40 rfl (by kernel_rfl) rfl 51 rfl [.tmp 4] rfl ?_
    simp only [go_sem, zaa, zaf, zag, zah, zak, zad, ↓reduceIte, reduceCtorEq, zab, zac, zal, zam, zan, decide_eq_false c]
    repeat' (first
 | (apply cl_plain
    case hs => rfl
    case ha => (simp only [zai, zao, prepV, prepC, idx, hpL', lookR, zaa, if_true, if_false]; rfl)
    case h => (first | exact h1 ..))
 | ((first | refine s1_id ?_ | refine swp_id ?_ | refine sops_id ?_ | refine s2_id ?_); simp only [decide_eq_false c, go_sem, zaa, zaf, zag, zah, zak, zad, ↓reduceIte, reduceCtorEq, zab, zac, zal, zam, zan, zaG, zaK, zay, zaJ, renO, bk, back, outUpsFrom, Ints_ren])
 | exact fs_nil trivial rfl
 | fail)
  rw [decide_eq_true hle, zba]
  have c : (L.length : Int) = (l.length : Int) := by omega
  refine fnspec_of mixed TT_ok TT_cl ⟨fun _ => false, fun _ => [], 0, fun _ => false, fun _ => false⟩ Tryz.func40 rfl (by kernel_rfl) rfl 51 rfl [.tmp 4] rfl ?_
  simp only [go_sem, zaa, zaf, zag, zah, zak, zad, ↓reduceIte, reduceCtorEq, zab, zac, zal, zam, zan, decide_eq_true c]
  repeat' (first
 | (apply cl_plain
    case hs => rfl
    case ha => (simp only [zai, zao, prepV, prepC, idx, hpL', lookR, zaa, if_true, if_false]; rfl)
    case h => (first | exact h1 ..))
 | ((first | refine s1_id ?_ | refine swp_id ?_ | refine sops_id ?_ | refine s2_id ?_); simp only [decide_eq_true c, go_sem, zaa, zaf, zag, zah, zak, zad, ↓reduceIte, reduceCtorEq, zab, zac, zal, zam, zan, zaG, zaK, zay, zaJ, renO, bk, back, outUpsFrom, Ints_ren])
 | (intros; (try simp only [zau, zax, zat, zas, zap, zaq, decide_eq_true_eq, decide_eq_false_iff_not] at *); omega))
  refine w_loop (ι := Nat) (fun m => ⟨[(1, gr L k), (2, .one (.optr 0 0)), (18, gr L k), (19, i1 L.length), (20, i1 m)], [(0, some ⟨[.gsl (Cs l) 0 l.length none, int n], 2⟩)], 1⟩) (fun m => m ≤ L.length ∧ ∀ i, i < m → thOk l L i = true) (fun m => L.length - m) 0 ?_ ⟨zaY _, fun i hi => absurd hi (Nat.not_lt_zero _)⟩ ?_
  · (refine imp_ren _ _ _ [(0, 0, ⟨[.gsl (Cs l) 0 l.length none, int n], 2⟩)] (by simp) (by simp) (by simp) (zaw rfl) ?_ rfl (by simp only [zae, zaj, false_implies, implies_true, and_true, zaU, lookR, zaa, if_true, if_false, ↓reduceIte] <;> (repeat' apply zar) <;> (first | rfl | trivial)) (by simp only [zae, zaj, false_implies, implies_true, and_true, true_and, flat_cons, flat_nil, flat_ints, flat_bools, flat_app, zaQ, and_self, eq_self_iff_true, zav]); simp only [zai, zao, zae, zaj, false_implies, implies_true, and_true, lk, slot, zaG, zay, toN, zaa, if_true, if_false, ↓reduceIte, reduceCtorEq])
    all_goals ((repeat' apply zar) <;> (first | rfl | trivial))
  clear h1
  rintro m ⟨hm, hok⟩
  simp only at hm hok ⊢
  rcases zbc m L.length with hlt | hge
  case inr =>
    have c2 : ¬ (m : Int) < (L.length : Int) := by omega
    obtain rfl : m = L.length := by omega
    rw [(allN_iff _ _).2 hok]
    simp only [go_sem, zaa, zaf, zag, zah, zak, zad, ↓reduceIte, reduceCtorEq, zab, zac, zal, zam, zan, decide_eq_false c2]
    repeat' (first
 | exact fs_nil trivial rfl
 | fail)
  have c2 : (m : Int) < (L.length : Int) := by omega
  have hT := pl_td L m hlt
  have h50 := pl_f5 L 0 (by omega) (.sc (.slice none 0 0))
  rw [zaX, zbg] at h50
  obtain ⟨q1, _⟩ := nd_f l m (by omega) (.sc (.int .i64 0))
  have h2 := check_spec (gP L m) none
  have hce : thOk l L m = (decide ((gP L m).g = (gN l m).i) && (pck (gP L m) && decide ((gP L m).c.length = (gP L 0).c.length))) := rfl
  have hno : thOk l L m = false → allN L.length (thOk l L) = false := fun hf => Bool.eq_false_iff.2 fun h => by have := (allN_iff _ _).1 h m hlt; rw [hf] at this; cases this
  generalize gP L 0 = y at *
  generalize gP L m = x at *
  generalize pck x = P at *
  generalize (gN l m).i = id at *
  obtain ⟨a, b, cc, d, e, f, g1, h1, i1', j1⟩ := x
  simp only [plc, plt] at hT h2
  simp only at hce
  by_cases k0 : a = id
  case neg =>
    rw [hno (by rw [hce, decide_eq_false k0]; rfl)]
    simp only [go_sem, zaa, zaf, zag, zah, zak, zad, ↓reduceIte, reduceCtorEq, zab, zac, zal, zam, zan, decide_eq_true c2, hT, q1, decide_eq_false k0]
    repeat' (first
 | with_reducible refine zar ?_ ?_
 | (unfold OKC; kernel_rfl)
 | (unfold EDG; kernel_rfl)
 | (intros; omega)
 | exact fs_nil trivial rfl
 | fail)
  rw [decide_eq_true k0, zba] at hce
  cases P with
  | false =>
    rw [hno (by rw [hce]; rfl)]
    simp only [go_sem, zaa, zaf, zag, zah, zak, zad, ↓reduceIte, reduceCtorEq, zab, zac, zal, zam, zan, decide_eq_true c2, hT, q1, decide_eq_true k0]
    repeat' (first
 | with_reducible refine zar ?_ ?_
 | (unfold OKC; kernel_rfl)
 | (unfold EDG; kernel_rfl)
 | (apply cg_tp
    case hl => rfl
    case ha => (simp only [zai, zao, prepV, prepC, idx, hpL', lookR, zaa, if_true, if_false]; rfl)
    case hs => rfl
    case h => (first | exact h2 ..))
 | ((first | refine s1_id ?_ | refine swp_id ?_ | refine sops_id ?_ | refine s2_id ?_); simp only [decide_eq_true c2, hT, q1, decide_eq_true k0, zaF, zaH, zav, zaI, zaL, zaD, zaE, zaB, zaO, zaP, zaA, zaC, go_sem, zaa, zaf, zag, zah, zak, zad, ↓reduceIte, reduceCtorEq, zab, zac, zal, zam, zan, zaG, zaK, zay, zaJ, renO, bk, back, outUpsFrom, Ints_ren])
 | (intros; omega)
 | exact fs_nil trivial rfl
 | fail)
  | true =>
  rw [zba] at hce
  by_cases k1 : f.length = y.c.length
  case neg =>
    have k1' : ¬ (f.length : Int) = (y.c.length : Int) := by omega
    rw [hno (by rw [hce, decide_eq_false k1])]
    simp only [go_sem, zaa, zaf, zag, zah, zak, zad, ↓reduceIte, reduceCtorEq, zab, zac, zal, zam, zan, decide_eq_true c2, hT, q1, h50, decide_eq_true k0, decide_eq_false k1']
    repeat' (first
 | with_reducible refine zar ?_ ?_
 | (unfold OKC; kernel_rfl)
 | (unfold EDG; kernel_rfl)
 | (apply cg_tp
    case hl => rfl
    case ha => (simp only [zai, zao, prepV, prepC, idx, hpL', lookR, zaa, if_true, if_false]; rfl)
    case hs => rfl
    case h => (first | exact h2 ..))
 | ((first | refine s1_id ?_ | refine swp_id ?_ | refine sops_id ?_ | refine s2_id ?_); simp only [decide_eq_true c2, hT, q1, h50, zaV, zaX, zbg, decide_eq_true k0, decide_eq_false k1', zaF, zaH, zav, zaI, zaL, zaD, zaE, zaB, zaO, zaP, zaA, zaC, go_sem, zaa, zaf, zag, zah, zak, zad, ↓reduceIte, reduceCtorEq, zab, zac, zal, zam, zan, zaG, zaK, zay, zaJ, renO, bk, back, outUpsFrom, Ints_ren])
 | (intros; omega)
 | exact fs_nil trivial rfl
 | fail)
  have k1' : (f.length : Int) = (y.c.length : Int) := by omega
  rw [decide_eq_true k1] at hce
  simp only [go_sem, zaa, zaf, zag, zah, zak, zad, ↓reduceIte, reduceCtorEq, zab, zac, zal, zam, zan, decide_eq_true c2, hT, q1, h50, decide_eq_true k0, decide_eq_true k1']
  repeat' (first
 | with_reducible refine zar ?_ ?_
 | (unfold OKC; kernel_rfl)
 | (unfold EDG; kernel_rfl)
 | (apply cg_tp
    case hl => rfl
    case ha => (simp only [zai, zao, prepV, prepC, idx, hpL', lookR, zaa, if_true, if_false]; rfl)
    case hs => rfl
    case h => (first | exact h2 ..))
 | ((first | refine s1_id ?_ | refine swp_id ?_ | refine sops_id ?_ | refine s2_id ?_); simp only [decide_eq_true c2, hT, q1, h50, zaV, zaX, zbg, decide_eq_true k0, decide_eq_true k1', zaF, zaH, zav, zaI, zaL, zaD, zaE, zaB, zaO, zaP, zaA, zaC, go_sem, zaa, zaf, zag, zah, zak, zad, ↓reduceIte, reduceCtorEq, zab, zac, zal, zam, zan, zaG, zaK, zay, zaJ, renO, bk, back, outUpsFrom, Ints_ren])
 | (intros; omega)
 | (intros; (try simp only [zau, zax, zat, zas, zap, zaq, decide_eq_true_eq, decide_eq_false_iff_not] at *); omega))
  refine le_mk (m + 1) ?_ ⟨hlt, fun i hi => by rcases Nat.lt_succ_iff_lt_or_eq.1 hi with h | h; (· exact hok i h); (· rw [h]; exact hce)⟩ (by omega)
  (refine imp_ren _ _ _ [(0, 0, ⟨[.gsl (Cs l) 0 l.length none, int n], 2⟩)] (by simp) (by simp) (by simp) (zaw rfl) ?_ rfl (by simp only [zae, zaj, false_implies, implies_true, and_true, zaU, lookR, zaa, if_true, if_false, ↓reduceIte] <;> (repeat' apply zar) <;> (first | rfl | trivial)) (by simp only [zae, zaj, false_implies, implies_true, and_true, true_and, flat_cons, flat_nil, flat_ints, flat_bools, flat_app, zaQ, and_self, eq_self_iff_true, zav]); simp only [zai, zao, zae, zaj, false_implies, implies_true, and_true, lk, slot, zaG, zay, toN, zaa, if_true, if_false, ↓reduceIte, reduceCtorEq])
  all_goals ((repeat' apply zar) <;> (first | rfl | trivial | (simp only [zaz]; done) | (simp only [zaz]; rfl) | (simp only [zaz]; trivial)))
end Go.Proofs.YtcnilpdlcmpbbaaGreat
-- NEWGO
-- PRUNE: cl_lendx cl_use cl_lend
-- ISG: Cs_isG
-- FLAT: Cs_flat
namespace Go.Proofs.YtcnilpdlcmpbbaaGreat
set_option linter.unusedVariables false
set_option linter.unusedSimpArgs false
open Go.Proofs.YtcnilpdlcmpbbaaGreat.Sh
set_option maxRecDepth 20000
def poL (L : List Pl) (ids : List Int) : List Int := ids.map fun id => ixR (fun x : Pl => decide (x.g = id)) L 0
def wayM (l : List Nd) (n : Int) (L : List Pl) (g : Int) : List Int := if thC l n L = true then poL L (ancM l n g) else []
theorem poL_len (L : List Pl) (ids : List Int) : (poL L ids).length = ids.length := by simp [poL]
theorem poL_take (L : List Pl) (ids : List Int) (m : Nat) (h : m < ids.length) : poL L (ids.take (m + 1)) = poL L (ids.take m) ++ [ixR (fun x : Pl => decide (x.g = ids.getD m 0)) L 0] := by
  unfold poL
  rw [take_getD ids m 0 h, List.map_append]; rfl
set_option maxHeartbeats 8000000 in
theorem way_spec (l : List Nd) (n : Int) (L : List Pl) (k : Option Nat) (g : Int) (hl : l.length ≤ 1000000) (hL : L.length ≤ 1000000) (hnm : NmR l) (hct : CtR l) : FnSpec Tryz.prog 41 [trV l none n, gr L k, i1 g] [] (gi (wayM l n L g) none) [] := by
  have h1 := thck_spec l n L k hl hL hnm hct
  have h2 := tanc_spec l n g hl hnm hct
  have hal := ancM_len l n g
  unfold wayM
  cases hc : thC l n L with
  | false =>
    rw [hc] at h1
    rw [if_neg Bool.false_ne_true]
    refine fnspec_of mixed TT_ok TT_cl ⟨fun _ => false, fun _ => [], 0, fun _ => false, fun _ => false⟩ Tryz.func41 rfl (by kernel_rfl) rfl 31 rfl [.tmp 6] rfl ?_
    simp only [go_sem, zaa, zaf, zag, zah, zak, zad, ↓reduceIte, reduceCtorEq, zab, zac, zal, zam, zan]
    repeat' (first
 | (apply cl_plain
    case hs => rfl
    case ha => (simp only [zai, zao, prepV, prepC, idx, hpL', lookR, zaa, if_true, if_false]; rfl)
    case h => (first | exact h1 ..))
 | ((first | refine s1_id ?_ | refine swp_id ?_ | refine sops_id ?_ | refine s2_id ?_); simp only [go_sem, zaa, zaf, zag, zah, zak, zad, ↓reduceIte, reduceCtorEq, zab, zac, zal, zam, zan, zaG, zaK, zay, zaJ, renO, bk, back, outUpsFrom, Ints_ren])
 | (intros; (try simp only [zau, zax, zat, zas, zap, zaq, decide_eq_true_eq, decide_eq_false_iff_not] at *); omega))
    repeat' (first
 | exact fs_w trivial (svw_of cw_gnil)
 | fail)
  | true =>
  rw [hc] at h1
  rw [if_pos rfl]
  generalize ancM l n g = U at *
  refine fnspec_of mixed TT_ok TT_cl ⟨fun _ => false, fun _ => [], 0, fun _ => false, fun _ => false⟩ Tryz.func41 rfl (by kernel_rfl) rfl 31 rfl [.tmp 6] rfl ?_
  simp only [go_sem, zaa, zaf, zag, zah, zak, zad, ↓reduceIte, reduceCtorEq, zab, zac, zal, zam, zan]
  repeat' (first
 | (apply cl_plain
    case hs => rfl
    case ha => (simp only [zai, zao, prepV, prepC, idx, hpL', lookR, zaa, if_true, if_false]; rfl)
    case h => (first | exact h1 .. | exact h2 ..))
 | ((first | refine s1_id ?_ | refine swp_id ?_ | refine sops_id ?_ | refine s2_id ?_); simp only [go_sem, zaa, zaf, zag, zah, zak, zad, ↓reduceIte, reduceCtorEq, zab, zac, zal, zam, zan, zaG, zaK, zay, zaJ, renO, bk, back, outUpsFrom, Ints_ren])
 | (intros; (try simp only [zau, zax, zat, zas, zap, zaq, decide_eq_true_eq, decide_eq_false_iff_not] at *); omega))
  refine w_loop (ι := Nat) (fun m => ⟨[(1, gr L k), (7, .one (.osl 0 0 (poL L (U.take m)).length none)), (17, gi U none), (18, i1 U.length), (19, i1 m)], [(0, some ⟨Ints (poL L (U.take m)), 1⟩)], 1⟩) (fun m => m ≤ U.length) (fun m => U.length - m) 0 ?_ (zaY _) ?_
  · (refine Imp.trans (imp_nilA _ _ 7 1 99 (by simp only []; omega) rfl) ?_)
    (refine imp_ren _ _ _ [(0, 99, ⟨[], 1⟩)] (by simp) (by simp) (by simp) (zaw rfl) ?_ rfl (by simp only [zae, zaj, false_implies, implies_true, and_true, zaU, lookR, zaa, if_true, if_false, ↓reduceIte] <;> (repeat' apply zar) <;> (first | rfl | trivial)) (by simp only [zae, zaj, false_implies, implies_true, and_true, true_and, flat_cons, flat_nil, flat_ints, flat_bools, flat_app, zaQ, and_self, eq_self_iff_true, zav]); simp only [zai, zao, zae, zaj, false_implies, implies_true, and_true, lk, slot, zaG, zay, toN, zaa, if_true, if_false, ↓reduceIte, reduceCtorEq])
    all_goals ((repeat' apply zar) <;> (first | rfl | trivial))
  clear h1 h2
  intro m hm
  simp only at hm ⊢
  rcases zbc m U.length with hlt | hge
  case inr =>
    have c : ¬ (m : Int) < (U.length : Int) := by omega
    rw [zaZ hge]
    simp only [go_sem, zaa, zaf, zag, zah, zak, zad, ↓reduceIte, reduceCtorEq, zab, zac, zal, zam, zan, decide_eq_false c]
    repeat' (first
 | (intros; (try simp only [zau, zax, zat, zas, zap, zaq, decide_eq_true_eq, decide_eq_false_iff_not] at *); omega))
    (refine fs_frz 0 ⟨Ints (poL L U), 1⟩ (by simp only [zaU, lookR, zaa, if_true, if_false, ↓reduceIte]) (by first | exact Ints_isG _ | exact Bools_isG _ | exact Cs_isG _ | (simp [Cell.isG]; done)) ?_; simp only [frzTm, SV.frz, SV.frzL, Cell.frz, frzHp, frzO, Ints_frz, Bools_frz, zai, zao, zaa, if_true, if_false, ↓reduceIte])
    apply fs_nil <;> (try simp only [go_sem, resV, resS, zaG, zaK, zay, zbk, zaU, idx, renO, zaJ, evS, slot, lookR, zaa, ↓reduceIte, reduceCtorEq, if_true, if_false, zaR, zaS, zai, zao, sLoad, readAt, readNeed, Ints_ren, Ints_length, Ints_getD, and_true, true_and, zaM, zaN]) <;> (try rfl)
  have c : (m : Int) < (U.length : Int) := by omega
  have h3 := pos_spec L k (U.getD m 0) hL
  have hp := poL_take L U m hlt
  have hpl := poL_len L (U.take m)
  rw [zaW] at hpl
  generalize ixR (fun x : Pl => decide (x.g = U.getD m 0)) L 0 = v at *
  generalize poL L (U.take m) = W at *
  have htk : zbj W.length (Ints W) = Ints W := zaZ (by rw [Ints_length]; exact zbb _)
  have hpp : Ints W ++ [int v] = Ints (W ++ [v]) := by simp [Ints]
  have hla : (W ++ [v]).length = W.length + 1 := by simp
  simp only [go_sem, zaa, zaf, zag, zah, zak, zad, ↓reduceIte, reduceCtorEq, zab, zac, zal, zam, zan, decide_eq_true c]
  repeat' (first
 | with_reducible refine zar ?_ ?_
 | (apply cl_plain
    case hs => rfl
    case ha => (simp only [zai, zao, prepV, prepC, idx, hpL', lookR, zaa, if_true, if_false]; rfl)
    case h => (first | exact h3 ..))
 | ((first | refine s1_id ?_ | refine swp_id ?_ | refine sops_id ?_ | refine s2_id ?_); simp only [decide_eq_true c, htk, hpp, zaF, zaH, zav, zaI, zaL, zaD, zaE, zaB, zaO, zaP, zaA, zaC, go_sem, zaa, zaf, zag, zah, zak, zad, ↓reduceIte, reduceCtorEq, zab, zac, zal, zam, zan, zaG, zaK, zay, zaJ, renO, bk, back, outUpsFrom, Ints_ren])
 | (intros; omega)
 | (intros; (try simp only [zau, zax, zat, zas, zap, zaq, decide_eq_true_eq, decide_eq_false_iff_not] at *); omega))
  refine le_mk (m + 1) ?_ hlt (by omega)
  simp only [hp, hla]
  (refine imp_ren _ _ _ [(0, 10, ⟨Ints (W ++ [v]), 1⟩)] (by simp) (by simp) (by simp) (zaw rfl) ?_ rfl (by simp only [zae, zaj, false_implies, implies_true, and_true, zaU, lookR, zaa, if_true, if_false, ↓reduceIte] <;> (repeat' apply zar) <;> (first | rfl | trivial)) (by simp only [zae, zaj, false_implies, implies_true, and_true, true_and, flat_cons, flat_nil, flat_ints, flat_bools, flat_app, zaQ, and_self, eq_self_iff_true, zav]); simp only [zai, zao, zae, zaj, false_implies, implies_true, and_true, lk, slot, zaG, zay, toN, zaa, if_true, if_false, ↓reduceIte, reduceCtorEq])
  all_goals ((repeat' apply zar) <;> (first | rfl | trivial | (simp only [zaz]; done) | (simp only [zaz]; rfl) | (simp only [zaz]; trivial)))
end Go.Proofs.YtcnilpdlcmpbbaaGreat
-- NEWGO
-- PRUNE: cl_lendx cl_use
-- ISG: Cs_isG
-- FLAT: Cs_flat
namespace Go.Proofs.YtcnilpdlcmpbbaaGreat
set_option linter.unusedVariables false
set_option linter.unusedSimpArgs false
open Go.Proofs.YtcnilpdlcmpbbaaGreat.Sh
set_option maxRecDepth 20000
theorem has_spec (a : List Int) (k : Option Nat) (x : Int) (hl : a.length ≤ 1000000) : FnSpec Tryz.prog 55 [gi a k, i1 x] [] (b1 (decide (x ∈ a))) [] := by
  refine fnspec_of mixed TT_ok TT_cl ⟨fun _ => false, fun _ => [], 0, fun _ => false, fun _ => false⟩ Tryz.func55 rfl (by kernel_rfl) rfl 18 rfl [.tmp 4] rfl ?_
  simp only [go_sem, zaa, zaf, zag, zah, zak, zad, ↓reduceIte, reduceCtorEq, zab, zac, zal, zam, zan]
  repeat' (first
 | (intros; (try simp only [zau, zax, zat, zas, zap, zaq, decide_eq_true_eq, decide_eq_false_iff_not] at *); omega))
  refine w_loop (ι := Nat) (fun i => ⟨[(0, gi a k), (1, i1 x), (5, i1 i)], [], 0⟩) (fun i => i ≤ a.length ∧ (x ∈ a ↔ x ∈ a.drop i)) (fun i => a.length - i) 0 ?_ ⟨zaY _, Iff.rfl⟩ ?_
  · (refine imp_sub _ _ _ [] (by simp) (by simp) (by simp) (zaY _) ?_ rfl (by simp); simp only [zae, zaj, false_implies, implies_true, and_true, lk, slot, zaG, zay, zaa, if_true, if_false, ↓reduceIte, reduceCtorEq])
    all_goals ((repeat' apply zar) <;> (first | rfl | trivial))
  rintro i ⟨hi, he⟩
  simp only at hi he ⊢
  rcases zbc i a.length with hlt | hge
  case inr =>
    have c : ¬ (i : Int) < (a.length : Int) := by omega
    rw [zbe hge] at he
    rw [decide_eq_false (fun h => absurd (he.1 h) zaj)]
    simp only [go_sem, zaa, zaf, zag, zah, zak, zad, ↓reduceIte, reduceCtorEq, zab, zac, zal, zam, zan, decide_eq_false c]
    repeat' (first
 | exact fs_nil trivial rfl
 | fail)
  have c : (i : Int) < (a.length : Int) := by omega
  rw [drop_getD a i 0 hlt, List.mem_cons] at he
  by_cases hx : a.getD i 0 = x
  · rw [decide_eq_true (he.2 (Or.inl hx.symm))]
    simp only [go_sem, zaa, zaf, zag, zah, zak, zad, ↓reduceIte, reduceCtorEq, zab, zac, zal, zam, zan, decide_eq_true c, decide_eq_true hx]
    repeat' (first
 | with_reducible refine zar ?_ ?_
 | (intros; omega)
 | exact fs_nil trivial rfl
 | fail)
  · have he2 : x ∈ a ↔ x ∈ a.drop (i + 1) := he.trans ⟨fun h => h.resolve_left (fun e => hx e.symm), Or.inr⟩
    simp only [go_sem, zaa, zaf, zag, zah, zak, zad, ↓reduceIte, reduceCtorEq, zab, zac, zal, zam, zan, decide_eq_true c, decide_eq_false hx]
    repeat' (first
 | with_reducible refine zar ?_ ?_
 | (intros; omega)
 | (intros; (try simp only [zau, zax, zat, zas, zap, zaq, decide_eq_true_eq, decide_eq_false_iff_not] at *); omega))
    refine le_mk (i + 1) ?_ ⟨hlt, he2⟩ (by omega)
    (refine imp_sub _ _ _ [] (by simp) (by simp) (by simp) (zaY _) ?_ rfl (by simp); simp only [zae, zaj, false_implies, implies_true, and_true, lk, slot, zaG, zay, zaa, if_true, if_false, ↓reduceIte, reduceCtorEq])
    all_goals ((repeat' apply zar) <;> (first | rfl | trivial | (simp only [zaz]; done) | (simp only [zaz]; rfl) | (simp only [zaz]; trivial)))
theorem up_le {l : List Nd} {n : Int} (h : VT l n) : ∀ i, i < l.length → ∀ x ∈ upL l (gN l i).i, ∃ t, t ≤ i ∧ (gN l t).i = x := fun i => by
  induction i using Nat.strongRecOn with
  | _ i ih =>
    intro hi x hx
    by_cases h0 : i = 0
    · subst h0
      have hr := h.root.1
      rw [hr, h.up0, List.mem_singleton] at hx
      exact ⟨0, zbb _, by rw [hr, hx]⟩
    · rw [h.up hi h0, List.mem_cons] at hx
      rcases hx with rfl | hx
      · exact ⟨i, zbb _, rfl⟩
      · obtain ⟨j, hj, hp⟩ := (h.ch hi h0).par
        rw [← hp] at hx
        obtain ⟨t, ht, e⟩ := ih j hj (by omega) x hx
        exact ⟨t, by omega, e⟩
end Go.Proofs.YtcnilpdlcmpbbaaGreat
-- NEWGO
-- PRUNE: cl_lendx cl_use cl_lend
-- ISG: Cs_isG
-- FLAT: Cs_flat
namespace Go.Proofs.YtcnilpdlcmpbbaaGreat
set_option linter.unusedVariables false
set_option linter.unusedSimpArgs false
open Go.Proofs.YtcnilpdlcmpbbaaGreat.Sh
set_option maxRecDepth 20000
theorem thC_at {l : List Nd} {n : Int} {L : List Pl} (h : thC l n L = true) : VT l n ∧ L.length = l.length ∧ ∀ i, i < L.length → (gP L i).g = (gN l i).i ∧ pck (gP L i) = true ∧ (gP L i).c.length = (gP L 0).c.length := by
  unfold thC thOk at h
  simp only [zau, decide_eq_true_eq, allN_iff, chkT_iff] at h
  exact ⟨h.1, h.2.1, fun i hi => h.2.2 i hi⟩
theorem pck_len {x : Pl} (h : pck x = true) : x.c.length ≤ 1000 := by
  unfold pck at h
  simp only [zau, wi_iff] at h
  omega
theorem way_in {l : List Nd} {n : Int} {L : List Pl} (h : thC l n L = true) (g : Int) : ∀ v ∈ wayM l n L g, ∃ t : Nat, v = t ∧ t < L.length := fun v hv => by
  obtain ⟨hV, hl, hg⟩ := thC_at h
  unfold wayM at hv
  rw [if_pos h] at hv
  unfold poL at hv
  obtain ⟨id, hid, rfl⟩ := List.mem_map.1 hv
  unfold ancM at hid
  cases hh : hasM l n g with
  | false => rw [hh] at hid; cases hid
  | true =>
    rw [hh, if_pos rfl] at hid
    obtain ⟨_, y, hy, rfl⟩ := hasM_iff.1 hh
    obtain ⟨i, hi, rfl⟩ := gN_mem l y hy
    obtain ⟨t, ht, e⟩ := up_le hV i hi id hid
    rcases ixR_at (fun x : Pl => decide (x.g = id)) zpl L 0 with ⟨_, h2⟩ | ⟨k, h1, h2, _, _⟩
    · have h3 := h2 (gP L t) (getD_mem L t zpl (by omega))
      exact absurd (by rw [(hg t (by omega)).1, e] : (gP L t).g = id) (of_decide_eq_false h3)
    · rw [zbg] at h1
      exact ⟨k, h1, h2⟩
theorem way_len (l : List Nd) (n : Int) (L : List Pl) (g : Int) : (wayM l n L g).length ≤ l.length := by
  unfold wayM
  split
  · rw [poL_len]; exact ancM_len l n g
  · exact zaY _
def rmF (L : List Pl) (cpu : Int) : List Int → Int → Int
  | [], m => m
  | i :: r, m => rmF L cpu r (min m (proom (gP L i.toNat) cpu))
def thRm (l : List Nd) (n : Int) (L : List Pl) (g cpu : Int) : Int := if (wayM l n L g).length = 0 then 0 else rmF L cpu (wayM l n L g) 1099511627776
def bkF (L : List Pl) (cpu : Int) : List Int → Int × Bool
  | [] => (0, false)
  | i :: r => if proom (gP L i.toNat) cpu = 0 then ((gP L i.toNat).g, true) else bkF L cpu r
set_option maxHeartbeats 8000000 in
theorem thblk_spec (l : List Nd) (n : Int) (L : List Pl) (k : Option Nat) (g cpu : Int) (hl : l.length ≤ 1000000) (hL : L.length ≤ 1000000) (hnm : NmR l) (hct : CtR l) : FnSpec Tryz.prog 35 [trV l none n, gr L k, i1 g, i1 cpu] [] (.tup [i1 (bkF L cpu (wayM l n L g)).1, b1 (bkF L cpu (wayM l n L g)).2]) [] := by
  have h1 := way_spec l n L k g hl hL hnm hct
  have hpl := pl_len L
  have hWl := way_len l n L g
  have hin : ∀ v ∈ wayM l n L g, ∃ t : Nat, v = t ∧ t < L.length ∧ (gP L t).c.length ≤ 1000 := fun v hv => by
    have hc : thC l n L = true := by
      cases hc : thC l n L with
      | true => rfl
      | false => unfold wayM at hv; rw [hc] at hv; cases hv
    obtain ⟨t, e, ht⟩ := way_in hc g v hv
    exact ⟨t, e, ht, pck_len ((thC_at hc).2.2 t ht).2.1⟩
  generalize wayM l n L g = W at *
  refine fnspec_of mixed TT_ok TT_cl ⟨fun _ => false, fun _ => [], 0, fun _ => false, fun _ => false⟩ Tryz.func35 rfl (by kernel_rfl) rfl 34 rfl [.tmp 8, .tmp 9] rfl ?_
  simp only [go_sem, zaa, zaf, zag, zah, zak, zad, ↓reduceIte, reduceCtorEq, zab, zac, zal, zam, zan]
  repeat' (first
 | (apply cl_plain
    case hs => rfl
    case ha => (simp only [zai, zao, prepV, prepC, idx, hpL', lookR, zaa, if_true, if_false]; rfl)
    case h => (first | exact h1 ..))
 | ((first | refine s1_id ?_ | refine swp_id ?_ | refine sops_id ?_ | refine s2_id ?_); simp only [go_sem, zaa, zaf, zag, zah, zak, zad, ↓reduceIte, reduceCtorEq, zab, zac, zal, zam, zan, zaG, zaK, zay, zaJ, renO, bk, back, outUpsFrom, Ints_ren])
 | (intros; (try simp only [zau, zax, zat, zas, zap, zaq, decide_eq_true_eq, decide_eq_false_iff_not] at *); omega))
  refine w_loop (ι := Nat) (fun m => ⟨[(1, gr L k), (3, i1 cpu), (15, gi W none), (16, i1 W.length), (17, i1 m)], [], 0⟩) (fun m => m ≤ W.length ∧ bkF L cpu W = bkF L cpu (W.drop m)) (fun m => W.length - m) 0 ?_ ⟨zaY _, rfl⟩ ?_
  · (refine imp_ren _ _ _ [] (by simp) (by simp) (by simp) (zaw rfl) ?_ rfl (by simp only [zae, zaj, false_implies, implies_true, and_true, zaU, lookR, zaa, if_true, if_false, ↓reduceIte] <;> (repeat' apply zar) <;> (first | rfl | trivial)) (by simp only [zae, zaj, false_implies, implies_true, and_true, true_and, flat_cons, flat_nil, flat_ints, flat_bools, flat_app, zaQ, and_self, eq_self_iff_true, zav]); simp only [zai, zao, zae, zaj, false_implies, implies_true, and_true, lk, slot, zaG, zay, toN, zaa, if_true, if_false, ↓reduceIte, reduceCtorEq])
    all_goals ((repeat' apply zar) <;> (first | rfl | trivial))
  clear h1
  rintro m ⟨hm, hI⟩
  simp only at hm hI ⊢
  rcases zbc m W.length with hlt | hge
  case inr =>
    have c : ¬ (m : Int) < (W.length : Int) := by omega
    rw [zbe hge] at hI
    rw [hI, bkF]
    simp only [go_sem, zaa, zaf, zag, zah, zak, zad, ↓reduceIte, reduceCtorEq, zab, zac, zal, zam, zan, decide_eq_false c]
    repeat' (first
 | exact fs_nil trivial rfl
 | fail)
  have c : (m : Int) < (W.length : Int) := by omega
  obtain ⟨t, ht, htl, htc⟩ := hin (W.getD m 0) (getD_mem W m 0 hlt)
  rw [drop_getD W m 0 hlt, bkF, ht, zaT] at hI
  have hT := pl_td L t htl
  have q0 := pl_f0 L t htl (.sc (.int .i64 0))
  have h2 := room_spec (gP L t) none cpu htc
  generalize proom (gP L t) cpu = pr at *
  generalize gP L t = x at *
  obtain ⟨a, b, cc, d, e, f, g1, h1, i1', j1⟩ := x
  simp only [plc, plt] at hT h2
  simp only at q0 hI
  by_cases hp : pr = 0
  · rw [if_pos hp] at hI
    rw [hI]
    simp only [go_sem, zaa, zaf, zag, zah, zak, zad, ↓reduceIte, reduceCtorEq, zab, zac, zal, zam, zan, decide_eq_true c, ht, hT, q0, decide_eq_true hp]
    repeat' (first
 | with_reducible refine zar ?_ ?_
 | (apply cl_plain
    case hs => rfl
    case ha => (simp only [zai, zao, prepV, prepC, idx, hpL', lookR, zaa, if_true, if_false]; rfl)
    case h => (first | exact h2 ..))
 | ((first | refine s1_id ?_ | refine swp_id ?_ | refine sops_id ?_ | refine s2_id ?_); simp only [decide_eq_true c, ht, hT, q0, decide_eq_true hp, zaF, zaH, zav, zaI, zaL, zaD, zaE, zaB, zaO, zaP, zaA, zaC, go_sem, zaa, zaf, zag, zah, zak, zad, ↓reduceIte, reduceCtorEq, zab, zac, zal, zam, zan, zaG, zaK, zay, zaJ, renO, bk, back, outUpsFrom, Ints_ren])
 | (intros; omega)
 | exact fs_nil trivial rfl
 | fail)
  · rw [if_neg hp] at hI
    simp only [go_sem, zaa, zaf, zag, zah, zak, zad, ↓reduceIte, reduceCtorEq, zab, zac, zal, zam, zan, decide_eq_true c, ht, hT, q0, decide_eq_false hp]
    repeat' (first
 | with_reducible refine zar ?_ ?_
 | (apply cl_plain
    case hs => rfl
    case ha => (simp only [zai, zao, prepV, prepC, idx, hpL', lookR, zaa, if_true, if_false]; rfl)
    case h => (first | exact h2 ..))
 | ((first | refine s1_id ?_ | refine swp_id ?_ | refine sops_id ?_ | refine s2_id ?_); simp only [decide_eq_true c, ht, hT, q0, decide_eq_false hp, zaF, zaH, zav, zaI, zaL, zaD, zaE, zaB, zaO, zaP, zaA, zaC, go_sem, zaa, zaf, zag, zah, zak, zad, ↓reduceIte, reduceCtorEq, zab, zac, zal, zam, zan, zaG, zaK, zay, zaJ, renO, bk, back, outUpsFrom, Ints_ren])
 | (intros; omega)
 | (intros; (try simp only [zau, zax, zat, zas, zap, zaq, decide_eq_true_eq, decide_eq_false_iff_not] at *); omega))
    refine le_mk (m + 1) ?_ ⟨hlt, hI⟩ (by omega)
    (refine imp_ren _ _ _ [] (by simp) (by simp) (by simp) (zaw rfl) ?_ rfl (by simp only [zae, zaj, false_implies, implies_true, and_true, zaU, lookR, zaa, if_true, if_false, ↓reduceIte] <;> (repeat' apply zar) <;> (first | rfl | trivial)) (by simp only [zae, zaj, false_implies, implies_true, and_true, true_and, flat_cons, flat_nil, flat_ints, flat_bools, flat_app, zaQ, and_self, eq_self_iff_true, zav]); simp only [zai, zao, zae, zaj, false_implies, implies_true, and_true, lk, slot, zaG, zay, toN, zaa, if_true, if_false, ↓reduceIte, reduceCtorEq])
    all_goals ((repeat' apply zar) <;> (first | rfl | trivial | (simp only [zaz]; done) | (simp only [zaz]; rfl) | (simp only [zaz]; trivial)))
end Go.Proofs.YtcnilpdlcmpbbaaGreat
-- NEWGO
-- PRUNE: cl_lendx cl_use cl_lend
-- ISG: Cs_isG
-- FLAT: Cs_flat
namespace Go.Proofs.YtcnilpdlcmpbbaaGreat
set_option linter.unusedVariables false
set_option linter.unusedSimpArgs false
open Go.Proofs.YtcnilpdlcmpbbaaGreat.Sh
set_option maxRecDepth 20000
structure SmP (x : Pl) : Prop where
  hb : x.b ≤ 4611686018427387904
  hb0 : -9223372036854775808 ≤ x.b
  hp : -1000000 ≤ x.pe ∧ x.pe ≤ 9223372036854775807
  hlen : x.c.length ≤ 9223372036854775807
set_option maxHeartbeats 8000000 in
theorem rthck_spec (l : List Nd) (n : Int) (L : List Pl) (k : Option Nat) (hl : l.length ≤ 1000000) (hL : L.length ≤ 1000000) (hnm : NmR l) (hsm : ∀ x ∈ L, SmP x) : FnSpec Tryz.prog 30 [trV l none n, gr L k] [] (b1 (thC l n L)) [] := by
  have h1 := trcheck_spec l none n hl hnm
  have hnl := nd_len l
  have hpl := pl_len L
  unfold thC
  cases hk : chkT l n with
  | false =>
    rw [hk] at h1
    rw [zbi]
    refine fnspec_of mixed TT_ok TT_cl ⟨fun _ => false, fun _ => [], 0, fun _ => false, fun _ => false⟩ Tryz.func30 rfl (by kernel_rfl) rfl 57 rfl [.tmp 4] rfl ?_
    simp only [go_sem, zaa, zaf, zag, zah, zak, zad, ↓reduceIte, reduceCtorEq, zab, zac, zal, zam, zan]
    repeat' (first
 | (apply cl_plain
    case hs => rfl
    case ha => (simp only [zai, zao, prepV, prepC, idx, hpL', lookR, zaa, if_true, if_false]; rfl)
    case h => (first | exact h1 ..))
 | ((first | refine s1_id ?_ | refine swp_id ?_ | refine sops_id ?_ | refine s2_id ?_); simp only [go_sem, zaa, zaf, zag, zah, zak, zad, ↓reduceIte, reduceCtorEq, zab, zac, zal, zam, zan, zaG, zaK, zay, zaJ, renO, bk, back, outUpsFrom, Ints_ren])
 | exact fs_nil trivial rfl
 | fail)
  | true =>
  rw [hk] at h1
  rw [zba]
  by_cases hle : L.length = l.length
  case neg =>
    have c : ¬ (L.length : Int) = (l.length : Int) := by omega
    rw [decide_eq_false hle, zbi]
    refine fnspec_of mixed TT_ok TT_cl ⟨fun _ => false, fun _ => [], 0, fun _ => false, fun _ => false⟩ Tryz.func30 rfl (by kernel_rfl) rfl 57 rfl [.tmp 4] rfl ?_
    simp only [go_sem, zaa, zaf, zag, zah, zak, zad, ↓reduceIte, reduceCtorEq, zab, zac, zal, zam, zan, decide_eq_false c]
    repeat' (first
 | (apply cl_plain
    case hs => rfl
    case ha => (simp only [zai, zao, prepV, prepC, idx, hpL', lookR, zaa, if_true, if_false]; rfl)
    case h => (first | exact h1 ..))
 | ((first | refine s1_id ?_ | refine swp_id ?_ | refine sops_id ?_ | refine s2_id ?_); simp only [decide_eq_false c, go_sem, zaa, zaf, zag, zah, zak, zad, ↓reduceIte, reduceCtorEq, zab, zac, zal, zam, zan, zaG, zaK, zay, zaJ, renO, bk, back, outUpsFrom, Ints_ren])
 | exact fs_nil trivial rfl
 | fail)
  rw [decide_eq_true hle, zba]
  have c : (L.length : Int) = (l.length : Int) := by omega
  refine fnspec_of mixed TT_ok TT_cl ⟨fun _ => false, fun _ => [], 0, fun _ => false, fun _ => false⟩ Tryz.func30 rfl (by kernel_rfl) rfl 57 rfl [.tmp 4] rfl ?_
  simp only [go_sem, zaa, zaf, zag, zah, zak, zad, ↓reduceIte, reduceCtorEq, zab, zac, zal, zam, zan, decide_eq_true c]
  repeat' (first
 | (apply cl_plain
    case hs => rfl
    case ha => (simp only [zai, zao, prepV, prepC, idx, hpL', lookR, zaa, if_true, if_false]; rfl)
    case h => (first | exact h1 ..))
 | ((first | refine s1_id ?_ | refine swp_id ?_ | refine sops_id ?_ | refine s2_id ?_); simp only [decide_eq_true c, go_sem, zaa, zaf, zag, zah, zak, zad, ↓reduceIte, reduceCtorEq, zab, zac, zal, zam, zan, zaG, zaK, zay, zaJ, renO, bk, back, outUpsFrom, Ints_ren])
 | (intros; (try simp only [zau, zax, zat, zas, zap, zaq, decide_eq_true_eq, decide_eq_false_iff_not] at *); omega))
  refine w_loop (ι := Nat) (fun m => ⟨[(1, gr L k), (2, .one (.optr 0 0)), (5, i1 m)], [(0, some ⟨[.gsl (Cs l) 0 l.length none, int n], 2⟩)], 1⟩) (fun m => m ≤ L.length ∧ ∀ i, i < m → thOk l L i = true) (fun m => L.length - m) 0 ?_ ⟨zaY _, fun i hi => absurd hi (Nat.not_lt_zero _)⟩ ?_
  · (refine imp_ren _ _ _ [(0, 0, ⟨[.gsl (Cs l) 0 l.length none, int n], 2⟩)] (by simp) (by simp) (by simp) (zaw rfl) ?_ rfl (by simp only [zae, zaj, false_implies, implies_true, and_true, zaU, lookR, zaa, if_true, if_false, ↓reduceIte] <;> (repeat' apply zar) <;> (first | rfl | trivial)) (by simp only [zae, zaj, false_implies, implies_true, and_true, true_and, flat_cons, flat_nil, flat_ints, flat_bools, flat_app, zaQ, and_self, eq_self_iff_true, zav]); simp only [zai, zao, zae, zaj, false_implies, implies_true, and_true, lk, slot, zaG, zay, toN, zaa, if_true, if_false, ↓reduceIte, reduceCtorEq])
    all_goals ((repeat' apply zar) <;> (first | rfl | trivial))
  clear h1
  rintro m ⟨hm, hok⟩
  simp only at hm hok ⊢
  rcases zbc m L.length with hlt | hge
  case inr =>
    have c2 : ¬ (m : Int) < (L.length : Int) := by omega
    obtain rfl : m = L.length := by omega
    rw [(allN_iff _ _).2 hok]
    simp only [go_sem, zaa, zaf, zag, zah, zak, zad, ↓reduceIte, reduceCtorEq, zab, zac, zal, zam, zan, decide_eq_false c2]
    repeat' (first
 | exact fs_nil trivial rfl
 | fail)
  have c2 : (m : Int) < (L.length : Int) := by omega
  have hT := pl_td L m hlt
  have h50 := pl_f5 L 0 (by omega) (.sc (.slice none 0 0))
  rw [zaX, zbg] at h50
  obtain ⟨q1, _⟩ := nd_f l m (by omega) (.sc (.int .i64 0))
  have p0 := pl_f0 L m hlt (.sc (.int .i64 0))
  have p5 := pl_f5 L m hlt (.sc (.slice none 0 0))
  have hs := hsm _ (getD_mem L m zpl hlt)
  have h2 := rcheck_spec (gP L m) none hs.hb hs.hb0 hs.hp hs.hlen
  have hce : thOk l L m = (decide ((gP L m).g = (gN l m).i) && (pck (gP L m) && decide ((gP L m).c.length = (gP L 0).c.length))) := rfl
  have hno : thOk l L m = false → allN L.length (thOk l L) = false := fun hf => Bool.eq_false_iff.2 fun h => by have := (allN_iff _ _).1 h m hlt; rw [hf] at this; cases this
  generalize gP L 0 = y at *
  clear hs
  generalize gP L m = x at *
  generalize pck x = P at *
  generalize (gN l m).i = id at *
  obtain ⟨a, b, cc, d, e, f, g1, h1, i1', j1⟩ := x
  simp only [plc, plt] at hT h2
  simp only at p0 p5
  simp only at hce
  by_cases k0 : a = id
  case neg =>
    rw [hno (by rw [hce, decide_eq_false k0]; rfl)]
    simp only [go_sem, zaa, zaf, zag, zah, zak, zad, ↓reduceIte, reduceCtorEq, zab, zac, zal, zam, zan, decide_eq_true c2, hT, p0, p5, q1, decide_eq_false k0]
    repeat' (first
 | with_reducible refine zar ?_ ?_
 | (unfold OKC; kernel_rfl)
 | (unfold EDG; kernel_rfl)
 | (intros; omega)
 | exact fs_nil trivial rfl
 | fail)
  rw [decide_eq_true k0, zba] at hce
  cases P with
  | false =>
    rw [hno (by rw [hce]; rfl)]
    simp only [go_sem, zaa, zaf, zag, zah, zak, zad, ↓reduceIte, reduceCtorEq, zab, zac, zal, zam, zan, decide_eq_true c2, hT, p0, p5, q1, decide_eq_true k0]
    repeat' (first
 | with_reducible refine zar ?_ ?_
 | (unfold OKC; kernel_rfl)
 | (unfold EDG; kernel_rfl)
 | (apply cg_tp
    case hl => rfl
    case ha => (simp only [zai, zao, prepV, prepC, idx, hpL', lookR, zaa, if_true, if_false]; rfl)
    case hs => rfl
    case h => (first | exact h2 ..))
 | ((first | refine s1_id ?_ | refine swp_id ?_ | refine sops_id ?_ | refine s2_id ?_); simp only [decide_eq_true c2, hT, p0, p5, q1, decide_eq_true k0, zaF, zaH, zav, zaI, zaL, zaD, zaE, zaB, zaO, zaP, zaA, zaC, go_sem, zaa, zaf, zag, zah, zak, zad, ↓reduceIte, reduceCtorEq, zab, zac, zal, zam, zan, zaG, zaK, zay, zaJ, renO, bk, back, outUpsFrom, Ints_ren])
 | (intros; omega)
 | exact fs_nil trivial rfl
 | fail)
  | true =>
  rw [zba] at hce
  by_cases k1 : f.length = y.c.length
  case neg =>
    have k1' : ¬ (f.length : Int) = (y.c.length : Int) := by omega
    rw [hno (by rw [hce, decide_eq_false k1])]
    simp only [go_sem, zaa, zaf, zag, zah, zak, zad, ↓reduceIte, reduceCtorEq, zab, zac, zal, zam, zan, decide_eq_true c2, hT, p0, p5, q1, h50, decide_eq_true k0, decide_eq_false k1']
    repeat' (first
 | with_reducible refine zar ?_ ?_
 | (unfold OKC; kernel_rfl)
 | (unfold EDG; kernel_rfl)
 | (apply cg_tp
    case hl => rfl
    case ha => (simp only [zai, zao, prepV, prepC, idx, hpL', lookR, zaa, if_true, if_false]; rfl)
    case hs => rfl
    case h => (first | exact h2 ..))
 | ((first | refine s1_id ?_ | refine swp_id ?_ | refine sops_id ?_ | refine s2_id ?_); simp only [decide_eq_true c2, hT, p0, p5, q1, h50, zaV, zaX, zbg, decide_eq_true k0, decide_eq_false k1', zaF, zaH, zav, zaI, zaL, zaD, zaE, zaB, zaO, zaP, zaA, zaC, go_sem, zaa, zaf, zag, zah, zak, zad, ↓reduceIte, reduceCtorEq, zab, zac, zal, zam, zan, zaG, zaK, zay, zaJ, renO, bk, back, outUpsFrom, Ints_ren])
 | (intros; omega)
 | exact fs_nil trivial rfl
 | fail)
  have k1' : (f.length : Int) = (y.c.length : Int) := by omega
  rw [decide_eq_true k1] at hce
  simp only [go_sem, zaa, zaf, zag, zah, zak, zad, ↓reduceIte, reduceCtorEq, zab, zac, zal, zam, zan, decide_eq_true c2, hT, p0, p5, q1, h50, decide_eq_true k0, decide_eq_true k1']
  repeat' (first
 | with_reducible refine zar ?_ ?_
 | (unfold OKC; kernel_rfl)
 | (unfold EDG; kernel_rfl)
 | (apply cg_tp
    case hl => rfl
    case ha => (simp only [zai, zao, prepV, prepC, idx, hpL', lookR, zaa, if_true, if_false]; rfl)
    case hs => rfl
    case h => (first | exact h2 ..))
 | ((first | refine s1_id ?_ | refine swp_id ?_ | refine sops_id ?_ | refine s2_id ?_); simp only [decide_eq_true c2, hT, p0, p5, q1, h50, zaV, zaX, zbg, decide_eq_true k0, decide_eq_true k1', zaF, zaH, zav, zaI, zaL, zaD, zaE, zaB, zaO, zaP, zaA, zaC, go_sem, zaa, zaf, zag, zah, zak, zad, ↓reduceIte, reduceCtorEq, zab, zac, zal, zam, zan, zaG, zaK, zay, zaJ, renO, bk, back, outUpsFrom, Ints_ren])
 | (intros; omega)
 | (intros; (try simp only [zau, zax, zat, zas, zap, zaq, decide_eq_true_eq, decide_eq_false_iff_not] at *); omega))
  refine le_mk (m + 1) ?_ ⟨hlt, fun i hi => by rcases Nat.lt_succ_iff_lt_or_eq.1 hi with h | h; (· exact hok i h); (· rw [h]; exact hce)⟩ (by omega)
  (refine imp_ren _ _ _ [(0, 0, ⟨[.gsl (Cs l) 0 l.length none, int n], 2⟩)] (by simp) (by simp) (by simp) (zaw rfl) ?_ rfl (by simp only [zae, zaj, false_implies, implies_true, and_true, zaU, lookR, zaa, if_true, if_false, ↓reduceIte] <;> (repeat' apply zar) <;> (first | rfl | trivial)) (by simp only [zae, zaj, false_implies, implies_true, and_true, true_and, flat_cons, flat_nil, flat_ints, flat_bools, flat_app, zaQ, and_self, eq_self_iff_true, zav]); simp only [zai, zao, zae, zaj, false_implies, implies_true, and_true, lk, slot, zaG, zay, toN, zaa, if_true, if_false, ↓reduceIte, reduceCtorEq])
  all_goals ((repeat' apply zar) <;> (first | rfl | trivial | (simp only [zaz]; done) | (simp only [zaz]; rfl) | (simp only [zaz]; trivial)))
end Go.Proofs.YtcnilpdlcmpbbaaGreat
-- NEWGO
-- PRUNE: cl_lendx cl_use cl_lend
-- ISG: Cs_isG
-- FLAT: Cs_flat
namespace Go.Proofs.YtcnilpdlcmpbbaaGreat
set_option linter.unusedVariables false
set_option linter.unusedSimpArgs false
open Go.Proofs.YtcnilpdlcmpbbaaGreat.Sh
set_option maxRecDepth 20000
def gtM (L : List Pl) (g : Int) : Pl × Bool := match L.find? (fun x => decide (x.g = g)) with
  | some x => (x, true)
  | none => (zpl, false)
theorem find_dropP {L : List Pl} {m : Nat} (h : m < L.length) (g : Int) : (L.drop m).find? (fun x => decide (x.g = g)) = if (gP L m).g = g then some (gP L m) else (L.drop (m + 1)).find? (fun x => decide (x.g = g)) := by
  rw [drop_getD L m zpl h, List.find?_cons]
  by_cases c : (gP L m).g = g
  · rw [if_pos c, show decide ((L.getD m zpl).g = g) = true from decide_eq_true c]
  · rw [if_neg c, show decide ((L.getD m zpl).g = g) = false from decide_eq_false c]
theorem rcopyG_spec (x : Pl) (h1 : x.c.length ≤ 1000) : FnSpec Tryz.prog 67 [plt x none] [] (plt x none) [] := by
  have h := (rcopy_spec x none h1).frz1 (Ints_isG _)
  simpa only [plo, SV.frz, SV.frzL, Cell.frz, zai, zao, if_true, plt, plc] using h
abbrev zpr : Row := ⟨[int 0, int 0, int 0, int 0, int 0, .sc (.slice none 0 0), int 0, int 0, int 0, bool false], 10⟩
set_option maxHeartbeats 8000000 in
theorem rgetP_spec (L : List Pl) (k : Option Nat) (g : Int) (hl : L.length ≤ 1000000) (hsm : ∀ x ∈ L, x.c.length ≤ 1000) : FnSpec Tryz.prog 86 [gr L k, i1 g] [] (.tup [plt (gtM L g).1 none, b1 (gtM L g).2]) [] := by
  have hpl := pl_len L
  unfold gtM
  refine fnspec_of mixed TT_ok TT_cl ⟨fun _ => false, fun _ => [], 0, fun _ => false, fun _ => false⟩ Tryz.func86 rfl (by kernel_rfl) rfl 26 rfl [.cell 4 43, .tmp 5] rfl ?_
  simp only [go_sem, zaa, zaf, zag, zah, zak, zad, ↓reduceIte, reduceCtorEq, zab, zac, zal, zam, zan]
  repeat' (first
 | (intros; (try simp only [zau, zax, zat, zas, zap, zaq, decide_eq_true_eq, decide_eq_false_iff_not] at *); omega))
  refine w_loop (ι := Nat) (fun m => ⟨[(0, gr L k), (1, i1 g), (4, .one (.optr 0 0)), (6, i1 m)], [(0, some zpr)], 1⟩) (fun m => m ≤ L.length ∧ L.find? (fun x => decide (x.g = g)) = (L.drop m).find? (fun x => decide (x.g = g))) (fun m => L.length - m) 0 ?_ ⟨zaY _, rfl⟩ ?_
  · (refine imp_ren _ _ _ [(0, 0, zpr)] (by simp) (by simp) (by simp) (zaw rfl) ?_ rfl (by simp only [zae, zaj, false_implies, implies_true, and_true, zaU, lookR, zaa, if_true, if_false, ↓reduceIte] <;> (repeat' apply zar) <;> (first | rfl | trivial)) (by simp only [zae, zaj, false_implies, implies_true, and_true, true_and, flat_cons, flat_nil, flat_ints, flat_bools, flat_app, zaQ, and_self, eq_self_iff_true, zav]); simp only [zai, zao, zae, zaj, false_implies, implies_true, and_true, lk, slot, zaG, zay, toN, zaa, if_true, if_false, ↓reduceIte, reduceCtorEq])
    all_goals ((repeat' apply zar) <;> (first | rfl | trivial))
  rintro m ⟨hm, hf⟩
  simp only at hm hf ⊢
  rcases zbc m L.length with hlt | hge
  case inr =>
    have c : ¬ (m : Int) < (L.length : Int) := by omega
    rw [zbe hge] at hf
    rw [hf]
    simp only [go_sem, zaa, zaf, zag, zah, zak, zad, ↓reduceIte, reduceCtorEq, zab, zac, zal, zam, zan, decide_eq_false c, zpr, List.find?_nil]
    repeat' (first
 | (intros; (try simp only [zau, zax, zat, zas, zap, zaq, decide_eq_true_eq, decide_eq_false_iff_not] at *); omega))
    repeat' (first
 | (refine fs_w ?h1 (svw_of ?h2); (case h1 => repeat' (first | exact trivial | exact rfl | exact zaw rfl | apply zar)); (case h2 => repeat' (first | ((with_reducible refine (?_ : CW _ _)); first | exact cw_gnil | exact cw_rfl _ | exact cw_niln _ _ | exact cw_cap _ _ _ _) | exact trivial | (show _ ∧ SWL _ _; apply zar) | (show _ ∧ CWL _ _; apply zar) | show CW _ _)))
 | fail)
  have c : (m : Int) < (L.length : Int) := by omega
  have g1 := pl_f0 L m hlt (.sc (.int .i64 0))
  have hT := pl_td L m hlt
  have h2 := rcopyG_spec (gP L m) (hsm _ (getD_mem L m zpl hlt))
  rw [find_dropP hlt] at hf
  by_cases hid : (gP L m).g = g
  · rw [if_pos hid] at hf
    rw [hf]
    generalize gP L m = x at *
    obtain ⟨a, b, cc, d, e, f, q1, q2, q3, q4⟩ := x
    simp only [plc, plt] at hT h2 ⊢
    simp only at g1 hid
    simp only [go_sem, zaa, zaf, zag, zah, zak, zad, ↓reduceIte, reduceCtorEq, zab, zac, zal, zam, zan, decide_eq_true c, g1, decide_eq_true hid, hT, zpr]
    repeat' (first
 | with_reducible refine zar ?_ ?_
 | (apply cl_plain
    case hs => rfl
    case ha => (simp only [zai, zao, prepV, prepC, idx, hpL', lookR, zaa, if_true, if_false]; rfl)
    case h => (first | exact h2 ..))
 | ((first | refine s1_id ?_ | refine swp_id ?_ | refine sops_id ?_ | refine s2_id ?_); simp only [decide_eq_true c, g1, decide_eq_true hid, hT, zpr, zaF, zaH, zav, zaI, zaL, zaD, zaE, zaB, zaO, zaP, zaA, zaC, go_sem, zaa, zaf, zag, zah, zak, zad, ↓reduceIte, reduceCtorEq, zab, zac, zal, zam, zan, zaG, zaK, zay, zaJ, renO, bk, back, outUpsFrom, Ints_ren])
 | (intros; omega)
 | (apply fs_nil <;> (try simp only [go_sem, resV, resS, zaG, zaK, zay, zbk, zaU, idx, renO, zaJ, evS, slot, lookR, zaa, ↓reduceIte, reduceCtorEq, if_true, if_false, zaR, zaS, zai, zao, sLoad, readAt, readNeed, Ints_ren, Ints_length, Ints_getD, and_true, true_and, zaM, zaN]) <;> (try rfl))
 | fail)
  · rw [if_neg hid] at hf
    simp only [go_sem, zaa, zaf, zag, zah, zak, zad, ↓reduceIte, reduceCtorEq, zab, zac, zal, zam, zan, decide_eq_true c, g1, decide_eq_false hid, zpr]
    repeat' (first
 | with_reducible refine zar ?_ ?_
 | (intros; omega)
 | (intros; (try simp only [zau, zax, zat, zas, zap, zaq, decide_eq_true_eq, decide_eq_false_iff_not] at *); omega))
    refine le_mk (m + 1) ?_ ⟨hlt, hf⟩ (by omega)
    (refine imp_ren _ _ _ [(0, 0, zpr)] (by simp) (by simp) (by simp) (zaw rfl) ?_ rfl (by simp only [zae, zaj, false_implies, implies_true, and_true, zaU, lookR, zaa, if_true, if_false, ↓reduceIte] <;> (repeat' apply zar) <;> (first | rfl | trivial)) (by simp only [zae, zaj, false_implies, implies_true, and_true, true_and, flat_cons, flat_nil, flat_ints, flat_bools, flat_app, zaQ, and_self, eq_self_iff_true, zav]); simp only [zai, zao, zae, zaj, false_implies, implies_true, and_true, lk, slot, zaG, zay, toN, zaa, if_true, if_false, ↓reduceIte, reduceCtorEq])
    all_goals ((repeat' apply zar) <;> (first | rfl | trivial | (simp only [zaz]; done) | (simp only [zaz]; rfl) | (simp only [zaz]; trivial)))
end Go.Proofs.YtcnilpdlcmpbbaaGreat
