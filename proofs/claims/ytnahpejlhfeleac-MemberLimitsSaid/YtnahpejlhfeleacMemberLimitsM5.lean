/- Contracts of functions, told of values, on the way to MemberLimits (part 5). -/
import Derived.Test.YtnahpejlhfeleacMemberLimitsM3
import Derived.Test.YtnahpejlhfeleacMemberLimitsM4
-- short names of the library's lemmas
open Nat renaming reduceEqDiff → zaa, reduceLeDiff → zad, reduceAdd → zae, reduceSub → zaf, reduceMul → zag, reduceLT → zai, le_of_ble_eq_true → zaC, zero_le → zaW, lt_or_ge → zbc, le_refl → zbf, zero_add → zbg
open List renaming reduceReplicate → zab, map_cons → zah, map_nil → zam, forall_mem_cons → zan, append_nil → zao, length_nil → zap, take_succ_cons → zar, not_mem_nil → zas, set_cons_zero → zat, set_cons_succ → zau, length_cons → zax, flatten_cons → zay, flatten_nil → zaz, cons_append → zaA, nil_append → zaD, take_zero → zaG, take_nil → zaH, getD_cons_zero → zaL, getD_cons_succ → zaM, take_of_length_le → zaX, replicate → zba, drop_succ_cons → zbb, drop_of_length_le → zbe
open Int renaming cast_ofNat_Int → zac, reduceEq → zaj, reduceLT → zak, reduceLE → zal, natCast_add → zaK
open Option renaming getD_some → zaQ, getD_none → zaR
open Bool renaming and_eq_false_iff → zav, or_eq_false_iff → zaw, not_eq_false' → zaB, and_eq_true → zaE, not_eq_true' → zaF, or_eq_true → zaI, true_and → zaS, false_and → zaT
open And renaming intro → zaq
open Go.Proofs.Ytnahpejlhfeleac.Sh.Cell renaming ren → zaJ, refs → zaV, sc → zaY, frz → zbd, isG → zbh
open Go.Proofs.Ytnahpejlhfeleac.Sh.SV renaming renL → zaO, ren → zaP, frzL → zbi
open Go.Proofs.Ytnahpejlhfeleac.Sh.Row renaming ren → zaN
open Go.Proofs.Ytnahpejlhfeleac.Sh.St renaming hpF → zaU, tmF → zaZ
-- NEWGO
-- PRUNE: cl_lendx cl_use
-- ISG: Cs_isG
-- FLAT: Cs_flat
namespace Go.Proofs.Ytnahpejlhfeleac
set_option linter.unusedVariables false
set_option linter.unusedSimpArgs false
open Go.Proofs.Ytnahpejlhfeleac.Sh
set_option maxRecDepth 20000
def ldrM (T : List Tk) (p : Int) : Tk × Bool := match T.find? (fun y => decide (y.i = p)) with
  | some y => (y, decide (y.p = p))
  | none => (ztk, false)
theorem ldr_drop {T : List Tk} {p : Int} {i : Nat} (h : i < T.length) : (T.drop i).find? (fun y => decide (y.i = p)) = if (gT T i).i = p then some (gT T i) else (T.drop (i + 1)).find? (fun y => decide (y.i = p)) := by
  rw [drop_getD T i ztk h, List.find?_cons]
  show (match decide ((gT T i).i = p) with | true => some (gT T i) | false => _) = _
  by_cases c : (gT T i).i = p
  · rw [decide_eq_true c, if_pos c]
  · rw [decide_eq_false c, if_neg c]
set_option maxHeartbeats 4000000 in
theorem leader_spec (T : List Tk) (kt : Option Nat) (p : Int) (hT : T.length ≤ 9223372036854775806) : FnSpec Try.prog 31 [gr T kt, i1 p] [] (.tup [.agg (tkc (ldrM T p).1), b1 (ldrM T p).2]) [] := by
  have hcl := tk_len T
  obtain ⟨Q, hQ⟩ : ∃ Q, T.find? (fun y => decide (y.i = p)) = Q := ⟨_, rfl⟩
  unfold ldrM
  rw [hQ]
  refine fnspec_of mixed TT_ok TT_cl ⟨fun _ => false, fun _ => [], 0, fun _ => false, fun _ => false⟩ Try.func31 rfl (by kernel_rfl) rfl 32 rfl [.cell 4 30, .tmp 5] rfl ?_
  simp only [go_sem, zaa, zae, zaf, zag, zai, zad, ↓reduceIte, reduceCtorEq, zab, zac, zaj, zak, zal]
  repeat' (first
 | (intros; (try simp only [zaE, zaI, zaF, zaB, zav, zaw, decide_eq_true_eq, decide_eq_false_iff_not] at *); omega))
  refine w_loop (ι := Nat) (fun m => ⟨[(0, gr T kt), (1, i1 p), (4, .one (.optr 0 0)), (6, i1 m)], [(0, some ⟨[int 0, int 0, int 0, int 0], 4⟩)], 1⟩) (fun m => m ≤ T.length ∧ (T.drop m).find? (fun y => decide (y.i = p)) = Q) (fun m => T.length - m) 0 ?_ ⟨zaW _, hQ⟩ ?_
  · (refine imp_ren _ _ _ [(0, 0, ⟨[int 0, int 0, int 0, int 0], 4⟩)] (by simp) (by simp) (by simp) (zaC rfl) ?_ rfl (by simp only [zan, zas, false_implies, implies_true, and_true, zaU, lookR, zaa, if_true, if_false, ↓reduceIte] <;> (repeat' apply zaq) <;> (first | rfl | trivial)) (by simp only [zan, zas, false_implies, implies_true, and_true, true_and, flat_cons, flat_nil, flat_ints, flat_bools, flat_app, zaV, and_self, eq_self_iff_true, zao]); simp only [zah, zam, zan, zas, false_implies, implies_true, and_true, lk, slot, zaP, zaJ, toN, zaa, if_true, if_false, ↓reduceIte, reduceCtorEq])
    all_goals ((repeat' apply zaq) <;> (first | rfl | trivial))
  clear hQ
  rintro m ⟨hm, hI⟩
  simp only at hm hI ⊢
  rcases zbc m T.length with hlt | hge
  case inr =>
    have c : ¬ (m : Int) < (T.length : Int) := by omega
    rw [zbe hge] at hI
    have hI : none = Q := hI
    subst hI
    simp only [go_sem, zaa, zae, zaf, zag, zai, zad, ↓reduceIte, reduceCtorEq, zab, zac, zaj, zak, zal, decide_eq_false c]
    repeat' (first
 | with_reducible refine zaq ?_ ?_
 | (intros; omega)
 | (apply fs_nil <;> (try simp only [go_sem, resV, resS, zaP, zaO, zaJ, zaZ, zaU, idx, renO, zaN, evS, slot, lookR, zaa, ↓reduceIte, reduceCtorEq, if_true, if_false, zaQ, zaR, zah, zam, sLoad, readAt, readNeed, Ints_ren, Ints_length, Ints_getD, and_true, true_and, zaL, zaM]) <;> (try rfl))
 | fail)
  have c : (m : Int) < (T.length : Int) := by omega
  have hat := tk_td T m hlt
  have q0 := tk_f T m 0 (.sc (.int .i64 0)) hlt (by decide)
  rw [Nat.add_zero] at q0
  have q0 : (Cs T).getD (m * 4) (.sc (.int .i64 0)) = int (gT T m).i := q0
  have q1 := tk_f T m 1 (.sc (.int .i64 0)) hlt (by decide)
  have q1 : (Cs T).getD (m * 4 + 1) (.sc (.int .i64 0)) = int (gT T m).p := q1
  rw [ldr_drop hlt] at hI
  generalize gT T m = x at *
  obtain ⟨xi, xp, xg, xu⟩ := x
  simp only [tkc] at hat hI q0 q1
  by_cases c1 : xi = p
  · rw [if_pos c1] at hI
    subst hI
    simp only [go_sem, zaa, zae, zaf, zag, zai, zad, ↓reduceIte, reduceCtorEq, zab, zac, zaj, zak, zal, decide_eq_true c, decide_eq_true c1, q0, q1, hat]
    repeat' (first
 | with_reducible refine zaq ?_ ?_
 | (unfold OKC; kernel_rfl)
 | (unfold EDG; kernel_rfl)
 | (intros; omega)
 | (apply fs_nil <;> (try simp only [go_sem, resV, resS, zaP, zaO, zaJ, zaZ, zaU, idx, renO, zaN, evS, slot, lookR, zaa, ↓reduceIte, reduceCtorEq, if_true, if_false, zaQ, zaR, zah, zam, sLoad, readAt, readNeed, Ints_ren, Ints_length, Ints_getD, and_true, true_and, zaL, zaM]) <;> (try rfl))
 | fail)
  · rw [if_neg c1] at hI
    simp only [go_sem, zaa, zae, zaf, zag, zai, zad, ↓reduceIte, reduceCtorEq, zab, zac, zaj, zak, zal, decide_eq_true c, decide_eq_false c1, q0]
    repeat' (first
 | with_reducible refine zaq ?_ ?_
 | (intros; omega)
 | (intros; (try simp only [zaE, zaI, zaF, zaB, zav, zaw, decide_eq_true_eq, decide_eq_false_iff_not] at *); omega))
    refine le_mk (m + 1) ?_ ⟨hlt, hI⟩ (by omega)
    (refine imp_ren _ _ _ [(0, 0, ⟨[int 0, int 0, int 0, int 0], 4⟩)] (by simp) (by simp) (by simp) (zaC rfl) ?_ rfl (by simp only [zan, zas, false_implies, implies_true, and_true, zaU, lookR, zaa, if_true, if_false, ↓reduceIte] <;> (repeat' apply zaq) <;> (first | rfl | trivial)) (by simp only [zan, zas, false_implies, implies_true, and_true, true_and, flat_cons, flat_nil, flat_ints, flat_bools, flat_app, zaV, and_self, eq_self_iff_true, zao]); simp only [zah, zam, zan, zas, false_implies, implies_true, and_true, lk, slot, zaP, zaJ, toN, zaa, if_true, if_false, ↓reduceIte, reduceCtorEq])
    all_goals ((repeat' apply zaq) <;> (first | rfl | trivial | (simp only [zaK]; done) | (simp only [zaK]; rfl) | (simp only [zaK]; trivial)))
theorem has_bs6 {l : List Nd} {n : Int} (h : chkT l n = true) (id : Int) : hasM l n id = bsF Nd.i l id := by
  have hV := (chkT_iff l n).1 h
  rw [bs_any Nd.i l (fun i j hij hj => hV.asc i j hij hj) id]
  unfold hasM
  rw [h, zaS]
def okR (l : List Nd) (T : List Tk) (x : Tk) : Bool := bsF Nd.i l x.g && (decide (0 ≤ x.u) && (decide (x.u ≤ 1048576) && ((ldrM T x.p).2 && decide ((ldrM T x.p).1.u = x.u))))
def rcF (l : List Nd) (T : List Tk) : List Tk → Int → Bool
  | [], _ => true
  | x :: r, last => decide (last < x.i) && (okR l T x && rcF l T r x.i)
def hyR (l : List Nd) (n : Int) (T : List Tk) (h : Int) : Bool := chkT l n && (decide (T.length ≤ 128) && (decide (1 ≤ h) && (decide (h ≤ 2147483648) && ((decide (T.length = 0) || decide ((gT T (T.length - 1)).i < h)) && rcF l T T 0))))
set_option maxHeartbeats 16000000 in
theorem rcheck6_spec (l : List Nd) (n : Int) (T : List Tk) (h : Int) (hl : l.length ≤ 1000000) (hT : T.length ≤ 9223372036854775806) (hnm : NmR l) : FnSpec Try.prog 15 [hyV l none n T none h] [] (b1 (hyR l n T h)) [] := by
  have h1 := trcheck_spec l none n hl hnm
  have hcl := tk_len T
  unfold hyR
  cases hc : chkT l n with
  | false =>
    rw [hc] at h1
    rw [zaT]
    refine fnspec_of mixed TT_ok TT_cl ⟨fun _ => false, fun _ => [], 0, fun _ => false, fun _ => false⟩ Try.func15 rfl (by kernel_rfl) rfl 111 rfl [.tmp 2] rfl ?_
    simp only [go_sem, zaa, zae, zaf, zag, zai, zad, ↓reduceIte, reduceCtorEq, zab, zac, zaj, zak, zal]
    repeat' (first
 | with_reducible refine zaq ?_ ?_
 | (unfold OKC; kernel_rfl)
 | (unfold EDG; kernel_rfl)
 | (apply cl_plain
    case hs => rfl
    case ha => (simp only [zah, zam, prepV, prepC, idx, hpL', lookR, zaa, if_true, if_false]; rfl)
    case h => (first | exact h1 ..))
 | ((first | refine s1_id ?_ | refine swp_id ?_ | refine sops_id ?_ | refine s2_id ?_); simp only [zay, zaz, zao, zaA, zaD, zat, zau, zar, zaG, zaH, zax, zap, go_sem, zaa, zae, zaf, zag, zai, zad, ↓reduceIte, reduceCtorEq, zab, zac, zaj, zak, zal, zaP, zaO, zaJ, zaN, renO, bk, back, outUpsFrom, Ints_ren])
 | exact fs_nil trivial rfl
 | fail)
  | true =>
  rw [hc] at h1
  rw [zaS]
  by_cases c128 : 128 < (T.length : Int)
  · rw [decide_eq_false (by omega : ¬ T.length ≤ 128), zaT]
    refine fnspec_of mixed TT_ok TT_cl ⟨fun _ => false, fun _ => [], 0, fun _ => false, fun _ => false⟩ Try.func15 rfl (by kernel_rfl) rfl 111 rfl [.tmp 2] rfl ?_
    simp only [go_sem, zaa, zae, zaf, zag, zai, zad, ↓reduceIte, reduceCtorEq, zab, zac, zaj, zak, zal, decide_eq_true c128]
    repeat' (first
 | with_reducible refine zaq ?_ ?_
 | (unfold OKC; kernel_rfl)
 | (unfold EDG; kernel_rfl)
 | (apply cl_plain
    case hs => rfl
    case ha => (simp only [zah, zam, prepV, prepC, idx, hpL', lookR, zaa, if_true, if_false]; rfl)
    case h => (first | exact h1 ..))
 | ((first | refine s1_id ?_ | refine swp_id ?_ | refine sops_id ?_ | refine s2_id ?_); simp only [decide_eq_true c128, zay, zaz, zao, zaA, zaD, zat, zau, zar, zaG, zaH, zax, zap, go_sem, zaa, zae, zaf, zag, zai, zad, ↓reduceIte, reduceCtorEq, zab, zac, zaj, zak, zal, zaP, zaO, zaJ, zaN, renO, bk, back, outUpsFrom, Ints_ren])
 | exact fs_nil trivial rfl
 | fail)
  rw [decide_eq_true (by omega : T.length ≤ 128), zaS]
  by_cases ch : h < 1
  · rw [decide_eq_false (by omega : ¬ 1 ≤ h), zaT]
    refine fnspec_of mixed TT_ok TT_cl ⟨fun _ => false, fun _ => [], 0, fun _ => false, fun _ => false⟩ Try.func15 rfl (by kernel_rfl) rfl 111 rfl [.tmp 2] rfl ?_
    simp only [go_sem, zaa, zae, zaf, zag, zai, zad, ↓reduceIte, reduceCtorEq, zab, zac, zaj, zak, zal, decide_eq_false c128, decide_eq_true ch]
    repeat' (first
 | with_reducible refine zaq ?_ ?_
 | (unfold OKC; kernel_rfl)
 | (unfold EDG; kernel_rfl)
 | (apply cl_plain
    case hs => rfl
    case ha => (simp only [zah, zam, prepV, prepC, idx, hpL', lookR, zaa, if_true, if_false]; rfl)
    case h => (first | exact h1 ..))
 | ((first | refine s1_id ?_ | refine swp_id ?_ | refine sops_id ?_ | refine s2_id ?_); simp only [decide_eq_false c128, decide_eq_true ch, zay, zaz, zao, zaA, zaD, zat, zau, zar, zaG, zaH, zax, zap, go_sem, zaa, zae, zaf, zag, zai, zad, ↓reduceIte, reduceCtorEq, zab, zac, zaj, zak, zal, zaP, zaO, zaJ, zaN, renO, bk, back, outUpsFrom, Ints_ren])
 | exact fs_nil trivial rfl
 | fail)
  rw [decide_eq_true (by omega : 1 ≤ h), zaS]
  by_cases cm : 2147483648 < h
  · rw [decide_eq_false (by omega : ¬ h ≤ 2147483648), zaT]
    refine fnspec_of mixed TT_ok TT_cl ⟨fun _ => false, fun _ => [], 0, fun _ => false, fun _ => false⟩ Try.func15 rfl (by kernel_rfl) rfl 111 rfl [.tmp 2] rfl ?_
    simp only [go_sem, zaa, zae, zaf, zag, zai, zad, ↓reduceIte, reduceCtorEq, zab, zac, zaj, zak, zal, decide_eq_false c128, decide_eq_false ch, decide_eq_true cm]
    repeat' (first
 | with_reducible refine zaq ?_ ?_
 | (unfold OKC; kernel_rfl)
 | (unfold EDG; kernel_rfl)
 | (apply cl_plain
    case hs => rfl
    case ha => (simp only [zah, zam, prepV, prepC, idx, hpL', lookR, zaa, if_true, if_false]; rfl)
    case h => (first | exact h1 ..))
 | ((first | refine s1_id ?_ | refine swp_id ?_ | refine sops_id ?_ | refine s2_id ?_); simp only [decide_eq_false c128, decide_eq_false ch, decide_eq_true cm, zay, zaz, zao, zaA, zaD, zat, zau, zar, zaG, zaH, zax, zap, go_sem, zaa, zae, zaf, zag, zai, zad, ↓reduceIte, reduceCtorEq, zab, zac, zaj, zak, zal, zaP, zaO, zaJ, zaN, renO, bk, back, outUpsFrom, Ints_ren])
 | exact fs_nil trivial rfl
 | fail)
  rw [decide_eq_true (by omega : h ≤ 2147483648), zaS]
  by_cases cz : 0 < (T.length : Int)
  case neg =>
    have e : T = [] := List.length_eq_zero_iff.1 (by omega)
    subst e
    have cz : ¬ (0 : Int) < (([] : List Tk).length : Int) := cz
    refine fnspec_of mixed TT_ok TT_cl ⟨fun _ => false, fun _ => [], 0, fun _ => false, fun _ => false⟩ Try.func15 rfl (by kernel_rfl) rfl 111 rfl [.tmp 2] rfl ?_
    simp only [go_sem, zaa, zae, zaf, zag, zai, zad, ↓reduceIte, reduceCtorEq, zab, zac, zaj, zak, zal, decide_eq_false c128, decide_eq_false ch, decide_eq_false cm, decide_eq_false cz]
    repeat' (first
 | with_reducible refine zaq ?_ ?_
 | (unfold OKC; kernel_rfl)
 | (unfold EDG; kernel_rfl)
 | (apply cl_plain
    case hs => rfl
    case ha => (simp only [zah, zam, prepV, prepC, idx, hpL', lookR, zaa, if_true, if_false]; rfl)
    case h => (first | exact h1 ..))
 | ((first | refine s1_id ?_ | refine swp_id ?_ | refine sops_id ?_ | refine s2_id ?_); simp only [decide_eq_false c128, decide_eq_false ch, decide_eq_false cm, decide_eq_false cz, zay, zaz, zao, zaA, zaD, zat, zau, zar, zaG, zaH, zax, zap, go_sem, zaa, zae, zaf, zag, zai, zad, ↓reduceIte, reduceCtorEq, zab, zac, zaj, zak, zal, zaP, zaO, zaJ, zaN, renO, bk, back, outUpsFrom, Ints_ren])
 | (intros; (try simp only [zaE, zaI, zaF, zaB, zav, zaw, decide_eq_true_eq, decide_eq_false_iff_not] at *); omega))
    refine w_loop (ι := Nat) (fun s => ⟨[(1, .one (.optr 0 0)), (3, i1 (([] : List Tk).length : Int)), (4, i1 s)], [(0, some ⟨hyc l none n [] none h, 4⟩)], 1⟩) (fun s => s = 0) (fun s => 0 - s) 0 ?_ rfl ?_
    · (refine imp_ren _ _ _ [(0, 0, ⟨hyc l none n [] none h, 4⟩)] (by simp) (by simp) (by simp) (zaC rfl) ?_ rfl (by simp only [zan, zas, false_implies, implies_true, and_true, zaU, lookR, zaa, if_true, if_false, ↓reduceIte] <;> (repeat' apply zaq) <;> (first | rfl | trivial)) (by simp only [zan, zas, false_implies, implies_true, and_true, true_and, flat_cons, flat_nil, flat_ints, flat_bools, flat_app, zaV, and_self, eq_self_iff_true, zao]); simp only [zah, zam, zan, zas, false_implies, implies_true, and_true, lk, slot, zaP, zaJ, toN, zaa, if_true, if_false, ↓reduceIte, reduceCtorEq])
      all_goals ((repeat' apply zaq) <;> (first | rfl | trivial))
    intro i hi
    have c : ¬ (i : Int) < (([] : List Tk).length : Int) := by show ¬ (i : Int) < 0; omega
    simp only [go_sem, zaa, zae, zaf, zag, zai, zad, ↓reduceIte, reduceCtorEq, zab, zac, zaj, zak, zal, decide_eq_false c]
    repeat' (first
 | with_reducible refine zaq ?_ ?_
 | (refine gt_if (fun h => ?_) (fun h => ?_) <;> (try simp only [h]))
 | ((first | refine s1_id ?_ | refine swp_id ?_ | refine sops_id ?_ | refine s2_id ?_); simp only [decide_eq_false c, zay, zaz, zao, zaA, zaD, zat, zau, zar, zaG, zaH, zax, zap, go_sem, zaa, zae, zaf, zag, zai, zad, ↓reduceIte, reduceCtorEq, zab, zac, zaj, zak, zal, zaP, zaO, zaJ, zaN, renO, bk, back, outUpsFrom, Ints_ren])
 | (intros; omega)
 | (intros; (try simp only [zaE, zaI, zaF, zaB, zav, zaw, decide_eq_true_eq, decide_eq_false_iff_not] at *); omega)
 | exact fs_nil trivial rfl
 | fail)
  obtain ⟨z, hz⟩ : ∃ z : Nat, T.length = z + 1 := ⟨T.length - 1, by omega⟩
  have hz1 : ((T.length : Nat) : Int) - 1 = (z : Int) := by omega
  have qz := tk_f T z 0 (.sc (.int .i64 0)) (by omega) (by decide)
  rw [Nat.add_zero] at qz
  have qz : (Cs T).getD (z * 4) (.sc (.int .i64 0)) = int (gT T z).i := qz
  rw [show T.length - 1 = z from by omega, decide_eq_false (by omega : ¬ T.length = 0), Bool.false_or]
  by_cases cn : h ≤ (gT T z).i
  · rw [decide_eq_false (by omega : ¬ (gT T z).i < h), zaT]
    refine fnspec_of mixed TT_ok TT_cl ⟨fun _ => false, fun _ => [], 0, fun _ => false, fun _ => false⟩ Try.func15 rfl (by kernel_rfl) rfl 111 rfl [.tmp 2] rfl ?_
    simp only [go_sem, zaa, zae, zaf, zag, zai, zad, ↓reduceIte, reduceCtorEq, zab, zac, zaj, zak, zal, decide_eq_false c128, decide_eq_false ch, decide_eq_false cm, decide_eq_true cz, hz1, qz, decide_eq_true cn]
    repeat' (first
 | with_reducible refine zaq ?_ ?_
 | (unfold OKC; kernel_rfl)
 | (unfold EDG; kernel_rfl)
 | (apply cl_plain
    case hs => rfl
    case ha => (simp only [zah, zam, prepV, prepC, idx, hpL', lookR, zaa, if_true, if_false]; rfl)
    case h => (first | exact h1 ..))
 | ((first | refine s1_id ?_ | refine swp_id ?_ | refine sops_id ?_ | refine s2_id ?_); simp only [decide_eq_false c128, decide_eq_false ch, decide_eq_false cm, decide_eq_true cz, hz1, qz, decide_eq_true cn, zay, zaz, zao, zaA, zaD, zat, zau, zar, zaG, zaH, zax, zap, go_sem, zaa, zae, zaf, zag, zai, zad, ↓reduceIte, reduceCtorEq, zab, zac, zaj, zak, zal, zaP, zaO, zaJ, zaN, renO, bk, back, outUpsFrom, Ints_ren])
 | (intros; omega)
 | exact fs_nil trivial rfl
 | fail)
  rw [decide_eq_true (by omega : (gT T z).i < h), zaS]
  have hls := fun p => leader_spec T none p hT
  obtain ⟨B, hB⟩ : ∃ B, rcF l T T 0 = B := ⟨_, rfl⟩
  rw [hB]
  refine fnspec_of mixed TT_ok TT_cl ⟨fun _ => false, fun _ => [], 0, fun _ => false, fun _ => false⟩ Try.func15 rfl (by kernel_rfl) rfl 111 rfl [.tmp 2] rfl ?_
  simp only [go_sem, zaa, zae, zaf, zag, zai, zad, ↓reduceIte, reduceCtorEq, zab, zac, zaj, zak, zal, decide_eq_false c128, decide_eq_false ch, decide_eq_false cm, decide_eq_true cz, hz1, qz, decide_eq_false cn]
  repeat' (first
 | with_reducible refine zaq ?_ ?_
 | (unfold OKC; kernel_rfl)
 | (unfold EDG; kernel_rfl)
 | (apply cl_plain
    case hs => rfl
    case ha => (simp only [zah, zam, prepV, prepC, idx, hpL', lookR, zaa, if_true, if_false]; rfl)
    case h => (first | exact h1 ..))
 | ((first | refine s1_id ?_ | refine swp_id ?_ | refine sops_id ?_ | refine s2_id ?_); simp only [decide_eq_false c128, decide_eq_false ch, decide_eq_false cm, decide_eq_true cz, hz1, qz, decide_eq_false cn, zay, zaz, zao, zaA, zaD, zat, zau, zar, zaG, zaH, zax, zap, go_sem, zaa, zae, zaf, zag, zai, zad, ↓reduceIte, reduceCtorEq, zab, zac, zaj, zak, zal, zaP, zaO, zaJ, zaN, renO, bk, back, outUpsFrom, Ints_ren])
 | (intros; omega)
 | (intros; (try simp only [zaE, zaI, zaF, zaB, zav, zaw, decide_eq_true_eq, decide_eq_false_iff_not] at *); omega))
  refine w_loop (ι := Nat × Int) (fun s => ⟨[(1, .one (.optr 0 0)), (3, i1 T.length), (4, i1 s.1)], [(0, some ⟨hyc l none n T none h, 4⟩)], 1⟩) (fun s => s.1 ≤ T.length ∧ (s.1 = 0 → s.2 = 0) ∧ (s.1 ≠ 0 → s.2 = (gT T (s.1 - 1)).i ∧ 1 ≤ s.2) ∧ rcF l T (T.drop s.1) s.2 = B) (fun s => T.length - s.1) (0, 0) ?_ ⟨zaW _, fun _ => rfl, fun h => absurd rfl h, hB⟩ ?_
  · (refine imp_ren _ _ _ [(0, 0, ⟨hyc l none n T none h, 4⟩)] (by simp) (by simp) (by simp) (zaC rfl) ?_ rfl (by simp only [zan, zas, false_implies, implies_true, and_true, zaU, lookR, zaa, if_true, if_false, ↓reduceIte] <;> (repeat' apply zaq) <;> (first | rfl | trivial)) (by simp only [zan, zas, false_implies, implies_true, and_true, true_and, flat_cons, flat_nil, flat_ints, flat_bools, flat_app, zaV, and_self, eq_self_iff_true, zao]); simp only [zah, zam, zan, zas, false_implies, implies_true, and_true, lk, slot, zaP, zaJ, toN, zaa, if_true, if_false, ↓reduceIte, reduceCtorEq])
    all_goals ((repeat' apply zaq) <;> (first | rfl | trivial))
  clear h1 hB qz cn hz1 hz
  rintro ⟨m, last⟩ ⟨hm, hz, hnz, hI⟩
  simp only at hm hz hnz hI ⊢
  rcases zbc m T.length with hlt | hge
  case inr =>
    have c : ¬ (m : Int) < (T.length : Int) := by omega
    rw [zbe hge, rcF] at hI
    rw [← hI]
    simp only [go_sem, zaa, zae, zaf, zag, zai, zad, ↓reduceIte, reduceCtorEq, zab, zac, zaj, zak, zal, decide_eq_false c]
    repeat' (first
 | exact fs_nil trivial rfl
 | fail)
  have c : (m : Int) < (T.length : Int) := by omega
  have hat := tk_td T m hlt
  rw [drop_getD T m ztk hlt, rcF] at hI
  have k1 := rhas_spec l none n (gT T m).g hl hnm
  rw [has_bs6 hc] at k1
  have k2 := hls (gT T m).p
  unfold okR at hI
  have hI : (decide (last < (gT T m).i) && ((bsF Nd.i l (gT T m).g && (decide (0 ≤ (gT T m).u) && (decide ((gT T m).u ≤ 1048576) && ((ldrM T (gT T m).p).2 && decide ((ldrM T (gT T m).p).1.u = (gT T m).u))))) && rcF l T (T.drop (m + 1)) (gT T m).i)) = B := hI
  have hgx : gT T (m + 1 - 1) = gT T m := rfl
  generalize ldrM T (gT T m).p = ldq at *
  generalize bsF Nd.i l (gT T m).g = kb at *
  generalize gT T m = x at *
  obtain ⟨xi, xp, xg, xu⟩ := x
  obtain ⟨⟨yi, yp, yg, yu⟩, ok⟩ := ldq
  simp only [tkc] at hat k1 k2 hI
  by_cases cp : xi < 1
  · have hl0 : ¬ last < xi := by
      by_cases h0 : m = 0
      · have := hz h0; omega
      · have := (hnz h0).2; omega
    rw [decide_eq_false hl0, zaT] at hI
    rw [← hI]
    simp only [go_sem, zaa, zae, zaf, zag, zai, zad, ↓reduceIte, reduceCtorEq, zab, zac, zaj, zak, zal, decide_eq_true c, hat, decide_eq_true cp]
    repeat' (first
 | with_reducible refine zaq ?_ ?_
 | (unfold OKC; kernel_rfl)
 | (unfold EDG; kernel_rfl)
 | (apply cl_plain
    case hs => rfl
    case ha => (simp only [zah, zam, prepV, prepC, idx, hpL', lookR, zaa, if_true, if_false]; rfl)
    case h => (first | exact k1 .. | exact k2 ..))
 | ((first | refine s1_id ?_ | refine swp_id ?_ | refine sops_id ?_ | refine s2_id ?_); simp only [decide_eq_true c, hat, decide_eq_true cp, zay, zaz, zao, zaA, zaD, zat, zau, zar, zaG, zaH, zax, zap, go_sem, zaa, zae, zaf, zag, zai, zad, ↓reduceIte, reduceCtorEq, zab, zac, zaj, zak, zal, zaP, zaO, zaJ, zaN, renO, bk, back, outUpsFrom, Ints_ren])
 | (intros; omega)
 | exact fs_nil trivial rfl
 | fail)
  rcases Nat.eq_zero_or_pos m with h0 | hpos
  · have hl0 := hz h0
    subst hl0
    have c0 : ¬ (0 : Int) < (m : Int) := by omega
    rw [decide_eq_true (by omega : 0 < xi), zaS] at hI
    cases kb with
    | false =>
      simp only [zaT] at hI
      rw [← hI]
      simp only [go_sem, zaa, zae, zaf, zag, zai, zad, ↓reduceIte, reduceCtorEq, zab, zac, zaj, zak, zal, decide_eq_true c, decide_eq_false c0, hat, decide_eq_false cp]
      repeat' (first
 | with_reducible refine zaq ?_ ?_
 | (unfold OKC; kernel_rfl)
 | (unfold EDG; kernel_rfl)
 | (apply cg_tp
    case hl => rfl
    case ha => (simp only [zah, zam, prepV, prepC, idx, hpL', lookR, zaa, if_true, if_false]; rfl)
    case hs => rfl
    case h => (first | exact k1 .. | exact k2 ..))
 | (apply cl_plain
    case hs => rfl
    case ha => (simp only [zah, zam, prepV, prepC, idx, hpL', lookR, zaa, if_true, if_false]; rfl)
    case h => (first | exact k1 .. | exact k2 ..))
 | ((first | refine s1_id ?_ | refine swp_id ?_ | refine sops_id ?_ | refine s2_id ?_); simp only [decide_eq_true c, decide_eq_false c0, hat, decide_eq_false cp, ge_iff_le, zay, zaz, zao, zaA, zaD, zat, zau, zar, zaG, zaH, zax, zap, go_sem, zaa, zae, zaf, zag, zai, zad, ↓reduceIte, reduceCtorEq, zab, zac, zaj, zak, zal, zaP, zaO, zaJ, zaN, renO, bk, back, outUpsFrom, Ints_ren])
 | (intros; omega)
 | exact fs_nil trivial rfl
 | fail)
    | true =>
    rw [zaS] at hI
    by_cases cu : xu < 0
    · rw [decide_eq_false (by omega : ¬ 0 ≤ xu)] at hI
      simp only [zaT] at hI
      rw [← hI]
      simp only [go_sem, zaa, zae, zaf, zag, zai, zad, ↓reduceIte, reduceCtorEq, zab, zac, zaj, zak, zal, decide_eq_true c, decide_eq_false c0, hat, decide_eq_false cp, decide_eq_true cu]
      repeat' (first
 | with_reducible refine zaq ?_ ?_
 | (unfold OKC; kernel_rfl)
 | (unfold EDG; kernel_rfl)
 | (apply cg_tp
    case hl => rfl
    case ha => (simp only [zah, zam, prepV, prepC, idx, hpL', lookR, zaa, if_true, if_false]; rfl)
    case hs => rfl
    case h => (first | exact k1 .. | exact k2 ..))
 | (apply cl_plain
    case hs => rfl
    case ha => (simp only [zah, zam, prepV, prepC, idx, hpL', lookR, zaa, if_true, if_false]; rfl)
    case h => (first | exact k1 .. | exact k2 ..))
 | ((first | refine s1_id ?_ | refine swp_id ?_ | refine sops_id ?_ | refine s2_id ?_); simp only [decide_eq_true c, decide_eq_false c0, hat, decide_eq_false cp, decide_eq_true cu, ge_iff_le, zay, zaz, zao, zaA, zaD, zat, zau, zar, zaG, zaH, zax, zap, go_sem, zaa, zae, zaf, zag, zai, zad, ↓reduceIte, reduceCtorEq, zab, zac, zaj, zak, zal, zaP, zaO, zaJ, zaN, renO, bk, back, outUpsFrom, Ints_ren])
 | (intros; omega)
 | exact fs_nil trivial rfl
 | fail)
    rw [decide_eq_true (by omega : 0 ≤ xu), zaS] at hI
    by_cases cv : 1048576 < xu
    · rw [decide_eq_false (by omega : ¬ xu ≤ 1048576)] at hI
      simp only [zaT] at hI
      rw [← hI]
      simp only [go_sem, zaa, zae, zaf, zag, zai, zad, ↓reduceIte, reduceCtorEq, zab, zac, zaj, zak, zal, decide_eq_true c, decide_eq_false c0, hat, decide_eq_false cp, decide_eq_false cu, decide_eq_true cv]
      repeat' (first
 | with_reducible refine zaq ?_ ?_
 | (unfold OKC; kernel_rfl)
 | (unfold EDG; kernel_rfl)
 | (apply cg_tp
    case hl => rfl
    case ha => (simp only [zah, zam, prepV, prepC, idx, hpL', lookR, zaa, if_true, if_false]; rfl)
    case hs => rfl
    case h => (first | exact k1 .. | exact k2 ..))
 | (apply cl_plain
    case hs => rfl
    case ha => (simp only [zah, zam, prepV, prepC, idx, hpL', lookR, zaa, if_true, if_false]; rfl)
    case h => (first | exact k1 .. | exact k2 ..))
 | ((first | refine s1_id ?_ | refine swp_id ?_ | refine sops_id ?_ | refine s2_id ?_); simp only [decide_eq_true c, decide_eq_false c0, hat, decide_eq_false cp, decide_eq_false cu, decide_eq_true cv, ge_iff_le, zay, zaz, zao, zaA, zaD, zat, zau, zar, zaG, zaH, zax, zap, go_sem, zaa, zae, zaf, zag, zai, zad, ↓reduceIte, reduceCtorEq, zab, zac, zaj, zak, zal, zaP, zaO, zaJ, zaN, renO, bk, back, outUpsFrom, Ints_ren])
 | (intros; omega)
 | exact fs_nil trivial rfl
 | fail)
    rw [decide_eq_true (by omega : xu ≤ 1048576), zaS] at hI
    cases ok with
    | false =>
      simp only [zaT] at hI
      rw [← hI]
      simp only [go_sem, zaa, zae, zaf, zag, zai, zad, ↓reduceIte, reduceCtorEq, zab, zac, zaj, zak, zal, decide_eq_true c, decide_eq_false c0, hat, decide_eq_false cp, decide_eq_false cu, decide_eq_false cv]
      repeat' (first
 | with_reducible refine zaq ?_ ?_
 | (unfold OKC; kernel_rfl)
 | (unfold EDG; kernel_rfl)
 | (apply cg_tp
    case hl => rfl
    case ha => (simp only [zah, zam, prepV, prepC, idx, hpL', lookR, zaa, if_true, if_false]; rfl)
    case hs => rfl
    case h => (first | exact k1 .. | exact k2 ..))
 | (apply cl_plain
    case hs => rfl
    case ha => (simp only [zah, zam, prepV, prepC, idx, hpL', lookR, zaa, if_true, if_false]; rfl)
    case h => (first | exact k1 .. | exact k2 ..))
 | ((first | refine s1_id ?_ | refine swp_id ?_ | refine sops_id ?_ | refine s2_id ?_); simp only [decide_eq_true c, decide_eq_false c0, hat, decide_eq_false cp, decide_eq_false cu, decide_eq_false cv, ge_iff_le, zay, zaz, zao, zaA, zaD, zat, zau, zar, zaG, zaH, zax, zap, go_sem, zaa, zae, zaf, zag, zai, zad, ↓reduceIte, reduceCtorEq, zab, zac, zaj, zak, zal, zaP, zaO, zaJ, zaN, renO, bk, back, outUpsFrom, Ints_ren])
 | (intros; omega)
 | exact fs_nil trivial rfl
 | fail)
    | true =>
    rw [zaS] at hI
    by_cases cw : yu = xu
    case neg =>
      rw [decide_eq_false cw, zaT] at hI
      rw [← hI]
      simp only [go_sem, zaa, zae, zaf, zag, zai, zad, ↓reduceIte, reduceCtorEq, zab, zac, zaj, zak, zal, decide_eq_true c, decide_eq_false c0, hat, decide_eq_false cp, decide_eq_false cu, decide_eq_false cv, decide_eq_false cw]
      repeat' (first
 | with_reducible refine zaq ?_ ?_
 | (unfold OKC; kernel_rfl)
 | (unfold EDG; kernel_rfl)
 | (apply cg_tp
    case hl => rfl
    case ha => (simp only [zah, zam, prepV, prepC, idx, hpL', lookR, zaa, if_true, if_false]; rfl)
    case hs => rfl
    case h => (first | exact k1 .. | exact k2 ..))
 | (apply cl_plain
    case hs => rfl
    case ha => (simp only [zah, zam, prepV, prepC, idx, hpL', lookR, zaa, if_true, if_false]; rfl)
    case h => (first | exact k1 .. | exact k2 ..))
 | ((first | refine s1_id ?_ | refine swp_id ?_ | refine sops_id ?_ | refine s2_id ?_); simp only [decide_eq_true c, decide_eq_false c0, hat, decide_eq_false cp, decide_eq_false cu, decide_eq_false cv, decide_eq_false cw, ge_iff_le, zay, zaz, zao, zaA, zaD, zat, zau, zar, zaG, zaH, zax, zap, go_sem, zaa, zae, zaf, zag, zai, zad, ↓reduceIte, reduceCtorEq, zab, zac, zaj, zak, zal, zaP, zaO, zaJ, zaN, renO, bk, back, outUpsFrom, Ints_ren])
 | (intros; omega)
 | exact fs_nil trivial rfl
 | fail)
    rw [decide_eq_true cw, zaS] at hI
    simp only [go_sem, zaa, zae, zaf, zag, zai, zad, ↓reduceIte, reduceCtorEq, zab, zac, zaj, zak, zal, decide_eq_true c, decide_eq_false c0, hat, decide_eq_false cp, decide_eq_false cu, decide_eq_false cv, decide_eq_true cw]
    repeat' (first
 | with_reducible refine zaq ?_ ?_
 | (unfold OKC; kernel_rfl)
 | (unfold EDG; kernel_rfl)
 | (apply cg_tp
    case hl => rfl
    case ha => (simp only [zah, zam, prepV, prepC, idx, hpL', lookR, zaa, if_true, if_false]; rfl)
    case hs => rfl
    case h => (first | exact k1 .. | exact k2 ..))
 | (apply cl_plain
    case hs => rfl
    case ha => (simp only [zah, zam, prepV, prepC, idx, hpL', lookR, zaa, if_true, if_false]; rfl)
    case h => (first | exact k1 .. | exact k2 ..))
 | ((first | refine s1_id ?_ | refine swp_id ?_ | refine sops_id ?_ | refine s2_id ?_); simp only [decide_eq_true c, decide_eq_false c0, hat, decide_eq_false cp, decide_eq_false cu, decide_eq_false cv, decide_eq_true cw, ge_iff_le, zay, zaz, zao, zaA, zaD, zat, zau, zar, zaG, zaH, zax, zap, go_sem, zaa, zae, zaf, zag, zai, zad, ↓reduceIte, reduceCtorEq, zab, zac, zaj, zak, zal, zaP, zaO, zaJ, zaN, renO, bk, back, outUpsFrom, Ints_ren])
 | (intros; omega)
 | (intros; (try simp only [zaE, zaI, zaF, zaB, zav, zaw, decide_eq_true_eq, decide_eq_false_iff_not] at *); omega))
    refine le_mk (m + 1, xi) ?_ ⟨hlt, fun h => absurd h (Nat.succ_ne_zero _), fun _ => ⟨by simp only [hgx], by show 1 ≤ xi; omega⟩, hI⟩ (by show T.length - (m + 1) < T.length - (m); omega)
    (refine imp_ren _ _ _ [(0, 0, ⟨hyc l none n T none h, 4⟩)] (by simp) (by simp) (by simp) (zaC rfl) ?_ rfl (by simp only [zan, zas, false_implies, implies_true, and_true, zaU, lookR, zaa, if_true, if_false, ↓reduceIte] <;> (repeat' apply zaq) <;> (first | rfl | trivial)) (by simp only [zan, zas, false_implies, implies_true, and_true, true_and, flat_cons, flat_nil, flat_ints, flat_bools, flat_app, zaV, and_self, eq_self_iff_true, zao]); simp only [zah, zam, zan, zas, false_implies, implies_true, and_true, lk, slot, zaP, zaJ, toN, zaa, if_true, if_false, ↓reduceIte, reduceCtorEq])
    all_goals ((repeat' apply zaq) <;> (first | rfl | trivial | (simp only [zaK]; done) | (simp only [zaK]; rfl) | (simp only [zaK]; trivial)))
  obtain ⟨m, rfl⟩ : ∃ m', m = m' + 1 := ⟨m - 1, by omega⟩
  obtain ⟨e1, e2⟩ := hnz (Nat.succ_ne_zero m)
  have e1 : last = (gT T m).i := e1
  have q9 := tk_f T m 0 (.sc (.int .i64 0)) (by omega) (by decide)
  rw [Nat.add_zero] at q9
  have q9 : (Cs T).getD (m * 4) (.sc (.int .i64 0)) = int (gT T m).i := q9
  rw [← e1] at q9
  have hm1 : ((m + 1 : Nat) : Int) - 1 = (m : Int) := by omega
  have c0 : (0 : Int) < ((m + 1 : Nat) : Int) := by omega
  by_cases cl : xi ≤ last
  · rw [decide_eq_false (by omega : ¬ last < xi), zaT] at hI
    rw [← hI]
    simp only [go_sem, zaa, zae, zaf, zag, zai, zad, ↓reduceIte, reduceCtorEq, zab, zac, zaj, zak, zal, decide_eq_true c, decide_eq_true c0, hat, q9, hm1, decide_eq_false cp, decide_eq_true cl]
    repeat' (first
 | with_reducible refine zaq ?_ ?_
 | (unfold OKC; kernel_rfl)
 | (unfold EDG; kernel_rfl)
 | (apply cl_plain
    case hs => rfl
    case ha => (simp only [zah, zam, prepV, prepC, idx, hpL', lookR, zaa, if_true, if_false]; rfl)
    case h => (first | exact k1 .. | exact k2 ..))
 | ((first | refine s1_id ?_ | refine swp_id ?_ | refine sops_id ?_ | refine s2_id ?_); simp only [decide_eq_true c, decide_eq_true c0, hat, q9, hm1, decide_eq_false cp, decide_eq_true cl, ge_iff_le, zay, zaz, zao, zaA, zaD, zat, zau, zar, zaG, zaH, zax, zap, go_sem, zaa, zae, zaf, zag, zai, zad, ↓reduceIte, reduceCtorEq, zab, zac, zaj, zak, zal, zaP, zaO, zaJ, zaN, renO, bk, back, outUpsFrom, Ints_ren])
 | (intros; omega)
 | exact fs_nil trivial rfl
 | fail)
  rw [decide_eq_true (by omega : last < xi), zaS] at hI
  cases kb with
  | false =>
    simp only [zaT] at hI
    rw [← hI]
    simp only [go_sem, zaa, zae, zaf, zag, zai, zad, ↓reduceIte, reduceCtorEq, zab, zac, zaj, zak, zal, decide_eq_true c, decide_eq_true c0, q9, hat, hm1, decide_eq_false cp, decide_eq_false cl]
    repeat' (first
 | with_reducible refine zaq ?_ ?_
 | (unfold OKC; kernel_rfl)
 | (unfold EDG; kernel_rfl)
 | (apply cg_tp
    case hl => rfl
    case ha => (simp only [zah, zam, prepV, prepC, idx, hpL', lookR, zaa, if_true, if_false]; rfl)
    case hs => rfl
    case h => (first | exact k1 .. | exact k2 ..))
 | (apply cl_plain
    case hs => rfl
    case ha => (simp only [zah, zam, prepV, prepC, idx, hpL', lookR, zaa, if_true, if_false]; rfl)
    case h => (first | exact k1 .. | exact k2 ..))
 | ((first | refine s1_id ?_ | refine swp_id ?_ | refine sops_id ?_ | refine s2_id ?_); simp only [decide_eq_true c, decide_eq_true c0, q9, hat, hm1, decide_eq_false cp, decide_eq_false cl, ge_iff_le, zay, zaz, zao, zaA, zaD, zat, zau, zar, zaG, zaH, zax, zap, go_sem, zaa, zae, zaf, zag, zai, zad, ↓reduceIte, reduceCtorEq, zab, zac, zaj, zak, zal, zaP, zaO, zaJ, zaN, renO, bk, back, outUpsFrom, Ints_ren])
 | (intros; omega)
 | exact fs_nil trivial rfl
 | fail)
  | true =>
  rw [zaS] at hI
  by_cases cu : xu < 0
  · rw [decide_eq_false (by omega : ¬ 0 ≤ xu)] at hI
    simp only [zaT] at hI
    rw [← hI]
    simp only [go_sem, zaa, zae, zaf, zag, zai, zad, ↓reduceIte, reduceCtorEq, zab, zac, zaj, zak, zal, decide_eq_true c, decide_eq_true c0, q9, hat, hm1, decide_eq_false cp, decide_eq_false cl, decide_eq_true cu]
    repeat' (first
 | with_reducible refine zaq ?_ ?_
 | (unfold OKC; kernel_rfl)
 | (unfold EDG; kernel_rfl)
 | (apply cg_tp
    case hl => rfl
    case ha => (simp only [zah, zam, prepV, prepC, idx, hpL', lookR, zaa, if_true, if_false]; rfl)
    case hs => rfl
    case h => (first | exact k1 .. | exact k2 ..))
 | (apply cl_plain
    case hs => rfl
    case ha => (simp only [zah, zam, prepV, prepC, idx, hpL', lookR, zaa, if_true, if_false]; rfl)
    case h => (first | exact k1 .. | exact k2 ..))
 | ((first | refine s1_id ?_ | refine swp_id ?_ | refine sops_id ?_ | refine s2_id ?_); simp only [decide_eq_true c, decide_eq_true c0, q9, hat, hm1, decide_eq_false cp, decide_eq_false cl, decide_eq_true cu, ge_iff_le, zay, zaz, zao, zaA, zaD, zat, zau, zar, zaG, zaH, zax, zap, go_sem, zaa, zae, zaf, zag, zai, zad, ↓reduceIte, reduceCtorEq, zab, zac, zaj, zak, zal, zaP, zaO, zaJ, zaN, renO, bk, back, outUpsFrom, Ints_ren])
 | (intros; omega)
 | exact fs_nil trivial rfl
 | fail)
  rw [decide_eq_true (by omega : 0 ≤ xu), zaS] at hI
  by_cases cv : 1048576 < xu
  · rw [decide_eq_false (by omega : ¬ xu ≤ 1048576)] at hI
    simp only [zaT] at hI
    rw [← hI]
    simp only [go_sem, zaa, zae, zaf, zag, zai, zad, ↓reduceIte, reduceCtorEq, zab, zac, zaj, zak, zal, decide_eq_true c, decide_eq_true c0, q9, hat, hm1, decide_eq_false cp, decide_eq_false cl, decide_eq_false cu, decide_eq_true cv]
    repeat' (first
 | with_reducible refine zaq ?_ ?_
 | (unfold OKC; kernel_rfl)
 | (unfold EDG; kernel_rfl)
 | (apply cg_tp
    case hl => rfl
    case ha => (simp only [zah, zam, prepV, prepC, idx, hpL', lookR, zaa, if_true, if_false]; rfl)
    case hs => rfl
    case h => (first | exact k1 .. | exact k2 ..))
 | (apply cl_plain
    case hs => rfl
    case ha => (simp only [zah, zam, prepV, prepC, idx, hpL', lookR, zaa, if_true, if_false]; rfl)
    case h => (first | exact k1 .. | exact k2 ..))
 | ((first | refine s1_id ?_ | refine swp_id ?_ | refine sops_id ?_ | refine s2_id ?_); simp only [decide_eq_true c, decide_eq_true c0, q9, hat, hm1, decide_eq_false cp, decide_eq_false cl, decide_eq_false cu, decide_eq_true cv, ge_iff_le, zay, zaz, zao, zaA, zaD, zat, zau, zar, zaG, zaH, zax, zap, go_sem, zaa, zae, zaf, zag, zai, zad, ↓reduceIte, reduceCtorEq, zab, zac, zaj, zak, zal, zaP, zaO, zaJ, zaN, renO, bk, back, outUpsFrom, Ints_ren])
 | (intros; omega)
 | exact fs_nil trivial rfl
 | fail)
  rw [decide_eq_true (by omega : xu ≤ 1048576), zaS] at hI
  cases ok with
  | false =>
    simp only [zaT] at hI
    rw [← hI]
    simp only [go_sem, zaa, zae, zaf, zag, zai, zad, ↓reduceIte, reduceCtorEq, zab, zac, zaj, zak, zal, decide_eq_true c, decide_eq_true c0, q9, hat, hm1, decide_eq_false cp, decide_eq_false cl, decide_eq_false cu, decide_eq_false cv]
    repeat' (first
 | with_reducible refine zaq ?_ ?_
 | (unfold OKC; kernel_rfl)
 | (unfold EDG; kernel_rfl)
 | (apply cg_tp
    case hl => rfl
    case ha => (simp only [zah, zam, prepV, prepC, idx, hpL', lookR, zaa, if_true, if_false]; rfl)
    case hs => rfl
    case h => (first | exact k1 .. | exact k2 ..))
 | (apply cl_plain
    case hs => rfl
    case ha => (simp only [zah, zam, prepV, prepC, idx, hpL', lookR, zaa, if_true, if_false]; rfl)
    case h => (first | exact k1 .. | exact k2 ..))
 | ((first | refine s1_id ?_ | refine swp_id ?_ | refine sops_id ?_ | refine s2_id ?_); simp only [decide_eq_true c, decide_eq_true c0, q9, hat, hm1, decide_eq_false cp, decide_eq_false cl, decide_eq_false cu, decide_eq_false cv, ge_iff_le, zay, zaz, zao, zaA, zaD, zat, zau, zar, zaG, zaH, zax, zap, go_sem, zaa, zae, zaf, zag, zai, zad, ↓reduceIte, reduceCtorEq, zab, zac, zaj, zak, zal, zaP, zaO, zaJ, zaN, renO, bk, back, outUpsFrom, Ints_ren])
 | (intros; omega)
 | exact fs_nil trivial rfl
 | fail)
  | true =>
  rw [zaS] at hI
  by_cases cw : yu = xu
  case neg =>
    rw [decide_eq_false cw, zaT] at hI
    rw [← hI]
    simp only [go_sem, zaa, zae, zaf, zag, zai, zad, ↓reduceIte, reduceCtorEq, zab, zac, zaj, zak, zal, decide_eq_true c, decide_eq_true c0, q9, hat, hm1, decide_eq_false cp, decide_eq_false cl, decide_eq_false cu, decide_eq_false cv, decide_eq_false cw]
    repeat' (first
 | with_reducible refine zaq ?_ ?_
 | (unfold OKC; kernel_rfl)
 | (unfold EDG; kernel_rfl)
 | (apply cg_tp
    case hl => rfl
    case ha => (simp only [zah, zam, prepV, prepC, idx, hpL', lookR, zaa, if_true, if_false]; rfl)
    case hs => rfl
    case h => (first | exact k1 .. | exact k2 ..))
 | (apply cl_plain
    case hs => rfl
    case ha => (simp only [zah, zam, prepV, prepC, idx, hpL', lookR, zaa, if_true, if_false]; rfl)
    case h => (first | exact k1 .. | exact k2 ..))
 | ((first | refine s1_id ?_ | refine swp_id ?_ | refine sops_id ?_ | refine s2_id ?_); simp only [decide_eq_true c, decide_eq_true c0, q9, hat, hm1, decide_eq_false cp, decide_eq_false cl, decide_eq_false cu, decide_eq_false cv, decide_eq_false cw, ge_iff_le, zay, zaz, zao, zaA, zaD, zat, zau, zar, zaG, zaH, zax, zap, go_sem, zaa, zae, zaf, zag, zai, zad, ↓reduceIte, reduceCtorEq, zab, zac, zaj, zak, zal, zaP, zaO, zaJ, zaN, renO, bk, back, outUpsFrom, Ints_ren])
 | (intros; omega)
 | exact fs_nil trivial rfl
 | fail)
  rw [decide_eq_true cw, zaS] at hI
  simp only [go_sem, zaa, zae, zaf, zag, zai, zad, ↓reduceIte, reduceCtorEq, zab, zac, zaj, zak, zal, decide_eq_true c, decide_eq_true c0, q9, hat, hm1, decide_eq_false cp, decide_eq_false cl, decide_eq_false cu, decide_eq_false cv, decide_eq_true cw]
  repeat' (first
 | with_reducible refine zaq ?_ ?_
 | (unfold OKC; kernel_rfl)
 | (unfold EDG; kernel_rfl)
 | (apply cg_tp
    case hl => rfl
    case ha => (simp only [zah, zam, prepV, prepC, idx, hpL', lookR, zaa, if_true, if_false]; rfl)
    case hs => rfl
    case h => (first | exact k1 .. | exact k2 ..))
 | (apply cl_plain
    case hs => rfl
    case ha => (simp only [zah, zam, prepV, prepC, idx, hpL', lookR, zaa, if_true, if_false]; rfl)
    case h => (first | exact k1 .. | exact k2 ..))
 | ((first | refine s1_id ?_ | refine swp_id ?_ | refine sops_id ?_ | refine s2_id ?_); simp only [decide_eq_true c, decide_eq_true c0, q9, hat, hm1, decide_eq_false cp, decide_eq_false cl, decide_eq_false cu, decide_eq_false cv, decide_eq_true cw, ge_iff_le, zay, zaz, zao, zaA, zaD, zat, zau, zar, zaG, zaH, zax, zap, go_sem, zaa, zae, zaf, zag, zai, zad, ↓reduceIte, reduceCtorEq, zab, zac, zaj, zak, zal, zaP, zaO, zaJ, zaN, renO, bk, back, outUpsFrom, Ints_ren])
 | (intros; omega)
 | (intros; (try simp only [zaE, zaI, zaF, zaB, zav, zaw, decide_eq_true_eq, decide_eq_false_iff_not] at *); omega))
  refine le_mk (m + 1 + 1, xi) ?_ ⟨hlt, fun h => absurd h (Nat.succ_ne_zero _), fun _ => ⟨by simp only [hgx], by show 1 ≤ xi; omega⟩, hI⟩ (by show T.length - (m + 1 + 1) < T.length - (m + 1); omega)
  (refine imp_ren _ _ _ [(0, 0, ⟨hyc l none n T none h, 4⟩)] (by simp) (by simp) (by simp) (zaC rfl) ?_ rfl (by simp only [zan, zas, false_implies, implies_true, and_true, zaU, lookR, zaa, if_true, if_false, ↓reduceIte] <;> (repeat' apply zaq) <;> (first | rfl | trivial)) (by simp only [zan, zas, false_implies, implies_true, and_true, true_and, flat_cons, flat_nil, flat_ints, flat_bools, flat_app, zaV, and_self, eq_self_iff_true, zao]); simp only [zah, zam, zan, zas, false_implies, implies_true, and_true, lk, slot, zaP, zaJ, toN, zaa, if_true, if_false, ↓reduceIte, reduceCtorEq])
  all_goals ((repeat' apply zaq) <;> (first | rfl | trivial | (simp only [zaK]; done) | (simp only [zaK]; rfl) | (simp only [zaK]; trivial)))
end Go.Proofs.Ytnahpejlhfeleac
-- NEWGO
-- PRUNE: cl_lendx cl_use
-- ISG: Cs_isG
-- FLAT: Cs_flat
namespace Go.Proofs.Ytnahpejlhfeleac
set_option linter.unusedVariables false
set_option linter.unusedSimpArgs false
open Go.Proofs.Ytnahpejlhfeleac.Sh
set_option maxRecDepth 20000
theorem tas_gt : ∀ (r : List Tk) (last : Int), tasF r last = true → (∀ x ∈ r, last < x.i) ∧ r.Pairwise (fun x y => x.i < y.i)
  | [], _, _ => ⟨(fun _ h => by cases h), List.Pairwise.nil⟩
  | x :: r, last, h => by
    rw [tasF, zaE, decide_eq_true_eq] at h
    obtain ⟨h1, h2⟩ := tas_gt r x.i h.2
    refine ⟨fun y hy => ?_, List.pairwise_cons.2 ⟨h1, h2⟩⟩
    rcases List.mem_cons.1 hy with rfl | hy
    · exact h.1
    · have := h1 y hy; omega
theorem rc_no (l : List Nd) (T : List Tk) : ∀ (r : List Tk) (last : Int), tasF r last = false → rcF l T r last = false
  | [], _, h => by cases h
  | x :: r, last, h => by
    rw [tasF] at h
    rw [rcF]
    cases hd : decide (last < x.i) with
    | false => rfl
    | true =>
      rw [hd, zaS] at h
      rw [rc_no l T r x.i h, Bool.and_false]; rfl
theorem rc_yes (l : List Nd) (T : List Tk) (hok : ∀ x, okR l T x = !stB l T x) : ∀ (r : List Tk) (last : Int), tasF r last = true → rcF l T r last = !r.any (stB l T)
  | [], _, _ => rfl
  | x :: r, last, h => by
    rw [tasF, zaE] at h
    rw [rcF, h.1, zaS, rc_yes l T hok r x.i h.2, hok, List.any_cons]
    cases stB l T x <;> rfl
theorem lst_at : ∀ (T : List Tk) (last : Int), T ≠ [] → T.foldl (fun _ x => x.i) last = (gT T (T.length - 1)).i
  | [], _, h => absurd rfl h
  | [x], _, _ => rfl
  | x :: y :: r, last, _ => by
    rw [List.foldl_cons, lst_at (y :: r) x.i (by simp)]
    rfl
theorem pw_ix {T : List Tk} (h : T.Pairwise (fun x y => x.i < y.i)) : ∀ i j, i < j → j < T.length → Tk.i (T.getD i Rec.z) < Tk.i (T.getD j Rec.z) := fun i j hij hj => by
  have := List.pairwise_iff_getElem.1 h i j (by omega) hj hij
  rw [show T.getD i Rec.z = T[i] from getD_at T i Rec.z (by omega), show T.getD j Rec.z = T[j] from getD_at T j Rec.z hj]
  exact this
theorem ld_eq {T : List Tk} (h : T.Pairwise (fun x y => x.i < y.i)) (x : Tk) : ((ldrM T x.p).2 && decide ((ldrM T x.p).1.u = x.u)) = ldB T x := by
  unfold ldrM ldB
  cases hf : T.find? (fun y => decide (y.i = x.p)) with
  | none =>
    have hn := List.find?_eq_none.1 hf
    rw [bs_not Tk.i T x.p (fun y hy e => hn y hy (decide_eq_true e))]
    rfl
  | some y =>
    have hy := List.mem_of_find?_eq_some hf
    have hp : y.i = x.p := by
      have := List.find?_some hf
      simpa using this
    obtain ⟨s, hs, es⟩ := List.getElem_of_mem hy
    have e1 : T.getD s Rec.z = y := by rw [← es]; exact getD_at T s Rec.z hs
    obtain ⟨b1', b2'⟩ := bs_found Tk.i T (pw_ix h) s hs
    rw [e1, hp] at b1' b2'
    rw [b1', b2', zaS]
    show (decide (y.p = x.p) && decide (y.u = x.u)) = (decide ((gT T s).p = x.p) && decide ((gT T s).u = x.u))
    rw [show gT T s = y from e1]
theorem ok_st {T : List Tk} (h : T.Pairwise (fun x y => x.i < y.i)) (l : List Nd) (x : Tk) : okR l T x = !stB l T x := by
  unfold okR stB plB
  rw [ld_eq h x]
  cases bsF Nd.i l x.g <;> cases decide (0 ≤ x.u) <;> cases decide (x.u ≤ 1048576) <;> cases ldB T x <;> rfl
theorem hy_eq (l : List Nd) (n : Int) (T : List Tk) (h : Int) : hyR l n T h = hyM l n T h := by
  unfold hyR hyM
  cases chkT l n with
  | false => rfl
  | true =>
  rw [zaS, zaS]
  cases decide (T.length ≤ 128) with
  | false => rfl
  | true =>
  rw [zaS, zaS]
  cases ht : tasF T 0 with
  | false =>
    rw [rc_no l T T 0 ht, zaT]
    simp only [Bool.and_false]
  | true =>
  obtain ⟨h1, h2⟩ := tas_gt T 0 ht
  rw [rc_yes l T (ok_st h2 l) T 0 ht, zaS]
  generalize hq : T.any (stB l T) = q
  by_cases h0 : T = []
  · subst h0
    rw [show lstI [] = 0 from rfl, show decide ((0 : Int) < h) = decide (1 ≤ h) from decide_eq_decide.2 (by omega)]
    rw [decide_eq_true (show ([] : List Tk).length = 0 from rfl), Bool.true_or, zaS]
  · have hL : lstI T = (gT T (T.length - 1)).i := lst_at T 0 h0
    have hlen : T.length ≠ 0 := fun e => h0 (List.length_eq_zero_iff.1 e)
    have hpos : 0 < (gT T (T.length - 1)).i := h1 _ (getD_mem T (T.length - 1) ztk (by omega))
    rw [hL, decide_eq_false hlen, Bool.false_or]
    generalize (gT T (T.length - 1)).i = v at *
    by_cases c : v < h
    · rw [decide_eq_true c, decide_eq_true (show 1 ≤ h by omega)]
      simp only [zaS]
    · rw [decide_eq_false c]
      simp only [zaT, Bool.and_false]
theorem rcheck6 (l : List Nd) (n : Int) (T : List Tk) (h : Int) (hl : l.length ≤ 1000000) (hT : T.length ≤ 9223372036854775806) (hnm : NmR l) : FnSpec Try.prog 15 [hyV l none n T none h] [] (b1 (hyM l n T h)) [] := by
  have := rcheck6_spec l n T h hl hT hnm
  rw [hy_eq] at this
  exact this
theorem tk_cl (xs : List (Tk)) (c : Option Nat) (hl : xs.length ≤ 1000000) : FnSpec Try.prog 48 [gr xs c] [] (.one (.osl 0 0 xs.length none)) [some ⟨Cs xs, 4⟩] := by
  have hts : List.take (xs.length * 4) (Cs xs) = Cs xs := Cs_all xs _ (zbf _)
  have hil : (Cs xs).length = xs.length * 4 := Cs_len xs
  by_cases h0 : 0 < xs.length
  · refine fnspec_of mixed TT_ok TT_cl ⟨fun _ => false, fun _ => [], 0, fun _ => false, fun _ => false⟩ Try.func48 rfl (by kernel_rfl) rfl 8 rfl [.tmp 2] rfl ?_
    simp only [go_sem, zaa, zae, zaf, zag, zai, zad, ↓reduceIte, reduceCtorEq, zab, zac, zaj, zak, zal, hts, hil]
    repeat' (first
 | with_reducible refine zaq ?_ ?_
 | (intros; omega)
 | (intros; (try simp only [zaE, zaI, zaF, zaB, zav, zaw, decide_eq_true_eq, decide_eq_false_iff_not] at *); omega))
    (refine fs_flat [(5, ⟨Cs xs, 4⟩)] (by simp) (by simp only [zah, zam]; decide) (by simp only [go_sem, resV, resS, zaP, zaO, zaJ, zaZ, zaU, idx, renO, zaN, evS, slot, lookR, zaa, ↓reduceIte, reduceCtorEq, if_true, if_false, zaQ, zaR, zah, zam, sLoad, readAt, readNeed, Ints_ren, Ints_length, Ints_getD, and_true, true_and, zaL, zaM]; try decide) ?_ (by simp only [zan, zas, false_implies, implies_true, and_true, zaU, lookR, zaa, if_true, if_false, ↓reduceIte, Cs_flat] <;> (repeat' apply zaq) <;> (first | rfl | trivial)) (by simp only [zan, zas, false_implies, implies_true, and_true, true_and, flat_cons, flat_nil, flat_ints, flat_bools, flat_app, zaV, and_self, eq_self_iff_true, zao, Cs_flat]) ?_ <;> (try simp only [go_sem, resV, resS, zaP, zaO, zaJ, zaZ, zaU, idx, renO, zaN, evS, slot, lookR, zaa, ↓reduceIte, reduceCtorEq, if_true, if_false, zaQ, zaR, zah, zam, sLoad, readAt, readNeed, Ints_ren, Ints_length, Ints_getD, and_true, true_and, zaL, zaM]) <;> (try rfl))
  · have hn : xs = [] := List.length_eq_zero_iff.1 (by omega)
    subst hn
    refine FnSpec.niln (FnSpec.nilrow 4 ?_) (fun ad cc => ?_)
    · refine fnspec_of mixed TT_ok TT_cl ⟨fun _ => false, fun _ => [], 0, fun _ => false, fun _ => false⟩ Try.func48 rfl (by kernel_rfl) rfl 8 rfl [.tmp 2] rfl ?_
      simp only [go_sem, zaa, zae, zaf, zag, zai, zad, ↓reduceIte, reduceCtorEq, zab, zac, zaj, zak, zal]
      repeat' (first
 | exact fs_nil trivial rfl
 | fail)
    · refine fnspec_of mixed TT_ok TT_cl ⟨fun _ => false, fun _ => [], 0, fun _ => false, fun _ => false⟩ Try.func48 rfl (by kernel_rfl) rfl 8 rfl [.tmp 2] rfl ?_
      simp only [go_sem, zaa, zae, zaf, zag, zai, zad, ↓reduceIte, reduceCtorEq, zab, zac, zaj, zak, zal]
      repeat' (first
 | (intros; (try simp only [zaE, zaI, zaF, zaB, zav, zaw, decide_eq_true_eq, decide_eq_false_iff_not] at *); omega))
      (refine fs_flat [(5, ⟨[], 4⟩)] (by simp) (by simp only [zah, zam]; decide) (by simp only [go_sem, resV, resS, zaP, zaO, zaJ, zaZ, zaU, idx, renO, zaN, evS, slot, lookR, zaa, ↓reduceIte, reduceCtorEq, if_true, if_false, zaQ, zaR, zah, zam, sLoad, readAt, readNeed, Ints_ren, Ints_length, Ints_getD, and_true, true_and, zaL, zaM]; try decide) ?_ (by simp only [zan, zas, false_implies, implies_true, and_true, zaU, lookR, zaa, if_true, if_false, ↓reduceIte, Cs_flat] <;> (repeat' apply zaq) <;> (first | rfl | trivial)) (by simp only [zan, zas, false_implies, implies_true, and_true, true_and, flat_cons, flat_nil, flat_ints, flat_bools, flat_app, zaV, and_self, eq_self_iff_true, zao, Cs_flat]) ?_ <;> (try simp only [go_sem, resV, resS, zaP, zaO, zaJ, zaZ, zaU, idx, renO, zaN, evS, slot, lookR, zaa, ↓reduceIte, reduceCtorEq, if_true, if_false, zaQ, zaR, zah, zam, sLoad, readAt, readNeed, Ints_ren, Ints_length, Ints_getD, and_true, true_and, zaL, zaM]) <;> (try rfl))
theorem ctree_spec (l : List Nd) (n : Int) (hl : l.length ≤ 1000000) : FnSpec Try.prog 47 [trV l none n] [] (.agg [.osl 0 0 l.length none, int n]) [some ⟨Cs l, 6⟩] := by
  have h1 := nd_cl l none hl
  refine fnspec_of mixed TT_ok TT_cl ⟨fun _ => false, fun _ => [], 0, fun _ => false, fun _ => false⟩ Try.func47 rfl (by kernel_rfl) rfl 8 rfl [.cell 2 24] rfl ?_
  simp only [go_sem, zaa, zae, zaf, zag, zai, zad, ↓reduceIte, reduceCtorEq, zab, zac, zaj, zak, zal]
  repeat' (first
 | (apply cl_plain
    case hs => rfl
    case ha => (simp only [zah, zam, prepV, prepC, idx, hpL', lookR, zaa, if_true, if_false]; rfl)
    case h => (first | exact h1 ..))
 | ((first | refine s1_id ?_ | refine swp_id ?_ | refine sops_id ?_ | refine s2_id ?_); simp only [zay, zaz, zao, zaA, zaD, zat, zau, zar, zaG, zaH, zax, zap, go_sem, zaa, zae, zaf, zag, zai, zad, ↓reduceIte, reduceCtorEq, zab, zac, zaj, zak, zal, zaP, zaO, zaJ, zaN, renO, bk, back, outUpsFrom, Ints_ren])
 | (intros; (try simp only [zaE, zaI, zaF, zaB, zav, zaw, decide_eq_true_eq, decide_eq_false_iff_not] at *); omega))
  (refine fs_flat [(4, ⟨Cs l, 6⟩)] (by simp) (by simp only [zah, zam]; decide) (by simp only [go_sem, resV, resS, zaP, zaO, zaJ, zaZ, zaU, idx, renO, zaN, evS, slot, lookR, zaa, ↓reduceIte, reduceCtorEq, if_true, if_false, zaQ, zaR, zah, zam, sLoad, readAt, readNeed, Ints_ren, Ints_length, Ints_getD, and_true, true_and, zaL, zaM]; try decide) ?_ (by simp only [zan, zas, false_implies, implies_true, and_true, zaU, lookR, zaa, if_true, if_false, ↓reduceIte, Cs_flat] <;> (repeat' apply zaq) <;> (first | rfl | trivial)) (by simp only [zan, zas, false_implies, implies_true, and_true, true_and, flat_cons, flat_nil, flat_ints, flat_bools, flat_app, zaV, and_self, eq_self_iff_true, zao, Cs_flat]) ?_ <;> (try simp only [go_sem, resV, resS, zaP, zaO, zaJ, zaZ, zaU, idx, renO, zaN, evS, slot, lookR, zaa, ↓reduceIte, reduceCtorEq, if_true, if_false, zaQ, zaR, zah, zam, sLoad, readAt, readNeed, Ints_ren, Ints_length, Ints_getD, and_true, true_and, zaL, zaM]) <;> (try rfl))
theorem chier_spec (l : List Nd) (n : Int) (T : List Tk) (h : Int) (hl : l.length ≤ 1000000) (hT : T.length ≤ 1000000) : FnSpec Try.prog 29 [hyV l none n T none h] [] (.agg [.osl 0 0 l.length none, int n, .osl 1 0 T.length none, int h]) [some ⟨Cs l, 6⟩, some ⟨Cs T, 4⟩] := by
  have h1 := ctree_spec l n hl
  have h2 := tk_cl T none hT
  refine fnspec_of mixed TT_ok TT_cl ⟨fun _ => false, fun _ => [], 0, fun _ => false, fun _ => false⟩ Try.func29 rfl (by kernel_rfl) rfl 12 rfl [.cell 2 27] rfl ?_
  simp only [go_sem, zaa, zae, zaf, zag, zai, zad, ↓reduceIte, reduceCtorEq, zab, zac, zaj, zak, zal]
  repeat' (first
 | (apply cl_plain
    case hs => rfl
    case ha => (simp only [zah, zam, prepV, prepC, idx, hpL', lookR, zaa, if_true, if_false]; rfl)
    case h => (first | exact h1 .. | exact h2 ..))
 | ((first | refine s1_id ?_ | refine swp_id ?_ | refine sops_id ?_ | refine s2_id ?_); simp only [zay, zaz, zao, zaA, zaD, zat, zau, zar, zaG, zaH, zax, zap, go_sem, zaa, zae, zaf, zag, zai, zad, ↓reduceIte, reduceCtorEq, zab, zac, zaj, zak, zal, zaP, zaO, zaJ, zaN, renO, bk, back, outUpsFrom, Ints_ren])
 | (intros; (try simp only [zaE, zaI, zaF, zaB, zav, zaw, decide_eq_true_eq, decide_eq_false_iff_not] at *); omega))
  (refine fs_flat [(4, ⟨Cs l, 6⟩), (9, ⟨Cs T, 4⟩)] (by simp) (by simp only [zah, zam]; decide) (by simp only [go_sem, resV, resS, zaP, zaO, zaJ, zaZ, zaU, idx, renO, zaN, evS, slot, lookR, zaa, ↓reduceIte, reduceCtorEq, if_true, if_false, zaQ, zaR, zah, zam, sLoad, readAt, readNeed, Ints_ren, Ints_length, Ints_getD, and_true, true_and, zaL, zaM]; try decide) ?_ (by simp only [zan, zas, false_implies, implies_true, and_true, zaU, lookR, zaa, if_true, if_false, ↓reduceIte, Cs_flat] <;> (repeat' apply zaq) <;> (first | rfl | trivial)) (by simp only [zan, zas, false_implies, implies_true, and_true, true_and, flat_cons, flat_nil, flat_ints, flat_bools, flat_app, zaV, and_self, eq_self_iff_true, zao, Cs_flat]) ?_ <;> (try simp only [go_sem, resV, resS, zaP, zaO, zaJ, zaZ, zaU, idx, renO, zaN, evS, slot, lookR, zaa, ↓reduceIte, reduceCtorEq, if_true, if_false, zaQ, zaR, zah, zam, sLoad, readAt, readNeed, Ints_ren, Ints_length, Ints_getD, and_true, true_and, zaL, zaM]) <;> (try rfl))
end Go.Proofs.Ytnahpejlhfeleac
-- NEWGO
-- PRUNE: cl_lendx cl_use
-- ISG: Cs_isG
-- FLAT: Cs_flat
namespace Go.Proofs.Ytnahpejlhfeleac
set_option linter.unusedVariables false
set_option linter.unusedSimpArgs false
open Go.Proofs.Ytnahpejlhfeleac.Sh
set_option maxRecDepth 20000
abbrev Hy := List Nd × Int × List Tk × Int
abbrev hyQ (q : Hy) : SV := hyV q.1 none q.2.1 q.2.2.1 none q.2.2.2
abbrev z6 : Hy := ([], 0, [], 0)
def adR (l : List Nd) (n : Int) (T : List Tk) (h : Int) (k : Tk) : Hy × Int × Int := if T.length = 128 then (z6, 0, 7) else if 2147483647 < h then (z6, 0, 7) else ((l, n, T ++ [k], h + 1), k.i, 0)
set_option maxHeartbeats 8000000 in
theorem madd_spec (l : List Nd) (n : Int) (T : List Tk) (h : Int) (k : Tk) (hl : l.length ≤ 1000000) (hT : T.length ≤ 128) (hh : 1 ≤ h) : FnSpec Try.prog 14 [hyV l none n T none h, .agg (tkc k)] [] (.tup [hyQ (adR l n T h k).1, i1 (adR l n T h k).2.1, i1 (adR l n T h k).2.2]) [] := by
  have hcl := tk_len T
  have h1 := chier_spec l n T h hl (by omega)
  unfold adR
  by_cases a1 : T.length = 128
  · have a1' : (T.length : Int) = 128 := by omega
    rw [if_pos a1]
    obtain ⟨ki, kp, kg, ku⟩ := k
    simp only [tkc, Cs_nil, zap]
    refine fnspec_of mixed TT_ok TT_cl ⟨fun _ => false, fun _ => [], 0, fun _ => false, fun _ => false⟩ Try.func14 rfl (by kernel_rfl) rfl 33 rfl [.cell 4 27, .tmp 5, .tmp 6] rfl ?_
    simp only [go_sem, zaa, zae, zaf, zag, zai, zad, ↓reduceIte, reduceCtorEq, zab, zac, zaj, zak, zal, decide_eq_true a1']
    repeat' (first
 | (intros; (try simp only [zaE, zaI, zaF, zaB, zav, zaw, decide_eq_true_eq, decide_eq_false_iff_not] at *); omega))
    repeat' (first
 | (refine fs_w ?h1 (svw_of ?h2); (case h1 => repeat' (first | exact trivial | exact rfl | exact zaC rfl | apply zaq)); (case h2 => repeat' (first | ((with_reducible refine (?_ : CW _ _)); first | exact cw_gnil | exact cw_rfl _ | exact cw_niln _ _ | exact cw_cap _ _ _ _) | exact trivial | (show _ ∧ SWL _ _; apply zaq) | (show _ ∧ CWL _ _; apply zaq) | show CW _ _)))
 | fail)
  have a1' : ¬ (T.length : Int) = 128 := by omega
  rw [if_neg a1]
  by_cases a2 : 2147483647 < h
  · rw [if_pos a2]
    obtain ⟨ki, kp, kg, ku⟩ := k
    simp only [tkc, Cs_nil, zap]
    refine fnspec_of mixed TT_ok TT_cl ⟨fun _ => false, fun _ => [], 0, fun _ => false, fun _ => false⟩ Try.func14 rfl (by kernel_rfl) rfl 33 rfl [.cell 4 27, .tmp 5, .tmp 6] rfl ?_
    simp only [go_sem, zaa, zae, zaf, zag, zai, zad, ↓reduceIte, reduceCtorEq, zab, zac, zaj, zak, zal, decide_eq_false a1', decide_eq_true a2]
    repeat' (first
 | (intros; (try simp only [zaE, zaI, zaF, zaB, zav, zaw, decide_eq_true_eq, decide_eq_false_iff_not] at *); omega))
    repeat' (first
 | (refine fs_w ?h1 (svw_of ?h2); (case h1 => repeat' (first | exact trivial | exact rfl | exact zaC rfl | apply zaq)); (case h2 => repeat' (first | ((with_reducible refine (?_ : CW _ _)); first | exact cw_gnil | exact cw_rfl _ | exact cw_niln _ _ | exact cw_cap _ _ _ _) | exact trivial | (show _ ∧ SWL _ _; apply zaq) | (show _ ∧ CWL _ _; apply zaq) | show CW _ _)))
 | fail)
  rw [if_neg a2]
  have htk : List.take (T.length * 4) (Cs T) = Cs T := zaX (by rw [hcl]; exact zbf _)
  have hpp : Cs T ++ [int k.i, int k.p, int k.g, int k.u] = Cs (T ++ [k]) := Cs_snoc T k
  have hla : (T ++ [k]).length = T.length + 1 := by simp
  generalize T ++ [k] = T2 at *
  obtain ⟨ki, kp, kg, ku⟩ := k
  simp only [tkc] at hpp ⊢
  show FnSpec Try.prog _ _ _ (.tup [.agg [.gsl (Cs l) 0 l.length none, int n, .gsl (Cs T2) 0 T2.length none, int (h + 1)], i1 ki, i1 0]) _
  rw [hla]
  refine fnspec_of mixed TT_ok TT_cl ⟨fun _ => false, fun _ => [], 0, fun _ => false, fun _ => false⟩ Try.func14 rfl (by kernel_rfl) rfl 33 rfl [.cell 4 27, .tmp 5, .tmp 6] rfl ?_
  simp only [go_sem, zaa, zae, zaf, zag, zai, zad, ↓reduceIte, reduceCtorEq, zab, zac, zaj, zak, zal, decide_eq_false a1', decide_eq_false a2, htk, hpp]
  repeat' (first
 | with_reducible refine zaq ?_ ?_
 | (unfold OKC; kernel_rfl)
 | (unfold EDG; kernel_rfl)
 | (apply cl_plain
    case hs => rfl
    case ha => (simp only [zah, zam, prepV, prepC, idx, hpL', lookR, zaa, if_true, if_false]; rfl)
    case h => (first | exact h1 ..))
 | ((first | refine s1_id ?_ | refine swp_id ?_ | refine sops_id ?_ | refine s2_id ?_); simp only [decide_eq_false a1', decide_eq_false a2, htk, hpp, zay, zaz, zao, zaA, zaD, zat, zau, zar, zaG, zaH, zax, zap, go_sem, zaa, zae, zaf, zag, zai, zad, ↓reduceIte, reduceCtorEq, zab, zac, zaj, zak, zal, zaP, zaO, zaJ, zaN, renO, bk, back, outUpsFrom, Ints_ren])
 | (intros; omega)
 | (intros; (try simp only [zaE, zaI, zaF, zaB, zav, zaw, decide_eq_true_eq, decide_eq_false_iff_not] at *); omega))
  (refine fs_frz 15 ⟨Cs l, 6⟩ (by simp only [zaU, lookR, zaa, if_true, if_false, ↓reduceIte]) (by first | exact Ints_isG _ | exact Bools_isG _ | exact Cs_isG _ | (simp [zbh]; done)) ?_; simp only [frzTm, SV.frz, zbi, zbd, frzHp, frzO, Ints_frz, Bools_frz, zah, zam, zaa, if_true, if_false, ↓reduceIte])
  simp only [frzHp, frzO, Cs_frz, zah, zam]
  (refine fs_frz 23 ⟨Cs T2, 4⟩ (by simp only [zaU, lookR, zaa, if_true, if_false, ↓reduceIte]) (by first | exact Ints_isG _ | exact Bools_isG _ | exact Cs_isG _ | (simp [zbh]; done)) ?_; simp only [frzTm, SV.frz, zbi, zbd, frzHp, frzO, Ints_frz, Bools_frz, zah, zam, zaa, if_true, if_false, ↓reduceIte])
  repeat' (first
 | (refine fs_w ?h1 (svw_of ?h2); (case h1 => repeat' (first | exact trivial | exact rfl | exact zaC rfl | apply zaq)); (case h2 => repeat' (first | ((with_reducible refine (?_ : CW _ _)); first | exact cw_gnil | exact cw_rfl _ | exact cw_niln _ _ | exact cw_cap _ _ _ _) | exact trivial | (show _ ∧ SWL _ _; apply zaq) | (show _ ∧ CWL _ _; apply zaq) | show CW _ _)))
 | fail)
def spR (l : List Nd) (n : Int) (T : List Tk) (h g u : Int) : Hy × Int × Int := if hyM l n T h = true then (if 0 ≤ u ∧ u ≤ 1048576 then (if bsF Nd.i l g = true then adR l n T h ⟨h, h, g, u⟩ else (z6, 0, 4)) else (z6, 0, 1)) else (z6, 0, 1)
theorem hy_all {l : List Nd} {n : Int} {T : List Tk} {h : Int} (hv : hyM l n T h = true) : VT l n ∧ T.length ≤ 128 ∧ 1 ≤ h ∧ h ≤ 2147483648 ∧ T.Pairwise (fun x y => x.i < y.i) := by
  rw [← hy_eq] at hv
  have hv' := hv
  unfold hyR at hv
  simp only [zaE, decide_eq_true_eq] at hv
  rw [hy_eq] at hv'
  unfold hyM at hv'
  simp only [zaE, decide_eq_true_eq] at hv'
  exact ⟨(chkT_iff l n).1 hv.1, hv.2.1, hv.2.2.1, hv.2.2.2.1, (tas_gt T 0 hv'.2.2.1).2⟩
theorem fdM_bs {l : List Nd} {n : Int} (h : chkT l n = true) (id : Int) : (fdM l n id).2 = bsF Nd.i l id := by
  rw [fdM_2, has_bs6 h]
set_option maxHeartbeats 8000000 in
theorem mspawn_spec (l : List Nd) (n : Int) (T : List Tk) (h g u : Int) (hl : l.length ≤ 1000000) (hT : T.length ≤ 1000000) (hnm : NmR l) (hct : CtR l) : FnSpec Try.prog 5 [hyV l none n T none h, i1 g, i1 u] [] (.tup [hyQ (spR l n T h g u).1, i1 (spR l n T h g u).2.1, i1 (spR l n T h g u).2.2]) [] := by
  have h1 := mcheck_spec l n T h hl (by omega) hnm hct
  unfold spR
  cases hv : hyM l n T h with
  | false =>
    rw [hv] at h1
    rw [if_neg (by decide)]
    simp only [Cs_nil, zap]
    refine fnspec_of mixed TT_ok TT_cl ⟨fun _ => false, fun _ => [], 0, fun _ => false, fun _ => false⟩ Try.func5 rfl (by kernel_rfl) rfl 45 rfl [.cell 6 27, .tmp 7, .tmp 8] rfl ?_
    simp only [go_sem, zaa, zae, zaf, zag, zai, zad, ↓reduceIte, reduceCtorEq, zab, zac, zaj, zak, zal]
    repeat' (first
 | (apply cl_plain
    case hs => rfl
    case ha => (simp only [zah, zam, prepV, prepC, idx, hpL', lookR, zaa, if_true, if_false]; rfl)
    case h => (first | exact h1 ..))
 | ((first | refine s1_id ?_ | refine swp_id ?_ | refine sops_id ?_ | refine s2_id ?_); simp only [zay, zaz, zao, zaA, zaD, zat, zau, zar, zaG, zaH, zax, zap, go_sem, zaa, zae, zaf, zag, zai, zad, ↓reduceIte, reduceCtorEq, zab, zac, zaj, zak, zal, zaP, zaO, zaJ, zaN, renO, bk, back, outUpsFrom, Ints_ren])
 | (intros; (try simp only [zaE, zaI, zaF, zaB, zav, zaw, decide_eq_true_eq, decide_eq_false_iff_not] at *); omega))
    repeat' (first
 | (refine fs_w ?h1 (svw_of ?h2); (case h1 => repeat' (first | exact trivial | exact rfl | exact zaC rfl | apply zaq)); (case h2 => repeat' (first | ((with_reducible refine (?_ : CW _ _)); first | exact cw_gnil | exact cw_rfl _ | exact cw_niln _ _ | exact cw_cap _ _ _ _) | exact trivial | (show _ ∧ SWL _ _; apply zaq) | (show _ ∧ CWL _ _; apply zaq) | show CW _ _)))
 | fail)
  | true =>
  rw [hv] at h1
  rw [if_pos rfl]
  obtain ⟨hV, hTl, hh1, hh2, _⟩ := hy_all hv
  by_cases u1 : u < 0
  · rw [if_neg (by omega)]
    simp only [Cs_nil, zap]
    refine fnspec_of mixed TT_ok TT_cl ⟨fun _ => false, fun _ => [], 0, fun _ => false, fun _ => false⟩ Try.func5 rfl (by kernel_rfl) rfl 45 rfl [.cell 6 27, .tmp 7, .tmp 8] rfl ?_
    simp only [go_sem, zaa, zae, zaf, zag, zai, zad, ↓reduceIte, reduceCtorEq, zab, zac, zaj, zak, zal, decide_eq_true u1]
    repeat' (first
 | (apply cl_plain
    case hs => rfl
    case ha => (simp only [zah, zam, prepV, prepC, idx, hpL', lookR, zaa, if_true, if_false]; rfl)
    case h => (first | exact h1 ..))
 | ((first | refine s1_id ?_ | refine swp_id ?_ | refine sops_id ?_ | refine s2_id ?_); simp only [decide_eq_true u1, zay, zaz, zao, zaA, zaD, zat, zau, zar, zaG, zaH, zax, zap, go_sem, zaa, zae, zaf, zag, zai, zad, ↓reduceIte, reduceCtorEq, zab, zac, zaj, zak, zal, zaP, zaO, zaJ, zaN, renO, bk, back, outUpsFrom, Ints_ren])
 | (intros; (try simp only [zaE, zaI, zaF, zaB, zav, zaw, decide_eq_true_eq, decide_eq_false_iff_not] at *); omega))
    repeat' (first
 | (refine fs_w ?h1 (svw_of ?h2); (case h1 => repeat' (first | exact trivial | exact rfl | exact zaC rfl | apply zaq)); (case h2 => repeat' (first | ((with_reducible refine (?_ : CW _ _)); first | exact cw_gnil | exact cw_rfl _ | exact cw_niln _ _ | exact cw_cap _ _ _ _) | exact trivial | (show _ ∧ SWL _ _; apply zaq) | (show _ ∧ CWL _ _; apply zaq) | show CW _ _)))
 | fail)
  by_cases u2 : 1048576 < u
  · rw [if_neg (by omega)]
    simp only [Cs_nil, zap]
    refine fnspec_of mixed TT_ok TT_cl ⟨fun _ => false, fun _ => [], 0, fun _ => false, fun _ => false⟩ Try.func5 rfl (by kernel_rfl) rfl 45 rfl [.cell 6 27, .tmp 7, .tmp 8] rfl ?_
    simp only [go_sem, zaa, zae, zaf, zag, zai, zad, ↓reduceIte, reduceCtorEq, zab, zac, zaj, zak, zal, decide_eq_false u1, decide_eq_true u2]
    repeat' (first
 | (apply cl_plain
    case hs => rfl
    case ha => (simp only [zah, zam, prepV, prepC, idx, hpL', lookR, zaa, if_true, if_false]; rfl)
    case h => (first | exact h1 ..))
 | ((first | refine s1_id ?_ | refine swp_id ?_ | refine sops_id ?_ | refine s2_id ?_); simp only [decide_eq_false u1, decide_eq_true u2, zay, zaz, zao, zaA, zaD, zat, zau, zar, zaG, zaH, zax, zap, go_sem, zaa, zae, zaf, zag, zai, zad, ↓reduceIte, reduceCtorEq, zab, zac, zaj, zak, zal, zaP, zaO, zaJ, zaN, renO, bk, back, outUpsFrom, Ints_ren])
 | (intros; (try simp only [zaE, zaI, zaF, zaB, zav, zaw, decide_eq_true_eq, decide_eq_false_iff_not] at *); omega))
    repeat' (first
 | (refine fs_w ?h1 (svw_of ?h2); (case h1 => repeat' (first | exact trivial | exact rfl | exact zaC rfl | apply zaq)); (case h2 => repeat' (first | ((with_reducible refine (?_ : CW _ _)); first | exact cw_gnil | exact cw_rfl _ | exact cw_niln _ _ | exact cw_cap _ _ _ _) | exact trivial | (show _ ∧ SWL _ _; apply zaq) | (show _ ∧ CWL _ _; apply zaq) | show CW _ _)))
 | fail)
  rw [if_pos (by omega)]
  have h2 := tfind_spec l n g hl hnm hct
  rw [fdM_bs ((chkT_iff l n).2 hV)] at h2
  generalize (fdM l n g).1 = fx at *
  obtain ⟨f0, f1, f2, f3, f4, f5⟩ := fx
  simp only [ndc] at h2
  cases hb : bsF Nd.i l g with
  | false =>
    rw [hb] at h2
    rw [if_neg (by decide)]
    simp only [Cs_nil, zap]
    refine fnspec_of mixed TT_ok TT_cl ⟨fun _ => false, fun _ => [], 0, fun _ => false, fun _ => false⟩ Try.func5 rfl (by kernel_rfl) rfl 45 rfl [.cell 6 27, .tmp 7, .tmp 8] rfl ?_
    simp only [go_sem, zaa, zae, zaf, zag, zai, zad, ↓reduceIte, reduceCtorEq, zab, zac, zaj, zak, zal, decide_eq_false u1, decide_eq_false u2]
    repeat' (first
 | (apply cl_plain
    case hs => rfl
    case ha => (simp only [zah, zam, prepV, prepC, idx, hpL', lookR, zaa, if_true, if_false]; rfl)
    case h => (first | exact h1 .. | exact h2 ..))
 | ((first | refine s1_id ?_ | refine swp_id ?_ | refine sops_id ?_ | refine s2_id ?_); simp only [decide_eq_false u1, decide_eq_false u2, zay, zaz, zao, zaA, zaD, zat, zau, zar, zaG, zaH, zax, zap, go_sem, zaa, zae, zaf, zag, zai, zad, ↓reduceIte, reduceCtorEq, zab, zac, zaj, zak, zal, zaP, zaO, zaJ, zaN, renO, bk, back, outUpsFrom, Ints_ren])
 | (intros; (try simp only [zaE, zaI, zaF, zaB, zav, zaw, decide_eq_true_eq, decide_eq_false_iff_not] at *); omega))
    repeat' (first
 | (refine fs_w ?h1 (svw_of ?h2); (case h1 => repeat' (first | exact trivial | exact rfl | exact zaC rfl | apply zaq)); (case h2 => repeat' (first | ((with_reducible refine (?_ : CW _ _)); first | exact cw_gnil | exact cw_rfl _ | exact cw_niln _ _ | exact cw_cap _ _ _ _) | exact trivial | (show _ ∧ SWL _ _; apply zaq) | (show _ ∧ CWL _ _; apply zaq) | show CW _ _)))
 | fail)
  | true =>
  rw [hb] at h2
  rw [if_pos rfl]
  have h3 := madd_spec l n T h ⟨h, h, g, u⟩ hl hTl hh1
  generalize adR l n T h ⟨h, h, g, u⟩ = q at *
  obtain ⟨⟨ql, qn, qT, qh⟩, qi, qe⟩ := q
  simp only [tkc] at h3 ⊢
  refine fnspec_of mixed TT_ok TT_cl ⟨fun _ => false, fun _ => [], 0, fun _ => false, fun _ => false⟩ Try.func5 rfl (by kernel_rfl) rfl 45 rfl [.cell 6 27, .tmp 7, .tmp 8] rfl ?_
  simp only [go_sem, zaa, zae, zaf, zag, zai, zad, ↓reduceIte, reduceCtorEq, zab, zac, zaj, zak, zal, decide_eq_false u1, decide_eq_false u2]
  repeat' (first
 | with_reducible refine zaq ?_ ?_
 | (apply cl_plain
    case hs => rfl
    case ha => (simp only [zah, zam, prepV, prepC, idx, hpL', lookR, zaa, if_true, if_false]; rfl)
    case h => (first | exact h1 .. | exact h2 .. | exact h3 ..))
 | ((first | refine s1_id ?_ | refine swp_id ?_ | refine sops_id ?_ | refine s2_id ?_); simp only [decide_eq_false u1, decide_eq_false u2, zay, zaz, zao, zaA, zaD, zat, zau, zar, zaG, zaH, zax, zap, go_sem, zaa, zae, zaf, zag, zai, zad, ↓reduceIte, reduceCtorEq, zab, zac, zaj, zak, zal, zaP, zaO, zaJ, zaN, renO, bk, back, outUpsFrom, Ints_ren])
 | (intros; omega)
 | (apply fs_nil <;> (try simp only [go_sem, resV, resS, zaP, zaO, zaJ, zaZ, zaU, idx, renO, zaN, evS, slot, lookR, zaa, ↓reduceIte, reduceCtorEq, if_true, if_false, zaQ, zaR, zah, zam, sLoad, readAt, readNeed, Ints_ren, Ints_length, Ints_getD, and_true, true_and, zaL, zaM]) <;> (try rfl))
 | fail)
end Go.Proofs.Ytnahpejlhfeleac
-- NEWGO
-- PRUNE: cl_lendx cl_use
-- ISG: Cs_isG
-- FLAT: Cs_flat
namespace Go.Proofs.Ytnahpejlhfeleac
set_option linter.unusedVariables false
set_option linter.unusedSimpArgs false
open Go.Proofs.Ytnahpejlhfeleac.Sh
set_option maxRecDepth 20000
def clR (l : List Nd) (n : Int) (T : List Tk) (h t : Int) : Hy × Int × Int := if hyM l n T h = true then (if bsF Tk.i T t = true then adR l n T h ⟨h, (gT T (bsV Tk.i T t)).p, (gT T (bsV Tk.i T t)).g, (gT T (bsV Tk.i T t)).u⟩ else (z6, 0, 4)) else (z6, 0, 1)
set_option maxHeartbeats 8000000 in
theorem mclone_spec (l : List Nd) (n : Int) (T : List Tk) (h t : Int) (hl : l.length ≤ 1000000) (hT : T.length ≤ 1000000) (hnm : NmR l) (hct : CtR l) : FnSpec Try.prog 7 [hyV l none n T none h, i1 t] [] (.tup [hyQ (clR l n T h t).1, i1 (clR l n T h t).2.1, i1 (clR l n T h t).2.2]) [] := by
  have h1 := mcheck_spec l n T h hl (by omega) hnm hct
  have hcl := tk_len T
  unfold clR
  cases hv : hyM l n T h with
  | false =>
    rw [hv] at h1
    rw [if_neg (by decide)]
    simp only [Cs_nil, zap]
    refine fnspec_of mixed TT_ok TT_cl ⟨fun _ => false, fun _ => [], 0, fun _ => false, fun _ => false⟩ Try.func7 rfl (by kernel_rfl) rfl 37 rfl [.cell 4 27, .tmp 5, .tmp 6] rfl ?_
    simp only [go_sem, zaa, zae, zaf, zag, zai, zad, ↓reduceIte, reduceCtorEq, zab, zac, zaj, zak, zal]
    repeat' (first
 | (apply cl_plain
    case hs => rfl
    case ha => (simp only [zah, zam, prepV, prepC, idx, hpL', lookR, zaa, if_true, if_false]; rfl)
    case h => (first | exact h1 ..))
 | ((first | refine s1_id ?_ | refine swp_id ?_ | refine sops_id ?_ | refine s2_id ?_); simp only [zay, zaz, zao, zaA, zaD, zat, zau, zar, zaG, zaH, zax, zap, go_sem, zaa, zae, zaf, zag, zai, zad, ↓reduceIte, reduceCtorEq, zab, zac, zaj, zak, zal, zaP, zaO, zaJ, zaN, renO, bk, back, outUpsFrom, Ints_ren])
 | (intros; (try simp only [zaE, zaI, zaF, zaB, zav, zaw, decide_eq_true_eq, decide_eq_false_iff_not] at *); omega))
    repeat' (first
 | (refine fs_w ?h1 (svw_of ?h2); (case h1 => repeat' (first | exact trivial | exact rfl | exact zaC rfl | apply zaq)); (case h2 => repeat' (first | ((with_reducible refine (?_ : CW _ _)); first | exact cw_gnil | exact cw_rfl _ | exact cw_niln _ _ | exact cw_cap _ _ _ _) | exact trivial | (show _ ∧ SWL _ _; apply zaq) | (show _ ∧ CWL _ _; apply zaq) | show CW _ _)))
 | fail)
  | true =>
  rw [hv] at h1
  rw [if_pos rfl]
  obtain ⟨hV, hTl, hh1, hh2, _⟩ := hy_all hv
  have h2 := mindex_spec l none n T none h t (by omega)
  cases hb : bsF Tk.i T t with
  | false =>
    rw [hb] at h2
    rw [if_neg (by decide)]
    simp only [Cs_nil, zap]
    refine fnspec_of mixed TT_ok TT_cl ⟨fun _ => false, fun _ => [], 0, fun _ => false, fun _ => false⟩ Try.func7 rfl (by kernel_rfl) rfl 37 rfl [.cell 4 27, .tmp 5, .tmp 6] rfl ?_
    simp only [go_sem, zaa, zae, zaf, zag, zai, zad, ↓reduceIte, reduceCtorEq, zab, zac, zaj, zak, zal]
    repeat' (first
 | (apply cl_plain
    case hs => rfl
    case ha => (simp only [zah, zam, prepV, prepC, idx, hpL', lookR, zaa, if_true, if_false]; rfl)
    case h => (first | exact h1 .. | exact h2 ..))
 | ((first | refine s1_id ?_ | refine swp_id ?_ | refine sops_id ?_ | refine s2_id ?_); simp only [zay, zaz, zao, zaA, zaD, zat, zau, zar, zaG, zaH, zax, zap, go_sem, zaa, zae, zaf, zag, zai, zad, ↓reduceIte, reduceCtorEq, zab, zac, zaj, zak, zal, zaP, zaO, zaJ, zaN, renO, bk, back, outUpsFrom, Ints_ren])
 | (intros; (try simp only [zaE, zaI, zaF, zaB, zav, zaw, decide_eq_true_eq, decide_eq_false_iff_not] at *); omega))
    repeat' (first
 | (refine fs_w ?h1 (svw_of ?h2); (case h1 => repeat' (first | exact trivial | exact rfl | exact zaC rfl | apply zaq)); (case h2 => repeat' (first | ((with_reducible refine (?_ : CW _ _)); first | exact cw_gnil | exact cw_rfl _ | exact cw_niln _ _ | exact cw_cap _ _ _ _) | exact trivial | (show _ ∧ SWL _ _; apply zaq) | (show _ ∧ CWL _ _; apply zaq) | show CW _ _)))
 | fail)
  | true =>
  rw [hb] at h2
  rw [if_pos rfl]
  have hlt := (bsF_at Tk.i T t hb).1
  generalize bsV Tk.i T t = m at *
  have hat := tk_td T m hlt
  have h3 := madd_spec l n T h ⟨h, (gT T m).p, (gT T m).g, (gT T m).u⟩ hl hTl hh1
  generalize adR l n T h ⟨h, (gT T m).p, (gT T m).g, (gT T m).u⟩ = q at *
  generalize gT T m = x at *
  obtain ⟨xi, xp, xg, xu⟩ := x
  obtain ⟨⟨ql, qn, qT, qh⟩, qi, qe⟩ := q
  simp only [tkc] at h3 hat ⊢
  refine fnspec_of mixed TT_ok TT_cl ⟨fun _ => false, fun _ => [], 0, fun _ => false, fun _ => false⟩ Try.func7 rfl (by kernel_rfl) rfl 37 rfl [.cell 4 27, .tmp 5, .tmp 6] rfl ?_
  simp only [go_sem, zaa, zae, zaf, zag, zai, zad, ↓reduceIte, reduceCtorEq, zab, zac, zaj, zak, zal, hat]
  repeat' (first
 | with_reducible refine zaq ?_ ?_
 | (apply cl_plain
    case hs => rfl
    case ha => (simp only [zah, zam, prepV, prepC, idx, hpL', lookR, zaa, if_true, if_false]; rfl)
    case h => (first | exact h1 .. | exact h2 .. | exact h3 ..))
 | ((first | refine s1_id ?_ | refine swp_id ?_ | refine sops_id ?_ | refine s2_id ?_); simp only [hat, zay, zaz, zao, zaA, zaD, zat, zau, zar, zaG, zaH, zax, zap, go_sem, zaa, zae, zaf, zag, zai, zad, ↓reduceIte, reduceCtorEq, zab, zac, zaj, zak, zal, zaP, zaO, zaJ, zaN, renO, bk, back, outUpsFrom, Ints_ren])
 | (intros; omega)
 | (apply fs_nil <;> (try simp only [go_sem, resV, resS, zaP, zaO, zaJ, zaZ, zaU, idx, renO, zaN, evS, slot, lookR, zaa, ↓reduceIte, reduceCtorEq, if_true, if_false, zaQ, zaR, zah, zam, sLoad, readAt, readNeed, Ints_ren, Ints_length, Ints_getD, and_true, true_and, zaL, zaM]) <;> (try rfl))
 | fail)
theorem rhcopy_spec (l : List Nd) (n : Int) (T : List Tk) (h : Int) (h1 : 1 ≤ l.length) (hl : l.length ≤ 1000000) (hT : T.length ≤ 1000000) : FnSpec Try.prog 33 [hyV l none n T none h] [] (.agg [.osl 0 0 l.length none, int n, .osl 1 0 T.length none, int h]) [some ⟨Cs l, 6⟩, some ⟨Cs T, 4⟩] := by
  have c1 := trcopy_spec l none n h1 hl
  have hcl := tk_len T
  have htk : List.take (T.length * 4) (Cs T) = Cs T := zaX (by rw [hcl]; exact zbf _)
  refine fnspec_of mixed TT_ok TT_cl ⟨fun _ => false, fun _ => [], 0, fun _ => false, fun _ => false⟩ Try.func33 rfl (by kernel_rfl) rfl 12 rfl [.cell 2 27] rfl ?_
  simp only [go_sem, zaa, zae, zaf, zag, zai, zad, ↓reduceIte, reduceCtorEq, zab, zac, zaj, zak, zal, htk]
  repeat' (first
 | with_reducible refine zaq ?_ ?_
 | (unfold OKC; kernel_rfl)
 | (unfold EDG; kernel_rfl)
 | (apply cl_plain
    case hs => rfl
    case ha => (simp only [zah, zam, prepV, prepC, idx, hpL', lookR, zaa, if_true, if_false]; rfl)
    case h => (first | exact c1 ..))
 | ((first | refine s1_id ?_ | refine swp_id ?_ | refine sops_id ?_ | refine s2_id ?_); simp only [htk, zay, zaz, zao, zaA, zaD, zat, zau, zar, zaG, zaH, zax, zap, go_sem, zaa, zae, zaf, zag, zai, zad, ↓reduceIte, reduceCtorEq, zab, zac, zaj, zak, zal, zaP, zaO, zaJ, zaN, renO, bk, back, outUpsFrom, Ints_ren])
 | (intros; omega)
 | (intros; (try simp only [zaE, zaI, zaF, zaB, zav, zaw, decide_eq_true_eq, decide_eq_false_iff_not] at *); omega))
  (refine fs_flat [(4, ⟨Cs l, 6⟩), (7, ⟨Cs T, 4⟩)] (by simp) (by simp only [zah, zam]; decide) (by simp only [go_sem, resV, resS, zaP, zaO, zaJ, zaZ, zaU, idx, renO, zaN, evS, slot, lookR, zaa, ↓reduceIte, reduceCtorEq, if_true, if_false, zaQ, zaR, zah, zam, sLoad, readAt, readNeed, Ints_ren, Ints_length, Ints_getD, and_true, true_and, zaL, zaM]; try decide) ?_ (by simp only [zan, zas, false_implies, implies_true, and_true, zaU, lookR, zaa, if_true, if_false, ↓reduceIte, Cs_flat] <;> (repeat' apply zaq) <;> (first | rfl | trivial)) (by simp only [zan, zas, false_implies, implies_true, and_true, true_and, flat_cons, flat_nil, flat_ints, flat_bools, flat_app, zaV, and_self, eq_self_iff_true, zao, Cs_flat]) ?_ <;> (try simp only [go_sem, resV, resS, zaP, zaO, zaJ, zaZ, zaU, idx, renO, zaN, evS, slot, lookR, zaa, ↓reduceIte, reduceCtorEq, if_true, if_false, zaQ, zaR, zah, zam, sLoad, readAt, readNeed, Ints_ren, Ints_length, Ints_getD, and_true, true_and, zaL, zaM]) <;> (try rfl))
end Go.Proofs.Ytnahpejlhfeleac
-- NEWGO
-- PRUNE: cl_lendx cl_use
-- ISG: Cs_isG
-- FLAT: Cs_flat
namespace Go.Proofs.Ytnahpejlhfeleac
set_option linter.unusedVariables false
set_option linter.unusedSimpArgs false
open Go.Proofs.Ytnahpejlhfeleac.Sh
set_option maxRecDepth 20000
def rk6 (h : Int) (x : Tk) : Tk := ⟨h, if x.p = 0 then h else x.p, x.g, x.u⟩
set_option maxHeartbeats 8000000 in
theorem radd6_spec (l : List Nd) (n : Int) (T : List Tk) (h : Int) (x : Tk) (hl1 : 1 ≤ l.length) (hl : l.length ≤ 1000000) (hT : T.length ≤ 128) (hh : 1 ≤ h) : FnSpec Try.prog 17 [hyV l none n T none h, .agg (tkc x)] [] (.tup [hyQ (adR l n T h (rk6 h x)).1, i1 (adR l n T h (rk6 h x)).2.1, i1 (adR l n T h (rk6 h x)).2.2]) [] := by
  have hcl := tk_len T
  have h1 := rhcopy_spec l n T h hl1 hl (by omega)
  unfold adR
  by_cases a1 : T.length = 128
  · have a1' : 128 ≤ (T.length : Int) := by omega
    rw [if_pos a1]
    obtain ⟨ki, kp, kg, ku⟩ := x
    simp only [tkc, Cs_nil, zap]
    refine fnspec_of mixed TT_ok TT_cl ⟨fun _ => false, fun _ => [], 0, fun _ => false, fun _ => false⟩ Try.func17 rfl (by kernel_rfl) rfl 42 rfl [.cell 4 27, .tmp 5, .tmp 6] rfl ?_
    simp only [go_sem, zaa, zae, zaf, zag, zai, zad, ↓reduceIte, reduceCtorEq, zab, zac, zaj, zak, zal, ge_iff_le, decide_eq_true a1']
    repeat' (first
 | (intros; (try simp only [zaE, zaI, zaF, zaB, zav, zaw, decide_eq_true_eq, decide_eq_false_iff_not] at *); omega))
    repeat' (first
 | (refine fs_w ?h1 (svw_of ?h2); (case h1 => repeat' (first | exact trivial | exact rfl | exact zaC rfl | apply zaq)); (case h2 => repeat' (first | ((with_reducible refine (?_ : CW _ _)); first | exact cw_gnil | exact cw_rfl _ | exact cw_niln _ _ | exact cw_cap _ _ _ _) | exact trivial | (show _ ∧ SWL _ _; apply zaq) | (show _ ∧ CWL _ _; apply zaq) | show CW _ _)))
 | fail)
  have a1' : ¬ 128 ≤ (T.length : Int) := by omega
  rw [if_neg a1]
  by_cases a2 : 2147483647 < h
  · rw [if_pos a2]
    obtain ⟨ki, kp, kg, ku⟩ := x
    simp only [tkc, Cs_nil, zap]
    refine fnspec_of mixed TT_ok TT_cl ⟨fun _ => false, fun _ => [], 0, fun _ => false, fun _ => false⟩ Try.func17 rfl (by kernel_rfl) rfl 42 rfl [.cell 4 27, .tmp 5, .tmp 6] rfl ?_
    simp only [go_sem, zaa, zae, zaf, zag, zai, zad, ↓reduceIte, reduceCtorEq, zab, zac, zaj, zak, zal, ge_iff_le, decide_eq_false a1', decide_eq_true a2]
    repeat' (first
 | (intros; (try simp only [zaE, zaI, zaF, zaB, zav, zaw, decide_eq_true_eq, decide_eq_false_iff_not] at *); omega))
    repeat' (first
 | (refine fs_w ?h1 (svw_of ?h2); (case h1 => repeat' (first | exact trivial | exact rfl | exact zaC rfl | apply zaq)); (case h2 => repeat' (first | ((with_reducible refine (?_ : CW _ _)); first | exact cw_gnil | exact cw_rfl _ | exact cw_niln _ _ | exact cw_cap _ _ _ _) | exact trivial | (show _ ∧ SWL _ _; apply zaq) | (show _ ∧ CWL _ _; apply zaq) | show CW _ _)))
 | fail)
  rw [if_neg a2]
  have htk : List.take (T.length * 4) (Cs T) = Cs T := zaX (by rw [hcl]; exact zbf _)
  have hla : (T ++ [rk6 h x]).length = T.length + 1 := by simp
  by_cases hp : x.p = 0
  · have hpp : Cs T ++ [int h, int h, int x.g, int x.u] = Cs (T ++ [rk6 h x]) := by
      have := Cs_snoc T (rk6 h x)
      unfold rk6 at this ⊢
      rw [if_pos hp] at this ⊢
      exact this
    generalize T ++ [rk6 h x] = T2 at *
    show FnSpec Try.prog _ _ _ (.tup [.agg [.gsl (Cs l) 0 l.length none, int n, .gsl (Cs T2) 0 T2.length none, int (h + 1)], i1 h, i1 0]) _
    rw [hla]
    obtain ⟨ki, kp, kg, ku⟩ := x
    simp only [tkc] at hpp hp ⊢
    refine fnspec_of mixed TT_ok TT_cl ⟨fun _ => false, fun _ => [], 0, fun _ => false, fun _ => false⟩ Try.func17 rfl (by kernel_rfl) rfl 42 rfl [.cell 4 27, .tmp 5, .tmp 6] rfl ?_
    simp only [go_sem, zaa, zae, zaf, zag, zai, zad, ↓reduceIte, reduceCtorEq, zab, zac, zaj, zak, zal, ge_iff_le, decide_eq_false a1', decide_eq_false a2, decide_eq_true hp, htk, hpp]
    repeat' (first
 | with_reducible refine zaq ?_ ?_
 | (unfold OKC; kernel_rfl)
 | (unfold EDG; kernel_rfl)
 | (apply cl_plain
    case hs => rfl
    case ha => (simp only [zah, zam, prepV, prepC, idx, hpL', lookR, zaa, if_true, if_false]; rfl)
    case h => (first | exact h1 ..))
 | ((first | refine s1_id ?_ | refine swp_id ?_ | refine sops_id ?_ | refine s2_id ?_); simp only [ge_iff_le, decide_eq_false a1', decide_eq_false a2, decide_eq_true hp, htk, hpp, zay, zaz, zao, zaA, zaD, zat, zau, zar, zaG, zaH, zax, zap, go_sem, zaa, zae, zaf, zag, zai, zad, ↓reduceIte, reduceCtorEq, zab, zac, zaj, zak, zal, zaP, zaO, zaJ, zaN, renO, bk, back, outUpsFrom, Ints_ren])
 | (intros; omega)
 | (intros; (try simp only [zaE, zaI, zaF, zaB, zav, zaw, decide_eq_true_eq, decide_eq_false_iff_not] at *); omega))
    (refine fs_frz 15 ⟨Cs l, 6⟩ (by simp only [zaU, lookR, zaa, if_true, if_false, ↓reduceIte]) (by first | exact Ints_isG _ | exact Bools_isG _ | exact Cs_isG _ | (simp [zbh]; done)) ?_; simp only [frzTm, SV.frz, zbi, zbd, frzHp, frzO, Ints_frz, Bools_frz, zah, zam, zaa, if_true, if_false, ↓reduceIte])
    simp only [frzHp, frzO, Cs_frz, zah, zam]
    (refine fs_frz 34 ⟨Cs T2, 4⟩ (by simp only [zaU, lookR, zaa, if_true, if_false, ↓reduceIte]) (by first | exact Ints_isG _ | exact Bools_isG _ | exact Cs_isG _ | (simp [zbh]; done)) ?_; simp only [frzTm, SV.frz, zbi, zbd, frzHp, frzO, Ints_frz, Bools_frz, zah, zam, zaa, if_true, if_false, ↓reduceIte])
    repeat' (first
 | (refine fs_w ?h1 (svw_of ?h2); (case h1 => repeat' (first | exact trivial | exact rfl | exact zaC rfl | apply zaq)); (case h2 => repeat' (first | ((with_reducible refine (?_ : CW _ _)); first | exact cw_gnil | exact cw_rfl _ | exact cw_niln _ _ | exact cw_cap _ _ _ _) | exact trivial | (show _ ∧ SWL _ _; apply zaq) | (show _ ∧ CWL _ _; apply zaq) | show CW _ _)))
 | fail)
  · have hpp : Cs T ++ [int h, int x.p, int x.g, int x.u] = Cs (T ++ [rk6 h x]) := by
      have := Cs_snoc T (rk6 h x)
      unfold rk6 at this ⊢
      rw [if_neg hp] at this ⊢
      exact this
    generalize T ++ [rk6 h x] = T2 at *
    show FnSpec Try.prog _ _ _ (.tup [.agg [.gsl (Cs l) 0 l.length none, int n, .gsl (Cs T2) 0 T2.length none, int (h + 1)], i1 h, i1 0]) _
    rw [hla]
    obtain ⟨ki, kp, kg, ku⟩ := x
    simp only [tkc] at hpp hp ⊢
    refine fnspec_of mixed TT_ok TT_cl ⟨fun _ => false, fun _ => [], 0, fun _ => false, fun _ => false⟩ Try.func17 rfl (by kernel_rfl) rfl 42 rfl [.cell 4 27, .tmp 5, .tmp 6] rfl ?_
    simp only [go_sem, zaa, zae, zaf, zag, zai, zad, ↓reduceIte, reduceCtorEq, zab, zac, zaj, zak, zal, ge_iff_le, decide_eq_false a1', decide_eq_false a2, decide_eq_false hp, htk, hpp]
    repeat' (first
 | with_reducible refine zaq ?_ ?_
 | (unfold OKC; kernel_rfl)
 | (unfold EDG; kernel_rfl)
 | (apply cl_plain
    case hs => rfl
    case ha => (simp only [zah, zam, prepV, prepC, idx, hpL', lookR, zaa, if_true, if_false]; rfl)
    case h => (first | exact h1 ..))
 | ((first | refine s1_id ?_ | refine swp_id ?_ | refine sops_id ?_ | refine s2_id ?_); simp only [ge_iff_le, decide_eq_false a1', decide_eq_false a2, decide_eq_false hp, htk, hpp, zay, zaz, zao, zaA, zaD, zat, zau, zar, zaG, zaH, zax, zap, go_sem, zaa, zae, zaf, zag, zai, zad, ↓reduceIte, reduceCtorEq, zab, zac, zaj, zak, zal, zaP, zaO, zaJ, zaN, renO, bk, back, outUpsFrom, Ints_ren])
 | (intros; omega)
 | (intros; (try simp only [zaE, zaI, zaF, zaB, zav, zaw, decide_eq_true_eq, decide_eq_false_iff_not] at *); omega))
    (refine fs_frz 15 ⟨Cs l, 6⟩ (by simp only [zaU, lookR, zaa, if_true, if_false, ↓reduceIte]) (by first | exact Ints_isG _ | exact Bools_isG _ | exact Cs_isG _ | (simp [zbh]; done)) ?_; simp only [frzTm, SV.frz, zbi, zbd, frzHp, frzO, Ints_frz, Bools_frz, zah, zam, zaa, if_true, if_false, ↓reduceIte])
    simp only [frzHp, frzO, Cs_frz, zah, zam]
    (refine fs_frz 30 ⟨Cs T2, 4⟩ (by simp only [zaU, lookR, zaa, if_true, if_false, ↓reduceIte]) (by first | exact Ints_isG _ | exact Bools_isG _ | exact Cs_isG _ | (simp [zbh]; done)) ?_; simp only [frzTm, SV.frz, zbi, zbd, frzHp, frzO, Ints_frz, Bools_frz, zah, zam, zaa, if_true, if_false, ↓reduceIte])
    repeat' (first
 | (refine fs_w ?h1 (svw_of ?h2); (case h1 => repeat' (first | exact trivial | exact rfl | exact zaC rfl | apply zaq)); (case h2 => repeat' (first | ((with_reducible refine (?_ : CW _ _)); first | exact cw_gnil | exact cw_rfl _ | exact cw_niln _ _ | exact cw_cap _ _ _ _) | exact trivial | (show _ ∧ SWL _ _; apply zaq) | (show _ ∧ CWL _ _; apply zaq) | show CW _ _)))
 | fail)
end Go.Proofs.Ytnahpejlhfeleac
-- NEWGO
-- PRUNE: cl_lendx cl_use
-- ISG: Cs_isG
-- FLAT: Cs_flat
namespace Go.Proofs.Ytnahpejlhfeleac
set_option linter.unusedVariables false
set_option linter.unusedSimpArgs false
open Go.Proofs.Ytnahpejlhfeleac.Sh
set_option maxRecDepth 20000
theorem find_bs {T : List Tk} (h : T.Pairwise (fun x y => x.i < y.i)) (t : Int) : T.find? (fun y => decide (y.i = t)) = if bsF Tk.i T t = true then some (gT T (bsV Tk.i T t)) else none := by
  cases hf : T.find? (fun y => decide (y.i = t)) with
  | none =>
    have hn := List.find?_eq_none.1 hf
    rw [bs_not Tk.i T t (fun y hy e => hn y hy (decide_eq_true e)), if_neg (by decide)]
  | some y =>
    have hy := List.mem_of_find?_eq_some hf
    have hp : y.i = t := by
      have := List.find?_some hf
      simpa using this
    obtain ⟨s, hs, es⟩ := List.getElem_of_mem hy
    have e1 : T.getD s Rec.z = y := by rw [← es]; exact getD_at T s Rec.z hs
    obtain ⟨b1', b2'⟩ := bs_found Tk.i T (pw_ix h) s hs
    rw [e1, hp] at b1' b2'
    rw [b1', b2', if_pos rfl, show gT T s = y from e1]
theorem hy_p {l : List Nd} {n : Int} {T : List Tk} {h : Int} (hv : hyM l n T h = true) {x : Tk} (hx : x ∈ T) : x.p ≠ 0 := by
  unfold hyM at hv
  simp only [zaE, zaF] at hv
  have hst : stB l T x = false := Bool.eq_false_iff.2 (fun e => by
    have := List.any_eq_true.2 ⟨x, hx, e⟩
    rw [hv.2.2.2.2.2] at this; cases this)
  unfold stB ldB at hst
  simp only [zaw, zaB, zaE] at hst
  obtain ⟨h1, h2⟩ := bsF_at Tk.i T x.p hst.2.1
  have := (tas_gt T 0 hv.2.2.1).1 _ (getD_mem T _ ztk h1)
  have h2 : (T.getD (bsV Tk.i T x.p) ztk).i = x.p := h2
  omega
theorem rspawn6_spec (l : List Nd) (n : Int) (T : List Tk) (h g u : Int) (hl : l.length ≤ 1000000) (hT : T.length ≤ 1000000) (hnm : NmR l) : FnSpec Try.prog 6 [hyV l none n T none h, i1 g, i1 u] [] (.tup [hyQ (spR l n T h g u).1, i1 (spR l n T h g u).2.1, i1 (spR l n T h g u).2.2]) [] := by
  have h1 := rcheck6 l n T h hl (by omega) hnm
  unfold spR
  cases hv : hyM l n T h with
  | false =>
    rw [hv] at h1
    rw [if_neg (by decide)]
    simp only [Cs_nil, zap]
    refine fnspec_of mixed TT_ok TT_cl ⟨fun _ => false, fun _ => [], 0, fun _ => false, fun _ => false⟩ Try.func6 rfl (by kernel_rfl) rfl 35 rfl [.cell 6 27, .tmp 7, .tmp 8] rfl ?_
    simp only [go_sem, zaa, zae, zaf, zag, zai, zad, ↓reduceIte, reduceCtorEq, zab, zac, zaj, zak, zal]
    repeat' (first
 | (apply cl_plain
    case hs => rfl
    case ha => (simp only [zah, zam, prepV, prepC, idx, hpL', lookR, zaa, if_true, if_false]; rfl)
    case h => (first | exact h1 ..))
 | ((first | refine s1_id ?_ | refine swp_id ?_ | refine sops_id ?_ | refine s2_id ?_); simp only [zay, zaz, zao, zaA, zaD, zat, zau, zar, zaG, zaH, zax, zap, go_sem, zaa, zae, zaf, zag, zai, zad, ↓reduceIte, reduceCtorEq, zab, zac, zaj, zak, zal, zaP, zaO, zaJ, zaN, renO, bk, back, outUpsFrom, Ints_ren])
 | (intros; (try simp only [zaE, zaI, zaF, zaB, zav, zaw, decide_eq_true_eq, decide_eq_false_iff_not] at *); omega))
    repeat' (first
 | (refine fs_w ?h1 (svw_of ?h2); (case h1 => repeat' (first | exact trivial | exact rfl | exact zaC rfl | apply zaq)); (case h2 => repeat' (first | ((with_reducible refine (?_ : CW _ _)); first | exact cw_gnil | exact cw_rfl _ | exact cw_niln _ _ | exact cw_cap _ _ _ _) | exact trivial | (show _ ∧ SWL _ _; apply zaq) | (show _ ∧ CWL _ _; apply zaq) | show CW _ _)))
 | fail)
  | true =>
  rw [hv] at h1
  rw [if_pos rfl]
  obtain ⟨hV, hTl, hh1, hh2, _⟩ := hy_all hv
  by_cases u1 : u < 0
  · rw [if_neg (by omega)]
    simp only [Cs_nil, zap]
    refine fnspec_of mixed TT_ok TT_cl ⟨fun _ => false, fun _ => [], 0, fun _ => false, fun _ => false⟩ Try.func6 rfl (by kernel_rfl) rfl 35 rfl [.cell 6 27, .tmp 7, .tmp 8] rfl ?_
    simp only [go_sem, zaa, zae, zaf, zag, zai, zad, ↓reduceIte, reduceCtorEq, zab, zac, zaj, zak, zal, decide_eq_true u1]
    repeat' (first
 | (apply cl_plain
    case hs => rfl
    case ha => (simp only [zah, zam, prepV, prepC, idx, hpL', lookR, zaa, if_true, if_false]; rfl)
    case h => (first | exact h1 ..))
 | ((first | refine s1_id ?_ | refine swp_id ?_ | refine sops_id ?_ | refine s2_id ?_); simp only [decide_eq_true u1, zay, zaz, zao, zaA, zaD, zat, zau, zar, zaG, zaH, zax, zap, go_sem, zaa, zae, zaf, zag, zai, zad, ↓reduceIte, reduceCtorEq, zab, zac, zaj, zak, zal, zaP, zaO, zaJ, zaN, renO, bk, back, outUpsFrom, Ints_ren])
 | (intros; (try simp only [zaE, zaI, zaF, zaB, zav, zaw, decide_eq_true_eq, decide_eq_false_iff_not] at *); omega))
    repeat' (first
 | (refine fs_w ?h1 (svw_of ?h2); (case h1 => repeat' (first | exact trivial | exact rfl | exact zaC rfl | apply zaq)); (case h2 => repeat' (first | ((with_reducible refine (?_ : CW _ _)); first | exact cw_gnil | exact cw_rfl _ | exact cw_niln _ _ | exact cw_cap _ _ _ _) | exact trivial | (show _ ∧ SWL _ _; apply zaq) | (show _ ∧ CWL _ _; apply zaq) | show CW _ _)))
 | fail)
  by_cases u2 : 1048576 < u
  · rw [if_neg (by omega)]
    simp only [Cs_nil, zap]
    refine fnspec_of mixed TT_ok TT_cl ⟨fun _ => false, fun _ => [], 0, fun _ => false, fun _ => false⟩ Try.func6 rfl (by kernel_rfl) rfl 35 rfl [.cell 6 27, .tmp 7, .tmp 8] rfl ?_
    simp only [go_sem, zaa, zae, zaf, zag, zai, zad, ↓reduceIte, reduceCtorEq, zab, zac, zaj, zak, zal, decide_eq_false u1, decide_eq_true u2]
    repeat' (first
 | (apply cl_plain
    case hs => rfl
    case ha => (simp only [zah, zam, prepV, prepC, idx, hpL', lookR, zaa, if_true, if_false]; rfl)
    case h => (first | exact h1 ..))
 | ((first | refine s1_id ?_ | refine swp_id ?_ | refine sops_id ?_ | refine s2_id ?_); simp only [decide_eq_false u1, decide_eq_true u2, zay, zaz, zao, zaA, zaD, zat, zau, zar, zaG, zaH, zax, zap, go_sem, zaa, zae, zaf, zag, zai, zad, ↓reduceIte, reduceCtorEq, zab, zac, zaj, zak, zal, zaP, zaO, zaJ, zaN, renO, bk, back, outUpsFrom, Ints_ren])
 | (intros; (try simp only [zaE, zaI, zaF, zaB, zav, zaw, decide_eq_true_eq, decide_eq_false_iff_not] at *); omega))
    repeat' (first
 | (refine fs_w ?h1 (svw_of ?h2); (case h1 => repeat' (first | exact trivial | exact rfl | exact zaC rfl | apply zaq)); (case h2 => repeat' (first | ((with_reducible refine (?_ : CW _ _)); first | exact cw_gnil | exact cw_rfl _ | exact cw_niln _ _ | exact cw_cap _ _ _ _) | exact trivial | (show _ ∧ SWL _ _; apply zaq) | (show _ ∧ CWL _ _; apply zaq) | show CW _ _)))
 | fail)
  rw [if_pos (by omega)]
  have h2 := rhas_spec l none n g hl hnm
  rw [has_bs6 ((chkT_iff l n).2 hV)] at h2
  cases hb : bsF Nd.i l g with
  | false =>
    rw [hb] at h2
    rw [if_neg (by decide)]
    simp only [Cs_nil, zap]
    refine fnspec_of mixed TT_ok TT_cl ⟨fun _ => false, fun _ => [], 0, fun _ => false, fun _ => false⟩ Try.func6 rfl (by kernel_rfl) rfl 35 rfl [.cell 6 27, .tmp 7, .tmp 8] rfl ?_
    simp only [go_sem, zaa, zae, zaf, zag, zai, zad, ↓reduceIte, reduceCtorEq, zab, zac, zaj, zak, zal, decide_eq_false u1, decide_eq_false u2]
    repeat' (first
 | (apply cl_plain
    case hs => rfl
    case ha => (simp only [zah, zam, prepV, prepC, idx, hpL', lookR, zaa, if_true, if_false]; rfl)
    case h => (first | exact h1 .. | exact h2 ..))
 | ((first | refine s1_id ?_ | refine swp_id ?_ | refine sops_id ?_ | refine s2_id ?_); simp only [decide_eq_false u1, decide_eq_false u2, zay, zaz, zao, zaA, zaD, zat, zau, zar, zaG, zaH, zax, zap, go_sem, zaa, zae, zaf, zag, zai, zad, ↓reduceIte, reduceCtorEq, zab, zac, zaj, zak, zal, zaP, zaO, zaJ, zaN, renO, bk, back, outUpsFrom, Ints_ren])
 | (intros; (try simp only [zaE, zaI, zaF, zaB, zav, zaw, decide_eq_true_eq, decide_eq_false_iff_not] at *); omega))
    repeat' (first
 | (refine fs_w ?h1 (svw_of ?h2); (case h1 => repeat' (first | exact trivial | exact rfl | exact zaC rfl | apply zaq)); (case h2 => repeat' (first | ((with_reducible refine (?_ : CW _ _)); first | exact cw_gnil | exact cw_rfl _ | exact cw_niln _ _ | exact cw_cap _ _ _ _) | exact trivial | (show _ ∧ SWL _ _; apply zaq) | (show _ ∧ CWL _ _; apply zaq) | show CW _ _)))
 | fail)
  | true =>
  rw [hb] at h2
  rw [if_pos rfl]
  have h3 := radd6_spec l n T h ⟨0, 0, g, u⟩ hV.ne hl hTl hh1
  rw [show rk6 h ⟨0, 0, g, u⟩ = ⟨h, h, g, u⟩ from rfl] at h3
  generalize adR l n T h ⟨h, h, g, u⟩ = q at *
  obtain ⟨⟨ql, qn, qT, qh⟩, qi, qe⟩ := q
  simp only [tkc] at h3 ⊢
  refine fnspec_of mixed TT_ok TT_cl ⟨fun _ => false, fun _ => [], 0, fun _ => false, fun _ => false⟩ Try.func6 rfl (by kernel_rfl) rfl 35 rfl [.cell 6 27, .tmp 7, .tmp 8] rfl ?_
  simp only [go_sem, zaa, zae, zaf, zag, zai, zad, ↓reduceIte, reduceCtorEq, zab, zac, zaj, zak, zal, decide_eq_false u1, decide_eq_false u2]
  repeat' (first
 | with_reducible refine zaq ?_ ?_
 | (apply cl_plain
    case hs => rfl
    case ha => (simp only [zah, zam, prepV, prepC, idx, hpL', lookR, zaa, if_true, if_false]; rfl)
    case h => (first | exact h1 .. | exact h2 .. | exact h3 ..))
 | ((first | refine s1_id ?_ | refine swp_id ?_ | refine sops_id ?_ | refine s2_id ?_); simp only [decide_eq_false u1, decide_eq_false u2, zay, zaz, zao, zaA, zaD, zat, zau, zar, zaG, zaH, zax, zap, go_sem, zaa, zae, zaf, zag, zai, zad, ↓reduceIte, reduceCtorEq, zab, zac, zaj, zak, zal, zaP, zaO, zaJ, zaN, renO, bk, back, outUpsFrom, Ints_ren])
 | (intros; omega)
 | (apply fs_nil <;> (try simp only [go_sem, resV, resS, zaP, zaO, zaJ, zaZ, zaU, idx, renO, zaN, evS, slot, lookR, zaa, ↓reduceIte, reduceCtorEq, if_true, if_false, zaQ, zaR, zah, zam, sLoad, readAt, readNeed, Ints_ren, Ints_length, Ints_getD, and_true, true_and, zaL, zaM]) <;> (try rfl))
 | fail)
def fiR (l : List Nd) (n : Int) (T : List Tk) (h t : Int) : Tk × Bool := if hyM l n T h = true then (if bsF Tk.i T t = true then (gT T (bsV Tk.i T t), true) else (ztk, false)) else (ztk, false)
set_option maxHeartbeats 8000000 in
theorem rfind6_spec (l : List Nd) (n : Int) (T : List Tk) (h t : Int) (hl : l.length ≤ 1000000) (hT : T.length ≤ 1000000) (hnm : NmR l) : FnSpec Try.prog 19 [hyV l none n T none h, i1 t] [] (.tup [.agg (tkc (fiR l n T h t).1), b1 (fiR l n T h t).2]) [] := by
  have h1 := rcheck6 l n T h hl (by omega) hnm
  have hcl := tk_len T
  unfold fiR
  cases hv : hyM l n T h with
  | false =>
    rw [hv] at h1
    rw [if_neg (by decide)]
    refine fnspec_of mixed TT_ok TT_cl ⟨fun _ => false, fun _ => [], 0, fun _ => false, fun _ => false⟩ Try.func19 rfl (by kernel_rfl) rfl 32 rfl [.cell 4 30, .tmp 5] rfl ?_
    simp only [go_sem, zaa, zae, zaf, zag, zai, zad, ↓reduceIte, reduceCtorEq, zab, zac, zaj, zak, zal]
    repeat' (first
 | with_reducible refine zaq ?_ ?_
 | (apply cl_plain
    case hs => rfl
    case ha => (simp only [zah, zam, prepV, prepC, idx, hpL', lookR, zaa, if_true, if_false]; rfl)
    case h => (first | exact h1 ..))
 | ((first | refine s1_id ?_ | refine swp_id ?_ | refine sops_id ?_ | refine s2_id ?_); simp only [zay, zaz, zao, zaA, zaD, zat, zau, zar, zaG, zaH, zax, zap, go_sem, zaa, zae, zaf, zag, zai, zad, ↓reduceIte, reduceCtorEq, zab, zac, zaj, zak, zal, zaP, zaO, zaJ, zaN, renO, bk, back, outUpsFrom, Ints_ren])
 | (intros; omega)
 | (apply fs_nil <;> (try simp only [go_sem, resV, resS, zaP, zaO, zaJ, zaZ, zaU, idx, renO, zaN, evS, slot, lookR, zaa, ↓reduceIte, reduceCtorEq, if_true, if_false, zaQ, zaR, zah, zam, sLoad, readAt, readNeed, Ints_ren, Ints_length, Ints_getD, and_true, true_and, zaL, zaM]) <;> (try rfl))
 | fail)
  | true =>
  rw [hv] at h1
  rw [if_pos rfl]
  obtain ⟨_, _, _, _, hpw⟩ := hy_all hv
  have hfb := find_bs hpw t
  obtain ⟨Q, hQ⟩ : ∃ Q, T.find? (fun y => decide (y.i = t)) = Q := ⟨_, rfl⟩
  have hres : (if bsF Tk.i T t = true then (gT T (bsV Tk.i T t), true) else (ztk, false)) = (Q.getD ztk, Q.isSome) := by
    rw [← hQ, hfb]
    by_cases c : bsF Tk.i T t = true
    · rw [if_pos c, if_pos c]; rfl
    · rw [if_neg c, if_neg c]; rfl
  rw [hres]
  clear hres hfb
  refine fnspec_of mixed TT_ok TT_cl ⟨fun _ => false, fun _ => [], 0, fun _ => false, fun _ => false⟩ Try.func19 rfl (by kernel_rfl) rfl 32 rfl [.cell 4 30, .tmp 5] rfl ?_
  simp only [go_sem, zaa, zae, zaf, zag, zai, zad, ↓reduceIte, reduceCtorEq, zab, zac, zaj, zak, zal]
  repeat' (first
 | (apply cl_plain
    case hs => rfl
    case ha => (simp only [zah, zam, prepV, prepC, idx, hpL', lookR, zaa, if_true, if_false]; rfl)
    case h => (first | exact h1 ..))
 | ((first | refine s1_id ?_ | refine swp_id ?_ | refine sops_id ?_ | refine s2_id ?_); simp only [zay, zaz, zao, zaA, zaD, zat, zau, zar, zaG, zaH, zax, zap, go_sem, zaa, zae, zaf, zag, zai, zad, ↓reduceIte, reduceCtorEq, zab, zac, zaj, zak, zal, zaP, zaO, zaJ, zaN, renO, bk, back, outUpsFrom, Ints_ren])
 | (intros; (try simp only [zaE, zaI, zaF, zaB, zav, zaw, decide_eq_true_eq, decide_eq_false_iff_not] at *); omega))
  refine w_loop (ι := Nat) (fun m => ⟨[(1, i1 t), (2, .one (.optr 0 0)), (4, .one (.optr 1 0)), (6, i1 m)], [(0, some ⟨hyc l none n T none h, 4⟩), (1, some ⟨[int 0, int 0, int 0, int 0], 4⟩)], 2⟩) (fun m => m ≤ T.length ∧ (T.drop m).find? (fun y => decide (y.i = t)) = Q) (fun m => T.length - m) 0 ?_ ⟨zaW _, hQ⟩ ?_
  · (refine imp_ren _ _ _ [(0, 0, ⟨hyc l none n T none h, 4⟩), (1, 1, ⟨[int 0, int 0, int 0, int 0], 4⟩)] (by simp) (by simp) (by simp) (zaC rfl) ?_ rfl (by simp only [zan, zas, false_implies, implies_true, and_true, zaU, lookR, zaa, if_true, if_false, ↓reduceIte] <;> (repeat' apply zaq) <;> (first | rfl | trivial)) (by simp only [zan, zas, false_implies, implies_true, and_true, true_and, flat_cons, flat_nil, flat_ints, flat_bools, flat_app, zaV, and_self, eq_self_iff_true, zao]); simp only [zah, zam, zan, zas, false_implies, implies_true, and_true, lk, slot, zaP, zaJ, toN, zaa, if_true, if_false, ↓reduceIte, reduceCtorEq])
    all_goals ((repeat' apply zaq) <;> (first | rfl | trivial))
  clear h1 hQ
  rintro m ⟨hm, hI⟩
  simp only at hm hI ⊢
  rcases zbc m T.length with hlt | hge
  case inr =>
    have c : ¬ (m : Int) < (T.length : Int) := by omega
    rw [zbe hge] at hI
    have hI : none = Q := hI
    subst hI
    simp only [go_sem, zaa, zae, zaf, zag, zai, zad, ↓reduceIte, reduceCtorEq, zab, zac, zaj, zak, zal, zaR, Option.isSome_none, decide_eq_false c]
    repeat' (first
 | with_reducible refine zaq ?_ ?_
 | (intros; omega)
 | (apply fs_nil <;> (try simp only [go_sem, resV, resS, zaP, zaO, zaJ, zaZ, zaU, idx, renO, zaN, evS, slot, lookR, zaa, ↓reduceIte, reduceCtorEq, if_true, if_false, zaQ, zaR, zah, zam, sLoad, readAt, readNeed, Ints_ren, Ints_length, Ints_getD, and_true, true_and, zaL, zaM]) <;> (try rfl))
 | fail)
  have c : (m : Int) < (T.length : Int) := by omega
  have hat := tk_td T m hlt
  have q0 := tk_f T m 0 (.sc (.int .i64 0)) hlt (by decide)
  rw [Nat.add_zero] at q0
  have q0 : (Cs T).getD (m * 4) (.sc (.int .i64 0)) = int (gT T m).i := q0
  rw [ldr_drop hlt] at hI
  generalize gT T m = x at *
  obtain ⟨xi, xp, xg, xu⟩ := x
  simp only [tkc] at hat hI q0
  by_cases c1 : xi = t
  · rw [if_pos c1] at hI
    subst hI
    simp only [go_sem, zaa, zae, zaf, zag, zai, zad, ↓reduceIte, reduceCtorEq, zab, zac, zaj, zak, zal, zaQ, Option.isSome_some, decide_eq_true c, decide_eq_true c1, q0, hat]
    repeat' (first
 | with_reducible refine zaq ?_ ?_
 | (intros; omega)
 | (apply fs_nil <;> (try simp only [go_sem, resV, resS, zaP, zaO, zaJ, zaZ, zaU, idx, renO, zaN, evS, slot, lookR, zaa, ↓reduceIte, reduceCtorEq, if_true, if_false, zaQ, zaR, zah, zam, sLoad, readAt, readNeed, Ints_ren, Ints_length, Ints_getD, and_true, true_and, zaL, zaM]) <;> (try rfl))
 | fail)
  · rw [if_neg c1] at hI
    simp only [go_sem, zaa, zae, zaf, zag, zai, zad, ↓reduceIte, reduceCtorEq, zab, zac, zaj, zak, zal, decide_eq_true c, decide_eq_false c1, q0]
    repeat' (first
 | with_reducible refine zaq ?_ ?_
 | (intros; omega)
 | (intros; (try simp only [zaE, zaI, zaF, zaB, zav, zaw, decide_eq_true_eq, decide_eq_false_iff_not] at *); omega))
    refine le_mk (m + 1) ?_ ⟨hlt, hI⟩ (by omega)
    (refine imp_ren _ _ _ [(0, 0, ⟨hyc l none n T none h, 4⟩), (1, 1, ⟨[int 0, int 0, int 0, int 0], 4⟩)] (by simp) (by simp) (by simp) (zaC rfl) ?_ rfl (by simp only [zan, zas, false_implies, implies_true, and_true, zaU, lookR, zaa, if_true, if_false, ↓reduceIte] <;> (repeat' apply zaq) <;> (first | rfl | trivial)) (by simp only [zan, zas, false_implies, implies_true, and_true, true_and, flat_cons, flat_nil, flat_ints, flat_bools, flat_app, zaV, and_self, eq_self_iff_true, zao]); simp only [zah, zam, zan, zas, false_implies, implies_true, and_true, lk, slot, zaP, zaJ, toN, zaa, if_true, if_false, ↓reduceIte, reduceCtorEq])
    all_goals ((repeat' apply zaq) <;> (first | rfl | trivial | (simp only [zaK]; done) | (simp only [zaK]; rfl) | (simp only [zaK]; trivial)))
theorem rclone6_spec (l : List Nd) (n : Int) (T : List Tk) (h t : Int) (hl : l.length ≤ 1000000) (hT : T.length ≤ 1000000) (hnm : NmR l) : FnSpec Try.prog 8 [hyV l none n T none h, i1 t] [] (.tup [hyQ (clR l n T h t).1, i1 (clR l n T h t).2.1, i1 (clR l n T h t).2.2]) [] := by
  have h1 := rcheck6 l n T h hl (by omega) hnm
  have h2 := rfind6_spec l n T h t hl hT hnm
  unfold fiR at h2
  unfold clR
  cases hv : hyM l n T h with
  | false =>
    rw [hv] at h1 h2
    rw [if_neg (by decide)] at h2 ⊢
    simp only [Cs_nil, zap]
    refine fnspec_of mixed TT_ok TT_cl ⟨fun _ => false, fun _ => [], 0, fun _ => false, fun _ => false⟩ Try.func8 rfl (by kernel_rfl) rfl 28 rfl [.cell 4 27, .tmp 5, .tmp 6] rfl ?_
    simp only [go_sem, zaa, zae, zaf, zag, zai, zad, ↓reduceIte, reduceCtorEq, zab, zac, zaj, zak, zal]
    repeat' (first
 | (apply cl_plain
    case hs => rfl
    case ha => (simp only [zah, zam, prepV, prepC, idx, hpL', lookR, zaa, if_true, if_false]; rfl)
    case h => (first | exact h1 .. | exact h2 ..))
 | ((first | refine s1_id ?_ | refine swp_id ?_ | refine sops_id ?_ | refine s2_id ?_); simp only [zay, zaz, zao, zaA, zaD, zat, zau, zar, zaG, zaH, zax, zap, go_sem, zaa, zae, zaf, zag, zai, zad, ↓reduceIte, reduceCtorEq, zab, zac, zaj, zak, zal, zaP, zaO, zaJ, zaN, renO, bk, back, outUpsFrom, Ints_ren])
 | (intros; (try simp only [zaE, zaI, zaF, zaB, zav, zaw, decide_eq_true_eq, decide_eq_false_iff_not] at *); omega))
    repeat' (first
 | (refine fs_w ?h1 (svw_of ?h2); (case h1 => repeat' (first | exact trivial | exact rfl | exact zaC rfl | apply zaq)); (case h2 => repeat' (first | ((with_reducible refine (?_ : CW _ _)); first | exact cw_gnil | exact cw_rfl _ | exact cw_niln _ _ | exact cw_cap _ _ _ _) | exact trivial | (show _ ∧ SWL _ _; apply zaq) | (show _ ∧ CWL _ _; apply zaq) | show CW _ _)))
 | fail)
  | true =>
  rw [hv] at h1 h2
  rw [if_pos rfl] at h2 ⊢
  obtain ⟨hV, hTl, hh1, hh2, _⟩ := hy_all hv
  cases hb : bsF Tk.i T t with
  | false =>
    rw [hb] at h2
    rw [if_neg (by decide)] at h2 ⊢
    simp only [Cs_nil, zap]
    refine fnspec_of mixed TT_ok TT_cl ⟨fun _ => false, fun _ => [], 0, fun _ => false, fun _ => false⟩ Try.func8 rfl (by kernel_rfl) rfl 28 rfl [.cell 4 27, .tmp 5, .tmp 6] rfl ?_
    simp only [go_sem, zaa, zae, zaf, zag, zai, zad, ↓reduceIte, reduceCtorEq, zab, zac, zaj, zak, zal]
    repeat' (first
 | (apply cl_plain
    case hs => rfl
    case ha => (simp only [zah, zam, prepV, prepC, idx, hpL', lookR, zaa, if_true, if_false]; rfl)
    case h => (first | exact h1 .. | exact h2 ..))
 | ((first | refine s1_id ?_ | refine swp_id ?_ | refine sops_id ?_ | refine s2_id ?_); simp only [zay, zaz, zao, zaA, zaD, zat, zau, zar, zaG, zaH, zax, zap, go_sem, zaa, zae, zaf, zag, zai, zad, ↓reduceIte, reduceCtorEq, zab, zac, zaj, zak, zal, zaP, zaO, zaJ, zaN, renO, bk, back, outUpsFrom, Ints_ren])
 | (intros; (try simp only [zaE, zaI, zaF, zaB, zav, zaw, decide_eq_true_eq, decide_eq_false_iff_not] at *); omega))
    repeat' (first
 | (refine fs_w ?h1 (svw_of ?h2); (case h1 => repeat' (first | exact trivial | exact rfl | exact zaC rfl | apply zaq)); (case h2 => repeat' (first | ((with_reducible refine (?_ : CW _ _)); first | exact cw_gnil | exact cw_rfl _ | exact cw_niln _ _ | exact cw_cap _ _ _ _) | exact trivial | (show _ ∧ SWL _ _; apply zaq) | (show _ ∧ CWL _ _; apply zaq) | show CW _ _)))
 | fail)
  | true =>
  rw [hb] at h2
  rw [if_pos rfl] at h2 ⊢
  have hlt := (bsF_at Tk.i T t hb).1
  generalize bsV Tk.i T t = m at *
  have hp : (gT T m).p ≠ 0 := hy_p hv (getD_mem T m ztk hlt)
  have h3 := radd6_spec l n T h (gT T m) hV.ne hl hTl hh1
  rw [show rk6 h (gT T m) = ⟨h, (gT T m).p, (gT T m).g, (gT T m).u⟩ from by unfold rk6; rw [if_neg hp]] at h3
  generalize adR l n T h ⟨h, (gT T m).p, (gT T m).g, (gT T m).u⟩ = q at *
  generalize gT T m = x at *
  obtain ⟨xi, xp, xg, xu⟩ := x
  obtain ⟨⟨ql, qn, qT, qh⟩, qi, qe⟩ := q
  simp only [tkc] at h2 h3 ⊢
  refine fnspec_of mixed TT_ok TT_cl ⟨fun _ => false, fun _ => [], 0, fun _ => false, fun _ => false⟩ Try.func8 rfl (by kernel_rfl) rfl 28 rfl [.cell 4 27, .tmp 5, .tmp 6] rfl ?_
  simp only [go_sem, zaa, zae, zaf, zag, zai, zad, ↓reduceIte, reduceCtorEq, zab, zac, zaj, zak, zal]
  repeat' (first
 | with_reducible refine zaq ?_ ?_
 | (apply cl_plain
    case hs => rfl
    case ha => (simp only [zah, zam, prepV, prepC, idx, hpL', lookR, zaa, if_true, if_false]; rfl)
    case h => (first | exact h1 .. | exact h2 .. | exact h3 ..))
 | ((first | refine s1_id ?_ | refine swp_id ?_ | refine sops_id ?_ | refine s2_id ?_); simp only [zay, zaz, zao, zaA, zaD, zat, zau, zar, zaG, zaH, zax, zap, go_sem, zaa, zae, zaf, zag, zai, zad, ↓reduceIte, reduceCtorEq, zab, zac, zaj, zak, zal, zaP, zaO, zaJ, zaN, renO, bk, back, outUpsFrom, Ints_ren])
 | (intros; omega)
 | (apply fs_nil <;> (try simp only [go_sem, resV, resS, zaP, zaO, zaJ, zaZ, zaU, idx, renO, zaN, evS, slot, lookR, zaa, ↓reduceIte, reduceCtorEq, if_true, if_false, zaQ, zaR, zah, zam, sLoad, readAt, readNeed, Ints_ren, Ints_length, Ints_getD, and_true, true_and, zaL, zaM]) <;> (try rfl))
 | fail)
end Go.Proofs.Ytnahpejlhfeleac
-- NEWGO
-- PRUNE: cl_lendx cl_use
-- ISG: Cs_isG
-- FLAT: Cs_flat
namespace Go.Proofs.Ytnahpejlhfeleac
set_option linter.unusedVariables false
set_option linter.unusedSimpArgs false
open Go.Proofs.Ytnahpejlhfeleac.Sh
set_option maxRecDepth 20000
set_option maxHeartbeats 8000000 in
theorem tsame6_spec (l : List Nd) (n : Int) (k k2 : Option Nat) (hl : l.length ≤ 1000000) : FnSpec Try.prog 20 [trV l k n, trV l k2 n] [] (b1 true) [] := by
  have hnl := nd_len l
  have cn : n = n := rfl
  have cl : (l.length : Int) = l.length := rfl
  refine fnspec_of mixed TT_ok TT_cl ⟨fun _ => false, fun _ => [], 0, fun _ => false, fun _ => false⟩ Try.func20 rfl (by kernel_rfl) rfl 38 rfl [.tmp 4] rfl ?_
  simp only [go_sem, zaa, zae, zaf, zag, zai, zad, ↓reduceIte, reduceCtorEq, zab, zac, zaj, zak, zal, decide_eq_true cn, decide_eq_true cl]
  repeat' (first
 | (intros; (try simp only [zaE, zaI, zaF, zaB, zav, zaw, decide_eq_true_eq, decide_eq_false_iff_not] at *); omega))
  refine w_loop (ι := Nat) (fun m => ⟨[(2, .one (.optr 0 0)), (3, .one (.optr 1 0)), (5, i1 m)], [(0, some ⟨[.gsl (Cs l) 0 l.length k, int n], 2⟩), (1, some ⟨[.gsl (Cs l) 0 l.length k2, int n], 2⟩)], 2⟩) (fun m => m ≤ l.length) (fun m => l.length - m) 0 ?_ (zaW _) ?_
  · (refine imp_ren _ _ _ [(0, 0, ⟨[.gsl (Cs l) 0 l.length k, int n], 2⟩), (1, 1, ⟨[.gsl (Cs l) 0 l.length k2, int n], 2⟩)] (by simp) (by simp) (by simp) (zaC rfl) ?_ rfl (by simp only [zan, zas, false_implies, implies_true, and_true, zaU, lookR, zaa, if_true, if_false, ↓reduceIte] <;> (repeat' apply zaq) <;> (first | rfl | trivial)) (by simp only [zan, zas, false_implies, implies_true, and_true, true_and, flat_cons, flat_nil, flat_ints, flat_bools, flat_app, zaV, and_self, eq_self_iff_true, zao]); simp only [zah, zam, zan, zas, false_implies, implies_true, and_true, lk, slot, zaP, zaJ, toN, zaa, if_true, if_false, ↓reduceIte, reduceCtorEq])
    all_goals ((repeat' apply zaq) <;> (first | rfl | trivial))
  intro m hm
  simp only at hm ⊢
  rcases zbc m l.length with hlt | hge
  case inr =>
    have c : ¬ (m : Int) < (l.length : Int) := by omega
    simp only [go_sem, zaa, zae, zaf, zag, zai, zad, ↓reduceIte, reduceCtorEq, zab, zac, zaj, zak, zal, decide_eq_false c]
    repeat' (first
 | exact fs_nil trivial rfl
 | fail)
  have c : (m : Int) < (l.length : Int) := by omega
  have hN := nd_td l m hlt
  generalize gN l m = x at *
  obtain ⟨xi, xp, xn, xc, xk, xo⟩ := x
  simp only [ndc] at hN
  have r1 : xi = xi := rfl
  have r2 : xp = xp := rfl
  have r3 : xn = xn := rfl
  have r4 : xc = xc := rfl
  have r5 : xk = xk := rfl
  have r6 : xo = xo := rfl
  simp only [go_sem, zaa, zae, zaf, zag, zai, zad, ↓reduceIte, reduceCtorEq, zab, zac, zaj, zak, zal, decide_eq_true c, hN, decide_eq_true r1, decide_eq_true r2, decide_eq_true r3, decide_eq_true r4, decide_eq_true r5, decide_eq_true r6, beq_self_eq_true]
  repeat' (first
 | with_reducible refine zaq ?_ ?_
 | (unfold OKC; kernel_rfl)
 | (unfold EDG; kernel_rfl)
 | (intros; omega)
 | (intros; (try simp only [zaE, zaI, zaF, zaB, zav, zaw, decide_eq_true_eq, decide_eq_false_iff_not] at *); omega))
  refine le_mk (m + 1) ?_ hlt (by omega)
  (refine imp_ren _ _ _ [(0, 0, ⟨[.gsl (Cs l) 0 l.length k, int n], 2⟩), (1, 1, ⟨[.gsl (Cs l) 0 l.length k2, int n], 2⟩)] (by simp) (by simp) (by simp) (zaC rfl) ?_ rfl (by simp only [zan, zas, false_implies, implies_true, and_true, zaU, lookR, zaa, if_true, if_false, ↓reduceIte] <;> (repeat' apply zaq) <;> (first | rfl | trivial)) (by simp only [zan, zas, false_implies, implies_true, and_true, true_and, flat_cons, flat_nil, flat_ints, flat_bools, flat_app, zaV, and_self, eq_self_iff_true, zao]); simp only [zah, zam, zan, zas, false_implies, implies_true, and_true, lk, slot, zaP, zaJ, toN, zaa, if_true, if_false, ↓reduceIte, reduceCtorEq])
  all_goals ((repeat' apply zaq) <;> (first | rfl | trivial | (simp only [zaK]; done) | (simp only [zaK]; rfl) | (simp only [zaK]; trivial)))
theorem mnew_spec : FnSpec Try.prog 21 [] [] (hyV [⟨1, 0, [], 0, 0, 0⟩] none 2 [] none 1) [] := by
  have h1 := tnew_spec
  refine fnspec_of mixed TT_ok TT_cl ⟨fun _ => false, fun _ => [], 0, fun _ => false, fun _ => false⟩ Try.func21 rfl (by kernel_rfl) rfl 3 rfl [.cell 0 27] rfl ?_
  simp only [go_sem, zaa, zae, zaf, zag, zai, zad, ↓reduceIte, reduceCtorEq, zab, zac, zaj, zak, zal]
  repeat' (first
 | (apply cl_plain
    case hs => rfl
    case ha => (simp only [zah, zam, prepV, prepC, idx, hpL', lookR, zaa, if_true, if_false]; rfl)
    case h => (first | exact h1 ..))
 | ((first | refine s1_id ?_ | refine swp_id ?_ | refine sops_id ?_ | refine s2_id ?_); simp only [zay, zaz, zao, zaA, zaD, zat, zau, zar, zaG, zaH, zax, zap, go_sem, zaa, zae, zaf, zag, zai, zad, ↓reduceIte, reduceCtorEq, zab, zac, zaj, zak, zal, zaP, zaO, zaJ, zaN, renO, bk, back, outUpsFrom, Ints_ren])
 | (intros; (try simp only [zaE, zaI, zaF, zaB, zav, zaw, decide_eq_true_eq, decide_eq_false_iff_not] at *); omega))
  repeat' (first
 | (refine fs_w ?h1 (svw_of ?h2); (case h1 => repeat' (first | exact trivial | exact rfl | exact zaC rfl | apply zaq)); (case h2 => repeat' (first | ((with_reducible refine (?_ : CW _ _)); first | exact cw_gnil | exact cw_rfl _ | exact cw_niln _ _ | exact cw_cap _ _ _ _) | exact trivial | (show _ ∧ SWL _ _; apply zaq) | (show _ ∧ CWL _ _; apply zaq) | show CW _ _)))
 | fail)
set_option maxHeartbeats 8000000 in
theorem hsame_spec (l : List Nd) (n : Int) (T : List Tk) (h : Int) (hl : l.length ≤ 1000000) (hT : T.length ≤ 1000000) : FnSpec Try.prog 9 [hyV l none n T none h, hyV l none n T none h] [] (b1 true) [] := by
  have h1 := tsame6_spec l n none none hl
  have hcl := tk_len T
  have cn : h = h := rfl
  have cl : (T.length : Int) = T.length := rfl
  refine fnspec_of mixed TT_ok TT_cl ⟨fun _ => false, fun _ => [], 0, fun _ => false, fun _ => false⟩ Try.func9 rfl (by kernel_rfl) rfl 46 rfl [.tmp 4] rfl ?_
  simp only [go_sem, zaa, zae, zaf, zag, zai, zad, ↓reduceIte, reduceCtorEq, zab, zac, zaj, zak, zal, decide_eq_true cn, decide_eq_true cl]
  repeat' (first
 | (apply cl_plain
    case hs => rfl
    case ha => (simp only [zah, zam, prepV, prepC, idx, hpL', lookR, zaa, if_true, if_false]; rfl)
    case h => (first | exact h1 ..))
 | ((first | refine s1_id ?_ | refine swp_id ?_ | refine sops_id ?_ | refine s2_id ?_); simp only [decide_eq_true cn, decide_eq_true cl, zay, zaz, zao, zaA, zaD, zat, zau, zar, zaG, zaH, zax, zap, go_sem, zaa, zae, zaf, zag, zai, zad, ↓reduceIte, reduceCtorEq, zab, zac, zaj, zak, zal, zaP, zaO, zaJ, zaN, renO, bk, back, outUpsFrom, Ints_ren])
 | (intros; (try simp only [zaE, zaI, zaF, zaB, zav, zaw, decide_eq_true_eq, decide_eq_false_iff_not] at *); omega))
  refine w_loop (ι := Nat) (fun m => ⟨[(2, .one (.optr 0 0)), (3, .one (.optr 1 0)), (5, i1 m)], [(0, some ⟨hyc l none n T none h, 4⟩), (1, some ⟨hyc l none n T none h, 4⟩)], 2⟩) (fun m => m ≤ T.length) (fun m => T.length - m) 0 ?_ (zaW _) ?_
  · (refine imp_ren _ _ _ [(0, 0, ⟨hyc l none n T none h, 4⟩), (1, 1, ⟨hyc l none n T none h, 4⟩)] (by simp) (by simp) (by simp) (zaC rfl) ?_ rfl (by simp only [zan, zas, false_implies, implies_true, and_true, zaU, lookR, zaa, if_true, if_false, ↓reduceIte] <;> (repeat' apply zaq) <;> (first | rfl | trivial)) (by simp only [zan, zas, false_implies, implies_true, and_true, true_and, flat_cons, flat_nil, flat_ints, flat_bools, flat_app, zaV, and_self, eq_self_iff_true, zao]); simp only [zah, zam, zan, zas, false_implies, implies_true, and_true, lk, slot, zaP, zaJ, toN, zaa, if_true, if_false, ↓reduceIte, reduceCtorEq])
    all_goals ((repeat' apply zaq) <;> (first | rfl | trivial))
  clear h1
  intro m hm
  simp only at hm ⊢
  rcases zbc m T.length with hlt | hge
  case inr =>
    have c : ¬ (m : Int) < (T.length : Int) := by omega
    simp only [go_sem, zaa, zae, zaf, zag, zai, zad, ↓reduceIte, reduceCtorEq, zab, zac, zaj, zak, zal, decide_eq_false c]
    repeat' (first
 | exact fs_nil trivial rfl
 | fail)
  have c : (m : Int) < (T.length : Int) := by omega
  have hN := tk_td T m hlt
  generalize gT T m = x at *
  obtain ⟨xi, xp, xg, xu⟩ := x
  simp only [tkc] at hN
  have r1 : xi = xi := rfl
  have r2 : xp = xp := rfl
  have r3 : xg = xg := rfl
  have r4 : xu = xu := rfl
  simp only [go_sem, zaa, zae, zaf, zag, zai, zad, ↓reduceIte, reduceCtorEq, zab, zac, zaj, zak, zal, decide_eq_true c, hN, decide_eq_true r1, decide_eq_true r2, decide_eq_true r3, decide_eq_true r4, beq_self_eq_true]
  repeat' (first
 | with_reducible refine zaq ?_ ?_
 | (unfold OKC; kernel_rfl)
 | (unfold EDG; kernel_rfl)
 | (intros; omega)
 | (intros; (try simp only [zaE, zaI, zaF, zaB, zav, zaw, decide_eq_true_eq, decide_eq_false_iff_not] at *); omega))
  refine le_mk (m + 1) ?_ hlt (by omega)
  (refine imp_ren _ _ _ [(0, 0, ⟨hyc l none n T none h, 4⟩), (1, 1, ⟨hyc l none n T none h, 4⟩)] (by simp) (by simp) (by simp) (zaC rfl) ?_ rfl (by simp only [zan, zas, false_implies, implies_true, and_true, zaU, lookR, zaa, if_true, if_false, ↓reduceIte] <;> (repeat' apply zaq) <;> (first | rfl | trivial)) (by simp only [zan, zas, false_implies, implies_true, and_true, true_and, flat_cons, flat_nil, flat_ints, flat_bools, flat_app, zaV, and_self, eq_self_iff_true, zao]); simp only [zah, zam, zan, zas, false_implies, implies_true, and_true, lk, slot, zaP, zaJ, toN, zaa, if_true, if_false, ↓reduceIte, reduceCtorEq])
  all_goals ((repeat' apply zaq) <;> (first | rfl | trivial | (simp only [zaK]; done) | (simp only [zaK]; rfl) | (simp only [zaK]; trivial)))
end Go.Proofs.Ytnahpejlhfeleac
-- NEWGO
-- PRUNE: cl_use
-- ISG: Cs_isG
-- FLAT: Cs_flat
namespace Go.Proofs.Ytnahpejlhfeleac
set_option linter.unusedVariables false
set_option linter.unusedSimpArgs false
open Go.Proofs.Ytnahpejlhfeleac.Sh
set_option maxRecDepth 20000
abbrev tkt (x : Tk) : SV := .agg (tkc x)
theorem ixR_no (q : Tk → Bool) : ∀ (xs : List Tk) (i : Nat), (∀ x ∈ xs, q x = false) → ixR q xs i = -1
  | [], _, _ => rfl
  | x :: r, i, h => by
    rw [ixR, h x List.mem_cons_self]
    exact ixR_no q r (i + 1) (fun y hy => h y (List.mem_cons_of_mem _ hy))
theorem ixR_yes (q : Tk → Bool) : ∀ (xs : List Tk) (i : Nat), ¬ (∀ x ∈ xs, q x = false) → ∃ t : Nat, ixR q xs i = (i + t : Nat) ∧ t < xs.length ∧ (∀ j, j < t → q (gT xs j) = false) ∧ q (gT xs t) = true
  | [], _, h => absurd (fun x hx => by cases hx) h
  | x :: r, i, h => by
    rw [ixR]
    cases hq : q x with
    | true => exact ⟨0, rfl, Nat.succ_pos _, fun j hj => absurd hj (Nat.not_lt_zero _), hq⟩
    | false =>
      obtain ⟨t, e, ht, h1, h2⟩ := ixR_yes q r (i + 1) (fun h2 => h fun y hy => by
        rcases List.mem_cons.1 hy with rfl | hy
        · exact hq
        · exact h2 y hy)
      refine ⟨t + 1, ?_, Nat.succ_lt_succ ht, fun j hj => ?_, h2⟩
      · show ixR q r (i + 1) = _
        rw [e]; congr 1; omega
      · cases j with
        | zero => exact hq
        | succ j => exact h1 j (by omega)
theorem kp_take (q : Tk → Bool) (xs : List Tk) (j : Nat) (h : j < xs.length) : (xs.take (j + 1)).filter (fun x => !q x) = (xs.take j).filter (fun x => !q x) ++ (if q (gT xs j) = true then [] else [gT xs j]) := by
  rw [take_getD xs j ztk h, List.filter_append]
  cases hq : q (gT xs j) with
  | true => rw [List.filter_cons_of_neg (by show ¬ (!q (gT xs j)) = true; rw [hq]; decide)]; rfl
  | false => rw [List.filter_cons_of_pos (by show (!q (gT xs j)) = true; rw [hq]; rfl)]; rfl
theorem lay_take (cs : List Cell) (o : Nat) (m : List Cell) (h : o ≤ cs.length) : (layAt cs o m).take o = cs.take o := by
  unfold layAt
  rw [List.append_assoc, List.take_append_of_le_length (by rw [List.length_take]; omega), List.take_take, Nat.min_self]
theorem flat_g (k : Nat) (z : List Cell) (hz : ∀ c ∈ z, c.isG = true) : ∀ c ∈ (zba k z).flatten, c.isG = true := fun c hc => by
  obtain ⟨l, hl, hcl⟩ := List.mem_flatten.1 hc
  rw [List.eq_of_mem_replicate hl] at hcl
  exact hz c hcl
theorem filter_take_all {q : Tk → Bool} {xs : List Tk} {t : Nat} (ht : t ≤ xs.length) (hb : ∀ j, j < t → q (gT xs j) = false) : (xs.take t).filter (fun x => !q x) = xs.take t := List.filter_eq_self.2 fun x hx => by
  obtain ⟨j, hj, rfl⟩ := List.mem_iff_getElem.1 hx
  rw [List.length_take] at hj
  have := hb j (by omega)
  rw [show gT xs j = xs[j] from getD_at xs j ztk (by omega)] at this
  rw [List.getElem_take, this]
  rfl
theorem lay_g {cs m : List Cell} {o : Nat} (h1 : ∀ c ∈ cs, c.isG = true) (h2 : ∀ c ∈ m, c.isG = true) : ∀ c ∈ layAt cs o m, c.isG = true := fun c hc => by
  unfold layAt at hc
  rcases List.mem_append.1 hc with hc | hc
  · rcases List.mem_append.1 hc with hc | hc
    · exact h1 c (List.mem_of_mem_take hc)
    · exact h2 c hc
  · exact h1 c (List.mem_of_mem_drop hc)
set_option maxHeartbeats 16000000 in
theorem tdelf_spec (g : FuncId) (c0 : List Cell) (q : Tk → Bool) (xs : List Tk) (hg : ∀ x ∈ xs, FnSpec Try.prog g [tkt x, .one (.gptr c0 0)] [] (b1 (q x)) []) (hl : xs.length ≤ 1000000) : FnSpec Try.prog 39 [.one (.osl 0 0 xs.length none), .one (.fn g [.gptr c0 0])] [⟨Cs xs, 4⟩] (gr (xs.filter (fun x => !q x)) none) [none] := by
  refine FnSpec.capk (fun c hc => ?_)
  have h1 := fun k => tk_ix g c0 q xs (fun x hx => hg x hx) k (by omega)
  have hcl := tk_len xs
  by_cases hno : ∀ x ∈ xs, q x = false
  · have e1 : xs.filter (fun x => !q x) = xs := List.filter_eq_self.2 fun x hx => by simp [hno x hx]
    rw [e1]
    simp only [ixR_no q xs 0 hno] at h1
    refine fnspec_of mixed TT_ok TT_cl ⟨fun _ => false, fun _ => [], 1, fun _ => false, fun _ => false⟩ Try.func39 rfl (by kernel_rfl) rfl 42 rfl [.tmp 4] rfl ?_
    simp only [go_sem, zaa, zae, zaf, zag, zai, zad, ↓reduceIte, reduceCtorEq, zab, zac, zaj, zak, zal]
    repeat' (first
 | (apply cl_show
    case ha => (simp only [zah, zam, prepV, prepC, idx, hpL', lookR, zaa, if_true, if_false]; rfl)
    case hs => ((simp [snaps, SV.refs, zaV, idx, hpL', lookR]) <;> (repeat' apply zaq) <;> (first | exact Ints_isG _ | exact Cs_isG _))
    case h => (first | exact h1 ..)
    case hg => ((simp [SV.noG, SV.noGL, Cell.noG]) <;> (repeat' apply zaq) <;> exact Ints_noG _))
 | ((first | refine s1_id ?_ | refine swp_id ?_ | refine sops_id ?_ | refine s2_id ?_); simp only [zay, zaz, zao, zaA, zaD, zat, zau, zar, zaG, zaH, zax, zap, go_sem, zaa, zae, zaf, zag, zai, zad, ↓reduceIte, reduceCtorEq, zab, zac, zaj, zak, zal, zaP, zaO, zaJ, zaN, renO, bk, back, outUpsFrom, Ints_ren])
 | (intros; (try simp only [zaE, zaI, zaF, zaB, zav, zaw, decide_eq_true_eq, decide_eq_false_iff_not] at *); omega))
    (refine fs_frz 0 ⟨Cs xs, 4⟩ (by simp only [zaU, lookR, zaa, if_true, if_false, ↓reduceIte]) (by first | exact Ints_isG _ | exact Bools_isG _ | exact Cs_isG _ | (simp [zbh]; done)) ?_; simp only [frzTm, SV.frz, zbi, zbd, frzHp, frzO, Ints_frz, Bools_frz, zah, zam, zaa, if_true, if_false, ↓reduceIte])
    refine fs_res (res0 := .one (.gsl (Cs xs) 0 xs.length (some c))) (svw_of (cw_cap _ _ _ _)) ?_
    (refine fs_mk [0] (by simp) (by decide) (by simp only [go_sem, resV, resS, zaP, zaO, zaJ, zaZ, zaU, idx, renO, zaN, evS, slot, lookR, zaa, ↓reduceIte, reduceCtorEq, if_true, if_false, zaQ, zaR, zah, zam, sLoad, readAt, readNeed, Ints_ren, Ints_length, Ints_getD, and_true, true_and, zaL, zaM]; try decide) ?_ ?_ ?_ <;> (try simp only [go_sem, resV, resS, zaP, zaO, zaJ, zaZ, zaU, idx, renO, zaN, evS, slot, lookR, zaa, ↓reduceIte, reduceCtorEq, if_true, if_false, zaQ, zaR, zah, zam, sLoad, readAt, readNeed, Ints_ren, Ints_length, Ints_getD, and_true, true_and, zaL, zaM, zaU, lookR, renO, zaN, zaJ, idx, zah, zam, Ints_ren, zan, zas, false_implies, implies_true, Option.some.injEq, forall_eq', and_true, true_and, frzHp, frzO, Cs_ren]) <;> (try rfl) <;> (try ((repeat' apply zaq) <;> (first | trivial | exact fun c hc q hq => absurd hq (Ints_refs0 _ _ c hc) | (simp [zaV]; done)))))
  · obtain ⟨t, e1, ht, hb, hq⟩ := ixR_yes q xs 0 hno
    rw [zbg] at e1
    simp only [e1] at h1
    refine fnspec_of mixed TT_ok TT_cl ⟨fun _ => false, fun _ => [], 1, fun _ => false, fun _ => false⟩ Try.func39 rfl (by kernel_rfl) rfl 42 rfl [.tmp 4] rfl ?_
    simp only [go_sem, zaa, zae, zaf, zag, zai, zad, ↓reduceIte, reduceCtorEq, zab, zac, zaj, zak, zal]
    repeat' (first
 | with_reducible refine zaq ?_ ?_
 | (apply cl_show
    case ha => (simp only [zah, zam, prepV, prepC, idx, hpL', lookR, zaa, if_true, if_false]; rfl)
    case hs => ((simp [snaps, SV.refs, zaV, idx, hpL', lookR]) <;> (repeat' apply zaq) <;> (first | exact Ints_isG _ | exact Cs_isG _))
    case h => (first | exact h1 ..)
    case hg => ((simp [SV.noG, SV.noGL, Cell.noG]) <;> (repeat' apply zaq) <;> exact Ints_noG _))
 | ((first | refine s1_id ?_ | refine swp_id ?_ | refine sops_id ?_ | refine s2_id ?_); simp only [zay, zaz, zao, zaA, zaD, zat, zau, zar, zaG, zaH, zax, zap, go_sem, zaa, zae, zaf, zag, zai, zad, ↓reduceIte, reduceCtorEq, zab, zac, zaj, zak, zal, zaP, zaO, zaJ, zaN, renO, bk, back, outUpsFrom, Ints_ren])
 | (intros; omega)
 | (intros; (try simp only [zaE, zaI, zaF, zaB, zav, zaw, decide_eq_true_eq, decide_eq_false_iff_not] at *); omega))
    refine w_loop (ι := Nat × Nat × List Tk) (fun s => ⟨[(0, .one (.osl 0 0 xs.length (some c))), (1, .one (.fn g [.gptr c0 0])), (5, i1 s.2.1), (6, i1 s.1)], [(0, some ⟨Cs s.2.2, 4⟩)], 1⟩) (fun s => s.1 ≤ xs.length ∧ s.2.1 < s.1 ∧ s.2.2.length = xs.length ∧ s.2.2.take s.2.1 = (xs.take s.1).filter (fun x => !q x) ∧ s.2.2.drop s.1 = xs.drop s.1) (fun s => xs.length - s.1) (t + 1, t, xs) ?_ ⟨ht, Nat.lt_succ_self t, rfl, ?_, rfl⟩ ?_
    · (refine imp_ren _ _ _ [(0, 0, ⟨Cs xs, 4⟩)] (by simp) (by simp) (by simp) (zaC rfl) ?_ rfl (by simp only [zan, zas, false_implies, implies_true, and_true, zaU, lookR, zaa, if_true, if_false, ↓reduceIte, Cs_flat] <;> (repeat' apply zaq) <;> (first | rfl | trivial)) (by simp only [zan, zas, false_implies, implies_true, and_true, true_and, flat_cons, flat_nil, flat_ints, flat_bools, flat_app, zaV, and_self, eq_self_iff_true, zao, Cs_flat]); simp only [zah, zam, zan, zas, false_implies, implies_true, and_true, lk, slot, zaP, zaJ, toN, zaa, if_true, if_false, ↓reduceIte, reduceCtorEq])
      all_goals ((repeat' apply zaq) <;> (first | rfl | trivial | (simp only [zaK]; done) | (simp only [zaK]; rfl) | (simp only [zaK]; trivial)));;
    · show xs.take t = _
      rw [kp_take q xs t ht, if_pos hq, zao, filter_take_all (by omega) hb]
    clear h1
    rintro ⟨j, i, R⟩ ⟨hj, hij, hRl, hRt, hRd⟩
    simp only at hj hij hRl hRt hRd ⊢
    have hrl := tk_len R
    rcases zbc j xs.length with hlt | hge
    case inr =>
      have cc : ¬ (j : Int) < (xs.length : Int) := by omega
      rw [zaX hge] at hRt
      rw [← hRt]
      have hM : ∀ m, (layAt (Cs R) (i * 4) m).take (i * 4) = Cs (R.take i) := fun m => by
        rw [lay_take _ _ _ (by rw [hrl]; exact Nat.mul_le_mul_right 4 (by omega))]; exact Cs_take R i
      have t0 : Int.toNat 0 = 0 := rfl
      have hti : (R.take i).length = i := by rw [List.length_take]; omega
      simp only [go_sem, zaa, zae, zaf, zag, zai, zad, ↓reduceIte, reduceCtorEq, zab, zac, zaj, zak, zal, decide_eq_false cc]
      repeat' (first
 | with_reducible refine zaq ?_ ?_
 | (intros; omega)
 | (intros; (try simp only [zaE, zaI, zaF, zaB, zav, zaw, decide_eq_true_eq, decide_eq_false_iff_not] at *); omega))
      all_goals try (intro row hrow; cases hrow; rfl)
      rw [show gr (R.take i) none = .one (.gsl (Cs (R.take i)) 0 i none) from by show SV.one (.gsl (Cs (R.take i)) 0 (R.take i).length none) = _; rw [hti], ← hM ((zba (xs.length - i) [zaY (Value.int IntKind.i64 0), zaY (Value.int IntKind.i64 0), zaY (Value.int IntKind.i64 0), zaY (Value.int IntKind.i64 0)]).flatten)]
      have hZ : ∀ z ∈ layAt (Cs R) (i * 4) ((zba (xs.length - i) [zaY (Value.int IntKind.i64 0), zaY (Value.int IntKind.i64 0), zaY (Value.int IntKind.i64 0), zaY (Value.int IntKind.i64 0)]).flatten), z.isG = true := lay_g (Cs_isG R) (flat_g _ _ (fun z hz => by
        simp only [List.mem_cons, zas, or_false] at hz
        rcases hz with rfl | rfl | rfl | rfl <;> rfl))
      have hZf : ∀ r cs, (layAt (Cs R) (i * 4) ((zba (xs.length - i) [zaY (Value.int IntKind.i64 0), zaY (Value.int IntKind.i64 0), zaY (Value.int IntKind.i64 0), zaY (Value.int IntKind.i64 0)]).flatten)).map (zbd r cs) = layAt (Cs R) (i * 4) ((zba (xs.length - i) [zaY (Value.int IntKind.i64 0), zaY (Value.int IntKind.i64 0), zaY (Value.int IntKind.i64 0), zaY (Value.int IntKind.i64 0)]).flatten) := fun r cs => map_id_of (fun z hz => isG_frz (hZ z hz) r cs)
      clear hM
      generalize layAt (Cs R) (i * 4) ((zba (xs.length - i) [zaY (Value.int IntKind.i64 0), zaY (Value.int IntKind.i64 0), zaY (Value.int IntKind.i64 0), zaY (Value.int IntKind.i64 0)]).flatten) = M at *
      refine fs_res (res0 := .one (.gsl M 0 i (some c))) (svw_of (cw_trans (cw_take _ _ _ _ _) (cw_cap _ _ _ _))) ?_
      refine fs_frz 0 ⟨M, 4⟩ (by first | (simp only [zaU, lookR, zaa, if_true, if_false, ↓reduceIte, reduceCtorEq]; done) | rfl) hZ ?_
      simp only [frzTm, SV.frz, zbi, zbd, frzHp, frzO, hZf, Cs_frz, zah, zam, zaa, if_true, if_false, ↓reduceIte]
      (refine fs_mk [0] (by simp) (by decide) (by simp only [go_sem, resV, resS, zaP, zaO, zaJ, zaZ, zaU, idx, renO, zaN, evS, slot, lookR, zaa, ↓reduceIte, reduceCtorEq, if_true, if_false, zaQ, zaR, zah, zam, sLoad, readAt, readNeed, Ints_ren, Ints_length, Ints_getD, and_true, true_and, zaL, zaM]; try decide) ?_ ?_ ?_ <;> (try simp only [go_sem, resV, resS, zaP, zaO, zaJ, zaZ, zaU, idx, renO, zaN, evS, slot, lookR, zaa, ↓reduceIte, reduceCtorEq, if_true, if_false, zaQ, zaR, zah, zam, sLoad, readAt, readNeed, Ints_ren, Ints_length, Ints_getD, and_true, true_and, zaL, zaM, zaU, lookR, renO, zaN, zaJ, idx, zah, zam, Ints_ren, zan, zas, false_implies, implies_true, Option.some.injEq, forall_eq', and_true, true_and, frzHp, frzO, hZf]) <;> (try rfl) <;> (try ((repeat' apply zaq) <;> (first | trivial | exact fun c hc q hq => absurd hq (Ints_refs0 _ _ c hc) | (simp [zaV]; done)))))
    have cc : (j : Int) < (xs.length : Int) := by omega
    have hv : gT R j = gT xs j := by
      have e := congrArg (fun l => l.getD 0 ztk) hRd
      simp only [List.getD_eq_getElem?_getD, List.getElem?_drop, Nat.add_zero] at e
      simpa only [List.getD_eq_getElem?_getD] using e
    have hat : List.take 4 (List.drop (j * 4) (Cs R)) = tkc (gT R j) := tk_td R j (by omega)
    rw [hv] at hat
    have hg1 := hg _ (getD_mem xs j ztk hlt)
    have hg1 : FnSpec Try.prog g [tkt (gT xs j), .one (.gptr c0 0)] [] (b1 (q (gT xs j))) [] := hg1
    have hkt := kp_take q xs j hlt
    have hRd2 : R.drop (j + 1) = xs.drop (j + 1) := by
      have e := congrArg (fun l => l.drop 1) hRd
      simpa only [List.drop_drop] using e
    have hset : putAt (Cs R) (i * 4) (tkc (gT xs j)) = Cs (R.set i (gT xs j)) := Cs_set R i (gT xs j) (by omega)
    have hsl : (R.set i (gT xs j)).length = xs.length := by rw [List.length_set]; exact hRl
    have hst : (R.set i (gT xs j)).take (i + 1) = R.take i ++ [gT xs j] := by
      rw [take_getD _ i ztk (by rw [List.length_set]; omega), List.take_set_of_le (by omega)]
      congr 1
      rw [List.getD_eq_getElem?_getD, List.getElem?_set_self (by omega)]; rfl
    have hsd : (R.set i (gT xs j)).drop (j + 1) = xs.drop (j + 1) := by rw [List.drop_set_of_lt (by omega)]; exact hRd2
    generalize R.set i (gT xs j) = R2 at *
    cases hqv : q (gT xs j) with
    | true =>
      rw [hqv] at hg1
      rw [hqv, if_pos rfl, zao] at hkt
      clear hst hset
      generalize gT xs j = x at *
      obtain ⟨xp, xg, xn, xa⟩ := x
      simp only [tkc] at hat hg1
      simp only [go_sem, zaa, zae, zaf, zag, zai, zad, ↓reduceIte, reduceCtorEq, zab, zac, zaj, zak, zal, decide_eq_true cc, hat]
      repeat' (first
 | with_reducible refine zaq ?_ ?_
 | (apply cl_plain
    case hs => rfl
    case ha => (simp only [zah, zam, prepV, prepC, idx, hpL', lookR, zaa, if_true, if_false]; rfl)
    case h => (first | exact hg1 ..))
 | ((first | refine s1_id ?_ | refine swp_id ?_ | refine sops_id ?_ | refine s2_id ?_); simp only [decide_eq_true cc, hat, zay, zaz, zao, zaA, zaD, zat, zau, zar, zaG, zaH, zax, zap, go_sem, zaa, zae, zaf, zag, zai, zad, ↓reduceIte, reduceCtorEq, zab, zac, zaj, zak, zal, zaP, zaO, zaJ, zaN, renO, bk, back, outUpsFrom, Ints_ren])
 | (intros; omega)
 | (intros; (try simp only [zaE, zaI, zaF, zaB, zav, zaw, decide_eq_true_eq, decide_eq_false_iff_not] at *); omega))
      refine le_mk (j + 1, i, R) ?_ ⟨hlt, by show i < j + 1; omega, hRl, hRt.trans hkt.symm, hRd2⟩ (by show xs.length - (j + 1) < xs.length - j; omega)
      (refine imp_ren _ _ _ [(0, 0, ⟨Cs R, 4⟩)] (by simp) (by simp) (by simp) (zaC rfl) ?_ rfl (by simp only [zan, zas, false_implies, implies_true, and_true, zaU, lookR, zaa, if_true, if_false, ↓reduceIte, Cs_flat] <;> (repeat' apply zaq) <;> (first | rfl | trivial)) (by simp only [zan, zas, false_implies, implies_true, and_true, true_and, flat_cons, flat_nil, flat_ints, flat_bools, flat_app, zaV, and_self, eq_self_iff_true, zao, Cs_flat]); simp only [zah, zam, zan, zas, false_implies, implies_true, and_true, lk, slot, zaP, zaJ, toN, zaa, if_true, if_false, ↓reduceIte, reduceCtorEq])
      all_goals ((repeat' apply zaq) <;> (first | rfl | trivial | (simp only [zaK]; done) | (simp only [zaK]; rfl) | (simp only [zaK]; trivial)))
    | false =>
      rw [hqv] at hg1
      rw [hqv, if_neg (by decide), ← hRt, ← hst] at hkt
      clear hst
      generalize gT xs j = x at *
      obtain ⟨xp, xg, xn, xa⟩ := x
      simp only [tkc] at hat hg1 hset
      simp only [go_sem, zaa, zae, zaf, zag, zai, zad, ↓reduceIte, reduceCtorEq, zab, zac, zaj, zak, zal, decide_eq_true cc, hat, hset]
      repeat' (first
 | with_reducible refine zaq ?_ ?_
 | (apply cl_plain
    case hs => rfl
    case ha => (simp only [zah, zam, prepV, prepC, idx, hpL', lookR, zaa, if_true, if_false]; rfl)
    case h => (first | exact hg1 ..))
 | ((first | refine s1_id ?_ | refine swp_id ?_ | refine sops_id ?_ | refine s2_id ?_); simp only [decide_eq_true cc, hat, hset, zay, zaz, zao, zaA, zaD, zat, zau, zar, zaG, zaH, zax, zap, go_sem, zaa, zae, zaf, zag, zai, zad, ↓reduceIte, reduceCtorEq, zab, zac, zaj, zak, zal, zaP, zaO, zaJ, zaN, renO, bk, back, outUpsFrom, Ints_ren])
 | (intros; omega)
 | (intros; (try simp only [zaE, zaI, zaF, zaB, zav, zaw, decide_eq_true_eq, decide_eq_false_iff_not] at *); omega))
      refine le_mk (j + 1, i + 1, R2) ?_ ⟨hlt, by show i + 1 < j + 1; omega, hsl, hkt.symm, hsd⟩ (by show xs.length - (j + 1) < xs.length - j; omega)
      (refine imp_ren _ _ _ [(0, 0, ⟨Cs R2, 4⟩)] (by simp) (by simp) (by simp) (zaC rfl) ?_ rfl (by simp only [zan, zas, false_implies, implies_true, and_true, zaU, lookR, zaa, if_true, if_false, ↓reduceIte, Cs_flat] <;> (repeat' apply zaq) <;> (first | rfl | trivial)) (by simp only [zan, zas, false_implies, implies_true, and_true, true_and, flat_cons, flat_nil, flat_ints, flat_bools, flat_app, zaV, and_self, eq_self_iff_true, zao, Cs_flat]); simp only [zah, zam, zan, zas, false_implies, implies_true, and_true, lk, slot, zaP, zaJ, toN, zaa, if_true, if_false, ↓reduceIte, reduceCtorEq])
      all_goals ((repeat' apply zaq) <;> (first | rfl | trivial | (simp only [zaK]; done) | (simp only [zaK]; rfl) | (simp only [zaK]; trivial)))
def goB (t : Int) (x : Tk) : Bool := decide (x.i = t) || decide (x.p = t)
theorem gone_spec (t : Int) (x : Tk) : FnSpec Try.prog 38 [.agg (tkc x), .one (.gptr [int t] 0)] [] (b1 (goB t x)) [] := by
  unfold goB
  obtain ⟨i, p, g, u⟩ := x
  simp only [tkc]
  by_cases c : i = t
  · rw [decide_eq_true c, Bool.true_or]
    refine fnspec_of mixed TT_ok TT_cl ⟨fun _ => false, fun _ => [], 0, fun _ => false, fun _ => false⟩ Try.func38 rfl (by kernel_rfl) rfl 14 rfl [.tmp 3] rfl ?_
    simp only [go_sem, zaa, zae, zaf, zag, zai, zad, ↓reduceIte, reduceCtorEq, zab, zac, zaj, zak, zal, decide_eq_true c]
    repeat' (first
 | exact fs_nil trivial rfl
 | fail)
  · rw [decide_eq_false c, Bool.false_or]
    refine fnspec_of mixed TT_ok TT_cl ⟨fun _ => false, fun _ => [], 0, fun _ => false, fun _ => false⟩ Try.func38 rfl (by kernel_rfl) rfl 14 rfl [.tmp 3] rfl ?_
    simp only [go_sem, zaa, zae, zaf, zag, zai, zad, ↓reduceIte, reduceCtorEq, zab, zac, zaj, zak, zal, decide_eq_false c]
    repeat' (first
 | exact fs_nil trivial rfl
 | fail)
def exR (l : List Nd) (n : Int) (T : List Tk) (h t : Int) : Hy × Int := if hyM l n T h = true then (if bsF Tk.i T t = true then ((l, n, T.filter (fun x => !goB t x), h), 0) else (z6, 4)) else (z6, 1)
set_option maxHeartbeats 8000000 in
theorem mexit_spec (l : List Nd) (n : Int) (T : List Tk) (h t : Int) (hl : l.length ≤ 1000000) (hT : T.length ≤ 1000000) (hnm : NmR l) (hct : CtR l) : FnSpec Try.prog 22 [hyV l none n T none h, i1 t] [] (.tup [hyQ (exR l n T h t).1, i1 (exR l n T h t).2]) [] := by
  have h1 := mcheck_spec l n T h hl (by omega) hnm hct
  unfold exR
  cases hv : hyM l n T h with
  | false =>
    rw [hv] at h1
    rw [if_neg (by decide)]
    simp only [Cs_nil, zap]
    refine fnspec_of mixed TT_ok TT_cl ⟨fun _ => false, fun _ => [], 0, fun _ => false, fun _ => false⟩ Try.func22 rfl (by kernel_rfl) rfl 32 rfl [.cell 4 27, .tmp 5] rfl ?_
    simp only [go_sem, zaa, zae, zaf, zag, zai, zad, ↓reduceIte, reduceCtorEq, zab, zac, zaj, zak, zal]
    repeat' (first
 | (apply cl_plain
    case hs => rfl
    case ha => (simp only [zah, zam, prepV, prepC, idx, hpL', lookR, zaa, if_true, if_false]; rfl)
    case h => (first | exact h1 ..))
 | ((first | refine s1_id ?_ | refine swp_id ?_ | refine sops_id ?_ | refine s2_id ?_); simp only [zay, zaz, zao, zaA, zaD, zat, zau, zar, zaG, zaH, zax, zap, go_sem, zaa, zae, zaf, zag, zai, zad, ↓reduceIte, reduceCtorEq, zab, zac, zaj, zak, zal, zaP, zaO, zaJ, zaN, renO, bk, back, outUpsFrom, Ints_ren])
 | (intros; (try simp only [zaE, zaI, zaF, zaB, zav, zaw, decide_eq_true_eq, decide_eq_false_iff_not] at *); omega))
    repeat' (first
 | (refine fs_w ?h1 (svw_of ?h2); (case h1 => repeat' (first | exact trivial | exact rfl | exact zaC rfl | apply zaq)); (case h2 => repeat' (first | ((with_reducible refine (?_ : CW _ _)); first | exact cw_gnil | exact cw_rfl _ | exact cw_niln _ _ | exact cw_cap _ _ _ _) | exact trivial | (show _ ∧ SWL _ _; apply zaq) | (show _ ∧ CWL _ _; apply zaq) | show CW _ _)))
 | fail)
  | true =>
  rw [hv] at h1
  rw [if_pos rfl]
  have h2 := mindex_spec l none n T none h t (by omega)
  cases hb : bsF Tk.i T t with
  | false =>
    rw [hb] at h2
    rw [if_neg (by decide)]
    simp only [Cs_nil, zap]
    refine fnspec_of mixed TT_ok TT_cl ⟨fun _ => false, fun _ => [], 0, fun _ => false, fun _ => false⟩ Try.func22 rfl (by kernel_rfl) rfl 32 rfl [.cell 4 27, .tmp 5] rfl ?_
    simp only [go_sem, zaa, zae, zaf, zag, zai, zad, ↓reduceIte, reduceCtorEq, zab, zac, zaj, zak, zal]
    repeat' (first
 | (apply cl_plain
    case hs => rfl
    case ha => (simp only [zah, zam, prepV, prepC, idx, hpL', lookR, zaa, if_true, if_false]; rfl)
    case h => (first | exact h1 .. | exact h2 ..))
 | ((first | refine s1_id ?_ | refine swp_id ?_ | refine sops_id ?_ | refine s2_id ?_); simp only [zay, zaz, zao, zaA, zaD, zat, zau, zar, zaG, zaH, zax, zap, go_sem, zaa, zae, zaf, zag, zai, zad, ↓reduceIte, reduceCtorEq, zab, zac, zaj, zak, zal, zaP, zaO, zaJ, zaN, renO, bk, back, outUpsFrom, Ints_ren])
 | (intros; (try simp only [zaE, zaI, zaF, zaB, zav, zaw, decide_eq_true_eq, decide_eq_false_iff_not] at *); omega))
    repeat' (first
 | (refine fs_w ?h1 (svw_of ?h2); (case h1 => repeat' (first | exact trivial | exact rfl | exact zaC rfl | apply zaq)); (case h2 => repeat' (first | ((with_reducible refine (?_ : CW _ _)); first | exact cw_gnil | exact cw_rfl _ | exact cw_niln _ _ | exact cw_cap _ _ _ _) | exact trivial | (show _ ∧ SWL _ _; apply zaq) | (show _ ∧ CWL _ _; apply zaq) | show CW _ _)))
 | fail)
  | true =>
  rw [hb] at h2
  rw [if_pos rfl]
  have h3 := chier_spec l n T h hl hT
  have h4 := tdelf_spec 38 [int t] (goB t) T (fun x _ => gone_spec t x) hT
  generalize T.filter (fun x => !goB t x) = R at *
  refine fnspec_of mixed TT_ok TT_cl ⟨fun _ => false, fun f => if f = 39 then [0] else [], 0 , fun _ => false, fun i => if i = 7 then true else false⟩ Try.func22 rfl (by kernel_rfl) rfl 32 rfl [.cell 4 27, .tmp 5] rfl ?_
  simp only [go_sem, zaa, zae, zaf, zag, zai, zad, ↓reduceIte, reduceCtorEq, zab, zac, zaj, zak, zal]
  repeat' (first
 | (apply cl_plain
    case hs => rfl
    case ha => (simp only [zah, zam, prepV, prepC, idx, hpL', lookR, zaa, if_true, if_false]; rfl)
    case h => (first | exact h1 .. | exact h2 .. | exact h3 ..))
 | ((first | refine s1_id ?_ | refine swp_id ?_ | refine sops_id ?_ | refine s2_id ?_); simp only [zay, zaz, zao, zaA, zaD, zat, zau, zar, zaG, zaH, zax, zap, go_sem, zaa, zae, zaf, zag, zai, zad, ↓reduceIte, reduceCtorEq, zab, zac, zaj, zak, zal, zaP, zaO, zaJ, zaN, renO, bk, back, outUpsFrom, Ints_ren])
 | (intros; (try simp only [zaE, zaI, zaF, zaB, zav, zaw, decide_eq_true_eq, decide_eq_false_iff_not] at *); omega))
  (refine rgf_t _ (imp_frz _ _ 1 ⟨[int t], 1⟩ (by simp only [zaU, lookR, zaa, if_true, if_false, ↓reduceIte]) (by first | exact Ints_isG _ | exact Bools_isG _ | exact Cs_isG _ | (simp [zbh]; done))) ?_; simp only [frzTm, SV.frz, zbi, zbd, frzHp, frzO, Ints_frz, Bools_frz, zah, zam, zaa, if_true, if_false, ↓reduceIte])
  simp only [go_sem, zaa, zae, zaf, zag, zai, zad, ↓reduceIte, reduceCtorEq, zab, zac, zaj, zak, zal]
  repeat' (first
 | (apply cl_lend
    case hr => (simp only [zah, zam, hpL', lookR, zaa, if_true, if_false]; first | exact map1 _ | exact map2 _ _ | exact map3 _ _ _)
    case ha => (simp only [zah, zam, prepV, prepC, idx, hpL', lookR, zaa, if_true, if_false]; rfl)
    case hs => rfl
    case hn => decide
    case h => (first | exact h4 ..)
    case hf => (simp only [zan, zas, false_implies, implies_true, and_true, true_and, flat_cons, flat_nil, flat_ints, flat_bools, flat_app, Cs_flat, zaV, and_self, eq_self_iff_true, zao])
    case hl => (simp only [zax, zap]; decide))
 | ((first | refine s1_id ?_ | refine swp_id ?_ | refine sops_id ?_ | refine s2_id ?_); simp only [zay, zaz, zao, zaA, zaD, zat, zau, zar, zaG, zaH, zax, zap, go_sem, zaa, zae, zaf, zag, zai, zad, ↓reduceIte, reduceCtorEq, zab, zac, zaj, zak, zal, zaP, zaO, zaJ, zaN, renO, bk, back, outUpsFrom, Ints_ren])
 | (intros; (try simp only [zaE, zaI, zaF, zaB, zav, zaw, decide_eq_true_eq, decide_eq_false_iff_not] at *); omega))
  (refine fs_frz 18 ⟨Cs l, 6⟩ (by simp only [zaU, lookR, zaa, if_true, if_false, ↓reduceIte]) (by first | exact Ints_isG _ | exact Bools_isG _ | exact Cs_isG _ | (simp [zbh]; done)) ?_; simp only [frzTm, SV.frz, zbi, zbd, frzHp, frzO, Ints_frz, Bools_frz, zah, zam, zaa, if_true, if_false, ↓reduceIte])
  simp only [frzHp, frzO, Cs_frz, zah, zam]
  repeat' (first
 | (refine fs_w ?h1 (svw_of ?h2); (case h1 => repeat' (first | exact trivial | exact rfl | exact zaC rfl | apply zaq)); (case h2 => repeat' (first | ((with_reducible refine (?_ : CW _ _)); first | exact cw_gnil | exact cw_rfl _ | exact cw_niln _ _ | exact cw_cap _ _ _ _) | exact trivial | (show _ ∧ SWL _ _; apply zaq) | (show _ ∧ CWL _ _; apply zaq) | show CW _ _)))
 | fail)
end Go.Proofs.Ytnahpejlhfeleac
-- NEWGO
-- PRUNE: cl_lendx cl_use
-- ISG: Cs_isG
-- FLAT: Cs_flat
namespace Go.Proofs.Ytnahpejlhfeleac
set_option linter.unusedVariables false
set_option linter.unusedSimpArgs false
open Go.Proofs.Ytnahpejlhfeleac.Sh
set_option maxRecDepth 20000
abbrev kR : List Nd := [⟨1, 0, [], 0, 0, 0⟩]
theorem kR_N : NmR kR := fun x hx => by simp only [List.mem_cons, zas, or_false] at hx; subst hx; decide
theorem kR_C : CtR kR := fun x hx => by simp only [List.mem_cons, zas, or_false] at hx; subst hx; decide
set_option maxHeartbeats 8000000 in
theorem sane6_spec : FnSpec Try.prog 10 [] [] (b1 true) [] := by
  have a0 := mnew_spec
  have a1 := mspawn_spec kR 2 [] 1 1 0 (by decide) (by decide) kR_N kR_C
  rw [show spR kR 2 [] 1 1 0 = ((kR, 2, [⟨1, 1, 1, 0⟩], 2), 1, 0) from by kernel_rfl] at a1
  have a2 := mclone_spec kR 2 [⟨1, 1, 1, 0⟩] 2 1 (by decide) (by decide) kR_N kR_C
  rw [show clR kR 2 [⟨1, 1, 1, 0⟩] 2 1 = ((kR, 2, [⟨1, 1, 1, 0⟩, ⟨2, 1, 1, 0⟩], 3), 2, 0) from by kernel_rfl] at a2
  have a3 := mexit_spec kR 2 [⟨1, 1, 1, 0⟩, ⟨2, 1, 1, 0⟩] 3 1 (by decide) (by decide) kR_N kR_C
  rw [show exR kR 2 [⟨1, 1, 1, 0⟩, ⟨2, 1, 1, 0⟩] 3 1 = ((kR, 2, [], 3), 0) from by kernel_rfl] at a3
  simp only [zax, zap, zbg, zae] at a0 a1 a2 a3
  refine fnspec_of mixed TT_ok TT_cl ⟨fun _ => false, fun _ => [], 0, fun _ => false, fun _ => false⟩ Try.func10 rfl (by kernel_rfl) rfl 56 rfl [.tmp 0] rfl ?_
  simp only [go_sem, zaa, zae, zaf, zag, zai, zad, ↓reduceIte, reduceCtorEq, zab, zac, zaj, zak, zal]
  repeat' (first
 | (apply cl_plain
    case hs => rfl
    case ha => (simp only [zah, zam, prepV, prepC, idx, hpL', lookR, zaa, if_true, if_false]; rfl)
    case h => (first | exact a0 .. | exact a1 .. | exact a2 .. | exact a3 ..))
 | ((first | refine s1_id ?_ | refine swp_id ?_ | refine sops_id ?_ | refine s2_id ?_); simp only [zay, zaz, zao, zaA, zaD, zat, zau, zar, zaG, zaH, zax, zap, decide_true, go_sem, zaa, zae, zaf, zag, zai, zad, ↓reduceIte, reduceCtorEq, zab, zac, zaj, zak, zal, zaP, zaO, zaJ, zaN, renO, bk, back, outUpsFrom, Ints_ren])
 | exact fs_nil trivial rfl
 | fail)
end Go.Proofs.Ytnahpejlhfeleac
-- NEWGO
-- PRUNE: cl_lendx cl_use
-- ISG: Cs_isG
-- FLAT: Cs_flat
namespace Go.Proofs.Ytnahpejlhfeleac
set_option linter.unusedVariables false
set_option linter.unusedSimpArgs false
open Go.Proofs.Ytnahpejlhfeleac.Sh
set_option maxRecDepth 20000
theorem rnew6n_spec : FnSpec Try.prog 4 [] [] (.agg [.gsl (Cs kR) 0 1 none, int 2, .sc (.slice none 0 0), int 1]) [] := by
  have h1 := trnew_spec
  refine fnspec_of mixed TT_ok TT_cl ⟨fun _ => false, fun _ => [], 0, fun _ => false, fun _ => false⟩ Try.func4 rfl (by kernel_rfl) rfl 3 rfl [.cell 0 27] rfl ?_
  simp only [go_sem, zaa, zae, zaf, zag, zai, zad, ↓reduceIte, reduceCtorEq, zab, zac, zaj, zak, zal]
  repeat' (first
 | (apply cl_plain
    case hs => rfl
    case ha => (simp only [zah, zam, prepV, prepC, idx, hpL', lookR, zaa, if_true, if_false]; rfl)
    case h => (first | exact h1 ..))
 | ((first | refine s1_id ?_ | refine swp_id ?_ | refine sops_id ?_ | refine s2_id ?_); simp only [zay, zaz, zao, zaA, zaD, zat, zau, zar, zaG, zaH, zax, zap, go_sem, zaa, zae, zaf, zag, zai, zad, ↓reduceIte, reduceCtorEq, zab, zac, zaj, zak, zal, zaP, zaO, zaJ, zaN, renO, bk, back, outUpsFrom, Ints_ren])
 | (intros; (try simp only [zaE, zaI, zaF, zaB, zav, zaw, decide_eq_true_eq, decide_eq_false_iff_not] at *); omega))
  repeat' (first
 | (refine fs_w ?h1 (svw_of ?h2); (case h1 => repeat' (first | exact trivial | exact rfl | exact zaC rfl | apply zaq)); (case h2 => repeat' (first | ((with_reducible refine (?_ : CW _ _)); first | exact cw_gnil | exact cw_rfl _ | exact cw_niln _ _ | exact cw_cap _ _ _ _) | exact trivial | (show _ ∧ SWL _ _; apply zaq) | (show _ ∧ CWL _ _; apply zaq) | show CW _ _)))
 | fail)
def tkL (m : Nat) : List Tk := (List.range m).map (fun j : Nat => (⟨j + 1, j + 1, 1, 0⟩ : Tk))
theorem tkL_len (m : Nat) : (tkL m).length = m := by unfold tkL; rw [List.length_map, List.length_range]
theorem tkL_succ (m : Nat) : tkL (m + 1) = tkL m ++ [⟨m + 1, m + 1, 1, 0⟩] := by
  unfold tkL
  rw [List.range_succ, List.map_append]; rfl
theorem ad_len (l : List Nd) (n : Int) (T : List Tk) (h : Int) (k : Tk) : (adR l n T h k).1.1.length ≤ l.length ∧ (adR l n T h k).1.2.2.1.length ≤ T.length + 1 := by
  unfold adR
  split
  · exact ⟨zaW _, zaW _⟩
  · split
    · exact ⟨zaW _, zaW _⟩
    · exact ⟨zbf _, by show (T ++ [k]).length ≤ _; simp⟩
theorem sp_len (l : List Nd) (n : Int) (T : List Tk) (h g u : Int) : (spR l n T h g u).1.1.length ≤ l.length ∧ (spR l n T h g u).1.2.2.1.length ≤ T.length + 1 := by
  unfold spR
  repeat' split
  · exact ad_len ..
  all_goals exact ⟨zaW _, zaW _⟩
theorem cl_len6 (l : List Nd) (n : Int) (T : List Tk) (h t : Int) : (clR l n T h t).1.1.length ≤ l.length ∧ (clR l n T h t).1.2.2.1.length ≤ T.length + 1 := by
  unfold clR
  repeat' split
  · exact ad_len ..
  all_goals exact ⟨zaW _, zaW _⟩
set_option maxHeartbeats 32000000 in
theorem limits6_spec (a b : Int) (ha : 0 ≤ a ∧ a ≤ 255) (hb : 0 ≤ b ∧ b ≤ 255) : FnSpec Try.prog 3 [.one (.sc (.int .u8 a)), .one (.sc (.int .u8 b))] [] (b1 true) [] := by
  have h0 := rnew6n_spec
  have hm := Int.tmod_eq_emod_of_nonneg (a := a) (b := 2) ha.1
  have hm2 := Int.tmod_eq_emod_of_nonneg (a := b) (b := 3) hb.1
  obtain ⟨w, hw⟩ : ∃ w : Nat, (w : Int) = 128 - a.tmod 2 := ⟨(128 - a.tmod 2).toNat, by omega⟩
  refine fnspec_of mixed TT_ok TT_cl ⟨fun _ => false, fun _ => [], 0, fun _ => false, fun _ => false⟩ Try.func3 rfl (by kernel_rfl) rfl 112 rfl [.tmp 4] rfl ?_
  simp only [go_sem, zaa, zae, zaf, zag, zai, zad, ↓reduceIte, reduceCtorEq, zab, zac, zaj, zak, zal]
  repeat' (first
 | (apply cl_plain
    case hs => rfl
    case ha => (simp only [zah, zam, prepV, prepC, idx, hpL', lookR, zaa, if_true, if_false]; rfl)
    case h => (first | exact h0 ..))
 | ((first | refine s1_id ?_ | refine swp_id ?_ | refine sops_id ?_ | refine s2_id ?_); simp only [zay, zaz, zao, zaA, zaD, zat, zau, zar, zaG, zaH, zax, zap, go_sem, zaa, zae, zaf, zag, zai, zad, ↓reduceIte, reduceCtorEq, zab, zac, zaj, zak, zal, zaP, zaO, zaJ, zaN, renO, bk, back, outUpsFrom, Ints_ren])
 | (intros; (try simp only [zaE, zaI, zaF, zaB, zav, zaw, decide_eq_true_eq, decide_eq_false_iff_not] at *); omega))
  refine w_loop (ι := Nat) (fun i => ⟨[(0, .one (.sc (.int .u8 a))), (1, .one (.sc (.int .u8 b))), (5, .one (.optr 0 0)), (6, i1 i)], [(0, some ⟨[.gsl (Cs kR) 0 1 none, int 2, .osl 1 0 (tkL i).length none, int 1], 4⟩), (1, some ⟨Cs (tkL i), 4⟩)], 2⟩) (fun i => i ≤ w) (fun i => w - i) 0 ?_ (zaW _) ?_
  · (refine Imp.trans (imp_nilC _ _ 2 2 4 99 (by simp only []; omega) (by simp only [zaU, lookR, zaa, if_true, if_false, ↓reduceIte]; rfl) rfl) ?_)
    (refine imp_sub _ _ _ [(0, 2), (1, 99)] (by simp) (by simp) (by simp) (zaC rfl) ?_ (by simp only [zah, zam, zaU, lookR, renO, zaN, zaJ, toN, Ints_ren, Bools_ren, zaa, if_true, if_false, ↓reduceIte, Cs_ren, Cs_flat] <;> (try rfl)) (by simp only [zan, zas, false_implies, implies_true, and_true, zaU, lookR, zaa, if_true, if_false, ↓reduceIte, Option.some.injEq, forall_eq'] <;> ((repeat' with_reducible apply zaq) <;> (first | with_reducible trivial | exact fun c hc q hq => absurd hq (Ints_refs0 _ _ c hc) | exact fun c hc q hq => absurd hq (by rw [Cs_flat _ c hc]; exact zas) | (simp [zaV, toN]; done)))); simp only [zah, zam, zan, zas, false_implies, implies_true, and_true, lk, slot, zaP, zaJ, toN, zaa, if_true, if_false, ↓reduceIte, reduceCtorEq])
    all_goals ((repeat' apply zaq) <;> (first | rfl | trivial))
  intro i hi
  simp only at hi ⊢
  have hln := tkL_len i
  have hcl := tk_len (tkL i)
  rcases zbc i w with hlt | hge
  case inl =>
    have c : (i : Int) < 128 - a.tmod 2 := by omega
    have htk : List.take ((tkL i).length * 4) (Cs (tkL i)) = Cs (tkL i) := zaX (by rw [hcl]; exact zbf _)
    have hpp : Cs (tkL i) ++ [int ((i : Int) + 1), int ((i : Int) + 1), int 1, int 0] = Cs (tkL (i + 1)) := by rw [tkL_succ]; exact Cs_snoc (tkL i) ⟨(i : Int) + 1, (i : Int) + 1, 1, 0⟩
    have hl2 : (tkL (i + 1)).length = (tkL i).length + 1 := by rw [tkL_len, tkL_len]
    simp only [go_sem, zaa, zae, zaf, zag, zai, zad, ↓reduceIte, reduceCtorEq, zab, zac, zaj, zak, zal, decide_eq_true c, htk, hpp]
    repeat' (first
 | with_reducible refine zaq ?_ ?_
 | (intros; omega)
 | (intros; (try simp only [zaE, zaI, zaF, zaB, zav, zaw, decide_eq_true_eq, decide_eq_false_iff_not] at *); omega))
    all_goals first | (exact zbf _) | (show (_ : Nat) = 4; rfl) | skip
    refine le_mk (i + 1) ?_ hlt (by show w - (i + 1) < w - i; omega)
    simp only [hl2, zay, zaz, zao, zaA, zaD, zat, zau, zar, zaG, zaH, zax, zap, hpp]
    (refine imp_sub _ _ _ [(0, 0), (1, 16)] (by simp) (by simp) (by simp) (zaC rfl) ?_ (by simp only [zah, zam, zaU, lookR, renO, zaN, zaJ, toN, Ints_ren, Bools_ren, zaa, if_true, if_false, ↓reduceIte, Cs_ren, Cs_flat] <;> (try rfl)) (by simp only [zan, zas, false_implies, implies_true, and_true, zaU, lookR, zaa, if_true, if_false, ↓reduceIte, Option.some.injEq, forall_eq'] <;> ((repeat' with_reducible apply zaq) <;> (first | with_reducible trivial | exact fun c hc q hq => absurd hq (Ints_refs0 _ _ c hc) | exact fun c hc q hq => absurd hq (by rw [Cs_flat _ c hc]; exact zas) | (simp [zaV, toN]; done)))); simp only [zah, zam, zan, zas, false_implies, implies_true, and_true, lk, slot, zaP, zaJ, toN, zaa, if_true, if_false, ↓reduceIte, reduceCtorEq])
    all_goals ((repeat' apply zaq) <;> (first | rfl | trivial | (simp only [zaK]; done) | (simp only [zaK]; rfl) | (simp only [zaK]; trivial)))
  have hiw : i = w := by omega
  subst hiw
  have c : ¬ (i : Int) < 128 - a.tmod 2 := by omega
  simp only [go_sem, zaa, zae, zaf, zag, zai, zad, ↓reduceIte, reduceCtorEq, zab, zac, zaj, zak, zal, decide_eq_false c]
  repeat' (first
 | with_reducible refine zaq ?_ ?_
 | (apply cl_plain
    case hs => rfl
    case ha => (simp only [zah, zam, prepV, prepC, idx, hpL', lookR, zaa, if_true, if_false]; rfl)
    case h => (first | exact h0 ..))
 | ((first | refine s1_id ?_ | refine swp_id ?_ | refine sops_id ?_ | refine s2_id ?_); simp only [decide_eq_false c, zay, zaz, zao, zaA, zaD, zat, zau, zar, zaG, zaH, zax, zap, go_sem, zaa, zae, zaf, zag, zai, zad, ↓reduceIte, reduceCtorEq, zab, zac, zaj, zak, zal, zaP, zaO, zaJ, zaN, renO, bk, back, outUpsFrom, Ints_ren])
 | (intros; omega)
 | (intros; (try simp only [zaE, zaI, zaF, zaB, zav, zaw, decide_eq_true_eq, decide_eq_false_iff_not] at *); omega))
  have hTl : (tkL i).length ≤ 128 := by omega
  clear hcl
  generalize tkL i = T at *
  refine w_loop (ι := Nat) (fun k => ⟨[(50, .one (.osl 0 0 2 (some 2))), (51, i1 2), (52, i1 k)], [(0, some ⟨[.gsl (Cs kR) 0 1 none, int 2, .gsl (Cs T) 0 T.length none, int 129, .gsl (Cs kR) 0 1 none, int 2, .sc (.slice none 0 0), int (2147483648 - b.tmod 3)], 4⟩)], 1⟩) (fun k => k ≤ 2) (fun k => 2 - k) 0 ?_ (zaW _) ?_
  · (refine Imp.trans (imp_frz _ _ 1 ⟨Cs T, 4⟩ (by simp only [zaU, lookR, zaa, if_true, if_false, ↓reduceIte]) (by first | exact Ints_isG _ | exact Bools_isG _ | exact Cs_isG _ | (simp [zbh]; done))) ?_; simp only [frzTm, SV.frz, zbi, zbd, frzHp, frzO, Ints_frz, Bools_frz, zah, zam, zaa, if_true, if_false, ↓reduceIte])
    (refine imp_ren _ _ _ [(0, 21, ⟨[.gsl (Cs kR) 0 1 none, int 2, .gsl (Cs T) 0 T.length none, int 129, .gsl (Cs kR) 0 1 none, int 2, .sc (.slice none 0 0), int (2147483648 - b.tmod 3)], 4⟩)] (by simp) (by simp) (by simp) (zaC rfl) ?_ rfl (by simp only [zan, zas, false_implies, implies_true, and_true, zaU, lookR, zaa, if_true, if_false, ↓reduceIte] <;> (repeat' apply zaq) <;> (first | rfl | trivial)) (by simp only [zan, zas, false_implies, implies_true, and_true, true_and, flat_cons, flat_nil, flat_ints, flat_bools, flat_app, zaV, and_self, eq_self_iff_true, zao]); simp only [zah, zam, zan, zas, false_implies, implies_true, and_true, lk, slot, zaP, zaJ, toN, zaa, if_true, if_false, ↓reduceIte, reduceCtorEq])
    all_goals ((repeat' apply zaq) <;> (first | rfl | trivial))
  intro k hk
  simp only at hk ⊢
  have t0 : Int.toNat 0 = 0 := rfl
  have t1 : Int.toNat 1 = 1 := rfl
  rcases (show k = 0 ∨ k = 1 ∨ k = 2 by omega) with rfl | rfl | rfl
  case inr.inr =>
    have sn := sane6_spec
    simp only [go_sem, zaa, zae, zaf, zag, zai, zad, ↓reduceIte, reduceCtorEq, zab, zac, zaj, zak, zal]
    repeat' (first
 | (apply cl_plain
    case hs => rfl
    case ha => (simp only [zah, zam, prepV, prepC, idx, hpL', lookR, zaa, if_true, if_false]; rfl)
    case h => (first | exact sn ..))
 | ((first | refine s1_id ?_ | refine swp_id ?_ | refine sops_id ?_ | refine s2_id ?_); simp only [zay, zaz, zao, zaA, zaD, zat, zau, zar, zaG, zaH, zax, zap, go_sem, zaa, zae, zaf, zag, zai, zad, ↓reduceIte, reduceCtorEq, zab, zac, zaj, zak, zal, zaP, zaO, zaJ, zaN, renO, bk, back, outUpsFrom, Ints_ren])
 | exact fs_nil trivial rfl
 | fail)
  · simp only [go_sem, zaa, zae, zaf, zag, zai, zad, ↓reduceIte, reduceCtorEq, zab, zac, zaj, zak, zal, t0, t1, Nat.zero_mul, Nat.one_mul, List.drop_zero, zbb]
    have s1 := mspawn_spec kR 2 T 129 1 0 (by decide) (by omega) kR_N kR_C
    have s2 := rspawn6_spec kR 2 T 129 1 0 (by decide) (by omega) kR_N
    have s3 := mclone_spec kR 2 T 129 1 (by decide) (by omega) kR_N kR_C
    have s4 := rclone6_spec kR 2 T 129 1 (by decide) (by omega) kR_N
    obtain ⟨m1, m2⟩ := sp_len kR 2 T 129 1 0
    obtain ⟨m3, m4⟩ := cl_len6 kR 2 T 129 1
    have m1 : _ ≤ 1 := m1
    have m3 : _ ≤ 1 := m3
    generalize spR kR 2 T 129 1 0 = q1 at *
    generalize clR kR 2 T 129 1 = q2 at *
    obtain ⟨⟨xl, xn, xT, xh⟩, xi, xe⟩ := q1
    obtain ⟨⟨yl, yn, yT, yh⟩, yi, ye⟩ := q2
    simp only at s1 s2 s3 s4 m1 m2 m3 m4
    have z1 := hsame_spec xl xn xT xh (by omega) (by omega)
    have z2 := hsame_spec yl yn yT yh (by omega) (by omega)
    repeat' (first
 | with_reducible refine zaq ?_ ?_
 | (apply cg_tp
    case hl => rfl
    case ha => (simp only [zah, zam, prepV, prepC, idx, hpL', lookR, zaa, if_true, if_false]; rfl)
    case hs => rfl
    case h => (first | exact s1 .. | exact s2 .. | exact s3 .. | exact s4 .. | exact z1 .. | exact z2 ..))
 | (apply cl_plain
    case hs => rfl
    case ha => (simp only [zah, zam, prepV, prepC, idx, hpL', lookR, zaa, if_true, if_false]; rfl)
    case h => (first | exact s1 .. | exact s2 .. | exact s3 .. | exact s4 .. | exact z1 .. | exact z2 ..))
 | ((first | refine s1_id ?_ | refine swp_id ?_ | refine sops_id ?_ | refine s2_id ?_); simp only [t0, t1, Nat.zero_mul, Nat.one_mul, List.drop_zero, zbb, decide_true, beq_self_eq_true, Bool.not_true, zay, zaz, zao, zaA, zaD, zat, zau, zar, zaG, zaH, zax, zap, go_sem, zaa, zae, zaf, zag, zai, zad, ↓reduceIte, reduceCtorEq, zab, zac, zaj, zak, zal, zaP, zaO, zaJ, zaN, renO, bk, back, outUpsFrom, Ints_ren])
 | (intros; omega)
 | (intros; (try simp only [zaE, zaI, zaF, zaB, zav, zaw, decide_eq_true_eq, decide_eq_false_iff_not] at *); omega))
    refine le_mk 1 ?_ (by decide) (by decide)
    (refine imp_ren _ _ _ [(0, 0, ⟨[.gsl (Cs kR) 0 1 none, int 2, .gsl (Cs T) 0 T.length none, int 129, .gsl (Cs kR) 0 1 none, int 2, .sc (.slice none 0 0), int (2147483648 - b.tmod 3)], 4⟩)] (by simp) (by simp) (by simp) (zaC rfl) ?_ rfl (by simp only [zan, zas, false_implies, implies_true, and_true, zaU, lookR, zaa, if_true, if_false, ↓reduceIte] <;> (repeat' apply zaq) <;> (first | rfl | trivial)) (by simp only [zan, zas, false_implies, implies_true, and_true, true_and, flat_cons, flat_nil, flat_ints, flat_bools, flat_app, zaV, and_self, eq_self_iff_true, zao]); simp only [zah, zam, zan, zas, false_implies, implies_true, and_true, lk, slot, zaP, zaJ, toN, zaa, if_true, if_false, ↓reduceIte, reduceCtorEq])
    all_goals ((repeat' apply zaq) <;> (first | rfl | trivial | (simp only [zaK]; done) | (simp only [zaK]; rfl) | (simp only [zaK]; trivial)))
  · simp only [go_sem, zaa, zae, zaf, zag, zai, zad, ↓reduceIte, reduceCtorEq, zab, zac, zaj, zak, zal, t0, t1, Nat.zero_mul, Nat.one_mul, List.drop_zero, zbb]
    have s1 := mspawn_spec kR 2 [] (2147483648 - b.tmod 3) 1 0 (by decide) (by decide) kR_N kR_C
    have s2 := rspawn6_spec kR 2 [] (2147483648 - b.tmod 3) 1 0 (by decide) (by decide) kR_N
    have s3 := mclone_spec kR 2 [] (2147483648 - b.tmod 3) 1 (by decide) (by decide) kR_N kR_C
    have s4 := rclone6_spec kR 2 [] (2147483648 - b.tmod 3) 1 (by decide) (by decide) kR_N
    obtain ⟨m1, m2⟩ := sp_len kR 2 [] (2147483648 - b.tmod 3) 1 0
    obtain ⟨m3, m4⟩ := cl_len6 kR 2 [] (2147483648 - b.tmod 3) 1
    have m1 : _ ≤ 1 := m1
    have m3 : _ ≤ 1 := m3
    generalize spR kR 2 [] (2147483648 - b.tmod 3) 1 0 = q1 at *
    generalize clR kR 2 [] (2147483648 - b.tmod 3) 1 = q2 at *
    obtain ⟨⟨xl, xn, xT, xh⟩, xi, xe⟩ := q1
    obtain ⟨⟨yl, yn, yT, yh⟩, yi, ye⟩ := q2
    simp only at s1 s2 s3 s4 m1 m2 m3 m4
    have z1 := hsame_spec xl xn xT xh (by omega) (by simp only [zap] at m2 m4; omega)
    have z2 := hsame_spec yl yn yT yh (by omega) (by simp only [zap] at m2 m4; omega)
    have y1 : FnSpec Try.prog 5 [.agg [.gsl (Cs kR) 0 1 none, int 2, .sc (.slice none 0 0), int (2147483648 - b.tmod 3)], i1 1, i1 0] [] (.tup [hyQ (xl, xn, xT, xh), i1 xi, i1 xe]) [] := s1.pre (by simp only [zap, Cs_nil, swl_cons, swl_nil, sw_agg, sw_one, cwl_cons, cwl_nil, cw_id, cw_nil0, cw_cap0, zax, zbg, zae, and_true, true_and])
    have y2 : FnSpec Try.prog 6 [.agg [.gsl (Cs kR) 0 1 none, int 2, .sc (.slice none 0 0), int (2147483648 - b.tmod 3)], i1 1, i1 0] [] (.tup [hyQ (xl, xn, xT, xh), i1 xi, i1 xe]) [] := s2.pre (by simp only [zap, Cs_nil, swl_cons, swl_nil, sw_agg, sw_one, cwl_cons, cwl_nil, cw_id, cw_nil0, cw_cap0, zax, zbg, zae, and_true, true_and])
    have y3 : FnSpec Try.prog 7 [.agg [.gsl (Cs kR) 0 1 none, int 2, .sc (.slice none 0 0), int (2147483648 - b.tmod 3)], i1 1] [] (.tup [hyQ (yl, yn, yT, yh), i1 yi, i1 ye]) [] := s3.pre (by simp only [zap, Cs_nil, swl_cons, swl_nil, sw_agg, sw_one, cwl_cons, cwl_nil, cw_id, cw_nil0, cw_cap0, zax, zbg, zae, and_true, true_and])
    have y4 : FnSpec Try.prog 8 [.agg [.gsl (Cs kR) 0 1 none, int 2, .sc (.slice none 0 0), int (2147483648 - b.tmod 3)], i1 1] [] (.tup [hyQ (yl, yn, yT, yh), i1 yi, i1 ye]) [] := s4.pre (by simp only [zap, Cs_nil, swl_cons, swl_nil, sw_agg, sw_one, cwl_cons, cwl_nil, cw_id, cw_nil0, cw_cap0, zax, zbg, zae, and_true, true_and])
    clear s1 s2 s3 s4
    repeat' (first
 | with_reducible refine zaq ?_ ?_
 | (apply cg_tp
    case hl => rfl
    case ha => (simp only [zah, zam, prepV, prepC, idx, hpL', lookR, zaa, if_true, if_false]; rfl)
    case hs => rfl
    case h => (first | exact y1 .. | exact y2 .. | exact y3 .. | exact y4 .. | exact z1 .. | exact z2 ..))
 | (apply cl_plain
    case hs => rfl
    case ha => (simp only [zah, zam, prepV, prepC, idx, hpL', lookR, zaa, if_true, if_false]; rfl)
    case h => (first | exact y1 .. | exact y2 .. | exact y3 .. | exact y4 .. | exact z1 .. | exact z2 ..))
 | ((first | refine s1_id ?_ | refine swp_id ?_ | refine sops_id ?_ | refine s2_id ?_); simp only [t0, t1, Nat.zero_mul, Nat.one_mul, List.drop_zero, zbb, decide_true, beq_self_eq_true, Bool.not_true, zay, zaz, zao, zaA, zaD, zat, zau, zar, zaG, zaH, zax, zap, go_sem, zaa, zae, zaf, zag, zai, zad, ↓reduceIte, reduceCtorEq, zab, zac, zaj, zak, zal, zaP, zaO, zaJ, zaN, renO, bk, back, outUpsFrom, Ints_ren])
 | (intros; omega)
 | (intros; (try simp only [zaE, zaI, zaF, zaB, zav, zaw, decide_eq_true_eq, decide_eq_false_iff_not] at *); omega))
    refine le_mk 2 ?_ (by decide) (by decide)
    (refine imp_ren _ _ _ [(0, 0, ⟨[.gsl (Cs kR) 0 1 none, int 2, .gsl (Cs T) 0 T.length none, int 129, .gsl (Cs kR) 0 1 none, int 2, .sc (.slice none 0 0), int (2147483648 - b.tmod 3)], 4⟩)] (by simp) (by simp) (by simp) (zaC rfl) ?_ rfl (by simp only [zan, zas, false_implies, implies_true, and_true, zaU, lookR, zaa, if_true, if_false, ↓reduceIte] <;> (repeat' apply zaq) <;> (first | rfl | trivial)) (by simp only [zan, zas, false_implies, implies_true, and_true, true_and, flat_cons, flat_nil, flat_ints, flat_bools, flat_app, zaV, and_self, eq_self_iff_true, zao]); simp only [zah, zam, zan, zas, false_implies, implies_true, and_true, lk, slot, zaP, zaJ, toN, zaa, if_true, if_false, ↓reduceIte, reduceCtorEq])
    all_goals ((repeat' apply zaq) <;> (first | rfl | trivial | (simp only [zaK]; done) | (simp only [zaK]; rfl) | (simp only [zaK]; trivial)))
theorem limits6_main (g0 : List Cell) (s0 : GTy Try.prog 12 5 g0) (g1 : List Cell) (s1 : GTy Try.prog 12 5 g1) : FnSpec Try.prog 3 [svOf Try.prog 5 g0, svOf Try.prog 5 g1] [] (b1 true) [] := by
  obtain ⟨m0, rfl, w0⟩ := gty_int (n := 11) Try.underlying5 s0
  obtain ⟨m1, rfl, w1⟩ := gty_int (n := 11) Try.underlying5 s1
  simp only [svOf, Try.underlying5, List.headD_cons]
  exact limits6_spec m0 m1 (wf_u8 w0) (wf_u8 w1)
end Go.Proofs.Ytnahpejlhfeleac
