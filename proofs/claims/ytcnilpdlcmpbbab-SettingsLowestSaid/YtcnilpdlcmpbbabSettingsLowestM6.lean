/- Contracts of functions, told of values, on the way to SettingsLowest (part 6). -/
import Derived.Test.YtcnilpdlcmpbbabSettingsLowestM3
import Derived.Test.YtcnilpdlcmpbbabSettingsLowestM5
-- short names of the library's lemmas
open Nat renaming reduceEqDiff → zaa, reduceLeDiff → zaf, reduceAdd → zak, reduceSub → zal, reduceMul → zam, reduceLT → zap, le_of_ble_eq_true → zat
open List renaming forall_mem_cons → zab, not_mem_nil → zac, reduceReplicate → zad, map_cons → zag, append_nil → zah, map_nil → zaj, length_nil → zaz, length_cons → zaA, take_succ_cons → zaC, set_cons_zero → zaD, set_cons_succ → zaE, flatten_cons → zaF, nil_append → zaH, flatten_nil → zaI, cons_append → zaJ, take_zero → zaK, take_nil → zaL
open Int renaming cast_ofNat_Int → zae, natCast_add → zai, reduceEq → zaq, reduceLT → zar, reduceLE → zas
open Bool renaming and_eq_false_iff → zan, or_eq_false_iff → zao, not_eq_false' → zav, not_eq_true' → zaw, and_eq_true → zax, or_eq_true → zay
open And renaming intro → zau
open Go.Proofs.Ytcnilpdlcmpbbab.Sh.Cell renaming ren → zaB, refs → zaG
open Go.Proofs.Ytcnilpdlcmpbbab.Sh.SV renaming ren → zaM, renL → zaO
open Go.Proofs.Ytcnilpdlcmpbbab.Sh.Row renaming ren → zaP
open Go.Proofs.Ytcnilpdlcmpbbab.Sh.St renaming hpF → zaN
-- NEWGO
-- PRUNE: cl_lendx cl_use
-- ISG: Cs_isG
-- FLAT: Cs_flat
namespace Go.Proofs.Ytcnilpdlcmpbbab
set_option linter.unusedVariables false
set_option linter.unusedSimpArgs false
open Go.Proofs.Ytcnilpdlcmpbbab.Sh
set_option maxRecDepth 20000
def cfS (D : List Int) (j : Nat) : Sg × Nat := if nxV D j 2 = 1 then mkS D (nxA D j 2) else (dfS, nxA D j 2)
def cfA (D : List Int) : List Nd → Nat → List Cf → List Cf × Nat
  | [], j, acc => (acc, j)
  | x :: r, j, acc => cfA D r (cfS D j).2 (acc ++ [⟨x.i, (cfS D j).1⟩])
def mkC (D : List Int) (l : List Nd) (j : Nat) : List Cf × Nat := cfA D l j []
theorem cf_cs (D : List Int) (hl : D.length ≤ 600) (hr : ∀ x ∈ D, -9223372036854775808 ≤ x ∧ x ≤ 9223372036854775807) (j : Nat) : ∃ B s j1 j2, cfS D j = (s, j2) ∧ FnSpec Try.prog 32 [dp, i1 2] [dice D j] (b1 B) [some (dice D j1)] ∧ ((B = true ∧ FnSpec Try.prog 24 [dp] [dice D j1] (sgt s) [some (dice D j2)]) ∨ (B = false ∧ s = dfS ∧ j2 = j1)) := by
  have n1 := bool_spec D j 2 hl hr (by decide)
  unfold cfS
  by_cases hv : nxV D j 2 = 1
  · rw [decide_eq_true (by omega : nxV D j 2 = 2 - 1)] at n1
    rw [if_pos hv]
    exact ⟨_, _, _, _, rfl, n1, .inl ⟨rfl, dsettings_spec D hl hr _⟩⟩
  · rw [decide_eq_false (by omega : ¬ nxV D j 2 = 2 - 1)] at n1
    rw [if_neg hv]
    exact ⟨_, _, _, _, rfl, n1, .inr ⟨rfl, rfl, rfl⟩⟩
def lendC : FuncId → List Nat := fun f => if f = 32 then [0] else if f = 24 then [0] else []
set_option maxHeartbeats 16000000 in
theorem dconfigs_spec (D : List Int) (hl : D.length ≤ 600) (hr : ∀ x ∈ D, -9223372036854775808 ≤ x ∧ x ≤ 9223372036854775807) (l : List Nd) (n : Int) (hL : l.length ≤ 1000000) (j : Nat) : FnSpec Try.prog 13 [dp, trV l none n] [dice D j] (gr (mkC D l j).1 none) [some (dice D (mkC D l j).2)] := by
  have n0 := srdef_spec
  simp only [sgt, sgc] at n0
  have hnl := nd_len l
  obtain ⟨T, hT⟩ : ∃ T, mkC D l j = T := ⟨_, rfl⟩
  rw [hT]
  obtain ⟨R, J⟩ := T
  unfold mkC at hT
  simp only
  refine fnspec_of mixed TT_ok TT_cl ⟨fun _ => false, lendC, 1, fun _ => false, fun _ => false⟩ Try.func13 rfl (by kernel_rfl) rfl 32 rfl [.tmp 4] rfl ?_
  simp only [go_sem, zaa, zak, zal, zam, zap, zaf, ↓reduceIte, reduceCtorEq, zad, zae, zaq, zar, zas, lendC]
  repeat' (first
 | (intros; (try simp only [zax, zay, zaw, zav, zan, zao, decide_eq_true_eq, decide_eq_false_iff_not] at *); omega))
  refine w_loop (ι := Nat × List Cf × Nat) (fun s => ⟨[(0, dp), (3, .one (.optr 1 0)), (5, .one (.osl 2 0 s.1 none)), (6, i1 s.1)], [(0, some (dice D s.2.2)), (1, some ⟨[.gsl (Cs l) 0 l.length none, int n], 2⟩), (2, some ⟨Cs s.2.1, 18⟩)], 3⟩) (fun s => s.1 ≤ l.length ∧ s.2.1.length = s.1 ∧ cfA D (l.drop s.1) s.2.2 s.2.1 = (R, J)) (fun s => l.length - s.1) (0, [], j) ?_ ⟨Nat.zero_le _, rfl, hT⟩ ?_
  · (refine Imp.trans (imp_nilA _ _ 5 18 99 (by simp only []; omega) rfl) ?_)
    (refine imp_ren _ _ _ [(0, 0, dice D j), (1, 1, ⟨[.gsl (Cs l) 0 l.length none, int n], 2⟩), (2, 99, ⟨[], 18⟩)] (by simp) (by simp) (by simp) (zat rfl) ?_ rfl (by simp only [zab, zac, false_implies, implies_true, and_true, zaN, lookR, zaa, if_true, if_false, ↓reduceIte, dice] <;> (repeat' apply zau) <;> (first | rfl | trivial)) (by simp only [zab, zac, false_implies, implies_true, and_true, true_and, flat_cons, flat_nil, flat_ints, flat_bools, flat_app, zaG, and_self, eq_self_iff_true, zah, dice]); simp only [zag, zaj, zab, zac, false_implies, implies_true, and_true, lk, slot, zaM, zaB, toN, zaa, if_true, if_false, ↓reduceIte, reduceCtorEq])
    all_goals ((repeat' apply zau) <;> (first | rfl | trivial))
  clear hT
  rintro ⟨m, acc, j0⟩ ⟨hm, ha, hI⟩
  simp only at hm ha hI ⊢
  rcases Nat.lt_or_ge m l.length with hlt | hge
  case inr =>
    have c : ¬ (m : Int) < (l.length : Int) := by omega
    obtain rfl : m = l.length := by omega
    rw [List.drop_length, cfA] at hI
    obtain ⟨rfl, rfl⟩ := Prod.mk.inj hI
    simp only [go_sem, zaa, zak, zal, zam, zap, zaf, ↓reduceIte, reduceCtorEq, zad, zae, zaq, zar, zas, decide_eq_false c, lendC]
    repeat' (first
 | (intros; (try simp only [zax, zay, zaw, zav, zan, zao, decide_eq_true_eq, decide_eq_false_iff_not] at *); omega))
    rw [show gr acc none = SV.one (.gsl (Cs acc) 0 l.length none) from by rw [← ha]]
    (refine fs_frz 2 ⟨Cs acc, 18⟩ (by simp only [zaN, lookR, zaa, if_true, if_false, ↓reduceIte]) (by first | exact Ints_isG _ | exact Bools_isG _ | exact Cs_isG _ | (simp [Cell.isG]; done)) ?_; simp only [frzTm, SV.frz, SV.frzL, Cell.frz, frzHp, frzO, Ints_frz, Bools_frz, zag, zaj, zaa, if_true, if_false, ↓reduceIte])
    (refine fs_flat [(0, dice D j0)] (by simp) (by simp only [zag, zaj]; decide) (by simp only [go_sem, resV, resS, zaM, zaO, zaB, St.tmF, zaN, idx, renO, zaP, evS, slot, lookR, zaa, ↓reduceIte, reduceCtorEq, if_true, if_false, Option.getD_some, Option.getD_none, zag, zaj, sLoad, readAt, readNeed, Ints_ren, Ints_length, Ints_getD, and_true, true_and, List.getD_cons_zero, List.getD_cons_succ]; try decide) ?_ (by simp only [zab, zac, false_implies, implies_true, and_true, zaN, lookR, zaa, if_true, if_false, ↓reduceIte, dice] <;> (repeat' apply zau) <;> (first | rfl | trivial)) (by simp only [zab, zac, false_implies, implies_true, and_true, true_and, flat_cons, flat_nil, flat_ints, flat_bools, flat_app, zaG, and_self, eq_self_iff_true, zah, dice]) ?_ <;> (try simp only [go_sem, resV, resS, zaM, zaO, zaB, St.tmF, zaN, idx, renO, zaP, evS, slot, lookR, zaa, ↓reduceIte, reduceCtorEq, if_true, if_false, Option.getD_some, Option.getD_none, zag, zaj, sLoad, readAt, readNeed, Ints_ren, Ints_length, Ints_getD, and_true, true_and, List.getD_cons_zero, List.getD_cons_succ]) <;> (try rfl))
  have c : (m : Int) < (l.length : Int) := by omega
  obtain ⟨q1, _⟩ := nd_f l m hlt (.sc (.int .i64 0))
  rw [drop_getD l m zn hlt, cfA] at hI
  change cfA D (l.drop (m + 1)) (cfS D j0).2 (acc ++ [⟨(gN l m).i, (cfS D j0).1⟩]) = (R, J) at hI
  obtain ⟨B, s, j1, j2, e1, n1, d1⟩ := cf_cs D hl hr j0
  rw [e1] at hI
  simp only at hI
  have hla : (acc ++ [(⟨(gN l m).i, s⟩ : Cf)]).length = m + 1 := by rw [List.length_append, ha]; rfl
  have hS : Cs acc ++ (int (gN l m).i :: sgc s) = Cs (acc ++ [(⟨(gN l m).i, s⟩ : Cf)]) := Cs_snoc acc (⟨(gN l m).i, s⟩ : Cf)
  have htk : List.take (m * 18) (Cs acc) = Cs acc := Cs_all _ _ (by rw [ha]; exact Nat.le_refl _)
  have hpt := cf_len acc
  rw [ha] at hpt
  generalize acc ++ [(⟨(gN l m).i, s⟩ : Cf)] = W at *
  generalize (gN l m).i = id' at *
  clear e1 hl hr
  rcases d1 with ⟨rfl, m1⟩ | ⟨rfl, rfl, rfl⟩
  · obtain ⟨pm, w, q, pe, b, c0, c1, cp, mm, pt, m0, m1', m2, m3, m4, mt⟩ := s
    simp only [sgc, sgt] at m1 hS
    simp only [go_sem, zaa, zak, zal, zam, zap, zaf, ↓reduceIte, reduceCtorEq, zad, zae, zaq, zar, zas, decide_eq_true c, q1, hS, lendC]
    repeat' (first
 | with_reducible refine zau ?_ ?_
 | (unfold OKC; kernel_rfl)
 | (unfold EDG; kernel_rfl)
 | (apply cl_plain
    case hs => rfl
    case ha => (simp only [zag, zaj, prepV, prepC, idx, hpL', lookR, zaa, if_true, if_false]; rfl)
    case h => (first | exact n0 .. | exact n1 .. | exact m1 ..))
 | (apply cl_lend
    case hr => (simp only [zag, zaj, hpL', lookR, zaa, if_true, if_false]; first | exact map1 _ | exact map2 _ _ | exact map3 _ _ _)
    case ha => (simp only [zag, zaj, prepV, prepC, idx, hpL', lookR, zaa, if_true, if_false]; rfl)
    case hs => rfl
    case hn => decide
    case h => (first | exact n0 .. | exact n1 .. | exact m1 ..)
    case hf => (simp only [zab, zac, false_implies, implies_true, and_true, true_and, flat_cons, flat_nil, flat_ints, flat_bools, flat_app, Cs_flat, zaG, and_self, eq_self_iff_true, zah])
    case hl => (simp only [zaA, zaz]; decide))
 | ((first | refine s1_id ?_ | refine swp_id ?_ | refine sops_id ?_ | refine s2_id ?_); simp only [decide_eq_true c, q1, hS, htk, lendC, dice, zaF, zaI, zah, zaJ, zaH, zaD, zaE, zaC, zaK, zaL, zaA, zaz, go_sem, zaa, zak, zal, zam, zap, zaf, ↓reduceIte, reduceCtorEq, zad, zae, zaq, zar, zas, zaM, zaO, zaB, zaP, renO, bk, back, outUpsFrom, Ints_ren])
 | (intros; omega)
 | (intros; (try simp only [zax, zay, zaw, zav, zan, zao, decide_eq_true_eq, decide_eq_false_iff_not] at *); omega))
    refine le_mk (m + 1, W, j2) ?_ ⟨hlt, hla, hI⟩ (by show l.length - (m + 1) < l.length - m; omega)
    (refine imp_ren _ _ _ [(0, 0, dice D j2), (1, 1, ⟨[.gsl (Cs l) 0 l.length none, int n], 2⟩), (2, 26, ⟨Cs W, 18⟩)] (by simp) (by simp) (by simp) (zat rfl) ?_ rfl (by simp only [zab, zac, false_implies, implies_true, and_true, zaN, lookR, zaa, if_true, if_false, ↓reduceIte, dice, Cs_flat] <;> (repeat' apply zau) <;> (first | rfl | trivial)) (by simp only [zab, zac, false_implies, implies_true, and_true, true_and, flat_cons, flat_nil, flat_ints, flat_bools, flat_app, zaG, and_self, eq_self_iff_true, zah, dice, Cs_flat]); simp only [zag, zaj, zab, zac, false_implies, implies_true, and_true, lk, slot, zaM, zaB, toN, zaa, if_true, if_false, ↓reduceIte, reduceCtorEq])
    all_goals ((repeat' apply zau) <;> (first | rfl | trivial | (simp only [zai]; done) | (simp only [zai]; rfl) | (simp only [zai]; trivial)))
  · simp only [sgc, zaz] at hS n0
    simp only [go_sem, zaa, zak, zal, zam, zap, zaf, ↓reduceIte, reduceCtorEq, zad, zae, zaq, zar, zas, decide_eq_true c, q1, hS, lendC]
    repeat' (first
 | with_reducible refine zau ?_ ?_
 | (unfold OKC; kernel_rfl)
 | (unfold EDG; kernel_rfl)
 | (apply cl_plain
    case hs => rfl
    case ha => (simp only [zag, zaj, prepV, prepC, idx, hpL', lookR, zaa, if_true, if_false]; rfl)
    case h => (first | exact n0 .. | exact n1 ..))
 | (apply cl_lend
    case hr => (simp only [zag, zaj, hpL', lookR, zaa, if_true, if_false]; first | exact map1 _ | exact map2 _ _ | exact map3 _ _ _)
    case ha => (simp only [zag, zaj, prepV, prepC, idx, hpL', lookR, zaa, if_true, if_false]; rfl)
    case hs => rfl
    case hn => decide
    case h => (first | exact n0 .. | exact n1 ..)
    case hf => (simp only [zab, zac, false_implies, implies_true, and_true, true_and, flat_cons, flat_nil, flat_ints, flat_bools, flat_app, Cs_flat, zaG, and_self, eq_self_iff_true, zah])
    case hl => (simp only [zaA, zaz]; decide))
 | ((first | refine s1_id ?_ | refine swp_id ?_ | refine sops_id ?_ | refine s2_id ?_); simp only [decide_eq_true c, q1, hS, htk, lendC, dice, zaF, zaI, zah, zaJ, zaH, zaD, zaE, zaC, zaK, zaL, zaA, zaz, go_sem, zaa, zak, zal, zam, zap, zaf, ↓reduceIte, reduceCtorEq, zad, zae, zaq, zar, zas, zaM, zaO, zaB, zaP, renO, bk, back, outUpsFrom, Ints_ren])
 | (intros; omega)
 | (intros; (try simp only [zax, zay, zaw, zav, zan, zao, decide_eq_true_eq, decide_eq_false_iff_not] at *); omega))
    refine le_mk (m + 1, W, j2) ?_ ⟨hlt, hla, hI⟩ (by show l.length - (m + 1) < l.length - m; omega)
    (refine imp_ren _ _ _ [(0, 0, dice D j2), (1, 1, ⟨[.gsl (Cs l) 0 l.length none, int n], 2⟩), (2, 23, ⟨Cs W, 18⟩)] (by simp) (by simp) (by simp) (zat rfl) ?_ rfl (by simp only [zab, zac, false_implies, implies_true, and_true, zaN, lookR, zaa, if_true, if_false, ↓reduceIte, dice, Cs_flat] <;> (repeat' apply zau) <;> (first | rfl | trivial)) (by simp only [zab, zac, false_implies, implies_true, and_true, true_and, flat_cons, flat_nil, flat_ints, flat_bools, flat_app, zaG, and_self, eq_self_iff_true, zah, dice, Cs_flat]); simp only [zag, zaj, zab, zac, false_implies, implies_true, and_true, lk, slot, zaM, zaB, toN, zaa, if_true, if_false, ↓reduceIte, reduceCtorEq])
    all_goals ((repeat' apply zau) <;> (first | rfl | trivial | (simp only [zai]; done) | (simp only [zai]; rfl) | (simp only [zai]; trivial)))
end Go.Proofs.Ytcnilpdlcmpbbab
-- NEWGO
-- PRUNE: cl_lendx cl_use
-- ISG: Cs_isG
-- FLAT: Cs_flat
namespace Go.Proofs.Ytcnilpdlcmpbbab
set_option linter.unusedVariables false
set_option linter.unusedSimpArgs false
open Go.Proofs.Ytcnilpdlcmpbbab.Sh
set_option maxRecDepth 20000
theorem vl_set (D : List Int) (j n : Nat) (N : Int) (h : (n : Int) ≤ N) : vl (dSet D j n).1 N = true := by
  rw [vl_iff]
  intro i hi
  have h1 := dSet_rng D j n _ (getD_mem _ i 0 hi)
  refine ⟨h1.1, by omega, fun h0 => ?_⟩
  have h2 := dSet_asc D j n
  rw [List.pairwise_iff_getElem] at h2
  have := h2 (i - 1) i (by omega) hi (by omega)
  rw [getD_at _ (i - 1) 0 (by omega), getD_at _ i 0 hi]
  exact this
theorem lsS_ok (D : List Int) (j n : Nat) (N : Int) (h : (n : Int) ≤ N) : vl (lsS D j n).1 N = true ∧ (lsS D j n).1.length ≤ n := by
  unfold lsS
  split
  · exact ⟨vl_set D _ n N h, dSet_len D _ n⟩
  · exact ⟨(vl_iff _ _).2 fun i hi => absurd hi (Nat.not_lt_zero _), Nat.zero_le _⟩
theorem pmS_ok (D : List Int) (j : Nat) : (wn (pmS D j).1 0 1099511627776 || decide ((pmS D j).1 = 4611686018427387904)) = true := by
  have h := nxV_rng D (nxA D j 2) 6 (by decide)
  unfold pmS wn
  split
  · rw [decide_eq_true (by simp only; omega), decide_eq_true (by simp only; omega)]; rfl
  · rfl
theorem quS_ok (D : List Int) (j : Nat) (x : Sg) (hp : wn x.pe 1 1000000 = true) (hq : x.q = (quS D j).1.1) (hb : x.b = (quS D j).1.2) : cbF x = true := by
  have h := nxV_rng D (nxA D j 2) 9 (by decide)
  have h3 := nxV_rng D (nxA D (nxA D j 2) 9) (1 + nxV D (nxA D j 2) 9 + 1) (by omega)
  unfold cbF
  rw [hp, hq, hb, Bool.true_and]
  unfold quS
  split
  · simp only
    rw [if_neg (by omega)]
    unfold wn
    rw [decide_eq_true (by omega), decide_eq_true (by omega), decide_eq_true (by omega), decide_eq_true (by omega)]; rfl
  · rw [if_pos rfl]; rfl
theorem ptS_ok (D : List Int) (j : Nat) : (decide ((ptS D j).1 = 0) || decide ((ptS D j).1 = 1)) = true := by
  unfold ptS
  simp only
  split <;> rfl
theorem mkS_ok (D : List Int) (j : Nat) : ckS (mkS D j).1 = true ∧ SgR (mkS D j).1 := by
  have w1 := wtV_rng D (pmS D j).2
  have w4 := nxV_rng D (mk1 D j).2 9 (by decide)
  have w5 := nxV_rng D (nxA D (mk1 D j).2 9) 10001 (by decide)
  have w6 := nxV_rng D (nxA D (nxA D (mk1 D j).2 9) 10001) 10001 (by decide)
  have l3 := lsS_ok D (mk2 D j) 6 16 (by decide)
  have l4 := lsS_ok D (mk3 D j).2 4 8 (by decide)
  have hpe : wn (1 + nxV D (mk1 D j).2 9) 1 1000000 = true := by unfold wn; rw [decide_eq_true (by omega), decide_eq_true (by omega)]; rfl
  refine ⟨?_, ?_, ?_⟩
  · have hcb : cbF (mkS D j).1 = true := quS_ok D _ _ hpe rfl rfl
    have hcm : cmF (mkS D j).1 = true := rfl
    unfold ckS
    rw [hcb, hcm]
    show ((wn (pmS D j).1 0 1099511627776 || decide ((pmS D j).1 = 4611686018427387904)) && (wn (wtV D (pmS D j).2) 1 10000 && (true && (wn (nxV D (nxA D (mk1 D j).2 9) 10001) 0 10000 && (wn (nxV D (nxA D (nxA D (mk1 D j).2 9) 10001) 10001) 0 10000 && (vl (mk3 D j).1 16 && (vl (mk4 D j).1 8 && ((decide ((ptS D (mk4 D j).2).1 = 0) || decide ((ptS D (mk4 D j).2).1 = 1)) && true)))))))) = true
    rw [pmS_ok, ptS_ok, show vl (mk3 D j).1 16 = true from l3.1, show vl (mk4 D j).1 8 = true from l4.1]
    unfold wn
    rw [decide_eq_true (by omega), decide_eq_true (by omega), decide_eq_true (by omega), decide_eq_true (by omega), decide_eq_true (by omega), decide_eq_true (by omega)]; rfl
  · exact Nat.le_trans l3.2 (by decide)
  · exact Nat.le_trans l4.2 (by decide)
theorem dfS_ok : ckS dfS = true ∧ SgR dfS := ⟨by decide +kernel, dfS_r⟩
theorem cfS_ok (D : List Int) (j : Nat) : ckS (cfS D j).1 = true ∧ SgR (cfS D j).1 := by
  unfold cfS
  split
  · exact mkS_ok D _
  · exact dfS_ok
theorem cfA_ok (D : List Int) : ∀ (r : List Nd) (j : Nat) (acc : List Cf), ∃ X, (cfA D r j acc).1 = acc ++ X ∧ X.length = r.length ∧ (∀ i, i < r.length → (gCf X i).g = (gN r i).i) ∧ ∀ x ∈ X, ckS x.s = true ∧ SgR x.s
  | [], j, acc => ⟨[], (zah _).symm, rfl, fun i hi => absurd hi (Nat.not_lt_zero _), fun x hx => by cases hx⟩
  | y :: r, j, acc => by
    obtain ⟨X, h1, h2, h3, h4⟩ := cfA_ok D r (cfS D j).2 (acc ++ [⟨y.i, (cfS D j).1⟩])
    refine ⟨⟨y.i, (cfS D j).1⟩ :: X, ?_, by simp [h2], ?_, ?_⟩
    · rw [cfA, h1, List.append_assoc]; rfl
    · intro i hi
      cases i with
      | zero => rfl
      | succ i => exact h3 i (by simpa using hi)
    · intro x hx
      rcases List.mem_cons.1 hx with rfl | hx
      · exact cfS_ok D j
      · exact h4 x hx
theorem mkC_ok (D : List Int) {l : List Nd} {n : Int} (hV : VT l n) (j : Nat) : FiP l n (mkC D l j).1 ∧ CfR (mkC D l j).1 := by
  obtain ⟨X, h1, h2, h3, h4⟩ := cfA_ok D l j []
  unfold mkC
  rw [h1, zaH]
  exact ⟨⟨hV, h2, fun i hi => h3 i (by omega), fun i hi => (h4 _ (getD_mem X i zcf hi)).1⟩, fun x hx => (h4 x hx).2⟩
end Go.Proofs.Ytcnilpdlcmpbbab
-- NEWGO
-- PRUNE: cl_lendx cl_use
-- ISG: Cs_isG
-- FLAT: Cs_flat
namespace Go.Proofs.Ytcnilpdlcmpbbab
set_option linter.unusedVariables false
set_option linter.unusedSimpArgs false
open Go.Proofs.Ytcnilpdlcmpbbab.Sh
set_option maxRecDepth 20000
theorem setF_len (L : List Cf) (g : Int) (s : Sg) : (setF L g s).length = L.length := List.length_map _
theorem setF_at (L : List Cf) (g : Int) (s : Sg) (i : Nat) (h : i < L.length) : gCf (setF L g s) i = if (gCf L i).g = g then ⟨g, s⟩ else gCf L i := by
  rw [show gCf (setF L g s) i = (setF L g s)[i]'(by rw [setF_len]; exact h) from getD_at _ i zcf (by rw [setF_len]; exact h), show gCf L i = L[i] from getD_at L i zcf h]
  unfold setF
  rw [List.getElem_map]
theorem FiP.set {l : List Nd} {n : Int} {L : List Cf} (h : FiP l n L) {s : Sg} (hs : ckS s = true) (g : Int) : FiP l n (setF L g s) := by
  refine ⟨h.vt, by rw [setF_len]; exact h.len, fun i hi => ?_, fun i hi => ?_⟩
  · rw [setF_len] at hi
    rw [setF_at L g s i hi]
    split
    · rename_i e; rw [← h.id i hi, e]
    · exact h.id i hi
  · rw [setF_len] at hi
    rw [setF_at L g s i hi]
    split
    · exact hs
    · exact h.ck i hi
theorem CfR.set {L : List Cf} (h : CfR L) {s : Sg} (hs : SgR s) (g : Int) : CfR (setF L g s) := fun x hx => by
  obtain ⟨y, hy, rfl⟩ := List.mem_map.1 hx
  split
  · exact hs
  · exact h y hy
def lendL : FuncId → List Nat := fun f => if f = 15 then [0] else if f = 12 then [0] else if f = 13 then [0] else if f = 24 then [0] else []
end Go.Proofs.Ytcnilpdlcmpbbab
-- NEWGO
-- PRUNE: cl_lendx cl_use
-- ISG: Cs_isG
-- FLAT: Cs_flat
namespace Go.Proofs.Ytcnilpdlcmpbbab
set_option linter.unusedVariables false
set_option linter.unusedSimpArgs false
open Go.Proofs.Ytcnilpdlcmpbbab.Sh
set_option maxRecDepth 20000
theorem lowL_cons (L : List Cf) (a : Int) (r : List Int) (s : Sg) : lowL L (a :: r) s = lowL L r (limF s (sgF L a)) := rfl
structure MinS (z x y : Sg) : Prop where
  pm : z.pm = min x.pm y.pm
  q : z.q = min x.q y.q
  c1 : z.c1 = min x.c1 y.c1
theorem lowL_min (L : List Cf) : ∀ (V : List Int) (z x y : Sg), MinS z x y → MinS (lowL L V z) x (lowL L V y)
  | [], _, _, _, h => h
  | a :: r, z, x, y, h => by
    rw [lowL_cons, lowL_cons]
    refine lowL_min L r _ x _ ⟨?_, ?_, ?_⟩
    · show min z.pm _ = min x.pm (min y.pm _); rw [h.pm]; omega
    · show min z.q _ = min x.q (min y.q _); rw [h.q]; omega
    · show min z.c1 _ = min x.c1 (min y.c1 _); rw [h.c1]; omega
theorem lowL_keep (L : List Cf) : ∀ (V : List Int) (s : Sg), (lowL L V s).c0 = s.c0 ∧ (lowL L V s).w = s.w
  | [], _ => ⟨rfl, rfl⟩
  | a :: r, s => by rw [lowL_cons]; exact lowL_keep L r (limF s (sgF L a))
theorem lowL_one (L : List Cf) : ∀ (V : List Int) (s : Sg), (lowL L V s).pm = s.pm ∨ ∃ a ∈ V, (sgF L a).pm = (lowL L V s).pm
  | [], _ => .inl rfl
  | a :: r, s => by
    rw [lowL_cons]
    rcases lowL_one L r (limF s (sgF L a)) with h | ⟨b, hb, h⟩
    · have e : (limF s (sgF L a)).pm = min s.pm (sgF L a).pm := rfl
      rw [e] at h
      rcases Int.le_total s.pm (sgF L a).pm with c | c
      · left; rw [h]; omega
      · right; exact ⟨a, List.mem_cons_self, by rw [h]; omega⟩
    · exact .inr ⟨b, List.mem_cons_of_mem _ hb, h⟩
structure LowP (low own up : Sg) : Prop where
  m : MinS low own up
  c0 : low.c0 ≤ low.c1
  o0 : low.c0 ≤ own.c0
  w : low.w = own.w
theorem ancM_node {l : List Nd} {n : Int} (h : VT l n) {i : Nat} (hi : i < l.length) : ancM l n (gN l i).i = upL l (gN l i).i := by
  unfold ancM
  rw [if_pos (hasM_iff.2 ⟨(chkT_iff l n).2 h, gN l i, getD_mem l i zn hi, rfl⟩)]
theorem low_root {l : List Nd} {n : Int} {L : List Cf} (h : FiP l n L) {i : Nat} (hi : i < l.length) : ∃ r, ancM l n (gN l i).i = (gN l i).i :: r ∧ lwM l n L (gN l i).i = finF (lowL L r (sgF L (gN l i).i)) := by
  have hn : (ancM l n (gN l i).i).length ≠ 0 := by
    rw [ancM_node h.vt hi, upL_node h.vt.asc hi]
    simp
  rcases anc_hd l n (gN l i).i with e | ⟨r, e⟩
  · rw [e] at hn; exact absurd rfl hn
  · refine ⟨r, e, ?_⟩
    unfold lwM
    rw [if_pos ⟨(fiC_iff l n L).2 h, hn⟩, e, lowL_hd]
theorem low_fin {L : List Cf} {r : List Int} {own : Sg} {up : Sg} (h : MinS (finF (lowL L r own)) own up) : LowP (finF (lowL L r own)) own up := by
  refine ⟨h, ?_, ?_, ?_⟩
  · show min (lowL L r own).c0 (lowL L r own).c1 ≤ (lowL L r own).c1; omega
  · show min (lowL L r own).c0 (lowL L r own).c1 ≤ own.c0; rw [(lowL_keep L r own).1]; omega
  · exact (lowL_keep L r own).2
theorem low_ok {l : List Nd} {n : Int} {L : List Cf} (h : FiP l n L) {i : Nat} (hi : i < l.length) : LowP (lwM l n L (gN l i).i) (sgF L (gN l i).i) (if (gN l i).i = 1 then sgF L (gN l i).i else lwM l n L (gN l i).p) := by
  obtain ⟨r, e, e2⟩ := low_root h hi
  rw [e2]
  refine low_fin ?_
  by_cases h0 : i = 0
  · subst h0
    have hr := h.vt.root
    rw [if_pos hr.1]
    have e3 : r = [] := by
      rw [ancM_node h.vt hi, upL_node h.vt.asc hi] at e
      exact ((List.cons.inj e).2).symm
    subst e3
    exact ⟨by show _ = min _ _; rw [Int.min_self]; rfl, by show _ = min _ _; rw [Int.min_self]; rfl, by show _ = min _ _; rw [Int.min_self]; rfl⟩
  · have h1 : (gN l i).i ≠ 1 := by
      have := h.vt.asc 0 i (by omega) hi
      have := h.vt.root.1
      omega
    rw [if_neg h1]
    obtain ⟨j, hj, ej⟩ := (h.vt.ch hi h0).par
    obtain ⟨r2, e4, e5⟩ := low_root h (show j < l.length by omega)
    rw [ej] at e4 e5
    have e6 : r = (gN l i).p :: r2 := by
      rw [ancM_node h.vt hi, h.vt.up hi h0] at e
      rw [← (List.cons.inj e).2, ← e4, ← ej, ancM_node h.vt (show j < l.length by omega)]
    rw [e5, e6, lowL_cons]
    have hm := lowL_min L r2 (limF (sgF L (gN l i).i) (sgF L (gN l i).p)) (sgF L (gN l i).i) (sgF L (gN l i).p) ⟨rfl, rfl, rfl⟩
    exact ⟨hm.pm, hm.q, hm.c1⟩
theorem low_found {l : List Nd} {n : Int} {L : List Cf} (h : FiP l n L) {i : Nat} (hi : i < l.length) : ∃ a ∈ ancM l n (gN l i).i, (sgF L a).pm = (lwM l n L (gN l i).i).pm := by
  obtain ⟨r, e, e2⟩ := low_root h hi
  rw [e, e2]
  show ∃ a ∈ (gN l i).i :: r, (sgF L a).pm = (lowL L r (sgF L (gN l i).i)).pm
  rcases lowL_one L r (sgF L (gN l i).i) with h1 | ⟨a, ha, h1⟩
  · exact ⟨_, List.mem_cons_self, h1.symm⟩
  · exact ⟨a, List.mem_cons_of_mem _ ha, h1⟩
end Go.Proofs.Ytcnilpdlcmpbbab
-- NEWGO
-- PRUNE: cl_lendx cl_use
-- ISG: Cs_isG
-- FLAT: Cs_flat
namespace Go.Proofs.Ytcnilpdlcmpbbab
set_option linter.unusedVariables false
set_option linter.unusedSimpArgs false
open Go.Proofs.Ytcnilpdlcmpbbab.Sh
set_option maxRecDepth 20000
set_option maxHeartbeats 64000000 in
theorem lowest11_spec (D : List Int) (hr : ∀ x ∈ D, -9223372036854775808 ≤ x ∧ x ≤ 9223372036854775807) : FnSpec Try.prog 8 [gi D none] [] (b1 true) [] := by
  by_cases hlen : (D.length : Int) ≤ 600
  case neg =>
    refine fnspec_of mixed TT_ok TT_cl ⟨fun _ => false, lendL, 0, fun _ => false, fun _ => false⟩ Try.func8 rfl (by kernel_rfl) rfl 130 rfl [.tmp 2] rfl ?_
    simp only [go_sem, zaa, zak, zal, zam, zap, zaf, ↓reduceIte, reduceCtorEq, zad, zae, zaq, zar, zas, decide_eq_false hlen, lendL]
    repeat' (first
 | (apply cl_plain
    case hs => rfl
    case ha => (simp only [zag, zaj, prepV, prepC, idx, hpL', lookR, zaa, if_true, if_false]; rfl)
    case h => (first | exact light_spec .. | exact sgsane_spec ..))
 | ((first | refine s1_id ?_ | refine swp_id ?_ | refine sops_id ?_ | refine s2_id ?_); simp only [decide_eq_false hlen, lendL, go_sem, zaa, zak, zal, zam, zap, zaf, ↓reduceIte, reduceCtorEq, zad, zae, zaq, zar, zas, zaM, zaO, zaB, zaP, renO, bk, back, outUpsFrom, Ints_ren])
 | exact fs_nil trivial rfl
 | fail)
  have hl : D.length ≤ 600 := by omega
  have t1 := tree_spec D hl hr 0 8 (by decide)
  have hti := mkT_ok D 0 8
  generalize mkT D 0 8 = T at *
  obtain ⟨⟨l, n⟩, j1⟩ := T
  simp only at t1 hti
  have hV := hti.v.vt
  have hle := hti.len
  have hnl := nd_len l
  have hct := hV.ctr
  have hnr := hti.nr
  have p1 := dconfigs_spec D hl hr l n (by omega) j1
  obtain ⟨hC, hCr⟩ := mkC_ok D hV j1
  generalize mkC D l j1 = q at *
  obtain ⟨C, j2⟩ := q
  simp only at p1 hC hCr
  have hCl := hC.len
  refine fnspec_of mixed TT_ok TT_cl ⟨fun _ => false, lendL, 0, fun _ => false, fun _ => false⟩ Try.func8 rfl (by kernel_rfl) rfl 130 rfl [.tmp 2] rfl ?_
  simp only [go_sem, zaa, zak, zal, zam, zap, zaf, ↓reduceIte, reduceCtorEq, zad, zae, zaq, zar, zas, decide_eq_true hlen, lendL]
  repeat' (first
 | (apply cl_plain
    case hs => rfl
    case ha => (simp only [zag, zaj, prepV, prepC, idx, hpL', lookR, zaa, if_true, if_false]; rfl)
    case h => (first | exact light_spec .. | exact roll_spec .. | exact t1 .. | exact p1 ..))
 | (apply cl_lend
    case hr => (simp only [zag, zaj, hpL', lookR, zaa, if_true, if_false]; first | exact map1 _ | exact map2 _ _ | exact map3 _ _ _)
    case ha => (simp only [zag, zaj, prepV, prepC, idx, hpL', lookR, zaa, if_true, if_false]; rfl)
    case hs => rfl
    case hn => decide
    case h => (first | exact light_spec .. | exact roll_spec .. | exact t1 .. | exact p1 ..)
    case hf => (simp only [zab, zac, false_implies, implies_true, and_true, true_and, flat_cons, flat_nil, flat_ints, flat_bools, flat_app, Cs_flat, zaG, and_self, eq_self_iff_true, zah])
    case hl => (simp only [zaA, zaz]; decide))
 | ((first | refine s1_id ?_ | refine swp_id ?_ | refine sops_id ?_ | refine s2_id ?_); simp only [decide_eq_true hlen, lendL, dice, zaF, zaI, zah, zaJ, zaH, zaD, zaE, zaC, zaK, zaL, zaA, zaz, go_sem, zaa, zak, zal, zam, zap, zaf, ↓reduceIte, reduceCtorEq, zad, zae, zaq, zar, zas, zaM, zaO, zaB, zaP, renO, bk, back, outUpsFrom, Ints_ren])
 | (intros; (try simp only [zax, zay, zaw, zav, zan, zao, decide_eq_true_eq, decide_eq_false_iff_not] at *); omega))
  refine w_loop (ι := Nat) (fun m => ⟨[(4, .one (.optr 0 0)), (5, gr C none), (27, i1 l.length), (28, i1 m)], [(0, some ⟨[.gsl (Cs l) 0 l.length none, int n], 2⟩)], 1⟩) (fun m => m ≤ l.length) (fun m => l.length - m) 0 ?_ (Nat.zero_le _) ?_
  · (refine imp_ren _ _ _ [(0, 9, ⟨[.gsl (Cs l) 0 l.length none, int n], 2⟩)] (by simp) (by simp) (by simp) (zat rfl) ?_ rfl (by simp only [zab, zac, false_implies, implies_true, and_true, zaN, lookR, zaa, if_true, if_false, ↓reduceIte] <;> (repeat' apply zau) <;> (first | rfl | trivial)) (by simp only [zab, zac, false_implies, implies_true, and_true, true_and, flat_cons, flat_nil, flat_ints, flat_bools, flat_app, zaG, and_self, eq_self_iff_true, zah]); simp only [zag, zaj, zab, zac, false_implies, implies_true, and_true, lk, slot, zaM, zaB, toN, zaa, if_true, if_false, ↓reduceIte, reduceCtorEq])
    all_goals ((repeat' apply zau) <;> (first | rfl | trivial))
  clear t1 p1
  intro m hm
  simp only at hm ⊢
  rcases Nat.lt_or_ge m l.length with hlt | hge
  case inr =>
    have c : ¬ (m : Int) < (l.length : Int) := by omega
    simp only [go_sem, zaa, zak, zal, zam, zap, zaf, ↓reduceIte, reduceCtorEq, zad, zae, zaq, zar, zas, decide_eq_false c, lendL]
    repeat' (first
 | (apply cl_plain
    case hs => rfl
    case ha => (simp only [zag, zaj, prepV, prepC, idx, hpL', lookR, zaa, if_true, if_false]; rfl)
    case h => (first | exact sgsane_spec ..))
 | ((first | refine s1_id ?_ | refine swp_id ?_ | refine sops_id ?_ | refine s2_id ?_); simp only [decide_eq_false c, lendL, go_sem, zaa, zak, zal, zam, zap, zaf, ↓reduceIte, reduceCtorEq, zad, zae, zaq, zar, zas, zaM, zaO, zaB, zaP, renO, bk, back, outUpsFrom, Ints_ren])
 | exact fs_nil trivial rfl
 | fail)
  have c : (m : Int) < (l.length : Int) := by omega
  obtain ⟨q2, q3, _⟩ := nd_f l m hlt (.sc (.int .i64 0))
  have hP := low_ok hC hlt
  have hF := low_found hC hlt
  have x1 := slow_spec l n C none (gN l m).i (by omega) (by omega) hnr hct hCr
  have x2 := sget_spec C none (gN l m).i (by omega) hCr
  have x3 := slow_spec l n C none (gN l m).p (by omega) (by omega) hnr hct hCr
  have x4 := ranc_spec l none n (gN l m).i (by omega) hnr
  have hal := ancM_len l n (gN l m).i
  generalize ancM l n (gN l m).i = U at *
  generalize lwM l n C (gN l m).i = x at *
  generalize lwM l n C (gN l m).p = y at *
  generalize sgF C (gN l m).i = z at *
  generalize (gN l m).i = k at *
  generalize (gN l m).p = k2 at *
  obtain ⟨S, hS⟩ : ∃ S : Nat → Bool, S = fun i => (U.take i).any (fun a => decide ((sgF C a).pm = x.pm)) := ⟨_, rfl⟩
  have hS0 : S 0 = false := by rw [hS]; rfl
  have hSn : S U.length = true := by
    rw [hS]
    simp only [List.take_length]
    obtain ⟨a, ha, e⟩ := hF
    exact List.any_eq_true.2 ⟨a, ha, decide_eq_true e⟩
  have hSs : ∀ i, i < U.length → S (i + 1) = (S i || decide ((sgF C (U.getD i 0)).pm = x.pm)) := fun i hi => by
    rw [hS]
    simp only
    rw [take_getD U i 0 hi, List.any_append, List.any_cons, List.any_nil, Bool.or_false]
  clear hS hF
  obtain ⟨pm, w, qq, pe, b, c0, c1, cp, mm, pt, m0, m1, m2, m3, m4, mt⟩ := x
  obtain ⟨pm', w', qq', pe', b', c0', c1', cp', mm', pt', m0', m1', m2', m3', m4', mt'⟩ := z
  by_cases hk : k = 1
  · rw [if_pos hk] at hP
    simp only [sgt, sgc] at x1 x2
    simp only at hSs
    simp only [go_sem, zaa, zak, zal, zam, zap, zaf, ↓reduceIte, reduceCtorEq, zad, zae, zaq, zar, zas, decide_eq_true c, q2, decide_eq_true hk, lendL]
    repeat' (first
 | with_reducible refine zau ?_ ?_
 | (apply cl_plain
    case hs => rfl
    case ha => (simp only [zag, zaj, prepV, prepC, idx, hpL', lookR, zaa, if_true, if_false]; rfl)
    case h => (first | exact x1 .. | exact x2 .. | exact x4 ..))
 | ((first | refine s1_id ?_ | refine swp_id ?_ | refine sops_id ?_ | refine s2_id ?_); simp only [decide_eq_true c, q2, decide_eq_true hk, lendL, zaF, zaI, zah, zaJ, zaH, zaD, zaE, zaC, zaK, zaL, zaA, zaz, go_sem, zaa, zak, zal, zam, zap, zaf, ↓reduceIte, reduceCtorEq, zad, zae, zaq, zar, zas, zaM, zaO, zaB, zaP, renO, bk, back, outUpsFrom, Ints_ren])
 | (intros; omega)
 | (intros; (try simp only [zax, zay, zaw, zav, zan, zao, decide_eq_true_eq, decide_eq_false_iff_not] at *); omega))
    refine w_loop (ι := Nat) (fun i => ⟨[(4, .one (.optr 0 0)), (5, gr C none), (8, .one (.optr 1 0)), (9, .one (.optr 2 0)), (10, .one (.optr 3 0)), (11, b1 (S i)), (27, i1 l.length), (28, i1 m), (58, gi U none), (59, i1 U.length), (60, i1 i)], [(0, some ⟨[.gsl (Cs l) 0 l.length none, int n], 2⟩), (1, some ⟨[int pm, int w, int qq, int pe, int b, int c0, int c1, .gsl (Ints cp) 0 cp.length none, .gsl (Ints mm) 0 mm.length none, int pt, int m0, int m1, int m2, int m3, int m4, bool mt, .gsl [] 0 0 none], 17⟩), (2, some ⟨[int pm', int w', int qq', int pe', int b', int c0', int c1', .gsl (Ints cp') 0 cp'.length none, .gsl (Ints mm') 0 mm'.length none, int pt', int m0', int m1', int m2', int m3', int m4', bool mt', .gsl [] 0 0 none], 17⟩), (3, some ⟨[int pm', int w', int qq', int pe', int b', int c0', int c1', .gsl (Ints cp') 0 cp'.length none, .gsl (Ints mm') 0 mm'.length none, int pt', int m0', int m1', int m2', int m3', int m4', bool mt', .gsl [] 0 0 none], 17⟩)], 4⟩) (fun i => i ≤ U.length) (fun i => U.length - i) 0 ?_ (Nat.zero_le _) ?_
    · simp only [hS0]
      (refine imp_ren _ _ _ [(0, 0, ⟨[.gsl (Cs l) 0 l.length none, int n], 2⟩), (1, 18, ⟨[int pm, int w, int qq, int pe, int b, int c0, int c1, .gsl (Ints cp) 0 cp.length none, .gsl (Ints mm) 0 mm.length none, int pt, int m0, int m1, int m2, int m3, int m4, bool mt, .gsl [] 0 0 none], 17⟩), (2, 19, ⟨[int pm', int w', int qq', int pe', int b', int c0', int c1', .gsl (Ints cp') 0 cp'.length none, .gsl (Ints mm') 0 mm'.length none, int pt', int m0', int m1', int m2', int m3', int m4', bool mt', .gsl [] 0 0 none], 17⟩), (3, 23, ⟨[int pm', int w', int qq', int pe', int b', int c0', int c1', .gsl (Ints cp') 0 cp'.length none, .gsl (Ints mm') 0 mm'.length none, int pt', int m0', int m1', int m2', int m3', int m4', bool mt', .gsl [] 0 0 none], 17⟩)] (by simp) (by simp) (by simp) (zat rfl) ?_ rfl (by simp only [zab, zac, false_implies, implies_true, and_true, zaN, lookR, zaa, if_true, if_false, ↓reduceIte] <;> (repeat' apply zau) <;> (first | rfl | trivial)) (by simp only [zab, zac, false_implies, implies_true, and_true, true_and, flat_cons, flat_nil, flat_ints, flat_bools, flat_app, zaG, and_self, eq_self_iff_true, zah]); simp only [zag, zaj, zab, zac, false_implies, implies_true, and_true, lk, slot, zaM, zaB, toN, zaa, if_true, if_false, ↓reduceIte, reduceCtorEq])
      all_goals ((repeat' apply zau) <;> (first | rfl | trivial))
    clear x1 x2 x3 x4
    intro i hi
    simp only at hi ⊢
    rcases Nat.lt_or_ge i U.length with hilt | hige
    case inr =>
      have c2 : ¬ (i : Int) < (U.length : Int) := by omega
      obtain rfl : i = U.length := by omega
      rw [hSn]
      have z1 := hP.m.pm
      have z2 := hP.m.q
      have z3 := hP.m.c1
      have z4 := hP.c0
      have z5 := hP.o0
      have z6 := hP.w
      simp only at z1 z2 z3 z4 z5 z6
      have z4' : ¬ c0 > c1 := by omega
      have z5' : ¬ c0 > c0' := by omega
      simp only [go_sem, zaa, zak, zal, zam, zap, zaf, ↓reduceIte, reduceCtorEq, zad, zae, zaq, zar, zas, decide_eq_false c2, if_minS, ← z1, ← z2, ← z3, z6, gt_iff_lt, decide_eq_false (Int.not_lt.2 z4), decide_eq_false (Int.not_lt.2 z5), lendL]
      repeat' (first
 | with_reducible refine zau ?_ ?_
 | (intros; omega)
 | (intros; (try simp only [zax, zay, zaw, zav, zan, zao, decide_eq_true_eq, decide_eq_false_iff_not] at *); omega))
      refine le_mk (m + 1) ?_ hlt (by show l.length - (m + 1) < l.length - m; omega)
      (refine imp_ren _ _ _ [(0, 0, ⟨[.gsl (Cs l) 0 l.length none, int n], 2⟩)] (by simp) (by simp) (by simp) (zat rfl) ?_ rfl (by simp only [zab, zac, false_implies, implies_true, and_true, zaN, lookR, zaa, if_true, if_false, ↓reduceIte] <;> (repeat' apply zau) <;> (first | rfl | trivial)) (by simp only [zab, zac, false_implies, implies_true, and_true, true_and, flat_cons, flat_nil, flat_ints, flat_bools, flat_app, zaG, and_self, eq_self_iff_true, zah]); simp only [zag, zaj, zab, zac, false_implies, implies_true, and_true, lk, slot, zaM, zaB, toN, zaa, if_true, if_false, ↓reduceIte, reduceCtorEq])
      all_goals ((repeat' apply zau) <;> (first | rfl | trivial | (simp only [zai]; done) | (simp only [zai]; rfl) | (simp only [zai]; trivial)))
    have c2 : (i : Int) < (U.length : Int) := by omega
    have y1 := sget_spec C none (U.getD i 0) (by omega) hCr
    have hSi := hSs i hilt
    generalize sgF C (U.getD i 0) = v at *
    obtain ⟨pm9, w9, qq9, pe9, b9, c09, c19, cp9, mm9, pt9, m09, m19, m29, m39, m49, mt9⟩ := v
    simp only [sgt, sgc] at y1
    simp only at hSi
    generalize e9 : S i = si at *
    cases si with
    | true =>
      rw [Bool.true_or] at hSi
      simp only [go_sem, zaa, zak, zal, zam, zap, zaf, ↓reduceIte, reduceCtorEq, zad, zae, zaq, zar, zas, decide_eq_true c2, lendL]
      repeat' (first
 | with_reducible refine zau ?_ ?_
 | (unfold OKC; kernel_rfl)
 | (unfold EDG; kernel_rfl)
 | (intros; omega)
 | (intros; (try simp only [zax, zay, zaw, zav, zan, zao, decide_eq_true_eq, decide_eq_false_iff_not] at *); omega))
      refine le_mk (i + 1) ?_ hilt (by show U.length - (i + 1) < U.length - i; omega)
      simp only [hSi]
      (refine imp_ren _ _ _ [(0, 0, ⟨[.gsl (Cs l) 0 l.length none, int n], 2⟩), (1, 1, ⟨[int pm, int w, int qq, int pe, int b, int c0, int c1, .gsl (Ints cp) 0 cp.length none, .gsl (Ints mm) 0 mm.length none, int pt, int m0, int m1, int m2, int m3, int m4, bool mt, .gsl [] 0 0 none], 17⟩), (2, 2, ⟨[int pm', int w', int qq', int pe', int b', int c0', int c1', .gsl (Ints cp') 0 cp'.length none, .gsl (Ints mm') 0 mm'.length none, int pt', int m0', int m1', int m2', int m3', int m4', bool mt', .gsl [] 0 0 none], 17⟩), (3, 3, ⟨[int pm', int w', int qq', int pe', int b', int c0', int c1', .gsl (Ints cp') 0 cp'.length none, .gsl (Ints mm') 0 mm'.length none, int pt', int m0', int m1', int m2', int m3', int m4', bool mt', .gsl [] 0 0 none], 17⟩)] (by simp) (by simp) (by simp) (zat rfl) ?_ rfl (by simp only [zab, zac, false_implies, implies_true, and_true, zaN, lookR, zaa, if_true, if_false, ↓reduceIte] <;> (repeat' apply zau) <;> (first | rfl | trivial)) (by simp only [zab, zac, false_implies, implies_true, and_true, true_and, flat_cons, flat_nil, flat_ints, flat_bools, flat_app, zaG, and_self, eq_self_iff_true, zah]); simp only [zag, zaj, zab, zac, false_implies, implies_true, and_true, lk, slot, zaM, zaB, toN, zaa, if_true, if_false, ↓reduceIte, reduceCtorEq])
      all_goals ((repeat' apply zau) <;> (first | rfl | trivial | (simp only [zai]; done) | (simp only [zai]; rfl) | (simp only [zai]; trivial)))
    | false =>
      rw [Bool.false_or] at hSi
      simp only [go_sem, zaa, zak, zal, zam, zap, zaf, ↓reduceIte, reduceCtorEq, zad, zae, zaq, zar, zas, decide_eq_true c2, lendL]
      repeat' (first
 | with_reducible refine zau ?_ ?_
 | (unfold OKC; kernel_rfl)
 | (unfold EDG; kernel_rfl)
 | (apply cg_tp
    case hl => rfl
    case ha => (simp only [zag, zaj, prepV, prepC, idx, hpL', lookR, zaa, if_true, if_false]; rfl)
    case hs => rfl
    case h => (first | exact y1 ..))
 | ((first | refine s1_id ?_ | refine swp_id ?_ | refine sops_id ?_ | refine s2_id ?_); simp only [decide_eq_true c2, lendL, zaF, zaI, zah, zaJ, zaH, zaD, zaE, zaC, zaK, zaL, zaA, zaz, go_sem, zaa, zak, zal, zam, zap, zaf, ↓reduceIte, reduceCtorEq, zad, zae, zaq, zar, zas, zaM, zaO, zaB, zaP, renO, bk, back, outUpsFrom, Ints_ren])
 | (intros; omega)
 | (intros; (try simp only [zax, zay, zaw, zav, zan, zao, decide_eq_true_eq, decide_eq_false_iff_not] at *); omega))
      refine le_mk (i + 1) ?_ hilt (by show U.length - (i + 1) < U.length - i; omega)
      simp only [hSi]
      (refine imp_ren _ _ _ [(0, 0, ⟨[.gsl (Cs l) 0 l.length none, int n], 2⟩), (1, 1, ⟨[int pm, int w, int qq, int pe, int b, int c0, int c1, .gsl (Ints cp) 0 cp.length none, .gsl (Ints mm) 0 mm.length none, int pt, int m0, int m1, int m2, int m3, int m4, bool mt, .gsl [] 0 0 none], 17⟩), (2, 2, ⟨[int pm', int w', int qq', int pe', int b', int c0', int c1', .gsl (Ints cp') 0 cp'.length none, .gsl (Ints mm') 0 mm'.length none, int pt', int m0', int m1', int m2', int m3', int m4', bool mt', .gsl [] 0 0 none], 17⟩), (3, 3, ⟨[int pm', int w', int qq', int pe', int b', int c0', int c1', .gsl (Ints cp') 0 cp'.length none, .gsl (Ints mm') 0 mm'.length none, int pt', int m0', int m1', int m2', int m3', int m4', bool mt', .gsl [] 0 0 none], 17⟩)] (by simp) (by simp) (by simp) (zat rfl) ?_ rfl (by simp only [zab, zac, false_implies, implies_true, and_true, zaN, lookR, zaa, if_true, if_false, ↓reduceIte] <;> (repeat' apply zau) <;> (first | rfl | trivial)) (by simp only [zab, zac, false_implies, implies_true, and_true, true_and, flat_cons, flat_nil, flat_ints, flat_bools, flat_app, zaG, and_self, eq_self_iff_true, zah]); simp only [zag, zaj, zab, zac, false_implies, implies_true, and_true, lk, slot, zaM, zaB, toN, zaa, if_true, if_false, ↓reduceIte, reduceCtorEq])
      all_goals ((repeat' apply zau) <;> (first | rfl | trivial | (simp only [zai]; done) | (simp only [zai]; rfl) | (simp only [zai]; trivial)))
  · rw [if_neg hk] at hP
    obtain ⟨pm'', w'', qq'', pe'', b'', c0'', c1'', cp'', mm'', pt'', m0'', m1'', m2'', m3'', m4'', mt''⟩ := y
    simp only [sgt, sgc] at x1 x2 x3
    simp only at hSs
    simp only [go_sem, zaa, zak, zal, zam, zap, zaf, ↓reduceIte, reduceCtorEq, zad, zae, zaq, zar, zas, decide_eq_true c, q2, q3, decide_eq_false hk, lendL]
    repeat' (first
 | with_reducible refine zau ?_ ?_
 | (unfold OKC; kernel_rfl)
 | (unfold EDG; kernel_rfl)
 | (apply cl_plain
    case hs => rfl
    case ha => (simp only [zag, zaj, prepV, prepC, idx, hpL', lookR, zaa, if_true, if_false]; rfl)
    case h => (first | exact x1 .. | exact x2 .. | exact x3 .. | exact x4 ..))
 | ((first | refine s1_id ?_ | refine swp_id ?_ | refine sops_id ?_ | refine s2_id ?_); simp only [decide_eq_true c, q2, q3, decide_eq_false hk, lendL, zaF, zaI, zah, zaJ, zaH, zaD, zaE, zaC, zaK, zaL, zaA, zaz, go_sem, zaa, zak, zal, zam, zap, zaf, ↓reduceIte, reduceCtorEq, zad, zae, zaq, zar, zas, zaM, zaO, zaB, zaP, renO, bk, back, outUpsFrom, Ints_ren])
 | (intros; omega)
 | (intros; (try simp only [zax, zay, zaw, zav, zan, zao, decide_eq_true_eq, decide_eq_false_iff_not] at *); omega))
    refine w_loop (ι := Nat) (fun i => ⟨[(4, .one (.optr 0 0)), (5, gr C none), (8, .one (.optr 1 0)), (9, .one (.optr 2 0)), (10, .one (.optr 3 0)), (11, b1 (S i)), (27, i1 l.length), (28, i1 m), (58, gi U none), (59, i1 U.length), (60, i1 i)], [(0, some ⟨[.gsl (Cs l) 0 l.length none, int n], 2⟩), (1, some ⟨[int pm, int w, int qq, int pe, int b, int c0, int c1, .gsl (Ints cp) 0 cp.length none, .gsl (Ints mm) 0 mm.length none, int pt, int m0, int m1, int m2, int m3, int m4, bool mt, .gsl [] 0 0 none], 17⟩), (2, some ⟨[int pm', int w', int qq', int pe', int b', int c0', int c1', .gsl (Ints cp') 0 cp'.length none, .gsl (Ints mm') 0 mm'.length none, int pt', int m0', int m1', int m2', int m3', int m4', bool mt', .gsl [] 0 0 none], 17⟩), (3, some ⟨[int pm'', int w'', int qq'', int pe'', int b'', int c0'', int c1'', .gsl (Ints cp'') 0 cp''.length none, .gsl (Ints mm'') 0 mm''.length none, int pt'', int m0'', int m1'', int m2'', int m3'', int m4'', bool mt'', .gsl [] 0 0 none], 17⟩)], 4⟩) (fun i => i ≤ U.length) (fun i => U.length - i) 0 ?_ (Nat.zero_le _) ?_
    · simp only [hS0]
      (refine imp_ren _ _ _ [(0, 0, ⟨[.gsl (Cs l) 0 l.length none, int n], 2⟩), (1, 18, ⟨[int pm, int w, int qq, int pe, int b, int c0, int c1, .gsl (Ints cp) 0 cp.length none, .gsl (Ints mm) 0 mm.length none, int pt, int m0, int m1, int m2, int m3, int m4, bool mt, .gsl [] 0 0 none], 17⟩), (2, 19, ⟨[int pm', int w', int qq', int pe', int b', int c0', int c1', .gsl (Ints cp') 0 cp'.length none, .gsl (Ints mm') 0 mm'.length none, int pt', int m0', int m1', int m2', int m3', int m4', bool mt', .gsl [] 0 0 none], 17⟩), (3, 23, ⟨[int pm'', int w'', int qq'', int pe'', int b'', int c0'', int c1'', .gsl (Ints cp'') 0 cp''.length none, .gsl (Ints mm'') 0 mm''.length none, int pt'', int m0'', int m1'', int m2'', int m3'', int m4'', bool mt'', .gsl [] 0 0 none], 17⟩)] (by simp) (by simp) (by simp) (zat rfl) ?_ rfl (by simp only [zab, zac, false_implies, implies_true, and_true, zaN, lookR, zaa, if_true, if_false, ↓reduceIte] <;> (repeat' apply zau) <;> (first | rfl | trivial)) (by simp only [zab, zac, false_implies, implies_true, and_true, true_and, flat_cons, flat_nil, flat_ints, flat_bools, flat_app, zaG, and_self, eq_self_iff_true, zah]); simp only [zag, zaj, zab, zac, false_implies, implies_true, and_true, lk, slot, zaM, zaB, toN, zaa, if_true, if_false, ↓reduceIte, reduceCtorEq])
      all_goals ((repeat' apply zau) <;> (first | rfl | trivial))
    clear x1 x2 x3 x4
    intro i hi
    simp only at hi ⊢
    rcases Nat.lt_or_ge i U.length with hilt | hige
    case inr =>
      have c2 : ¬ (i : Int) < (U.length : Int) := by omega
      obtain rfl : i = U.length := by omega
      rw [hSn]
      have z1 := hP.m.pm
      have z2 := hP.m.q
      have z3 := hP.m.c1
      have z4 := hP.c0
      have z5 := hP.o0
      have z6 := hP.w
      simp only at z1 z2 z3 z4 z5 z6
      have z4' : ¬ c0 > c1 := by omega
      have z5' : ¬ c0 > c0' := by omega
      simp only [go_sem, zaa, zak, zal, zam, zap, zaf, ↓reduceIte, reduceCtorEq, zad, zae, zaq, zar, zas, decide_eq_false c2, if_minS, ← z1, ← z2, ← z3, z6, gt_iff_lt, decide_eq_false (Int.not_lt.2 z4), decide_eq_false (Int.not_lt.2 z5), lendL]
      repeat' (first
 | with_reducible refine zau ?_ ?_
 | (intros; omega)
 | (intros; (try simp only [zax, zay, zaw, zav, zan, zao, decide_eq_true_eq, decide_eq_false_iff_not] at *); omega))
      refine le_mk (m + 1) ?_ hlt (by show l.length - (m + 1) < l.length - m; omega)
      (refine imp_ren _ _ _ [(0, 0, ⟨[.gsl (Cs l) 0 l.length none, int n], 2⟩)] (by simp) (by simp) (by simp) (zat rfl) ?_ rfl (by simp only [zab, zac, false_implies, implies_true, and_true, zaN, lookR, zaa, if_true, if_false, ↓reduceIte] <;> (repeat' apply zau) <;> (first | rfl | trivial)) (by simp only [zab, zac, false_implies, implies_true, and_true, true_and, flat_cons, flat_nil, flat_ints, flat_bools, flat_app, zaG, and_self, eq_self_iff_true, zah]); simp only [zag, zaj, zab, zac, false_implies, implies_true, and_true, lk, slot, zaM, zaB, toN, zaa, if_true, if_false, ↓reduceIte, reduceCtorEq])
      all_goals ((repeat' apply zau) <;> (first | rfl | trivial | (simp only [zai]; done) | (simp only [zai]; rfl) | (simp only [zai]; trivial)))
    have c2 : (i : Int) < (U.length : Int) := by omega
    have y1 := sget_spec C none (U.getD i 0) (by omega) hCr
    have hSi := hSs i hilt
    generalize sgF C (U.getD i 0) = v at *
    obtain ⟨pm9, w9, qq9, pe9, b9, c09, c19, cp9, mm9, pt9, m09, m19, m29, m39, m49, mt9⟩ := v
    simp only [sgt, sgc] at y1
    simp only at hSi
    generalize e9 : S i = si at *
    cases si with
    | true =>
      rw [Bool.true_or] at hSi
      simp only [go_sem, zaa, zak, zal, zam, zap, zaf, ↓reduceIte, reduceCtorEq, zad, zae, zaq, zar, zas, decide_eq_true c2, lendL]
      repeat' (first
 | with_reducible refine zau ?_ ?_
 | (unfold OKC; kernel_rfl)
 | (unfold EDG; kernel_rfl)
 | (intros; omega)
 | (intros; (try simp only [zax, zay, zaw, zav, zan, zao, decide_eq_true_eq, decide_eq_false_iff_not] at *); omega))
      refine le_mk (i + 1) ?_ hilt (by show U.length - (i + 1) < U.length - i; omega)
      simp only [hSi]
      (refine imp_ren _ _ _ [(0, 0, ⟨[.gsl (Cs l) 0 l.length none, int n], 2⟩), (1, 1, ⟨[int pm, int w, int qq, int pe, int b, int c0, int c1, .gsl (Ints cp) 0 cp.length none, .gsl (Ints mm) 0 mm.length none, int pt, int m0, int m1, int m2, int m3, int m4, bool mt, .gsl [] 0 0 none], 17⟩), (2, 2, ⟨[int pm', int w', int qq', int pe', int b', int c0', int c1', .gsl (Ints cp') 0 cp'.length none, .gsl (Ints mm') 0 mm'.length none, int pt', int m0', int m1', int m2', int m3', int m4', bool mt', .gsl [] 0 0 none], 17⟩), (3, 3, ⟨[int pm'', int w'', int qq'', int pe'', int b'', int c0'', int c1'', .gsl (Ints cp'') 0 cp''.length none, .gsl (Ints mm'') 0 mm''.length none, int pt'', int m0'', int m1'', int m2'', int m3'', int m4'', bool mt'', .gsl [] 0 0 none], 17⟩)] (by simp) (by simp) (by simp) (zat rfl) ?_ rfl (by simp only [zab, zac, false_implies, implies_true, and_true, zaN, lookR, zaa, if_true, if_false, ↓reduceIte] <;> (repeat' apply zau) <;> (first | rfl | trivial)) (by simp only [zab, zac, false_implies, implies_true, and_true, true_and, flat_cons, flat_nil, flat_ints, flat_bools, flat_app, zaG, and_self, eq_self_iff_true, zah]); simp only [zag, zaj, zab, zac, false_implies, implies_true, and_true, lk, slot, zaM, zaB, toN, zaa, if_true, if_false, ↓reduceIte, reduceCtorEq])
      all_goals ((repeat' apply zau) <;> (first | rfl | trivial | (simp only [zai]; done) | (simp only [zai]; rfl) | (simp only [zai]; trivial)))
    | false =>
      rw [Bool.false_or] at hSi
      simp only [go_sem, zaa, zak, zal, zam, zap, zaf, ↓reduceIte, reduceCtorEq, zad, zae, zaq, zar, zas, decide_eq_true c2, lendL]
      repeat' (first
 | with_reducible refine zau ?_ ?_
 | (unfold OKC; kernel_rfl)
 | (unfold EDG; kernel_rfl)
 | (apply cg_tp
    case hl => rfl
    case ha => (simp only [zag, zaj, prepV, prepC, idx, hpL', lookR, zaa, if_true, if_false]; rfl)
    case hs => rfl
    case h => (first | exact y1 ..))
 | ((first | refine s1_id ?_ | refine swp_id ?_ | refine sops_id ?_ | refine s2_id ?_); simp only [decide_eq_true c2, lendL, zaF, zaI, zah, zaJ, zaH, zaD, zaE, zaC, zaK, zaL, zaA, zaz, go_sem, zaa, zak, zal, zam, zap, zaf, ↓reduceIte, reduceCtorEq, zad, zae, zaq, zar, zas, zaM, zaO, zaB, zaP, renO, bk, back, outUpsFrom, Ints_ren])
 | (intros; omega)
 | (intros; (try simp only [zax, zay, zaw, zav, zan, zao, decide_eq_true_eq, decide_eq_false_iff_not] at *); omega))
      refine le_mk (i + 1) ?_ hilt (by show U.length - (i + 1) < U.length - i; omega)
      simp only [hSi]
      (refine imp_ren _ _ _ [(0, 0, ⟨[.gsl (Cs l) 0 l.length none, int n], 2⟩), (1, 1, ⟨[int pm, int w, int qq, int pe, int b, int c0, int c1, .gsl (Ints cp) 0 cp.length none, .gsl (Ints mm) 0 mm.length none, int pt, int m0, int m1, int m2, int m3, int m4, bool mt, .gsl [] 0 0 none], 17⟩), (2, 2, ⟨[int pm', int w', int qq', int pe', int b', int c0', int c1', .gsl (Ints cp') 0 cp'.length none, .gsl (Ints mm') 0 mm'.length none, int pt', int m0', int m1', int m2', int m3', int m4', bool mt', .gsl [] 0 0 none], 17⟩), (3, 3, ⟨[int pm'', int w'', int qq'', int pe'', int b'', int c0'', int c1'', .gsl (Ints cp'') 0 cp''.length none, .gsl (Ints mm'') 0 mm''.length none, int pt'', int m0'', int m1'', int m2'', int m3'', int m4'', bool mt'', .gsl [] 0 0 none], 17⟩)] (by simp) (by simp) (by simp) (zat rfl) ?_ rfl (by simp only [zab, zac, false_implies, implies_true, and_true, zaN, lookR, zaa, if_true, if_false, ↓reduceIte] <;> (repeat' apply zau) <;> (first | rfl | trivial)) (by simp only [zab, zac, false_implies, implies_true, and_true, true_and, flat_cons, flat_nil, flat_ints, flat_bools, flat_app, zaG, and_self, eq_self_iff_true, zah]); simp only [zag, zaj, zab, zac, false_implies, implies_true, and_true, lk, slot, zaM, zaB, toN, zaa, if_true, if_false, ↓reduceIte, reduceCtorEq])
      all_goals ((repeat' apply zau) <;> (first | rfl | trivial | (simp only [zai]; done) | (simp only [zai]; rfl) | (simp only [zai]; trivial)))
theorem lowest11_main (g0 : List Cell) (s0 : GTy Try.prog 12 22 g0) : FnSpec Try.prog 8 [svOf Try.prog 22 g0] [] (b1 true) [] := by
  obtain ⟨l, rfl, hl, hr⟩ := gty_ints (n := 10) Try.underlying22 Try.underlying3 s0
  simp only [svOf, Try.underlying22, List.headD_cons]
  exact lowest11_spec l hr
end Go.Proofs.Ytcnilpdlcmpbbab
