/- Contracts of functions, told of values, on the way to SettingsSets (part 6). -/
import Derived.Test.YtcnilpdlcmpbbabSettingsSetsM3
import Derived.Test.YtcnilpdlcmpbbabSettingsSetsM5
-- short names of the library's lemmas
open Nat renaming reduceEqDiff → zaa, reduceLeDiff → zah, reduceAdd → zaj, reduceSub → zak, reduceMul → zal, reduceLT → zam, le_of_ble_eq_true → zay
open List renaming forall_mem_cons → zab, not_mem_nil → zac, map_cons → zad, reduceReplicate → zae, map_nil → zaf, append_nil → zai, length_nil → zau, length_cons → zaw, take_succ_cons → zaC, set_cons_zero → zaD, set_cons_succ → zaE, nil_append → zaG, flatten_cons → zaH, flatten_nil → zaI, cons_append → zaJ, getD_cons_zero → zaK, getD_cons_succ → zaL, take_zero → zaM, take_nil → zaQ
open Int renaming cast_ofNat_Int → zag, reduceEq → zan, reduceLT → zao, reduceLE → zap, natCast_add → zar
open Option renaming getD_some → zaN, getD_none → zaO
open Bool renaming and_eq_false_iff → zaq, or_eq_false_iff → zas, not_eq_false' → zav, not_eq_true' → zax, and_eq_true → zaz, or_eq_true → zaA
open And renaming intro → zat
open Go.Proofs.Ytcnilpdlcmpbbab.Sh.Cell renaming ren → zaB, refs → zaF
open Go.Proofs.Ytcnilpdlcmpbbab.Sh.SV renaming ren → zaP, renL → zaR
open Go.Proofs.Ytcnilpdlcmpbbab.Sh.Row renaming ren → zaS
-- NEWGO
-- PRUNE: cl_lendx cl_use
-- ISG: Cs_isG
-- FLAT: Cs_flat
namespace Go.Proofs.Ytcnilpdlcmpbbab
set_option linter.unusedVariables false
set_option linter.unusedSimpArgs false
open Go.Proofs.Ytcnilpdlcmpbbab.Sh
set_option maxRecDepth 20000
def pmS (D : List Int) (j : Nat) : Int × Nat := if nxV D j 2 = 1 then (nxV D (nxA D j 2) 6, nxA D (nxA D j 2) 6) else (4611686018427387904, nxA D j 2)
def quS (D : List Int) (j : Nat) : (Int × Int) × Nat := if nxV D j 2 = 1 then ((1 + nxV D (nxA D j 2) 9, nxV D (nxA D (nxA D j 2) 9) (1 + nxV D (nxA D j 2) 9 + 1)), nxA D (nxA D (nxA D j 2) 9) (1 + nxV D (nxA D j 2) 9 + 1)) else ((4611686018427387904, 0), nxA D j 2)
def lsS (D : List Int) (j n : Nat) : List Int × Nat := if nxV D j 2 = 1 then dSet D (nxA D j 2) n else ([], nxA D j 2)
def ptS (D : List Int) (j : Nat) : Int × Nat := (if nxV D j 3 = 2 then 1 else 0, nxA D j 3)
def mk1 (D : List Int) (j : Nat) : (Int × Int) × Nat := quS D (wtA D (pmS D j).2)
def mk2 (D : List Int) (j : Nat) : Nat := nxA D (nxA D (nxA D (mk1 D j).2 9) 10001) 10001
def mk3 (D : List Int) (j : Nat) : List Int × Nat := lsS D (mk2 D j) 6
def mk4 (D : List Int) (j : Nat) : List Int × Nat := lsS D (mk3 D j).2 4
def mkS (D : List Int) (j : Nat) : Sg × Nat := (⟨(pmS D j).1, wtV D (pmS D j).2, (mk1 D j).1.1, 1 + nxV D (mk1 D j).2 9, (mk1 D j).1.2, nxV D (nxA D (mk1 D j).2 9) 10001, nxV D (nxA D (nxA D (mk1 D j).2 9) 10001) 10001, (mk3 D j).1, (mk4 D j).1, (ptS D (mk4 D j).2).1, 0, 0, 4611686018427387904, 4611686018427387904, 4611686018427387904, false⟩, (ptS D (mk4 D j).2).2)
def lendS : FuncId → List Nat := fun f => if f = 15 then [0] else if f = 32 then [0] else if f = 60 then [0] else if f = 61 then [0] else []
section
variable (D : List Int) (hl : D.length ≤ 600) (hr : ∀ x ∈ D, -9223372036854775808 ≤ x ∧ x ≤ 9223372036854775807) (j : Nat)
include hl hr
theorem pm_cs : ∃ B v j1 j2, pmS D j = (v, j2) ∧ FnSpec Try.prog 32 [dp, i1 2] [dice D j] (b1 B) [some (dice D j1)] ∧ ((B = true ∧ FnSpec Try.prog 15 [dp, i1 6] [dice D j1] (i1 v) [some (dice D j2)]) ∨ (B = false ∧ v = 4611686018427387904 ∧ j2 = j1)) := by
  have n1 := bool_spec D j 2 hl hr (by decide)
  unfold pmS
  by_cases hv : nxV D j 2 = 1
  · rw [decide_eq_true (by omega : nxV D j 2 = 2 - 1)] at n1
    rw [if_pos hv]
    exact ⟨_, _, _, _, rfl, n1, .inl ⟨rfl, next_spec D _ 6 hl hr (by decide)⟩⟩
  · rw [decide_eq_false (by omega : ¬ nxV D j 2 = 2 - 1)] at n1
    rw [if_neg hv]
    exact ⟨_, _, _, _, rfl, n1, .inr ⟨rfl, rfl, rfl⟩⟩
theorem qu_cs : ∃ B q b j1 j4, quS D j = ((q, b), j4) ∧ FnSpec Try.prog 32 [dp, i1 2] [dice D j] (b1 B) [some (dice D j1)] ∧ ((B = true ∧ ∃ v j2, (0 ≤ v ∧ v < 9) ∧ q = 1 + v ∧ FnSpec Try.prog 15 [dp, i1 9] [dice D j1] (i1 v) [some (dice D j2)] ∧ FnSpec Try.prog 15 [dp, i1 (1 + v + 1)] [dice D j2] (i1 b) [some (dice D j4)]) ∨ (B = false ∧ q = 4611686018427387904 ∧ b = 0 ∧ j4 = j1)) := by
  have n1 := bool_spec D j 2 hl hr (by decide)
  unfold quS
  by_cases hv : nxV D j 2 = 1
  · rw [decide_eq_true (by omega : nxV D j 2 = 2 - 1)] at n1
    rw [if_pos hv]
    have r := nxV_rng D (nxA D j 2) 9 (by decide)
    exact ⟨_, _, _, _, _, rfl, n1, .inl ⟨rfl, _, _, r, rfl, next_spec D _ 9 hl hr (by decide), next_spec D _ _ hl hr (by omega)⟩⟩
  · rw [decide_eq_false (by omega : ¬ nxV D j 2 = 2 - 1)] at n1
    rw [if_neg hv]
    exact ⟨_, _, _, _, _, rfl, n1, .inr ⟨rfl, rfl, rfl, rfl⟩⟩
theorem ls_cs (n : Nat) (hn : n ≤ 1000) : ∃ B A j1 j2, lsS D j n = (A, j2) ∧ FnSpec Try.prog 32 [dp, i1 2] [dice D j] (b1 B) [some (dice D j1)] ∧ ((B = true ∧ FnSpec Try.prog 61 [dp, i1 n] [dice D j1] (gi A none) [some (dice D j2)]) ∨ (B = false ∧ A = [] ∧ j2 = j1)) := by
  have n1 := bool_spec D j 2 hl hr (by decide)
  unfold lsS
  by_cases hv : nxV D j 2 = 1
  · rw [decide_eq_true (by omega : nxV D j 2 = 2 - 1)] at n1
    rw [if_pos hv]
    exact ⟨_, _, _, _, rfl, n1, .inl ⟨rfl, dset_spec D _ n hn hl hr⟩⟩
  · rw [decide_eq_false (by omega : ¬ nxV D j 2 = 2 - 1)] at n1
    rw [if_neg hv]
    exact ⟨_, _, _, _, rfl, n1, .inr ⟨rfl, rfl, rfl⟩⟩
theorem pt_cs : ∃ B p j1, ptS D j = (p, j1) ∧ FnSpec Try.prog 32 [dp, i1 3] [dice D j] (b1 B) [some (dice D j1)] ∧ ((B = true ∧ p = 1) ∨ (B = false ∧ p = 0)) := by
  have n1 := bool_spec D j 3 hl hr (by decide)
  unfold ptS
  by_cases hv : nxV D j 3 = 2
  · rw [decide_eq_true (by omega : nxV D j 3 = 3 - 1)] at n1
    rw [if_pos hv]
    exact ⟨_, _, _, rfl, n1, .inl ⟨rfl, rfl⟩⟩
  · rw [decide_eq_false (by omega : ¬ nxV D j 3 = 3 - 1)] at n1
    rw [if_neg hv]
    exact ⟨_, _, _, rfl, n1, .inr ⟨rfl, rfl⟩⟩
end
set_option maxHeartbeats 64000000 in
theorem dsettings_spec (D : List Int) (hl : D.length ≤ 600) (hr : ∀ x ∈ D, -9223372036854775808 ≤ x ∧ x ≤ 9223372036854775807) (j : Nat) : FnSpec Try.prog 24 [dp] [dice D j] (sgt (mkS D j).1) [some (dice D (mkS D j).2)] := by
  have n0 := srdef_spec
  simp only [sgt, sgc] at n0
  simp only [mkS, mk4, mk3, mk2, mk1]
  obtain ⟨B1, v1, j1, j2, e1, n1, d1⟩ := pm_cs D hl hr j
  rw [e1]
  simp only
  have n2 := weight_spec D j2 hl hr
  generalize wtV D j2 = w at *
  generalize wtA D j2 = j3 at *
  obtain ⟨B2, q, b, j4, j7, e2, n3, d2⟩ := qu_cs D hl hr j3
  rw [e2]
  simp only
  have n4 := next_spec D j7 9 hl hr (by decide)
  have r4 := nxV_rng D j7 9 (by decide)
  generalize nxV D j7 9 = v4 at *
  generalize nxA D j7 9 = j8 at *
  have n5 := next_spec D j8 10001 hl hr (by decide)
  generalize nxV D j8 10001 = v5 at *
  generalize nxA D j8 10001 = j9 at *
  have n6 := next_spec D j9 10001 hl hr (by decide)
  generalize nxV D j9 10001 = v6 at *
  generalize nxA D j9 10001 = ja at *
  obtain ⟨B3, A1, jb, jc, e3, n7, d3⟩ := ls_cs D hl hr ja 6 (by decide)
  rw [e3]
  simp only
  obtain ⟨B4, A2, jd, je, e4, n8, d4⟩ := ls_cs D hl hr jc 4 (by decide)
  rw [e4]
  simp only
  obtain ⟨B5, p, jf, e5, n9, d5⟩ := pt_cs D hl hr je
  rw [e5]
  simp only [sgt, sgc]
  clear e1 e2 e3 e4 e5 hl hr
  rcases d1 with ⟨rfl, m1⟩ | ⟨rfl, rfl, rfl⟩
  all_goals rcases d2 with ⟨rfl, v2, j5, r2, rfl, m2, m3⟩ | ⟨rfl, rfl, rfl, rfl⟩
  all_goals rcases d3 with ⟨rfl, m4⟩ | ⟨rfl, rfl, rfl⟩
  all_goals rcases d4 with ⟨rfl, m5⟩ | ⟨rfl, rfl, rfl⟩
  all_goals rcases d5 with ⟨rfl, rfl⟩ | ⟨rfl, rfl⟩
  all_goals (
    refine fnspec_of mixed TT_ok TT_cl ⟨fun _ => false, lendS, 1, fun _ => false, fun _ => false⟩ Try.func24 rfl (by kernel_rfl) rfl 49 rfl [.cell 2 47] rfl ?_
    simp only [go_sem, zaa, zaj, zak, zal, zam, zah, ↓reduceIte, reduceCtorEq, zae, zag, zan, zao, zap, lendS]
    repeat' (first
 | with_reducible refine zat ?_ ?_
 | (apply cl_plain
    case hs => rfl
    case ha => (simp only [zad, zaf, prepV, prepC, idx, hpL', lookR, zaa, if_true, if_false]; rfl)
    case h => (first | assumption))
 | (apply cl_lend
    case hr => (simp only [zad, zaf, hpL', lookR, zaa, if_true, if_false]; first | exact map1 _ | exact map2 _ _ | exact map3 _ _ _)
    case ha => (simp only [zad, zaf, prepV, prepC, idx, hpL', lookR, zaa, if_true, if_false]; rfl)
    case hs => rfl
    case hn => decide
    case h => (first | assumption)
    case hf => (simp only [zab, zac, false_implies, implies_true, and_true, true_and, flat_cons, flat_nil, flat_ints, flat_bools, flat_app, Cs_flat, zaF, and_self, eq_self_iff_true, zai])
    case hl => (simp only [zaw, zau]; decide))
 | ((first | refine s1_id ?_ | refine swp_id ?_ | refine sops_id ?_ | refine s2_id ?_); simp only [lendS, dice, zaH, zaI, zai, zaJ, zaG, zaD, zaE, zaC, zaM, zaQ, zaw, zau, go_sem, zaa, zaj, zak, zal, zam, zah, ↓reduceIte, reduceCtorEq, zae, zag, zan, zao, zap, zaP, zaR, zaB, zaS, renO, bk, back, outUpsFrom, Ints_ren])
 | (intros; omega)
 | (intros; (try simp only [zaz, zaA, zax, zav, zaq, zas, decide_eq_true_eq, decide_eq_false_iff_not] at *); omega))
    (refine fs_flat [(0, dice D jf)] (by simp) (by simp only [zad, zaf]; decide) (by simp only [go_sem, resV, resS, zaP, zaR, zaB, St.tmF, St.hpF, idx, renO, zaS, evS, slot, lookR, zaa, ↓reduceIte, reduceCtorEq, if_true, if_false, zaN, zaO, zad, zaf, sLoad, readAt, readNeed, Ints_ren, Ints_length, Ints_getD, and_true, true_and, zaK, zaL]; try decide) ?_ (by simp only [zab, zac, false_implies, implies_true, and_true, St.hpF, lookR, zaa, if_true, if_false, ↓reduceIte, dice] <;> (repeat' apply zat) <;> (first | rfl | trivial)) (by simp only [zab, zac, false_implies, implies_true, and_true, true_and, flat_cons, flat_nil, flat_ints, flat_bools, flat_app, zaF, and_self, eq_self_iff_true, zai, dice]) ?_ <;> (try simp only [go_sem, resV, resS, zaP, zaR, zaB, St.tmF, St.hpF, idx, renO, zaS, evS, slot, lookR, zaa, ↓reduceIte, reduceCtorEq, if_true, if_false, zaN, zaO, zad, zaf, sLoad, readAt, readNeed, Ints_ren, Ints_length, Ints_getD, and_true, true_and, zaK, zaL]) <;> (try rfl)))
end Go.Proofs.Ytcnilpdlcmpbbab
-- NEWGO
-- PRUNE: cl_lendx cl_use
-- ISG: Cs_isG
-- FLAT: Cs_flat
namespace Go.Proofs.Ytcnilpdlcmpbbab
set_option linter.unusedVariables false
set_option linter.unusedSimpArgs false
open Go.Proofs.Ytcnilpdlcmpbbab.Sh
set_option maxRecDepth 20000
def cfS (D : List Int) (j : Nat) : Sg × Nat := if nxV D j 2 = 1 then mkS D (nxA D j 2) else (dfS, nxA D j 2)
def cfA (D : List Int) : List Nd → Nat → List Cf → List Cf × Nat
  | [], j, acc => (acc, j)
  | x :: r, j, acc => cfA D r (cfS D j).2 (acc ++ [⟨x.i, (cfS D j).1⟩])
def mkC (D : List Int) (l : List Nd) (j : Nat) : List Cf × Nat := cfA D l j []
theorem cf_cs (D : List Int) (hl : D.length ≤ 600) (hr : ∀ x ∈ D, -9223372036854775808 ≤ x ∧ x ≤ 9223372036854775807) (j : Nat) : ∃ B s j1 j2, cfS D j = (s, j2) ∧ FnSpec Try.prog 32 [dp, i1 2] [dice D j] (b1 B) [some (dice D j1)] ∧ ((B = true ∧ FnSpec Try.prog 24 [dp] [dice D j1] (sgt s) [some (dice D j2)]) ∨ (B = false ∧ s = dfS ∧ j2 = j1)) := by
  have n1 := bool_spec D j 2 hl hr (by decide)
  unfold cfS
  by_cases hv : nxV D j 2 = 1
  · rw [decide_eq_true (by omega : nxV D j 2 = 2 - 1)] at n1
    rw [if_pos hv]
    exact ⟨_, _, _, _, rfl, n1, .inl ⟨rfl, dsettings_spec D hl hr _⟩⟩
  · rw [decide_eq_false (by omega : ¬ nxV D j 2 = 2 - 1)] at n1
    rw [if_neg hv]
    exact ⟨_, _, _, _, rfl, n1, .inr ⟨rfl, rfl, rfl⟩⟩
def lendC : FuncId → List Nat := fun f => if f = 32 then [0] else if f = 24 then [0] else []
set_option maxHeartbeats 16000000 in
theorem dconfigs_spec (D : List Int) (hl : D.length ≤ 600) (hr : ∀ x ∈ D, -9223372036854775808 ≤ x ∧ x ≤ 9223372036854775807) (l : List Nd) (n : Int) (hL : l.length ≤ 1000000) (j : Nat) : FnSpec Try.prog 13 [dp, trV l none n] [dice D j] (gr (mkC D l j).1 none) [some (dice D (mkC D l j).2)] := by
  have n0 := srdef_spec
  simp only [sgt, sgc] at n0
  have hnl := nd_len l
  obtain ⟨T, hT⟩ : ∃ T, mkC D l j = T := ⟨_, rfl⟩
  rw [hT]
  obtain ⟨R, J⟩ := T
  unfold mkC at hT
  simp only
  refine fnspec_of mixed TT_ok TT_cl ⟨fun _ => false, lendC, 1, fun _ => false, fun _ => false⟩ Try.func13 rfl (by kernel_rfl) rfl 32 rfl [.tmp 4] rfl ?_
  simp only [go_sem, zaa, zaj, zak, zal, zam, zah, ↓reduceIte, reduceCtorEq, zae, zag, zan, zao, zap, lendC]
  repeat' (first
 | (intros; (try simp only [zaz, zaA, zax, zav, zaq, zas, decide_eq_true_eq, decide_eq_false_iff_not] at *); omega))
  refine w_loop (ι := Nat × List Cf × Nat) (fun s => ⟨[(0, dp), (3, .one (.optr 1 0)), (5, .one (.osl 2 0 s.1 none)), (6, i1 s.1)], [(0, some (dice D s.2.2)), (1, some ⟨[.gsl (Cs l) 0 l.length none, int n], 2⟩), (2, some ⟨Cs s.2.1, 18⟩)], 3⟩) (fun s => s.1 ≤ l.length ∧ s.2.1.length = s.1 ∧ cfA D (l.drop s.1) s.2.2 s.2.1 = (R, J)) (fun s => l.length - s.1) (0, [], j) ?_ ⟨Nat.zero_le _, rfl, hT⟩ ?_
  · (refine Imp.trans (imp_nilA _ _ 5 18 99 (by simp only []; omega) rfl) ?_)
    (refine imp_ren _ _ _ [(0, 0, dice D j), (1, 1, ⟨[.gsl (Cs l) 0 l.length none, int n], 2⟩), (2, 99, ⟨[], 18⟩)] (by simp) (by simp) (by simp) (zay rfl) ?_ rfl (by simp only [zab, zac, false_implies, implies_true, and_true, St.hpF, lookR, zaa, if_true, if_false, ↓reduceIte, dice] <;> (repeat' apply zat) <;> (first | rfl | trivial)) (by simp only [zab, zac, false_implies, implies_true, and_true, true_and, flat_cons, flat_nil, flat_ints, flat_bools, flat_app, zaF, and_self, eq_self_iff_true, zai, dice]); simp only [zad, zaf, zab, zac, false_implies, implies_true, and_true, lk, slot, zaP, zaB, toN, zaa, if_true, if_false, ↓reduceIte, reduceCtorEq])
    all_goals ((repeat' apply zat) <;> (first | rfl | trivial))
  clear hT
  rintro ⟨m, acc, j0⟩ ⟨hm, ha, hI⟩
  simp only at hm ha hI ⊢
  rcases Nat.lt_or_ge m l.length with hlt | hge
  case inr =>
    have c : ¬ (m : Int) < (l.length : Int) := by omega
    obtain rfl : m = l.length := by omega
    rw [List.drop_length, cfA] at hI
    obtain ⟨rfl, rfl⟩ := Prod.mk.inj hI
    simp only [go_sem, zaa, zaj, zak, zal, zam, zah, ↓reduceIte, reduceCtorEq, zae, zag, zan, zao, zap, decide_eq_false c, lendC]
    repeat' (first
 | (intros; (try simp only [zaz, zaA, zax, zav, zaq, zas, decide_eq_true_eq, decide_eq_false_iff_not] at *); omega))
    rw [show gr acc none = SV.one (.gsl (Cs acc) 0 l.length none) from by rw [← ha]]
    (refine fs_frz 2 ⟨Cs acc, 18⟩ (by simp only [St.hpF, lookR, zaa, if_true, if_false, ↓reduceIte]) (by first | exact Ints_isG _ | exact Bools_isG _ | exact Cs_isG _ | (simp [Cell.isG]; done)) ?_; simp only [frzTm, SV.frz, SV.frzL, Cell.frz, frzHp, frzO, Ints_frz, Bools_frz, zad, zaf, zaa, if_true, if_false, ↓reduceIte])
    (refine fs_flat [(0, dice D j0)] (by simp) (by simp only [zad, zaf]; decide) (by simp only [go_sem, resV, resS, zaP, zaR, zaB, St.tmF, St.hpF, idx, renO, zaS, evS, slot, lookR, zaa, ↓reduceIte, reduceCtorEq, if_true, if_false, zaN, zaO, zad, zaf, sLoad, readAt, readNeed, Ints_ren, Ints_length, Ints_getD, and_true, true_and, zaK, zaL]; try decide) ?_ (by simp only [zab, zac, false_implies, implies_true, and_true, St.hpF, lookR, zaa, if_true, if_false, ↓reduceIte, dice] <;> (repeat' apply zat) <;> (first | rfl | trivial)) (by simp only [zab, zac, false_implies, implies_true, and_true, true_and, flat_cons, flat_nil, flat_ints, flat_bools, flat_app, zaF, and_self, eq_self_iff_true, zai, dice]) ?_ <;> (try simp only [go_sem, resV, resS, zaP, zaR, zaB, St.tmF, St.hpF, idx, renO, zaS, evS, slot, lookR, zaa, ↓reduceIte, reduceCtorEq, if_true, if_false, zaN, zaO, zad, zaf, sLoad, readAt, readNeed, Ints_ren, Ints_length, Ints_getD, and_true, true_and, zaK, zaL]) <;> (try rfl))
  have c : (m : Int) < (l.length : Int) := by omega
  obtain ⟨q1, _⟩ := nd_f l m hlt (.sc (.int .i64 0))
  rw [drop_getD l m zn hlt, cfA] at hI
  change cfA D (l.drop (m + 1)) (cfS D j0).2 (acc ++ [⟨(gN l m).i, (cfS D j0).1⟩]) = (R, J) at hI
  obtain ⟨B, s, j1, j2, e1, n1, d1⟩ := cf_cs D hl hr j0
  rw [e1] at hI
  simp only at hI
  have hla : (acc ++ [(⟨(gN l m).i, s⟩ : Cf)]).length = m + 1 := by rw [List.length_append, ha]; rfl
  have hS : Cs acc ++ (int (gN l m).i :: sgc s) = Cs (acc ++ [(⟨(gN l m).i, s⟩ : Cf)]) := Cs_snoc acc (⟨(gN l m).i, s⟩ : Cf)
  have htk : List.take (m * 18) (Cs acc) = Cs acc := Cs_all _ _ (by rw [ha]; exact Nat.le_refl _)
  have hpt := cf_len acc
  rw [ha] at hpt
  generalize acc ++ [(⟨(gN l m).i, s⟩ : Cf)] = W at *
  generalize (gN l m).i = id' at *
  clear e1 hl hr
  rcases d1 with ⟨rfl, m1⟩ | ⟨rfl, rfl, rfl⟩
  · obtain ⟨pm, w, q, pe, b, c0, c1, cp, mm, pt, m0, m1', m2, m3, m4, mt⟩ := s
    simp only [sgc, sgt] at m1 hS
    simp only [go_sem, zaa, zaj, zak, zal, zam, zah, ↓reduceIte, reduceCtorEq, zae, zag, zan, zao, zap, decide_eq_true c, q1, hS, lendC]
    repeat' (first
 | with_reducible refine zat ?_ ?_
 | (unfold OKC; kernel_rfl)
 | (unfold EDG; kernel_rfl)
 | (apply cl_plain
    case hs => rfl
    case ha => (simp only [zad, zaf, prepV, prepC, idx, hpL', lookR, zaa, if_true, if_false]; rfl)
    case h => (first | exact n0 .. | exact n1 .. | exact m1 ..))
 | (apply cl_lend
    case hr => (simp only [zad, zaf, hpL', lookR, zaa, if_true, if_false]; first | exact map1 _ | exact map2 _ _ | exact map3 _ _ _)
    case ha => (simp only [zad, zaf, prepV, prepC, idx, hpL', lookR, zaa, if_true, if_false]; rfl)
    case hs => rfl
    case hn => decide
    case h => (first | exact n0 .. | exact n1 .. | exact m1 ..)
    case hf => (simp only [zab, zac, false_implies, implies_true, and_true, true_and, flat_cons, flat_nil, flat_ints, flat_bools, flat_app, Cs_flat, zaF, and_self, eq_self_iff_true, zai])
    case hl => (simp only [zaw, zau]; decide))
 | ((first | refine s1_id ?_ | refine swp_id ?_ | refine sops_id ?_ | refine s2_id ?_); simp only [decide_eq_true c, q1, hS, htk, lendC, dice, zaH, zaI, zai, zaJ, zaG, zaD, zaE, zaC, zaM, zaQ, zaw, zau, go_sem, zaa, zaj, zak, zal, zam, zah, ↓reduceIte, reduceCtorEq, zae, zag, zan, zao, zap, zaP, zaR, zaB, zaS, renO, bk, back, outUpsFrom, Ints_ren])
 | (intros; omega)
 | (intros; (try simp only [zaz, zaA, zax, zav, zaq, zas, decide_eq_true_eq, decide_eq_false_iff_not] at *); omega))
    refine le_mk (m + 1, W, j2) ?_ ⟨hlt, hla, hI⟩ (by show l.length - (m + 1) < l.length - m; omega)
    (refine imp_ren _ _ _ [(0, 0, dice D j2), (1, 1, ⟨[.gsl (Cs l) 0 l.length none, int n], 2⟩), (2, 26, ⟨Cs W, 18⟩)] (by simp) (by simp) (by simp) (zay rfl) ?_ rfl (by simp only [zab, zac, false_implies, implies_true, and_true, St.hpF, lookR, zaa, if_true, if_false, ↓reduceIte, dice, Cs_flat] <;> (repeat' apply zat) <;> (first | rfl | trivial)) (by simp only [zab, zac, false_implies, implies_true, and_true, true_and, flat_cons, flat_nil, flat_ints, flat_bools, flat_app, zaF, and_self, eq_self_iff_true, zai, dice, Cs_flat]); simp only [zad, zaf, zab, zac, false_implies, implies_true, and_true, lk, slot, zaP, zaB, toN, zaa, if_true, if_false, ↓reduceIte, reduceCtorEq])
    all_goals ((repeat' apply zat) <;> (first | rfl | trivial | (simp only [zar]; done) | (simp only [zar]; rfl) | (simp only [zar]; trivial)))
  · simp only [sgc, zau] at hS n0
    simp only [go_sem, zaa, zaj, zak, zal, zam, zah, ↓reduceIte, reduceCtorEq, zae, zag, zan, zao, zap, decide_eq_true c, q1, hS, lendC]
    repeat' (first
 | with_reducible refine zat ?_ ?_
 | (unfold OKC; kernel_rfl)
 | (unfold EDG; kernel_rfl)
 | (apply cl_plain
    case hs => rfl
    case ha => (simp only [zad, zaf, prepV, prepC, idx, hpL', lookR, zaa, if_true, if_false]; rfl)
    case h => (first | exact n0 .. | exact n1 ..))
 | (apply cl_lend
    case hr => (simp only [zad, zaf, hpL', lookR, zaa, if_true, if_false]; first | exact map1 _ | exact map2 _ _ | exact map3 _ _ _)
    case ha => (simp only [zad, zaf, prepV, prepC, idx, hpL', lookR, zaa, if_true, if_false]; rfl)
    case hs => rfl
    case hn => decide
    case h => (first | exact n0 .. | exact n1 ..)
    case hf => (simp only [zab, zac, false_implies, implies_true, and_true, true_and, flat_cons, flat_nil, flat_ints, flat_bools, flat_app, Cs_flat, zaF, and_self, eq_self_iff_true, zai])
    case hl => (simp only [zaw, zau]; decide))
 | ((first | refine s1_id ?_ | refine swp_id ?_ | refine sops_id ?_ | refine s2_id ?_); simp only [decide_eq_true c, q1, hS, htk, lendC, dice, zaH, zaI, zai, zaJ, zaG, zaD, zaE, zaC, zaM, zaQ, zaw, zau, go_sem, zaa, zaj, zak, zal, zam, zah, ↓reduceIte, reduceCtorEq, zae, zag, zan, zao, zap, zaP, zaR, zaB, zaS, renO, bk, back, outUpsFrom, Ints_ren])
 | (intros; omega)
 | (intros; (try simp only [zaz, zaA, zax, zav, zaq, zas, decide_eq_true_eq, decide_eq_false_iff_not] at *); omega))
    refine le_mk (m + 1, W, j2) ?_ ⟨hlt, hla, hI⟩ (by show l.length - (m + 1) < l.length - m; omega)
    (refine imp_ren _ _ _ [(0, 0, dice D j2), (1, 1, ⟨[.gsl (Cs l) 0 l.length none, int n], 2⟩), (2, 23, ⟨Cs W, 18⟩)] (by simp) (by simp) (by simp) (zay rfl) ?_ rfl (by simp only [zab, zac, false_implies, implies_true, and_true, St.hpF, lookR, zaa, if_true, if_false, ↓reduceIte, dice, Cs_flat] <;> (repeat' apply zat) <;> (first | rfl | trivial)) (by simp only [zab, zac, false_implies, implies_true, and_true, true_and, flat_cons, flat_nil, flat_ints, flat_bools, flat_app, zaF, and_self, eq_self_iff_true, zai, dice, Cs_flat]); simp only [zad, zaf, zab, zac, false_implies, implies_true, and_true, lk, slot, zaP, zaB, toN, zaa, if_true, if_false, ↓reduceIte, reduceCtorEq])
    all_goals ((repeat' apply zat) <;> (first | rfl | trivial | (simp only [zar]; done) | (simp only [zar]; rfl) | (simp only [zar]; trivial)))
end Go.Proofs.Ytcnilpdlcmpbbab
-- NEWGO
-- PRUNE: cl_lendx cl_use
-- ISG: Cs_isG
-- FLAT: Cs_flat
namespace Go.Proofs.Ytcnilpdlcmpbbab
set_option linter.unusedVariables false
set_option linter.unusedSimpArgs false
open Go.Proofs.Ytcnilpdlcmpbbab.Sh
set_option maxRecDepth 20000
theorem vl_set (D : List Int) (j n : Nat) (N : Int) (h : (n : Int) ≤ N) : vl (dSet D j n).1 N = true := by
  rw [vl_iff]
  intro i hi
  have h1 := dSet_rng D j n _ (getD_mem _ i 0 hi)
  refine ⟨h1.1, by omega, fun h0 => ?_⟩
  have h2 := dSet_asc D j n
  rw [List.pairwise_iff_getElem] at h2
  have := h2 (i - 1) i (by omega) hi (by omega)
  rw [getD_at _ (i - 1) 0 (by omega), getD_at _ i 0 hi]
  exact this
theorem lsS_ok (D : List Int) (j n : Nat) (N : Int) (h : (n : Int) ≤ N) : vl (lsS D j n).1 N = true ∧ (lsS D j n).1.length ≤ n := by
  unfold lsS
  split
  · exact ⟨vl_set D _ n N h, dSet_len D _ n⟩
  · exact ⟨(vl_iff _ _).2 fun i hi => absurd hi (Nat.not_lt_zero _), Nat.zero_le _⟩
theorem pmS_ok (D : List Int) (j : Nat) : (wn (pmS D j).1 0 1099511627776 || decide ((pmS D j).1 = 4611686018427387904)) = true := by
  have h := nxV_rng D (nxA D j 2) 6 (by decide)
  unfold pmS wn
  split
  · rw [decide_eq_true (by simp only; omega), decide_eq_true (by simp only; omega)]; rfl
  · rfl
theorem quS_ok (D : List Int) (j : Nat) (x : Sg) (hp : wn x.pe 1 1000000 = true) (hq : x.q = (quS D j).1.1) (hb : x.b = (quS D j).1.2) : cbF x = true := by
  have h := nxV_rng D (nxA D j 2) 9 (by decide)
  have h3 := nxV_rng D (nxA D (nxA D j 2) 9) (1 + nxV D (nxA D j 2) 9 + 1) (by omega)
  unfold cbF
  rw [hp, hq, hb, Bool.true_and]
  unfold quS
  split
  · simp only
    rw [if_neg (by omega)]
    unfold wn
    rw [decide_eq_true (by omega), decide_eq_true (by omega), decide_eq_true (by omega), decide_eq_true (by omega)]; rfl
  · rw [if_pos rfl]; rfl
theorem ptS_ok (D : List Int) (j : Nat) : (decide ((ptS D j).1 = 0) || decide ((ptS D j).1 = 1)) = true := by
  unfold ptS
  simp only
  split <;> rfl
theorem mkS_ok (D : List Int) (j : Nat) : ckS (mkS D j).1 = true ∧ SgR (mkS D j).1 := by
  have w1 := wtV_rng D (pmS D j).2
  have w4 := nxV_rng D (mk1 D j).2 9 (by decide)
  have w5 := nxV_rng D (nxA D (mk1 D j).2 9) 10001 (by decide)
  have w6 := nxV_rng D (nxA D (nxA D (mk1 D j).2 9) 10001) 10001 (by decide)
  have l3 := lsS_ok D (mk2 D j) 6 16 (by decide)
  have l4 := lsS_ok D (mk3 D j).2 4 8 (by decide)
  have hpe : wn (1 + nxV D (mk1 D j).2 9) 1 1000000 = true := by unfold wn; rw [decide_eq_true (by omega), decide_eq_true (by omega)]; rfl
  refine ⟨?_, ?_, ?_⟩
  · have hcb : cbF (mkS D j).1 = true := quS_ok D _ _ hpe rfl rfl
    have hcm : cmF (mkS D j).1 = true := rfl
    unfold ckS
    rw [hcb, hcm]
    show ((wn (pmS D j).1 0 1099511627776 || decide ((pmS D j).1 = 4611686018427387904)) && (wn (wtV D (pmS D j).2) 1 10000 && (true && (wn (nxV D (nxA D (mk1 D j).2 9) 10001) 0 10000 && (wn (nxV D (nxA D (nxA D (mk1 D j).2 9) 10001) 10001) 0 10000 && (vl (mk3 D j).1 16 && (vl (mk4 D j).1 8 && ((decide ((ptS D (mk4 D j).2).1 = 0) || decide ((ptS D (mk4 D j).2).1 = 1)) && true)))))))) = true
    rw [pmS_ok, ptS_ok, show vl (mk3 D j).1 16 = true from l3.1, show vl (mk4 D j).1 8 = true from l4.1]
    unfold wn
    rw [decide_eq_true (by omega), decide_eq_true (by omega), decide_eq_true (by omega), decide_eq_true (by omega), decide_eq_true (by omega), decide_eq_true (by omega)]; rfl
  · exact Nat.le_trans l3.2 (by decide)
  · exact Nat.le_trans l4.2 (by decide)
theorem dfS_ok : ckS dfS = true ∧ SgR dfS := ⟨by decide +kernel, dfS_r⟩
theorem cfS_ok (D : List Int) (j : Nat) : ckS (cfS D j).1 = true ∧ SgR (cfS D j).1 := by
  unfold cfS
  split
  · exact mkS_ok D _
  · exact dfS_ok
theorem cfA_ok (D : List Int) : ∀ (r : List Nd) (j : Nat) (acc : List Cf), ∃ X, (cfA D r j acc).1 = acc ++ X ∧ X.length = r.length ∧ (∀ i, i < r.length → (gCf X i).g = (gN r i).i) ∧ ∀ x ∈ X, ckS x.s = true ∧ SgR x.s
  | [], j, acc => ⟨[], (zai _).symm, rfl, fun i hi => absurd hi (Nat.not_lt_zero _), fun x hx => by cases hx⟩
  | y :: r, j, acc => by
    obtain ⟨X, h1, h2, h3, h4⟩ := cfA_ok D r (cfS D j).2 (acc ++ [⟨y.i, (cfS D j).1⟩])
    refine ⟨⟨y.i, (cfS D j).1⟩ :: X, ?_, by simp [h2], ?_, ?_⟩
    · rw [cfA, h1, List.append_assoc]; rfl
    · intro i hi
      cases i with
      | zero => rfl
      | succ i => exact h3 i (by simpa using hi)
    · intro x hx
      rcases List.mem_cons.1 hx with rfl | hx
      · exact cfS_ok D j
      · exact h4 x hx
theorem mkC_ok (D : List Int) {l : List Nd} {n : Int} (hV : VT l n) (j : Nat) : FiP l n (mkC D l j).1 ∧ CfR (mkC D l j).1 := by
  obtain ⟨X, h1, h2, h3, h4⟩ := cfA_ok D l j []
  unfold mkC
  rw [h1, zaG]
  exact ⟨⟨hV, h2, fun i hi => h3 i (by omega), fun i hi => (h4 _ (getD_mem X i zcf hi)).1⟩, fun x hx => (h4 x hx).2⟩
end Go.Proofs.Ytcnilpdlcmpbbab
-- NEWGO
-- PRUNE: cl_lendx cl_use
-- ISG: Cs_isG
-- FLAT: Cs_flat
namespace Go.Proofs.Ytcnilpdlcmpbbab
set_option linter.unusedVariables false
set_option linter.unusedSimpArgs false
open Go.Proofs.Ytcnilpdlcmpbbab.Sh
set_option maxRecDepth 20000
theorem setF_len (L : List Cf) (g : Int) (s : Sg) : (setF L g s).length = L.length := List.length_map _
theorem setF_at (L : List Cf) (g : Int) (s : Sg) (i : Nat) (h : i < L.length) : gCf (setF L g s) i = if (gCf L i).g = g then ⟨g, s⟩ else gCf L i := by
  rw [show gCf (setF L g s) i = (setF L g s)[i]'(by rw [setF_len]; exact h) from getD_at _ i zcf (by rw [setF_len]; exact h), show gCf L i = L[i] from getD_at L i zcf h]
  unfold setF
  rw [List.getElem_map]
theorem FiP.set {l : List Nd} {n : Int} {L : List Cf} (h : FiP l n L) {s : Sg} (hs : ckS s = true) (g : Int) : FiP l n (setF L g s) := by
  refine ⟨h.vt, by rw [setF_len]; exact h.len, fun i hi => ?_, fun i hi => ?_⟩
  · rw [setF_len] at hi
    rw [setF_at L g s i hi]
    split
    · rename_i e; rw [← h.id i hi, e]
    · exact h.id i hi
  · rw [setF_len] at hi
    rw [setF_at L g s i hi]
    split
    · exact hs
    · exact h.ck i hi
theorem CfR.set {L : List Cf} (h : CfR L) {s : Sg} (hs : SgR s) (g : Int) : CfR (setF L g s) := fun x hx => by
  obtain ⟨y, hy, rfl⟩ := List.mem_map.1 hx
  split
  · exact hs
  · exact h y hy
theorem sgF_cons (x : Cf) (r : List Cf) (g : Int) : sgF (x :: r) g = if x.g = g then x.s else sgF r g := by
  unfold sgF
  rw [List.find?_cons]
  by_cases c : x.g = g
  · rw [if_pos c, decide_eq_true c]
  · rw [if_neg c, decide_eq_false c]
theorem setF_cons (x : Cf) (r : List Cf) (g : Int) (s : Sg) : setF (x :: r) g s = (if x.g = g then ⟨g, s⟩ else x) :: setF r g s := rfl
theorem sgF_set_ne (g k : Int) (s : Sg) (hk : k ≠ g) : ∀ (L : List Cf), sgF (setF L g s) k = sgF L k
  | [] => rfl
  | x :: r => by
    rw [setF_cons, sgF_cons, sgF_cons, sgF_set_ne g k s hk r]
    by_cases c : x.g = g
    · rw [if_pos c, if_neg (fun e => hk (by rw [← e])), if_neg (fun e => hk (by rw [← e, c]))]
    · rw [if_neg c]
theorem sgF_set_eq (g : Int) (s : Sg) : ∀ (L : List Cf), (∃ x ∈ L, x.g = g) → sgF (setF L g s) g = s
  | [], ⟨x, hx, _⟩ => by cases hx
  | x :: r, ⟨y, hy, e⟩ => by
    rw [setF_cons, sgF_cons]
    by_cases c : x.g = g
    · rw [if_pos c, if_pos rfl]
    · rw [if_neg c, if_neg c]
      rcases List.mem_cons.1 hy with rfl | hy
      · exact absurd e c
      · exact sgF_set_eq g s r ⟨y, hy, e⟩
theorem sgF_r {L : List Cf} (h : CfR L) (g : Int) : SgR (sgF L g) := by
  rcases sgF_ix L g with ⟨_, e, _⟩ | ⟨t, _, ht, e, _, _⟩
  · rw [e]; exact dfS_r
  · rw [e]; exact h _ (getD_mem L t zcf ht)
def lendL : FuncId → List Nat := fun f => if f = 15 then [0] else if f = 12 then [0] else if f = 13 then [0] else if f = 24 then [0] else []
set_option maxHeartbeats 64000000 in
theorem sets11_spec (D : List Int) (hr : ∀ x ∈ D, -9223372036854775808 ≤ x ∧ x ≤ 9223372036854775807) : FnSpec Try.prog 7 [gi D none] [] (b1 true) [] := by
  by_cases hlen : (D.length : Int) ≤ 600
  case neg =>
    refine fnspec_of mixed TT_ok TT_cl ⟨fun _ => false, lendL, 0, fun _ => false, fun _ => false⟩ Try.func7 rfl (by kernel_rfl) rfl 86 rfl [.tmp 2] rfl ?_
    simp only [go_sem, zaa, zaj, zak, zal, zam, zah, ↓reduceIte, reduceCtorEq, zae, zag, zan, zao, zap, decide_eq_false hlen, lendL]
    repeat' (first
 | (apply cl_plain
    case hs => rfl
    case ha => (simp only [zad, zaf, prepV, prepC, idx, hpL', lookR, zaa, if_true, if_false]; rfl)
    case h => (first | exact light_spec .. | exact sgsane_spec ..))
 | ((first | refine s1_id ?_ | refine swp_id ?_ | refine sops_id ?_ | refine s2_id ?_); simp only [decide_eq_false hlen, lendL, go_sem, zaa, zaj, zak, zal, zam, zah, ↓reduceIte, reduceCtorEq, zae, zag, zan, zao, zap, zaP, zaR, zaB, zaS, renO, bk, back, outUpsFrom, Ints_ren])
 | exact fs_nil trivial rfl
 | fail)
  have hl : D.length ≤ 600 := by omega
  have t1 := tree_spec D hl hr 0 7 (by decide)
  have hti := mkT_ok D 0 7
  generalize mkT D 0 7 = T at *
  obtain ⟨⟨l, n⟩, j1⟩ := T
  simp only at t1 hti
  have hV := hti.v.vt
  have hle := hti.len
  have hnl := nd_len l
  have hct := hV.ctr
  have hnr := hti.nr
  have p1 := dconfigs_spec D hl hr l n (by omega) j1
  obtain ⟨hC, hCr⟩ := mkC_ok D hV j1
  generalize mkC D l j1 = q at *
  obtain ⟨C, j2⟩ := q
  simp only at p1 hC hCr
  have hCl := hC.len
  have p2 := dsettings_spec D hl hr j2
  obtain ⟨hs, hsr⟩ := mkS_ok D j2
  generalize mkS D j2 = q at *
  obtain ⟨s, j3⟩ := q
  simp only at p2 hs hsr
  have n1 := next_spec D j3 l.length hl hr (by omega)
  have r1 := nx_rng D j3 l.length (by omega)
  generalize nxV D j3 l.length = v at *
  generalize nxA D j3 l.length = j4 at *
  obtain ⟨t, rfl⟩ : ∃ t : Nat, v = t := ⟨v.toNat, by omega⟩
  have ht : t < l.length := by omega
  obtain ⟨q1, _⟩ := nd_f l t ht (.sc (.int .i64 0))
  obtain ⟨g, hg⟩ : ∃ g, (gN l t).i = g := ⟨_, rfl⟩
  rw [hg] at q1
  have hin : ∃ x ∈ C, x.g = g := ⟨gCf C t, getD_mem C t zcf (by omega), by rw [hC.id t (by omega), hg]⟩
  have s1 := sset_spec l n C none g s (by omega) (by omega) hnr hct hCr hsr
  have hA := hC.set hs g
  have hAr := hCr.set hsr g
  have hst : stM l n C g s = (setF C g s, 0) := by
    unfold stM
    rw [(fiC_iff l n C).2 hC, if_pos rfl, if_pos (List.any_eq_true.2 (by obtain ⟨x, hx, e⟩ := hin; exact ⟨x, hx, decide_eq_true e⟩)), hs, if_pos rfl]
  rw [hst] at s1
  have hAg := sgF_set_eq g s C hin
  have hAk := fun k hk => sgF_set_ne g k s hk C
  have hAl := setF_len C g s
  generalize setF C g s = A at *
  simp only at s1
  have s2 := sfits_spec l n A none (by omega) (by omega) hnr hct hAr
  rw [(fiC_iff l n A).2 hA] at s2
  have s3 := sget_spec A none g (by omega) hAr
  rw [hAg] at s3
  have s4 := ssame_spec s s hsr.1 hsr.2
  rw [smS_refl] at s4
  clear hst hin hs hAg hC hA
  obtain ⟨pm, w, qq, pe, b, c0, c1, cp, mm, pt, m0, m1, m2, m3, m4, mt⟩ := s
  simp only [sgt, sgc] at p2 s1 s3 s4
  refine fnspec_of mixed TT_ok TT_cl ⟨fun _ => false, lendL, 0, fun _ => false, fun _ => false⟩ Try.func7 rfl (by kernel_rfl) rfl 86 rfl [.tmp 2] rfl ?_
  simp only [go_sem, zaa, zaj, zak, zal, zam, zah, ↓reduceIte, reduceCtorEq, zae, zag, zan, zao, zap, decide_eq_true hlen, lendL]
  repeat' (first
 | with_reducible refine zat ?_ ?_
 | (unfold OKC; kernel_rfl)
 | (unfold EDG; kernel_rfl)
 | (apply cg_tp
    case hl => rfl
    case ha => (simp only [zad, zaf, prepV, prepC, idx, hpL', lookR, zaa, if_true, if_false]; rfl)
    case hs => rfl
    case h => (first | exact light_spec .. | exact roll_spec .. | exact t1 .. | exact p1 .. | exact p2 .. | exact n1 .. | exact s1 .. | exact s2 .. | exact s3 .. | exact s4 ..))
 | (apply cl_plain
    case hs => rfl
    case ha => (simp only [zad, zaf, prepV, prepC, idx, hpL', lookR, zaa, if_true, if_false]; rfl)
    case h => (first | exact light_spec .. | exact roll_spec .. | exact t1 .. | exact p1 .. | exact p2 .. | exact n1 .. | exact s1 .. | exact s2 .. | exact s3 .. | exact s4 ..))
 | (apply cl_lend
    case hr => (simp only [zad, zaf, hpL', lookR, zaa, if_true, if_false]; first | exact map1 _ | exact map2 _ _ | exact map3 _ _ _)
    case ha => (simp only [zad, zaf, prepV, prepC, idx, hpL', lookR, zaa, if_true, if_false]; rfl)
    case hs => rfl
    case hn => decide
    case h => (first | exact light_spec .. | exact roll_spec .. | exact t1 .. | exact p1 .. | exact p2 .. | exact n1 .. | exact s1 .. | exact s2 .. | exact s3 .. | exact s4 ..)
    case hf => (simp only [zab, zac, false_implies, implies_true, and_true, true_and, flat_cons, flat_nil, flat_ints, flat_bools, flat_app, Cs_flat, zaF, and_self, eq_self_iff_true, zai])
    case hl => (simp only [zaw, zau]; decide))
 | ((first | refine s1_id ?_ | refine swp_id ?_ | refine sops_id ?_ | refine s2_id ?_); simp only [decide_eq_true hlen, lendL, dice, q1, zaH, zaI, zai, zaJ, zaG, zaD, zaE, zaC, zaM, zaQ, zaw, zau, go_sem, zaa, zaj, zak, zal, zam, zah, ↓reduceIte, reduceCtorEq, zae, zag, zan, zao, zap, zaP, zaR, zaB, zaS, renO, bk, back, outUpsFrom, Ints_ren])
 | (intros; omega)
 | (intros; (try simp only [zaz, zaA, zax, zav, zaq, zas, decide_eq_true_eq, decide_eq_false_iff_not] at *); omega))
  refine w_loop (ι := Nat) (fun m => ⟨[(4, .one (.optr 0 0)), (5, gr C none), (7, i1 g), (8, gr A none), (61, i1 l.length), (62, i1 m)], [(0, some ⟨[.gsl (Cs l) 0 l.length none, int n], 2⟩)], 1⟩) (fun m => m ≤ l.length) (fun m => l.length - m) 0 ?_ (Nat.zero_le _) ?_
  · (refine imp_ren _ _ _ [(0, 9, ⟨[.gsl (Cs l) 0 l.length none, int n], 2⟩)] (by simp) (by simp) (by simp) (zay rfl) ?_ rfl (by simp only [zab, zac, false_implies, implies_true, and_true, St.hpF, lookR, zaa, if_true, if_false, ↓reduceIte] <;> (repeat' apply zat) <;> (first | rfl | trivial)) (by simp only [zab, zac, false_implies, implies_true, and_true, true_and, flat_cons, flat_nil, flat_ints, flat_bools, flat_app, zaF, and_self, eq_self_iff_true, zai]); simp only [zad, zaf, zab, zac, false_implies, implies_true, and_true, lk, slot, zaP, zaB, toN, zaa, if_true, if_false, ↓reduceIte, reduceCtorEq])
    all_goals ((repeat' apply zat) <;> (first | rfl | trivial))
  clear t1 p1 p2 n1 s1 s2 s3 s4
  intro m hm
  simp only at hm ⊢
  rcases Nat.lt_or_ge m l.length with hlt | hge
  case inr =>
    have c : ¬ (m : Int) < (l.length : Int) := by omega
    simp only [go_sem, zaa, zaj, zak, zal, zam, zah, ↓reduceIte, reduceCtorEq, zae, zag, zan, zao, zap, decide_eq_false c, lendL]
    repeat' (first
 | (apply cl_plain
    case hs => rfl
    case ha => (simp only [zad, zaf, prepV, prepC, idx, hpL', lookR, zaa, if_true, if_false]; rfl)
    case h => (first | exact sgsane_spec ..))
 | ((first | refine s1_id ?_ | refine swp_id ?_ | refine sops_id ?_ | refine s2_id ?_); simp only [decide_eq_false c, lendL, go_sem, zaa, zaj, zak, zal, zam, zah, ↓reduceIte, reduceCtorEq, zae, zag, zan, zao, zap, zaP, zaR, zaB, zaS, renO, bk, back, outUpsFrom, Ints_ren])
 | exact fs_nil trivial rfl
 | fail)
  have c : (m : Int) < (l.length : Int) := by omega
  obtain ⟨q2, _⟩ := nd_f l m hlt (.sc (.int .i64 0))
  generalize (gN l m).i = k at *
  by_cases hk : k = g
  · simp only [go_sem, zaa, zaj, zak, zal, zam, zah, ↓reduceIte, reduceCtorEq, zae, zag, zan, zao, zap, decide_eq_true c, q2, decide_eq_true hk, lendL]
    repeat' (first
 | with_reducible refine zat ?_ ?_
 | (intros; omega)
 | (intros; (try simp only [zaz, zaA, zax, zav, zaq, zas, decide_eq_true_eq, decide_eq_false_iff_not] at *); omega))
    refine le_mk (m + 1) ?_ hlt (by show l.length - (m + 1) < l.length - m; omega)
    (refine imp_ren _ _ _ [(0, 0, ⟨[.gsl (Cs l) 0 l.length none, int n], 2⟩)] (by simp) (by simp) (by simp) (zay rfl) ?_ rfl (by simp only [zab, zac, false_implies, implies_true, and_true, St.hpF, lookR, zaa, if_true, if_false, ↓reduceIte] <;> (repeat' apply zat) <;> (first | rfl | trivial)) (by simp only [zab, zac, false_implies, implies_true, and_true, true_and, flat_cons, flat_nil, flat_ints, flat_bools, flat_app, zaF, and_self, eq_self_iff_true, zai]); simp only [zad, zaf, zab, zac, false_implies, implies_true, and_true, lk, slot, zaP, zaB, toN, zaa, if_true, if_false, ↓reduceIte, reduceCtorEq])
    all_goals ((repeat' apply zat) <;> (first | rfl | trivial | (simp only [zar]; done) | (simp only [zar]; rfl) | (simp only [zar]; trivial)))
  have x1 := sget_spec A none k (by omega) hAr
  rw [hAk k hk] at x1
  have x2 := sget_spec C none k (by omega) hCr
  have hkr := sgF_r hCr k
  have x3 := ssame_spec (sgF C k) (sgF C k) hkr.1 hkr.2
  rw [smS_refl] at x3
  clear hkr hAk
  generalize sgF C k = y at *
  obtain ⟨pm', w', q', pe', b', c0', c1', cp', mm', pt', m0', m1', m2', m3', m4', mt'⟩ := y
  simp only [sgt, sgc] at x1 x2 x3
  simp only [go_sem, zaa, zaj, zak, zal, zam, zah, ↓reduceIte, reduceCtorEq, zae, zag, zan, zao, zap, decide_eq_true c, q2, decide_eq_false hk, lendL]
  repeat' (first
 | with_reducible refine zat ?_ ?_
 | (apply cg_tp
    case hl => rfl
    case ha => (simp only [zad, zaf, prepV, prepC, idx, hpL', lookR, zaa, if_true, if_false]; rfl)
    case hs => rfl
    case h => (first | exact x1 .. | exact x2 .. | exact x3 ..))
 | ((first | refine s1_id ?_ | refine swp_id ?_ | refine sops_id ?_ | refine s2_id ?_); simp only [decide_eq_true c, q2, decide_eq_false hk, lendL, zaH, zaI, zai, zaJ, zaG, zaD, zaE, zaC, zaM, zaQ, zaw, zau, go_sem, zaa, zaj, zak, zal, zam, zah, ↓reduceIte, reduceCtorEq, zae, zag, zan, zao, zap, zaP, zaR, zaB, zaS, renO, bk, back, outUpsFrom, Ints_ren])
 | (intros; omega)
 | (intros; (try simp only [zaz, zaA, zax, zav, zaq, zas, decide_eq_true_eq, decide_eq_false_iff_not] at *); omega))
  refine le_mk (m + 1) ?_ hlt (by show l.length - (m + 1) < l.length - m; omega)
  (refine imp_ren _ _ _ [(0, 0, ⟨[.gsl (Cs l) 0 l.length none, int n], 2⟩)] (by simp) (by simp) (by simp) (zay rfl) ?_ rfl (by simp only [zab, zac, false_implies, implies_true, and_true, St.hpF, lookR, zaa, if_true, if_false, ↓reduceIte] <;> (repeat' apply zat) <;> (first | rfl | trivial)) (by simp only [zab, zac, false_implies, implies_true, and_true, true_and, flat_cons, flat_nil, flat_ints, flat_bools, flat_app, zaF, and_self, eq_self_iff_true, zai]); simp only [zad, zaf, zab, zac, false_implies, implies_true, and_true, lk, slot, zaP, zaB, toN, zaa, if_true, if_false, ↓reduceIte, reduceCtorEq])
  all_goals ((repeat' apply zat) <;> (first | rfl | trivial | (simp only [zar]; done) | (simp only [zar]; rfl) | (simp only [zar]; trivial)))
theorem sets11_main (g0 : List Cell) (s0 : GTy Try.prog 12 22 g0) : FnSpec Try.prog 7 [svOf Try.prog 22 g0] [] (b1 true) [] := by
  obtain ⟨l, rfl, hl, hr⟩ := gty_ints (n := 10) Try.underlying22 Try.underlying3 s0
  simp only [svOf, Try.underlying22, List.headD_cons]
  exact sets11_spec l hr
end Go.Proofs.Ytcnilpdlcmpbbab
