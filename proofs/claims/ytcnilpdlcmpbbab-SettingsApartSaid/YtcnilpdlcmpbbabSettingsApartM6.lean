/- Contracts of functions, told of values, on the way to SettingsApart (part 6). -/
import Derived.Test.YtcnilpdlcmpbbabSettingsApartM3
import Derived.Test.YtcnilpdlcmpbbabSettingsApartM5
import Derived.Test.YtcnilpdlcmpbbabSettingsApartM4
-- short names of the library's lemmas
open Nat renaming reduceEqDiff → zaa, reduceLeDiff → zah, reduceAdd → zal, reduceSub → zam, reduceMul → zan, reduceLT → zap, le_of_ble_eq_true → zav, le_refl → zaY, lt_or_ge → zaZ, zero_le → zbb
open List renaming forall_mem_cons → zab, not_mem_nil → zac, reduceReplicate → zad, map_cons → zaf, map_nil → zag, append_nil → zai, length_cons → zax, length_nil → zaA, take_succ_cons → zaD, set_cons_zero → zaE, set_cons_succ → zaF, mem_cons_self → zaG, flatten_cons → zaH, nil_append → zaI, getD_cons_zero → zaJ, getD_cons_succ → zaK, flatten_nil → zaL, cons_append → zaM, take_of_length_le → zaN, length_append → zaP, mem_cons → zaQ, take_zero → zaR, take_nil → zaU, mem_flatMap → zba
open Int renaming cast_ofNat_Int → zae, natCast_add → zak, reduceEq → zaq, reduceLT → zar, reduceLE → zas
open Option renaming getD_some → zaS, getD_none → zaT
open Bool renaming and_eq_false_iff → zaj, or_eq_false_iff → zao, not_eq_false' → zat, not_eq_true' → zaw, and_eq_true → zay, or_eq_true → zaz
open And renaming intro → zau
open Go.Proofs.Ytcnilpdlcmpbbab.Sh.Cell renaming ren → zaB, refs → zaC
open Go.Proofs.Ytcnilpdlcmpbbab.Sh.SV renaming ren → zaO, renL → zaW
open Go.Proofs.Ytcnilpdlcmpbbab.Sh.Row renaming ren → zaX
open Go.Proofs.Ytcnilpdlcmpbbab.Sh.St renaming hpF → zaV
-- NEWGO
-- PRUNE: cl_lendx cl_use
-- ISG: Cs_isG
-- FLAT: Cs_flat
namespace Go.Proofs.Ytcnilpdlcmpbbab
set_option linter.unusedVariables false
set_option linter.unusedSimpArgs false
open Go.Proofs.Ytcnilpdlcmpbbab.Sh
set_option maxRecDepth 20000
def pmS (D : List Int) (j : Nat) : Int × Nat := if nxV D j 2 = 1 then (nxV D (nxA D j 2) 6, nxA D (nxA D j 2) 6) else (4611686018427387904, nxA D j 2)
def quS (D : List Int) (j : Nat) : (Int × Int) × Nat := if nxV D j 2 = 1 then ((1 + nxV D (nxA D j 2) 9, nxV D (nxA D (nxA D j 2) 9) (1 + nxV D (nxA D j 2) 9 + 1)), nxA D (nxA D (nxA D j 2) 9) (1 + nxV D (nxA D j 2) 9 + 1)) else ((4611686018427387904, 0), nxA D j 2)
def lsS (D : List Int) (j n : Nat) : List Int × Nat := if nxV D j 2 = 1 then dSet D (nxA D j 2) n else ([], nxA D j 2)
def ptS (D : List Int) (j : Nat) : Int × Nat := (if nxV D j 3 = 2 then 1 else 0, nxA D j 3)
def mk1 (D : List Int) (j : Nat) : (Int × Int) × Nat := quS D (wtA D (pmS D j).2)
def mk2 (D : List Int) (j : Nat) : Nat := nxA D (nxA D (nxA D (mk1 D j).2 9) 10001) 10001
def mk3 (D : List Int) (j : Nat) : List Int × Nat := lsS D (mk2 D j) 6
def mk4 (D : List Int) (j : Nat) : List Int × Nat := lsS D (mk3 D j).2 4
def mkS (D : List Int) (j : Nat) : Sg × Nat := (⟨(pmS D j).1, wtV D (pmS D j).2, (mk1 D j).1.1, 1 + nxV D (mk1 D j).2 9, (mk1 D j).1.2, nxV D (nxA D (mk1 D j).2 9) 10001, nxV D (nxA D (nxA D (mk1 D j).2 9) 10001) 10001, (mk3 D j).1, (mk4 D j).1, (ptS D (mk4 D j).2).1, 0, 0, 4611686018427387904, 4611686018427387904, 4611686018427387904, false⟩, (ptS D (mk4 D j).2).2)
def lendS : FuncId → List Nat := fun f => if f = 15 then [0] else if f = 32 then [0] else if f = 60 then [0] else if f = 61 then [0] else []
section
variable (D : List Int) (hl : D.length ≤ 600) (hr : ∀ x ∈ D, -9223372036854775808 ≤ x ∧ x ≤ 9223372036854775807) (j : Nat)
include hl hr
theorem pm_cs : ∃ B v j1 j2, pmS D j = (v, j2) ∧ FnSpec Try.prog 32 [dp, i1 2] [dice D j] (b1 B) [some (dice D j1)] ∧ ((B = true ∧ FnSpec Try.prog 15 [dp, i1 6] [dice D j1] (i1 v) [some (dice D j2)]) ∨ (B = false ∧ v = 4611686018427387904 ∧ j2 = j1)) := by
  have n1 := bool_spec D j 2 hl hr (by decide)
  unfold pmS
  by_cases hv : nxV D j 2 = 1
  · rw [decide_eq_true (by omega : nxV D j 2 = 2 - 1)] at n1
    rw [if_pos hv]
    exact ⟨_, _, _, _, rfl, n1, .inl ⟨rfl, next_spec D _ 6 hl hr (by decide)⟩⟩
  · rw [decide_eq_false (by omega : ¬ nxV D j 2 = 2 - 1)] at n1
    rw [if_neg hv]
    exact ⟨_, _, _, _, rfl, n1, .inr ⟨rfl, rfl, rfl⟩⟩
theorem qu_cs : ∃ B q b j1 j4, quS D j = ((q, b), j4) ∧ FnSpec Try.prog 32 [dp, i1 2] [dice D j] (b1 B) [some (dice D j1)] ∧ ((B = true ∧ ∃ v j2, (0 ≤ v ∧ v < 9) ∧ q = 1 + v ∧ FnSpec Try.prog 15 [dp, i1 9] [dice D j1] (i1 v) [some (dice D j2)] ∧ FnSpec Try.prog 15 [dp, i1 (1 + v + 1)] [dice D j2] (i1 b) [some (dice D j4)]) ∨ (B = false ∧ q = 4611686018427387904 ∧ b = 0 ∧ j4 = j1)) := by
  have n1 := bool_spec D j 2 hl hr (by decide)
  unfold quS
  by_cases hv : nxV D j 2 = 1
  · rw [decide_eq_true (by omega : nxV D j 2 = 2 - 1)] at n1
    rw [if_pos hv]
    have r := nxV_rng D (nxA D j 2) 9 (by decide)
    exact ⟨_, _, _, _, _, rfl, n1, .inl ⟨rfl, _, _, r, rfl, next_spec D _ 9 hl hr (by decide), next_spec D _ _ hl hr (by omega)⟩⟩
  · rw [decide_eq_false (by omega : ¬ nxV D j 2 = 2 - 1)] at n1
    rw [if_neg hv]
    exact ⟨_, _, _, _, _, rfl, n1, .inr ⟨rfl, rfl, rfl, rfl⟩⟩
theorem ls_cs (n : Nat) (hn : n ≤ 1000) : ∃ B A j1 j2, lsS D j n = (A, j2) ∧ FnSpec Try.prog 32 [dp, i1 2] [dice D j] (b1 B) [some (dice D j1)] ∧ ((B = true ∧ FnSpec Try.prog 61 [dp, i1 n] [dice D j1] (gi A none) [some (dice D j2)]) ∨ (B = false ∧ A = [] ∧ j2 = j1)) := by
  have n1 := bool_spec D j 2 hl hr (by decide)
  unfold lsS
  by_cases hv : nxV D j 2 = 1
  · rw [decide_eq_true (by omega : nxV D j 2 = 2 - 1)] at n1
    rw [if_pos hv]
    exact ⟨_, _, _, _, rfl, n1, .inl ⟨rfl, dset_spec D _ n hn hl hr⟩⟩
  · rw [decide_eq_false (by omega : ¬ nxV D j 2 = 2 - 1)] at n1
    rw [if_neg hv]
    exact ⟨_, _, _, _, rfl, n1, .inr ⟨rfl, rfl, rfl⟩⟩
theorem pt_cs : ∃ B p j1, ptS D j = (p, j1) ∧ FnSpec Try.prog 32 [dp, i1 3] [dice D j] (b1 B) [some (dice D j1)] ∧ ((B = true ∧ p = 1) ∨ (B = false ∧ p = 0)) := by
  have n1 := bool_spec D j 3 hl hr (by decide)
  unfold ptS
  by_cases hv : nxV D j 3 = 2
  · rw [decide_eq_true (by omega : nxV D j 3 = 3 - 1)] at n1
    rw [if_pos hv]
    exact ⟨_, _, _, rfl, n1, .inl ⟨rfl, rfl⟩⟩
  · rw [decide_eq_false (by omega : ¬ nxV D j 3 = 3 - 1)] at n1
    rw [if_neg hv]
    exact ⟨_, _, _, rfl, n1, .inr ⟨rfl, rfl⟩⟩
end
set_option maxHeartbeats 64000000 in
theorem dsettings_spec (D : List Int) (hl : D.length ≤ 600) (hr : ∀ x ∈ D, -9223372036854775808 ≤ x ∧ x ≤ 9223372036854775807) (j : Nat) : FnSpec Try.prog 24 [dp] [dice D j] (sgt (mkS D j).1) [some (dice D (mkS D j).2)] := by
  have n0 := srdef_spec
  simp only [sgt, sgc] at n0
  simp only [mkS, mk4, mk3, mk2, mk1]
  obtain ⟨B1, v1, j1, j2, e1, n1, d1⟩ := pm_cs D hl hr j
  rw [e1]
  simp only
  have n2 := weight_spec D j2 hl hr
  generalize wtV D j2 = w at *
  generalize wtA D j2 = j3 at *
  obtain ⟨B2, q, b, j4, j7, e2, n3, d2⟩ := qu_cs D hl hr j3
  rw [e2]
  simp only
  have n4 := next_spec D j7 9 hl hr (by decide)
  have r4 := nxV_rng D j7 9 (by decide)
  generalize nxV D j7 9 = v4 at *
  generalize nxA D j7 9 = j8 at *
  have n5 := next_spec D j8 10001 hl hr (by decide)
  generalize nxV D j8 10001 = v5 at *
  generalize nxA D j8 10001 = j9 at *
  have n6 := next_spec D j9 10001 hl hr (by decide)
  generalize nxV D j9 10001 = v6 at *
  generalize nxA D j9 10001 = ja at *
  obtain ⟨B3, A1, jb, jc, e3, n7, d3⟩ := ls_cs D hl hr ja 6 (by decide)
  rw [e3]
  simp only
  obtain ⟨B4, A2, jd, je, e4, n8, d4⟩ := ls_cs D hl hr jc 4 (by decide)
  rw [e4]
  simp only
  obtain ⟨B5, p, jf, e5, n9, d5⟩ := pt_cs D hl hr je
  rw [e5]
  simp only [sgt, sgc]
  clear e1 e2 e3 e4 e5 hl hr
  rcases d1 with ⟨rfl, m1⟩ | ⟨rfl, rfl, rfl⟩
  all_goals rcases d2 with ⟨rfl, v2, j5, r2, rfl, m2, m3⟩ | ⟨rfl, rfl, rfl, rfl⟩
  all_goals rcases d3 with ⟨rfl, m4⟩ | ⟨rfl, rfl, rfl⟩
  all_goals rcases d4 with ⟨rfl, m5⟩ | ⟨rfl, rfl, rfl⟩
  all_goals rcases d5 with ⟨rfl, rfl⟩ | ⟨rfl, rfl⟩
  all_goals (
    refine fnspec_of mixed TT_ok TT_cl ⟨fun _ => false, lendS, 1, fun _ => false, fun _ => false⟩ Try.func24 rfl (by kernel_rfl) rfl 49 rfl [.cell 2 47] rfl ?_
    simp only [go_sem, zaa, zal, zam, zan, zap, zah, ↓reduceIte, reduceCtorEq, zad, zae, zaq, zar, zas, lendS]
    repeat' (first
 | with_reducible refine zau ?_ ?_
 | (apply cl_plain
    case hs => rfl
    case ha => (simp only [zaf, zag, prepV, prepC, idx, hpL', lookR, zaa, if_true, if_false]; rfl)
    case h => (first | assumption))
 | (apply cl_lend
    case hr => (simp only [zaf, zag, hpL', lookR, zaa, if_true, if_false]; first | exact map1 _ | exact map2 _ _ | exact map3 _ _ _)
    case ha => (simp only [zaf, zag, prepV, prepC, idx, hpL', lookR, zaa, if_true, if_false]; rfl)
    case hs => rfl
    case hn => decide
    case h => (first | assumption)
    case hf => (simp only [zab, zac, false_implies, implies_true, and_true, true_and, flat_cons, flat_nil, flat_ints, flat_bools, flat_app, Cs_flat, zaC, and_self, eq_self_iff_true, zai])
    case hl => (simp only [zax, zaA]; decide))
 | ((first | refine s1_id ?_ | refine swp_id ?_ | refine sops_id ?_ | refine s2_id ?_); simp only [lendS, dice, zaH, zaL, zai, zaM, zaI, zaE, zaF, zaD, zaR, zaU, zax, zaA, go_sem, zaa, zal, zam, zan, zap, zah, ↓reduceIte, reduceCtorEq, zad, zae, zaq, zar, zas, zaO, zaW, zaB, zaX, renO, bk, back, outUpsFrom, Ints_ren])
 | (intros; omega)
 | (intros; (try simp only [zay, zaz, zaw, zat, zaj, zao, decide_eq_true_eq, decide_eq_false_iff_not] at *); omega))
    (refine fs_flat [(0, dice D jf)] (by simp) (by simp only [zaf, zag]; decide) (by simp only [go_sem, resV, resS, zaO, zaW, zaB, St.tmF, zaV, idx, renO, zaX, evS, slot, lookR, zaa, ↓reduceIte, reduceCtorEq, if_true, if_false, zaS, zaT, zaf, zag, sLoad, readAt, readNeed, Ints_ren, Ints_length, Ints_getD, and_true, true_and, zaJ, zaK]; try decide) ?_ (by simp only [zab, zac, false_implies, implies_true, and_true, zaV, lookR, zaa, if_true, if_false, ↓reduceIte, dice] <;> (repeat' apply zau) <;> (first | rfl | trivial)) (by simp only [zab, zac, false_implies, implies_true, and_true, true_and, flat_cons, flat_nil, flat_ints, flat_bools, flat_app, zaC, and_self, eq_self_iff_true, zai, dice]) ?_ <;> (try simp only [go_sem, resV, resS, zaO, zaW, zaB, St.tmF, zaV, idx, renO, zaX, evS, slot, lookR, zaa, ↓reduceIte, reduceCtorEq, if_true, if_false, zaS, zaT, zaf, zag, sLoad, readAt, readNeed, Ints_ren, Ints_length, Ints_getD, and_true, true_and, zaJ, zaK]) <;> (try rfl)))
end Go.Proofs.Ytcnilpdlcmpbbab
-- NEWGO
-- PRUNE: cl_lendx cl_use
-- ISG: Cs_isG
-- FLAT: Cs_flat
namespace Go.Proofs.Ytcnilpdlcmpbbab
set_option linter.unusedVariables false
set_option linter.unusedSimpArgs false
open Go.Proofs.Ytcnilpdlcmpbbab.Sh
set_option maxRecDepth 20000
def cfS (D : List Int) (j : Nat) : Sg × Nat := if nxV D j 2 = 1 then mkS D (nxA D j 2) else (dfS, nxA D j 2)
def cfA (D : List Int) : List Nd → Nat → List Cf → List Cf × Nat
  | [], j, acc => (acc, j)
  | x :: r, j, acc => cfA D r (cfS D j).2 (acc ++ [⟨x.i, (cfS D j).1⟩])
def mkC (D : List Int) (l : List Nd) (j : Nat) : List Cf × Nat := cfA D l j []
theorem cf_cs (D : List Int) (hl : D.length ≤ 600) (hr : ∀ x ∈ D, -9223372036854775808 ≤ x ∧ x ≤ 9223372036854775807) (j : Nat) : ∃ B s j1 j2, cfS D j = (s, j2) ∧ FnSpec Try.prog 32 [dp, i1 2] [dice D j] (b1 B) [some (dice D j1)] ∧ ((B = true ∧ FnSpec Try.prog 24 [dp] [dice D j1] (sgt s) [some (dice D j2)]) ∨ (B = false ∧ s = dfS ∧ j2 = j1)) := by
  have n1 := bool_spec D j 2 hl hr (by decide)
  unfold cfS
  by_cases hv : nxV D j 2 = 1
  · rw [decide_eq_true (by omega : nxV D j 2 = 2 - 1)] at n1
    rw [if_pos hv]
    exact ⟨_, _, _, _, rfl, n1, .inl ⟨rfl, dsettings_spec D hl hr _⟩⟩
  · rw [decide_eq_false (by omega : ¬ nxV D j 2 = 2 - 1)] at n1
    rw [if_neg hv]
    exact ⟨_, _, _, _, rfl, n1, .inr ⟨rfl, rfl, rfl⟩⟩
def lendC : FuncId → List Nat := fun f => if f = 32 then [0] else if f = 24 then [0] else []
set_option maxHeartbeats 16000000 in
theorem dconfigs_spec (D : List Int) (hl : D.length ≤ 600) (hr : ∀ x ∈ D, -9223372036854775808 ≤ x ∧ x ≤ 9223372036854775807) (l : List Nd) (n : Int) (hL : l.length ≤ 1000000) (j : Nat) : FnSpec Try.prog 13 [dp, trV l none n] [dice D j] (gr (mkC D l j).1 none) [some (dice D (mkC D l j).2)] := by
  have n0 := srdef_spec
  simp only [sgt, sgc] at n0
  have hnl := nd_len l
  obtain ⟨T, hT⟩ : ∃ T, mkC D l j = T := ⟨_, rfl⟩
  rw [hT]
  obtain ⟨R, J⟩ := T
  unfold mkC at hT
  simp only
  refine fnspec_of mixed TT_ok TT_cl ⟨fun _ => false, lendC, 1, fun _ => false, fun _ => false⟩ Try.func13 rfl (by kernel_rfl) rfl 32 rfl [.tmp 4] rfl ?_
  simp only [go_sem, zaa, zal, zam, zan, zap, zah, ↓reduceIte, reduceCtorEq, zad, zae, zaq, zar, zas, lendC]
  repeat' (first
 | (intros; (try simp only [zay, zaz, zaw, zat, zaj, zao, decide_eq_true_eq, decide_eq_false_iff_not] at *); omega))
  refine w_loop (ι := Nat × List Cf × Nat) (fun s => ⟨[(0, dp), (3, .one (.optr 1 0)), (5, .one (.osl 2 0 s.1 none)), (6, i1 s.1)], [(0, some (dice D s.2.2)), (1, some ⟨[.gsl (Cs l) 0 l.length none, int n], 2⟩), (2, some ⟨Cs s.2.1, 18⟩)], 3⟩) (fun s => s.1 ≤ l.length ∧ s.2.1.length = s.1 ∧ cfA D (l.drop s.1) s.2.2 s.2.1 = (R, J)) (fun s => l.length - s.1) (0, [], j) ?_ ⟨zbb _, rfl, hT⟩ ?_
  · (refine Imp.trans (imp_nilA _ _ 5 18 99 (by simp only []; omega) rfl) ?_)
    (refine imp_ren _ _ _ [(0, 0, dice D j), (1, 1, ⟨[.gsl (Cs l) 0 l.length none, int n], 2⟩), (2, 99, ⟨[], 18⟩)] (by simp) (by simp) (by simp) (zav rfl) ?_ rfl (by simp only [zab, zac, false_implies, implies_true, and_true, zaV, lookR, zaa, if_true, if_false, ↓reduceIte, dice] <;> (repeat' apply zau) <;> (first | rfl | trivial)) (by simp only [zab, zac, false_implies, implies_true, and_true, true_and, flat_cons, flat_nil, flat_ints, flat_bools, flat_app, zaC, and_self, eq_self_iff_true, zai, dice]); simp only [zaf, zag, zab, zac, false_implies, implies_true, and_true, lk, slot, zaO, zaB, toN, zaa, if_true, if_false, ↓reduceIte, reduceCtorEq])
    all_goals ((repeat' apply zau) <;> (first | rfl | trivial))
  clear hT
  rintro ⟨m, acc, j0⟩ ⟨hm, ha, hI⟩
  simp only at hm ha hI ⊢
  rcases zaZ m l.length with hlt | hge
  case inr =>
    have c : ¬ (m : Int) < (l.length : Int) := by omega
    obtain rfl : m = l.length := by omega
    rw [List.drop_length, cfA] at hI
    obtain ⟨rfl, rfl⟩ := Prod.mk.inj hI
    simp only [go_sem, zaa, zal, zam, zan, zap, zah, ↓reduceIte, reduceCtorEq, zad, zae, zaq, zar, zas, decide_eq_false c, lendC]
    repeat' (first
 | (intros; (try simp only [zay, zaz, zaw, zat, zaj, zao, decide_eq_true_eq, decide_eq_false_iff_not] at *); omega))
    rw [show gr acc none = SV.one (.gsl (Cs acc) 0 l.length none) from by rw [← ha]]
    (refine fs_frz 2 ⟨Cs acc, 18⟩ (by simp only [zaV, lookR, zaa, if_true, if_false, ↓reduceIte]) (by first | exact Ints_isG _ | exact Bools_isG _ | exact Cs_isG _ | (simp [Cell.isG]; done)) ?_; simp only [frzTm, SV.frz, SV.frzL, Cell.frz, frzHp, frzO, Ints_frz, Bools_frz, zaf, zag, zaa, if_true, if_false, ↓reduceIte])
    (refine fs_flat [(0, dice D j0)] (by simp) (by simp only [zaf, zag]; decide) (by simp only [go_sem, resV, resS, zaO, zaW, zaB, St.tmF, zaV, idx, renO, zaX, evS, slot, lookR, zaa, ↓reduceIte, reduceCtorEq, if_true, if_false, zaS, zaT, zaf, zag, sLoad, readAt, readNeed, Ints_ren, Ints_length, Ints_getD, and_true, true_and, zaJ, zaK]; try decide) ?_ (by simp only [zab, zac, false_implies, implies_true, and_true, zaV, lookR, zaa, if_true, if_false, ↓reduceIte, dice] <;> (repeat' apply zau) <;> (first | rfl | trivial)) (by simp only [zab, zac, false_implies, implies_true, and_true, true_and, flat_cons, flat_nil, flat_ints, flat_bools, flat_app, zaC, and_self, eq_self_iff_true, zai, dice]) ?_ <;> (try simp only [go_sem, resV, resS, zaO, zaW, zaB, St.tmF, zaV, idx, renO, zaX, evS, slot, lookR, zaa, ↓reduceIte, reduceCtorEq, if_true, if_false, zaS, zaT, zaf, zag, sLoad, readAt, readNeed, Ints_ren, Ints_length, Ints_getD, and_true, true_and, zaJ, zaK]) <;> (try rfl))
  have c : (m : Int) < (l.length : Int) := by omega
  obtain ⟨q1, _⟩ := nd_f l m hlt (.sc (.int .i64 0))
  rw [drop_getD l m zn hlt, cfA] at hI
  change cfA D (l.drop (m + 1)) (cfS D j0).2 (acc ++ [⟨(gN l m).i, (cfS D j0).1⟩]) = (R, J) at hI
  obtain ⟨B, s, j1, j2, e1, n1, d1⟩ := cf_cs D hl hr j0
  rw [e1] at hI
  simp only at hI
  have hla : (acc ++ [(⟨(gN l m).i, s⟩ : Cf)]).length = m + 1 := by rw [zaP, ha]; rfl
  have hS : Cs acc ++ (int (gN l m).i :: sgc s) = Cs (acc ++ [(⟨(gN l m).i, s⟩ : Cf)]) := Cs_snoc acc (⟨(gN l m).i, s⟩ : Cf)
  have htk : List.take (m * 18) (Cs acc) = Cs acc := Cs_all _ _ (by rw [ha]; exact zaY _)
  have hpt := cf_len acc
  rw [ha] at hpt
  generalize acc ++ [(⟨(gN l m).i, s⟩ : Cf)] = W at *
  generalize (gN l m).i = id' at *
  clear e1 hl hr
  rcases d1 with ⟨rfl, m1⟩ | ⟨rfl, rfl, rfl⟩
  · obtain ⟨pm, w, q, pe, b, c0, c1, cp, mm, pt, m0, m1', m2, m3, m4, mt⟩ := s
    simp only [sgc, sgt] at m1 hS
    simp only [go_sem, zaa, zal, zam, zan, zap, zah, ↓reduceIte, reduceCtorEq, zad, zae, zaq, zar, zas, decide_eq_true c, q1, hS, lendC]
    repeat' (first
 | with_reducible refine zau ?_ ?_
 | (unfold OKC; kernel_rfl)
 | (unfold EDG; kernel_rfl)
 | (apply cl_plain
    case hs => rfl
    case ha => (simp only [zaf, zag, prepV, prepC, idx, hpL', lookR, zaa, if_true, if_false]; rfl)
    case h => (first | exact n0 .. | exact n1 .. | exact m1 ..))
 | (apply cl_lend
    case hr => (simp only [zaf, zag, hpL', lookR, zaa, if_true, if_false]; first | exact map1 _ | exact map2 _ _ | exact map3 _ _ _)
    case ha => (simp only [zaf, zag, prepV, prepC, idx, hpL', lookR, zaa, if_true, if_false]; rfl)
    case hs => rfl
    case hn => decide
    case h => (first | exact n0 .. | exact n1 .. | exact m1 ..)
    case hf => (simp only [zab, zac, false_implies, implies_true, and_true, true_and, flat_cons, flat_nil, flat_ints, flat_bools, flat_app, Cs_flat, zaC, and_self, eq_self_iff_true, zai])
    case hl => (simp only [zax, zaA]; decide))
 | ((first | refine s1_id ?_ | refine swp_id ?_ | refine sops_id ?_ | refine s2_id ?_); simp only [decide_eq_true c, q1, hS, htk, lendC, dice, zaH, zaL, zai, zaM, zaI, zaE, zaF, zaD, zaR, zaU, zax, zaA, go_sem, zaa, zal, zam, zan, zap, zah, ↓reduceIte, reduceCtorEq, zad, zae, zaq, zar, zas, zaO, zaW, zaB, zaX, renO, bk, back, outUpsFrom, Ints_ren])
 | (intros; omega)
 | (intros; (try simp only [zay, zaz, zaw, zat, zaj, zao, decide_eq_true_eq, decide_eq_false_iff_not] at *); omega))
    refine le_mk (m + 1, W, j2) ?_ ⟨hlt, hla, hI⟩ (by show l.length - (m + 1) < l.length - m; omega)
    (refine imp_ren _ _ _ [(0, 0, dice D j2), (1, 1, ⟨[.gsl (Cs l) 0 l.length none, int n], 2⟩), (2, 26, ⟨Cs W, 18⟩)] (by simp) (by simp) (by simp) (zav rfl) ?_ rfl (by simp only [zab, zac, false_implies, implies_true, and_true, zaV, lookR, zaa, if_true, if_false, ↓reduceIte, dice, Cs_flat] <;> (repeat' apply zau) <;> (first | rfl | trivial)) (by simp only [zab, zac, false_implies, implies_true, and_true, true_and, flat_cons, flat_nil, flat_ints, flat_bools, flat_app, zaC, and_self, eq_self_iff_true, zai, dice, Cs_flat]); simp only [zaf, zag, zab, zac, false_implies, implies_true, and_true, lk, slot, zaO, zaB, toN, zaa, if_true, if_false, ↓reduceIte, reduceCtorEq])
    all_goals ((repeat' apply zau) <;> (first | rfl | trivial | (simp only [zak]; done) | (simp only [zak]; rfl) | (simp only [zak]; trivial)))
  · simp only [sgc, zaA] at hS n0
    simp only [go_sem, zaa, zal, zam, zan, zap, zah, ↓reduceIte, reduceCtorEq, zad, zae, zaq, zar, zas, decide_eq_true c, q1, hS, lendC]
    repeat' (first
 | with_reducible refine zau ?_ ?_
 | (unfold OKC; kernel_rfl)
 | (unfold EDG; kernel_rfl)
 | (apply cl_plain
    case hs => rfl
    case ha => (simp only [zaf, zag, prepV, prepC, idx, hpL', lookR, zaa, if_true, if_false]; rfl)
    case h => (first | exact n0 .. | exact n1 ..))
 | (apply cl_lend
    case hr => (simp only [zaf, zag, hpL', lookR, zaa, if_true, if_false]; first | exact map1 _ | exact map2 _ _ | exact map3 _ _ _)
    case ha => (simp only [zaf, zag, prepV, prepC, idx, hpL', lookR, zaa, if_true, if_false]; rfl)
    case hs => rfl
    case hn => decide
    case h => (first | exact n0 .. | exact n1 ..)
    case hf => (simp only [zab, zac, false_implies, implies_true, and_true, true_and, flat_cons, flat_nil, flat_ints, flat_bools, flat_app, Cs_flat, zaC, and_self, eq_self_iff_true, zai])
    case hl => (simp only [zax, zaA]; decide))
 | ((first | refine s1_id ?_ | refine swp_id ?_ | refine sops_id ?_ | refine s2_id ?_); simp only [decide_eq_true c, q1, hS, htk, lendC, dice, zaH, zaL, zai, zaM, zaI, zaE, zaF, zaD, zaR, zaU, zax, zaA, go_sem, zaa, zal, zam, zan, zap, zah, ↓reduceIte, reduceCtorEq, zad, zae, zaq, zar, zas, zaO, zaW, zaB, zaX, renO, bk, back, outUpsFrom, Ints_ren])
 | (intros; omega)
 | (intros; (try simp only [zay, zaz, zaw, zat, zaj, zao, decide_eq_true_eq, decide_eq_false_iff_not] at *); omega))
    refine le_mk (m + 1, W, j2) ?_ ⟨hlt, hla, hI⟩ (by show l.length - (m + 1) < l.length - m; omega)
    (refine imp_ren _ _ _ [(0, 0, dice D j2), (1, 1, ⟨[.gsl (Cs l) 0 l.length none, int n], 2⟩), (2, 23, ⟨Cs W, 18⟩)] (by simp) (by simp) (by simp) (zav rfl) ?_ rfl (by simp only [zab, zac, false_implies, implies_true, and_true, zaV, lookR, zaa, if_true, if_false, ↓reduceIte, dice, Cs_flat] <;> (repeat' apply zau) <;> (first | rfl | trivial)) (by simp only [zab, zac, false_implies, implies_true, and_true, true_and, flat_cons, flat_nil, flat_ints, flat_bools, flat_app, zaC, and_self, eq_self_iff_true, zai, dice, Cs_flat]); simp only [zaf, zag, zab, zac, false_implies, implies_true, and_true, lk, slot, zaO, zaB, toN, zaa, if_true, if_false, ↓reduceIte, reduceCtorEq])
    all_goals ((repeat' apply zau) <;> (first | rfl | trivial | (simp only [zak]; done) | (simp only [zak]; rfl) | (simp only [zak]; trivial)))
end Go.Proofs.Ytcnilpdlcmpbbab
-- NEWGO
-- PRUNE: cl_lendx cl_use
-- ISG: Cs_isG
-- FLAT: Cs_flat
namespace Go.Proofs.Ytcnilpdlcmpbbab
set_option linter.unusedVariables false
set_option linter.unusedSimpArgs false
open Go.Proofs.Ytcnilpdlcmpbbab.Sh
set_option maxRecDepth 20000
theorem vl_set (D : List Int) (j n : Nat) (N : Int) (h : (n : Int) ≤ N) : vl (dSet D j n).1 N = true := by
  rw [vl_iff]
  intro i hi
  have h1 := dSet_rng D j n _ (getD_mem _ i 0 hi)
  refine ⟨h1.1, by omega, fun h0 => ?_⟩
  have h2 := dSet_asc D j n
  rw [List.pairwise_iff_getElem] at h2
  have := h2 (i - 1) i (by omega) hi (by omega)
  rw [getD_at _ (i - 1) 0 (by omega), getD_at _ i 0 hi]
  exact this
theorem lsS_ok (D : List Int) (j n : Nat) (N : Int) (h : (n : Int) ≤ N) : vl (lsS D j n).1 N = true ∧ (lsS D j n).1.length ≤ n := by
  unfold lsS
  split
  · exact ⟨vl_set D _ n N h, dSet_len D _ n⟩
  · exact ⟨(vl_iff _ _).2 fun i hi => absurd hi (Nat.not_lt_zero _), zbb _⟩
theorem pmS_ok (D : List Int) (j : Nat) : (wn (pmS D j).1 0 1099511627776 || decide ((pmS D j).1 = 4611686018427387904)) = true := by
  have h := nxV_rng D (nxA D j 2) 6 (by decide)
  unfold pmS wn
  split
  · rw [decide_eq_true (by simp only; omega), decide_eq_true (by simp only; omega)]; rfl
  · rfl
theorem quS_ok (D : List Int) (j : Nat) (x : Sg) (hp : wn x.pe 1 1000000 = true) (hq : x.q = (quS D j).1.1) (hb : x.b = (quS D j).1.2) : cbF x = true := by
  have h := nxV_rng D (nxA D j 2) 9 (by decide)
  have h3 := nxV_rng D (nxA D (nxA D j 2) 9) (1 + nxV D (nxA D j 2) 9 + 1) (by omega)
  unfold cbF
  rw [hp, hq, hb, Bool.true_and]
  unfold quS
  split
  · simp only
    rw [if_neg (by omega)]
    unfold wn
    rw [decide_eq_true (by omega), decide_eq_true (by omega), decide_eq_true (by omega), decide_eq_true (by omega)]; rfl
  · rw [if_pos rfl]; rfl
theorem ptS_ok (D : List Int) (j : Nat) : (decide ((ptS D j).1 = 0) || decide ((ptS D j).1 = 1)) = true := by
  unfold ptS
  simp only
  split <;> rfl
theorem mkS_ok (D : List Int) (j : Nat) : ckS (mkS D j).1 = true ∧ SgR (mkS D j).1 := by
  have w1 := wtV_rng D (pmS D j).2
  have w4 := nxV_rng D (mk1 D j).2 9 (by decide)
  have w5 := nxV_rng D (nxA D (mk1 D j).2 9) 10001 (by decide)
  have w6 := nxV_rng D (nxA D (nxA D (mk1 D j).2 9) 10001) 10001 (by decide)
  have l3 := lsS_ok D (mk2 D j) 6 16 (by decide)
  have l4 := lsS_ok D (mk3 D j).2 4 8 (by decide)
  have hpe : wn (1 + nxV D (mk1 D j).2 9) 1 1000000 = true := by unfold wn; rw [decide_eq_true (by omega), decide_eq_true (by omega)]; rfl
  refine ⟨?_, ?_, ?_⟩
  · have hcb : cbF (mkS D j).1 = true := quS_ok D _ _ hpe rfl rfl
    have hcm : cmF (mkS D j).1 = true := rfl
    unfold ckS
    rw [hcb, hcm]
    show ((wn (pmS D j).1 0 1099511627776 || decide ((pmS D j).1 = 4611686018427387904)) && (wn (wtV D (pmS D j).2) 1 10000 && (true && (wn (nxV D (nxA D (mk1 D j).2 9) 10001) 0 10000 && (wn (nxV D (nxA D (nxA D (mk1 D j).2 9) 10001) 10001) 0 10000 && (vl (mk3 D j).1 16 && (vl (mk4 D j).1 8 && ((decide ((ptS D (mk4 D j).2).1 = 0) || decide ((ptS D (mk4 D j).2).1 = 1)) && true)))))))) = true
    rw [pmS_ok, ptS_ok, show vl (mk3 D j).1 16 = true from l3.1, show vl (mk4 D j).1 8 = true from l4.1]
    unfold wn
    rw [decide_eq_true (by omega), decide_eq_true (by omega), decide_eq_true (by omega), decide_eq_true (by omega), decide_eq_true (by omega), decide_eq_true (by omega)]; rfl
  · exact Nat.le_trans l3.2 (by decide)
  · exact Nat.le_trans l4.2 (by decide)
theorem dfS_ok : ckS dfS = true ∧ SgR dfS := ⟨by decide +kernel, dfS_r⟩
theorem cfS_ok (D : List Int) (j : Nat) : ckS (cfS D j).1 = true ∧ SgR (cfS D j).1 := by
  unfold cfS
  split
  · exact mkS_ok D _
  · exact dfS_ok
theorem cfA_ok (D : List Int) : ∀ (r : List Nd) (j : Nat) (acc : List Cf), ∃ X, (cfA D r j acc).1 = acc ++ X ∧ X.length = r.length ∧ (∀ i, i < r.length → (gCf X i).g = (gN r i).i) ∧ ∀ x ∈ X, ckS x.s = true ∧ SgR x.s
  | [], j, acc => ⟨[], (zai _).symm, rfl, fun i hi => absurd hi (Nat.not_lt_zero _), fun x hx => by cases hx⟩
  | y :: r, j, acc => by
    obtain ⟨X, h1, h2, h3, h4⟩ := cfA_ok D r (cfS D j).2 (acc ++ [⟨y.i, (cfS D j).1⟩])
    refine ⟨⟨y.i, (cfS D j).1⟩ :: X, ?_, by simp [h2], ?_, ?_⟩
    · rw [cfA, h1, List.append_assoc]; rfl
    · intro i hi
      cases i with
      | zero => rfl
      | succ i => exact h3 i (by simpa using hi)
    · intro x hx
      rcases List.mem_cons.1 hx with rfl | hx
      · exact cfS_ok D j
      · exact h4 x hx
theorem mkC_ok (D : List Int) {l : List Nd} {n : Int} (hV : VT l n) (j : Nat) : FiP l n (mkC D l j).1 ∧ CfR (mkC D l j).1 := by
  obtain ⟨X, h1, h2, h3, h4⟩ := cfA_ok D l j []
  unfold mkC
  rw [h1, zaI]
  exact ⟨⟨hV, h2, fun i hi => h3 i (by omega), fun i hi => (h4 _ (getD_mem X i zcf hi)).1⟩, fun x hx => (h4 x hx).2⟩
end Go.Proofs.Ytcnilpdlcmpbbab
-- NEWGO
-- PRUNE: cl_lendx cl_use
-- ISG: Cs_isG
-- FLAT: Cs_flat
namespace Go.Proofs.Ytcnilpdlcmpbbab
set_option linter.unusedVariables false
set_option linter.unusedSimpArgs false
open Go.Proofs.Ytcnilpdlcmpbbab.Sh
set_option maxRecDepth 20000
theorem setF_len (L : List Cf) (g : Int) (s : Sg) : (setF L g s).length = L.length := List.length_map _
theorem setF_at (L : List Cf) (g : Int) (s : Sg) (i : Nat) (h : i < L.length) : gCf (setF L g s) i = if (gCf L i).g = g then ⟨g, s⟩ else gCf L i := by
  rw [show gCf (setF L g s) i = (setF L g s)[i]'(by rw [setF_len]; exact h) from getD_at _ i zcf (by rw [setF_len]; exact h), show gCf L i = L[i] from getD_at L i zcf h]
  unfold setF
  rw [List.getElem_map]
theorem FiP.set {l : List Nd} {n : Int} {L : List Cf} (h : FiP l n L) {s : Sg} (hs : ckS s = true) (g : Int) : FiP l n (setF L g s) := by
  refine ⟨h.vt, by rw [setF_len]; exact h.len, fun i hi => ?_, fun i hi => ?_⟩
  · rw [setF_len] at hi
    rw [setF_at L g s i hi]
    split
    · rename_i e; rw [← h.id i hi, e]
    · exact h.id i hi
  · rw [setF_len] at hi
    rw [setF_at L g s i hi]
    split
    · exact hs
    · exact h.ck i hi
theorem CfR.set {L : List Cf} (h : CfR L) {s : Sg} (hs : SgR s) (g : Int) : CfR (setF L g s) := fun x hx => by
  obtain ⟨y, hy, rfl⟩ := List.mem_map.1 hx
  split
  · exact hs
  · exact h y hy
theorem sgF_cons (x : Cf) (r : List Cf) (g : Int) : sgF (x :: r) g = if x.g = g then x.s else sgF r g := by
  unfold sgF
  rw [List.find?_cons]
  by_cases c : x.g = g
  · rw [if_pos c, decide_eq_true c]
  · rw [if_neg c, decide_eq_false c]
theorem setF_cons (x : Cf) (r : List Cf) (g : Int) (s : Sg) : setF (x :: r) g s = (if x.g = g then ⟨g, s⟩ else x) :: setF r g s := rfl
theorem sgF_set_ne (g k : Int) (s : Sg) (hk : k ≠ g) : ∀ (L : List Cf), sgF (setF L g s) k = sgF L k
  | [] => rfl
  | x :: r => by
    rw [setF_cons, sgF_cons, sgF_cons, sgF_set_ne g k s hk r]
    by_cases c : x.g = g
    · rw [if_pos c, if_neg (fun e => hk (by rw [← e])), if_neg (fun e => hk (by rw [← e, c]))]
    · rw [if_neg c]
theorem sgF_r {L : List Cf} (h : CfR L) (g : Int) : SgR (sgF L g) := by
  rcases sgF_ix L g with ⟨_, e, _⟩ | ⟨t, _, ht, e, _, _⟩
  · rw [e]; exact dfS_r
  · rw [e]; exact h _ (getD_mem L t zcf ht)
def lendL : FuncId → List Nat := fun f => if f = 15 then [0] else if f = 12 then [0] else if f = 13 then [0] else if f = 24 then [0] else []
end Go.Proofs.Ytcnilpdlcmpbbab
-- NEWGO
-- PRUNE: cl_lendx cl_use
-- ISG: Cs_isG
-- FLAT: Cs_flat
namespace Go.Proofs.Ytcnilpdlcmpbbab
set_option linter.unusedVariables false
set_option linter.unusedSimpArgs false
open Go.Proofs.Ytcnilpdlcmpbbab.Sh
set_option maxRecDepth 20000
theorem lowL_cons (L : List Cf) (a : Int) (r : List Int) (s : Sg) : lowL L (a :: r) s = lowL L r (limF s (sgF L a)) := rfl
structure MinS (z x y : Sg) : Prop where
  pm : z.pm = min x.pm y.pm
  q : z.q = min x.q y.q
  c1 : z.c1 = min x.c1 y.c1
structure LowP (low own up : Sg) : Prop where
  m : MinS low own up
  c0 : low.c0 ≤ low.c1
  o0 : low.c0 ≤ own.c0
  w : low.w = own.w
theorem ancM_node {l : List Nd} {n : Int} (h : VT l n) {i : Nat} (hi : i < l.length) : ancM l n (gN l i).i = upL l (gN l i).i := by
  unfold ancM
  rw [if_pos (hasM_iff.2 ⟨(chkT_iff l n).2 h, gN l i, getD_mem l i zn hi, rfl⟩)]
end Go.Proofs.Ytcnilpdlcmpbbab
-- NEWGO
-- PRUNE: cl_lendx cl_use
-- ISG: Cs_isG
-- FLAT: Cs_flat
namespace Go.Proofs.Ytcnilpdlcmpbbab
set_option linter.unusedVariables false
set_option linter.unusedSimpArgs false
open Go.Proofs.Ytcnilpdlcmpbbab.Sh
set_option maxRecDepth 20000
def subF (l : List Nd) : Nat → Int → List Int
  | 0, _ => []
  | f + 1, id => id :: (kidsL l id).flatMap (subF l f)
theorem kidsL_mem {l : List Nd} {id x : Int} : x ∈ kidsL l id ↔ ∃ j, j < l.length ∧ (gN l j).p = id ∧ (gN l j).i = x := by
  unfold kidsL
  rw [List.mem_map]
  constructor
  · rintro ⟨y, hy, rfl⟩
    rw [List.mem_filter] at hy
    obtain ⟨j, hj, rfl⟩ := gN_mem l y hy.1
    exact ⟨j, hj, of_decide_eq_true hy.2, rfl⟩
  · rintro ⟨j, hj, hp, rfl⟩
    exact ⟨gN l j, List.mem_filter.2 ⟨getD_mem l j zn hj, decide_eq_true hp⟩, rfl⟩
theorem VT.kid {l : List Nd} {n : Int} (h : VT l n) {i j : Nat} (hi : i < l.length) (hj : j < l.length) (hp : (gN l j).p = (gN l i).i) : i < j ∧ j ≠ 0 := by
  have h0 : j ≠ 0 := by
    rintro rfl
    have := h.pos hi
    rw [h.root.2.1] at hp
    omega
  obtain ⟨q, hq, he⟩ := (h.ch hj h0).par
  have := h.asc.inj (i := q) (j := i) (by omega) hi (by rw [he, hp])
  omega
theorem subF_self {l : List Nd} {f : Nat} {id : Int} (h : 0 < f) : id ∈ subF l f id := by
  cases f with
  | zero => omega
  | succ f => exact zaG
theorem subF_kid {l : List Nd} {n : Int} (h : VT l n) : ∀ (f k j i : Nat), k < l.length → j < l.length → i < l.length → l.length - k ≤ f → (gN l i).p = (gN l j).i → (gN l j).i ∈ subF l f (gN l k).i → (gN l i).i ∈ subF l f (gN l k).i
  | 0, k, _, _, hk, _, _, hf, _, _ => by omega
  | f + 1, k, j, i, hk, hj, hi, hf, hp, hm => by
    rw [subF, zaQ] at hm ⊢
    right
    rw [zba]
    rcases hm with he | hm
    · have := h.asc.inj hj hk he
      subst this
      have hlt := h.kid hj hi hp
      exact ⟨(gN l i).i, kidsL_mem.2 ⟨i, hi, hp, rfl⟩, subF_self (by omega)⟩
    · rw [zba] at hm
      obtain ⟨c, hc, hcm⟩ := hm
      obtain ⟨q, hq, hqp, rfl⟩ := kidsL_mem.1 hc
      have hlt := h.kid hk hq hqp
      exact ⟨(gN l q).i, hc, subF_kid h f q j i hq hj hi (by omega) hp hcm⟩
theorem subF_up {l : List Nd} {n : Int} (h : VT l n) {k f : Nat} (hk : k < l.length) (hf : l.length - k ≤ f) : ∀ i, i < l.length → (gN l k).i ∈ upL l (gN l i).i → (gN l i).i ∈ subF l f (gN l k).i := fun i => by
  induction i using Nat.strongRecOn with
  | _ i ih =>
    intro hi hm
    by_cases h0 : i = 0
    · subst h0
      have hr := h.root.1
      rw [hr, h.up0, List.mem_singleton] at hm
      have := h.asc.inj hk hi (by rw [hm, hr])
      subst this
      exact subF_self (by omega)
    · rw [h.up hi h0, zaQ] at hm
      rcases hm with he | hm
      · have := h.asc.inj hk hi he
        subst this
        exact subF_self (by omega)
      · obtain ⟨j, hj, hp⟩ := (h.ch hi h0).par
        rw [← hp] at hm
        exact subF_kid h f k j i hk (by omega) hi hf hp.symm (ih j hj (by omega) hm)
theorem up_le {l : List Nd} {n : Int} (h : VT l n) : ∀ i, i < l.length → ∀ x ∈ upL l (gN l i).i, ∃ t, t ≤ i ∧ (gN l t).i = x := fun i => by
  induction i using Nat.strongRecOn with
  | _ i ih =>
    intro hi x hx
    by_cases h0 : i = 0
    · subst h0
      have hr := h.root.1
      rw [hr, h.up0, List.mem_singleton] at hx
      exact ⟨0, zaY _, by rw [hr, hx]⟩
    · rw [h.up hi h0, zaQ] at hx
      rcases hx with rfl | hx
      · exact ⟨i, zaY _, rfl⟩
      · obtain ⟨j, hj, hp⟩ := (h.ch hi h0).par
        rw [← hp] at hx
        obtain ⟨t, ht, e⟩ := ih j hj (by omega) x hx
        exact ⟨t, by omega, e⟩
theorem up_low {l : List Nd} {n : Int} (h : VT l n) : ∀ i, i < l.length → ∀ c y, c < l.length → y < l.length → (gN l c).i ∈ upL l (gN l i).i → (gN l y).i ∈ upL l (gN l i).i → y < c → (gN l y).i ∈ upL l (gN l c).p := fun i => by
  induction i using Nat.strongRecOn with
  | _ i ih =>
    intro hi c y hc hy hcm hym hyc
    by_cases h0 : i = 0
    · subst h0
      obtain ⟨t, ht, e⟩ := up_le h 0 hi _ hcm
      have := h.asc.inj (i := t) (j := c) (by omega) hc e
      omega
    · rw [h.up hi h0, zaQ] at hcm hym
      obtain ⟨j, hj, hp⟩ := (h.ch hi h0).par
      rcases hcm with e | hcm
      · have := h.asc.inj hc hi e
        subst this
        rcases hym with e | hym
        · have := h.asc.inj hy hc e
          omega
        · exact hym
      · rw [← hp] at hcm hym
        obtain ⟨t, ht, e⟩ := up_le h j (by omega) _ hcm
        have := h.asc.inj (i := t) (j := c) (by omega) hc e
        rcases hym with e | hym
        · have := h.asc.inj hy hi e
          omega
        · exact ih j hj (by omega) c y hc hy hcm hym hyc
theorem up_trans {l : List Nd} {n : Int} (h : VT l n) {q k : Nat} (hq : q < l.length) (hk : k < l.length) (hp : (gN l q).p = (gN l k).i) : ∀ i, i < l.length → ∀ {x : Int}, (gN l i).i = x → (gN l q).i ∈ upL l x → (gN l k).i ∈ upL l x := fun i => by
  induction i using Nat.strongRecOn with
  | _ i ih =>
    intro hi x hx hm
    subst hx
    by_cases h0 : i = 0
    · subst h0
      obtain ⟨t, ht, e⟩ := up_le h 0 hi _ hm
      have := h.asc.inj (i := t) (j := q) (by omega) hq e
      have := (h.kid hk hq hp).1
      omega
    · rw [h.up hi h0, zaQ] at hm ⊢
      obtain ⟨j, hj, hpj⟩ := (h.ch hi h0).par
      right
      rcases hm with e | hm
      · have := h.asc.inj hq hi e
        subst this
        rw [hp, upL_node h.asc hk]
        exact zaG
      · rw [← hpj] at hm ⊢
        exact ih j hj (by omega) rfl hm
theorem subF_ge {l : List Nd} {n : Int} (h : VT l n) : ∀ (f k : Nat) (x : Int), k < l.length → x ∈ subF l f (gN l k).i → ∃ i, k ≤ i ∧ i < l.length ∧ (gN l i).i = x ∧ (gN l k).i ∈ upL l x
  | 0, _, _, _, hx => by cases hx
  | f + 1, k, x, hk, hx => by
    rw [subF, zaQ] at hx
    rcases hx with rfl | hx
    · exact ⟨k, zaY _, hk, rfl, by rw [upL_node h.asc hk]; exact zaG⟩
    · rw [zba] at hx
      obtain ⟨c, hc, hcm⟩ := hx
      obtain ⟨q, hq, hqp, rfl⟩ := kidsL_mem.1 hc
      have hlt := h.kid hk hq hqp
      obtain ⟨i, hi1, hi2, hi3, hi4⟩ := subF_ge h f q x hq hcm
      refine ⟨i, by omega, hi2, hi3, ?_⟩
      exact up_trans h hq hk hqp i hi2 hi3 hi4
theorem nodup_le : ∀ (A B : List Int), A.Nodup → (∀ x ∈ A, x ∈ B) → A.length ≤ B.length
  | [], _, _, _ => zbb _
  | a :: A, B, h, hs => by
    have ha := hs a zaG
    have h1 := nodup_le A (B.erase a) (List.nodup_cons.1 h).2 (fun x hx => by
      have : x ≠ a := fun e => (List.nodup_cons.1 h).1 (by rw [← e]; exact hx)
      exact (List.mem_erase_of_ne this).2 (hs x (List.mem_cons_of_mem _ hx)))
    rw [List.length_erase_of_mem ha] at h1
    have := List.length_pos_of_mem ha
    rw [zax]; omega
theorem kidsL_asc {l : List Nd} {n : Int} (h : VT l n) (id : Int) : (kidsL l id).Pairwise (· < ·) := by
  unfold kidsL
  rw [List.pairwise_map]
  exact ((h.vl.asc).filter _).imp fun h => h
theorem subF_nodup {l : List Nd} {n : Int} (h : VT l n) : ∀ (f k : Nat), k < l.length → (subF l f (gN l k).i).Nodup
  | 0, _, _ => List.nodup_nil
  | f + 1, k, hk => by
    rw [subF, List.nodup_cons]
    refine ⟨fun hm => ?_, ?_⟩
    · rw [zba] at hm
      obtain ⟨c, hc, hcm⟩ := hm
      obtain ⟨q, hq, hqp, rfl⟩ := kidsL_mem.1 hc
      have hlt := h.kid hk hq hqp
      obtain ⟨i, hi1, hi2, hi3, _⟩ := subF_ge h f q _ hq hcm
      have := h.asc.inj hi2 hk hi3
      omega
    · unfold List.Nodup
      rw [List.pairwise_flatMap]
      refine ⟨fun c hc => ?_, ?_⟩
      · obtain ⟨q, hq, hqp, rfl⟩ := kidsL_mem.1 hc
        exact subF_nodup h f q hq
      · refine (kidsL_asc h (gN l k).i).imp_of_mem fun {a b} ha hb hab x hx y hy hxy => ?_
        subst hxy
        obtain ⟨q, hq, hqp, rfl⟩ := kidsL_mem.1 ha
        obtain ⟨r, hr, hrp, rfl⟩ := kidsL_mem.1 hb
        obtain ⟨i, hi1, hi2, hi3, hi4⟩ := subF_ge h f q _ hq hx
        obtain ⟨j, hj1, hj2, hj3, hj4⟩ := subF_ge h f r _ hr hy
        have hqr : q < r := by
          rcases zaZ q r with c | c
          · exact c
          · rcases zaZ r q with d | d
            · have := h.asc r q d hq; omega
            · have : q = r := by omega
              subst this; omega
        rw [← hi3] at hi4 hj4
        have h3 := up_low h i hi2 r q hr hq hj4 hi4 hqr
        rw [hrp] at h3
        obtain ⟨t, ht, hte⟩ := up_le h k hk _ h3
        have := h.asc.inj (i := q) (j := t) hq (by omega) hte.symm
        have := (h.kid hk hq hqp).1
        omega
theorem subF_len {l : List Nd} {n : Int} (h : VT l n) (f k : Nat) (hk : k < l.length) : (subF l f (gN l k).i).length ≤ l.length := by
  have := nodup_le _ (l.map (·.i)) (subF_nodup h f k hk) (fun x hx => by
    obtain ⟨i, _, hi, e, _⟩ := subF_ge h f k x hk hx
    exact List.mem_map.2 ⟨gN l i, getD_mem l i zn hi, e⟩)
  rwa [List.length_map] at this
set_option maxHeartbeats 16000000 in
theorem sub_spec (l : List Nd) (k : Option Nat) (n : Int) (h : VT l n) (hnm : NmR l) : ∀ (f i : Nat), i < l.length → l.length - i ≤ f → FnSpec Try.prog 25 [trV l k n, i1 (gN l i).i] [] (gi (subF l f (gN l i).i) none) []
  | 0, i, hi, hf => by omega
  | f + 1, i, hi, hf => by
    have hle := h.le
    have h1 := rhas_spec l k n (gN l i).i (by omega) hnm
    have hh : hasM l n (gN l i).i = true := by
      unfold hasM
      rw [(chkT_iff l n).2 h, Bool.true_and, List.any_eq_true]
      exact ⟨gN l i, getD_mem l i zn hi, decide_eq_true rfl⟩
    rw [hh] at h1
    have h2 := rkids_spec l k n (gN l i).i (by omega) hnm
    have hch : chM l n (gN l i).i = kidsL l (gN l i).i := by unfold chM; rw [hh, if_pos rfl]
    rw [hch] at h2
    have hkl := kidsL_len l (gN l i).i
    have ih : ∀ x ∈ kidsL l (gN l i).i, FnSpec Try.prog 25 [trV l k n, i1 x] [] (gi (subF l f x) none) [] := fun x hx => by
      obtain ⟨j, hj, hp, rfl⟩ := kidsL_mem.1 hx
      exact sub_spec l k n h hnm f j hj (by have := (h.kid hi hj hp).1; omega)
    have hlen := subF_len h (f + 1) i hi
    have hun : subF l (f + 1) (gN l i).i = (gN l i).i :: (kidsL l (gN l i).i).flatMap (subF l f) := rfl
    rw [hun] at hlen ⊢
    generalize kidsL l (gN l i).i = K at *
    generalize (gN l i).i = id at *
    have hun2 : ∀ m, m < K.length → (id :: (K.take (m + 1)).flatMap (subF l f)) = (id :: (K.take m).flatMap (subF l f)) ++ subF l f (K.getD m 0) := fun m hm => by
      rw [take_getD K m 0 hm, List.flatMap_append, List.flatMap_cons, List.flatMap_nil, zai]; rfl
    have hlm : ∀ m, (id :: (K.take m).flatMap (subF l f)).length ≤ l.length := fun m => by
      refine Nat.le_trans ?_ hlen
      rw [zax, zax]
      have e : K = K.take m ++ K.drop m := (List.take_append_drop m K).symm
      rw [show (K.flatMap (subF l f)) = (K.take m).flatMap (subF l f) ++ (K.drop m).flatMap (subF l f) by rw [← List.flatMap_append, ← e], zaP]
      omega
    clear hun hlen
    refine fnspec_of mixed TT_ok TT_cl ⟨fun _ => false, fun _ => [], 0, fun _ => false, fun _ => false⟩ Try.func25 rfl (by kernel_rfl) rfl 32 rfl [.tmp 4] rfl ?_
    simp only [go_sem, zaa, zal, zam, zan, zap, zah, ↓reduceIte, reduceCtorEq, zad, zae, zaq, zar, zas]
    repeat' (first
 | (apply cl_plain
    case hs => rfl
    case ha => (simp only [zaf, zag, prepV, prepC, idx, hpL', lookR, zaa, if_true, if_false]; rfl)
    case h => (first | exact h1 .. | exact h2 ..))
 | ((first | refine s1_id ?_ | refine swp_id ?_ | refine sops_id ?_ | refine s2_id ?_); simp only [go_sem, zaa, zal, zam, zan, zap, zah, ↓reduceIte, reduceCtorEq, zad, zae, zaq, zar, zas, zaO, zaW, zaB, zaX, renO, bk, back, outUpsFrom, Ints_ren])
 | (intros; (try simp only [zay, zaz, zaw, zat, zaj, zao, decide_eq_true_eq, decide_eq_false_iff_not] at *); omega))
    refine w_loop (ι := Nat) (fun m => ⟨[(2, .one (.optr 0 0)), (5, .one (.osl 1 0 (id :: (K.take m).flatMap (subF l f)).length none)), (6, gi K none), (7, i1 m)], [(0, some ⟨[.gsl (Cs l) 0 l.length k, int n], 2⟩), (1, some ⟨Ints (id :: (K.take m).flatMap (subF l f)), 1⟩)], 2⟩) (fun m => m ≤ K.length) (fun m => K.length - m) 0 ?_ (zbb _) ?_
    · refine Imp.trans (t := ⟨[(2, .one (.optr 0 0)), (5, .one (.osl 1 0 1 (some 1))), (6, gi K none), (7, i1 (0 : Nat))], [(0, some ⟨[.gsl (Cs l) 0 l.length k, int n], 2⟩), (1, some ⟨Ints [id], 1⟩)], 2⟩) ?_ (imp_w _ _ _ ?_ rfl (zaY _))
      · skip
        (refine imp_ren _ _ _ [(0, 0, ⟨[.gsl (Cs l) 0 l.length k, int n], 2⟩), (1, 7, ⟨Ints [id], 1⟩)] (by simp) (by simp) (by simp) (zav rfl) ?_ rfl (by simp only [zab, zac, false_implies, implies_true, and_true, zaV, lookR, zaa, if_true, if_false, ↓reduceIte] <;> (repeat' apply zau) <;> (first | rfl | trivial)) (by simp only [zab, zac, false_implies, implies_true, and_true, true_and, flat_cons, flat_nil, flat_ints, flat_bools, flat_app, zaC, and_self, eq_self_iff_true, zai]); simp only [zaf, zag, zab, zac, false_implies, implies_true, and_true, lk, slot, zaO, zaB, toN, zaa, if_true, if_false, ↓reduceIte, reduceCtorEq])
        all_goals ((repeat' apply zau) <;> (first | rfl | trivial))
      · intro x hx
        simp only [zaQ, zac, or_false] at hx
        rcases hx with rfl | rfl | rfl | rfl <;> first | exact ⟨_, rfl, SVW.refl _⟩ | exact ⟨_, rfl, svw_of (cw_ocap _ _ _ _)⟩
    clear h1 h2
    intro m hm
    simp only at hm ⊢
    rcases zaZ m K.length with hlt | hge
    case inr =>
      have c : ¬ (m : Int) < (K.length : Int) := by omega
      rw [zaN hge]
      simp only [go_sem, zaa, zal, zam, zan, zap, zah, ↓reduceIte, reduceCtorEq, zad, zae, zaq, zar, zas, decide_eq_false c]
      repeat' (first
 | (intros; (try simp only [zay, zaz, zaw, zat, zaj, zao, decide_eq_true_eq, decide_eq_false_iff_not] at *); omega))
      (refine fs_frz 1 ⟨Ints (id :: K.flatMap (subF l f)), 1⟩ (by simp only [zaV, lookR, zaa, if_true, if_false, ↓reduceIte]) (by first | exact Ints_isG _ | exact Bools_isG _ | exact Cs_isG _ | (simp [Cell.isG]; done)) ?_; simp only [frzTm, SV.frz, SV.frzL, Cell.frz, frzHp, frzO, Ints_frz, Bools_frz, zaf, zag, zaa, if_true, if_false, ↓reduceIte])
      apply fs_nil <;> (try simp only [go_sem, resV, resS, zaO, zaW, zaB, St.tmF, zaV, idx, renO, zaX, evS, slot, lookR, zaa, ↓reduceIte, reduceCtorEq, if_true, if_false, zaS, zaT, zaf, zag, sLoad, readAt, readNeed, Ints_ren, Ints_length, Ints_getD, and_true, true_and, zaJ, zaK]) <;> (try rfl)
    have c : (m : Int) < (K.length : Int) := by omega
    have h3 := ih (K.getD m 0) (getD_mem K m 0 hlt)
    have h4 := hun2 m hlt
    have h4l : (List.flatMap (subF l f) (List.take (m + 1) K)).length + 1 = (id :: (K.take m).flatMap (subF l f)).length + (subF l f (K.getD m 0)).length := by rw [← zaP, ← h4, zax]
    have h5 := hlm m
    have h6 := hlm (m + 1)
    rw [h4] at h6
    generalize (id :: (K.take m).flatMap (subF l f)) = A at *
    generalize subF l f (K.getD m 0) = B at *
    have htk : List.take A.length (Ints A) = Ints A := zaN (by rw [Ints_length]; exact zaY _)
    have htb : List.take B.length (Ints B) = Ints B := zaN (by rw [Ints_length]; exact zaY _)
    have hpp : Ints A ++ Ints B = Ints (A ++ B) := by simp [Ints]
    rw [zaP] at h6
    have hla : (A ++ B).length = A.length + B.length := zaP
    simp only [go_sem, zaa, zal, zam, zan, zap, zah, ↓reduceIte, reduceCtorEq, zad, zae, zaq, zar, zas, decide_eq_true c]
    repeat' (first
 | with_reducible refine zau ?_ ?_
 | (unfold OKC; kernel_rfl)
 | (unfold EDG; kernel_rfl)
 | (apply cl_plain
    case hs => rfl
    case ha => (simp only [zaf, zag, prepV, prepC, idx, hpL', lookR, zaa, if_true, if_false]; rfl)
    case h => (first | exact h3 ..))
 | ((first | refine s1_id ?_ | refine swp_id ?_ | refine sops_id ?_ | refine s2_id ?_); simp only [decide_eq_true c, htk, htb, hpp, zaH, zaL, zai, zaM, zaI, zaE, zaF, zaD, zaR, zaU, zax, zaA, go_sem, zaa, zal, zam, zan, zap, zah, ↓reduceIte, reduceCtorEq, zad, zae, zaq, zar, zas, zaO, zaW, zaB, zaX, renO, bk, back, outUpsFrom, Ints_ren])
 | (intros; omega)
 | (intros; (try simp only [zay, zaz, zaw, zat, zaj, zao, decide_eq_true_eq, decide_eq_false_iff_not] at *); omega))
    refine le_mk (m + 1) ?_ hlt (by omega)
    simp only [h4, h4l, hla]
    (refine imp_ren _ _ _ [(0, 0, ⟨[.gsl (Cs l) 0 l.length k, int n], 2⟩), (1, 13, ⟨Ints (A ++ B), 1⟩)] (by simp) (by simp) (by simp) (zav rfl) ?_ rfl (by simp only [zab, zac, false_implies, implies_true, and_true, zaV, lookR, zaa, if_true, if_false, ↓reduceIte] <;> (repeat' apply zau) <;> (first | rfl | trivial)) (by simp only [zab, zac, false_implies, implies_true, and_true, true_and, flat_cons, flat_nil, flat_ints, flat_bools, flat_app, zaC, and_self, eq_self_iff_true, zai]); simp only [zaf, zag, zab, zac, false_implies, implies_true, and_true, lk, slot, zaO, zaB, toN, zaa, if_true, if_false, ↓reduceIte, reduceCtorEq])
    all_goals ((repeat' apply zau) <;> (first | rfl | trivial | (simp only [zak]; done) | (simp only [zak]; rfl) | (simp only [zak]; trivial)))
end Go.Proofs.Ytcnilpdlcmpbbab
-- NEWGO
-- PRUNE: cl_lendx cl_use
-- ISG: Cs_isG
-- FLAT: Cs_flat
namespace Go.Proofs.Ytcnilpdlcmpbbab
set_option linter.unusedVariables false
set_option linter.unusedSimpArgs false
open Go.Proofs.Ytcnilpdlcmpbbab.Sh
set_option maxRecDepth 20000
theorem lowL_congr {L M : List Cf} : ∀ (V : List Int) (s : Sg), (∀ a ∈ V, sgF L a = sgF M a) → lowL L V s = lowL M V s
  | [], _, _ => rfl
  | a :: r, s, h => by
    rw [lowL_cons, lowL_cons, h a zaG]
    exact lowL_congr r _ (fun b hb => h b (List.mem_cons_of_mem _ hb))
theorem lowL_r {L : List Cf} : ∀ (V : List Int) (s : Sg), SgR s → SgR (lowL L V s)
  | [], _, h => h
  | a :: r, s, h => by rw [lowL_cons]; exact lowL_r r _ h
theorem lwM_r {l : List Nd} {n : Int} {L : List Cf} (h : CfR L) (g : Int) : SgR (lwM l n L g) := by
  unfold lwM
  split
  · exact lowL_r _ _ (sgF_r h g)
  · exact ⟨by decide, by decide⟩
theorem lw_apart {l : List Nd} {n : Int} {L : List Cf} (h : FiP l n L) {s : Sg} (hs : ckS s = true) {g k : Int} (hg : ¬ g ∈ ancM l n k) (hk : k ≠ g) : lwM l n (setF L g s) k = lwM l n L k := by
  unfold lwM
  rw [(fiC_iff l n L).2 h, (fiC_iff l n _).2 (h.set hs g), sgF_set_ne g k s hk, lowL_congr (L := setF L g s) (M := L) _ _ (fun a ha => sgF_set_ne g a s (fun e => hg (e ▸ ha)) L)]
theorem sub_apart {l : List Nd} {n : Int} {L : List Cf} (h : FiP l n L) {s : Sg} (hs : ckS s = true) {t m : Nat} (ht : t < l.length) (hm : m < l.length) (hn : ¬ (gN l m).i ∈ subF l l.length (gN l t).i) : lwM l n (setF L (gN l t).i s) (gN l m).i = lwM l n L (gN l m).i := by
  have hu : ¬ (gN l t).i ∈ upL l (gN l m).i := fun hu => hn (subF_up h.vt ht (by omega) m hm hu)
  refine lw_apart h hs (by rw [ancM_node h.vt hm]; exact hu) (fun e => hu ?_)
  rw [upL_node h.vt.asc hm, e]
  exact zaG
end Go.Proofs.Ytcnilpdlcmpbbab
-- NEWGO
-- PRUNE: cl_lendx cl_use
-- ISG: Cs_isG
-- FLAT: Cs_flat
namespace Go.Proofs.Ytcnilpdlcmpbbab
set_option linter.unusedVariables false
set_option linter.unusedSimpArgs false
open Go.Proofs.Ytcnilpdlcmpbbab.Sh
set_option maxRecDepth 20000
set_option maxHeartbeats 64000000 in
theorem apart11_spec (D : List Int) (hr : ∀ x ∈ D, -9223372036854775808 ≤ x ∧ x ≤ 9223372036854775807) : FnSpec Try.prog 4 [gi D none] [] (b1 true) [] := by
  by_cases hlen : (D.length : Int) ≤ 600
  case neg =>
    refine fnspec_of mixed TT_ok TT_cl ⟨fun _ => false, lendL, 0, fun _ => false, fun _ => false⟩ Try.func4 rfl (by kernel_rfl) rfl 91 rfl [.tmp 2] rfl ?_
    simp only [go_sem, zaa, zal, zam, zan, zap, zah, ↓reduceIte, reduceCtorEq, zad, zae, zaq, zar, zas, decide_eq_false hlen, lendL]
    repeat' (first
 | (apply cl_plain
    case hs => rfl
    case ha => (simp only [zaf, zag, prepV, prepC, idx, hpL', lookR, zaa, if_true, if_false]; rfl)
    case h => (first | exact light_spec .. | exact sgsane_spec ..))
 | ((first | refine s1_id ?_ | refine swp_id ?_ | refine sops_id ?_ | refine s2_id ?_); simp only [decide_eq_false hlen, lendL, go_sem, zaa, zal, zam, zan, zap, zah, ↓reduceIte, reduceCtorEq, zad, zae, zaq, zar, zas, zaO, zaW, zaB, zaX, renO, bk, back, outUpsFrom, Ints_ren])
 | exact fs_nil trivial rfl
 | fail)
  have hl : D.length ≤ 600 := by omega
  have t1 := tree_spec D hl hr 0 7 (by decide)
  have hti := mkT_ok D 0 7
  generalize mkT D 0 7 = T at *
  obtain ⟨⟨l, n⟩, j1⟩ := T
  simp only at t1 hti
  have hV := hti.v.vt
  have hle := hti.len
  have hnl := nd_len l
  have hct := hV.ctr
  have hnr := hti.nr
  have p1 := dconfigs_spec D hl hr l n (by omega) j1
  obtain ⟨hC, hCr⟩ := mkC_ok D hV j1
  generalize mkC D l j1 = q at *
  obtain ⟨C, j2⟩ := q
  simp only at p1 hC hCr
  have hCl := hC.len
  have n1 := next_spec D j2 l.length hl hr (by omega)
  have r1 := nx_rng D j2 l.length (by omega)
  generalize nxV D j2 l.length = v at *
  generalize nxA D j2 l.length = j3 at *
  obtain ⟨t, rfl⟩ : ∃ t : Nat, v = t := ⟨v.toNat, by omega⟩
  have ht : t < l.length := by omega
  have p2 := dsettings_spec D hl hr j3
  obtain ⟨hs, hsr⟩ := mkS_ok D j3
  generalize mkS D j3 = q at *
  obtain ⟨s, j4⟩ := q
  simp only at p2 hs hsr
  obtain ⟨q1, _⟩ := nd_f l t ht (.sc (.int .i64 0))
  have b1' := sub_spec l none n hV hnr l.length t ht (by omega)
  have hbl := subF_len hV l.length t ht
  have hap := fun (m : Nat) (hm : m < l.length) => sub_apart hC hs ht hm
  obtain ⟨g, hg⟩ : ∃ g, (gN l t).i = g := ⟨_, rfl⟩
  rw [hg] at q1 b1' hbl
  simp only [hg] at hap
  have hin : ∃ x ∈ C, x.g = g := ⟨gCf C t, getD_mem C t zcf (by omega), by rw [hC.id t (by omega), hg]⟩
  have s1 := sset_spec l n C none g s (by omega) (by omega) hnr hct hCr hsr
  have hAr := hCr.set hsr g
  have hst : stM l n C g s = (setF C g s, 0) := by
    unfold stM
    rw [(fiC_iff l n C).2 hC, if_pos rfl, if_pos (List.any_eq_true.2 (by obtain ⟨x, hx, e⟩ := hin; exact ⟨x, hx, decide_eq_true e⟩)), hs, if_pos rfl]
  rw [hst] at s1
  have hAl := setF_len C g s
  generalize setF C g s = A at *
  generalize subF l l.length g = S at *
  simp only at s1
  clear hst hin hs
  simp only [sgt, sgc] at p2 s1
  refine fnspec_of mixed TT_ok TT_cl ⟨fun _ => false, lendL, 0, fun _ => false, fun _ => false⟩ Try.func4 rfl (by kernel_rfl) rfl 91 rfl [.tmp 2] rfl ?_
  simp only [go_sem, zaa, zal, zam, zan, zap, zah, ↓reduceIte, reduceCtorEq, zad, zae, zaq, zar, zas, decide_eq_true hlen, lendL]
  repeat' (first
 | with_reducible refine zau ?_ ?_
 | (unfold OKC; kernel_rfl)
 | (unfold EDG; kernel_rfl)
 | (apply cl_plain
    case hs => rfl
    case ha => (simp only [zaf, zag, prepV, prepC, idx, hpL', lookR, zaa, if_true, if_false]; rfl)
    case h => (first | exact light_spec .. | exact roll_spec .. | exact t1 .. | exact p1 .. | exact n1 .. | exact p2 .. | exact s1 .. | exact b1' ..))
 | (apply cl_lend
    case hr => (simp only [zaf, zag, hpL', lookR, zaa, if_true, if_false]; first | exact map1 _ | exact map2 _ _ | exact map3 _ _ _)
    case ha => (simp only [zaf, zag, prepV, prepC, idx, hpL', lookR, zaa, if_true, if_false]; rfl)
    case hs => rfl
    case hn => decide
    case h => (first | exact light_spec .. | exact roll_spec .. | exact t1 .. | exact p1 .. | exact n1 .. | exact p2 .. | exact s1 .. | exact b1' ..)
    case hf => (simp only [zab, zac, false_implies, implies_true, and_true, true_and, flat_cons, flat_nil, flat_ints, flat_bools, flat_app, Cs_flat, zaC, and_self, eq_self_iff_true, zai])
    case hl => (simp only [zax, zaA]; decide))
 | ((first | refine s1_id ?_ | refine swp_id ?_ | refine sops_id ?_ | refine s2_id ?_); simp only [decide_eq_true hlen, lendL, dice, q1, zaH, zaL, zai, zaM, zaI, zaE, zaF, zaD, zaR, zaU, zax, zaA, go_sem, zaa, zal, zam, zan, zap, zah, ↓reduceIte, reduceCtorEq, zad, zae, zaq, zar, zas, zaO, zaW, zaB, zaX, renO, bk, back, outUpsFrom, Ints_ren])
 | (intros; omega)
 | (intros; (try simp only [zay, zaz, zaw, zat, zaj, zao, decide_eq_true_eq, decide_eq_false_iff_not] at *); omega))
  refine w_loop (ι := Nat) (fun m => ⟨[(4, .one (.optr 0 0)), (5, gr C none), (7, gr A none), (9, gi S none), (52, i1 l.length), (53, i1 m)], [(0, some ⟨[.gsl (Cs l) 0 l.length none, int n], 2⟩)], 1⟩) (fun m => m ≤ l.length) (fun m => l.length - m) 0 ?_ (zbb _) ?_
  · (refine imp_ren _ _ _ [(0, 9, ⟨[.gsl (Cs l) 0 l.length none, int n], 2⟩)] (by simp) (by simp) (by simp) (zav rfl) ?_ rfl (by simp only [zab, zac, false_implies, implies_true, and_true, zaV, lookR, zaa, if_true, if_false, ↓reduceIte] <;> (repeat' apply zau) <;> (first | rfl | trivial)) (by simp only [zab, zac, false_implies, implies_true, and_true, true_and, flat_cons, flat_nil, flat_ints, flat_bools, flat_app, zaC, and_self, eq_self_iff_true, zai]); simp only [zaf, zag, zab, zac, false_implies, implies_true, and_true, lk, slot, zaO, zaB, toN, zaa, if_true, if_false, ↓reduceIte, reduceCtorEq])
    all_goals ((repeat' apply zau) <;> (first | rfl | trivial))
  clear t1 p1 n1 p2 s1 b1'
  intro m hm
  simp only at hm ⊢
  rcases zaZ m l.length with hlt | hge
  case inr =>
    have c : ¬ (m : Int) < (l.length : Int) := by omega
    simp only [go_sem, zaa, zal, zam, zan, zap, zah, ↓reduceIte, reduceCtorEq, zad, zae, zaq, zar, zas, decide_eq_false c, lendL]
    repeat' (first
 | (apply cl_plain
    case hs => rfl
    case ha => (simp only [zaf, zag, prepV, prepC, idx, hpL', lookR, zaa, if_true, if_false]; rfl)
    case h => (first | exact sgsane_spec ..))
 | ((first | refine s1_id ?_ | refine swp_id ?_ | refine sops_id ?_ | refine s2_id ?_); simp only [decide_eq_false c, lendL, go_sem, zaa, zal, zam, zan, zap, zah, ↓reduceIte, reduceCtorEq, zad, zae, zaq, zar, zas, zaO, zaW, zaB, zaX, renO, bk, back, outUpsFrom, Ints_ren])
 | exact fs_nil trivial rfl
 | fail)
  have c : (m : Int) < (l.length : Int) := by omega
  obtain ⟨q2, _⟩ := nd_f l m hlt (.sc (.int .i64 0))
  have x1 := slow_spec l n C none (gN l m).i (by omega) (by omega) hnr hct hCr
  have x2 := slow_spec l n A none (gN l m).i (by omega) (by omega) hnr hct hAr
  have hap' := hap m hlt
  have hlr : SgR (lwM l n C (gN l m).i) := lwM_r hCr _
  generalize (gN l m).i = k at *
  simp only [go_sem, zaa, zal, zam, zan, zap, zah, ↓reduceIte, reduceCtorEq, zad, zae, zaq, zar, zas, decide_eq_true c, q2, lendL]
  repeat' (first
 | with_reducible refine zau ?_ ?_
 | (intros; omega)
 | (intros; (try simp only [zay, zaz, zaw, zat, zaj, zao, decide_eq_true_eq, decide_eq_false_iff_not] at *); omega))
  refine w_loop (ι := Nat) (fun i => ⟨[(4, .one (.optr 0 0)), (5, gr C none), (7, gr A none), (9, gi S none), (11, i1 k), (12, b1 ((S.take i).any (fun b => decide (b = k)))), (52, i1 l.length), (53, i1 m), (62, gi S none), (63, i1 S.length), (64, i1 i)], [(0, some ⟨[.gsl (Cs l) 0 l.length none, int n], 2⟩)], 1⟩) (fun i => i ≤ S.length) (fun i => S.length - i) 0 ?_ (zbb _) ?_
  · (refine imp_ren _ _ _ [(0, 0, ⟨[.gsl (Cs l) 0 l.length none, int n], 2⟩)] (by simp) (by simp) (by simp) (zav rfl) ?_ rfl (by simp only [zab, zac, false_implies, implies_true, and_true, zaV, lookR, zaa, if_true, if_false, ↓reduceIte] <;> (repeat' apply zau) <;> (first | rfl | trivial)) (by simp only [zab, zac, false_implies, implies_true, and_true, true_and, flat_cons, flat_nil, flat_ints, flat_bools, flat_app, zaC, and_self, eq_self_iff_true, zai]); simp only [zaf, zag, zab, zac, false_implies, implies_true, and_true, lk, slot, zaO, zaB, toN, zaa, if_true, if_false, ↓reduceIte, reduceCtorEq])
    all_goals ((repeat' apply zau) <;> (first | rfl | trivial))
  intro i hi
  simp only at hi ⊢
  rcases zaZ i S.length with hilt | hige
  case inr =>
    have c2 : ¬ (i : Int) < (S.length : Int) := by omega
    rw [zaN hige]
    cases hin : S.any (fun b => decide (b = k)) with
    | true =>
      simp only [go_sem, zaa, zal, zam, zan, zap, zah, ↓reduceIte, reduceCtorEq, zad, zae, zaq, zar, zas, decide_eq_false c2, lendL]
      repeat' (first
 | with_reducible refine zau ?_ ?_
 | (unfold OKC; kernel_rfl)
 | (unfold EDG; kernel_rfl)
 | (intros; omega)
 | (intros; (try simp only [zay, zaz, zaw, zat, zaj, zao, decide_eq_true_eq, decide_eq_false_iff_not] at *); omega))
      refine le_mk (m + 1) ?_ hlt (by show l.length - (m + 1) < l.length - m; omega)
      (refine imp_ren _ _ _ [(0, 0, ⟨[.gsl (Cs l) 0 l.length none, int n], 2⟩)] (by simp) (by simp) (by simp) (zav rfl) ?_ rfl (by simp only [zab, zac, false_implies, implies_true, and_true, zaV, lookR, zaa, if_true, if_false, ↓reduceIte] <;> (repeat' apply zau) <;> (first | rfl | trivial)) (by simp only [zab, zac, false_implies, implies_true, and_true, true_and, flat_cons, flat_nil, flat_ints, flat_bools, flat_app, zaC, and_self, eq_self_iff_true, zai]); simp only [zaf, zag, zab, zac, false_implies, implies_true, and_true, lk, slot, zaO, zaB, toN, zaa, if_true, if_false, ↓reduceIte, reduceCtorEq])
      all_goals ((repeat' apply zau) <;> (first | rfl | trivial | (simp only [zak]; done) | (simp only [zak]; rfl) | (simp only [zak]; trivial)))
    | false =>
      rw [hap' (fun hk => by
        rw [List.any_eq_false] at hin
        exact absurd (decide_eq_true rfl) (hin k hk))] at x2
      clear hap hap' hin
      generalize lwM l n C k = y at *
      have x3 := ssame_spec y y hlr.1 hlr.2
      rw [smS_refl] at x3
      simp only [sgt, sgc] at x1 x2 x3
      simp only [go_sem, zaa, zal, zam, zan, zap, zah, ↓reduceIte, reduceCtorEq, zad, zae, zaq, zar, zas, decide_eq_false c2, lendL]
      repeat' (first
 | with_reducible refine zau ?_ ?_
 | (unfold OKC; kernel_rfl)
 | (unfold EDG; kernel_rfl)
 | (apply cg_tp
    case hl => rfl
    case ha => (simp only [zaf, zag, prepV, prepC, idx, hpL', lookR, zaa, if_true, if_false]; rfl)
    case hs => rfl
    case h => (first | exact x1 .. | exact x2 .. | exact x3 ..))
 | ((first | refine s1_id ?_ | refine swp_id ?_ | refine sops_id ?_ | refine s2_id ?_); simp only [decide_eq_false c2, lendL, zaH, zaL, zai, zaM, zaI, zaE, zaF, zaD, zaR, zaU, zax, zaA, go_sem, zaa, zal, zam, zan, zap, zah, ↓reduceIte, reduceCtorEq, zad, zae, zaq, zar, zas, zaO, zaW, zaB, zaX, renO, bk, back, outUpsFrom, Ints_ren])
 | (intros; omega)
 | (intros; (try simp only [zay, zaz, zaw, zat, zaj, zao, decide_eq_true_eq, decide_eq_false_iff_not] at *); omega))
      refine le_mk (m + 1) ?_ hlt (by show l.length - (m + 1) < l.length - m; omega)
      (refine imp_ren _ _ _ [(0, 0, ⟨[.gsl (Cs l) 0 l.length none, int n], 2⟩)] (by simp) (by simp) (by simp) (zav rfl) ?_ rfl (by simp only [zab, zac, false_implies, implies_true, and_true, zaV, lookR, zaa, if_true, if_false, ↓reduceIte] <;> (repeat' apply zau) <;> (first | rfl | trivial)) (by simp only [zab, zac, false_implies, implies_true, and_true, true_and, flat_cons, flat_nil, flat_ints, flat_bools, flat_app, zaC, and_self, eq_self_iff_true, zai]); simp only [zaf, zag, zab, zac, false_implies, implies_true, and_true, lk, slot, zaO, zaB, toN, zaa, if_true, if_false, ↓reduceIte, reduceCtorEq])
      all_goals ((repeat' apply zau) <;> (first | rfl | trivial | (simp only [zak]; done) | (simp only [zak]; rfl) | (simp only [zak]; trivial)))
  have c2 : (i : Int) < (S.length : Int) := by omega
  have hSi : (S.take (i + 1)).any (fun b => decide (b = k)) = ((S.take i).any (fun b => decide (b = k)) || decide (S.getD i 0 = k)) := by
    rw [take_getD S i 0 hilt, List.any_append, List.any_cons, List.any_nil, Bool.or_false]
  generalize e9 : (S.take i).any (fun b => decide (b = k)) = si at *
  clear e9
  cases si with
  | true =>
    rw [Bool.true_or] at hSi
    simp only [go_sem, zaa, zal, zam, zan, zap, zah, ↓reduceIte, reduceCtorEq, zad, zae, zaq, zar, zas, decide_eq_true c2, lendL]
    repeat' (first
 | with_reducible refine zau ?_ ?_
 | (intros; omega)
 | (intros; (try simp only [zay, zaz, zaw, zat, zaj, zao, decide_eq_true_eq, decide_eq_false_iff_not] at *); omega))
    refine le_mk (i + 1) ?_ hilt (by show S.length - (i + 1) < S.length - i; omega)
    simp only [hSi]
    (refine imp_ren _ _ _ [(0, 0, ⟨[.gsl (Cs l) 0 l.length none, int n], 2⟩)] (by simp) (by simp) (by simp) (zav rfl) ?_ rfl (by simp only [zab, zac, false_implies, implies_true, and_true, zaV, lookR, zaa, if_true, if_false, ↓reduceIte] <;> (repeat' apply zau) <;> (first | rfl | trivial)) (by simp only [zab, zac, false_implies, implies_true, and_true, true_and, flat_cons, flat_nil, flat_ints, flat_bools, flat_app, zaC, and_self, eq_self_iff_true, zai]); simp only [zaf, zag, zab, zac, false_implies, implies_true, and_true, lk, slot, zaO, zaB, toN, zaa, if_true, if_false, ↓reduceIte, reduceCtorEq])
    all_goals ((repeat' apply zau) <;> (first | rfl | trivial | (simp only [zak]; done) | (simp only [zak]; rfl) | (simp only [zak]; trivial)))
  | false =>
    rw [Bool.false_or] at hSi
    simp only [go_sem, zaa, zal, zam, zan, zap, zah, ↓reduceIte, reduceCtorEq, zad, zae, zaq, zar, zas, decide_eq_true c2, lendL]
    repeat' (first
 | with_reducible refine zau ?_ ?_
 | (intros; omega)
 | (intros; (try simp only [zay, zaz, zaw, zat, zaj, zao, decide_eq_true_eq, decide_eq_false_iff_not] at *); omega))
    refine le_mk (i + 1) ?_ hilt (by show S.length - (i + 1) < S.length - i; omega)
    simp only [hSi]
    (refine imp_ren _ _ _ [(0, 0, ⟨[.gsl (Cs l) 0 l.length none, int n], 2⟩)] (by simp) (by simp) (by simp) (zav rfl) ?_ rfl (by simp only [zab, zac, false_implies, implies_true, and_true, zaV, lookR, zaa, if_true, if_false, ↓reduceIte] <;> (repeat' apply zau) <;> (first | rfl | trivial)) (by simp only [zab, zac, false_implies, implies_true, and_true, true_and, flat_cons, flat_nil, flat_ints, flat_bools, flat_app, zaC, and_self, eq_self_iff_true, zai]); simp only [zaf, zag, zab, zac, false_implies, implies_true, and_true, lk, slot, zaO, zaB, toN, zaa, if_true, if_false, ↓reduceIte, reduceCtorEq])
    all_goals ((repeat' apply zau) <;> (first | rfl | trivial | (simp only [zak]; done) | (simp only [zak]; rfl) | (simp only [zak]; trivial)))
theorem apart11_main (g0 : List Cell) (s0 : GTy Try.prog 12 22 g0) : FnSpec Try.prog 4 [svOf Try.prog 22 g0] [] (b1 true) [] := by
  obtain ⟨l, rfl, hl, hr⟩ := gty_ints (n := 10) Try.underlying22 Try.underlying3 s0
  simp only [svOf, Try.underlying22, List.headD_cons]
  exact apart11_spec l hr
end Go.Proofs.Ytcnilpdlcmpbbab
