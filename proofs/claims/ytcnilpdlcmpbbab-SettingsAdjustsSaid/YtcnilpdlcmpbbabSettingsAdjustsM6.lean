/- Contracts of functions, told of values, on the way to SettingsAdjusts (part 6). -/
import Derived.Test.YtcnilpdlcmpbbabSettingsAdjustsM3
import Derived.Test.YtcnilpdlcmpbbabSettingsAdjustsM5
import Derived.Test.YtcnilpdlcmpbbabSettingsAdjustsM4
-- short names of the library's lemmas
open Nat renaming reduceEqDiff → zaa, reduceLeDiff → zah, reduceAdd → zaj, reduceSub → zak, reduceMul → zal, reduceLT → zam, le_of_ble_eq_true → zaI
open List renaming forall_mem_cons → zab, not_mem_nil → zac, reduceReplicate → zad, map_cons → zae, map_nil → zag, append_nil → zai, length_cons → zaq, length_nil → zar, take_succ_cons → zay, set_cons_zero → zaA, set_cons_succ → zaB, flatten_cons → zaD, getD_cons_zero → zaE, getD_cons_succ → zaF, nil_append → zaG, flatten_nil → zaJ, cons_append → zaK, take_zero → zaM, take_nil → zaN, mem_cons → zaT
open Int renaming cast_ofNat_Int → zaf, reduceEq → zan, reduceLT → zao, reduceLE → zap, natCast_add → zav
open Option renaming getD_some → zaO, getD_none → zaP
open Bool renaming and_eq_false_iff → zas, or_eq_false_iff → zat, and_eq_true → zaw, not_eq_false' → zax, not_eq_true' → zaz, or_eq_true → zaH
open And renaming intro → zau
open Go.Proofs.Ytcnilpdlcmpbbab.Sh.Cell renaming ren → zaC, refs → zaL
open Go.Proofs.Ytcnilpdlcmpbbab.Sh.SV renaming ren → zaQ, renL → zaR
open Go.Proofs.Ytcnilpdlcmpbbab.Sh.Row renaming ren → zaS
open Go.Proofs.Ytcnilpdlcmpbbab.Sh.St renaming hpF → zaU
-- NEWGO
-- PRUNE: cl_lendx cl_use cl_lend
-- ISG: Cs_isG
-- FLAT: Cs_flat
namespace Go.Proofs.Ytcnilpdlcmpbbab
set_option linter.unusedVariables false
set_option linter.unusedSimpArgs false
open Go.Proofs.Ytcnilpdlcmpbbab.Sh
set_option maxRecDepth 20000
theorem VT.ctr {l : List Nd} {n : Int} (h : VT l n) : CtR l := fun x hx => by
  have := (h.vl.all x hx).2
  unfold rngOk at this
  simp only [zaw, decide_eq_true_eq] at this
  omega
abbrev yT : List Nd := [⟨1, 0, [], 0, 0, 0⟩, ⟨2, 1, [97], 0, 0, 0⟩, ⟨3, 2, [98], 0, 0, 0⟩]
abbrev yS : Sg := ⟨5, 100, 4611686018427387904, 100000, 0, 0, 10000, [], [], 0, 0, 0, 4611686018427387904, 4611686018427387904, 4611686018427387904, false⟩
abbrev yL0 : List Cf := [⟨1, dfS⟩, ⟨2, dfS⟩, ⟨3, dfS⟩]
abbrev yL1 : List Cf := [⟨1, dfS⟩, ⟨2, yS⟩, ⟨3, dfS⟩]
theorem dfS_r : SgR dfS := ⟨by decide, by decide⟩
set_option maxHeartbeats 4000000 in
theorem sgsane_spec : FnSpec Try.prog 10 [] [] (b1 true) [] := by
  have hN : NmR yT := fun x hx => by simp only [zaT, zac, or_false] at hx; rcases hx with rfl | rfl | rfl <;> decide
  have hC : CtR yT := fun x hx => by simp only [zaT, zac, or_false] at hx; rcases hx with rfl | rfl | rfl <;> decide
  have hR0 : CfR yL0 := fun x hx => by simp only [zaT, zac, or_false] at hx; rcases hx with rfl | rfl | rfl <;> exact ⟨by decide, by decide⟩
  have hR1 : CfR yL1 := fun x hx => by simp only [zaT, zac, or_false] at hx; rcases hx with rfl | rfl | rfl <;> exact ⟨by decide, by decide⟩
  have a1 := radd_spec [⟨1, 0, [], 0, 0, 0⟩] none 2 1 [97] (by decide) (fun x hx => by rw [List.mem_singleton.1 hx]; decide) (by decide)
  have e1 : addM [⟨1, 0, [], 0, 0, 0⟩] 2 1 [97] = (([⟨1, 0, [], 0, 0, 0⟩, ⟨2, 1, [97], 0, 0, 0⟩], 3), 2, 0) := by kernel_rfl
  rw [e1] at a1
  have a2 := radd_spec [⟨1, 0, [], 0, 0, 0⟩, ⟨2, 1, [97], 0, 0, 0⟩] none 3 2 [98] (by decide) (fun x hx => by simp only [zaT, zac, or_false] at hx; rcases hx with rfl | rfl <;> decide) (by decide)
  have e2 : addM [⟨1, 0, [], 0, 0, 0⟩, ⟨2, 1, [97], 0, 0, 0⟩] 3 2 [98] = ((yT, 4), 3, 0) := by kernel_rfl
  rw [e2] at a2
  have b0 := snew_spec yT 4 (by decide) hN hC
  have f0 : (if chkT yT 4 = true then adF yT [] else []) = yL0 := by kernel_rfl
  rw [f0] at b0
  have b1' := sset_spec yT 4 yL0 none 2 yS (by decide) (by decide) hN hC hR0 ⟨by decide, by decide⟩
  have f1 : stM yT 4 yL0 2 yS = (yL1, 0) := by kernel_rfl
  rw [f1] at b1'
  have b2 := slow_spec yT 4 yL1 none 3 (by decide) (by decide) hN hC hR1
  have f2 : lwM yT 4 yL1 3 = ⟨5, 100, 4611686018427387904, 100000, 0, 0, 10000, [], [], 0, 0, 0, 4611686018427387904, 4611686018427387904, 4611686018427387904, false⟩ := by kernel_rfl
  rw [f2] at b2
  have b3 := scheck_spec dfS (by decide) (by decide)
  have f3 : ckS dfS = true := by kernel_rfl
  rw [f3] at b3
  have b4 := sdef_spec
  clear f0 f1 f2 f3 hN hC hR0 hR1 e1 e2
  simp only [adV] at a1 a2
  generalize yL1 = L1 at *
  generalize yL0 = L0 at *
  generalize yT = T2 at *
  obtain ⟨T1, hT1⟩ : ∃ T : List Nd, [⟨1, 0, [], 0, 0, 0⟩, ⟨2, 1, [97], 0, 0, 0⟩] = T := ⟨_, rfl⟩
  rw [hT1] at a1 a2
  clear hT1
  simp only [sgt, sgc] at b1' b2 b3 b4
  refine fnspec_of mixed TT_ok TT_cl ⟨fun _ => false, fun _ => [], 0, fun _ => false, fun _ => false⟩ Try.func10 rfl (by kernel_rfl) rfl 47 rfl [.tmp 0] rfl ?_
  simp only [go_sem, zaa, zaj, zak, zal, zam, zah, ↓reduceIte, reduceCtorEq, zad, zaf, zan, zao, zap]
  repeat' (first
 | with_reducible refine zau ?_ ?_
 | (unfold OKC; kernel_rfl)
 | (unfold EDG; kernel_rfl)
 | (apply cg_tp
    case hl => rfl
    case ha => (simp only [zae, zag, prepV, prepC, idx, hpL', lookR, zaa, if_true, if_false]; rfl)
    case hs => rfl
    case h => (first | exact trnew_spec .. | exact a1 .. | exact a2 .. | exact b0 .. | exact b1' .. | exact b2 .. | exact b3 .. | exact b4 ..))
 | (apply cl_plain
    case hs => rfl
    case ha => (simp only [zae, zag, prepV, prepC, idx, hpL', lookR, zaa, if_true, if_false]; rfl)
    case h => (first | exact trnew_spec .. | exact a1 .. | exact a2 .. | exact b0 .. | exact b1' .. | exact b2 .. | exact b3 .. | exact b4 ..))
 | ((first | refine s1_id ?_ | refine swp_id ?_ | refine sops_id ?_ | refine s2_id ?_); simp only [zaD, zaJ, zai, zaK, zaG, zaA, zaB, zay, zaM, zaN, zaq, zar, go_sem, zaa, zaj, zak, zal, zam, zah, ↓reduceIte, reduceCtorEq, zad, zaf, zan, zao, zap, zaQ, zaR, zaC, zaS, renO, bk, back, outUpsFrom, Ints_ren])
 | exact fs_nil trivial rfl
 | fail)
end Go.Proofs.Ytcnilpdlcmpbbab
-- NEWGO
-- PRUNE: cl_lendx cl_use
-- ISG: Cs_isG
-- FLAT: Cs_flat
namespace Go.Proofs.Ytcnilpdlcmpbbab
set_option linter.unusedVariables false
set_option linter.unusedSimpArgs false
open Go.Proofs.Ytcnilpdlcmpbbab.Sh
set_option maxRecDepth 20000
def wtV (l : List Int) (i : Nat) : Int := [1, 100, 300, 10000, 50, 200, 7, 1 + nxV l i 1000].getD (nxV l (nxA l i 1000) 8).toNat 0
def wtA (l : List Int) (i : Nat) : Nat := nxA l (nxA l i 1000) 8
theorem nxV_rng (l : List Int) (i : Nat) (n : Int) (h : 0 < n) : 0 ≤ nxV l i n ∧ nxV l i n < n := by
  unfold nxV
  split
  · omega
  · exact ⟨Int.emod_nonneg _ (by omega), Int.emod_lt_of_pos _ h⟩
theorem wtV_rng (l : List Int) (i : Nat) : 1 ≤ wtV l i ∧ wtV l i ≤ 10000 := by
  have h1 := nxV_rng l i 1000 (by omega)
  have h2 := nxV_rng l (nxA l i 1000) 8 (by omega)
  unfold wtV
  generalize nxV l (nxA l i 1000) 8 = a at *
  generalize nxV l i 1000 = b at *
  obtain ⟨k, rfl⟩ : ∃ k : Nat, a = k := ⟨a.toNat, by omega⟩
  rw [Int.toNat_natCast]
  rcases k with _ | _ | _ | _ | _ | _ | _ | _ | k <;> simp only [zaE, zaF] <;> omega
theorem weight_spec (l : List Int) (i : Nat) (hl : l.length ≤ 600) (hr : ∀ x ∈ l, -9223372036854775808 ≤ x ∧ x ≤ 9223372036854775807) : FnSpec Try.prog 60 [dp] [dice l i] (i1 (wtV l i)) [some (dice l (wtA l i))] := by
  have h1 := nxV_rng l i 1000 (by omega)
  have h2 := nxV_rng l (nxA l i 1000) 8 (by omega)
  refine fnspec_of mixed TT_ok TT_cl ⟨fun _ => false, fun f => if f = 15 then [0] else [], 1, fun _ => false, fun _ => false⟩ Try.func60 rfl (by kernel_rfl) rfl 11 rfl [.tmp 2] rfl ?_
  simp only [go_sem, zaa, zaj, zak, zal, zam, zah, ↓reduceIte, reduceCtorEq, zad, zaf, zan, zao, zap]
  repeat' (first
 | with_reducible refine zau ?_ ?_
 | (apply cl_lend
    case hr => (simp only [zae, zag, hpL', lookR, zaa, if_true, if_false]; first | exact map1 _ | exact map2 _ _ | exact map3 _ _ _)
    case ha => (simp only [zae, zag, prepV, prepC, idx, hpL', lookR, zaa, if_true, if_false]; rfl)
    case hs => rfl
    case hn => decide
    case h => (first | exact next_spec _ _ _ hl hr (by omega))
    case hf => (simp only [zab, zac, false_implies, implies_true, and_true, true_and, flat_cons, flat_nil, flat_ints, flat_bools, flat_app, Cs_flat, zaL, and_self, eq_self_iff_true, zai])
    case hl => (simp only [zaq, zar]; decide))
 | ((first | refine s1_id ?_ | refine swp_id ?_ | refine sops_id ?_ | refine s2_id ?_); simp only [go_sem, zaa, zaj, zak, zal, zam, zah, ↓reduceIte, reduceCtorEq, zad, zaf, zan, zao, zap, zaQ, zaR, zaC, zaS, renO, bk, back, outUpsFrom, Ints_ren])
 | (intros; omega)
 | (intros; (try simp only [zaw, zaH, zaz, zax, zas, zat, decide_eq_true_eq, decide_eq_false_iff_not] at *); omega))
  (refine fs_flat [(0, dice l (wtA l i))] (by simp) (by simp only [zae, zag]; decide) (by simp only [go_sem, resV, resS, zaQ, zaR, zaC, St.tmF, zaU, idx, renO, zaS, evS, slot, lookR, zaa, ↓reduceIte, reduceCtorEq, if_true, if_false, zaO, zaP, zae, zag, sLoad, readAt, readNeed, Ints_ren, Ints_length, Ints_getD, and_true, true_and, zaE, zaF]; try decide) ?_ (by simp only [zab, zac, false_implies, implies_true, and_true, zaU, lookR, zaa, if_true, if_false, ↓reduceIte, dice] <;> (repeat' apply zau) <;> (first | rfl | trivial)) (by simp only [zab, zac, false_implies, implies_true, and_true, true_and, flat_cons, flat_nil, flat_ints, flat_bools, flat_app, zaL, and_self, eq_self_iff_true, zai, dice]) ?_ <;> (try simp only [go_sem, resV, resS, zaQ, zaR, zaC, St.tmF, zaU, idx, renO, zaS, evS, slot, lookR, zaa, ↓reduceIte, reduceCtorEq, if_true, if_false, zaO, zaP, zae, zag, sLoad, readAt, readNeed, Ints_ren, Ints_length, Ints_getD, and_true, true_and, zaE, zaF]) <;> (try rfl))
end Go.Proofs.Ytcnilpdlcmpbbab
-- NEWGO
-- PRUNE: cl_lendx cl_use
-- ISG: Cs_isG
-- FLAT: Cs_flat
namespace Go.Proofs.Ytcnilpdlcmpbbab
set_option linter.unusedVariables false
set_option linter.unusedSimpArgs false
open Go.Proofs.Ytcnilpdlcmpbbab.Sh
set_option maxRecDepth 20000
def pmS (D : List Int) (j : Nat) : Int × Nat := if nxV D j 2 = 1 then (nxV D (nxA D j 2) 6, nxA D (nxA D j 2) 6) else (4611686018427387904, nxA D j 2)
def quS (D : List Int) (j : Nat) : (Int × Int) × Nat := if nxV D j 2 = 1 then ((1 + nxV D (nxA D j 2) 9, nxV D (nxA D (nxA D j 2) 9) (1 + nxV D (nxA D j 2) 9 + 1)), nxA D (nxA D (nxA D j 2) 9) (1 + nxV D (nxA D j 2) 9 + 1)) else ((4611686018427387904, 0), nxA D j 2)
def lsS (D : List Int) (j n : Nat) : List Int × Nat := if nxV D j 2 = 1 then dSet D (nxA D j 2) n else ([], nxA D j 2)
def ptS (D : List Int) (j : Nat) : Int × Nat := (if nxV D j 3 = 2 then 1 else 0, nxA D j 3)
def mk1 (D : List Int) (j : Nat) : (Int × Int) × Nat := quS D (wtA D (pmS D j).2)
def mk2 (D : List Int) (j : Nat) : Nat := nxA D (nxA D (nxA D (mk1 D j).2 9) 10001) 10001
def mk3 (D : List Int) (j : Nat) : List Int × Nat := lsS D (mk2 D j) 6
def mk4 (D : List Int) (j : Nat) : List Int × Nat := lsS D (mk3 D j).2 4
def mkS (D : List Int) (j : Nat) : Sg × Nat := (⟨(pmS D j).1, wtV D (pmS D j).2, (mk1 D j).1.1, 1 + nxV D (mk1 D j).2 9, (mk1 D j).1.2, nxV D (nxA D (mk1 D j).2 9) 10001, nxV D (nxA D (nxA D (mk1 D j).2 9) 10001) 10001, (mk3 D j).1, (mk4 D j).1, (ptS D (mk4 D j).2).1, 0, 0, 4611686018427387904, 4611686018427387904, 4611686018427387904, false⟩, (ptS D (mk4 D j).2).2)
def lendS : FuncId → List Nat := fun f => if f = 15 then [0] else if f = 32 then [0] else if f = 60 then [0] else if f = 61 then [0] else []
section
variable (D : List Int) (hl : D.length ≤ 600) (hr : ∀ x ∈ D, -9223372036854775808 ≤ x ∧ x ≤ 9223372036854775807) (j : Nat)
include hl hr
theorem pm_cs : ∃ B v j1 j2, pmS D j = (v, j2) ∧ FnSpec Try.prog 32 [dp, i1 2] [dice D j] (b1 B) [some (dice D j1)] ∧ ((B = true ∧ FnSpec Try.prog 15 [dp, i1 6] [dice D j1] (i1 v) [some (dice D j2)]) ∨ (B = false ∧ v = 4611686018427387904 ∧ j2 = j1)) := by
  have n1 := bool_spec D j 2 hl hr (by decide)
  unfold pmS
  by_cases hv : nxV D j 2 = 1
  · rw [decide_eq_true (by omega : nxV D j 2 = 2 - 1)] at n1
    rw [if_pos hv]
    exact ⟨_, _, _, _, rfl, n1, .inl ⟨rfl, next_spec D _ 6 hl hr (by decide)⟩⟩
  · rw [decide_eq_false (by omega : ¬ nxV D j 2 = 2 - 1)] at n1
    rw [if_neg hv]
    exact ⟨_, _, _, _, rfl, n1, .inr ⟨rfl, rfl, rfl⟩⟩
theorem qu_cs : ∃ B q b j1 j4, quS D j = ((q, b), j4) ∧ FnSpec Try.prog 32 [dp, i1 2] [dice D j] (b1 B) [some (dice D j1)] ∧ ((B = true ∧ ∃ v j2, (0 ≤ v ∧ v < 9) ∧ q = 1 + v ∧ FnSpec Try.prog 15 [dp, i1 9] [dice D j1] (i1 v) [some (dice D j2)] ∧ FnSpec Try.prog 15 [dp, i1 (1 + v + 1)] [dice D j2] (i1 b) [some (dice D j4)]) ∨ (B = false ∧ q = 4611686018427387904 ∧ b = 0 ∧ j4 = j1)) := by
  have n1 := bool_spec D j 2 hl hr (by decide)
  unfold quS
  by_cases hv : nxV D j 2 = 1
  · rw [decide_eq_true (by omega : nxV D j 2 = 2 - 1)] at n1
    rw [if_pos hv]
    have r := nxV_rng D (nxA D j 2) 9 (by decide)
    exact ⟨_, _, _, _, _, rfl, n1, .inl ⟨rfl, _, _, r, rfl, next_spec D _ 9 hl hr (by decide), next_spec D _ _ hl hr (by omega)⟩⟩
  · rw [decide_eq_false (by omega : ¬ nxV D j 2 = 2 - 1)] at n1
    rw [if_neg hv]
    exact ⟨_, _, _, _, _, rfl, n1, .inr ⟨rfl, rfl, rfl, rfl⟩⟩
theorem ls_cs (n : Nat) (hn : n ≤ 1000) : ∃ B A j1 j2, lsS D j n = (A, j2) ∧ FnSpec Try.prog 32 [dp, i1 2] [dice D j] (b1 B) [some (dice D j1)] ∧ ((B = true ∧ FnSpec Try.prog 61 [dp, i1 n] [dice D j1] (gi A none) [some (dice D j2)]) ∨ (B = false ∧ A = [] ∧ j2 = j1)) := by
  have n1 := bool_spec D j 2 hl hr (by decide)
  unfold lsS
  by_cases hv : nxV D j 2 = 1
  · rw [decide_eq_true (by omega : nxV D j 2 = 2 - 1)] at n1
    rw [if_pos hv]
    exact ⟨_, _, _, _, rfl, n1, .inl ⟨rfl, dset_spec D _ n hn hl hr⟩⟩
  · rw [decide_eq_false (by omega : ¬ nxV D j 2 = 2 - 1)] at n1
    rw [if_neg hv]
    exact ⟨_, _, _, _, rfl, n1, .inr ⟨rfl, rfl, rfl⟩⟩
theorem pt_cs : ∃ B p j1, ptS D j = (p, j1) ∧ FnSpec Try.prog 32 [dp, i1 3] [dice D j] (b1 B) [some (dice D j1)] ∧ ((B = true ∧ p = 1) ∨ (B = false ∧ p = 0)) := by
  have n1 := bool_spec D j 3 hl hr (by decide)
  unfold ptS
  by_cases hv : nxV D j 3 = 2
  · rw [decide_eq_true (by omega : nxV D j 3 = 3 - 1)] at n1
    rw [if_pos hv]
    exact ⟨_, _, _, rfl, n1, .inl ⟨rfl, rfl⟩⟩
  · rw [decide_eq_false (by omega : ¬ nxV D j 3 = 3 - 1)] at n1
    rw [if_neg hv]
    exact ⟨_, _, _, rfl, n1, .inr ⟨rfl, rfl⟩⟩
end
set_option maxHeartbeats 64000000 in
theorem dsettings_spec (D : List Int) (hl : D.length ≤ 600) (hr : ∀ x ∈ D, -9223372036854775808 ≤ x ∧ x ≤ 9223372036854775807) (j : Nat) : FnSpec Try.prog 24 [dp] [dice D j] (sgt (mkS D j).1) [some (dice D (mkS D j).2)] := by
  have n0 := srdef_spec
  simp only [sgt, sgc] at n0
  simp only [mkS, mk4, mk3, mk2, mk1]
  obtain ⟨B1, v1, j1, j2, e1, n1, d1⟩ := pm_cs D hl hr j
  rw [e1]
  simp only
  have n2 := weight_spec D j2 hl hr
  generalize wtV D j2 = w at *
  generalize wtA D j2 = j3 at *
  obtain ⟨B2, q, b, j4, j7, e2, n3, d2⟩ := qu_cs D hl hr j3
  rw [e2]
  simp only
  have n4 := next_spec D j7 9 hl hr (by decide)
  have r4 := nxV_rng D j7 9 (by decide)
  generalize nxV D j7 9 = v4 at *
  generalize nxA D j7 9 = j8 at *
  have n5 := next_spec D j8 10001 hl hr (by decide)
  generalize nxV D j8 10001 = v5 at *
  generalize nxA D j8 10001 = j9 at *
  have n6 := next_spec D j9 10001 hl hr (by decide)
  generalize nxV D j9 10001 = v6 at *
  generalize nxA D j9 10001 = ja at *
  obtain ⟨B3, A1, jb, jc, e3, n7, d3⟩ := ls_cs D hl hr ja 6 (by decide)
  rw [e3]
  simp only
  obtain ⟨B4, A2, jd, je, e4, n8, d4⟩ := ls_cs D hl hr jc 4 (by decide)
  rw [e4]
  simp only
  obtain ⟨B5, p, jf, e5, n9, d5⟩ := pt_cs D hl hr je
  rw [e5]
  simp only [sgt, sgc]
  clear e1 e2 e3 e4 e5 hl hr
  rcases d1 with ⟨rfl, m1⟩ | ⟨rfl, rfl, rfl⟩
  all_goals rcases d2 with ⟨rfl, v2, j5, r2, rfl, m2, m3⟩ | ⟨rfl, rfl, rfl, rfl⟩
  all_goals rcases d3 with ⟨rfl, m4⟩ | ⟨rfl, rfl, rfl⟩
  all_goals rcases d4 with ⟨rfl, m5⟩ | ⟨rfl, rfl, rfl⟩
  all_goals rcases d5 with ⟨rfl, rfl⟩ | ⟨rfl, rfl⟩
  all_goals (
    refine fnspec_of mixed TT_ok TT_cl ⟨fun _ => false, lendS, 1, fun _ => false, fun _ => false⟩ Try.func24 rfl (by kernel_rfl) rfl 49 rfl [.cell 2 47] rfl ?_
    simp only [go_sem, zaa, zaj, zak, zal, zam, zah, ↓reduceIte, reduceCtorEq, zad, zaf, zan, zao, zap, lendS]
    repeat' (first
 | with_reducible refine zau ?_ ?_
 | (apply cl_plain
    case hs => rfl
    case ha => (simp only [zae, zag, prepV, prepC, idx, hpL', lookR, zaa, if_true, if_false]; rfl)
    case h => (first | assumption))
 | (apply cl_lend
    case hr => (simp only [zae, zag, hpL', lookR, zaa, if_true, if_false]; first | exact map1 _ | exact map2 _ _ | exact map3 _ _ _)
    case ha => (simp only [zae, zag, prepV, prepC, idx, hpL', lookR, zaa, if_true, if_false]; rfl)
    case hs => rfl
    case hn => decide
    case h => (first | assumption)
    case hf => (simp only [zab, zac, false_implies, implies_true, and_true, true_and, flat_cons, flat_nil, flat_ints, flat_bools, flat_app, Cs_flat, zaL, and_self, eq_self_iff_true, zai])
    case hl => (simp only [zaq, zar]; decide))
 | ((first | refine s1_id ?_ | refine swp_id ?_ | refine sops_id ?_ | refine s2_id ?_); simp only [lendS, dice, zaD, zaJ, zai, zaK, zaG, zaA, zaB, zay, zaM, zaN, zaq, zar, go_sem, zaa, zaj, zak, zal, zam, zah, ↓reduceIte, reduceCtorEq, zad, zaf, zan, zao, zap, zaQ, zaR, zaC, zaS, renO, bk, back, outUpsFrom, Ints_ren])
 | (intros; omega)
 | (intros; (try simp only [zaw, zaH, zaz, zax, zas, zat, decide_eq_true_eq, decide_eq_false_iff_not] at *); omega))
    (refine fs_flat [(0, dice D jf)] (by simp) (by simp only [zae, zag]; decide) (by simp only [go_sem, resV, resS, zaQ, zaR, zaC, St.tmF, zaU, idx, renO, zaS, evS, slot, lookR, zaa, ↓reduceIte, reduceCtorEq, if_true, if_false, zaO, zaP, zae, zag, sLoad, readAt, readNeed, Ints_ren, Ints_length, Ints_getD, and_true, true_and, zaE, zaF]; try decide) ?_ (by simp only [zab, zac, false_implies, implies_true, and_true, zaU, lookR, zaa, if_true, if_false, ↓reduceIte, dice] <;> (repeat' apply zau) <;> (first | rfl | trivial)) (by simp only [zab, zac, false_implies, implies_true, and_true, true_and, flat_cons, flat_nil, flat_ints, flat_bools, flat_app, zaL, and_self, eq_self_iff_true, zai, dice]) ?_ <;> (try simp only [go_sem, resV, resS, zaQ, zaR, zaC, St.tmF, zaU, idx, renO, zaS, evS, slot, lookR, zaa, ↓reduceIte, reduceCtorEq, if_true, if_false, zaO, zaP, zae, zag, sLoad, readAt, readNeed, Ints_ren, Ints_length, Ints_getD, and_true, true_and, zaE, zaF]) <;> (try rfl)))
end Go.Proofs.Ytcnilpdlcmpbbab
-- NEWGO
-- PRUNE: cl_lendx cl_use
-- ISG: Cs_isG
-- FLAT: Cs_flat
namespace Go.Proofs.Ytcnilpdlcmpbbab
set_option linter.unusedVariables false
set_option linter.unusedSimpArgs false
open Go.Proofs.Ytcnilpdlcmpbbab.Sh
set_option maxRecDepth 20000
def cfS (D : List Int) (j : Nat) : Sg × Nat := if nxV D j 2 = 1 then mkS D (nxA D j 2) else (dfS, nxA D j 2)
def cfA (D : List Int) : List Nd → Nat → List Cf → List Cf × Nat
  | [], j, acc => (acc, j)
  | x :: r, j, acc => cfA D r (cfS D j).2 (acc ++ [⟨x.i, (cfS D j).1⟩])
def mkC (D : List Int) (l : List Nd) (j : Nat) : List Cf × Nat := cfA D l j []
theorem cf_cs (D : List Int) (hl : D.length ≤ 600) (hr : ∀ x ∈ D, -9223372036854775808 ≤ x ∧ x ≤ 9223372036854775807) (j : Nat) : ∃ B s j1 j2, cfS D j = (s, j2) ∧ FnSpec Try.prog 32 [dp, i1 2] [dice D j] (b1 B) [some (dice D j1)] ∧ ((B = true ∧ FnSpec Try.prog 24 [dp] [dice D j1] (sgt s) [some (dice D j2)]) ∨ (B = false ∧ s = dfS ∧ j2 = j1)) := by
  have n1 := bool_spec D j 2 hl hr (by decide)
  unfold cfS
  by_cases hv : nxV D j 2 = 1
  · rw [decide_eq_true (by omega : nxV D j 2 = 2 - 1)] at n1
    rw [if_pos hv]
    exact ⟨_, _, _, _, rfl, n1, .inl ⟨rfl, dsettings_spec D hl hr _⟩⟩
  · rw [decide_eq_false (by omega : ¬ nxV D j 2 = 2 - 1)] at n1
    rw [if_neg hv]
    exact ⟨_, _, _, _, rfl, n1, .inr ⟨rfl, rfl, rfl⟩⟩
def lendC : FuncId → List Nat := fun f => if f = 32 then [0] else if f = 24 then [0] else []
set_option maxHeartbeats 16000000 in
theorem dconfigs_spec (D : List Int) (hl : D.length ≤ 600) (hr : ∀ x ∈ D, -9223372036854775808 ≤ x ∧ x ≤ 9223372036854775807) (l : List Nd) (n : Int) (hL : l.length ≤ 1000000) (j : Nat) : FnSpec Try.prog 13 [dp, trV l none n] [dice D j] (gr (mkC D l j).1 none) [some (dice D (mkC D l j).2)] := by
  have n0 := srdef_spec
  simp only [sgt, sgc] at n0
  have hnl := nd_len l
  obtain ⟨T, hT⟩ : ∃ T, mkC D l j = T := ⟨_, rfl⟩
  rw [hT]
  obtain ⟨R, J⟩ := T
  unfold mkC at hT
  simp only
  refine fnspec_of mixed TT_ok TT_cl ⟨fun _ => false, lendC, 1, fun _ => false, fun _ => false⟩ Try.func13 rfl (by kernel_rfl) rfl 32 rfl [.tmp 4] rfl ?_
  simp only [go_sem, zaa, zaj, zak, zal, zam, zah, ↓reduceIte, reduceCtorEq, zad, zaf, zan, zao, zap, lendC]
  repeat' (first
 | (intros; (try simp only [zaw, zaH, zaz, zax, zas, zat, decide_eq_true_eq, decide_eq_false_iff_not] at *); omega))
  refine w_loop (ι := Nat × List Cf × Nat) (fun s => ⟨[(0, dp), (3, .one (.optr 1 0)), (5, .one (.osl 2 0 s.1 none)), (6, i1 s.1)], [(0, some (dice D s.2.2)), (1, some ⟨[.gsl (Cs l) 0 l.length none, int n], 2⟩), (2, some ⟨Cs s.2.1, 18⟩)], 3⟩) (fun s => s.1 ≤ l.length ∧ s.2.1.length = s.1 ∧ cfA D (l.drop s.1) s.2.2 s.2.1 = (R, J)) (fun s => l.length - s.1) (0, [], j) ?_ ⟨Nat.zero_le _, rfl, hT⟩ ?_
  · (refine Imp.trans (imp_nilA _ _ 5 18 99 (by simp only []; omega) rfl) ?_)
    (refine imp_ren _ _ _ [(0, 0, dice D j), (1, 1, ⟨[.gsl (Cs l) 0 l.length none, int n], 2⟩), (2, 99, ⟨[], 18⟩)] (by simp) (by simp) (by simp) (zaI rfl) ?_ rfl (by simp only [zab, zac, false_implies, implies_true, and_true, zaU, lookR, zaa, if_true, if_false, ↓reduceIte, dice] <;> (repeat' apply zau) <;> (first | rfl | trivial)) (by simp only [zab, zac, false_implies, implies_true, and_true, true_and, flat_cons, flat_nil, flat_ints, flat_bools, flat_app, zaL, and_self, eq_self_iff_true, zai, dice]); simp only [zae, zag, zab, zac, false_implies, implies_true, and_true, lk, slot, zaQ, zaC, toN, zaa, if_true, if_false, ↓reduceIte, reduceCtorEq])
    all_goals ((repeat' apply zau) <;> (first | rfl | trivial))
  clear hT
  rintro ⟨m, acc, j0⟩ ⟨hm, ha, hI⟩
  simp only at hm ha hI ⊢
  rcases Nat.lt_or_ge m l.length with hlt | hge
  case inr =>
    have c : ¬ (m : Int) < (l.length : Int) := by omega
    obtain rfl : m = l.length := by omega
    rw [List.drop_length, cfA] at hI
    obtain ⟨rfl, rfl⟩ := Prod.mk.inj hI
    simp only [go_sem, zaa, zaj, zak, zal, zam, zah, ↓reduceIte, reduceCtorEq, zad, zaf, zan, zao, zap, decide_eq_false c, lendC]
    repeat' (first
 | (intros; (try simp only [zaw, zaH, zaz, zax, zas, zat, decide_eq_true_eq, decide_eq_false_iff_not] at *); omega))
    rw [show gr acc none = SV.one (.gsl (Cs acc) 0 l.length none) from by rw [← ha]]
    (refine fs_frz 2 ⟨Cs acc, 18⟩ (by simp only [zaU, lookR, zaa, if_true, if_false, ↓reduceIte]) (by first | exact Ints_isG _ | exact Bools_isG _ | exact Cs_isG _ | (simp [Cell.isG]; done)) ?_; simp only [frzTm, SV.frz, SV.frzL, Cell.frz, frzHp, frzO, Ints_frz, Bools_frz, zae, zag, zaa, if_true, if_false, ↓reduceIte])
    (refine fs_flat [(0, dice D j0)] (by simp) (by simp only [zae, zag]; decide) (by simp only [go_sem, resV, resS, zaQ, zaR, zaC, St.tmF, zaU, idx, renO, zaS, evS, slot, lookR, zaa, ↓reduceIte, reduceCtorEq, if_true, if_false, zaO, zaP, zae, zag, sLoad, readAt, readNeed, Ints_ren, Ints_length, Ints_getD, and_true, true_and, zaE, zaF]; try decide) ?_ (by simp only [zab, zac, false_implies, implies_true, and_true, zaU, lookR, zaa, if_true, if_false, ↓reduceIte, dice] <;> (repeat' apply zau) <;> (first | rfl | trivial)) (by simp only [zab, zac, false_implies, implies_true, and_true, true_and, flat_cons, flat_nil, flat_ints, flat_bools, flat_app, zaL, and_self, eq_self_iff_true, zai, dice]) ?_ <;> (try simp only [go_sem, resV, resS, zaQ, zaR, zaC, St.tmF, zaU, idx, renO, zaS, evS, slot, lookR, zaa, ↓reduceIte, reduceCtorEq, if_true, if_false, zaO, zaP, zae, zag, sLoad, readAt, readNeed, Ints_ren, Ints_length, Ints_getD, and_true, true_and, zaE, zaF]) <;> (try rfl))
  have c : (m : Int) < (l.length : Int) := by omega
  obtain ⟨q1, _⟩ := nd_f l m hlt (.sc (.int .i64 0))
  rw [drop_getD l m zn hlt, cfA] at hI
  change cfA D (l.drop (m + 1)) (cfS D j0).2 (acc ++ [⟨(gN l m).i, (cfS D j0).1⟩]) = (R, J) at hI
  obtain ⟨B, s, j1, j2, e1, n1, d1⟩ := cf_cs D hl hr j0
  rw [e1] at hI
  simp only at hI
  have hla : (acc ++ [(⟨(gN l m).i, s⟩ : Cf)]).length = m + 1 := by rw [List.length_append, ha]; rfl
  have hS : Cs acc ++ (int (gN l m).i :: sgc s) = Cs (acc ++ [(⟨(gN l m).i, s⟩ : Cf)]) := Cs_snoc acc (⟨(gN l m).i, s⟩ : Cf)
  have htk : List.take (m * 18) (Cs acc) = Cs acc := Cs_all _ _ (by rw [ha]; exact Nat.le_refl _)
  have hpt := cf_len acc
  rw [ha] at hpt
  generalize acc ++ [(⟨(gN l m).i, s⟩ : Cf)] = W at *
  generalize (gN l m).i = id' at *
  clear e1 hl hr
  rcases d1 with ⟨rfl, m1⟩ | ⟨rfl, rfl, rfl⟩
  · obtain ⟨pm, w, q, pe, b, c0, c1, cp, mm, pt, m0, m1', m2, m3, m4, mt⟩ := s
    simp only [sgc, sgt] at m1 hS
    simp only [go_sem, zaa, zaj, zak, zal, zam, zah, ↓reduceIte, reduceCtorEq, zad, zaf, zan, zao, zap, decide_eq_true c, q1, hS, lendC]
    repeat' (first
 | with_reducible refine zau ?_ ?_
 | (unfold OKC; kernel_rfl)
 | (unfold EDG; kernel_rfl)
 | (apply cl_plain
    case hs => rfl
    case ha => (simp only [zae, zag, prepV, prepC, idx, hpL', lookR, zaa, if_true, if_false]; rfl)
    case h => (first | exact n0 .. | exact n1 .. | exact m1 ..))
 | (apply cl_lend
    case hr => (simp only [zae, zag, hpL', lookR, zaa, if_true, if_false]; first | exact map1 _ | exact map2 _ _ | exact map3 _ _ _)
    case ha => (simp only [zae, zag, prepV, prepC, idx, hpL', lookR, zaa, if_true, if_false]; rfl)
    case hs => rfl
    case hn => decide
    case h => (first | exact n0 .. | exact n1 .. | exact m1 ..)
    case hf => (simp only [zab, zac, false_implies, implies_true, and_true, true_and, flat_cons, flat_nil, flat_ints, flat_bools, flat_app, Cs_flat, zaL, and_self, eq_self_iff_true, zai])
    case hl => (simp only [zaq, zar]; decide))
 | ((first | refine s1_id ?_ | refine swp_id ?_ | refine sops_id ?_ | refine s2_id ?_); simp only [decide_eq_true c, q1, hS, htk, lendC, dice, zaD, zaJ, zai, zaK, zaG, zaA, zaB, zay, zaM, zaN, zaq, zar, go_sem, zaa, zaj, zak, zal, zam, zah, ↓reduceIte, reduceCtorEq, zad, zaf, zan, zao, zap, zaQ, zaR, zaC, zaS, renO, bk, back, outUpsFrom, Ints_ren])
 | (intros; omega)
 | (intros; (try simp only [zaw, zaH, zaz, zax, zas, zat, decide_eq_true_eq, decide_eq_false_iff_not] at *); omega))
    refine le_mk (m + 1, W, j2) ?_ ⟨hlt, hla, hI⟩ (by show l.length - (m + 1) < l.length - m; omega)
    (refine imp_ren _ _ _ [(0, 0, dice D j2), (1, 1, ⟨[.gsl (Cs l) 0 l.length none, int n], 2⟩), (2, 26, ⟨Cs W, 18⟩)] (by simp) (by simp) (by simp) (zaI rfl) ?_ rfl (by simp only [zab, zac, false_implies, implies_true, and_true, zaU, lookR, zaa, if_true, if_false, ↓reduceIte, dice, Cs_flat] <;> (repeat' apply zau) <;> (first | rfl | trivial)) (by simp only [zab, zac, false_implies, implies_true, and_true, true_and, flat_cons, flat_nil, flat_ints, flat_bools, flat_app, zaL, and_self, eq_self_iff_true, zai, dice, Cs_flat]); simp only [zae, zag, zab, zac, false_implies, implies_true, and_true, lk, slot, zaQ, zaC, toN, zaa, if_true, if_false, ↓reduceIte, reduceCtorEq])
    all_goals ((repeat' apply zau) <;> (first | rfl | trivial | (simp only [zav]; done) | (simp only [zav]; rfl) | (simp only [zav]; trivial)))
  · simp only [sgc, zar] at hS n0
    simp only [go_sem, zaa, zaj, zak, zal, zam, zah, ↓reduceIte, reduceCtorEq, zad, zaf, zan, zao, zap, decide_eq_true c, q1, hS, lendC]
    repeat' (first
 | with_reducible refine zau ?_ ?_
 | (unfold OKC; kernel_rfl)
 | (unfold EDG; kernel_rfl)
 | (apply cl_plain
    case hs => rfl
    case ha => (simp only [zae, zag, prepV, prepC, idx, hpL', lookR, zaa, if_true, if_false]; rfl)
    case h => (first | exact n0 .. | exact n1 ..))
 | (apply cl_lend
    case hr => (simp only [zae, zag, hpL', lookR, zaa, if_true, if_false]; first | exact map1 _ | exact map2 _ _ | exact map3 _ _ _)
    case ha => (simp only [zae, zag, prepV, prepC, idx, hpL', lookR, zaa, if_true, if_false]; rfl)
    case hs => rfl
    case hn => decide
    case h => (first | exact n0 .. | exact n1 ..)
    case hf => (simp only [zab, zac, false_implies, implies_true, and_true, true_and, flat_cons, flat_nil, flat_ints, flat_bools, flat_app, Cs_flat, zaL, and_self, eq_self_iff_true, zai])
    case hl => (simp only [zaq, zar]; decide))
 | ((first | refine s1_id ?_ | refine swp_id ?_ | refine sops_id ?_ | refine s2_id ?_); simp only [decide_eq_true c, q1, hS, htk, lendC, dice, zaD, zaJ, zai, zaK, zaG, zaA, zaB, zay, zaM, zaN, zaq, zar, go_sem, zaa, zaj, zak, zal, zam, zah, ↓reduceIte, reduceCtorEq, zad, zaf, zan, zao, zap, zaQ, zaR, zaC, zaS, renO, bk, back, outUpsFrom, Ints_ren])
 | (intros; omega)
 | (intros; (try simp only [zaw, zaH, zaz, zax, zas, zat, decide_eq_true_eq, decide_eq_false_iff_not] at *); omega))
    refine le_mk (m + 1, W, j2) ?_ ⟨hlt, hla, hI⟩ (by show l.length - (m + 1) < l.length - m; omega)
    (refine imp_ren _ _ _ [(0, 0, dice D j2), (1, 1, ⟨[.gsl (Cs l) 0 l.length none, int n], 2⟩), (2, 23, ⟨Cs W, 18⟩)] (by simp) (by simp) (by simp) (zaI rfl) ?_ rfl (by simp only [zab, zac, false_implies, implies_true, and_true, zaU, lookR, zaa, if_true, if_false, ↓reduceIte, dice, Cs_flat] <;> (repeat' apply zau) <;> (first | rfl | trivial)) (by simp only [zab, zac, false_implies, implies_true, and_true, true_and, flat_cons, flat_nil, flat_ints, flat_bools, flat_app, zaL, and_self, eq_self_iff_true, zai, dice, Cs_flat]); simp only [zae, zag, zab, zac, false_implies, implies_true, and_true, lk, slot, zaQ, zaC, toN, zaa, if_true, if_false, ↓reduceIte, reduceCtorEq])
    all_goals ((repeat' apply zau) <;> (first | rfl | trivial | (simp only [zav]; done) | (simp only [zav]; rfl) | (simp only [zav]; trivial)))
end Go.Proofs.Ytcnilpdlcmpbbab
-- NEWGO
-- PRUNE: cl_lendx cl_use
-- ISG: Cs_isG
-- FLAT: Cs_flat
namespace Go.Proofs.Ytcnilpdlcmpbbab
set_option linter.unusedVariables false
set_option linter.unusedSimpArgs false
open Go.Proofs.Ytcnilpdlcmpbbab.Sh
set_option maxRecDepth 20000
theorem vl_set (D : List Int) (j n : Nat) (N : Int) (h : (n : Int) ≤ N) : vl (dSet D j n).1 N = true := by
  rw [vl_iff]
  intro i hi
  have h1 := dSet_rng D j n _ (getD_mem _ i 0 hi)
  refine ⟨h1.1, by omega, fun h0 => ?_⟩
  have h2 := dSet_asc D j n
  rw [List.pairwise_iff_getElem] at h2
  have := h2 (i - 1) i (by omega) hi (by omega)
  rw [getD_at _ (i - 1) 0 (by omega), getD_at _ i 0 hi]
  exact this
theorem lsS_ok (D : List Int) (j n : Nat) (N : Int) (h : (n : Int) ≤ N) : vl (lsS D j n).1 N = true ∧ (lsS D j n).1.length ≤ n := by
  unfold lsS
  split
  · exact ⟨vl_set D _ n N h, dSet_len D _ n⟩
  · exact ⟨(vl_iff _ _).2 fun i hi => absurd hi (Nat.not_lt_zero _), Nat.zero_le _⟩
theorem pmS_ok (D : List Int) (j : Nat) : (wn (pmS D j).1 0 1099511627776 || decide ((pmS D j).1 = 4611686018427387904)) = true := by
  have h := nxV_rng D (nxA D j 2) 6 (by decide)
  unfold pmS wn
  split
  · rw [decide_eq_true (by simp only; omega), decide_eq_true (by simp only; omega)]; rfl
  · rfl
theorem quS_ok (D : List Int) (j : Nat) (x : Sg) (hp : wn x.pe 1 1000000 = true) (hq : x.q = (quS D j).1.1) (hb : x.b = (quS D j).1.2) : cbF x = true := by
  have h := nxV_rng D (nxA D j 2) 9 (by decide)
  have h3 := nxV_rng D (nxA D (nxA D j 2) 9) (1 + nxV D (nxA D j 2) 9 + 1) (by omega)
  unfold cbF
  rw [hp, hq, hb, Bool.true_and]
  unfold quS
  split
  · simp only
    rw [if_neg (by omega)]
    unfold wn
    rw [decide_eq_true (by omega), decide_eq_true (by omega), decide_eq_true (by omega), decide_eq_true (by omega)]; rfl
  · rw [if_pos rfl]; rfl
theorem ptS_ok (D : List Int) (j : Nat) : (decide ((ptS D j).1 = 0) || decide ((ptS D j).1 = 1)) = true := by
  unfold ptS
  simp only
  split <;> rfl
theorem mkS_ok (D : List Int) (j : Nat) : ckS (mkS D j).1 = true ∧ SgR (mkS D j).1 := by
  have w1 := wtV_rng D (pmS D j).2
  have w4 := nxV_rng D (mk1 D j).2 9 (by decide)
  have w5 := nxV_rng D (nxA D (mk1 D j).2 9) 10001 (by decide)
  have w6 := nxV_rng D (nxA D (nxA D (mk1 D j).2 9) 10001) 10001 (by decide)
  have l3 := lsS_ok D (mk2 D j) 6 16 (by decide)
  have l4 := lsS_ok D (mk3 D j).2 4 8 (by decide)
  have hpe : wn (1 + nxV D (mk1 D j).2 9) 1 1000000 = true := by unfold wn; rw [decide_eq_true (by omega), decide_eq_true (by omega)]; rfl
  refine ⟨?_, ?_, ?_⟩
  · have hcb : cbF (mkS D j).1 = true := quS_ok D _ _ hpe rfl rfl
    have hcm : cmF (mkS D j).1 = true := rfl
    unfold ckS
    rw [hcb, hcm]
    show ((wn (pmS D j).1 0 1099511627776 || decide ((pmS D j).1 = 4611686018427387904)) && (wn (wtV D (pmS D j).2) 1 10000 && (true && (wn (nxV D (nxA D (mk1 D j).2 9) 10001) 0 10000 && (wn (nxV D (nxA D (nxA D (mk1 D j).2 9) 10001) 10001) 0 10000 && (vl (mk3 D j).1 16 && (vl (mk4 D j).1 8 && ((decide ((ptS D (mk4 D j).2).1 = 0) || decide ((ptS D (mk4 D j).2).1 = 1)) && true)))))))) = true
    rw [pmS_ok, ptS_ok, show vl (mk3 D j).1 16 = true from l3.1, show vl (mk4 D j).1 8 = true from l4.1]
    unfold wn
    rw [decide_eq_true (by omega), decide_eq_true (by omega), decide_eq_true (by omega), decide_eq_true (by omega), decide_eq_true (by omega), decide_eq_true (by omega)]; rfl
  · exact Nat.le_trans l3.2 (by decide)
  · exact Nat.le_trans l4.2 (by decide)
theorem dfS_ok : ckS dfS = true ∧ SgR dfS := ⟨by decide +kernel, dfS_r⟩
theorem cfS_ok (D : List Int) (j : Nat) : ckS (cfS D j).1 = true ∧ SgR (cfS D j).1 := by
  unfold cfS
  split
  · exact mkS_ok D _
  · exact dfS_ok
theorem cfA_ok (D : List Int) : ∀ (r : List Nd) (j : Nat) (acc : List Cf), ∃ X, (cfA D r j acc).1 = acc ++ X ∧ X.length = r.length ∧ (∀ i, i < r.length → (gCf X i).g = (gN r i).i) ∧ ∀ x ∈ X, ckS x.s = true ∧ SgR x.s
  | [], j, acc => ⟨[], (zai _).symm, rfl, fun i hi => absurd hi (Nat.not_lt_zero _), fun x hx => by cases hx⟩
  | y :: r, j, acc => by
    obtain ⟨X, h1, h2, h3, h4⟩ := cfA_ok D r (cfS D j).2 (acc ++ [⟨y.i, (cfS D j).1⟩])
    refine ⟨⟨y.i, (cfS D j).1⟩ :: X, ?_, by simp [h2], ?_, ?_⟩
    · rw [cfA, h1, List.append_assoc]; rfl
    · intro i hi
      cases i with
      | zero => rfl
      | succ i => exact h3 i (by simpa using hi)
    · intro x hx
      rcases List.mem_cons.1 hx with rfl | hx
      · exact cfS_ok D j
      · exact h4 x hx
theorem mkC_ok (D : List Int) {l : List Nd} {n : Int} (hV : VT l n) (j : Nat) : FiP l n (mkC D l j).1 ∧ CfR (mkC D l j).1 := by
  obtain ⟨X, h1, h2, h3, h4⟩ := cfA_ok D l j []
  unfold mkC
  rw [h1, zaG]
  exact ⟨⟨hV, h2, fun i hi => h3 i (by omega), fun i hi => (h4 _ (getD_mem X i zcf hi)).1⟩, fun x hx => (h4 x hx).2⟩
end Go.Proofs.Ytcnilpdlcmpbbab
-- NEWGO
-- PRUNE: cl_lendx cl_use
-- ISG: Cs_isG
-- FLAT: Cs_flat
namespace Go.Proofs.Ytcnilpdlcmpbbab
set_option linter.unusedVariables false
set_option linter.unusedSimpArgs false
open Go.Proofs.Ytcnilpdlcmpbbab.Sh
set_option maxRecDepth 20000
theorem setF_len (L : List Cf) (g : Int) (s : Sg) : (setF L g s).length = L.length := List.length_map _
theorem setF_at (L : List Cf) (g : Int) (s : Sg) (i : Nat) (h : i < L.length) : gCf (setF L g s) i = if (gCf L i).g = g then ⟨g, s⟩ else gCf L i := by
  rw [show gCf (setF L g s) i = (setF L g s)[i]'(by rw [setF_len]; exact h) from getD_at _ i zcf (by rw [setF_len]; exact h), show gCf L i = L[i] from getD_at L i zcf h]
  unfold setF
  rw [List.getElem_map]
theorem FiP.set {l : List Nd} {n : Int} {L : List Cf} (h : FiP l n L) {s : Sg} (hs : ckS s = true) (g : Int) : FiP l n (setF L g s) := by
  refine ⟨h.vt, by rw [setF_len]; exact h.len, fun i hi => ?_, fun i hi => ?_⟩
  · rw [setF_len] at hi
    rw [setF_at L g s i hi]
    split
    · rename_i e; rw [← h.id i hi, e]
    · exact h.id i hi
  · rw [setF_len] at hi
    rw [setF_at L g s i hi]
    split
    · exact hs
    · exact h.ck i hi
theorem CfR.set {L : List Cf} (h : CfR L) {s : Sg} (hs : SgR s) (g : Int) : CfR (setF L g s) := fun x hx => by
  obtain ⟨y, hy, rfl⟩ := List.mem_map.1 hx
  split
  · exact hs
  · exact h y hy
theorem sgF_cons (x : Cf) (r : List Cf) (g : Int) : sgF (x :: r) g = if x.g = g then x.s else sgF r g := by
  unfold sgF
  rw [List.find?_cons]
  by_cases c : x.g = g
  · rw [if_pos c, decide_eq_true c]
  · rw [if_neg c, decide_eq_false c]
theorem sgF_r {L : List Cf} (h : CfR L) (g : Int) : SgR (sgF L g) := by
  rcases sgF_ix L g with ⟨_, e, _⟩ | ⟨t, _, ht, e, _, _⟩
  · rw [e]; exact dfS_r
  · rw [e]; exact h _ (getD_mem L t zcf ht)
end Go.Proofs.Ytcnilpdlcmpbbab
-- NEWGO
-- PRUNE: cl_lendx cl_use
-- ISG: Cs_isG
-- FLAT: Cs_flat
namespace Go.Proofs.Ytcnilpdlcmpbbab
set_option linter.unusedVariables false
set_option linter.unusedSimpArgs false
open Go.Proofs.Ytcnilpdlcmpbbab.Sh
set_option maxRecDepth 20000
theorem adF_get (L : List Cf) : ∀ (l : List Nd) (x : Nd), x ∈ l → sgF (adF l L) x.i = sgF L x.i
  | [], x, hx => by cases hx
  | y :: r, x, hx => by
    show sgF (⟨y.i, sgF L y.i⟩ :: adF r L) x.i = _
    rw [sgF_cons]
    by_cases c : y.i = x.i
    · rw [if_pos c]; show sgF L y.i = _; rw [c]
    · rw [if_neg c]
      rcases List.mem_cons.1 hx with rfl | hx
      · exact absurd rfl c
      · exact adF_get L r x hx
theorem gCf_map (l : List Nd) (L : List Cf) (i : Nat) (h : i < l.length) : gCf (adF l L) i = ⟨(gN l i).i, sgF L (gN l i).i⟩ := by
  rw [show gCf (adF l L) i = (adF l L)[i]'(by rw [adF_len]; exact h) from getD_at _ i zcf (by rw [adF_len]; exact h), show gN l i = l[i] from getD_at l i zn h]
  unfold adF
  rw [List.getElem_map]
theorem sgF_ck {L : List Cf} (h : ∀ x ∈ L, ckS x.s = true) (g : Int) : ckS (sgF L g) = true := by
  rcases sgF_ix L g with ⟨_, e, _⟩ | ⟨t, _, ht, e, _, _⟩
  · rw [e]; exact dfS_ok.1
  · rw [e]; exact h _ (getD_mem L t zcf ht)
theorem FiP.all {l : List Nd} {n : Int} {L : List Cf} (h : FiP l n L) : ∀ x ∈ L, ckS x.s = true := fun x hx => by
  obtain ⟨i, hi, e⟩ := List.mem_iff_getElem.1 hx
  rw [← e, ← show gCf L i = L[i] from getD_at L i zcf hi]
  exact h.ck i hi
theorem FiP.adj {l z : List Nd} {n n2 : Int} {L : List Cf} (h : FiP l n L) (hz : VT z n2) : FiP z n2 (adF z L) := by
  refine ⟨hz, adF_len z L, fun i hi => ?_, fun i hi => ?_⟩
  · rw [adF_len] at hi; rw [gCf_map z L i hi]
  · rw [adF_len] at hi; rw [gCf_map z L i hi]; exact sgF_ck h.all _
theorem CfR.adj {L : List Cf} (h : CfR L) (z : List Nd) : CfR (adF z L) := fun x hx => by
  obtain ⟨y, _, rfl⟩ := List.mem_map.1 hx
  exact sgF_r h _
theorem sgF_new {l : List Nd} {n : Int} {L : List Cf} (h : FiP l n L) : sgF L n = dfS := by
  rcases sgF_ix L n with ⟨_, e, _⟩ | ⟨t, _, ht, _, e, _⟩
  · exact e
  · have := h.vt.lt (show t < l.length by rw [← h.len]; exact ht)
    rw [h.id t ht] at e
    omega
abbrev frs : Str := [102, 114, 101, 115, 104]
structure Zk (l : List Nd) (n : Int) : Prop where
  v : VL l n
  nr : NmR l
theorem Zk.rem {l : List Nd} {n id : Int} (h : Zk l n) (he : (rmM l n id).2 = 0) : Zk (rmM l n id).1.1 (rmM l n id).1.2 := by
  obtain ⟨e, _, _, h3, h4⟩ := rmM_ok he
  rw [e]
  exact ⟨h.v.rm h3 h4, fun x hx => h.nr x ((rmN_mem l id x).1 hx).1⟩
theorem fresh_add {l : List Nd} {n : Int} {B : Nat} (h : TI l n B) {p : Int} (hp : ∃ y ∈ l, y.i = p) : (addM l n p frs).2.2 = 7 ∨ (addM l n p frs = ((l ++ [newN n p frs], n + 1), n, 0) ∧ Zk (l ++ [newN n p frs]) (n + 1)) := by
  have h1 : (chkT l n && nmOk frs) = true := by rw [(chkT_iff l n).2 h.v.vt]; decide
  have h2 : hasM l n p = true := hasM_iff.2 ⟨(chkT_iff l n).2 h.v.vt, hp⟩
  have h3 : ¬ l.any (same1 p frs) = true := fun c => by
    obtain ⟨y, hy, e⟩ := List.any_eq_true.1 c
    unfold same1 at e
    rw [zaw, decide_eq_true_eq, decide_eq_true_eq] at e
    have := h.nm y hy
    rw [e.2] at this
    exact absurd this (by decide)
  have hu : addM l n p frs = if 8 ≤ ((ancM l n p).length : Int) - 1 ∨ 64 ≤ (l.length : Int) ∨ 2147483647 < n then (([], 0), 0, 7) else ((l ++ [newN n p frs], n + 1), n, 0) := by
    unfold addM
    rw [if_neg (by rw [h1]; decide), if_neg (by rw [h2]; decide), if_neg h3]
  by_cases h4 : 8 ≤ ((ancM l n p).length : Int) - 1 ∨ 64 ≤ (l.length : Int) ∨ 2147483647 < n
  · left; rw [hu, if_pos h4]
  · right
    rw [if_neg h4] at hu
    have he : (addM l n p frs).2.2 = 0 := by rw [hu]
    obtain ⟨e, q1, q2, q3, q4, q5, q6, q7⟩ := addM_ok he
    refine ⟨hu, h.v.add q2 q3 q4 q5 q6 q7, fun x hx => ?_⟩
    rcases List.mem_append.1 hx with hx | hx
    · exact h.nr x hx
    · rw [List.mem_singleton.1 hx]; show frs.length ≤ 1000000000; decide
end Go.Proofs.Ytcnilpdlcmpbbab
-- NEWGO
-- PRUNE: cl_lendx cl_use
-- ISG: Cs_isG
-- FLAT: Cs_flat
namespace Go.Proofs.Ytcnilpdlcmpbbab
set_option linter.unusedVariables false
set_option linter.unusedSimpArgs false
open Go.Proofs.Ytcnilpdlcmpbbab.Sh
set_option maxRecDepth 20000
def lendJ : FuncId → List Nat := fun f => if f = 15 then [0] else if f = 12 then [0] else if f = 13 then [0] else []
set_option maxHeartbeats 64000000 in
theorem adjusts11_spec (D : List Int) (hr : ∀ x ∈ D, -9223372036854775808 ≤ x ∧ x ≤ 9223372036854775807) : FnSpec Try.prog 3 [gi D none] [] (b1 true) [] := by
  by_cases hlen : (D.length : Int) ≤ 600
  case neg =>
    refine fnspec_of mixed TT_ok TT_cl ⟨fun _ => false, lendJ, 0, fun _ => false, fun _ => false⟩ Try.func3 rfl (by kernel_rfl) rfl 103 rfl [.tmp 2] rfl ?_
    simp only [go_sem, zaa, zaj, zak, zal, zam, zah, ↓reduceIte, reduceCtorEq, zad, zaf, zan, zao, zap, decide_eq_false hlen, lendJ]
    repeat' (first
 | (apply cl_plain
    case hs => rfl
    case ha => (simp only [zae, zag, prepV, prepC, idx, hpL', lookR, zaa, if_true, if_false]; rfl)
    case h => (first | exact light_spec .. | exact sgsane_spec ..))
 | ((first | refine s1_id ?_ | refine swp_id ?_ | refine sops_id ?_ | refine s2_id ?_); simp only [decide_eq_false hlen, lendJ, go_sem, zaa, zaj, zak, zal, zam, zah, ↓reduceIte, reduceCtorEq, zad, zaf, zan, zao, zap, zaQ, zaR, zaC, zaS, renO, bk, back, outUpsFrom, Ints_ren])
 | exact fs_nil trivial rfl
 | fail)
  have hl : D.length ≤ 600 := by omega
  have t1 := tree_spec D hl hr 0 6 (by decide)
  have hti := mkT_ok D 0 6
  generalize mkT D 0 6 = T at *
  obtain ⟨⟨l, n⟩, j1⟩ := T
  simp only at t1 hti
  have hV := hti.v.vt
  have hle := hti.len
  have hnl := nd_len l
  have hnr := hti.nr
  have p1 := dconfigs_spec D hl hr l n (by omega) j1
  obtain ⟨hC, hCr⟩ := mkC_ok D hV j1
  generalize mkC D l j1 = q at *
  obtain ⟨C, j2⟩ := q
  simp only at p1 hC hCr
  have hCl := hC.len
  have n1 := next_spec D j2 l.length hl hr (by omega)
  have r1 := nx_rng D j2 l.length (by omega)
  generalize nxV D j2 l.length = v at *
  generalize nxA D j2 l.length = j3 at *
  obtain ⟨t, rfl⟩ : ∃ t : Nat, v = t := ⟨v.toNat, by omega⟩
  have ht : t < l.length := by omega
  obtain ⟨q1, _⟩ := nd_f l t ht (.sc (.int .i64 0))
  have a1 := radd_spec l none n (gN l t).i frs (by omega) hnr (by decide)
  have hfr := fresh_add hti (p := (gN l t).i) ⟨gN l t, getD_mem l t zn ht, rfl⟩
  generalize (gN l t).i = g at *
  have n2 := next_spec D j3 l.length hl hr (by omega)
  have r2 := nx_rng D j3 l.length (by omega)
  generalize nxV D j3 l.length = v2 at *
  generalize nxA D j3 l.length = j4 at *
  obtain ⟨t2, rfl⟩ : ∃ t : Nat, v2 = t := ⟨v2.toNat, by omega⟩
  have ht2 : t2 < l.length := by omega
  obtain ⟨q2, _⟩ := nd_f l t2 ht2 (.sc (.int .i64 0))
  generalize (gN l t2).i = g2 at *
  rcases hfr with h7 | ⟨hok, hZ⟩
  · generalize addM l n g frs = R at *
    obtain ⟨⟨l2, n2'⟩, id2, e2⟩ := R
    simp only at h7
    subst h7
    simp only [adV] at a1
    refine fnspec_of mixed TT_ok TT_cl ⟨fun _ => false, lendJ, 0, fun _ => false, fun _ => false⟩ Try.func3 rfl (by kernel_rfl) rfl 103 rfl [.tmp 2] rfl ?_
    simp only [go_sem, zaa, zaj, zak, zal, zam, zah, ↓reduceIte, reduceCtorEq, zad, zaf, zan, zao, zap, decide_eq_true hlen, lendJ]
    repeat' (first
 | with_reducible refine zau ?_ ?_
 | (unfold OKC; kernel_rfl)
 | (unfold EDG; kernel_rfl)
 | (apply cg_tp
    case hl => rfl
    case ha => (simp only [zae, zag, prepV, prepC, idx, hpL', lookR, zaa, if_true, if_false]; rfl)
    case hs => rfl
    case h => (first | exact light_spec .. | exact roll_spec .. | exact t1 .. | exact p1 .. | exact n1 .. | exact a1 .. | exact sgsane_spec ..))
 | (apply cl_plain
    case hs => rfl
    case ha => (simp only [zae, zag, prepV, prepC, idx, hpL', lookR, zaa, if_true, if_false]; rfl)
    case h => (first | exact light_spec .. | exact roll_spec .. | exact t1 .. | exact p1 .. | exact n1 .. | exact a1 .. | exact sgsane_spec ..))
 | (apply cl_lend
    case hr => (simp only [zae, zag, hpL', lookR, zaa, if_true, if_false]; first | exact map1 _ | exact map2 _ _ | exact map3 _ _ _)
    case ha => (simp only [zae, zag, prepV, prepC, idx, hpL', lookR, zaa, if_true, if_false]; rfl)
    case hs => rfl
    case hn => decide
    case h => (first | exact light_spec .. | exact roll_spec .. | exact t1 .. | exact p1 .. | exact n1 .. | exact a1 .. | exact sgsane_spec ..)
    case hf => (simp only [zab, zac, false_implies, implies_true, and_true, true_and, flat_cons, flat_nil, flat_ints, flat_bools, flat_app, Cs_flat, zaL, and_self, eq_self_iff_true, zai])
    case hl => (simp only [zaq, zar]; decide))
 | ((first | refine s1_id ?_ | refine swp_id ?_ | refine sops_id ?_ | refine s2_id ?_); simp only [decide_eq_true hlen, lendJ, dice, q1, zaD, zaJ, zai, zaK, zaG, zaA, zaB, zay, zaM, zaN, zaq, zar, go_sem, zaa, zaj, zak, zal, zam, zah, ↓reduceIte, reduceCtorEq, zad, zaf, zan, zao, zap, zaQ, zaR, zaC, zaS, renO, bk, back, outUpsFrom, Ints_ren])
 | (intros; omega)
 | exact fs_nil trivial rfl
 | fail)
  rw [hok] at a1
  simp only [adV] at a1
  have hll : (l ++ [newN n g frs]).length ≤ 1000 := by rw [List.length_append, List.length_singleton]; omega
  have b1' := rrem_spec (l ++ [newN n g frs]) none (n + 1) g2 (by omega) hZ.nr
  have hnew := sgF_new hC
  have hz : ∃ (B : Bool) (re : Int) (rl zl : List Nd) (rn zn : Int), rmV (rmM (l ++ [newN n g frs]) (n + 1) g2) = .tup [trV rl none rn, i1 re] ∧ decide (re = 0) = B ∧ Zk zl zn ∧ zl.length ≤ 1000 ∧ (B = true ∧ zl = rl ∧ zn = rn ∨ B = false ∧ zl = l ++ [newN n g frs] ∧ zn = n + 1) := by
    have hrem := fun he => Zk.rem (id := g2) hZ he
    have hrl : (rmM (l ++ [newN n g frs]) (n + 1) g2).1.1.length ≤ 1000 := by
      unfold rmM
      repeat' split
      all_goals first | exact Nat.zero_le _ | exact Nat.le_trans (rmN_len _ _) hll
    generalize rmM (l ++ [newN n g frs]) (n + 1) g2 = R at *
    obtain ⟨⟨rl, rn⟩, re⟩ := R
    by_cases he : re = 0
    · exact ⟨true, re, rl, rl, rn, rn, rfl, decide_eq_true he, hrem he, hrl, .inl ⟨rfl, rfl, rfl⟩⟩
    · exact ⟨false, re, rl, _, rn, _, rfl, decide_eq_false he, hZ, hll, .inr ⟨rfl, rfl, rfl⟩⟩
  obtain ⟨B, re, rl, zl, rn, zn', e1, hB, hZ2, hzl, hw⟩ := hz
  rw [e1] at b1'
  clear hok
  have hV2 := hZ2.v.vt
  have hnr2 := hZ2.nr
  have hct2 := hV2.ctr
  have c1 := sadj_spec zl zn' C none (by omega) (by omega) hnr2 hct2 hCr
  rw [(chkT_iff zl zn').2 hV2, if_pos rfl] at c1
  have hA := hC.adj hV2
  have hAr := hCr.adj zl
  have hAg := fun m (hm : m < zl.length) => adF_get C zl (gN zl m) (getD_mem zl m zn hm)
  have hAl := hA.len
  have c2 := sfits_spec zl zn' (adF zl C) none (by omega) (by omega) hnr2 hct2 hAr
  rw [(fiC_iff zl zn' _).2 hA] at c2
  generalize adF zl C = A at *
  generalize l ++ [newN n g frs] = yl at *
  generalize n + 1 = yn at *
  have hynl := nd_len yl
  have hznl := nd_len zl
  clear hA e1 hV2 hZ hZ2
  rcases hw with ⟨rfl, rfl, rfl⟩ | ⟨rfl, rfl, rfl⟩
  all_goals (
    refine fnspec_of mixed TT_ok TT_cl ⟨fun _ => false, lendJ, 0, fun _ => false, fun _ => false⟩ Try.func3 rfl (by kernel_rfl) rfl 103 rfl [.tmp 2] rfl ?_
    simp only [go_sem, zaa, zaj, zak, zal, zam, zah, ↓reduceIte, reduceCtorEq, zad, zaf, zan, zao, zap, decide_eq_true hlen, lendJ]
    repeat' (first
 | with_reducible refine zau ?_ ?_
 | (unfold OKC; kernel_rfl)
 | (unfold EDG; kernel_rfl)
 | (apply cl_plain
    case hs => rfl
    case ha => (simp only [zae, zag, prepV, prepC, idx, hpL', lookR, zaa, if_true, if_false]; rfl)
    case h => (first | exact light_spec .. | exact roll_spec .. | exact t1 .. | exact p1 .. | exact n1 .. | exact a1 .. | exact n2 .. | exact b1' .. | exact c1 .. | exact c2 ..))
 | (apply cl_lend
    case hr => (simp only [zae, zag, hpL', lookR, zaa, if_true, if_false]; first | exact map1 _ | exact map2 _ _ | exact map3 _ _ _)
    case ha => (simp only [zae, zag, prepV, prepC, idx, hpL', lookR, zaa, if_true, if_false]; rfl)
    case hs => rfl
    case hn => decide
    case h => (first | exact light_spec .. | exact roll_spec .. | exact t1 .. | exact p1 .. | exact n1 .. | exact a1 .. | exact n2 .. | exact b1' .. | exact c1 .. | exact c2 ..)
    case hf => (simp only [zab, zac, false_implies, implies_true, and_true, true_and, flat_cons, flat_nil, flat_ints, flat_bools, flat_app, Cs_flat, zaL, and_self, eq_self_iff_true, zai])
    case hl => (simp only [zaq, zar]; decide))
 | ((first | refine s1_id ?_ | refine swp_id ?_ | refine sops_id ?_ | refine s2_id ?_); simp only [decide_eq_true hlen, lendJ, dice, q1, q2, hB, zaD, zaJ, zai, zaK, zaG, zaA, zaB, zay, zaM, zaN, zaq, zar, go_sem, zaa, zaj, zak, zal, zam, zah, ↓reduceIte, reduceCtorEq, zad, zaf, zan, zao, zap, zaQ, zaR, zaC, zaS, renO, bk, back, outUpsFrom, Ints_ren])
 | (intros; omega)
 | (intros; (try simp only [zaw, zaH, zaz, zax, zas, zat, decide_eq_true_eq, decide_eq_false_iff_not] at *); omega))
    refine w_loop (ι := Nat) (fun m => ⟨[(5, gr C none), (7, i1 n), (9, .one (.optr 0 0)), (12, gr A none), (78, i1 zl.length), (79, i1 m)], [(0, some ⟨[.gsl (Cs zl) 0 zl.length none, int zn'], 2⟩)], 1⟩) (fun m => m ≤ zl.length) (fun m => zl.length - m) 0 ?_ (Nat.zero_le _) ?_
    · (refine imp_ren _ _ _ [(0, 38, ⟨[.gsl (Cs zl) 0 zl.length none, int zn'], 2⟩)] (by simp) (by simp) (by simp) (zaI rfl) ?_ rfl (by simp only [zab, zac, false_implies, implies_true, and_true, zaU, lookR, zaa, if_true, if_false, ↓reduceIte] <;> (repeat' apply zau) <;> (first | rfl | trivial)) (by simp only [zab, zac, false_implies, implies_true, and_true, true_and, flat_cons, flat_nil, flat_ints, flat_bools, flat_app, zaL, and_self, eq_self_iff_true, zai]); simp only [zae, zag, zab, zac, false_implies, implies_true, and_true, lk, slot, zaQ, zaC, toN, zaa, if_true, if_false, ↓reduceIte, reduceCtorEq])
      all_goals ((repeat' apply zau) <;> (first | rfl | trivial))
    clear t1 p1 n1 a1 n2 b1' c1 c2
    intro m hm
    simp only at hm ⊢
    rcases Nat.lt_or_ge m zl.length with hlt | hge
    case inr =>
      have c : ¬ (m : Int) < (zl.length : Int) := by omega
      simp only [go_sem, zaa, zaj, zak, zal, zam, zah, ↓reduceIte, reduceCtorEq, zad, zaf, zan, zao, zap, decide_eq_false c, lendJ]
      repeat' (first
 | (apply cl_plain
    case hs => rfl
    case ha => (simp only [zae, zag, prepV, prepC, idx, hpL', lookR, zaa, if_true, if_false]; rfl)
    case h => (first | exact sgsane_spec ..))
 | ((first | refine s1_id ?_ | refine swp_id ?_ | refine sops_id ?_ | refine s2_id ?_); simp only [decide_eq_false c, lendJ, go_sem, zaa, zaj, zak, zal, zam, zah, ↓reduceIte, reduceCtorEq, zad, zaf, zan, zao, zap, zaQ, zaR, zaC, zaS, renO, bk, back, outUpsFrom, Ints_ren])
 | exact fs_nil trivial rfl
 | fail)
    have c : (m : Int) < (zl.length : Int) := by omega
    obtain ⟨q3, _⟩ := nd_f zl m hlt (.sc (.int .i64 0))
    have x1 := srget_spec C none (gN zl m).i (by omega) hCr
    have x2 := sget_spec A none (gN zl m).i (by omega) hAr
    rw [hAg m hlt] at x2
    have hyr := sgF_r hCr (gN zl m).i
    clear hAg
    generalize (gN zl m).i = k at *
    have x3 := ssame_spec (sgF C k) (sgF C k) hyr.1 hyr.2
    rw [smS_refl] at x3
    by_cases hk : k = n
    · subst hk
      rw [hnew] at x1 x2 x3
      have x4 := srdef_spec
      simp only [sgt, sgc] at x1 x2 x3 x4
      simp only [go_sem, zaa, zaj, zak, zal, zam, zah, ↓reduceIte, reduceCtorEq, zad, zaf, zan, zao, zap, decide_eq_true c, lendJ, q3]
      repeat' (first
 | with_reducible refine zau ?_ ?_
 | (unfold OKC; kernel_rfl)
 | (unfold EDG; kernel_rfl)
 | (apply cl_plain
    case hs => rfl
    case ha => (simp only [zae, zag, prepV, prepC, idx, hpL', lookR, zaa, if_true, if_false]; rfl)
    case h => (first | exact x1 .. | exact x2 .. | exact x3 .. | exact x4 ..))
 | ((first | refine s1_id ?_ | refine swp_id ?_ | refine sops_id ?_ | refine s2_id ?_); simp only [decide_eq_true c, lendJ, q3, decide_true, zaD, zaJ, zai, zaK, zaG, zaA, zaB, zay, zaM, zaN, zaq, zar, go_sem, zaa, zaj, zak, zal, zam, zah, ↓reduceIte, reduceCtorEq, zad, zaf, zan, zao, zap, zaQ, zaR, zaC, zaS, renO, bk, back, outUpsFrom, Ints_ren])
 | (intros; omega)
 | (intros; (try simp only [zaw, zaH, zaz, zax, zas, zat, decide_eq_true_eq, decide_eq_false_iff_not] at *); omega))
      refine le_mk (m + 1) ?_ hlt (by show zl.length - (m + 1) < zl.length - m; omega)
      (refine imp_ren _ _ _ [(0, 0, ⟨[.gsl (Cs zl) 0 zl.length none, int zn'], 2⟩)] (by simp) (by simp) (by simp) (zaI rfl) ?_ rfl (by simp only [zab, zac, false_implies, implies_true, and_true, zaU, lookR, zaa, if_true, if_false, ↓reduceIte] <;> (repeat' apply zau) <;> (first | rfl | trivial)) (by simp only [zab, zac, false_implies, implies_true, and_true, true_and, flat_cons, flat_nil, flat_ints, flat_bools, flat_app, zaL, and_self, eq_self_iff_true, zai]); simp only [zae, zag, zab, zac, false_implies, implies_true, and_true, lk, slot, zaQ, zaC, toN, zaa, if_true, if_false, ↓reduceIte, reduceCtorEq])
      all_goals ((repeat' apply zau) <;> (first | rfl | trivial | (simp only [zav]; done) | (simp only [zav]; rfl) | (simp only [zav]; trivial)))
    · generalize sgF C k = y at *
      simp only [sgt, sgc] at x1 x2 x3
      simp only [go_sem, zaa, zaj, zak, zal, zam, zah, ↓reduceIte, reduceCtorEq, zad, zaf, zan, zao, zap, decide_eq_true c, lendJ, q3, decide_eq_false hk]
      repeat' (first
 | with_reducible refine zau ?_ ?_
 | (unfold OKC; kernel_rfl)
 | (unfold EDG; kernel_rfl)
 | (apply cl_plain
    case hs => rfl
    case ha => (simp only [zae, zag, prepV, prepC, idx, hpL', lookR, zaa, if_true, if_false]; rfl)
    case h => (first | exact x1 .. | exact x2 .. | exact x3 ..))
 | ((first | refine s1_id ?_ | refine swp_id ?_ | refine sops_id ?_ | refine s2_id ?_); simp only [decide_eq_true c, lendJ, q3, decide_eq_false hk, zaD, zaJ, zai, zaK, zaG, zaA, zaB, zay, zaM, zaN, zaq, zar, go_sem, zaa, zaj, zak, zal, zam, zah, ↓reduceIte, reduceCtorEq, zad, zaf, zan, zao, zap, zaQ, zaR, zaC, zaS, renO, bk, back, outUpsFrom, Ints_ren])
 | (intros; omega)
 | (intros; (try simp only [zaw, zaH, zaz, zax, zas, zat, decide_eq_true_eq, decide_eq_false_iff_not] at *); omega))
      refine le_mk (m + 1) ?_ hlt (by show zl.length - (m + 1) < zl.length - m; omega)
      (refine imp_ren _ _ _ [(0, 0, ⟨[.gsl (Cs zl) 0 zl.length none, int zn'], 2⟩)] (by simp) (by simp) (by simp) (zaI rfl) ?_ rfl (by simp only [zab, zac, false_implies, implies_true, and_true, zaU, lookR, zaa, if_true, if_false, ↓reduceIte] <;> (repeat' apply zau) <;> (first | rfl | trivial)) (by simp only [zab, zac, false_implies, implies_true, and_true, true_and, flat_cons, flat_nil, flat_ints, flat_bools, flat_app, zaL, and_self, eq_self_iff_true, zai]); simp only [zae, zag, zab, zac, false_implies, implies_true, and_true, lk, slot, zaQ, zaC, toN, zaa, if_true, if_false, ↓reduceIte, reduceCtorEq])
      all_goals ((repeat' apply zau) <;> (first | rfl | trivial | (simp only [zav]; done) | (simp only [zav]; rfl) | (simp only [zav]; trivial))))
theorem adjusts11_main (g0 : List Cell) (s0 : GTy Try.prog 12 22 g0) : FnSpec Try.prog 3 [svOf Try.prog 22 g0] [] (b1 true) [] := by
  obtain ⟨l, rfl, hl, hr⟩ := gty_ints (n := 10) Try.underlying22 Try.underlying3 s0
  simp only [svOf, Try.underlying22, List.headD_cons]
  exact adjusts11_spec l hr
end Go.Proofs.Ytcnilpdlcmpbbab
