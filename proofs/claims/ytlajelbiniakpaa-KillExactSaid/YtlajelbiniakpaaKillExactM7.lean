/- Contracts of functions, told of values, on the way to KillExact (part 7). -/
import Derived.Test.YtlajelbiniakpaaKillExactM3
import Derived.Test.YtlajelbiniakpaaKillExactM6
-- short names of the library's lemmas
open Nat renaming reduceEqDiff → zaa, reduceLeDiff → zad, reduceAdd → zah, reduceSub → zai, reduceMul → zaj, reduceLT → zak, le_of_ble_eq_true → zaR, zero_le → zaU, lt_or_ge → zbb
open List renaming reduceReplicate → zab, map_cons → zae, forall_mem_cons → zaf, map_nil → zag, not_mem_nil → zao, append_nil → zap, length_cons → zaq, take_succ_cons → zat, length_nil → zau, set_cons_zero → zaw, set_cons_succ → zax, cons_append → zaz, flatten_cons → zaB, nil_append → zaC, flatten_nil → zaF, getD_cons_zero → zaG, getD_cons_succ → zaH, take_zero → zaI, take_nil → zaK, take_of_length_le → zaV, mem_cons_self → zaX, mem_cons_of_mem → zaY, drop_of_length_le → zaZ, flatMap_cons → zbd, replicate → zbe, flatMap_nil → zbf, take → zbh, length_take → zbi
open Int renaming cast_ofNat_Int → zac, reduceEq → zal, reduceLT → zam, reduceLE → zan, natCast_add → zaL, toNat_natCast → zbc
open Option renaming getD_some → zaM, getD_none → zaN
open Bool renaming and_eq_false_iff → zar, or_eq_false_iff → zas, and_eq_true → zav, not_eq_false' → zaA, not_eq_true' → zaD, or_eq_true → zaJ, false_and → zbg, true_and → zbk
open And renaming intro → zay
open Go.Proofs.Ytlajelbiniakpaa.Sh.Cell renaming ren → zaE, refs → zaS, sc → zba, isG → zbj, noG → zbl
open Go.Proofs.Ytlajelbiniakpaa.Sh.SV renaming renL → zaP, ren → zaQ
open Go.Proofs.Ytlajelbiniakpaa.Sh.Row renaming ren → zaO
open Go.Proofs.Ytlajelbiniakpaa.Sh.St renaming hpF → zaT, tmF → zaW
-- NEWGO
-- PRUNE: cl_lendx cl_use
-- ISG: Cs_isG
-- FLAT: Cs_flat
namespace Go.Proofs.Ytlajelbiniakpaa
set_option linter.unusedVariables false
set_option linter.unusedSimpArgs false
open Go.Proofs.Ytlajelbiniakpaa.Sh
set_option maxRecDepth 20000
def lendD : FuncId → List Nat := fun f => if f = 12 then [0] else if f = 27 then [0] else []
def lendN : FuncId → List Nat := fun f => if f = 12 then [0] else []
def dgV (L : List Int) (l : List Nd) (j : Nat) : Int := if nxV L j 15 = 14 then nxV L (nxA L j 15) 9 - 1 else (gN l (nxV L (nxA L j 15) l.length).toNat).i
def dgA (L : List Int) (l : List Nd) (j : Nat) : Nat := if nxV L j 15 = 14 then nxA L (nxA L j 15) 9 else nxA L (nxA L j 15) l.length
set_option maxHeartbeats 8000000 in
theorem dgroup_spec (L : List Int) (hl : L.length ≤ 600) (hr : ∀ x ∈ L, -9223372036854775808 ≤ x ∧ x ≤ 9223372036854775807) (j : Nat) (l : List Nd) (n : Int) (h1 : 1 ≤ l.length) (hll : l.length ≤ 64) :
    FnSpec Try.prog 16 [dp, trV l none n] [dice L j] (i1 (dgV L l j)) [some (dice L (dgA L l j))] := by
  have hnl := nd_len l
  have n1 := bool_spec L j 15 hl hr (by decide)
  unfold dgV dgA
  generalize nxA L j 15 = j2 at *
  have c0 : ¬ (l.length : Int) = 0 := by omega
  by_cases hb : nxV L j 15 = 14
  · rw [decide_eq_true (by omega : nxV L j 15 = 15 - 1)] at n1
    have n2 := next_spec L j2 9 hl hr (by decide)
    have r2 := nx_rng L j2 9 (by decide)
    rw [if_pos hb, if_pos hb]
    generalize nxV L j2 9 = v at *
    refine fnspec_of mixed TT_ok TT_cl ⟨fun _ => false, lendD, 1, fun _ => false, fun _ => false⟩ Try.func16 rfl (by kernel_rfl) rfl 26 rfl [.tmp 4] rfl ?_
    simp only [go_sem, zaa, zah, zai, zaj, zak, zad, ↓reduceIte, reduceCtorEq, zab, zac, zal, zam, zan, lendD]
    repeat' (first
 | with_reducible refine zay ?_ ?_
 | (apply cl_lend
    case hr => (simp only [zae, zag, hpL', lookR, zaa, if_true, if_false]; first | exact map1 _ | exact map2 _ _ | exact map3 _ _ _)
    case ha => (simp only [zae, zag, prepV, prepC, idx, hpL', lookR, zaa, if_true, if_false]; rfl)
    case hs => rfl
    case hn => decide
    case h => (first | exact n1 .. | exact n2 ..)
    case hf => (simp only [zaf, zao, false_implies, implies_true, and_true, true_and, flat_cons, flat_nil, flat_ints, flat_bools, flat_app, Cs_flat, zaS, and_self, eq_self_iff_true, zap])
    case hl => (simp only [zaq, zau]; decide))
 | ((first | refine s1_id ?_ | refine swp_id ?_ | refine sops_id ?_ | refine s2_id ?_); simp only [lendD, dice, go_sem, zaa, zah, zai, zaj, zak, zad, ↓reduceIte, reduceCtorEq, zab, zac, zal, zam, zan, zaQ, zaP, zaE, zaO, renO, bk, back, outUpsFrom, Ints_ren])
 | (intros; omega)
 | (intros; (try simp only [zav, zaJ, zaD, zaA, zar, zas, decide_eq_true_eq, decide_eq_false_iff_not] at *); omega))
    (refine fs_flat [(0, dice L (nxA L j2 9))] (by simp) (by simp only [zae, zag]; decide) (by simp only [go_sem, resV, resS, zaQ, zaP, zaE, zaW, zaT, idx, renO, zaO, evS, slot, lookR, zaa, ↓reduceIte, reduceCtorEq, if_true, if_false, zaM, zaN, zae, zag, sLoad, readAt, readNeed, Ints_ren, Ints_length, Ints_getD, and_true, true_and, zaG, zaH]; try decide) ?_ (by simp only [zaf, zao, false_implies, implies_true, and_true, zaT, lookR, zaa, if_true, if_false, ↓reduceIte, dice] <;> (repeat' apply zay) <;> (first | rfl | trivial)) (by simp only [zaf, zao, false_implies, implies_true, and_true, true_and, flat_cons, flat_nil, flat_ints, flat_bools, flat_app, zaS, and_self, eq_self_iff_true, zap, dice]) ?_ <;> (try simp only [go_sem, resV, resS, zaQ, zaP, zaE, zaW, zaT, idx, renO, zaO, evS, slot, lookR, zaa, ↓reduceIte, reduceCtorEq, if_true, if_false, zaM, zaN, zae, zag, sLoad, readAt, readNeed, Ints_ren, Ints_length, Ints_getD, and_true, true_and, zaG, zaH]) <;> (try rfl))
  · rw [decide_eq_false (by omega : ¬ nxV L j 15 = 15 - 1)] at n1
    have n2 := next_spec L j2 l.length hl hr (by omega)
    have r2 := nx_rng L j2 l.length (by omega)
    obtain ⟨v, hv⟩ : ∃ v : Nat, nxV L j2 l.length = v := ⟨(nxV L j2 l.length).toNat, by omega⟩
    rw [hv] at n2 r2 ⊢
    obtain ⟨g1, _⟩ := nd_f l v (by omega) (.sc (.int .i64 0))
    rw [if_neg hb, if_neg hb]
    rw [zbc]
    refine fnspec_of mixed TT_ok TT_cl ⟨fun _ => false, lendD, 1, fun _ => false, fun _ => false⟩ Try.func16 rfl (by kernel_rfl) rfl 26 rfl [.tmp 4] rfl ?_
    simp only [go_sem, zaa, zah, zai, zaj, zak, zad, ↓reduceIte, reduceCtorEq, zab, zac, zal, zam, zan, lendD, decide_eq_false c0, g1]
    repeat' (first
 | with_reducible refine zay ?_ ?_
 | (unfold OKC; kernel_rfl)
 | (unfold EDG; kernel_rfl)
 | (apply cl_lend
    case hr => (simp only [zae, zag, hpL', lookR, zaa, if_true, if_false]; first | exact map1 _ | exact map2 _ _ | exact map3 _ _ _)
    case ha => (simp only [zae, zag, prepV, prepC, idx, hpL', lookR, zaa, if_true, if_false]; rfl)
    case hs => rfl
    case hn => decide
    case h => (first | exact n1 .. | exact n2 ..)
    case hf => (simp only [zaf, zao, false_implies, implies_true, and_true, true_and, flat_cons, flat_nil, flat_ints, flat_bools, flat_app, Cs_flat, zaS, and_self, eq_self_iff_true, zap])
    case hl => (simp only [zaq, zau]; decide))
 | ((first | refine s1_id ?_ | refine swp_id ?_ | refine sops_id ?_ | refine s2_id ?_); simp only [lendD, dice, decide_eq_false c0, g1, zbc, go_sem, zaa, zah, zai, zaj, zak, zad, ↓reduceIte, reduceCtorEq, zab, zac, zal, zam, zan, zaQ, zaP, zaE, zaO, renO, bk, back, outUpsFrom, Ints_ren])
 | (intros; omega)
 | (intros; (try simp only [zav, zaJ, zaD, zaA, zar, zas, decide_eq_true_eq, decide_eq_false_iff_not] at *); omega))
    (refine fs_flat [(0, dice L (nxA L j2 l.length))] (by simp) (by simp only [zae, zag]; decide) (by simp only [go_sem, resV, resS, zaQ, zaP, zaE, zaW, zaT, idx, renO, zaO, evS, slot, lookR, zaa, ↓reduceIte, reduceCtorEq, if_true, if_false, zaM, zaN, zae, zag, sLoad, readAt, readNeed, Ints_ren, Ints_length, Ints_getD, and_true, true_and, zaG, zaH]; try decide) ?_ (by simp only [zaf, zao, false_implies, implies_true, and_true, zaT, lookR, zaa, if_true, if_false, ↓reduceIte, dice] <;> (repeat' apply zay) <;> (first | rfl | trivial)) (by simp only [zaf, zao, false_implies, implies_true, and_true, true_and, flat_cons, flat_nil, flat_ints, flat_bools, flat_app, zaS, and_self, eq_self_iff_true, zap, dice]) ?_ <;> (try simp only [go_sem, resV, resS, zaQ, zaP, zaE, zaW, zaT, idx, renO, zaO, evS, slot, lookR, zaa, ↓reduceIte, reduceCtorEq, if_true, if_false, zaM, zaN, zae, zag, sLoad, readAt, readNeed, Ints_ren, Ints_length, Ints_getD, and_true, true_and, zaG, zaH]) <;> (try rfl))
def dsL (l : List Int) : Nat → List Int → Nat → List Int × Nat
  | 0, acc, j => (acc, j)
  | n + 1, acc, j => dsL l n (acc ++ [nxV l j 12 - 2]) (nxA l j 12)
theorem dsL_len (l : List Int) : ∀ n acc j, (dsL l n acc j).1.length = acc.length + n
  | 0, acc, j => rfl
  | n + 1, acc, j => by rw [dsL, dsL_len l n]; simp; omega
def dsV (l : List Int) (j : Nat) : List Int × Nat := dsL l (nxV l j 6).toNat [] (nxA l j 6)
theorem dsV_len (l : List Int) (j : Nat) : (dsV l j).1.length ≤ 5 := by
  have := nx_rng l j 6 (by decide)
  unfold dsV
  rw [dsL_len]; simp only [zau]; omega
set_option maxHeartbeats 8000000 in
theorem dsome_spec (l : List Int) (hl6 : l.length ≤ 600) (hl : ∀ x ∈ l, -9223372036854775808 ≤ x ∧ x ≤ 9223372036854775807) (i : Nat) :
    FnSpec Try.prog 15 [dp] [dice l i] (gi (dsV l i).1 none) [some (dice l (dsV l i).2)] := by
  have hk := nx_rng l i 6 (by decide)
  have nk := next_spec l i 6 hl6 hl (by decide)
  have hle := dsV_len l i
  unfold dsV at hle ⊢
  obtain ⟨K, hK⟩ : ∃ K : Nat, nxV l i 6 = K := ⟨(nxV l i 6).toNat, by omega⟩
  rw [hK] at nk hk
  rw [hK, zbc] at hle ⊢
  obtain ⟨T, hT⟩ : ∃ T, dsL l K [] (nxA l i 6) = T := ⟨_, rfl⟩
  rw [hT] at hle ⊢
  obtain ⟨el, j⟩ := T
  simp only at hle ⊢
  generalize nxA l i 6 = j0 at *
  refine fnspec_of mixed TT_ok TT_cl ⟨fun _ => false, lendN, 1, fun _ => false, fun _ => false⟩ Try.func15 rfl (by kernel_rfl) rfl 18 rfl [.tmp 2] rfl ?_
  simp only [go_sem, zaa, zah, zai, zaj, zak, zad, ↓reduceIte, reduceCtorEq, zab, zac, zal, zam, zan, lendN]
  repeat' (first
 | (apply cl_lend
    case hr => (simp only [zae, zag, hpL', lookR, zaa, if_true, if_false]; first | exact map1 _ | exact map2 _ _ | exact map3 _ _ _)
    case ha => (simp only [zae, zag, prepV, prepC, idx, hpL', lookR, zaa, if_true, if_false]; rfl)
    case hs => rfl
    case hn => decide
    case h => (first | exact nk ..)
    case hf => (simp only [zaf, zao, false_implies, implies_true, and_true, true_and, flat_cons, flat_nil, flat_ints, flat_bools, flat_app, Cs_flat, zaS, and_self, eq_self_iff_true, zap])
    case hl => (simp only [zaq, zau]; decide))
 | ((first | refine s1_id ?_ | refine swp_id ?_ | refine sops_id ?_ | refine s2_id ?_); simp only [lendN, dice, go_sem, zaa, zah, zai, zaj, zak, zad, ↓reduceIte, reduceCtorEq, zab, zac, zal, zam, zan, zaQ, zaP, zaE, zaO, renO, bk, back, outUpsFrom, Ints_ren])
 | (intros; (try simp only [zav, zaJ, zaD, zaA, zar, zas, decide_eq_true_eq, decide_eq_false_iff_not] at *); omega))
  refine w_loop (ι := Nat × List Int × Nat) (fun s => ⟨[(0, dp), (3, .one (.osl 1 0 s.2.1.length none)), (4, i1 s.1)], [(0, some (dice l s.2.2)), (1, some ⟨Ints s.2.1, 1⟩)], 2⟩) (fun s => s.1 ≤ 5 ∧ s.2.1.length + s.1 ≤ 5 ∧ dsL l s.1 s.2.1 s.2.2 = (el, j)) (fun s => s.1) (K, [], j0) ?_ ⟨by show K ≤ 5; omega, by show 0 + K ≤ 5; omega, hT⟩ ?_
  · (refine Imp.trans (imp_nilA _ _ 3 1 99 (by simp only []; omega) rfl) ?_)
    (refine imp_ren _ _ _ [(0, 0, dice l j0), (1, 99, ⟨[], 1⟩)] (by simp) (by simp) (by simp) (zaR rfl) ?_ rfl (by simp only [zaf, zao, false_implies, implies_true, and_true, zaT, lookR, zaa, if_true, if_false, ↓reduceIte, dice] <;> (repeat' apply zay) <;> (first | rfl | trivial)) (by simp only [zaf, zao, false_implies, implies_true, and_true, true_and, flat_cons, flat_nil, flat_ints, flat_bools, flat_app, zaS, and_self, eq_self_iff_true, zap, dice]); simp only [zae, zag, zaf, zao, false_implies, implies_true, and_true, lk, slot, zaQ, zaE, toN, zaa, if_true, if_false, ↓reduceIte, reduceCtorEq])
    all_goals ((repeat' apply zay) <;> (first | rfl | trivial))
  clear hT hk nk
  rintro ⟨n, acc, i3⟩ ⟨hn, ha, hL⟩
  simp only at hn ha hL ⊢
  rcases Nat.eq_zero_or_pos n with h0 | h0
  · subst h0
    have hlt : ¬ (0 : Int) < ((0 : Nat) : Int) := by omega
    have hL' : (acc, i3) = (el, j) := hL
    obtain ⟨rfl, rfl⟩ := Prod.mk.inj hL'
    simp only [go_sem, zaa, zah, zai, zaj, zak, zad, ↓reduceIte, reduceCtorEq, zab, zac, zal, zam, zan, decide_eq_false hlt, lendN]
    repeat' (first
 | (intros; (try simp only [zav, zaJ, zaD, zaA, zar, zas, decide_eq_true_eq, decide_eq_false_iff_not] at *); omega))
    (refine fs_frz 1 ⟨Ints acc, 1⟩ (by simp only [zaT, lookR, zaa, if_true, if_false, ↓reduceIte]) (by first | exact Ints_isG _ | exact Bools_isG _ | exact Cs_isG _ | (simp [zbj]; done)) ?_; simp only [frzTm, SV.frz, SV.frzL, Cell.frz, frzHp, frzO, Ints_frz, Bools_frz, zae, zag, zaa, if_true, if_false, ↓reduceIte])
    (refine fs_flat [(0, dice l i3)] (by simp) (by simp only [zae, zag]; decide) (by simp only [go_sem, resV, resS, zaQ, zaP, zaE, zaW, zaT, idx, renO, zaO, evS, slot, lookR, zaa, ↓reduceIte, reduceCtorEq, if_true, if_false, zaM, zaN, zae, zag, sLoad, readAt, readNeed, Ints_ren, Ints_length, Ints_getD, and_true, true_and, zaG, zaH]; try decide) ?_ (by simp only [zaf, zao, false_implies, implies_true, and_true, zaT, lookR, zaa, if_true, if_false, ↓reduceIte, dice] <;> (repeat' apply zay) <;> (first | rfl | trivial)) (by simp only [zaf, zao, false_implies, implies_true, and_true, true_and, flat_cons, flat_nil, flat_ints, flat_bools, flat_app, zaS, and_self, eq_self_iff_true, zap, dice]) ?_ <;> (try simp only [go_sem, resV, resS, zaQ, zaP, zaE, zaW, zaT, idx, renO, zaO, evS, slot, lookR, zaa, ↓reduceIte, reduceCtorEq, if_true, if_false, zaM, zaN, zae, zag, sLoad, readAt, readNeed, Ints_ren, Ints_length, Ints_getD, and_true, true_and, zaG, zaH]) <;> (try rfl))
  obtain ⟨m, rfl⟩ : ∃ m', n = m' + 1 := ⟨n - 1, by omega⟩
  have hlt : (0 : Int) < ((m + 1 : Nat) : Int) := by omega
  have hmm : ((m + 1 : Nat) : Int) - 1 = (m : Int) := by omega
  have h12 := nx_rng l i3 12 (by decide)
  have n12 := next_spec l i3 12 hl6 hl (by decide)
  replace hL : dsL l m (acc ++ [nxV l i3 12 - 2]) (nxA l i3 12) = (el, j) := hL
  generalize nxV l i3 12 = v at *
  generalize nxA l i3 12 = j3 at *
  have hla : (acc ++ [v - 2]).length = acc.length + 1 := by simp
  have htk : zbh acc.length (Ints acc) = Ints acc := zaV (by rw [Ints_length]; exact Nat.le_refl _)
  have hpp : Ints acc ++ [int (v - 2)] = Ints (acc ++ [v - 2]) := by simp [Ints]
  simp only [go_sem, zaa, zah, zai, zaj, zak, zad, ↓reduceIte, reduceCtorEq, zab, zac, zal, zam, zan, decide_eq_true hlt, lendN]
  repeat' (first
 | with_reducible refine zay ?_ ?_
 | (apply cl_lend
    case hr => (simp only [zae, zag, hpL', lookR, zaa, if_true, if_false]; first | exact map1 _ | exact map2 _ _ | exact map3 _ _ _)
    case ha => (simp only [zae, zag, prepV, prepC, idx, hpL', lookR, zaa, if_true, if_false]; rfl)
    case hs => rfl
    case hn => decide
    case h => (first | exact n12 ..)
    case hf => (simp only [zaf, zao, false_implies, implies_true, and_true, true_and, flat_cons, flat_nil, flat_ints, flat_bools, flat_app, Cs_flat, zaS, and_self, eq_self_iff_true, zap])
    case hl => (simp only [zaq, zau]; decide))
 | ((first | refine s1_id ?_ | refine swp_id ?_ | refine sops_id ?_ | refine s2_id ?_); simp only [decide_eq_true hlt, lendN, dice, htk, hpp, zaB, zaF, zap, zaz, zaC, zaw, zax, zat, zaI, zaK, zaq, zau, go_sem, zaa, zah, zai, zaj, zak, zad, ↓reduceIte, reduceCtorEq, zab, zac, zal, zam, zan, zaQ, zaP, zaE, zaO, renO, bk, back, outUpsFrom, Ints_ren])
 | (intros; omega)
 | (intros; (try simp only [zav, zaJ, zaD, zaA, zar, zas, decide_eq_true_eq, decide_eq_false_iff_not] at *); omega))
  refine le_mk (m, acc ++ [v - 2], j3) ?_ ⟨by show m ≤ 5; omega, by show (acc ++ [v - 2]).length + m ≤ 5; rw [hla]; omega, hL⟩ (by show m < m + 1; omega)
  simp only [hla]
  (refine imp_ren _ _ _ [(0, 0, dice l j3), (1, 9, ⟨Ints (acc ++ [v - 2]), 1⟩)] (by simp) (by simp) (by simp) (zaR rfl) ?_ rfl (by simp only [zaf, zao, false_implies, implies_true, and_true, zaT, lookR, zaa, if_true, if_false, ↓reduceIte, dice] <;> (repeat' apply zay) <;> (first | rfl | trivial)) (by simp only [zaf, zao, false_implies, implies_true, and_true, true_and, flat_cons, flat_nil, flat_ints, flat_bools, flat_app, zaS, and_self, eq_self_iff_true, zap, dice]); simp only [zae, zag, zaf, zao, false_implies, implies_true, and_true, lk, slot, zaQ, zaE, toN, zaa, if_true, if_false, ↓reduceIte, reduceCtorEq])
  all_goals ((repeat' apply zay) <;> (first | rfl | trivial | (simp only [hmm]; done) | (simp only [hmm]; rfl) | (simp only [hmm]; trivial)))
end Go.Proofs.Ytlajelbiniakpaa
-- NEWGO
-- PRUNE: cl_lendx cl_use
-- ISG: Cs_isG
-- FLAT: Cs_flat
namespace Go.Proofs.Ytlajelbiniakpaa
set_option linter.unusedVariables false
set_option linter.unusedSimpArgs false
open Go.Proofs.Ytlajelbiniakpaa.Sh
set_option maxRecDepth 20000
structure Cd where
  p : Int
  g : Int
  n : Int
  a : Int
abbrev cdc (x : Cd) : List Cell := [int x.p, int x.g, int x.n, int x.a]
abbrev cdt (x : Cd) : SV := .agg (cdc x)
abbrev zcd : Cd := ⟨0, 0, 0, 0⟩
instance : Rec Cd := ⟨cdc, 4, zcd, fun _ => rfl, fun x c h => by
  simp only [cdc, List.mem_cons, zao, or_false] at h
  rcases h with rfl | rfl | rfl | rfl <;> rfl⟩
abbrev gD (l : List Cd) (i : Nat) : Cd := l.getD i zcd
theorem cd_td (l : List Cd) (i : Nat) (h : i < l.length) : zbh 4 (List.drop (i * 4) (Cs l)) = cdc (gD l i) := Cs_td l i h
theorem cd_len (l : List Cd) : (Cs l).length = l.length * 4 := Cs_len l
theorem cd_f (l : List Cd) (i o : Nat) (d : Cell) (h : i < l.length) (ho : o < 4) : (Cs l).getD (i * 4 + o) d = (cdc (gD l i)).getD o d := Cs_fld l i o d h ho
def pgk (n : Int) : Bool := decide (0 ≤ n) && decide (n ≤ 16777216)
def cdk (x : Cd) : Bool := pgk x.n && (decide (-1000 ≤ x.a) && decide (x.a ≤ 1000))
theorem pages_spec (n : Int) : FnSpec Try.prog 39 [i1 n] [] (b1 (pgk n)) [] := by
  refine fnspec_of mixed TT_ok TT_cl ⟨fun _ => false, fun _ => [], 0, fun _ => false, fun _ => false⟩ Try.func39 rfl (by kernel_rfl) rfl 9 rfl [.tmp 2] rfl ?_
  simp only [go_sem, zaa, zah, zai, zaj, zak, zad, ↓reduceIte, reduceCtorEq, zab, zac, zal, zam, zan]
  repeat' (first
 | exact fs_nil trivial rfl
 | fail)
theorem iscand_spec (x : Cd) : FnSpec Try.prog 38 [cdt x] [] (b1 (cdk x)) [] := by
  have h1 := pages_spec x.n
  unfold cdk
  obtain ⟨p, g, n, a⟩ := x
  simp only [cdc] at h1 ⊢
  refine fnspec_of mixed TT_ok TT_cl ⟨fun _ => false, fun _ => [], 0, fun _ => false, fun _ => false⟩ Try.func38 rfl (by kernel_rfl) rfl 16 rfl [.tmp 2] rfl ?_
  simp only [go_sem, zaa, zah, zai, zaj, zak, zad, ↓reduceIte, reduceCtorEq, zab, zac, zal, zam, zan]
  repeat' (first
 | (apply cl_plain
    case hs => rfl
    case ha => (simp only [zae, zag, prepV, prepC, idx, hpL', lookR, zaa, if_true, if_false]; rfl)
    case h => (first | exact h1 ..))
 | ((first | refine s1_id ?_ | refine swp_id ?_ | refine sops_id ?_ | refine s2_id ?_); simp only [Bool.and_assoc, zaB, zaF, zap, zaz, zaC, zaw, zax, zat, zaI, zaK, zaq, zau, go_sem, zaa, zah, zai, zaj, zak, zad, ↓reduceIte, reduceCtorEq, zab, zac, zal, zam, zan, zaQ, zaP, zaE, zaO, renO, bk, back, outUpsFrom, Ints_ren])
 | exact fs_nil trivial rfl
 | fail)
theorem sound_spec (x : Cd) : FnSpec Try.prog 51 [cdt x] [] (b1 (cdk x)) [] := by
  unfold cdk pgk
  rw [← Bool.and_assoc]
  obtain ⟨p, g, n, a⟩ := x
  simp only [cdc]
  refine fnspec_of mixed TT_ok TT_cl ⟨fun _ => false, fun _ => [], 0, fun _ => false, fun _ => false⟩ Try.func51 rfl (by kernel_rfl) rfl 21 rfl [.tmp 2] rfl ?_
  simp only [go_sem, zaa, zah, zai, zaj, zak, zad, ↓reduceIte, reduceCtorEq, zab, zac, zal, zam, zan]
  repeat' (first
 | exact fs_nil trivial rfl
 | fail)
def scr (x : Cd) (t : Int) : Int := x.n + ((x.a * t).tdiv 1000 - if (x.a * t).tmod 1000 < 0 then 1 else 0)
theorem cdk_iff {x : Cd} : cdk x = true ↔ (0 ≤ x.n ∧ x.n ≤ 16777216) ∧ -1000 ≤ x.a ∧ x.a ≤ 1000 := by
  unfold cdk pgk
  simp only [zav, decide_eq_true_eq]
theorem pgk_iff {n : Int} : pgk n = true ↔ 0 ≤ n ∧ n ≤ 16777216 := by
  unfold pgk
  simp only [zav, decide_eq_true_eq]
theorem mul_rng {a t : Int} (h1 : -1000 ≤ a ∧ a ≤ 1000) (h2 : 0 ≤ t ∧ t ≤ 16777216) : -16777216000 ≤ a * t ∧ a * t ≤ 16777216000 := by
  have u1 : a * t ≤ 1000 * t := Int.mul_le_mul_of_nonneg_right h1.2 h2.1
  have u2 : -1000 * t ≤ a * t := Int.mul_le_mul_of_nonneg_right h1.1 h2.1
  omega
theorem tm_rng (m : Int) : -1000 < m.tmod 1000 ∧ m.tmod 1000 < 1000 := by
  rcases Int.le_total 0 m with h | h
  · have := Int.tmod_nonneg 1000 h
    have := Int.tmod_lt_of_pos m (show (0 : Int) < 1000 by decide)
    omega
  · have a1 := Int.tmod_nonneg 1000 (show 0 ≤ -m by omega)
    have a2 := Int.tmod_lt_of_pos (-m) (show (0 : Int) < 1000 by decide)
    rw [Int.neg_tmod] at a1 a2
    omega
set_option maxHeartbeats 4000000 in
theorem score_spec (x : Cd) (t : Int) (hx : cdk x = true) (ht : pgk t = true) : FnSpec Try.prog 40 [cdt x, i1 t] [] (i1 (scr x t)) [] := by
  obtain ⟨h1, h2⟩ := cdk_iff.1 hx
  have h3 := pgk_iff.1 ht
  have hm := mul_rng h2 h3
  unfold scr
  clear hx ht
  obtain ⟨p, g, n, a⟩ := x
  simp only [cdc] at h1 h2 hm ⊢
  have hd : -16777216000 ≤ (a * t).tdiv 1000 ∧ (a * t).tdiv 1000 ≤ 16777216000 := by
    have h1 : (a * t).tmod 1000 = a * t - 1000 * (a * t).tdiv 1000 := Int.tmod_def _ 1000
    have h2 : -1000 < (a * t).tmod 1000 ∧ (a * t).tmod 1000 < 1000 := tm_rng _
    omega
  by_cases c : (a * t).tmod 1000 < 0
  · rw [if_pos c]
    refine fnspec_of mixed TT_ok TT_cl ⟨fun _ => false, fun _ => [], 0, fun _ => false, fun _ => false⟩ Try.func40 rfl (by kernel_rfl) rfl 22 rfl [.tmp 4] rfl ?_
    simp only [go_sem, zaa, zah, zai, zaj, zak, zad, ↓reduceIte, reduceCtorEq, zab, zac, zal, zam, zan, decide_eq_true c]
    repeat' (first
 | with_reducible refine zay ?_ ?_
 | (intros; omega)
 | exact fs_nil trivial rfl
 | fail)
  · rw [if_neg c, Int.sub_zero]
    refine fnspec_of mixed TT_ok TT_cl ⟨fun _ => false, fun _ => [], 0, fun _ => false, fun _ => false⟩ Try.func40 rfl (by kernel_rfl) rfl 22 rfl [.tmp 4] rfl ?_
    simp only [go_sem, zaa, zah, zai, zaj, zak, zad, ↓reduceIte, reduceCtorEq, zab, zac, zal, zam, zan, decide_eq_false c]
    repeat' (first
 | with_reducible refine zay ?_ ?_
 | (intros; omega)
 | exact fs_nil trivial rfl
 | fail)
set_option maxHeartbeats 4000000 in
theorem rscore_spec (x : Cd) (t : Int) (hx : cdk x = true) (ht : pgk t = true) : FnSpec Try.prog 50 [cdt x, i1 t] [] (i1 (scr x t)) [] := by
  obtain ⟨h1, h2⟩ := cdk_iff.1 hx
  have h3 := pgk_iff.1 ht
  have hm := mul_rng h2 h3
  unfold scr
  clear hx ht
  obtain ⟨p, g, n, a⟩ := x
  simp only [cdc] at h1 h2 hm ⊢
  have hd : -16777216000 ≤ (a * t).tdiv 1000 ∧ (a * t).tdiv 1000 ≤ 16777216000 := by
    have h1 : (a * t).tmod 1000 = a * t - 1000 * (a * t).tdiv 1000 := Int.tmod_def _ 1000
    have h2 : -1000 < (a * t).tmod 1000 ∧ (a * t).tmod 1000 < 1000 := tm_rng _
    omega
  by_cases c : (a * t).tmod 1000 < 0
  · rw [if_pos c]
    refine fnspec_of mixed TT_ok TT_cl ⟨fun _ => false, fun _ => [], 0, fun _ => false, fun _ => false⟩ Try.func50 rfl (by kernel_rfl) rfl 22 rfl [.tmp 4] rfl ?_
    simp only [go_sem, zaa, zah, zai, zaj, zak, zad, ↓reduceIte, reduceCtorEq, zab, zac, zal, zam, zan, decide_eq_true c]
    repeat' (first
 | with_reducible refine zay ?_ ?_
 | (intros; omega)
 | exact fs_nil trivial rfl
 | fail)
  · rw [if_neg c, Int.sub_zero]
    refine fnspec_of mixed TT_ok TT_cl ⟨fun _ => false, fun _ => [], 0, fun _ => false, fun _ => false⟩ Try.func50 rfl (by kernel_rfl) rfl 22 rfl [.tmp 4] rfl ?_
    simp only [go_sem, zaa, zah, zai, zaj, zak, zad, ↓reduceIte, reduceCtorEq, zab, zac, zal, zam, zan, decide_eq_false c]
    repeat' (first
 | with_reducible refine zay ?_ ?_
 | (intros; omega)
 | exact fs_nil trivial rfl
 | fail)
def scM (x : Cd) (t : Int) : Int × Int := if cdk x = true then (if pgk t = true then (scr x t, 0) else (0, 3)) else (0, 1)
theorem kscore_spec (x : Cd) (t : Int) : FnSpec Try.prog 20 [cdt x, i1 t] [] (.tup [i1 (scM x t).1, i1 (scM x t).2]) [] := by
  have h1 := iscand_spec x
  have h2 := pages_spec t
  unfold scM
  cases hx : cdk x with
  | false =>
    rw [hx] at h1
    rw [if_neg (by decide)]
    obtain ⟨p, g, n, a⟩ := x
    simp only [cdc] at h1 ⊢
    refine fnspec_of mixed TT_ok TT_cl ⟨fun _ => false, fun _ => [], 0, fun _ => false, fun _ => false⟩ Try.func20 rfl (by kernel_rfl) rfl 15 rfl [.tmp 4, .tmp 5] rfl ?_
    simp only [go_sem, zaa, zah, zai, zaj, zak, zad, ↓reduceIte, reduceCtorEq, zab, zac, zal, zam, zan]
    repeat' (first
 | (apply cl_plain
    case hs => rfl
    case ha => (simp only [zae, zag, prepV, prepC, idx, hpL', lookR, zaa, if_true, if_false]; rfl)
    case h => (first | exact h1 ..))
 | ((first | refine s1_id ?_ | refine swp_id ?_ | refine sops_id ?_ | refine s2_id ?_); simp only [zaB, zaF, zap, zaz, zaC, zaw, zax, zat, zaI, zaK, zaq, zau, go_sem, zaa, zah, zai, zaj, zak, zad, ↓reduceIte, reduceCtorEq, zab, zac, zal, zam, zan, zaQ, zaP, zaE, zaO, renO, bk, back, outUpsFrom, Ints_ren])
 | exact fs_nil trivial rfl
 | fail)
  | true =>
  rw [hx] at h1
  rw [if_pos rfl]
  cases ht : pgk t with
  | false =>
    rw [ht] at h2
    rw [if_neg (by decide)]
    clear hx
    obtain ⟨p, g, n, a⟩ := x
    simp only [cdc] at h1 ⊢
    refine fnspec_of mixed TT_ok TT_cl ⟨fun _ => false, fun _ => [], 0, fun _ => false, fun _ => false⟩ Try.func20 rfl (by kernel_rfl) rfl 15 rfl [.tmp 4, .tmp 5] rfl ?_
    simp only [go_sem, zaa, zah, zai, zaj, zak, zad, ↓reduceIte, reduceCtorEq, zab, zac, zal, zam, zan]
    repeat' (first
 | (apply cl_plain
    case hs => rfl
    case ha => (simp only [zae, zag, prepV, prepC, idx, hpL', lookR, zaa, if_true, if_false]; rfl)
    case h => (first | exact h1 .. | exact h2 ..))
 | ((first | refine s1_id ?_ | refine swp_id ?_ | refine sops_id ?_ | refine s2_id ?_); simp only [zaB, zaF, zap, zaz, zaC, zaw, zax, zat, zaI, zaK, zaq, zau, go_sem, zaa, zah, zai, zaj, zak, zad, ↓reduceIte, reduceCtorEq, zab, zac, zal, zam, zan, zaQ, zaP, zaE, zaO, renO, bk, back, outUpsFrom, Ints_ren])
 | exact fs_nil trivial rfl
 | fail)
  | true =>
  rw [ht] at h2
  rw [if_pos rfl]
  have h3 := score_spec x t hx ht
  clear hx
  generalize scr x t = v at *
  obtain ⟨p, g, n, a⟩ := x
  simp only [cdc] at h1 h3 ⊢
  refine fnspec_of mixed TT_ok TT_cl ⟨fun _ => false, fun _ => [], 0, fun _ => false, fun _ => false⟩ Try.func20 rfl (by kernel_rfl) rfl 15 rfl [.tmp 4, .tmp 5] rfl ?_
  simp only [go_sem, zaa, zah, zai, zaj, zak, zad, ↓reduceIte, reduceCtorEq, zab, zac, zal, zam, zan]
  repeat' (first
 | (apply cl_plain
    case hs => rfl
    case ha => (simp only [zae, zag, prepV, prepC, idx, hpL', lookR, zaa, if_true, if_false]; rfl)
    case h => (first | exact h1 .. | exact h2 .. | exact h3 ..))
 | ((first | refine s1_id ?_ | refine swp_id ?_ | refine sops_id ?_ | refine s2_id ?_); simp only [zaB, zaF, zap, zaz, zaC, zaw, zax, zat, zaI, zaK, zaq, zau, go_sem, zaa, zah, zai, zaj, zak, zad, ↓reduceIte, reduceCtorEq, zab, zac, zal, zam, zan, zaQ, zaP, zaE, zaO, renO, bk, back, outUpsFrom, Ints_ren])
 | exact fs_nil trivial rfl
 | fail)
theorem rkscore_spec (x : Cd) (t : Int) : FnSpec Try.prog 31 [cdt x, i1 t] [] (.tup [i1 (scM x t).1, i1 (scM x t).2]) [] := by
  have h1 := sound_spec x
  unfold scM
  cases hx : cdk x with
  | false =>
    rw [hx] at h1
    rw [if_neg (by decide)]
    obtain ⟨p, g, n, a⟩ := x
    simp only [cdc] at h1 ⊢
    refine fnspec_of mixed TT_ok TT_cl ⟨fun _ => false, fun _ => [], 0, fun _ => false, fun _ => false⟩ Try.func31 rfl (by kernel_rfl) rfl 18 rfl [.tmp 4, .tmp 5] rfl ?_
    simp only [go_sem, zaa, zah, zai, zaj, zak, zad, ↓reduceIte, reduceCtorEq, zab, zac, zal, zam, zan]
    repeat' (first
 | (apply cl_plain
    case hs => rfl
    case ha => (simp only [zae, zag, prepV, prepC, idx, hpL', lookR, zaa, if_true, if_false]; rfl)
    case h => (first | exact h1 ..))
 | ((first | refine s1_id ?_ | refine swp_id ?_ | refine sops_id ?_ | refine s2_id ?_); simp only [zaB, zaF, zap, zaz, zaC, zaw, zax, zat, zaI, zaK, zaq, zau, go_sem, zaa, zah, zai, zaj, zak, zad, ↓reduceIte, reduceCtorEq, zab, zac, zal, zam, zan, zaQ, zaP, zaE, zaO, renO, bk, back, outUpsFrom, Ints_ren])
 | exact fs_nil trivial rfl
 | fail)
  | true =>
  rw [hx] at h1
  rw [if_pos rfl]
  by_cases ht : pgk t = true
  case neg =>
    have ht' : (t < 0) ∨ (¬ t < 0 ∧ 16777216 < t) := by
      rcases Int.lt_or_le t 0 with c | c
      · exact .inl c
      · rcases Int.lt_or_le 16777216 t with c2 | c2
        · exact .inr ⟨by omega, c2⟩
        · exact absurd (pgk_iff.2 ⟨c, c2⟩) ht
    rw [if_neg ht]
    clear hx
    obtain ⟨p, g, n, a⟩ := x
    simp only [cdc] at h1 ⊢
    rcases ht' with c | ⟨c, c2⟩
    · refine fnspec_of mixed TT_ok TT_cl ⟨fun _ => false, fun _ => [], 0, fun _ => false, fun _ => false⟩ Try.func31 rfl (by kernel_rfl) rfl 18 rfl [.tmp 4, .tmp 5] rfl ?_
      simp only [go_sem, zaa, zah, zai, zaj, zak, zad, ↓reduceIte, reduceCtorEq, zab, zac, zal, zam, zan, decide_eq_true c]
      repeat' (first
 | (apply cl_plain
    case hs => rfl
    case ha => (simp only [zae, zag, prepV, prepC, idx, hpL', lookR, zaa, if_true, if_false]; rfl)
    case h => (first | exact h1 ..))
 | ((first | refine s1_id ?_ | refine swp_id ?_ | refine sops_id ?_ | refine s2_id ?_); simp only [decide_eq_true c, zaB, zaF, zap, zaz, zaC, zaw, zax, zat, zaI, zaK, zaq, zau, go_sem, zaa, zah, zai, zaj, zak, zad, ↓reduceIte, reduceCtorEq, zab, zac, zal, zam, zan, zaQ, zaP, zaE, zaO, renO, bk, back, outUpsFrom, Ints_ren])
 | exact fs_nil trivial rfl
 | fail)
    · refine fnspec_of mixed TT_ok TT_cl ⟨fun _ => false, fun _ => [], 0, fun _ => false, fun _ => false⟩ Try.func31 rfl (by kernel_rfl) rfl 18 rfl [.tmp 4, .tmp 5] rfl ?_
      simp only [go_sem, zaa, zah, zai, zaj, zak, zad, ↓reduceIte, reduceCtorEq, zab, zac, zal, zam, zan, decide_eq_false c, decide_eq_true c2]
      repeat' (first
 | (apply cl_plain
    case hs => rfl
    case ha => (simp only [zae, zag, prepV, prepC, idx, hpL', lookR, zaa, if_true, if_false]; rfl)
    case h => (first | exact h1 ..))
 | ((first | refine s1_id ?_ | refine swp_id ?_ | refine sops_id ?_ | refine s2_id ?_); simp only [decide_eq_false c, decide_eq_true c2, zaB, zaF, zap, zaz, zaC, zaw, zax, zat, zaI, zaK, zaq, zau, go_sem, zaa, zah, zai, zaj, zak, zad, ↓reduceIte, reduceCtorEq, zab, zac, zal, zam, zan, zaQ, zaP, zaE, zaO, renO, bk, back, outUpsFrom, Ints_ren])
 | exact fs_nil trivial rfl
 | fail)
  have h3 := rscore_spec x t hx ht
  rw [if_pos ht]
  have h4 := pgk_iff.1 ht
  have c : ¬ t < 0 := by omega
  have c2 : ¬ 16777216 < t := by omega
  clear hx
  generalize scr x t = v at *
  obtain ⟨p, g, n, a⟩ := x
  simp only [cdc] at h1 h3 ⊢
  refine fnspec_of mixed TT_ok TT_cl ⟨fun _ => false, fun _ => [], 0, fun _ => false, fun _ => false⟩ Try.func31 rfl (by kernel_rfl) rfl 18 rfl [.tmp 4, .tmp 5] rfl ?_
  simp only [go_sem, zaa, zah, zai, zaj, zak, zad, ↓reduceIte, reduceCtorEq, zab, zac, zal, zam, zan, decide_eq_false c, decide_eq_false c2]
  repeat' (first
 | (apply cl_plain
    case hs => rfl
    case ha => (simp only [zae, zag, prepV, prepC, idx, hpL', lookR, zaa, if_true, if_false]; rfl)
    case h => (first | exact h1 .. | exact h3 ..))
 | ((first | refine s1_id ?_ | refine swp_id ?_ | refine sops_id ?_ | refine s2_id ?_); simp only [decide_eq_false c, decide_eq_false c2, zaB, zaF, zap, zaz, zaC, zaw, zax, zat, zaI, zaK, zaq, zau, go_sem, zaa, zah, zai, zaj, zak, zad, ↓reduceIte, reduceCtorEq, zab, zac, zal, zam, zan, zaQ, zaP, zaE, zaO, renO, bk, back, outUpsFrom, Ints_ren])
 | exact fs_nil trivial rfl
 | fail)
theorem kix_spec (x : Nd) (id : Int) : FnSpec Try.prog 71 [.agg (Rec.cs x), i1 id] [] (i1 (cmpv (Nd.i x) id)) [] := by
  show FnSpec Try.prog 71 [.agg (ndc x), i1 id] [] (i1 (cmpv (Nd.i x) id)) []
  obtain ⟨xi, xp, xn, xc, xk, xo⟩ := x
  simp only [ndc]
  have h1 := cmp_spec xi id
  refine fnspec_of mixed TT_ok TT_cl ⟨fun _ => false, fun _ => [], 0, fun _ => false, fun _ => false⟩ Try.func71 rfl (by kernel_rfl) rfl 9 rfl [.tmp 4] rfl ?_
  simp only [go_sem, zaa, zah, zai, zaj, zak, zad, ↓reduceIte, reduceCtorEq, zab, zac, zal, zam, zan]
  repeat' (first
 | (apply cl_plain
    case hs => rfl
    case ha => (simp only [zae, zag, prepV, prepC, idx, hpL', lookR, zaa, if_true, if_false]; rfl)
    case h => (first | exact h1 ..))
 | ((first | refine s1_id ?_ | refine swp_id ?_ | refine sops_id ?_ | refine s2_id ?_); simp only [zaB, zaF, zap, zaz, zaC, zaw, zax, zat, zaI, zaK, zaq, zau, go_sem, zaa, zah, zai, zaj, zak, zad, ↓reduceIte, reduceCtorEq, zab, zac, zal, zam, zan, zaQ, zaP, zaE, zaO, renO, bk, back, outUpsFrom, Ints_ren])
 | exact fs_nil trivial rfl
 | fail)
theorem known_spec (l : List Nd) (n id : Int) (hl : l.length ≤ 1000000) : FnSpec Try.prog 53 [trV l none n, i1 id] [] (b1 (bsF Nd.i l id)) [] := by
  have h1 := nd_bs 71 l id (fun x _ => kix_spec x id) none (by omega)
  refine fnspec_of mixed TT_ok TT_cl ⟨fun _ => false, fun _ => [], 0, fun _ => false, fun _ => false⟩ Try.func53 rfl (by kernel_rfl) rfl 15 rfl [.tmp 4] rfl ?_
  simp only [go_sem, zaa, zah, zai, zaj, zak, zad, ↓reduceIte, reduceCtorEq, zab, zac, zal, zam, zan]
  repeat' (first
 | (apply cl_plain
    case hs => rfl
    case ha => (simp only [zae, zag, prepV, prepC, idx, hpL', lookR, zaa, if_true, if_false]; rfl)
    case h => (first | exact h1 ..))
 | ((first | refine s1_id ?_ | refine swp_id ?_ | refine sops_id ?_ | refine s2_id ?_); simp only [zaB, zaF, zap, zaz, zaC, zaw, zax, zat, zaI, zaK, zaq, zau, go_sem, zaa, zah, zai, zaj, zak, zad, ↓reduceIte, reduceCtorEq, zab, zac, zal, zam, zan, zaQ, zaP, zaE, zaO, renO, bk, back, outUpsFrom, Ints_ren])
 | exact fs_nil trivial rfl
 | fail)
def vaF (l : List Nd) : List Cd → Int → Bool
  | [], _ => true
  | x :: r, last => decide (last < x.p) && (bsF Nd.i l x.g && (cdk x && vaF l r x.p))
def vaM (l : List Nd) (n : Int) (C : List Cd) : Bool := chkT l n && (decide (C.length ≤ 128) && vaF l C 0)
set_option maxHeartbeats 8000000 in
theorem kvalid_spec (l : List Nd) (n : Int) (C : List Cd) (k : Option Nat) (hl : l.length ≤ 1000000) (hC : C.length ≤ 9223372036854775806) (hnm : NmR l) (hct : CtR l) : FnSpec Try.prog 32 [trV l none n, gr C k] [] (b1 (vaM l n C)) [] := by
  have h1 := tchk_spec l n hl hnm hct
  have hcl := cd_len C
  unfold vaM
  cases hc : chkT l n with
  | false =>
    rw [hc] at h1
    rw [zbg]
    refine fnspec_of mixed TT_ok TT_cl ⟨fun _ => false, fun _ => [], 0, fun _ => false, fun _ => false⟩ Try.func32 rfl (by kernel_rfl) rfl 41 rfl [.tmp 4] rfl ?_
    simp only [go_sem, zaa, zah, zai, zaj, zak, zad, ↓reduceIte, reduceCtorEq, zab, zac, zal, zam, zan]
    repeat' (first
 | (apply cl_plain
    case hs => rfl
    case ha => (simp only [zae, zag, prepV, prepC, idx, hpL', lookR, zaa, if_true, if_false]; rfl)
    case h => (first | exact h1 ..))
 | ((first | refine s1_id ?_ | refine swp_id ?_ | refine sops_id ?_ | refine s2_id ?_); simp only [zaB, zaF, zap, zaz, zaC, zaw, zax, zat, zaI, zaK, zaq, zau, go_sem, zaa, zah, zai, zaj, zak, zad, ↓reduceIte, reduceCtorEq, zab, zac, zal, zam, zan, zaQ, zaP, zaE, zaO, renO, bk, back, outUpsFrom, Ints_ren])
 | exact fs_nil trivial rfl
 | fail)
  | true =>
  rw [hc] at h1
  rw [zbk]
  by_cases c128 : 128 < (C.length : Int)
  · rw [decide_eq_false (by omega : ¬ C.length ≤ 128), zbg]
    refine fnspec_of mixed TT_ok TT_cl ⟨fun _ => false, fun _ => [], 0, fun _ => false, fun _ => false⟩ Try.func32 rfl (by kernel_rfl) rfl 41 rfl [.tmp 4] rfl ?_
    simp only [go_sem, zaa, zah, zai, zaj, zak, zad, ↓reduceIte, reduceCtorEq, zab, zac, zal, zam, zan, decide_eq_true c128]
    repeat' (first
 | (apply cl_plain
    case hs => rfl
    case ha => (simp only [zae, zag, prepV, prepC, idx, hpL', lookR, zaa, if_true, if_false]; rfl)
    case h => (first | exact h1 ..))
 | ((first | refine s1_id ?_ | refine swp_id ?_ | refine sops_id ?_ | refine s2_id ?_); simp only [decide_eq_true c128, zaB, zaF, zap, zaz, zaC, zaw, zax, zat, zaI, zaK, zaq, zau, go_sem, zaa, zah, zai, zaj, zak, zad, ↓reduceIte, reduceCtorEq, zab, zac, zal, zam, zan, zaQ, zaP, zaE, zaO, renO, bk, back, outUpsFrom, Ints_ren])
 | exact fs_nil trivial rfl
 | fail)
  rw [decide_eq_true (by omega : C.length ≤ 128), zbk]
  obtain ⟨B, hB⟩ : ∃ B, vaF l C 0 = B := ⟨_, rfl⟩
  rw [hB]
  refine fnspec_of mixed TT_ok TT_cl ⟨fun _ => false, fun _ => [], 0, fun _ => false, fun _ => false⟩ Try.func32 rfl (by kernel_rfl) rfl 41 rfl [.tmp 4] rfl ?_
  simp only [go_sem, zaa, zah, zai, zaj, zak, zad, ↓reduceIte, reduceCtorEq, zab, zac, zal, zam, zan, decide_eq_false c128]
  repeat' (first
 | (apply cl_plain
    case hs => rfl
    case ha => (simp only [zae, zag, prepV, prepC, idx, hpL', lookR, zaa, if_true, if_false]; rfl)
    case h => (first | exact h1 ..))
 | ((first | refine s1_id ?_ | refine swp_id ?_ | refine sops_id ?_ | refine s2_id ?_); simp only [decide_eq_false c128, zaB, zaF, zap, zaz, zaC, zaw, zax, zat, zaI, zaK, zaq, zau, go_sem, zaa, zah, zai, zaj, zak, zad, ↓reduceIte, reduceCtorEq, zab, zac, zal, zam, zan, zaQ, zaP, zaE, zaO, renO, bk, back, outUpsFrom, Ints_ren])
 | (intros; (try simp only [zav, zaJ, zaD, zaA, zar, zas, decide_eq_true_eq, decide_eq_false_iff_not] at *); omega))
  refine w_loop (ι := Nat × Int) (fun s => ⟨[(2, .one (.optr 0 0)), (5, i1 s.2), (16, gr C k), (17, i1 C.length), (18, i1 s.1)], [(0, some ⟨[.gsl (Cs l) 0 l.length none, int n], 2⟩)], 1⟩) (fun s => s.1 ≤ C.length ∧ vaF l (C.drop s.1) s.2 = B) (fun s => C.length - s.1) (0, 0) ?_ ⟨zaU _, hB⟩ ?_
  · (refine imp_ren _ _ _ [(0, 0, ⟨[.gsl (Cs l) 0 l.length none, int n], 2⟩)] (by simp) (by simp) (by simp) (zaR rfl) ?_ rfl (by simp only [zaf, zao, false_implies, implies_true, and_true, zaT, lookR, zaa, if_true, if_false, ↓reduceIte] <;> (repeat' apply zay) <;> (first | rfl | trivial)) (by simp only [zaf, zao, false_implies, implies_true, and_true, true_and, flat_cons, flat_nil, flat_ints, flat_bools, flat_app, zaS, and_self, eq_self_iff_true, zap]); simp only [zae, zag, zaf, zao, false_implies, implies_true, and_true, lk, slot, zaQ, zaE, toN, zaa, if_true, if_false, ↓reduceIte, reduceCtorEq])
    all_goals ((repeat' apply zay) <;> (first | rfl | trivial))
  rintro ⟨m, last⟩ ⟨hm, hI⟩
  simp only at hm hI ⊢
  rcases zbb m C.length with hlt | hge
  case inr =>
    have c : ¬ (m : Int) < (C.length : Int) := by omega
    rw [zaZ hge, vaF] at hI
    rw [← hI]
    simp only [go_sem, zaa, zah, zai, zaj, zak, zad, ↓reduceIte, reduceCtorEq, zab, zac, zal, zam, zan, decide_eq_false c]
    repeat' (first
 | exact fs_nil trivial rfl
 | fail)
  have c : (m : Int) < (C.length : Int) := by omega
  have hat := cd_td C m hlt
  rw [drop_getD C m zcd hlt, vaF] at hI
  have k1 := known_spec l n (gD C m).g hl
  have k2 := iscand_spec (gD C m)
  have hI : (decide (last < (gD C m).p) && (bsF Nd.i l (gD C m).g && (cdk (gD C m) && vaF l (C.drop (m + 1)) (gD C m).p))) = B := hI
  generalize cdk (gD C m) = ck at *
  generalize bsF Nd.i l (gD C m).g = bk at *
  generalize gD C m = x at *
  obtain ⟨p, g, n', a⟩ := x
  simp only [cdc] at hat k1 k2 hI
  by_cases c1 : p ≤ last
  · rw [decide_eq_false (by omega : ¬ last < p), zbg] at hI
    rw [← hI]
    simp only [go_sem, zaa, zah, zai, zaj, zak, zad, ↓reduceIte, reduceCtorEq, zab, zac, zal, zam, zan, decide_eq_true c, decide_eq_true c1, hat]
    repeat' (first
 | with_reducible refine zay ?_ ?_
 | (intros; omega)
 | exact fs_nil trivial rfl
 | fail)
  rw [decide_eq_true (by omega : last < p), zbk] at hI
  cases bk with
  | false =>
    rw [zbg] at hI
    rw [← hI]
    simp only [go_sem, zaa, zah, zai, zaj, zak, zad, ↓reduceIte, reduceCtorEq, zab, zac, zal, zam, zan, decide_eq_true c, decide_eq_false c1, hat]
    repeat' (first
 | with_reducible refine zay ?_ ?_
 | (apply cg_tp
    case hl => rfl
    case ha => (simp only [zae, zag, prepV, prepC, idx, hpL', lookR, zaa, if_true, if_false]; rfl)
    case hs => rfl
    case h => (first | exact k1 ..))
 | ((first | refine s1_id ?_ | refine swp_id ?_ | refine sops_id ?_ | refine s2_id ?_); simp only [decide_eq_true c, decide_eq_false c1, hat, zaB, zaF, zap, zaz, zaC, zaw, zax, zat, zaI, zaK, zaq, zau, go_sem, zaa, zah, zai, zaj, zak, zad, ↓reduceIte, reduceCtorEq, zab, zac, zal, zam, zan, zaQ, zaP, zaE, zaO, renO, bk, back, outUpsFrom, Ints_ren])
 | (intros; omega)
 | exact fs_nil trivial rfl
 | fail)
  | true =>
  rw [zbk] at hI
  cases ck with
  | false =>
    rw [zbg] at hI
    rw [← hI]
    simp only [go_sem, zaa, zah, zai, zaj, zak, zad, ↓reduceIte, reduceCtorEq, zab, zac, zal, zam, zan, decide_eq_true c, decide_eq_false c1, hat]
    repeat' (first
 | with_reducible refine zay ?_ ?_
 | (apply cg_tp
    case hl => rfl
    case ha => (simp only [zae, zag, prepV, prepC, idx, hpL', lookR, zaa, if_true, if_false]; rfl)
    case hs => rfl
    case h => (first | exact k1 .. | exact k2 ..))
 | ((first | refine s1_id ?_ | refine swp_id ?_ | refine sops_id ?_ | refine s2_id ?_); simp only [decide_eq_true c, decide_eq_false c1, hat, zaB, zaF, zap, zaz, zaC, zaw, zax, zat, zaI, zaK, zaq, zau, go_sem, zaa, zah, zai, zaj, zak, zad, ↓reduceIte, reduceCtorEq, zab, zac, zal, zam, zan, zaQ, zaP, zaE, zaO, renO, bk, back, outUpsFrom, Ints_ren])
 | (intros; omega)
 | exact fs_nil trivial rfl
 | fail)
  | true =>
  rw [zbk] at hI
  simp only [go_sem, zaa, zah, zai, zaj, zak, zad, ↓reduceIte, reduceCtorEq, zab, zac, zal, zam, zan, decide_eq_true c, decide_eq_false c1, hat]
  repeat' (first
 | with_reducible refine zay ?_ ?_
 | (apply cg_tp
    case hl => rfl
    case ha => (simp only [zae, zag, prepV, prepC, idx, hpL', lookR, zaa, if_true, if_false]; rfl)
    case hs => rfl
    case h => (first | exact k1 .. | exact k2 ..))
 | ((first | refine s1_id ?_ | refine swp_id ?_ | refine sops_id ?_ | refine s2_id ?_); simp only [decide_eq_true c, decide_eq_false c1, hat, zaB, zaF, zap, zaz, zaC, zaw, zax, zat, zaI, zaK, zaq, zau, go_sem, zaa, zah, zai, zaj, zak, zad, ↓reduceIte, reduceCtorEq, zab, zac, zal, zam, zan, zaQ, zaP, zaE, zaO, renO, bk, back, outUpsFrom, Ints_ren])
 | (intros; omega)
 | (intros; (try simp only [zav, zaJ, zaD, zaA, zar, zas, decide_eq_true_eq, decide_eq_false_iff_not] at *); omega))
  refine le_mk (m + 1, p) ?_ ⟨hlt, hI⟩ (by show C.length - (m + 1) < C.length - m; omega)
  (refine imp_ren _ _ _ [(0, 0, ⟨[.gsl (Cs l) 0 l.length none, int n], 2⟩)] (by simp) (by simp) (by simp) (zaR rfl) ?_ rfl (by simp only [zaf, zao, false_implies, implies_true, and_true, zaT, lookR, zaa, if_true, if_false, ↓reduceIte] <;> (repeat' apply zay) <;> (first | rfl | trivial)) (by simp only [zaf, zao, false_implies, implies_true, and_true, true_and, flat_cons, flat_nil, flat_ints, flat_bools, flat_app, zaS, and_self, eq_self_iff_true, zap]); simp only [zae, zag, zaf, zao, false_implies, implies_true, and_true, lk, slot, zaQ, zaE, toN, zaa, if_true, if_false, ↓reduceIte, reduceCtorEq])
  all_goals ((repeat' apply zay) <;> (first | rfl | trivial | (simp only [zaL]; done) | (simp only [zaL]; rfl) | (simp only [zaL]; trivial)))
end Go.Proofs.Ytlajelbiniakpaa
-- NEWGO
-- PRUNE: cl_use
-- ISG: Cs_isG
-- FLAT: Cs_flat
namespace Go.Proofs.Ytlajelbiniakpaa
set_option linter.unusedVariables false
set_option linter.unusedSimpArgs false
open Go.Proofs.Ytlajelbiniakpaa.Sh
set_option maxRecDepth 20000
def ixI (id : Int) : List Int → Nat → Int
  | [], _ => -1
  | y :: ys, i => if id = y then (i : Int) else ixI id ys (i + 1)
theorem ixI_mem (id : Int) : ∀ (ys : List Int) (i : Nat), decide (0 ≤ ixI id ys i) = decide (id ∈ ys)
  | [], i => by simp [ixI]
  | y :: ys, i => by
    rw [ixI]
    by_cases h : id = y
    · rw [if_pos h]; simp [h]
    · rw [if_neg h, ixI_mem id ys]; simp [h]
theorem kcix_spec (xs : List Int) (c : Option Nat) (id : Int) (hl : xs.length ≤ 9223372036854775807) : FnSpec Try.prog 54 [gi xs c, i1 id] [] (i1 (ixI id xs 0)) [] := by
  refine fnspec_of mixed TT_ok TT_cl ⟨fun _ => false, fun _ => [], 0, fun _ => false, fun _ => false⟩ Try.func54 rfl (by kernel_rfl) rfl 19 rfl [.tmp 4] rfl ?_
  simp only [go_sem, zaa, zah, zai, zaj, zak, zad, ↓reduceIte, reduceCtorEq, zab, zac, zal, zam, zan]
  repeat' (first
 | (intros; (try simp only [zav, zaJ, zaD, zaA, zar, zas, decide_eq_true_eq, decide_eq_false_iff_not] at *); omega))
  refine w_loop (ι := Nat) (fun m => ⟨[(0, gi xs c), (1, i1 id), (7, i1 xs.length), (8, i1 m)], [], 0⟩) (fun m => m ≤ xs.length ∧ ixI id xs 0 = ixI id (xs.drop m) m) (fun m => xs.length - m) 0 ?_ ⟨zaU _, rfl⟩ ?_
  · (refine imp_sub _ _ _ [] (by simp) (by simp) (by simp) (zaU _) ?_ rfl (by simp); simp only [zaf, zao, false_implies, implies_true, and_true, lk, slot, zaQ, zaE, zaa, if_true, if_false, ↓reduceIte, reduceCtorEq])
    all_goals ((repeat' apply zay) <;> (first | rfl | trivial))
  rintro m ⟨hm, hI⟩
  simp only at hm hI ⊢
  rcases zbb m xs.length with hlt | hge
  case inr =>
    have c2 : ¬ (m : Int) < (xs.length : Int) := by omega
    rw [zaZ hge] at hI
    rw [hI]
    simp only [go_sem, zaa, zah, zai, zaj, zak, zad, ↓reduceIte, reduceCtorEq, zab, zac, zal, zam, zan, decide_eq_false c2, ixI]
    repeat' (first
 | exact fs_nil trivial rfl
 | fail)
  have c2 : (m : Int) < (xs.length : Int) := by omega
  rw [drop_getD xs m 0 hlt, ixI] at hI
  by_cases h : id = xs.getD m 0
  · rw [if_pos h] at hI
    rw [hI]
    simp only [go_sem, zaa, zah, zai, zaj, zak, zad, ↓reduceIte, reduceCtorEq, zab, zac, zal, zam, zan, decide_eq_true c2, decide_eq_true h]
    repeat' (first
 | with_reducible refine zay ?_ ?_
 | (intros; omega)
 | exact fs_nil trivial rfl
 | fail)
  · rw [if_neg h] at hI
    simp only [go_sem, zaa, zah, zai, zaj, zak, zad, ↓reduceIte, reduceCtorEq, zab, zac, zal, zam, zan, decide_eq_true c2, decide_eq_false h]
    repeat' (first
 | with_reducible refine zay ?_ ?_
 | (intros; omega)
 | (intros; (try simp only [zav, zaJ, zaD, zaA, zar, zas, decide_eq_true_eq, decide_eq_false_iff_not] at *); omega))
    refine le_mk (m + 1) ?_ ⟨hlt, hI⟩ (by omega)
    (refine imp_sub _ _ _ [] (by simp) (by simp) (by simp) (zaU _) ?_ rfl (by simp); simp only [zaf, zao, false_implies, implies_true, and_true, lk, slot, zaQ, zaE, zaa, if_true, if_false, ↓reduceIte, reduceCtorEq])
    all_goals ((repeat' apply zay) <;> (first | rfl | trivial | (simp only [zaL]; done) | (simp only [zaL]; rfl) | (simp only [zaL]; trivial)))
theorem kccon_spec (xs : List Int) (c : Option Nat) (id : Int) (hl : xs.length ≤ 9223372036854775807) : FnSpec Try.prog 35 [gi xs c, i1 id] [] (b1 (decide (id ∈ xs))) [] := by
  have h1 := kcix_spec xs c id hl
  rw [← ixI_mem id xs 0]
  refine fnspec_of mixed TT_ok TT_cl ⟨fun _ => false, fun _ => [], 0, fun _ => false, fun _ => false⟩ Try.func35 rfl (by kernel_rfl) rfl 9 rfl [.tmp 4] rfl ?_
  simp only [go_sem, zaa, zah, zai, zaj, zak, zad, ↓reduceIte, reduceCtorEq, zab, zac, zal, zam, zan]
  repeat' (first
 | (apply cl_plain
    case hs => rfl
    case ha => (simp only [zae, zag, prepV, prepC, idx, hpL', lookR, zaa, if_true, if_false]; rfl)
    case h => (first | exact h1 ..))
 | ((first | refine s1_id ?_ | refine swp_id ?_ | refine sops_id ?_ | refine s2_id ?_); simp only [go_sem, zaa, zah, zai, zaj, zak, zad, ↓reduceIte, reduceCtorEq, zab, zac, zal, zam, zan, zaQ, zaP, zaE, zaO, renO, bk, back, outUpsFrom, Ints_ren])
 | exact fs_nil trivial rfl
 | fail)
set_option maxHeartbeats 4000000 in
theorem cd_ix (g : FuncId) (c0 : List Cell) (q : Cd → Bool) (xs : List (Cd)) (hg : ∀ x ∈ xs, FnSpec Try.prog g [.agg (Rec.cs x), .one (.gptr c0 0)] [] (b1 (q x)) []) (cap : Option Nat)
    (hs : xs.length ≤ 9223372036854775807) : FnSpec Try.prog 76 [gr xs cap, .one (.fn g [.gptr c0 0])] [] (i1 (ixR q xs 0)) [] := by
  refine fnspec_of mixed TT_ok TT_cl ⟨fun _ => false, fun _ => [], 0, fun _ => false, fun _ => false⟩ Try.func76 rfl (by kernel_rfl) rfl 19 rfl [.tmp 4] rfl ?_
  simp only [go_sem, zaa, zah, zai, zaj, zak, zad, ↓reduceIte, reduceCtorEq, zab, zac, zal, zam, zan]
  repeat' (first
 | (intros; (try simp only [zav, zaJ, zaD, zaA, zar, zas, decide_eq_true_eq, decide_eq_false_iff_not] at *); omega))
  refine w_loop (ι := Nat) (fun i => ⟨[(0, gr xs cap), (1, .one (.fn g [.gptr c0 0])), (7, i1 xs.length), (8, i1 i)], [], 0⟩) (fun i => i ≤ xs.length ∧ ixR q xs 0 = ixR q (xs.drop i) i) (fun i => xs.length - i) 0 ?_ ⟨zaU _, rfl⟩ ?_
  · (refine imp_sub _ _ _ [] (by simp) (by simp) (by simp) (zaU _) ?_ rfl (by simp); simp only [zaf, zao, false_implies, implies_true, and_true, lk, slot, zaQ, zaE, zaa, if_true, if_false, ↓reduceIte, reduceCtorEq])
    all_goals ((repeat' apply zay) <;> (first | rfl | trivial))
  rintro i ⟨hi, he⟩
  simp only at hi he ⊢
  rcases zbb i xs.length with hlt | hge
  case inr =>
    have hlt' : ¬ (i : Int) < (xs.length : Int) := by omega
    rw [zaZ hge] at he
    rw [he]
    simp only [go_sem, zaa, zah, zai, zaj, zak, zad, ↓reduceIte, reduceCtorEq, zab, zac, zal, zam, zan, decide_eq_false hlt', ixR]
    repeat' (first
 | exact fs_nil trivial rfl
 | fail)
  have hlt' : (i : Int) < (xs.length : Int) := by omega
  have hcl : (Cs xs).length = xs.length * 4 := Cs_len xs
  have hat : zbh 4 (List.drop (i * 4) (Cs xs)) = Rec.cs (xs.getD i Rec.z) := Cs_td xs i hlt
  have hm := getD_mem xs i Rec.z hlt
  have hc := hg _ hm
  rw [drop_getD xs i Rec.z hlt, ixR] at he
  have hrl : (Rec.cs (xs.getD i Rec.z)).length = 4 := Rec.len _
  have hrg := Rec.g (xs.getD i Rec.z)
  generalize xs.getD i Rec.z = b at *
  have hcs : Rec.cs b = [int b.p, int b.g, int b.n, int b.a] := rfl
  rw [hcs] at hat hc
  clear hrl hrg
  cases hqb : q b with
  | true =>
    rw [hqb] at hc he
    simp only [if_true] at he
    rw [he]
    simp only [go_sem, zaa, zah, zai, zaj, zak, zad, ↓reduceIte, reduceCtorEq, zab, zac, zal, zam, zan, decide_eq_true hlt', hat]
    repeat' (first
 | with_reducible refine zay ?_ ?_
 | (apply cl_plain
    case hs => rfl
    case ha => (simp only [zae, zag, prepV, prepC, idx, hpL', lookR, zaa, if_true, if_false]; rfl)
    case h => (first | exact hc ..))
 | ((first | refine s1_id ?_ | refine swp_id ?_ | refine sops_id ?_ | refine s2_id ?_); simp only [decide_eq_true hlt', hat, go_sem, zaa, zah, zai, zaj, zak, zad, ↓reduceIte, reduceCtorEq, zab, zac, zal, zam, zan, zaQ, zaP, zaE, zaO, renO, bk, back, outUpsFrom, Ints_ren])
 | (intros; omega)
 | exact fs_nil trivial rfl
 | fail)
  | false =>
    rw [hqb] at hc he
    simp only [Bool.false_eq_true, if_false] at he
    simp only [go_sem, zaa, zah, zai, zaj, zak, zad, ↓reduceIte, reduceCtorEq, zab, zac, zal, zam, zan, decide_eq_true hlt', hat]
    repeat' (first
 | with_reducible refine zay ?_ ?_
 | (apply cl_plain
    case hs => rfl
    case ha => (simp only [zae, zag, prepV, prepC, idx, hpL', lookR, zaa, if_true, if_false]; rfl)
    case h => (first | exact hc ..))
 | ((first | refine s1_id ?_ | refine swp_id ?_ | refine sops_id ?_ | refine s2_id ?_); simp only [decide_eq_true hlt', hat, go_sem, zaa, zah, zai, zaj, zak, zad, ↓reduceIte, reduceCtorEq, zab, zac, zal, zam, zan, zaQ, zaP, zaE, zaO, renO, bk, back, outUpsFrom, Ints_ren])
 | (intros; omega)
 | (intros; (try simp only [zav, zaJ, zaD, zaA, zar, zas, decide_eq_true_eq, decide_eq_false_iff_not] at *); omega))
    refine le_mk (i + 1) ?_ ⟨by omega, he⟩ (by omega)
    (refine imp_sub _ _ _ [] (by simp) (by simp) (by simp) (zaU _) ?_ rfl (by simp); simp only [zaf, zao, false_implies, implies_true, and_true, lk, slot, zaQ, zaE, zaa, if_true, if_false, ↓reduceIte, reduceCtorEq])
    all_goals ((repeat' apply zay) <;> (first | rfl | trivial | (simp only [zaL]; done) | (simp only [zaL]; rfl) | (simp only [zaL]; trivial)))
theorem cd_cl (xs : List (Cd)) (c : Option Nat) (hl : xs.length ≤ 1000000) : FnSpec Try.prog 64 [gr xs c] [] (.one (.osl 0 0 xs.length none)) [some ⟨Cs xs, 4⟩] := by
  have hts : zbh (xs.length * 4) (Cs xs) = Cs xs := Cs_all xs _ (Nat.le_refl _)
  have hil : (Cs xs).length = xs.length * 4 := Cs_len xs
  by_cases h0 : 0 < xs.length
  · refine fnspec_of mixed TT_ok TT_cl ⟨fun _ => false, fun _ => [], 0, fun _ => false, fun _ => false⟩ Try.func64 rfl (by kernel_rfl) rfl 8 rfl [.tmp 2] rfl ?_
    simp only [go_sem, zaa, zah, zai, zaj, zak, zad, ↓reduceIte, reduceCtorEq, zab, zac, zal, zam, zan, hts, hil]
    repeat' (first
 | with_reducible refine zay ?_ ?_
 | (intros; omega)
 | (intros; (try simp only [zav, zaJ, zaD, zaA, zar, zas, decide_eq_true_eq, decide_eq_false_iff_not] at *); omega))
    (refine fs_flat [(5, ⟨Cs xs, 4⟩)] (by simp) (by simp only [zae, zag]; decide) (by simp only [go_sem, resV, resS, zaQ, zaP, zaE, zaW, zaT, idx, renO, zaO, evS, slot, lookR, zaa, ↓reduceIte, reduceCtorEq, if_true, if_false, zaM, zaN, zae, zag, sLoad, readAt, readNeed, Ints_ren, Ints_length, Ints_getD, and_true, true_and, zaG, zaH]; try decide) ?_ (by simp only [zaf, zao, false_implies, implies_true, and_true, zaT, lookR, zaa, if_true, if_false, ↓reduceIte, Cs_flat] <;> (repeat' apply zay) <;> (first | rfl | trivial)) (by simp only [zaf, zao, false_implies, implies_true, and_true, true_and, flat_cons, flat_nil, flat_ints, flat_bools, flat_app, zaS, and_self, eq_self_iff_true, zap, Cs_flat]) ?_ <;> (try simp only [go_sem, resV, resS, zaQ, zaP, zaE, zaW, zaT, idx, renO, zaO, evS, slot, lookR, zaa, ↓reduceIte, reduceCtorEq, if_true, if_false, zaM, zaN, zae, zag, sLoad, readAt, readNeed, Ints_ren, Ints_length, Ints_getD, and_true, true_and, zaG, zaH]) <;> (try rfl))
  · have hn : xs = [] := List.length_eq_zero_iff.1 (by omega)
    subst hn
    refine FnSpec.niln (FnSpec.nilrow 4 ?_) (fun ad cc => ?_)
    · refine fnspec_of mixed TT_ok TT_cl ⟨fun _ => false, fun _ => [], 0, fun _ => false, fun _ => false⟩ Try.func64 rfl (by kernel_rfl) rfl 8 rfl [.tmp 2] rfl ?_
      simp only [go_sem, zaa, zah, zai, zaj, zak, zad, ↓reduceIte, reduceCtorEq, zab, zac, zal, zam, zan]
      repeat' (first
 | exact fs_nil trivial rfl
 | fail)
    · refine fnspec_of mixed TT_ok TT_cl ⟨fun _ => false, fun _ => [], 0, fun _ => false, fun _ => false⟩ Try.func64 rfl (by kernel_rfl) rfl 8 rfl [.tmp 2] rfl ?_
      simp only [go_sem, zaa, zah, zai, zaj, zak, zad, ↓reduceIte, reduceCtorEq, zab, zac, zal, zam, zan]
      repeat' (first
 | (intros; (try simp only [zav, zaJ, zaD, zaA, zar, zas, decide_eq_true_eq, decide_eq_false_iff_not] at *); omega))
      (refine fs_flat [(5, ⟨[], 4⟩)] (by simp) (by simp only [zae, zag]; decide) (by simp only [go_sem, resV, resS, zaQ, zaP, zaE, zaW, zaT, idx, renO, zaO, evS, slot, lookR, zaa, ↓reduceIte, reduceCtorEq, if_true, if_false, zaM, zaN, zae, zag, sLoad, readAt, readNeed, Ints_ren, Ints_length, Ints_getD, and_true, true_and, zaG, zaH]; try decide) ?_ (by simp only [zaf, zao, false_implies, implies_true, and_true, zaT, lookR, zaa, if_true, if_false, ↓reduceIte, Cs_flat] <;> (repeat' apply zay) <;> (first | rfl | trivial)) (by simp only [zaf, zao, false_implies, implies_true, and_true, true_and, flat_cons, flat_nil, flat_ints, flat_bools, flat_app, zaS, and_self, eq_self_iff_true, zap, Cs_flat]) ?_ <;> (try simp only [go_sem, resV, resS, zaQ, zaP, zaE, zaW, zaT, idx, renO, zaO, evS, slot, lookR, zaa, ↓reduceIte, reduceCtorEq, if_true, if_false, zaM, zaN, zae, zag, sLoad, readAt, readNeed, Ints_ren, Ints_length, Ints_getD, and_true, true_and, zaG, zaH]) <;> (try rfl))
theorem ixR_no (q : Cd → Bool) : ∀ (xs : List Cd) (i : Nat), (∀ x ∈ xs, q x = false) → ixR q xs i = -1
  | [], _, _ => rfl
  | x :: r, i, h => by
    rw [ixR, h x zaX]
    exact ixR_no q r (i + 1) (fun y hy => h y (zaY _ hy))
theorem ixR_yes (q : Cd → Bool) : ∀ (xs : List Cd) (i : Nat), ¬ (∀ x ∈ xs, q x = false) → ∃ t : Nat, ixR q xs i = (i + t : Nat) ∧ t < xs.length ∧ (∀ j, j < t → q (gD xs j) = false) ∧ q (gD xs t) = true
  | [], _, h => absurd (fun x hx => by cases hx) h
  | x :: r, i, h => by
    rw [ixR]
    cases hq : q x with
    | true => exact ⟨0, rfl, Nat.succ_pos _, fun j hj => absurd hj (Nat.not_lt_zero _), hq⟩
    | false =>
      obtain ⟨t, e, ht, h1, h2⟩ := ixR_yes q r (i + 1) (fun h2 => h fun y hy => by
        rcases List.mem_cons.1 hy with rfl | hy
        · exact hq
        · exact h2 y hy)
      refine ⟨t + 1, ?_, Nat.succ_lt_succ ht, fun j hj => ?_, h2⟩
      · show ixR q r (i + 1) = _
        rw [e]; congr 1; omega
      · cases j with
        | zero => exact hq
        | succ j => exact h1 j (by omega)
theorem kp_take (q : Cd → Bool) (xs : List Cd) (j : Nat) (h : j < xs.length) : (xs.take (j + 1)).filter (fun x => !q x) = (xs.take j).filter (fun x => !q x) ++ (if q (gD xs j) = true then [] else [gD xs j]) := by
  rw [take_getD xs j zcd h, List.filter_append]
  cases hq : q (gD xs j) with
  | true => rw [List.filter_cons_of_neg (by show ¬ (!q (gD xs j)) = true; rw [hq]; decide)]; rfl
  | false => rw [List.filter_cons_of_pos (by show (!q (gD xs j)) = true; rw [hq]; rfl)]; rfl
theorem lay_take (cs : List Cell) (o : Nat) (m : List Cell) (h : o ≤ cs.length) : (layAt cs o m).take o = cs.take o := by
  unfold layAt
  rw [List.append_assoc, List.take_append_of_le_length (by rw [zbi]; omega), List.take_take, Nat.min_self]
theorem flat_g (k : Nat) (z : List Cell) (hz : ∀ c ∈ z, c.isG = true) : ∀ c ∈ (zbe k z).flatten, c.isG = true := fun c hc => by
  obtain ⟨l, hl, hcl⟩ := List.mem_flatten.1 hc
  rw [List.eq_of_mem_replicate hl] at hcl
  exact hz c hcl
theorem filter_take_all {q : Cd → Bool} {xs : List Cd} {t : Nat} (ht : t ≤ xs.length) (hb : ∀ j, j < t → q (gD xs j) = false) : (xs.take t).filter (fun x => !q x) = xs.take t := List.filter_eq_self.2 fun x hx => by
  obtain ⟨j, hj, rfl⟩ := List.mem_iff_getElem.1 hx
  rw [zbi] at hj
  have := hb j (by omega)
  rw [show gD xs j = xs[j] from getD_at xs j zcd (by omega)] at this
  rw [List.getElem_take, this]
  rfl
theorem lay_g {cs m : List Cell} {o : Nat} (h1 : ∀ c ∈ cs, c.isG = true) (h2 : ∀ c ∈ m, c.isG = true) : ∀ c ∈ layAt cs o m, c.isG = true := fun c hc => by
  unfold layAt at hc
  rcases List.mem_append.1 hc with hc | hc
  · rcases List.mem_append.1 hc with hc | hc
    · exact h1 c (List.mem_of_mem_take hc)
    · exact h2 c hc
  · exact h1 c (List.mem_of_mem_drop hc)
set_option maxHeartbeats 16000000 in
theorem delf_spec (g : FuncId) (c0 : List Cell) (q : Cd → Bool) (xs : List Cd) (hg : ∀ x ∈ xs, FnSpec Try.prog g [cdt x, .one (.gptr c0 0)] [] (b1 (q x)) []) (hl : xs.length ≤ 1000000) : FnSpec Try.prog 63 [.one (.osl 0 0 xs.length none), .one (.fn g [.gptr c0 0])] [⟨Cs xs, 4⟩] (gr (xs.filter (fun x => !q x)) none) [none] := by
  refine FnSpec.capk (fun c hc => ?_)
  have h1 := fun k => cd_ix g c0 q xs (fun x hx => hg x hx) k (by omega)
  have hcl := cd_len xs
  by_cases hno : ∀ x ∈ xs, q x = false
  · have e1 : xs.filter (fun x => !q x) = xs := List.filter_eq_self.2 fun x hx => by simp [hno x hx]
    rw [e1]
    simp only [ixR_no q xs 0 hno] at h1
    refine fnspec_of mixed TT_ok TT_cl ⟨fun _ => false, fun _ => [], 1, fun _ => false, fun _ => false⟩ Try.func63 rfl (by kernel_rfl) rfl 42 rfl [.tmp 4] rfl ?_
    simp only [go_sem, zaa, zah, zai, zaj, zak, zad, ↓reduceIte, reduceCtorEq, zab, zac, zal, zam, zan]
    repeat' (first
 | (apply cl_show
    case ha => (simp only [zae, zag, prepV, prepC, idx, hpL', lookR, zaa, if_true, if_false]; rfl)
    case hs => ((simp [snaps, SV.refs, zaS, idx, hpL', lookR]) <;> (repeat' apply zay) <;> (first | exact Ints_isG _ | exact Cs_isG _))
    case h => (first | exact h1 ..)
    case hg => ((simp [SV.noG, SV.noGL, zbl]) <;> (repeat' apply zay) <;> exact Ints_noG _))
 | ((first | refine s1_id ?_ | refine swp_id ?_ | refine sops_id ?_ | refine s2_id ?_); simp only [zaB, zaF, zap, zaz, zaC, zaw, zax, zat, zaI, zaK, zaq, zau, go_sem, zaa, zah, zai, zaj, zak, zad, ↓reduceIte, reduceCtorEq, zab, zac, zal, zam, zan, zaQ, zaP, zaE, zaO, renO, bk, back, outUpsFrom, Ints_ren])
 | (intros; (try simp only [zav, zaJ, zaD, zaA, zar, zas, decide_eq_true_eq, decide_eq_false_iff_not] at *); omega))
    (refine fs_frz 0 ⟨Cs xs, 4⟩ (by simp only [zaT, lookR, zaa, if_true, if_false, ↓reduceIte]) (by first | exact Ints_isG _ | exact Bools_isG _ | exact Cs_isG _ | (simp [zbj]; done)) ?_; simp only [frzTm, SV.frz, SV.frzL, Cell.frz, frzHp, frzO, Ints_frz, Bools_frz, zae, zag, zaa, if_true, if_false, ↓reduceIte])
    refine fs_res (res0 := .one (.gsl (Cs xs) 0 xs.length (some c))) (svw_of (cw_cap _ _ _ _)) ?_
    (refine fs_mk [0] (by simp) (by decide) (by simp only [go_sem, resV, resS, zaQ, zaP, zaE, zaW, zaT, idx, renO, zaO, evS, slot, lookR, zaa, ↓reduceIte, reduceCtorEq, if_true, if_false, zaM, zaN, zae, zag, sLoad, readAt, readNeed, Ints_ren, Ints_length, Ints_getD, and_true, true_and, zaG, zaH]; try decide) ?_ ?_ ?_ <;> (try simp only [go_sem, resV, resS, zaQ, zaP, zaE, zaW, zaT, idx, renO, zaO, evS, slot, lookR, zaa, ↓reduceIte, reduceCtorEq, if_true, if_false, zaM, zaN, zae, zag, sLoad, readAt, readNeed, Ints_ren, Ints_length, Ints_getD, and_true, true_and, zaG, zaH, zaT, lookR, renO, zaO, zaE, idx, zae, zag, Ints_ren, zaf, zao, false_implies, implies_true, Option.some.injEq, forall_eq', and_true, true_and, frzHp, frzO, Cs_ren]) <;> (try rfl) <;> (try ((repeat' apply zay) <;> (first | trivial | exact fun c hc q hq => absurd hq (Ints_refs0 _ _ c hc) | (simp [zaS]; done)))))
  · obtain ⟨t, e1, ht, hb, hq⟩ := ixR_yes q xs 0 hno
    rw [Nat.zero_add] at e1
    simp only [e1] at h1
    refine fnspec_of mixed TT_ok TT_cl ⟨fun _ => false, fun _ => [], 1, fun _ => false, fun _ => false⟩ Try.func63 rfl (by kernel_rfl) rfl 42 rfl [.tmp 4] rfl ?_
    simp only [go_sem, zaa, zah, zai, zaj, zak, zad, ↓reduceIte, reduceCtorEq, zab, zac, zal, zam, zan]
    repeat' (first
 | with_reducible refine zay ?_ ?_
 | (apply cl_show
    case ha => (simp only [zae, zag, prepV, prepC, idx, hpL', lookR, zaa, if_true, if_false]; rfl)
    case hs => ((simp [snaps, SV.refs, zaS, idx, hpL', lookR]) <;> (repeat' apply zay) <;> (first | exact Ints_isG _ | exact Cs_isG _))
    case h => (first | exact h1 ..)
    case hg => ((simp [SV.noG, SV.noGL, zbl]) <;> (repeat' apply zay) <;> exact Ints_noG _))
 | ((first | refine s1_id ?_ | refine swp_id ?_ | refine sops_id ?_ | refine s2_id ?_); simp only [zaB, zaF, zap, zaz, zaC, zaw, zax, zat, zaI, zaK, zaq, zau, go_sem, zaa, zah, zai, zaj, zak, zad, ↓reduceIte, reduceCtorEq, zab, zac, zal, zam, zan, zaQ, zaP, zaE, zaO, renO, bk, back, outUpsFrom, Ints_ren])
 | (intros; omega)
 | (intros; (try simp only [zav, zaJ, zaD, zaA, zar, zas, decide_eq_true_eq, decide_eq_false_iff_not] at *); omega))
    refine w_loop (ι := Nat × Nat × List Cd) (fun s => ⟨[(0, .one (.osl 0 0 xs.length (some c))), (1, .one (.fn g [.gptr c0 0])), (5, i1 s.2.1), (6, i1 s.1)], [(0, some ⟨Cs s.2.2, 4⟩)], 1⟩) (fun s => s.1 ≤ xs.length ∧ s.2.1 < s.1 ∧ s.2.2.length = xs.length ∧ s.2.2.take s.2.1 = (xs.take s.1).filter (fun x => !q x) ∧ s.2.2.drop s.1 = xs.drop s.1) (fun s => xs.length - s.1) (t + 1, t, xs) ?_ ⟨ht, Nat.lt_succ_self t, rfl, ?_, rfl⟩ ?_
    · (refine imp_ren _ _ _ [(0, 0, ⟨Cs xs, 4⟩)] (by simp) (by simp) (by simp) (zaR rfl) ?_ rfl (by simp only [zaf, zao, false_implies, implies_true, and_true, zaT, lookR, zaa, if_true, if_false, ↓reduceIte, Cs_flat] <;> (repeat' apply zay) <;> (first | rfl | trivial)) (by simp only [zaf, zao, false_implies, implies_true, and_true, true_and, flat_cons, flat_nil, flat_ints, flat_bools, flat_app, zaS, and_self, eq_self_iff_true, zap, Cs_flat]); simp only [zae, zag, zaf, zao, false_implies, implies_true, and_true, lk, slot, zaQ, zaE, toN, zaa, if_true, if_false, ↓reduceIte, reduceCtorEq])
      all_goals ((repeat' apply zay) <;> (first | rfl | trivial | (simp only [zaL]; done) | (simp only [zaL]; rfl) | (simp only [zaL]; trivial)));;
    · show xs.take t = _
      rw [kp_take q xs t ht, if_pos hq, zap, filter_take_all (by omega) hb]
    clear h1
    rintro ⟨j, i, R⟩ ⟨hj, hij, hRl, hRt, hRd⟩
    simp only at hj hij hRl hRt hRd ⊢
    have hrl := cd_len R
    rcases zbb j xs.length with hlt | hge
    case inr =>
      have cc : ¬ (j : Int) < (xs.length : Int) := by omega
      rw [zaV hge] at hRt
      rw [← hRt]
      have hM : ∀ m, (layAt (Cs R) (i * 4) m).take (i * 4) = Cs (R.take i) := fun m => by
        rw [lay_take _ _ _ (by rw [hrl]; exact Nat.mul_le_mul_right 4 (by omega))]; exact Cs_take R i
      have t0 : Int.toNat 0 = 0 := rfl
      have hti : (R.take i).length = i := by rw [zbi]; omega
      simp only [go_sem, zaa, zah, zai, zaj, zak, zad, ↓reduceIte, reduceCtorEq, zab, zac, zal, zam, zan, decide_eq_false cc]
      repeat' (first
 | with_reducible refine zay ?_ ?_
 | (intros; omega)
 | (intros; (try simp only [zav, zaJ, zaD, zaA, zar, zas, decide_eq_true_eq, decide_eq_false_iff_not] at *); omega))
      all_goals try (intro row hrow; cases hrow; rfl)
      rw [show gr (R.take i) none = .one (.gsl (Cs (R.take i)) 0 i none) from by show SV.one (.gsl (Cs (R.take i)) 0 (R.take i).length none) = _; rw [hti], ← hM ((zbe (xs.length - i) [zba (Value.int IntKind.i64 0), zba (Value.int IntKind.i64 0), zba (Value.int IntKind.i64 0), zba (Value.int IntKind.i64 0)]).flatten)]
      have hZ : ∀ z ∈ layAt (Cs R) (i * 4) ((zbe (xs.length - i) [zba (Value.int IntKind.i64 0), zba (Value.int IntKind.i64 0), zba (Value.int IntKind.i64 0), zba (Value.int IntKind.i64 0)]).flatten), z.isG = true := lay_g (Cs_isG R) (flat_g _ _ (fun z hz => by
        simp only [List.mem_cons, zao, or_false] at hz
        rcases hz with rfl | rfl | rfl | rfl <;> rfl))
      have hZf : ∀ r cs, (layAt (Cs R) (i * 4) ((zbe (xs.length - i) [zba (Value.int IntKind.i64 0), zba (Value.int IntKind.i64 0), zba (Value.int IntKind.i64 0), zba (Value.int IntKind.i64 0)]).flatten)).map (Cell.frz r cs) = layAt (Cs R) (i * 4) ((zbe (xs.length - i) [zba (Value.int IntKind.i64 0), zba (Value.int IntKind.i64 0), zba (Value.int IntKind.i64 0), zba (Value.int IntKind.i64 0)]).flatten) := fun r cs => map_id_of (fun z hz => isG_frz (hZ z hz) r cs)
      clear hM
      generalize layAt (Cs R) (i * 4) ((zbe (xs.length - i) [zba (Value.int IntKind.i64 0), zba (Value.int IntKind.i64 0), zba (Value.int IntKind.i64 0), zba (Value.int IntKind.i64 0)]).flatten) = M at *
      refine fs_res (res0 := .one (.gsl M 0 i (some c))) (svw_of (cw_trans (cw_take _ _ _ _ _) (cw_cap _ _ _ _))) ?_
      refine fs_frz 0 ⟨M, 4⟩ (by first | (simp only [zaT, lookR, zaa, if_true, if_false, ↓reduceIte, reduceCtorEq]; done) | rfl) hZ ?_
      simp only [frzTm, SV.frz, SV.frzL, Cell.frz, frzHp, frzO, hZf, Cs_frz, zae, zag, zaa, if_true, if_false, ↓reduceIte]
      (refine fs_mk [0] (by simp) (by decide) (by simp only [go_sem, resV, resS, zaQ, zaP, zaE, zaW, zaT, idx, renO, zaO, evS, slot, lookR, zaa, ↓reduceIte, reduceCtorEq, if_true, if_false, zaM, zaN, zae, zag, sLoad, readAt, readNeed, Ints_ren, Ints_length, Ints_getD, and_true, true_and, zaG, zaH]; try decide) ?_ ?_ ?_ <;> (try simp only [go_sem, resV, resS, zaQ, zaP, zaE, zaW, zaT, idx, renO, zaO, evS, slot, lookR, zaa, ↓reduceIte, reduceCtorEq, if_true, if_false, zaM, zaN, zae, zag, sLoad, readAt, readNeed, Ints_ren, Ints_length, Ints_getD, and_true, true_and, zaG, zaH, zaT, lookR, renO, zaO, zaE, idx, zae, zag, Ints_ren, zaf, zao, false_implies, implies_true, Option.some.injEq, forall_eq', and_true, true_and, frzHp, frzO, hZf]) <;> (try rfl) <;> (try ((repeat' apply zay) <;> (first | trivial | exact fun c hc q hq => absurd hq (Ints_refs0 _ _ c hc) | (simp [zaS]; done)))))
    have cc : (j : Int) < (xs.length : Int) := by omega
    have hv : gD R j = gD xs j := by
      have e := congrArg (fun l => l.getD 0 zcd) hRd
      simp only [List.getD_eq_getElem?_getD, List.getElem?_drop, Nat.add_zero] at e
      simpa only [List.getD_eq_getElem?_getD] using e
    have hat : zbh 4 (List.drop (j * 4) (Cs R)) = cdc (gD R j) := cd_td R j (by omega)
    rw [hv] at hat
    have hg1 := hg _ (getD_mem xs j zcd hlt)
    have hg1 : FnSpec Try.prog g [cdt (gD xs j), .one (.gptr c0 0)] [] (b1 (q (gD xs j))) [] := hg1
    have hkt := kp_take q xs j hlt
    have hRd2 : R.drop (j + 1) = xs.drop (j + 1) := by
      have e := congrArg (fun l => l.drop 1) hRd
      simpa only [List.drop_drop] using e
    have hset : putAt (Cs R) (i * 4) (cdc (gD xs j)) = Cs (R.set i (gD xs j)) := Cs_set R i (gD xs j) (by omega)
    have hsl : (R.set i (gD xs j)).length = xs.length := by rw [List.length_set]; exact hRl
    have hst : (R.set i (gD xs j)).take (i + 1) = R.take i ++ [gD xs j] := by
      rw [take_getD _ i zcd (by rw [List.length_set]; omega), List.take_set_of_le (by omega)]
      congr 1
      rw [List.getD_eq_getElem?_getD, List.getElem?_set_self (by omega)]; rfl
    have hsd : (R.set i (gD xs j)).drop (j + 1) = xs.drop (j + 1) := by rw [List.drop_set_of_lt (by omega)]; exact hRd2
    generalize R.set i (gD xs j) = R2 at *
    cases hqv : q (gD xs j) with
    | true =>
      rw [hqv] at hg1
      rw [hqv, if_pos rfl, zap] at hkt
      clear hst hset
      generalize gD xs j = x at *
      obtain ⟨xp, xg, xn, xa⟩ := x
      simp only [cdc] at hat hg1
      simp only [go_sem, zaa, zah, zai, zaj, zak, zad, ↓reduceIte, reduceCtorEq, zab, zac, zal, zam, zan, decide_eq_true cc, hat]
      repeat' (first
 | with_reducible refine zay ?_ ?_
 | (apply cl_plain
    case hs => rfl
    case ha => (simp only [zae, zag, prepV, prepC, idx, hpL', lookR, zaa, if_true, if_false]; rfl)
    case h => (first | exact hg1 ..))
 | ((first | refine s1_id ?_ | refine swp_id ?_ | refine sops_id ?_ | refine s2_id ?_); simp only [decide_eq_true cc, hat, zaB, zaF, zap, zaz, zaC, zaw, zax, zat, zaI, zaK, zaq, zau, go_sem, zaa, zah, zai, zaj, zak, zad, ↓reduceIte, reduceCtorEq, zab, zac, zal, zam, zan, zaQ, zaP, zaE, zaO, renO, bk, back, outUpsFrom, Ints_ren])
 | (intros; omega)
 | (intros; (try simp only [zav, zaJ, zaD, zaA, zar, zas, decide_eq_true_eq, decide_eq_false_iff_not] at *); omega))
      refine le_mk (j + 1, i, R) ?_ ⟨hlt, by show i < j + 1; omega, hRl, hRt.trans hkt.symm, hRd2⟩ (by show xs.length - (j + 1) < xs.length - j; omega)
      (refine imp_ren _ _ _ [(0, 0, ⟨Cs R, 4⟩)] (by simp) (by simp) (by simp) (zaR rfl) ?_ rfl (by simp only [zaf, zao, false_implies, implies_true, and_true, zaT, lookR, zaa, if_true, if_false, ↓reduceIte, Cs_flat] <;> (repeat' apply zay) <;> (first | rfl | trivial)) (by simp only [zaf, zao, false_implies, implies_true, and_true, true_and, flat_cons, flat_nil, flat_ints, flat_bools, flat_app, zaS, and_self, eq_self_iff_true, zap, Cs_flat]); simp only [zae, zag, zaf, zao, false_implies, implies_true, and_true, lk, slot, zaQ, zaE, toN, zaa, if_true, if_false, ↓reduceIte, reduceCtorEq])
      all_goals ((repeat' apply zay) <;> (first | rfl | trivial | (simp only [zaL]; done) | (simp only [zaL]; rfl) | (simp only [zaL]; trivial)))
    | false =>
      rw [hqv] at hg1
      rw [hqv, if_neg (by decide), ← hRt, ← hst] at hkt
      clear hst
      generalize gD xs j = x at *
      obtain ⟨xp, xg, xn, xa⟩ := x
      simp only [cdc] at hat hg1 hset
      simp only [go_sem, zaa, zah, zai, zaj, zak, zad, ↓reduceIte, reduceCtorEq, zab, zac, zal, zam, zan, decide_eq_true cc, hat, hset]
      repeat' (first
 | with_reducible refine zay ?_ ?_
 | (apply cl_plain
    case hs => rfl
    case ha => (simp only [zae, zag, prepV, prepC, idx, hpL', lookR, zaa, if_true, if_false]; rfl)
    case h => (first | exact hg1 ..))
 | ((first | refine s1_id ?_ | refine swp_id ?_ | refine sops_id ?_ | refine s2_id ?_); simp only [decide_eq_true cc, hat, hset, zaB, zaF, zap, zaz, zaC, zaw, zax, zat, zaI, zaK, zaq, zau, go_sem, zaa, zah, zai, zaj, zak, zad, ↓reduceIte, reduceCtorEq, zab, zac, zal, zam, zan, zaQ, zaP, zaE, zaO, renO, bk, back, outUpsFrom, Ints_ren])
 | (intros; omega)
 | (intros; (try simp only [zav, zaJ, zaD, zaA, zar, zas, decide_eq_true_eq, decide_eq_false_iff_not] at *); omega))
      refine le_mk (j + 1, i + 1, R2) ?_ ⟨hlt, by show i + 1 < j + 1; omega, hsl, hkt.symm, hsd⟩ (by show xs.length - (j + 1) < xs.length - j; omega)
      (refine imp_ren _ _ _ [(0, 0, ⟨Cs R2, 4⟩)] (by simp) (by simp) (by simp) (zaR rfl) ?_ rfl (by simp only [zaf, zao, false_implies, implies_true, and_true, zaT, lookR, zaa, if_true, if_false, ↓reduceIte, Cs_flat] <;> (repeat' apply zay) <;> (first | rfl | trivial)) (by simp only [zaf, zao, false_implies, implies_true, and_true, true_and, flat_cons, flat_nil, flat_ints, flat_bools, flat_app, zaS, and_self, eq_self_iff_true, zap, Cs_flat]); simp only [zae, zag, zaf, zao, false_implies, implies_true, and_true, lk, slot, zaQ, zaE, toN, zaa, if_true, if_false, ↓reduceIte, reduceCtorEq])
      all_goals ((repeat' apply zay) <;> (first | rfl | trivial | (simp only [zaL]; done) | (simp only [zaL]; rfl) | (simp only [zaL]; trivial)))
end Go.Proofs.Ytlajelbiniakpaa
-- NEWGO
-- PRUNE: cl_lendx cl_use
-- ISG: Cs_isG
-- FLAT: Cs_flat
namespace Go.Proofs.Ytlajelbiniakpaa
set_option linter.unusedVariables false
set_option linter.unusedSimpArgs false
open Go.Proofs.Ytlajelbiniakpaa.Sh
set_option maxRecDepth 20000
def outF (S : List Int) (x : Cd) : Bool := !decide (x.g ∈ S) || decide (x.a = -1000)
def wiM (l : List Nd) (n : Int) (C : List Cd) (g : Int) : List Cd := C.filter (fun x => !outF (subM l n g) x)
theorem wi1_spec (S : List Int) (x : Cd) (hS : S.length ≤ 9223372036854775807) : FnSpec Try.prog 62 [cdt x, .one (.gptr [.gsl (Ints S) 0 S.length none] 0)] [] (b1 (outF S x)) [] := by
  have h1 := kccon_spec S none x.g hS
  unfold outF
  generalize decide (x.g ∈ S) = b at *
  obtain ⟨p, g, n, a⟩ := x
  simp only [cdc] at h1 ⊢
  refine fnspec_of mixed TT_ok TT_cl ⟨fun _ => false, fun _ => [], 0, fun _ => false, fun _ => false⟩ Try.func62 rfl (by kernel_rfl) rfl 14 rfl [.tmp 3] rfl ?_
  simp only [go_sem, zaa, zah, zai, zaj, zak, zad, ↓reduceIte, reduceCtorEq, zab, zac, zal, zam, zan]
  cases b with
  | false => repeat' (first
    | with_reducible refine zay ?_ ?_
    | (unfold OKC; kernel_rfl)
    | (apply okc_up <;> (first | ((repeat (first | exact Sub.nil | apply Sub.gfp | apply Sub.same)); done) | kernel_rfl))
    | (unfold EDG; kernel_rfl)
    | (refine gt_if (fun h => ?_) (fun h => ?_) <;> (try simp only [h]))
    | (refine pt_if (fun h => ?_) (fun h => ?_) <;> (try simp only [h]))
    | (refine cd_if (fun h => ?_) (fun h => ?_) <;> (try simp only [h]))
    | (apply cg_tp
       case hl => rfl
       case ha => (simp only [zae, zag, prepV, prepC, idx, hpL', lookR, zaa, if_true, if_false]; rfl)
       case hs => rfl
       case h => (first | exact h1 ..))
    | (apply cg_ts
       case hl => rfl
       case ha => (simp only [zae, zag, prepV, prepC, idx, hpL', lookR, zaa, if_true, if_false]; rfl)
       case hs => (simp only [snaps_nil, zbd, zbf, SV.refs, zaS, zaC, zaz, zap]; rfl)
       case h => (first | exact h1 ..)
       case hf => ((simp only [zaf, zao, false_implies, implies_true, and_true, hpL', lookR, zaa, if_true, if_false]) <;> (repeat' apply zay) <;> (first | exact ⟨_, rfl, Ints_isG _⟩ | exact ⟨_, rfl, Cs_isG _⟩ | exact ⟨_, rfl, by simp [zbj]⟩))
       case hg => simp [SV.noG, SV.noGL, zbl])
    | (apply cg_any
       case hl => rfl
       case ha => (intro hb; simp only [zae, zag, cnd, hb, if_true, prepV, prepC, idx, hpL', lookR, zaa, if_false]; rfl)
       case hs => (intro hb; simp only [cnd, hb, if_true]; rfl)
       case h => (first | exact h1 ..))
    | (apply cg_show
       case hl => rfl
       case ha => (intro hb; simp only [zae, zag, cnd, hb, if_true, prepV, prepC, idx, hpL', lookR, zaa, if_false]; rfl)
       case hs => (intro hb; simp only [cnd, hb, if_true, snaps_nil, zbd, zbf, SV.refs, zaS, zaC, zaz, zap]; rfl)
       case h => (first | exact h1 ..)
       case hf => ((simp only [zaf, zao, false_implies, implies_true, and_true, hpL', lookR, zaa, if_true, if_false]) <;> (repeat' apply zay) <;> (first | exact ⟨_, rfl, Ints_isG _⟩ | exact ⟨_, rfl, Cs_isG _⟩ | exact ⟨_, rfl, by simp [zbj]⟩))
       case hg => simp [SV.noG, SV.noGL, zbl])
    | (apply cl_plain
       case hs => rfl
       case ha => (simp only [zae, zag, prepV, prepC, idx, hpL', lookR, zaa, if_true, if_false]; rfl)
       case h => (first | exact h1 ..))
    | (apply cl_lend
       case hr => (simp only [zae, zag, hpL', lookR, zaa, if_true, if_false]; first | exact map1 _ | exact map2 _ _ | exact map3 _ _ _)
       case ha => (simp only [zae, zag, prepV, prepC, idx, hpL', lookR, zaa, if_true, if_false]; rfl)
       case hs => rfl
       case hn => decide
       case h => (first | exact h1 ..)
       case hf => (simp only [zaf, zao, false_implies, implies_true, and_true, true_and, flat_cons, flat_nil, flat_ints, flat_bools, flat_app, Cs_flat, zaS, and_self, eq_self_iff_true, zap])
       case hl => (simp only [zaq, zau]; decide))
    | (apply cl_show
       case ha => (simp only [zae, zag, prepV, prepC, idx, hpL', lookR, zaa, if_true, if_false]; rfl)
       case hs => ((simp [snaps, SV.refs, zaS, idx, hpL', lookR]) <;> (repeat' apply zay) <;> (first | exact Ints_isG _ | exact Cs_isG _))
       case h => (first | exact h1 ..)
       case hg => ((simp [SV.noG, SV.noGL, zbl]) <;> (repeat' apply zay) <;> exact Ints_noG _))
    | ((first | refine s1_id ?_ | refine swp_id ?_ | refine sops_id ?_ | refine s2_id ?_); simp only [zaB, zaF, zap, zaz, zaC, zaw, zax, zat, zaI, zaK, zaq, zau, go_sem, zaa, zah, zai, zaj, zak, zad, ↓reduceIte, reduceCtorEq, zab, zac, zal, zam, zan, zaQ, zaP, zaE, zaO, renO, bk, back, outUpsFrom, Ints_ren])
    | (intros; omega)
    | (intros; (try simp only [zav, zaJ, zaD, zaA, zar, zas, decide_eq_true_eq, decide_eq_false_iff_not] at *); omega)
    | exact fs_nil trivial rfl
    | (apply fs_nil <;> (try simp only [go_sem, resV, resS, zaQ, zaP, zaE, zaW, zaT, idx, renO, zaO, evS, slot, lookR, zaa, ↓reduceIte, reduceCtorEq, if_true, if_false, zaM, zaN, zae, zag, sLoad, readAt, readNeed, Ints_ren, Ints_length, Ints_getD, and_true, true_and, zaG, zaH]) <;> (try rfl))
    | fail)
  | true => repeat' (first
    | with_reducible refine zay ?_ ?_
    | (unfold OKC; kernel_rfl)
    | (apply okc_up <;> (first | ((repeat (first | exact Sub.nil | apply Sub.gfp | apply Sub.same)); done) | kernel_rfl))
    | (unfold EDG; kernel_rfl)
    | (refine gt_if (fun h => ?_) (fun h => ?_) <;> (try simp only [h]))
    | (refine pt_if (fun h => ?_) (fun h => ?_) <;> (try simp only [h]))
    | (refine cd_if (fun h => ?_) (fun h => ?_) <;> (try simp only [h]))
    | (apply cg_tp
       case hl => rfl
       case ha => (simp only [zae, zag, prepV, prepC, idx, hpL', lookR, zaa, if_true, if_false]; rfl)
       case hs => rfl
       case h => (first | exact h1 ..))
    | (apply cg_ts
       case hl => rfl
       case ha => (simp only [zae, zag, prepV, prepC, idx, hpL', lookR, zaa, if_true, if_false]; rfl)
       case hs => (simp only [snaps_nil, zbd, zbf, SV.refs, zaS, zaC, zaz, zap]; rfl)
       case h => (first | exact h1 ..)
       case hf => ((simp only [zaf, zao, false_implies, implies_true, and_true, hpL', lookR, zaa, if_true, if_false]) <;> (repeat' apply zay) <;> (first | exact ⟨_, rfl, Ints_isG _⟩ | exact ⟨_, rfl, Cs_isG _⟩ | exact ⟨_, rfl, by simp [zbj]⟩))
       case hg => simp [SV.noG, SV.noGL, zbl])
    | (apply cg_any
       case hl => rfl
       case ha => (intro hb; simp only [zae, zag, cnd, hb, if_true, prepV, prepC, idx, hpL', lookR, zaa, if_false]; rfl)
       case hs => (intro hb; simp only [cnd, hb, if_true]; rfl)
       case h => (first | exact h1 ..))
    | (apply cg_show
       case hl => rfl
       case ha => (intro hb; simp only [zae, zag, cnd, hb, if_true, prepV, prepC, idx, hpL', lookR, zaa, if_false]; rfl)
       case hs => (intro hb; simp only [cnd, hb, if_true, snaps_nil, zbd, zbf, SV.refs, zaS, zaC, zaz, zap]; rfl)
       case h => (first | exact h1 ..)
       case hf => ((simp only [zaf, zao, false_implies, implies_true, and_true, hpL', lookR, zaa, if_true, if_false]) <;> (repeat' apply zay) <;> (first | exact ⟨_, rfl, Ints_isG _⟩ | exact ⟨_, rfl, Cs_isG _⟩ | exact ⟨_, rfl, by simp [zbj]⟩))
       case hg => simp [SV.noG, SV.noGL, zbl])
    | (apply cl_plain
       case hs => rfl
       case ha => (simp only [zae, zag, prepV, prepC, idx, hpL', lookR, zaa, if_true, if_false]; rfl)
       case h => (first | exact h1 ..))
    | (apply cl_lend
       case hr => (simp only [zae, zag, hpL', lookR, zaa, if_true, if_false]; first | exact map1 _ | exact map2 _ _ | exact map3 _ _ _)
       case ha => (simp only [zae, zag, prepV, prepC, idx, hpL', lookR, zaa, if_true, if_false]; rfl)
       case hs => rfl
       case hn => decide
       case h => (first | exact h1 ..)
       case hf => (simp only [zaf, zao, false_implies, implies_true, and_true, true_and, flat_cons, flat_nil, flat_ints, flat_bools, flat_app, Cs_flat, zaS, and_self, eq_self_iff_true, zap])
       case hl => (simp only [zaq, zau]; decide))
    | (apply cl_show
       case ha => (simp only [zae, zag, prepV, prepC, idx, hpL', lookR, zaa, if_true, if_false]; rfl)
       case hs => ((simp [snaps, SV.refs, zaS, idx, hpL', lookR]) <;> (repeat' apply zay) <;> (first | exact Ints_isG _ | exact Cs_isG _))
       case h => (first | exact h1 ..)
       case hg => ((simp [SV.noG, SV.noGL, zbl]) <;> (repeat' apply zay) <;> exact Ints_noG _))
    | ((first | refine s1_id ?_ | refine swp_id ?_ | refine sops_id ?_ | refine s2_id ?_); simp only [zaB, zaF, zap, zaz, zaC, zaw, zax, zat, zaI, zaK, zaq, zau, go_sem, zaa, zah, zai, zaj, zak, zad, ↓reduceIte, reduceCtorEq, zab, zac, zal, zam, zan, zaQ, zaP, zaE, zaO, renO, bk, back, outUpsFrom, Ints_ren])
    | (intros; omega)
    | (intros; (try simp only [zav, zaJ, zaD, zaA, zar, zas, decide_eq_true_eq, decide_eq_false_iff_not] at *); omega)
    | exact fs_nil trivial rfl
    | (apply fs_nil <;> (try simp only [go_sem, resV, resS, zaQ, zaP, zaE, zaW, zaT, idx, renO, zaO, evS, slot, lookR, zaa, ↓reduceIte, reduceCtorEq, if_true, if_false, zaM, zaN, zae, zag, sLoad, readAt, readNeed, Ints_ren, Ints_length, Ints_getD, and_true, true_and, zaG, zaH]) <;> (try rfl))
    | fail)
set_option maxHeartbeats 4000000 in
theorem within_spec (l : List Nd) (n : Int) (C : List Cd) (k : Option Nat) (g : Int) (hl : l.length ≤ 1000000) (hC : C.length ≤ 1000000) (hnm : NmR l) (hct : CtR l) : FnSpec Try.prog 42 [trV l none n, gr C k, i1 g] [] (gr (wiM l n C g) none) [] := by
  have h1 := tsub_spec l n g hl hnm hct
  have hsl := subM_len l n g
  unfold wiM
  generalize subM l n g = S at *
  have h2 := cd_cl C k hC
  have h3 := delf_spec 62 [.gsl (Ints S) 0 S.length none] (outF S) C (fun x _ => wi1_spec S x (by omega)) hC
  generalize C.filter (fun x => !outF S x) = R at *
  refine fnspec_of mixed TT_ok TT_cl ⟨fun _ => false, fun f => if f = 63 then [0] else [], 0 , fun _ => false, fun i => if i = 2 then true else false⟩ Try.func42 rfl (by kernel_rfl) rfl 17 rfl [.tmp 6] rfl ?_
  simp only [go_sem, zaa, zah, zai, zaj, zak, zad, ↓reduceIte, reduceCtorEq, zab, zac, zal, zam, zan]
  repeat' (first
 | (apply cl_plain
    case hs => rfl
    case ha => (simp only [zae, zag, prepV, prepC, idx, hpL', lookR, zaa, if_true, if_false]; rfl)
    case h => (first | exact h1 ..))
 | ((first | refine s1_id ?_ | refine swp_id ?_ | refine sops_id ?_ | refine s2_id ?_); simp only [zaB, zaF, zap, zaz, zaC, zaw, zax, zat, zaI, zaK, zaq, zau, go_sem, zaa, zah, zai, zaj, zak, zad, ↓reduceIte, reduceCtorEq, zab, zac, zal, zam, zan, zaQ, zaP, zaE, zaO, renO, bk, back, outUpsFrom, Ints_ren])
 | (intros; (try simp only [zav, zaJ, zaD, zaA, zar, zas, decide_eq_true_eq, decide_eq_false_iff_not] at *); omega))
  (refine rgf_t _ (imp_frz _ _ 5 ⟨[.gsl (Ints S) 0 S.length none], 1⟩ (by simp only [zaT, lookR, zaa, if_true, if_false, ↓reduceIte]) (by first | exact Ints_isG _ | exact Bools_isG _ | exact Cs_isG _ | (simp [zbj]; done))) ?_; simp only [frzTm, SV.frz, SV.frzL, Cell.frz, frzHp, frzO, Ints_frz, Bools_frz, zae, zag, zaa, if_true, if_false, ↓reduceIte])
  simp only [go_sem, zaa, zah, zai, zaj, zak, zad, ↓reduceIte, reduceCtorEq, zab, zac, zal, zam, zan]
  repeat' (first
 | (apply cl_plain
    case hs => rfl
    case ha => (simp only [zae, zag, prepV, prepC, idx, hpL', lookR, zaa, if_true, if_false]; rfl)
    case h => (first | exact h2 .. | exact h3 ..))
 | (apply cl_lend
    case hr => (simp only [zae, zag, hpL', lookR, zaa, if_true, if_false]; first | exact map1 _ | exact map2 _ _ | exact map3 _ _ _)
    case ha => (simp only [zae, zag, prepV, prepC, idx, hpL', lookR, zaa, if_true, if_false]; rfl)
    case hs => rfl
    case hn => decide
    case h => (first | exact h2 .. | exact h3 ..)
    case hf => (simp only [zaf, zao, false_implies, implies_true, and_true, true_and, flat_cons, flat_nil, flat_ints, flat_bools, flat_app, Cs_flat, zaS, and_self, eq_self_iff_true, zap])
    case hl => (simp only [zaq, zau]; decide))
 | ((first | refine s1_id ?_ | refine swp_id ?_ | refine sops_id ?_ | refine s2_id ?_); simp only [zaB, zaF, zap, zaz, zaC, zaw, zax, zat, zaI, zaK, zaq, zau, go_sem, zaa, zah, zai, zaj, zak, zad, ↓reduceIte, reduceCtorEq, zab, zac, zal, zam, zan, zaQ, zaP, zaE, zaO, renO, bk, back, outUpsFrom, Ints_ren])
 | exact fs_nil trivial rfl
 | fail)
def mxF (t : Int) : Cd → List Cd → Cd
  | m, [] => m
  | m, x :: r => mxF t (if scr m t < scr x t then x else m) r
theorem vi1_spec (x y : Cd) (t : Int) (hx : cdk x = true) (hy : cdk y = true) (ht : pgk t = true) : FnSpec Try.prog 55 [cdt x, cdt y, .one (.gptr [int t] 0)] [] (i1 (cmpv (scr x t) (scr y t))) [] := by
  have h1 := score_spec x t hx ht
  have h2 := score_spec y t hy ht
  have h3 := cmp_spec (scr x t) (scr y t)
  generalize scr x t = u at *
  generalize scr y t = v at *
  clear hx hy
  obtain ⟨p, g, n, a⟩ := x
  obtain ⟨p', g', n', a'⟩ := y
  try simp only [cdt, cdc] at h1 h2 ⊢
  refine fnspec_of mixed TT_ok TT_cl ⟨fun _ => false, fun _ => [], 0, fun _ => false, fun _ => false⟩ Try.func55 rfl (by kernel_rfl) rfl 13 rfl [.tmp 5] rfl ?_
  simp only [go_sem, zaa, zah, zai, zaj, zak, zad, ↓reduceIte, reduceCtorEq, zab, zac, zal, zam, zan]
  repeat' (first
 | with_reducible refine zay ?_ ?_
 | (unfold OKC; kernel_rfl)
 | (unfold EDG; kernel_rfl)
 | (apply cl_plain
    case hs => rfl
    case ha => (simp only [zae, zag, prepV, prepC, idx, hpL', lookR, zaa, if_true, if_false]; rfl)
    case h => (first | exact h1 .. | exact h2 .. | exact h3 ..))
 | ((first | refine s1_id ?_ | refine swp_id ?_ | refine sops_id ?_ | refine s2_id ?_); simp only [zaB, zaF, zap, zaz, zaC, zaw, zax, zat, zaI, zaK, zaq, zau, go_sem, zaa, zah, zai, zaj, zak, zad, ↓reduceIte, reduceCtorEq, zab, zac, zal, zam, zan, zaQ, zaP, zaE, zaO, renO, bk, back, outUpsFrom, Ints_ren])
 | exact fs_nil trivial rfl
 | fail)
theorem cmpv_gt (a b : Int) : decide (0 < cmpv a b) = decide (b < a) := by
  unfold cmpv
  split
  · rename_i h; rw [decide_eq_false (by decide), decide_eq_false (by omega)]
  · rename_i h
    split
    · rename_i h2; rw [decide_eq_true (by decide), decide_eq_true (by omega)]
    · rename_i h2; rw [decide_eq_false (by decide), decide_eq_false (by omega)]
theorem mxF_drop (t : Int) (m : Cd) (C : List Cd) (j : Nat) (h : j < C.length) : mxF t m (C.drop j) = mxF t (if scr m t < scr (gD C j) t then gD C j else m) (C.drop (j + 1)) := by
  rw [drop_getD C j zcd h]; rfl
set_option maxHeartbeats 8000000 in
theorem maxf_spec (C : List Cd) (k : Option Nat) (t : Int) (ht : pgk t = true) (hC : ∀ x ∈ C, cdk x = true) (h0 : 0 < C.length) (hl : C.length ≤ 1000000) : FnSpec Try.prog 57 [gr C k, .one (.fn 55 [.gptr [int t] 0])] [] (cdt (mxF t (gD C 0) (C.drop 1))) [] := by
  have hcl := cd_len C
  have hat0 : zbh 4 (Cs C) = cdc (gD C 0) := by have := cd_td C 0 h0; simpa using this
  have cz : ¬ (C.length : Int) < 1 := by omega
  have hk0 := hC _ (getD_mem C 0 zcd h0)
  obtain ⟨V, hV⟩ : ∃ V, mxF t (gD C 0) (C.drop 1) = V := ⟨_, rfl⟩
  rw [hV]
  obtain ⟨m0, hm0⟩ : ∃ m0, gD C 0 = m0 := ⟨_, rfl⟩
  rw [hm0] at hat0 hV
  have hk0 : cdk m0 = true := by rw [← hm0]; exact hk0
  have t0 : Int.toNat 0 = 0 := rfl
  have hat0' : zbh 4 (List.drop 0 (Cs C)) = cdc m0 := hat0
  obtain ⟨p, g, n, a⟩ := m0
  refine fnspec_of mixed TT_ok TT_cl ⟨fun _ => false, fun _ => [], 0, fun _ => false, fun _ => false⟩ Try.func57 rfl (by kernel_rfl) rfl 33 rfl [.cell 4 35] rfl ?_
  simp only [go_sem, zaa, zah, zai, zaj, zak, zad, ↓reduceIte, reduceCtorEq, zab, zac, zal, zam, zan, decide_eq_false cz, hat0, hat0', t0]
  repeat' (first
 | with_reducible refine zay ?_ ?_
 | (intros; omega)
 | (intros; (try simp only [zav, zaJ, zaD, zaA, zar, zas, decide_eq_true_eq, decide_eq_false_iff_not] at *); omega))
  refine w_loop (ι := Nat × Cd) (fun s => ⟨[(0, gr C k), (1, .one (.fn 55 [.gptr [int t] 0])), (4, .one (.optr 0 0)), (5, .one (.optr 1 0)), (6, i1 s.1)], [(0, some ⟨[int 0, int 0, int 0, int 0], 4⟩), (1, some ⟨cdc s.2, 4⟩)], 2⟩) (fun s => s.1 ≤ C.length ∧ cdk s.2 = true ∧ mxF t s.2 (C.drop s.1) = V) (fun s => C.length - s.1) (1, ⟨p, g, n, a⟩) ?_ ⟨h0, hk0, hV⟩ ?_
  · (refine imp_ren _ _ _ [(0, 0, ⟨[int 0, int 0, int 0, int 0], 4⟩), (1, 7, ⟨[int p, int g, int n, int a], 4⟩)] (by simp) (by simp) (by simp) (zaR rfl) ?_ rfl (by simp only [zaf, zao, false_implies, implies_true, and_true, zaT, lookR, zaa, if_true, if_false, ↓reduceIte] <;> (repeat' apply zay) <;> (first | rfl | trivial)) (by simp only [zaf, zao, false_implies, implies_true, and_true, true_and, flat_cons, flat_nil, flat_ints, flat_bools, flat_app, zaS, and_self, eq_self_iff_true, zap]); simp only [zae, zag, zaf, zao, false_implies, implies_true, and_true, lk, slot, zaQ, zaE, toN, zaa, if_true, if_false, ↓reduceIte, reduceCtorEq])
    all_goals ((repeat' apply zay) <;> (first | rfl | trivial))
  rintro ⟨j, m⟩ ⟨hj, hmk, hI⟩
  simp only at hj hmk hI ⊢
  rcases zbb j C.length with hlt | hge
  case inr =>
    have c : ¬ (j : Int) < (C.length : Int) := by omega
    rw [zaZ hge] at hI
    have hI : m = V := hI
    rw [← hI]
    obtain ⟨p', g', n', a'⟩ := m
    simp only [go_sem, zaa, zah, zai, zaj, zak, zad, ↓reduceIte, reduceCtorEq, zab, zac, zal, zam, zan, decide_eq_false c]
    repeat' (first
 | with_reducible refine zay ?_ ?_
 | (intros; omega)
 | (apply fs_nil <;> (try simp only [go_sem, resV, resS, zaQ, zaP, zaE, zaW, zaT, idx, renO, zaO, evS, slot, lookR, zaa, ↓reduceIte, reduceCtorEq, if_true, if_false, zaM, zaN, zae, zag, sLoad, readAt, readNeed, Ints_ren, Ints_length, Ints_getD, and_true, true_and, zaG, zaH]) <;> (try rfl))
 | fail)
  have c : (j : Int) < (C.length : Int) := by omega
  have hat := cd_td C j hlt
  have hxk : cdk (gD C j) = true := hC _ (getD_mem C j zcd hlt)
  have k1 := vi1_spec (gD C j) m t hxk hmk ht
  have k2 := cmpv_gt (scr (gD C j) t) (scr m t)
  rw [mxF_drop t m C j hlt] at hI
  generalize cmpv (scr (gD C j) t) (scr m t) = cv at *
  by_cases hgt : scr m t < scr (gD C j) t
  · rw [if_pos hgt] at hI
    rw [decide_eq_true hgt] at k2
    clear hgt
    generalize gD C j = x at *
    obtain ⟨p', g', n', a'⟩ := m
    obtain ⟨p2, g2, n2, a2⟩ := x
    simp only [cdc] at hat k1
    simp only [go_sem, zaa, zah, zai, zaj, zak, zad, ↓reduceIte, reduceCtorEq, zab, zac, zal, zam, zan, decide_eq_true c, hat, k2, cdc]
    repeat' (first
 | with_reducible refine zay ?_ ?_
 | (unfold OKC; kernel_rfl)
 | (unfold EDG; kernel_rfl)
 | (apply cl_plain
    case hs => rfl
    case ha => (simp only [zae, zag, prepV, prepC, idx, hpL', lookR, zaa, if_true, if_false]; rfl)
    case h => (first | exact k1 ..))
 | ((first | refine s1_id ?_ | refine swp_id ?_ | refine sops_id ?_ | refine s2_id ?_); simp only [decide_eq_true c, hat, k2, cdc, zaB, zaF, zap, zaz, zaC, zaw, zax, zat, zaI, zaK, zaq, zau, go_sem, zaa, zah, zai, zaj, zak, zad, ↓reduceIte, reduceCtorEq, zab, zac, zal, zam, zan, zaQ, zaP, zaE, zaO, renO, bk, back, outUpsFrom, Ints_ren])
 | (intros; omega)
 | (intros; (try simp only [zav, zaJ, zaD, zaA, zar, zas, decide_eq_true_eq, decide_eq_false_iff_not] at *); omega))
    refine le_mk (j + 1, ⟨p2, g2, n2, a2⟩) ?_ ⟨hlt, hxk, hI⟩ (by show C.length - (j + 1) < C.length - j; omega)
    (refine imp_ren _ _ _ [(0, 0, ⟨[int 0, int 0, int 0, int 0], 4⟩), (1, 1, ⟨[int p2, int g2, int n2, int a2], 4⟩)] (by simp) (by simp) (by simp) (zaR rfl) ?_ rfl (by simp only [zaf, zao, false_implies, implies_true, and_true, zaT, lookR, zaa, if_true, if_false, ↓reduceIte] <;> (repeat' apply zay) <;> (first | rfl | trivial)) (by simp only [zaf, zao, false_implies, implies_true, and_true, true_and, flat_cons, flat_nil, flat_ints, flat_bools, flat_app, zaS, and_self, eq_self_iff_true, zap]); simp only [zae, zag, zaf, zao, false_implies, implies_true, and_true, lk, slot, zaQ, zaE, toN, zaa, if_true, if_false, ↓reduceIte, reduceCtorEq])
    all_goals ((repeat' apply zay) <;> (first | rfl | trivial | (simp only [zaL]; done) | (simp only [zaL]; rfl) | (simp only [zaL]; trivial)))
  · rw [if_neg hgt] at hI
    rw [decide_eq_false hgt] at k2
    clear hgt
    generalize gD C j = x at *
    obtain ⟨p', g', n', a'⟩ := m
    obtain ⟨p2, g2, n2, a2⟩ := x
    simp only [cdc] at hat k1
    simp only [go_sem, zaa, zah, zai, zaj, zak, zad, ↓reduceIte, reduceCtorEq, zab, zac, zal, zam, zan, decide_eq_true c, hat, k2, cdc]
    repeat' (first
 | with_reducible refine zay ?_ ?_
 | (unfold OKC; kernel_rfl)
 | (unfold EDG; kernel_rfl)
 | (apply cl_plain
    case hs => rfl
    case ha => (simp only [zae, zag, prepV, prepC, idx, hpL', lookR, zaa, if_true, if_false]; rfl)
    case h => (first | exact k1 ..))
 | ((first | refine s1_id ?_ | refine swp_id ?_ | refine sops_id ?_ | refine s2_id ?_); simp only [decide_eq_true c, hat, k2, cdc, zaB, zaF, zap, zaz, zaC, zaw, zax, zat, zaI, zaK, zaq, zau, go_sem, zaa, zah, zai, zaj, zak, zad, ↓reduceIte, reduceCtorEq, zab, zac, zal, zam, zan, zaQ, zaP, zaE, zaO, renO, bk, back, outUpsFrom, Ints_ren])
 | (intros; omega)
 | (intros; (try simp only [zav, zaJ, zaD, zaA, zar, zas, decide_eq_true_eq, decide_eq_false_iff_not] at *); omega))
    refine le_mk (j + 1, ⟨p', g', n', a'⟩) ?_ ⟨hlt, hmk, hI⟩ (by show C.length - (j + 1) < C.length - j; omega)
    (refine imp_ren _ _ _ [(0, 0, ⟨[int 0, int 0, int 0, int 0], 4⟩), (1, 1, ⟨[int p', int g', int n', int a'], 4⟩)] (by simp) (by simp) (by simp) (zaR rfl) ?_ rfl (by simp only [zaf, zao, false_implies, implies_true, and_true, zaT, lookR, zaa, if_true, if_false, ↓reduceIte] <;> (repeat' apply zay) <;> (first | rfl | trivial)) (by simp only [zaf, zao, false_implies, implies_true, and_true, true_and, flat_cons, flat_nil, flat_ints, flat_bools, flat_app, zaS, and_self, eq_self_iff_true, zap]); simp only [zae, zag, zaf, zao, false_implies, implies_true, and_true, lk, slot, zaQ, zaE, toN, zaa, if_true, if_false, ↓reduceIte, reduceCtorEq])
    all_goals ((repeat' apply zay) <;> (first | rfl | trivial | (simp only [zaL]; done) | (simp only [zaL]; rfl) | (simp only [zaL]; trivial)))
end Go.Proofs.Ytlajelbiniakpaa
-- NEWGO
-- PRUNE: cl_lendx cl_use
-- ISG: Cs_isG
-- FLAT: Cs_flat
namespace Go.Proofs.Ytlajelbiniakpaa
set_option linter.unusedVariables false
set_option linter.unusedSimpArgs false
open Go.Proofs.Ytlajelbiniakpaa.Sh
set_option maxRecDepth 20000
theorem vaF_all (l : List Nd) : ∀ (C : List Cd) (last : Int), vaF l C last = true → ∀ x ∈ C, cdk x = true ∧ bsF Nd.i l x.g = true ∧ last < x.p
  | [], _, _, x, hx => by cases hx
  | y :: r, last, h, x, hx => by
    rw [vaF, zav, zav, zav, decide_eq_true_eq] at h
    rcases List.mem_cons.1 hx with rfl | hx
    · exact ⟨h.2.2.1, h.2.1, h.1⟩
    · obtain ⟨h1, h2, h3⟩ := vaF_all l r y.p h.2.2.2 x hx
      exact ⟨h1, h2, by omega⟩
theorem vaM_all {l : List Nd} {n : Int} {C : List Cd} (h : vaM l n C = true) : VT l n ∧ C.length ≤ 128 ∧ ∀ x ∈ C, cdk x = true ∧ bsF Nd.i l x.g = true ∧ 0 < x.p := by
  unfold vaM at h
  rw [zav, zav, decide_eq_true_eq] at h
  exact ⟨(chkT_iff l n).1 h.1, h.2.1, vaF_all l C 0 h.2.2⟩
def mxW (t : Int) (W : List Cd) : Cd := mxF t (gD W 0) (W.drop 1)
def viM (l : List Nd) (n : Int) (C : List Cd) (at' t : Int) : Cd × Int :=
  if vaM l n C = true then (if bsF Nd.i l at' = true then (if pgk t = true then (if (wiM l n C at').length = 0 then (zcd, 21) else (mxW t (wiM l n C at'), 0)) else (zcd, 3)) else (zcd, 4)) else (zcd, 1)
set_option maxHeartbeats 8000000 in
theorem victim1_spec (l : List Nd) (n : Int) (C : List Cd) (k : Option Nat) (at' t : Int) (hl : l.length ≤ 1000000) (hC : C.length ≤ 1000000) (hnm : NmR l) (hct : CtR l) : FnSpec Try.prog 36 [trV l none n, gr C k, i1 at', i1 t] [] (.tup [cdt (viM l n C at' t).1, i1 (viM l n C at' t).2]) [] := by
  have h1 := kvalid_spec l n C k hl (by omega) hnm hct
  unfold viM
  cases hv : vaM l n C with
  | false =>
    rw [hv] at h1
    rw [if_neg (by decide)]
    refine fnspec_of mixed TT_ok TT_cl ⟨fun _ => false, fun _ => [], 0, fun _ => false, fun _ => false⟩ Try.func36 rfl (by kernel_rfl) rfl 38 rfl [.cell 8 35, .tmp 9] rfl ?_
    simp only [go_sem, zaa, zah, zai, zaj, zak, zad, ↓reduceIte, reduceCtorEq, zab, zac, zal, zam, zan]
    repeat' (first
 | with_reducible refine zay ?_ ?_
 | (apply cl_plain
    case hs => rfl
    case ha => (simp only [zae, zag, prepV, prepC, idx, hpL', lookR, zaa, if_true, if_false]; rfl)
    case h => (first | exact h1 ..))
 | ((first | refine s1_id ?_ | refine swp_id ?_ | refine sops_id ?_ | refine s2_id ?_); simp only [zaB, zaF, zap, zaz, zaC, zaw, zax, zat, zaI, zaK, zaq, zau, go_sem, zaa, zah, zai, zaj, zak, zad, ↓reduceIte, reduceCtorEq, zab, zac, zal, zam, zan, zaQ, zaP, zaE, zaO, renO, bk, back, outUpsFrom, Ints_ren])
 | (intros; omega)
 | (apply fs_nil <;> (try simp only [go_sem, resV, resS, zaQ, zaP, zaE, zaW, zaT, idx, renO, zaO, evS, slot, lookR, zaa, ↓reduceIte, reduceCtorEq, if_true, if_false, zaM, zaN, zae, zag, sLoad, readAt, readNeed, Ints_ren, Ints_length, Ints_getD, and_true, true_and, zaG, zaH]) <;> (try rfl))
 | fail)
  | true =>
  rw [hv] at h1
  rw [if_pos rfl]
  have h2 := known_spec l n at' hl
  cases hb : bsF Nd.i l at' with
  | false =>
    rw [hb] at h2
    rw [if_neg (by decide)]
    refine fnspec_of mixed TT_ok TT_cl ⟨fun _ => false, fun _ => [], 0, fun _ => false, fun _ => false⟩ Try.func36 rfl (by kernel_rfl) rfl 38 rfl [.cell 8 35, .tmp 9] rfl ?_
    simp only [go_sem, zaa, zah, zai, zaj, zak, zad, ↓reduceIte, reduceCtorEq, zab, zac, zal, zam, zan]
    repeat' (first
 | with_reducible refine zay ?_ ?_
 | (apply cl_plain
    case hs => rfl
    case ha => (simp only [zae, zag, prepV, prepC, idx, hpL', lookR, zaa, if_true, if_false]; rfl)
    case h => (first | exact h1 .. | exact h2 ..))
 | ((first | refine s1_id ?_ | refine swp_id ?_ | refine sops_id ?_ | refine s2_id ?_); simp only [zaB, zaF, zap, zaz, zaC, zaw, zax, zat, zaI, zaK, zaq, zau, go_sem, zaa, zah, zai, zaj, zak, zad, ↓reduceIte, reduceCtorEq, zab, zac, zal, zam, zan, zaQ, zaP, zaE, zaO, renO, bk, back, outUpsFrom, Ints_ren])
 | (intros; omega)
 | (apply fs_nil <;> (try simp only [go_sem, resV, resS, zaQ, zaP, zaE, zaW, zaT, idx, renO, zaO, evS, slot, lookR, zaa, ↓reduceIte, reduceCtorEq, if_true, if_false, zaM, zaN, zae, zag, sLoad, readAt, readNeed, Ints_ren, Ints_length, Ints_getD, and_true, true_and, zaG, zaH]) <;> (try rfl))
 | fail)
  | true =>
  rw [hb] at h2
  rw [if_pos rfl]
  have h3 := pages_spec t
  cases hp : pgk t with
  | false =>
    rw [hp] at h3
    rw [if_neg (by decide)]
    refine fnspec_of mixed TT_ok TT_cl ⟨fun _ => false, fun _ => [], 0, fun _ => false, fun _ => false⟩ Try.func36 rfl (by kernel_rfl) rfl 38 rfl [.cell 8 35, .tmp 9] rfl ?_
    simp only [go_sem, zaa, zah, zai, zaj, zak, zad, ↓reduceIte, reduceCtorEq, zab, zac, zal, zam, zan]
    repeat' (first
 | with_reducible refine zay ?_ ?_
 | (apply cl_plain
    case hs => rfl
    case ha => (simp only [zae, zag, prepV, prepC, idx, hpL', lookR, zaa, if_true, if_false]; rfl)
    case h => (first | exact h1 .. | exact h2 .. | exact h3 ..))
 | ((first | refine s1_id ?_ | refine swp_id ?_ | refine sops_id ?_ | refine s2_id ?_); simp only [zaB, zaF, zap, zaz, zaC, zaw, zax, zat, zaI, zaK, zaq, zau, go_sem, zaa, zah, zai, zaj, zak, zad, ↓reduceIte, reduceCtorEq, zab, zac, zal, zam, zan, zaQ, zaP, zaE, zaO, renO, bk, back, outUpsFrom, Ints_ren])
 | (intros; omega)
 | (apply fs_nil <;> (try simp only [go_sem, resV, resS, zaQ, zaP, zaE, zaW, zaT, idx, renO, zaO, evS, slot, lookR, zaa, ↓reduceIte, reduceCtorEq, if_true, if_false, zaM, zaN, zae, zag, sLoad, readAt, readNeed, Ints_ren, Ints_length, Ints_getD, and_true, true_and, zaG, zaH]) <;> (try rfl))
 | fail)
  | true =>
  rw [hp] at h3
  rw [if_pos rfl]
  have h4 := within_spec l n C k at' hl hC hnm hct
  obtain ⟨_, _, hall⟩ := vaM_all hv
  have hWk : ∀ x ∈ wiM l n C at', cdk x = true := fun x hx => (hall x (List.mem_filter.1 hx).1).1
  have hWl : (wiM l n C at').length ≤ C.length := List.length_filter_le _ _
  generalize wiM l n C at' = W at *
  by_cases h0 : W.length = 0
  · have h0' : (W.length : Int) = 0 := by omega
    rw [if_pos h0]
    refine fnspec_of mixed TT_ok TT_cl ⟨fun _ => false, fun _ => [], 0, fun _ => false, fun _ => false⟩ Try.func36 rfl (by kernel_rfl) rfl 38 rfl [.cell 8 35, .tmp 9] rfl ?_
    simp only [go_sem, zaa, zah, zai, zaj, zak, zad, ↓reduceIte, reduceCtorEq, zab, zac, zal, zam, zan, decide_eq_true h0']
    repeat' (first
 | with_reducible refine zay ?_ ?_
 | (apply cl_plain
    case hs => rfl
    case ha => (simp only [zae, zag, prepV, prepC, idx, hpL', lookR, zaa, if_true, if_false]; rfl)
    case h => (first | exact h1 .. | exact h2 .. | exact h3 .. | exact h4 ..))
 | ((first | refine s1_id ?_ | refine swp_id ?_ | refine sops_id ?_ | refine s2_id ?_); simp only [decide_eq_true h0', zaB, zaF, zap, zaz, zaC, zaw, zax, zat, zaI, zaK, zaq, zau, go_sem, zaa, zah, zai, zaj, zak, zad, ↓reduceIte, reduceCtorEq, zab, zac, zal, zam, zan, zaQ, zaP, zaE, zaO, renO, bk, back, outUpsFrom, Ints_ren])
 | (intros; omega)
 | (apply fs_nil <;> (try simp only [go_sem, resV, resS, zaQ, zaP, zaE, zaW, zaT, idx, renO, zaO, evS, slot, lookR, zaa, ↓reduceIte, reduceCtorEq, if_true, if_false, zaM, zaN, zae, zag, sLoad, readAt, readNeed, Ints_ren, Ints_length, Ints_getD, and_true, true_and, zaG, zaH]) <;> (try rfl))
 | fail)
  have h0' : ¬ (W.length : Int) = 0 := by omega
  rw [if_neg h0]
  have h5 := maxf_spec W none t hp hWk (by omega) (by omega)
  unfold mxW
  generalize mxF t (gD W 0) (W.drop 1) = M at *
  obtain ⟨mp, mg, mn, ma⟩ := M
  simp only [cdc] at h5 ⊢
  refine fnspec_of mixed TT_ok TT_cl ⟨fun _ => false, fun _ => [], 0 , fun _ => false, fun i => if i = 10 then true else false⟩ Try.func36 rfl (by kernel_rfl) rfl 38 rfl [.cell 8 35, .tmp 9] rfl ?_
  simp only [go_sem, zaa, zah, zai, zaj, zak, zad, ↓reduceIte, reduceCtorEq, zab, zac, zal, zam, zan, decide_eq_false h0']
  repeat' (first
 | (apply cl_plain
    case hs => rfl
    case ha => (simp only [zae, zag, prepV, prepC, idx, hpL', lookR, zaa, if_true, if_false]; rfl)
    case h => (first | exact h1 .. | exact h2 .. | exact h3 .. | exact h4 ..))
 | ((first | refine s1_id ?_ | refine swp_id ?_ | refine sops_id ?_ | refine s2_id ?_); simp only [decide_eq_false h0', zaB, zaF, zap, zaz, zaC, zaw, zax, zat, zaI, zaK, zaq, zau, go_sem, zaa, zah, zai, zaj, zak, zad, ↓reduceIte, reduceCtorEq, zab, zac, zal, zam, zan, zaQ, zaP, zaE, zaO, renO, bk, back, outUpsFrom, Ints_ren])
 | (intros; (try simp only [zav, zaJ, zaD, zaA, zar, zas, decide_eq_true_eq, decide_eq_false_iff_not] at *); omega))
  (refine rgf_t _ (imp_frz _ _ 1 ⟨[int t], 1⟩ (by simp only [zaT, lookR, zaa, if_true, if_false, ↓reduceIte]) (by first | exact Ints_isG _ | exact Bools_isG _ | exact Cs_isG _ | (simp [zbj]; done))) ?_; simp only [frzTm, SV.frz, SV.frzL, Cell.frz, frzHp, frzO, Ints_frz, Bools_frz, zae, zag, zaa, if_true, if_false, ↓reduceIte])
  simp only [go_sem, zaa, zah, zai, zaj, zak, zad, ↓reduceIte, reduceCtorEq, zab, zac, zal, zam, zan]
  repeat' (first
 | with_reducible refine zay ?_ ?_
 | (apply cl_plain
    case hs => rfl
    case ha => (simp only [zae, zag, prepV, prepC, idx, hpL', lookR, zaa, if_true, if_false]; rfl)
    case h => (first | exact h5 ..))
 | ((first | refine s1_id ?_ | refine swp_id ?_ | refine sops_id ?_ | refine s2_id ?_); simp only [zaB, zaF, zap, zaz, zaC, zaw, zax, zat, zaI, zaK, zaq, zau, go_sem, zaa, zah, zai, zaj, zak, zad, ↓reduceIte, reduceCtorEq, zab, zac, zal, zam, zan, zaQ, zaP, zaE, zaO, renO, bk, back, outUpsFrom, Ints_ren])
 | (intros; omega)
 | (apply fs_nil <;> (try simp only [go_sem, resV, resS, zaQ, zaP, zaE, zaW, zaT, idx, renO, zaO, evS, slot, lookR, zaa, ↓reduceIte, reduceCtorEq, if_true, if_false, zaM, zaN, zae, zag, sLoad, readAt, readNeed, Ints_ren, Ints_length, Ints_getD, and_true, true_and, zaG, zaH]) <;> (try rfl))
 | fail)
theorem victim_spec (l : List Nd) (n : Int) (C : List Cd) (k : Option Nat) (at' t : Int) (hl : l.length ≤ 1000000) (hC : C.length ≤ 1000000) (hnm : NmR l) (hct : CtR l) : FnSpec Try.prog 18 [trV l none n, gr C k, i1 at', i1 t] [] (.tup [i1 (viM l n C at' t).1.p, i1 (viM l n C at' t).2]) [] := by
  have h1 := victim1_spec l n C k at' t hl hC hnm hct
  generalize viM l n C at' t = q at *
  obtain ⟨⟨p, g, m, a⟩, e⟩ := q
  simp only [cdc] at h1 ⊢
  refine fnspec_of mixed TT_ok TT_cl ⟨fun _ => false, fun _ => [], 0, fun _ => false, fun _ => false⟩ Try.func18 rfl (by kernel_rfl) rfl 23 rfl [.tmp 8, .tmp 9] rfl ?_
  simp only [go_sem, zaa, zah, zai, zaj, zak, zad, ↓reduceIte, reduceCtorEq, zab, zac, zal, zam, zan]
  repeat' (first
 | (apply cl_plain
    case hs => rfl
    case ha => (simp only [zae, zag, prepV, prepC, idx, hpL', lookR, zaa, if_true, if_false]; rfl)
    case h => (first | exact h1 ..))
 | ((first | refine s1_id ?_ | refine swp_id ?_ | refine sops_id ?_ | refine s2_id ?_); simp only [zaB, zaF, zap, zaz, zaC, zaw, zax, zat, zaI, zaK, zaq, zau, go_sem, zaa, zah, zai, zaj, zak, zad, ↓reduceIte, reduceCtorEq, zab, zac, zal, zam, zan, zaQ, zaP, zaE, zaO, renO, bk, back, outUpsFrom, Ints_ren])
 | exact fs_nil trivial rfl
 | fail)
theorem below29_spec (l : List Nd) (k : Option Nat) (n id top : Int) (hl : l.length ≤ 1000000) (hnm : NmR l) : FnSpec Try.prog 19 [trV l k n, i1 id, i1 top] [] (b1 (decide (top ∈ ancM l n id))) [] := by
  have h1 := ranc_spec l k n id hl hnm
  have h2 := ancM_len l n id
  have h3 := fun k => has_spec (ancM l n id) k top (by omega)
  generalize ancM l n id = U at *
  refine fnspec_of mixed TT_ok TT_cl ⟨fun _ => false, fun _ => [], 0, fun _ => false, fun _ => false⟩ Try.func19 rfl (by kernel_rfl) rfl 12 rfl [.tmp 6] rfl ?_
  simp only [go_sem, zaa, zah, zai, zaj, zak, zad, ↓reduceIte, reduceCtorEq, zab, zac, zal, zam, zan]
  repeat' (first
 | (apply cl_plain
    case hs => rfl
    case ha => (simp only [zae, zag, prepV, prepC, idx, hpL', lookR, zaa, if_true, if_false]; rfl)
    case h => (first | exact h1 .. | exact h3 ..))
 | ((first | refine s1_id ?_ | refine swp_id ?_ | refine sops_id ?_ | refine s2_id ?_); simp only [zaB, zaF, zap, zaz, zaC, zaw, zax, zat, zaI, zaK, zaq, zau, go_sem, zaa, zah, zai, zaj, zak, zad, ↓reduceIte, reduceCtorEq, zab, zac, zal, zam, zan, zaQ, zaP, zaE, zaO, renO, bk, back, outUpsFrom, Ints_ren])
 | exact fs_nil trivial rfl
 | fail)
def frM (P : List Int) (C : List Cd) : Int := C.foldl (fun s x => if x.p ∈ P then s + x.n else s) 0
set_option maxHeartbeats 4000000 in
theorem freed_spec (P : List Int) (kp : Option Nat) (C : List Cd) (k : Option Nat) (hP : P.length ≤ 9223372036854775807) (hC : C.length ≤ 1000000) (hn : ∀ x ∈ C, 0 ≤ x.n ∧ x.n ≤ 16777216) : FnSpec Try.prog 17 [gr C k, gi P kp] [] (i1 (frM P C)) [] := by
  have hcl := cd_len C
  refine fnspec_of mixed TT_ok TT_cl ⟨fun _ => false, fun _ => [], 0, fun _ => false, fun _ => false⟩ Try.func17 rfl (by kernel_rfl) rfl 24 rfl [.tmp 4] rfl ?_
  simp only [go_sem, zaa, zah, zai, zaj, zak, zad, ↓reduceIte, reduceCtorEq, zab, zac, zal, zam, zan]
  repeat' (first
 | (intros; (try simp only [zav, zaJ, zaD, zaA, zar, zas, decide_eq_true_eq, decide_eq_false_iff_not] at *); omega))
  refine w_loop (ι := Nat) (fun m => ⟨[(1, gi P kp), (5, i1 (frM P (C.take m))), (8, gr C k), (9, i1 C.length), (10, i1 m)], [], 0⟩) (fun m => m ≤ C.length ∧ 0 ≤ frM P (C.take m) ∧ frM P (C.take m) ≤ m * 16777216) (fun m => C.length - m) 0 ?_ ⟨zaU _, Int.le_refl 0, by show (0 : Int) ≤ ((0 : Nat) : Int) * 16777216; omega⟩ ?_
  · (refine imp_sub _ _ _ [] (by simp) (by simp) (by simp) (zaU _) ?_ rfl (by simp); simp only [zaf, zao, false_implies, implies_true, and_true, lk, slot, zaQ, zaE, zaa, if_true, if_false, ↓reduceIte, reduceCtorEq])
    all_goals ((repeat' apply zay) <;> (first | rfl | trivial))
  rintro m ⟨hm, hs1, hs2⟩
  simp only at hm hs1 hs2 ⊢
  rcases zbb m C.length with hlt | hge
  case inr =>
    have c : ¬ (m : Int) < (C.length : Int) := by omega
    rw [zaV hge]
    simp only [go_sem, zaa, zah, zai, zaj, zak, zad, ↓reduceIte, reduceCtorEq, zab, zac, zal, zam, zan, decide_eq_false c]
    repeat' (first
 | exact fs_nil trivial rfl
 | fail)
  have c : (m : Int) < (C.length : Int) := by omega
  have hat := cd_td C m hlt
  have hst : frM P (C.take (m + 1)) = if (gD C m).p ∈ P then frM P (C.take m) + (gD C m).n else frM P (C.take m) := by
    unfold frM; rw [take_getD C m zcd hlt, List.foldl_append]; rfl
  have hxn : 0 ≤ (gD C m).n ∧ (gD C m).n ≤ 16777216 := hn _ (getD_mem C m zcd hlt)
  have k1 := kccon_spec P kp (gD C m).p hP
  generalize frM P (C.take m) = s at *
  generalize gD C m = x at *
  obtain ⟨p, g, n', a⟩ := x
  simp only [cdc] at hat k1 hst hxn
  by_cases hp : p ∈ P
  · rw [if_pos hp] at hst
    rw [decide_eq_true hp] at k1
    simp only [go_sem, zaa, zah, zai, zaj, zak, zad, ↓reduceIte, reduceCtorEq, zab, zac, zal, zam, zan, decide_eq_true c, hat]
    repeat' (first
 | with_reducible refine zay ?_ ?_
 | (apply cl_plain
    case hs => rfl
    case ha => (simp only [zae, zag, prepV, prepC, idx, hpL', lookR, zaa, if_true, if_false]; rfl)
    case h => (first | exact k1 ..))
 | ((first | refine s1_id ?_ | refine swp_id ?_ | refine sops_id ?_ | refine s2_id ?_); simp only [decide_eq_true c, hat, zaB, zaF, zap, zaz, zaC, zaw, zax, zat, zaI, zaK, zaq, zau, go_sem, zaa, zah, zai, zaj, zak, zad, ↓reduceIte, reduceCtorEq, zab, zac, zal, zam, zan, zaQ, zaP, zaE, zaO, renO, bk, back, outUpsFrom, Ints_ren])
 | (intros; omega)
 | (intros; (try simp only [zav, zaJ, zaD, zaA, zar, zas, decide_eq_true_eq, decide_eq_false_iff_not] at *); omega))
    refine le_mk (m + 1) ?_ ⟨hlt, by rw [hst]; omega, by rw [hst]; omega⟩ (by omega)
    simp only [hst]
    (refine imp_sub _ _ _ [] (by simp) (by simp) (by simp) (zaU _) ?_ rfl (by simp); simp only [zaf, zao, false_implies, implies_true, and_true, lk, slot, zaQ, zaE, zaa, if_true, if_false, ↓reduceIte, reduceCtorEq])
    all_goals ((repeat' apply zay) <;> (first | rfl | trivial | (simp only [zaL]; done) | (simp only [zaL]; rfl) | (simp only [zaL]; trivial)))
  · rw [if_neg hp] at hst
    rw [decide_eq_false hp] at k1
    simp only [go_sem, zaa, zah, zai, zaj, zak, zad, ↓reduceIte, reduceCtorEq, zab, zac, zal, zam, zan, decide_eq_true c, hat]
    repeat' (first
 | with_reducible refine zay ?_ ?_
 | (apply cl_plain
    case hs => rfl
    case ha => (simp only [zae, zag, prepV, prepC, idx, hpL', lookR, zaa, if_true, if_false]; rfl)
    case h => (first | exact k1 ..))
 | ((first | refine s1_id ?_ | refine swp_id ?_ | refine sops_id ?_ | refine s2_id ?_); simp only [decide_eq_true c, hat, zaB, zaF, zap, zaz, zaC, zaw, zax, zat, zaI, zaK, zaq, zau, go_sem, zaa, zah, zai, zaj, zak, zad, ↓reduceIte, reduceCtorEq, zab, zac, zal, zam, zan, zaQ, zaP, zaE, zaO, renO, bk, back, outUpsFrom, Ints_ren])
 | (intros; omega)
 | (intros; (try simp only [zav, zaJ, zaD, zaA, zar, zas, decide_eq_true_eq, decide_eq_false_iff_not] at *); omega))
    refine le_mk (m + 1) ?_ ⟨hlt, by rw [hst]; omega, by rw [hst]; omega⟩ (by omega)
    simp only [hst]
    (refine imp_sub _ _ _ [] (by simp) (by simp) (by simp) (zaU _) ?_ rfl (by simp); simp only [zaf, zao, false_implies, implies_true, and_true, lk, slot, zaQ, zaE, zaa, if_true, if_false, ↓reduceIte, reduceCtorEq])
    all_goals ((repeat' apply zay) <;> (first | rfl | trivial | (simp only [zaL]; done) | (simp only [zaL]; rfl) | (simp only [zaL]; trivial)))
end Go.Proofs.Ytlajelbiniakpaa
-- NEWGO
-- PRUNE: cl_lendx
-- ISG: Cs_isG
-- FLAT: Cs_flat
namespace Go.Proofs.Ytlajelbiniakpaa
set_option linter.unusedVariables false
set_option linter.unusedSimpArgs false
open Go.Proofs.Ytlajelbiniakpaa.Sh
set_option maxRecDepth 20000
def pkV (l : List Int) (i : Nat) (xs : List Int) : Int := xs.getD (nxV l i xs.length).toNat 0
theorem kpick_spec (l : List Int) (i : Nat) (xs : List Int) (c : Option Nat) (h0 : 0 < xs.length) (h1 : xs.length ≤ 600) (hl : l.length ≤ 600) (hr : ∀ x ∈ l, -9223372036854775808 ≤ x ∧ x ≤ 9223372036854775807) : FnSpec Try.prog 13 [dp, gi xs c] [dice l i] (i1 (pkV l i xs)) [some (dice l (nxA l i xs.length))] := by
  have h2 := nx_rng l i xs.length (by omega)
  refine fnspec_of mixed TT_ok TT_cl ⟨fun _ => false, fun f => if f = 12 then [0] else [], 1, fun _ => false, fun _ => false⟩ Try.func13 rfl (by kernel_rfl) rfl 12 rfl [.tmp 4] rfl ?_
  simp only [go_sem, zaa, zah, zai, zaj, zak, zad, ↓reduceIte, reduceCtorEq, zab, zac, zal, zam, zan]
  repeat' (first
 | with_reducible refine zay ?_ ?_
 | (apply cl_lend
    case hr => (simp only [zae, zag, hpL', lookR, zaa, if_true, if_false]; first | exact map1 _ | exact map2 _ _ | exact map3 _ _ _)
    case ha => (simp only [zae, zag, prepV, prepC, idx, hpL', lookR, zaa, if_true, if_false]; rfl)
    case hs => rfl
    case hn => decide
    case h => (first | exact next_spec _ _ _ hl hr (by omega))
    case hf => (simp only [zaf, zao, false_implies, implies_true, and_true, true_and, flat_cons, flat_nil, flat_ints, flat_bools, flat_app, Cs_flat, zaS, and_self, eq_self_iff_true, zap])
    case hl => (simp only [zaq, zau]; decide))
 | ((first | refine s1_id ?_ | refine swp_id ?_ | refine sops_id ?_ | refine s2_id ?_); simp only [go_sem, zaa, zah, zai, zaj, zak, zad, ↓reduceIte, reduceCtorEq, zab, zac, zal, zam, zan, zaQ, zaP, zaE, zaO, renO, bk, back, outUpsFrom, Ints_ren])
 | (intros; omega)
 | fail)
  (refine fs_flat [(0, dice l (nxA l i xs.length))] (by simp) (by simp only [zae, zag]; decide) (by simp only [go_sem, resV, resS, zaQ, zaP, zaE, zaW, zaT, idx, renO, zaO, evS, slot, lookR, zaa, ↓reduceIte, reduceCtorEq, if_true, if_false, zaM, zaN, zae, zag, sLoad, readAt, readNeed, Ints_ren, Ints_length, Ints_getD, and_true, true_and, zaG, zaH]; try decide) ?_ (by simp only [zaf, zao, false_implies, implies_true, and_true, zaT, lookR, zaa, if_true, if_false, ↓reduceIte] <;> (repeat' apply zay) <;> (first | rfl | trivial)) (by simp only [zaf, zao, false_implies, implies_true, and_true, true_and, flat_cons, flat_nil, flat_ints, flat_bools, flat_app, zaS, and_self, eq_self_iff_true, zap]) ?_ <;> (try simp only [go_sem, resV, resS, zaQ, zaP, zaE, zaW, zaT, idx, renO, zaO, evS, slot, lookR, zaa, ↓reduceIte, reduceCtorEq, if_true, if_false, zaM, zaN, zae, zag, sLoad, readAt, readNeed, Ints_ren, Ints_length, Ints_getD, and_true, true_and, zaG, zaH]) <;> (try rfl))
theorem pkV_rng (l : List Int) (i : Nat) (xs : List Int) {a b : Int} (h0 : 0 < xs.length) (h : ∀ x ∈ xs, a ≤ x ∧ x ≤ b) : a ≤ pkV l i xs ∧ pkV l i xs ≤ b := by
  have h2 := nx_rng l i xs.length (by omega)
  have h3 : (nxV l i xs.length).toNat < xs.length := by omega
  unfold pkV
  rw [List.getD_eq_getElem?_getD, List.getElem?_eq_getElem h3]
  exact h _ (List.getElem_mem _)
abbrev pgL : List Int := [0, 10, 10, 100, 700]
abbrev adL : List Int := [0, 0, 100, -50, -1000, 1000, -999]
def cn1 (D : List Int) (l : List Nd) (j : Nat) (id' : Int) : Cd × Nat :=
  (⟨id' + (1 + nxV D j 3), (gN l (nxV D (nxA D j 3) l.length).toNat).i, pkV D (nxA D (nxA D j 3) l.length) pgL, pkV D (nxA D (nxA D (nxA D j 3) l.length) 5) adL⟩, nxA D (nxA D (nxA D (nxA D j 3) l.length) 5) 7)
def cnS (D : List Int) (l : List Nd) : Nat → Nat → Int → List Cd → List Cd × Nat
  | 0, j, _, acc => (acc, j)
  | m + 1, j, id', acc => cnS D l m (cn1 D l j id').2 (cn1 D l j id').1.p (acc ++ [(cn1 D l j id').1])
def mkCd (D : List Int) (l : List Nd) (j : Nat) : List Cd × Nat := cnS D l (nxV D j 9).toNat (nxA D j 9) 0 []
theorem cn1_ok (D : List Int) {l : List Nd} {n : Int} (hV : VT l n) (j : Nat) (id' : Int) : id' < (cn1 D l j id').1.p ∧ (cn1 D l j id').1.p ≤ id' + 3 ∧ bsF Nd.i l (cn1 D l j id').1.g = true ∧ cdk (cn1 D l j id').1 = true := by
  have r1 := nx_rng D j 3 (by decide)
  have r2 := nx_rng D (nxA D j 3) l.length (by have := hV.ne; omega)
  have r3 := pkV_rng D (nxA D (nxA D j 3) l.length) pgL (a := 0) (b := 700) (by decide) (by decide)
  have r4 := pkV_rng D (nxA D (nxA D (nxA D j 3) l.length) 5) adL (a := -1000) (b := 1000) (by decide) (by decide)
  refine ⟨?_, ?_, ?_, ?_⟩
  · show id' < id' + (1 + nxV D j 3); omega
  · show id' + (1 + nxV D j 3) ≤ id' + 3; omega
  · exact (bs_found Nd.i l (fun i j hij hj => hV.asc i j hij hj) (nxV D (nxA D j 3) l.length).toNat (by omega)).2
  · exact cdk_iff.2 ⟨⟨r3.1, Int.le_trans r3.2 (by decide)⟩, r4⟩
theorem cnS_ok (D : List Int) {l : List Nd} {n : Int} (hV : VT l n) : ∀ (m j : Nat) (id' : Int) (acc : List Cd), ∃ X, (cnS D l m j id' acc).1 = acc ++ X ∧ X.length = m ∧ vaF l X id' = true ∧ ∀ x ∈ X, x.n ≤ 700 ∧ x.p ≤ id' + 3 * m
  | 0, j, id', acc => ⟨[], by rw [zap]; rfl, rfl, rfl, fun x hx => by cases hx⟩
  | m + 1, j, id', acc => by
    obtain ⟨h1, h2, h3, h4⟩ := cn1_ok D hV j id'
    obtain ⟨X, e, hl, hv, hn⟩ := cnS_ok D hV m (cn1 D l j id').2 (cn1 D l j id').1.p (acc ++ [(cn1 D l j id').1])
    refine ⟨(cn1 D l j id').1 :: X, ?_, by rw [zaq, hl], ?_, fun x hx => ?_⟩
    · rw [cnS, e, List.append_assoc]; rfl
    · rw [vaF, decide_eq_true h1, h3, h4, hv]; rfl
    · rcases List.mem_cons.1 hx with rfl | hx
      · exact ⟨(pkV_rng D _ pgL (a := 0) (b := 700) (by decide) (by decide)).2, by omega⟩
      · have := hn x hx
        exact ⟨this.1, by omega⟩
theorem mkCd_ok (D : List Int) {l : List Nd} {n : Int} (hV : VT l n) (j : Nat) : vaM l n (mkCd D l j).1 = true ∧ (mkCd D l j).1.length ≤ 8 ∧ ∀ x ∈ (mkCd D l j).1, x.n ≤ 700 ∧ x.p ≤ 24 := by
  have r := nx_rng D j 9 (by decide)
  obtain ⟨X, e, hl, hv, hn⟩ := cnS_ok D hV (nxV D j 9).toNat (nxA D j 9) 0 []
  unfold mkCd
  rw [e, zaC]
  refine ⟨?_, by omega, fun x hx => ?_⟩
  · unfold vaM
    rw [(chkT_iff l n).2 hV, hv, decide_eq_true (by omega)]; rfl
  · have := hn x hx
    exact ⟨this.1, by omega⟩
def lendK : FuncId → List Nat := fun f => if f = 12 then [0] else if f = 13 then [0] else []
set_option maxHeartbeats 16000000 in
theorem cands_spec (D : List Int) (hl : D.length ≤ 600) (hr : ∀ x ∈ D, -9223372036854775808 ≤ x ∧ x ≤ 9223372036854775807) (l : List Nd) (n : Int) (hV : VT l n) (j : Nat) : FnSpec Try.prog 11 [dp, trV l none n] [dice D j] (gr (mkCd D l j).1 none) [some (dice D (mkCd D l j).2)] := by
  have hnl := nd_len l
  have hle := hV.le
  have hne := hV.ne
  have n0 := next_spec D j 9 hl hr (by decide)
  have r0 := nx_rng D j 9 (by decide)
  obtain ⟨T, hT⟩ : ∃ T, mkCd D l j = T := ⟨_, rfl⟩
  rw [hT]
  obtain ⟨R, J⟩ := T
  unfold mkCd at hT
  simp only
  generalize nxA D j 9 = j0 at *
  obtain ⟨u, hu⟩ : ∃ u : Nat, nxV D j 9 = u := ⟨(nxV D j 9).toNat, by omega⟩
  rw [hu] at n0 r0 hT
  rw [zbc] at hT
  refine fnspec_of mixed TT_ok TT_cl ⟨fun _ => false, lendK, 1, fun _ => false, fun _ => false⟩ Try.func11 rfl (by kernel_rfl) rfl 41 rfl [.tmp 4] rfl ?_
  simp only [go_sem, zaa, zah, zai, zaj, zak, zad, ↓reduceIte, reduceCtorEq, zab, zac, zal, zam, zan, lendK]
  repeat' (first
 | (apply cl_lend
    case hr => (simp only [zae, zag, hpL', lookR, zaa, if_true, if_false]; first | exact map1 _ | exact map2 _ _ | exact map3 _ _ _)
    case ha => (simp only [zae, zag, prepV, prepC, idx, hpL', lookR, zaa, if_true, if_false]; rfl)
    case hs => rfl
    case hn => decide
    case h => (first | exact n0 ..)
    case hf => (simp only [zaf, zao, false_implies, implies_true, and_true, true_and, flat_cons, flat_nil, flat_ints, flat_bools, flat_app, Cs_flat, zaS, and_self, eq_self_iff_true, zap])
    case hl => (simp only [zaq, zau]; decide))
 | ((first | refine s1_id ?_ | refine swp_id ?_ | refine sops_id ?_ | refine s2_id ?_); simp only [lendK, dice, go_sem, zaa, zah, zai, zaj, zak, zad, ↓reduceIte, reduceCtorEq, zab, zac, zal, zam, zan, zaQ, zaP, zaE, zaO, renO, bk, back, outUpsFrom, Ints_ren])
 | (intros; (try simp only [zav, zaJ, zaD, zaA, zar, zas, decide_eq_true_eq, decide_eq_false_iff_not] at *); omega))
  refine w_loop (ι := Nat × Nat × Int × List Cd) (fun s => ⟨[(0, dp), (3, .one (.optr 1 0)), (5, .one (.osl 2 0 s.2.2.2.length none)), (6, i1 s.2.2.1), (7, i1 s.1)], [(0, some (dice D s.2.1)), (1, some ⟨[.gsl (Cs l) 0 l.length none, int n], 2⟩), (2, some ⟨Cs s.2.2.2, 4⟩)], 3⟩) (fun s => s.1 ≤ 8 ∧ s.2.2.2.length ≤ 8 - s.1 ∧ 0 ≤ s.2.2.1 ∧ s.2.2.1 ≤ 3 * (8 - s.1) ∧ cnS D l s.1 s.2.1 s.2.2.1 s.2.2.2 = (R, J)) (fun s => s.1) (u, j0, 0, []) ?_ ⟨by show u ≤ 8; omega, zaU _, Int.le_refl 0, by show (0 : Int) ≤ 3 * (8 - (u : Int)); omega, hT⟩ ?_
  · (refine Imp.trans (imp_nilA _ _ 5 4 99 (by simp only []; omega) rfl) ?_)
    (refine imp_ren _ _ _ [(0, 0, dice D j0), (1, 1, ⟨[.gsl (Cs l) 0 l.length none, int n], 2⟩), (2, 99, ⟨[], 4⟩)] (by simp) (by simp) (by simp) (zaR rfl) ?_ rfl (by simp only [zaf, zao, false_implies, implies_true, and_true, zaT, lookR, zaa, if_true, if_false, ↓reduceIte, dice] <;> (repeat' apply zay) <;> (first | rfl | trivial)) (by simp only [zaf, zao, false_implies, implies_true, and_true, true_and, flat_cons, flat_nil, flat_ints, flat_bools, flat_app, zaS, and_self, eq_self_iff_true, zap, dice]); simp only [zae, zag, zaf, zao, false_implies, implies_true, and_true, lk, slot, zaQ, zaE, toN, zaa, if_true, if_false, ↓reduceIte, reduceCtorEq])
    all_goals ((repeat' apply zay) <;> (first | rfl | trivial))
  clear hT
  rintro ⟨m, j1, id', acc⟩ ⟨hm, ha, hi0, hi1, hI⟩
  simp only at hm ha hi0 hi1 hI ⊢
  rcases Nat.eq_zero_or_pos m with h0 | hpos
  · subst h0
    rw [cnS] at hI
    obtain ⟨rfl, rfl⟩ := Prod.mk.inj hI
    have c : ¬ (0 : Int) < ((0 : Nat) : Int) := by omega
    simp only [go_sem, zaa, zah, zai, zaj, zak, zad, ↓reduceIte, reduceCtorEq, zab, zac, zal, zam, zan, decide_eq_false c, lendK]
    repeat' (first
 | (intros; (try simp only [zav, zaJ, zaD, zaA, zar, zas, decide_eq_true_eq, decide_eq_false_iff_not] at *); omega))
    (refine fs_frz 2 ⟨Cs acc, 4⟩ (by simp only [zaT, lookR, zaa, if_true, if_false, ↓reduceIte]) (by first | exact Ints_isG _ | exact Bools_isG _ | exact Cs_isG _ | (simp [zbj]; done)) ?_; simp only [frzTm, SV.frz, SV.frzL, Cell.frz, frzHp, frzO, Ints_frz, Bools_frz, zae, zag, zaa, if_true, if_false, ↓reduceIte])
    (refine fs_flat [(0, dice D j1)] (by simp) (by simp only [zae, zag]; decide) (by simp only [go_sem, resV, resS, zaQ, zaP, zaE, zaW, zaT, idx, renO, zaO, evS, slot, lookR, zaa, ↓reduceIte, reduceCtorEq, if_true, if_false, zaM, zaN, zae, zag, sLoad, readAt, readNeed, Ints_ren, Ints_length, Ints_getD, and_true, true_and, zaG, zaH]; try decide) ?_ (by simp only [zaf, zao, false_implies, implies_true, and_true, zaT, lookR, zaa, if_true, if_false, ↓reduceIte, dice] <;> (repeat' apply zay) <;> (first | rfl | trivial)) (by simp only [zaf, zao, false_implies, implies_true, and_true, true_and, flat_cons, flat_nil, flat_ints, flat_bools, flat_app, zaS, and_self, eq_self_iff_true, zap, dice]) ?_ <;> (try simp only [go_sem, resV, resS, zaQ, zaP, zaE, zaW, zaT, idx, renO, zaO, evS, slot, lookR, zaa, ↓reduceIte, reduceCtorEq, if_true, if_false, zaM, zaN, zae, zag, sLoad, readAt, readNeed, Ints_ren, Ints_length, Ints_getD, and_true, true_and, zaG, zaH]) <;> (try rfl))
  obtain ⟨m, rfl⟩ : ∃ m', m = m' + 1 := ⟨m - 1, by omega⟩
  have c : (0 : Int) < ((m + 1 : Nat) : Int) := by omega
  rw [cnS] at hI
  unfold cn1 at hI
  simp only at hI
  have n1 := next_spec D j1 3 hl hr (by decide)
  have r1 := nx_rng D j1 3 (by decide)
  generalize nxV D j1 3 = v1 at *
  generalize nxA D j1 3 = j2 at *
  have n2 := next_spec D j2 l.length hl hr (by omega)
  have r2 := nx_rng D j2 l.length (by omega)
  obtain ⟨t, ht⟩ : ∃ t : Nat, nxV D j2 l.length = t := ⟨(nxV D j2 l.length).toNat, by omega⟩
  rw [ht] at n2 r2 hI
  rw [zbc] at hI
  generalize nxA D j2 l.length = j3 at *
  obtain ⟨q1, _⟩ := nd_f l t (by omega) (.sc (.int .i64 0))
  generalize (gN l t).i = g at *
  have n3 : ∀ c, FnSpec Try.prog 13 [dp, gi pgL c] [dice D j3] (i1 (pkV D j3 pgL)) [some (dice D (nxA D j3 5))] := fun c => kpick_spec D j3 pgL c (by decide) (by decide) hl hr
  generalize pkV D j3 pgL = v3 at *
  generalize nxA D j3 5 = j4 at *
  have n4 : ∀ c, FnSpec Try.prog 13 [dp, gi adL c] [dice D j4] (i1 (pkV D j4 adL)) [some (dice D (nxA D j4 7))] := fun c => kpick_spec D j4 adL c (by decide) (by decide) hl hr
  generalize pkV D j4 adL = v4 at *
  generalize nxA D j4 7 = j5 at *
  have hal := cd_len acc
  have htk : zbh (acc.length * 4) (Cs acc) = Cs acc := zaV (by rw [hal]; exact Nat.le_refl _)
  have hpp : Cs acc ++ [int (id' + (1 + v1)), int g, int v3, int v4] = Cs (acc ++ [⟨id' + (1 + v1), g, v3, v4⟩]) := Cs_snoc acc ⟨id' + (1 + v1), g, v3, v4⟩
  have hla : (acc ++ [(⟨id' + (1 + v1), g, v3, v4⟩ : Cd)]).length = acc.length + 1 := by simp
  generalize acc ++ [(⟨id' + (1 + v1), g, v3, v4⟩ : Cd)] = acc2 at *
  have hm1 : ((m + 1 : Nat) : Int) - 1 = (m : Int) := by omega
  simp only [go_sem, zaa, zah, zai, zaj, zak, zad, ↓reduceIte, reduceCtorEq, zab, zac, zal, zam, zan, decide_eq_true c, lendK, ht, q1, htk, hpp, hm1]
  repeat' (first
 | with_reducible refine zay ?_ ?_
 | (unfold OKC; kernel_rfl)
 | (unfold EDG; kernel_rfl)
 | (apply cl_lend
    case hr => (simp only [zae, zag, hpL', lookR, zaa, if_true, if_false]; first | exact map1 _ | exact map2 _ _ | exact map3 _ _ _)
    case ha => (simp only [zae, zag, prepV, prepC, idx, hpL', lookR, zaa, if_true, if_false]; rfl)
    case hs => rfl
    case hn => decide
    case h => (first | exact n1 .. | exact n2 .. | exact n3 .. | exact n4 ..)
    case hf => (simp only [zaf, zao, false_implies, implies_true, and_true, true_and, flat_cons, flat_nil, flat_ints, flat_bools, flat_app, Cs_flat, zaS, and_self, eq_self_iff_true, zap])
    case hl => (simp only [zaq, zau]; decide))
 | (apply cl_use
    case hr => (simp only [zae, zag, hpL', lookR, zaa, if_true, if_false]; first | exact map0 | exact map1 _ | exact map2 _ _ | exact map3 _ _ _)
    case ha => (simp only [zae, zag, prepV, prepC, idx, hpL', lookR, zaa, if_true, if_false]; rfl)
    case hs => (simp only [snaps, SV.refs, zaS, idx, zbd, zbf, zaC, zaz, zap, List.filter_cons, List.filter_nil, zaa, if_true, if_false, Option.isNone_none, Option.isNone_some, Bool.false_eq_true, reduceCtorEq, ↓reduceIte]; rfl)
    case hn => decide
    case h => (first | exact n1 .. | exact n2 .. | exact n3 .. | exact n4 ..)
    case hf => (simp only [zaf, zao, false_implies, implies_true, and_true, true_and, flat_cons, flat_nil, flat_ints, flat_bools, flat_app, Cs_flat, zaS, and_self, eq_self_iff_true, zap])
    case hg => ((simp [hpL', lookR, zbj]) <;> (repeat' apply zay) <;> (first | exact Ints_isG _ | exact Cs_isG _))
    case hl => (simp only [zaq, zau]; decide))
 | ((first | refine s1_id ?_ | refine swp_id ?_ | refine sops_id ?_ | refine s2_id ?_); simp only [decide_eq_true c, lendK, dice, ht, q1, htk, hpp, hm1, zaB, zaF, zap, zaz, zaC, zaw, zax, zat, zaI, zaK, zaq, zau, go_sem, zaa, zah, zai, zaj, zak, zad, ↓reduceIte, reduceCtorEq, zab, zac, zal, zam, zan, zaQ, zaP, zaE, zaO, renO, bk, back, outUpsFrom, Ints_ren])
 | (intros; omega)
 | (intros; (try simp only [zav, zaJ, zaD, zaA, zar, zas, decide_eq_true_eq, decide_eq_false_iff_not] at *); omega))
  refine le_mk (m, j5, id' + (1 + v1), acc2) ?_ ⟨by show m ≤ 8; omega, by show acc2.length ≤ 8 - m; omega, by show 0 ≤ id' + (1 + v1); omega, by show id' + (1 + v1) ≤ 3 * (8 - (m : Int)); omega, hI⟩ (Nat.lt_succ_self m)
  simp only [hla]
  (refine imp_ren _ _ _ [(0, 0, dice D j5), (1, 1, ⟨[.gsl (Cs l) 0 l.length none, int n], 2⟩), (2, 31, ⟨Cs acc2, 4⟩)] (by simp) (by simp) (by simp) (zaR rfl) ?_ rfl (by simp only [zaf, zao, false_implies, implies_true, and_true, zaT, lookR, zaa, if_true, if_false, ↓reduceIte, dice, Cs_flat] <;> (repeat' apply zay) <;> (first | rfl | trivial)) (by simp only [zaf, zao, false_implies, implies_true, and_true, true_and, flat_cons, flat_nil, flat_ints, flat_bools, flat_app, zaS, and_self, eq_self_iff_true, zap, dice, Cs_flat]); simp only [zae, zag, zaf, zao, false_implies, implies_true, and_true, lk, slot, zaQ, zaE, toN, zaa, if_true, if_false, ↓reduceIte, reduceCtorEq])
  all_goals ((repeat' apply zay) <;> (first | rfl | trivial))
end Go.Proofs.Ytlajelbiniakpaa
-- NEWGO
-- PRUNE: cl_lendx cl_use
-- ISG: Cs_isG
-- FLAT: Cs_flat
namespace Go.Proofs.Ytlajelbiniakpaa
set_option linter.unusedVariables false
set_option linter.unusedSimpArgs false
open Go.Proofs.Ytlajelbiniakpaa.Sh
set_option maxRecDepth 20000
def gpF (G : List Int) (at' : Int) : List Int → Int → Int
  | [], acc => acc
  | a :: r, acc => if a = at' then (if a ∈ G then a else acc) else gpF G at' r (if a ∈ G then a else acc)
def grM (l : List Nd) (n : Int) (G : List Int) (at' : Int) (c : Cd) : Int := gpF G at' (ancM l n c.g) 0
def prM (l : List Nd) (n : Int) (C : List Cd) (g : Int) (v : Int) : List Int := if g = 0 then [v] else (wiM l n C g).map (·.p)
def deM (l : List Nd) (n : Int) (C : List Cd) (G : List Int) (at' t : Int) : (Int × List Int × Int) × Int :=
  if (viM l n C at' t).2 = 0 then (((viM l n C at' t).1.p, prM l n C (grM l n G at' (viM l n C at' t).1) (viM l n C at' t).1.p, grM l n G at' (viM l n C at' t).1), 0) else ((0, [], 0), (viM l n C at' t).2)
set_option maxHeartbeats 32000000 in
theorem decide_own (l : List Nd) (n : Int) (C : List Cd) (k : Option Nat) (G : List Int) (kg : Option Nat) (at' t : Int) (hl : l.length ≤ 1000000) (hC : C.length ≤ 1000000) (hG : G.length ≤ 9223372036854775807) (hnm : NmR l) (hct : CtR l) : FnSpec Try.prog 21 [trV l none n, gr C k, gi G kg, i1 at', i1 t] [] (.tup [.agg [int (deM l n C G at' t).1.1, .osl 0 0 (deM l n C G at' t).1.2.1.length none, int (deM l n C G at' t).1.2.2], i1 (deM l n C G at' t).2]) [some ⟨Ints (deM l n C G at' t).1.2.1, 1⟩] := by
  have h1 := victim1_spec l n C k at' t hl hC hnm hct
  unfold deM
  by_cases he : (viM l n C at' t).2 = 0
  case neg =>
    rw [if_neg he]
    generalize viM l n C at' t = q at *
    obtain ⟨⟨p, g, m, a⟩, e⟩ := q
    simp only [cdc] at h1 he ⊢
    refine fnspec_of mixed TT_ok TT_cl ⟨fun _ => false, fun _ => [], 0, fun _ => false, fun _ => false⟩ Try.func21 rfl (by kernel_rfl) rfl 78 rfl [.cell 10 52, .tmp 11] rfl ?_
    simp only [go_sem, zaa, zah, zai, zaj, zak, zad, ↓reduceIte, reduceCtorEq, zab, zac, zal, zam, zan, decide_eq_false he]
    repeat' (first
 | (apply cl_plain
    case hs => rfl
    case ha => (simp only [zae, zag, prepV, prepC, idx, hpL', lookR, zaa, if_true, if_false]; rfl)
    case h => (first | exact h1 ..))
 | ((first | refine s1_id ?_ | refine swp_id ?_ | refine sops_id ?_ | refine s2_id ?_); simp only [decide_eq_false he, zaB, zaF, zap, zaz, zaC, zaw, zax, zat, zaI, zaK, zaq, zau, go_sem, zaa, zah, zai, zaj, zak, zad, ↓reduceIte, reduceCtorEq, zab, zac, zal, zam, zan, zaQ, zaP, zaE, zaO, renO, bk, back, outUpsFrom, Ints_ren])
 | (intros; (try simp only [zav, zaJ, zaD, zaA, zar, zas, decide_eq_true_eq, decide_eq_false_iff_not] at *); omega))
    refine fs_imp _ (imp_nilC _ _ 1 1 1 99 (by simp only []; omega) (by simp only [zaT, lookR, zaa, if_true, if_false, ↓reduceIte]; rfl) rfl) ?_
    (refine fs_flat [(99, ⟨[], 1⟩)] (by simp) (by simp only [zae, zag]; decide) (by simp only [go_sem, resV, resS, zaQ, zaP, zaE, zaW, zaT, idx, renO, zaO, evS, slot, lookR, zaa, ↓reduceIte, reduceCtorEq, if_true, if_false, zaM, zaN, zae, zag, sLoad, readAt, readNeed, Ints_ren, Ints_length, Ints_getD, and_true, true_and, zaG, zaH]; try decide) ?_ (by simp only [zaf, zao, false_implies, implies_true, and_true, zaT, lookR, zaa, if_true, if_false, ↓reduceIte] <;> (repeat' apply zay) <;> (first | rfl | trivial)) (by simp only [zaf, zao, false_implies, implies_true, and_true, true_and, flat_cons, flat_nil, flat_ints, flat_bools, flat_app, zaS, and_self, eq_self_iff_true, zap]) ?_ <;> (try simp only [go_sem, resV, resS, zaQ, zaP, zaE, zaW, zaT, idx, renO, zaO, evS, slot, lookR, zaa, ↓reduceIte, reduceCtorEq, if_true, if_false, zaM, zaN, zae, zag, sLoad, readAt, readNeed, Ints_ren, Ints_length, Ints_getD, and_true, true_and, zaG, zaH]) <;> (try rfl))
  rw [if_pos he]
  have h2 := fun c : Cd => tanc_spec l n c.g hl hnm hct
  have h2l := fun c : Cd => ancM_len l n c.g
  have h3 := fun g => within_spec l n C k g hl hC hnm hct
  have h3l : ∀ g, (wiM l n C g).length ≤ C.length := fun g => List.length_filter_le _ _
  generalize hq : viM l n C at' t = q at *
  obtain ⟨c, e⟩ := q
  simp only at he
  subst he
  obtain ⟨GR, hGR⟩ : ∃ GR, grM l n G at' c = GR := ⟨_, rfl⟩
  simp only
  rw [hGR]
  unfold grM at hGR
  have h2 := h2 c
  have h2l := h2l c
  clear hq
  obtain ⟨p, g, m, a⟩ := c
  simp only [cdc] at h1 h2 h2l hGR ⊢
  generalize ancM l n g = U at *
  have h3 := h3 GR
  have h3l := h3l GR
  have hk : ∀ k x, FnSpec Try.prog 35 [gi G k, i1 x] [] (b1 (decide (x ∈ G))) [] := fun k x => kccon_spec G k x hG
  unfold prM
  generalize wiM l n C GR = W at *
  refine fnspec_of mixed TT_ok TT_cl ⟨fun _ => false, fun _ => [], 0, fun _ => false, fun _ => false⟩ Try.func21 rfl (by kernel_rfl) rfl 78 rfl [.cell 10 52, .tmp 11] rfl ?_
  simp only [go_sem, zaa, zah, zai, zaj, zak, zad, ↓reduceIte, reduceCtorEq, zab, zac, zal, zam, zan]
  repeat' (first
 | (apply cl_plain
    case hs => rfl
    case ha => (simp only [zae, zag, prepV, prepC, idx, hpL', lookR, zaa, if_true, if_false]; rfl)
    case h => (first | exact h1 .. | exact h2 ..))
 | ((first | refine s1_id ?_ | refine swp_id ?_ | refine sops_id ?_ | refine s2_id ?_); simp only [decide_true, zaB, zaF, zap, zaz, zaC, zaw, zax, zat, zaI, zaK, zaq, zau, go_sem, zaa, zah, zai, zaj, zak, zad, ↓reduceIte, reduceCtorEq, zab, zac, zal, zam, zan, zaQ, zaP, zaE, zaO, renO, bk, back, outUpsFrom, Ints_ren])
 | (intros; (try simp only [zav, zaJ, zaD, zaA, zar, zas, decide_eq_true_eq, decide_eq_false_iff_not] at *); omega))
  refine w_loop (ι := Nat × Int) (fun s => ⟨[(1, gr C k), (2, gi G kg), (3, i1 at'), (5, .one (.optr 0 0)), (10, .one (.optr 1 0)), (14, .one (.optr 2 0)), (40, gi U none), (41, i1 U.length), (42, i1 s.1)], [(0, some ⟨[.gsl (Cs l) 0 l.length none, int n], 2⟩), (1, some ⟨[int 0, .sc (.slice none 0 0), int 0], 3⟩), (2, some ⟨[int p, .osl 3 0 1 (some 1), int s.2], 3⟩), (3, some ⟨Ints [p], 1⟩)], 4⟩) (fun s => s.1 ≤ U.length ∧ gpF G at' (U.drop s.1) s.2 = GR) (fun s => U.length - s.1) (0, 0) ?_ ⟨zaU _, hGR⟩ ?_
  · (refine imp_sub _ _ _ [(0, 0), (1, 1), (2, 22), (3, 20)] (by simp) (by simp) (by simp) (zaR rfl) ?_ (by simp only [zae, zag, zaT, lookR, renO, zaO, zaE, toN, Ints_ren, Bools_ren, zaa, if_true, if_false, ↓reduceIte] <;> (try rfl)) (by simp only [zaf, zao, false_implies, implies_true, and_true, zaT, lookR, zaa, if_true, if_false, ↓reduceIte, Option.some.injEq, forall_eq'] <;> ((repeat' with_reducible apply zay) <;> (first | with_reducible trivial | exact fun c hc q hq => absurd hq (Ints_refs0 _ _ c hc) | (simp [zaS, toN]; done)))); simp only [zae, zag, zaf, zao, false_implies, implies_true, and_true, lk, slot, zaQ, zaE, toN, zaa, if_true, if_false, ↓reduceIte, reduceCtorEq])
    all_goals ((repeat' apply zay) <;> (first | rfl | trivial))
  clear h1 h2 hGR
  rintro ⟨i, acc⟩ ⟨hi, hI⟩
  simp only at hi hI ⊢
  have hway : (U.length ≤ i ∧ GR = acc) ∨ (i < U.length ∧ ∃ a, U.getD i 0 = a ∧ ((a = at' ∧ ((a ∈ G ∧ GR = a) ∨ (¬ a ∈ G ∧ GR = acc))) ∨ (a ≠ at' ∧ ((a ∈ G ∧ gpF G at' (U.drop (i + 1)) a = GR) ∨ (¬ a ∈ G ∧ gpF G at' (U.drop (i + 1)) acc = GR))))) := by
    rcases zbb i U.length with hlt | hge
    · right
      refine ⟨hlt, U.getD i 0, rfl, ?_⟩
      rw [drop_getD U i 0 hlt, gpF] at hI
      generalize U.getD i 0 = a at *
      by_cases h1 : a = at'
      · rw [if_pos h1] at hI
        by_cases h2 : a ∈ G
        · rw [if_pos h2] at hI; exact .inl ⟨h1, .inl ⟨h2, hI.symm⟩⟩
        · rw [if_neg h2] at hI; exact .inl ⟨h1, .inr ⟨h2, hI.symm⟩⟩
      · rw [if_neg h1] at hI
        by_cases h2 : a ∈ G
        · rw [if_pos h2] at hI; exact .inr ⟨h1, .inl ⟨h2, hI⟩⟩
        · rw [if_neg h2] at hI; exact .inr ⟨h1, .inr ⟨h2, hI⟩⟩
    · left
      rw [zaZ hge, gpF] at hI
      exact ⟨hge, hI.symm⟩
  clear hI
  rcases hway with ⟨hge, hI⟩ | ⟨hlt, a', hel, ⟨hat, ⟨hin, hI⟩ | ⟨hin, hI⟩⟩ | ⟨hat, ⟨hin, hI⟩ | ⟨hin, hI⟩⟩⟩
  focus
    have c : ¬ (i : Int) < (U.length : Int) := by omega
    subst hI
    by_cases h0 : GR = 0
    focus
      rw [if_pos h0]
      simp only [go_sem, zaa, zah, zai, zaj, zak, zad, ↓reduceIte, reduceCtorEq, zab, zac, zal, zam, zan, decide_eq_false c, decide_eq_true h0]
      repeat' (first
 | (intros; (try simp only [zav, zaJ, zaD, zaA, zar, zas, decide_eq_true_eq, decide_eq_false_iff_not] at *); omega))
      subst h0
      refine fs_res (res0 := .tup [.agg [int p, .osl 0 0 1 (some 1), int 0], i1 0]) (svw_of (by simp only [sw_tup, swl_cons, swl_nil, sw_agg, sw_one, cwl_cons, cwl_nil, cw_id, and_true, true_and]; exact cw_ocap _ _ _ _)) ?_
      (refine fs_mk [3] (by simp) (by decide) (by simp only [go_sem, resV, resS, zaQ, zaP, zaE, zaW, zaT, idx, renO, zaO, evS, slot, lookR, zaa, ↓reduceIte, reduceCtorEq, if_true, if_false, zaM, zaN, zae, zag, sLoad, readAt, readNeed, Ints_ren, Ints_length, Ints_getD, and_true, true_and, zaG, zaH]; try decide) ?_ ?_ ?_ <;> (try simp only [go_sem, resV, resS, zaQ, zaP, zaE, zaW, zaT, idx, renO, zaO, evS, slot, lookR, zaa, ↓reduceIte, reduceCtorEq, if_true, if_false, zaM, zaN, zae, zag, sLoad, readAt, readNeed, Ints_ren, Ints_length, Ints_getD, and_true, true_and, zaG, zaH, zaT, lookR, renO, zaO, zaE, idx, zae, zag, Ints_ren, zaf, zao, false_implies, implies_true, Option.some.injEq, forall_eq', and_true, true_and]) <;> (try rfl) <;> (try ((repeat' apply zay) <;> (first | trivial | exact fun c hc q hq => absurd hq (Ints_refs0 _ _ c hc) | (simp [zaS]; done)))))
    focus
      rw [if_neg h0]
      simp only [go_sem, zaa, zah, zai, zaj, zak, zad, ↓reduceIte, reduceCtorEq, zab, zac, zal, zam, zan, decide_eq_false c, decide_eq_false h0]
      repeat' (first
 | (apply cl_plain
    case hs => rfl
    case ha => (simp only [zae, zag, prepV, prepC, idx, hpL', lookR, zaa, if_true, if_false]; rfl)
    case h => (first | exact hk .. | exact h3 ..))
 | ((first | refine s1_id ?_ | refine swp_id ?_ | refine sops_id ?_ | refine s2_id ?_); simp only [decide_eq_false c, decide_eq_false h0, zaB, zaF, zap, zaz, zaC, zaw, zax, zat, zaI, zaK, zaq, zau, go_sem, zaa, zah, zai, zaj, zak, zad, ↓reduceIte, reduceCtorEq, zab, zac, zal, zam, zan, zaQ, zaP, zaE, zaO, renO, bk, back, outUpsFrom, Ints_ren])
 | (intros; (try simp only [zav, zaJ, zaD, zaA, zar, zas, decide_eq_true_eq, decide_eq_false_iff_not] at *); omega))
      refine w_loop (ι := Nat) (fun m => ⟨[(10, .one (.optr 0 0)), (14, .one (.optr 1 0)), (63, gr W none), (64, i1 W.length), (65, i1 m)], [(0, some ⟨[int 0, .sc (.slice none 0 0), int 0], 3⟩), (1, some ⟨[int p, .osl 2 0 m none, int GR], 3⟩), (2, some ⟨Ints ((W.take m).map (·.p)), 1⟩)], 3⟩) (fun m => m ≤ W.length) (fun m => W.length - m) 0 ?_ (zaU _) ?_
      focus
        (refine Imp.trans (imp_nilC _ _ 2 1 1 99 (by simp only []; omega) (by simp only [zaT, lookR, zaa, if_true, if_false, ↓reduceIte]; rfl) rfl) ?_)
        (refine imp_sub _ _ _ [(0, 1), (1, 2), (2, 99)] (by simp) (by simp) (by simp) (zaR rfl) ?_ (by simp only [zae, zag, zaT, lookR, renO, zaO, zaE, toN, Ints_ren, Bools_ren, zaa, if_true, if_false, ↓reduceIte] <;> (try rfl)) (by simp only [zaf, zao, false_implies, implies_true, and_true, zaT, lookR, zaa, if_true, if_false, ↓reduceIte, Option.some.injEq, forall_eq'] <;> ((repeat' with_reducible apply zay) <;> (first | with_reducible trivial | exact fun c hc q hq => absurd hq (Ints_refs0 _ _ c hc) | (simp [zaS, toN]; done)))); simp only [zae, zag, zaf, zao, false_implies, implies_true, and_true, lk, slot, zaQ, zaE, toN, zaa, if_true, if_false, ↓reduceIte, reduceCtorEq])
        all_goals ((repeat' apply zay) <;> (first | rfl | trivial))
  rotate_left
  focus
    have c : (i : Int) < (U.length : Int) := by omega
    subst hI
    by_cases h0 : GR = 0
    focus
      rw [if_pos h0]
      simp only [go_sem, zaa, zah, zai, zaj, zak, zad, ↓reduceIte, reduceCtorEq, zab, zac, zal, zam, zan, decide_eq_true c, hel, decide_eq_true hat, decide_eq_true hin, decide_eq_true h0]
      repeat' (first
 | with_reducible refine zay ?_ ?_
 | (apply cl_plain
    case hs => rfl
    case ha => (simp only [zae, zag, prepV, prepC, idx, hpL', lookR, zaa, if_true, if_false]; rfl)
    case h => (first | exact hk ..))
 | ((first | refine s1_id ?_ | refine swp_id ?_ | refine sops_id ?_ | refine s2_id ?_); simp only [decide_eq_true c, hel, decide_eq_true hat, decide_eq_true hin, decide_eq_true h0, zaB, zaF, zap, zaz, zaC, zaw, zax, zat, zaI, zaK, zaq, zau, go_sem, zaa, zah, zai, zaj, zak, zad, ↓reduceIte, reduceCtorEq, zab, zac, zal, zam, zan, zaQ, zaP, zaE, zaO, renO, bk, back, outUpsFrom, Ints_ren])
 | (intros; omega)
 | (intros; (try simp only [zav, zaJ, zaD, zaA, zar, zas, decide_eq_true_eq, decide_eq_false_iff_not] at *); omega))
      subst h0
      refine fs_res (res0 := .tup [.agg [int p, .osl 0 0 1 (some 1), int 0], i1 0]) (svw_of (by simp only [sw_tup, swl_cons, swl_nil, sw_agg, sw_one, cwl_cons, cwl_nil, cw_id, and_true, true_and]; exact cw_ocap _ _ _ _)) ?_
      (refine fs_mk [3] (by simp) (by decide) (by simp only [go_sem, resV, resS, zaQ, zaP, zaE, zaW, zaT, idx, renO, zaO, evS, slot, lookR, zaa, ↓reduceIte, reduceCtorEq, if_true, if_false, zaM, zaN, zae, zag, sLoad, readAt, readNeed, Ints_ren, Ints_length, Ints_getD, and_true, true_and, zaG, zaH]; try decide) ?_ ?_ ?_ <;> (try simp only [go_sem, resV, resS, zaQ, zaP, zaE, zaW, zaT, idx, renO, zaO, evS, slot, lookR, zaa, ↓reduceIte, reduceCtorEq, if_true, if_false, zaM, zaN, zae, zag, sLoad, readAt, readNeed, Ints_ren, Ints_length, Ints_getD, and_true, true_and, zaG, zaH, zaT, lookR, renO, zaO, zaE, idx, zae, zag, Ints_ren, zaf, zao, false_implies, implies_true, Option.some.injEq, forall_eq', and_true, true_and]) <;> (try rfl) <;> (try ((repeat' apply zay) <;> (first | trivial | exact fun c hc q hq => absurd hq (Ints_refs0 _ _ c hc) | (simp [zaS]; done)))))
    focus
      rw [if_neg h0]
      simp only [go_sem, zaa, zah, zai, zaj, zak, zad, ↓reduceIte, reduceCtorEq, zab, zac, zal, zam, zan, decide_eq_true c, hel, decide_eq_true hat, decide_eq_true hin, decide_eq_false h0]
      repeat' (first
 | with_reducible refine zay ?_ ?_
 | (apply cl_plain
    case hs => rfl
    case ha => (simp only [zae, zag, prepV, prepC, idx, hpL', lookR, zaa, if_true, if_false]; rfl)
    case h => (first | exact hk .. | exact h3 ..))
 | ((first | refine s1_id ?_ | refine swp_id ?_ | refine sops_id ?_ | refine s2_id ?_); simp only [decide_eq_true c, hel, decide_eq_true hat, decide_eq_true hin, decide_eq_false h0, zaB, zaF, zap, zaz, zaC, zaw, zax, zat, zaI, zaK, zaq, zau, go_sem, zaa, zah, zai, zaj, zak, zad, ↓reduceIte, reduceCtorEq, zab, zac, zal, zam, zan, zaQ, zaP, zaE, zaO, renO, bk, back, outUpsFrom, Ints_ren])
 | (intros; omega)
 | (intros; (try simp only [zav, zaJ, zaD, zaA, zar, zas, decide_eq_true_eq, decide_eq_false_iff_not] at *); omega))
      refine w_loop (ι := Nat) (fun m => ⟨[(10, .one (.optr 0 0)), (14, .one (.optr 1 0)), (63, gr W none), (64, i1 W.length), (65, i1 m)], [(0, some ⟨[int 0, .sc (.slice none 0 0), int 0], 3⟩), (1, some ⟨[int p, .osl 2 0 m none, int GR], 3⟩), (2, some ⟨Ints ((W.take m).map (·.p)), 1⟩)], 3⟩) (fun m => m ≤ W.length) (fun m => W.length - m) 0 ?_ (zaU _) ?_
      focus
        (refine Imp.trans (imp_nilC _ _ 2 1 1 99 (by simp only []; omega) (by simp only [zaT, lookR, zaa, if_true, if_false, ↓reduceIte]; rfl) rfl) ?_)
        (refine imp_sub _ _ _ [(0, 1), (1, 2), (2, 99)] (by simp) (by simp) (by simp) (zaR rfl) ?_ (by simp only [zae, zag, zaT, lookR, renO, zaO, zaE, toN, Ints_ren, Bools_ren, zaa, if_true, if_false, ↓reduceIte] <;> (try rfl)) (by simp only [zaf, zao, false_implies, implies_true, and_true, zaT, lookR, zaa, if_true, if_false, ↓reduceIte, Option.some.injEq, forall_eq'] <;> ((repeat' with_reducible apply zay) <;> (first | with_reducible trivial | exact fun c hc q hq => absurd hq (Ints_refs0 _ _ c hc) | (simp [zaS, toN]; done)))); simp only [zae, zag, zaf, zao, false_implies, implies_true, and_true, lk, slot, zaQ, zaE, toN, zaa, if_true, if_false, ↓reduceIte, reduceCtorEq])
        all_goals ((repeat' apply zay) <;> (first | rfl | trivial))
  rotate_left
  focus
    have c : (i : Int) < (U.length : Int) := by omega
    subst hI
    by_cases h0 : GR = 0
    focus
      rw [if_pos h0]
      simp only [go_sem, zaa, zah, zai, zaj, zak, zad, ↓reduceIte, reduceCtorEq, zab, zac, zal, zam, zan, decide_eq_true c, hel, decide_eq_true hat, decide_eq_false hin, decide_eq_true h0]
      repeat' (first
 | with_reducible refine zay ?_ ?_
 | (apply cl_plain
    case hs => rfl
    case ha => (simp only [zae, zag, prepV, prepC, idx, hpL', lookR, zaa, if_true, if_false]; rfl)
    case h => (first | exact hk ..))
 | ((first | refine s1_id ?_ | refine swp_id ?_ | refine sops_id ?_ | refine s2_id ?_); simp only [decide_eq_true c, hel, decide_eq_true hat, decide_eq_false hin, decide_eq_true h0, zaB, zaF, zap, zaz, zaC, zaw, zax, zat, zaI, zaK, zaq, zau, go_sem, zaa, zah, zai, zaj, zak, zad, ↓reduceIte, reduceCtorEq, zab, zac, zal, zam, zan, zaQ, zaP, zaE, zaO, renO, bk, back, outUpsFrom, Ints_ren])
 | (intros; omega)
 | (intros; (try simp only [zav, zaJ, zaD, zaA, zar, zas, decide_eq_true_eq, decide_eq_false_iff_not] at *); omega))
      subst h0
      refine fs_res (res0 := .tup [.agg [int p, .osl 0 0 1 (some 1), int 0], i1 0]) (svw_of (by simp only [sw_tup, swl_cons, swl_nil, sw_agg, sw_one, cwl_cons, cwl_nil, cw_id, and_true, true_and]; exact cw_ocap _ _ _ _)) ?_
      (refine fs_mk [3] (by simp) (by decide) (by simp only [go_sem, resV, resS, zaQ, zaP, zaE, zaW, zaT, idx, renO, zaO, evS, slot, lookR, zaa, ↓reduceIte, reduceCtorEq, if_true, if_false, zaM, zaN, zae, zag, sLoad, readAt, readNeed, Ints_ren, Ints_length, Ints_getD, and_true, true_and, zaG, zaH]; try decide) ?_ ?_ ?_ <;> (try simp only [go_sem, resV, resS, zaQ, zaP, zaE, zaW, zaT, idx, renO, zaO, evS, slot, lookR, zaa, ↓reduceIte, reduceCtorEq, if_true, if_false, zaM, zaN, zae, zag, sLoad, readAt, readNeed, Ints_ren, Ints_length, Ints_getD, and_true, true_and, zaG, zaH, zaT, lookR, renO, zaO, zaE, idx, zae, zag, Ints_ren, zaf, zao, false_implies, implies_true, Option.some.injEq, forall_eq', and_true, true_and]) <;> (try rfl) <;> (try ((repeat' apply zay) <;> (first | trivial | exact fun c hc q hq => absurd hq (Ints_refs0 _ _ c hc) | (simp [zaS]; done)))))
    focus
      rw [if_neg h0]
      simp only [go_sem, zaa, zah, zai, zaj, zak, zad, ↓reduceIte, reduceCtorEq, zab, zac, zal, zam, zan, decide_eq_true c, hel, decide_eq_true hat, decide_eq_false hin, decide_eq_false h0]
      repeat' (first
 | with_reducible refine zay ?_ ?_
 | (apply cl_plain
    case hs => rfl
    case ha => (simp only [zae, zag, prepV, prepC, idx, hpL', lookR, zaa, if_true, if_false]; rfl)
    case h => (first | exact hk .. | exact h3 ..))
 | ((first | refine s1_id ?_ | refine swp_id ?_ | refine sops_id ?_ | refine s2_id ?_); simp only [decide_eq_true c, hel, decide_eq_true hat, decide_eq_false hin, decide_eq_false h0, zaB, zaF, zap, zaz, zaC, zaw, zax, zat, zaI, zaK, zaq, zau, go_sem, zaa, zah, zai, zaj, zak, zad, ↓reduceIte, reduceCtorEq, zab, zac, zal, zam, zan, zaQ, zaP, zaE, zaO, renO, bk, back, outUpsFrom, Ints_ren])
 | (intros; omega)
 | (intros; (try simp only [zav, zaJ, zaD, zaA, zar, zas, decide_eq_true_eq, decide_eq_false_iff_not] at *); omega))
      refine w_loop (ι := Nat) (fun m => ⟨[(10, .one (.optr 0 0)), (14, .one (.optr 1 0)), (63, gr W none), (64, i1 W.length), (65, i1 m)], [(0, some ⟨[int 0, .sc (.slice none 0 0), int 0], 3⟩), (1, some ⟨[int p, .osl 2 0 m none, int GR], 3⟩), (2, some ⟨Ints ((W.take m).map (·.p)), 1⟩)], 3⟩) (fun m => m ≤ W.length) (fun m => W.length - m) 0 ?_ (zaU _) ?_
      focus
        (refine Imp.trans (imp_nilC _ _ 2 1 1 99 (by simp only []; omega) (by simp only [zaT, lookR, zaa, if_true, if_false, ↓reduceIte]; rfl) rfl) ?_)
        (refine imp_sub _ _ _ [(0, 1), (1, 2), (2, 99)] (by simp) (by simp) (by simp) (zaR rfl) ?_ (by simp only [zae, zag, zaT, lookR, renO, zaO, zaE, toN, Ints_ren, Bools_ren, zaa, if_true, if_false, ↓reduceIte] <;> (try rfl)) (by simp only [zaf, zao, false_implies, implies_true, and_true, zaT, lookR, zaa, if_true, if_false, ↓reduceIte, Option.some.injEq, forall_eq'] <;> ((repeat' with_reducible apply zay) <;> (first | with_reducible trivial | exact fun c hc q hq => absurd hq (Ints_refs0 _ _ c hc) | (simp [zaS, toN]; done)))); simp only [zae, zag, zaf, zao, false_implies, implies_true, and_true, lk, slot, zaQ, zaE, toN, zaa, if_true, if_false, ↓reduceIte, reduceCtorEq])
        all_goals ((repeat' apply zay) <;> (first | rfl | trivial))
  rotate_left
  focus
    have c : (i : Int) < (U.length : Int) := by omega
    simp only [go_sem, zaa, zah, zai, zaj, zak, zad, ↓reduceIte, reduceCtorEq, zab, zac, zal, zam, zan, decide_eq_true c, hel, decide_eq_false hat, decide_eq_true hin]
    repeat' (first
 | with_reducible refine zay ?_ ?_
 | (apply cl_plain
    case hs => rfl
    case ha => (simp only [zae, zag, prepV, prepC, idx, hpL', lookR, zaa, if_true, if_false]; rfl)
    case h => (first | exact hk ..))
 | ((first | refine s1_id ?_ | refine swp_id ?_ | refine sops_id ?_ | refine s2_id ?_); simp only [decide_eq_true c, hel, decide_eq_false hat, decide_eq_true hin, zaB, zaF, zap, zaz, zaC, zaw, zax, zat, zaI, zaK, zaq, zau, go_sem, zaa, zah, zai, zaj, zak, zad, ↓reduceIte, reduceCtorEq, zab, zac, zal, zam, zan, zaQ, zaP, zaE, zaO, renO, bk, back, outUpsFrom, Ints_ren])
 | (intros; omega)
 | (intros; (try simp only [zav, zaJ, zaD, zaA, zar, zas, decide_eq_true_eq, decide_eq_false_iff_not] at *); omega))
    refine le_mk (i + 1, a') ?_ ⟨hlt, hI⟩ (by show U.length - (i + 1) < U.length - i; omega)
    (refine imp_sub _ _ _ [(0, 0), (1, 1), (2, 2), (3, 3)] (by simp) (by simp) (by simp) (zaR rfl) ?_ (by simp only [zae, zag, zaT, lookR, renO, zaO, zaE, toN, Ints_ren, Bools_ren, zaa, if_true, if_false, ↓reduceIte] <;> (try rfl)) (by simp only [zaf, zao, false_implies, implies_true, and_true, zaT, lookR, zaa, if_true, if_false, ↓reduceIte, Option.some.injEq, forall_eq'] <;> ((repeat' with_reducible apply zay) <;> (first | with_reducible trivial | exact fun c hc q hq => absurd hq (Ints_refs0 _ _ c hc) | (simp [zaS, toN]; done)))); simp only [zae, zag, zaf, zao, false_implies, implies_true, and_true, lk, slot, zaQ, zaE, toN, zaa, if_true, if_false, ↓reduceIte, reduceCtorEq])
    all_goals ((repeat' apply zay) <;> (first | rfl | trivial | (simp only [zaL]; done) | (simp only [zaL]; rfl) | (simp only [zaL]; trivial)))
  focus
    have c : (i : Int) < (U.length : Int) := by omega
    simp only [go_sem, zaa, zah, zai, zaj, zak, zad, ↓reduceIte, reduceCtorEq, zab, zac, zal, zam, zan, decide_eq_true c, hel, decide_eq_false hat, decide_eq_false hin]
    repeat' (first
 | with_reducible refine zay ?_ ?_
 | (apply cl_plain
    case hs => rfl
    case ha => (simp only [zae, zag, prepV, prepC, idx, hpL', lookR, zaa, if_true, if_false]; rfl)
    case h => (first | exact hk ..))
 | ((first | refine s1_id ?_ | refine swp_id ?_ | refine sops_id ?_ | refine s2_id ?_); simp only [decide_eq_true c, hel, decide_eq_false hat, decide_eq_false hin, zaB, zaF, zap, zaz, zaC, zaw, zax, zat, zaI, zaK, zaq, zau, go_sem, zaa, zah, zai, zaj, zak, zad, ↓reduceIte, reduceCtorEq, zab, zac, zal, zam, zan, zaQ, zaP, zaE, zaO, renO, bk, back, outUpsFrom, Ints_ren])
 | (intros; omega)
 | (intros; (try simp only [zav, zaJ, zaD, zaA, zar, zas, decide_eq_true_eq, decide_eq_false_iff_not] at *); omega))
    refine le_mk (i + 1, acc) ?_ ⟨hlt, hI⟩ (by show U.length - (i + 1) < U.length - i; omega)
    (refine imp_sub _ _ _ [(0, 0), (1, 1), (2, 2), (3, 3)] (by simp) (by simp) (by simp) (zaR rfl) ?_ (by simp only [zae, zag, zaT, lookR, renO, zaO, zaE, toN, Ints_ren, Bools_ren, zaa, if_true, if_false, ↓reduceIte] <;> (try rfl)) (by simp only [zaf, zao, false_implies, implies_true, and_true, zaT, lookR, zaa, if_true, if_false, ↓reduceIte, Option.some.injEq, forall_eq'] <;> ((repeat' with_reducible apply zay) <;> (first | with_reducible trivial | exact fun c hc q hq => absurd hq (Ints_refs0 _ _ c hc) | (simp [zaS, toN]; done)))); simp only [zae, zag, zaf, zao, false_implies, implies_true, and_true, lk, slot, zaQ, zaE, toN, zaa, if_true, if_false, ↓reduceIte, reduceCtorEq])
    all_goals ((repeat' apply zay) <;> (first | rfl | trivial | (simp only [zaL]; done) | (simp only [zaL]; rfl) | (simp only [zaL]; trivial)))
  all_goals (
    intro m hm
    simp only at hm ⊢
    rcases zbb m W.length with hlt2 | hge2
    case inr =>
      have c2 : ¬ (m : Int) < (W.length : Int) := by omega
      obtain rfl : m = W.length := by omega
      rw [List.take_length]
      simp only [go_sem, zaa, zah, zai, zaj, zak, zad, ↓reduceIte, reduceCtorEq, zab, zac, zal, zam, zan, decide_eq_false c2]
      repeat' (first
 | (intros; (try simp only [zav, zaJ, zaD, zaA, zar, zas, decide_eq_true_eq, decide_eq_false_iff_not] at *); omega))
      rw [List.length_map]
      (refine fs_mk [2] (by simp) (by decide) (by simp only [go_sem, resV, resS, zaQ, zaP, zaE, zaW, zaT, idx, renO, zaO, evS, slot, lookR, zaa, ↓reduceIte, reduceCtorEq, if_true, if_false, zaM, zaN, zae, zag, sLoad, readAt, readNeed, Ints_ren, Ints_length, Ints_getD, and_true, true_and, zaG, zaH]; try decide) ?_ ?_ ?_ <;> (try simp only [go_sem, resV, resS, zaQ, zaP, zaE, zaW, zaT, idx, renO, zaO, evS, slot, lookR, zaa, ↓reduceIte, reduceCtorEq, if_true, if_false, zaM, zaN, zae, zag, sLoad, readAt, readNeed, Ints_ren, Ints_length, Ints_getD, and_true, true_and, zaG, zaH, zaT, lookR, renO, zaO, zaE, idx, zae, zag, Ints_ren, zaf, zao, false_implies, implies_true, Option.some.injEq, forall_eq', and_true, true_and]) <;> (try rfl) <;> (try ((repeat' apply zay) <;> (first | trivial | exact fun c hc q hq => absurd hq (Ints_refs0 _ _ c hc) | (simp [zaS]; done)))))
    have c2 : (m : Int) < (W.length : Int) := by omega
    have hWc := cd_len W
    have hat2 := cd_td W m hlt2
    have hA : ((W.take m).map (·.p)).length = m := by rw [List.length_map, zbi]; omega
    have hA2 : (W.take (m + 1)).map (·.p) = (W.take m).map (·.p) ++ [(gD W m).p] := by rw [take_getD W m zcd hlt2, List.map_append]; rfl
    generalize (W.take m).map (·.p) = A at *
    generalize gD W m = x at *
    obtain ⟨xp, xg, xn, xa⟩ := x
    simp only [cdc] at hat2 hA2
    have htk : zbh m (Ints A) = Ints A := zaV (by rw [Ints_length]; omega)
    have hpp : Ints A ++ [int xp] = Ints (A ++ [xp]) := by simp [Ints]
    have hAl : (Ints A).length = m := by rw [Ints_length]; exact hA
    simp only [go_sem, zaa, zah, zai, zaj, zak, zad, ↓reduceIte, reduceCtorEq, zab, zac, zal, zam, zan, decide_eq_true c2, hat2, htk, hpp]
    repeat' (first
 | with_reducible refine zay ?_ ?_
 | (intros; omega)
 | (intros; (try simp only [zav, zaJ, zaD, zaA, zar, zas, decide_eq_true_eq, decide_eq_false_iff_not] at *); omega))
    refine le_mk (m + 1) ?_ hlt2 (by show W.length - (m + 1) < W.length - m; omega)
    simp only [hA2]
    (refine imp_sub _ _ _ [(0, 0), (1, 1), (2, 13)] (by simp) (by simp) (by simp) (zaR rfl) ?_ (by simp only [zae, zag, zaT, lookR, renO, zaO, zaE, toN, Ints_ren, Bools_ren, zaa, if_true, if_false, ↓reduceIte] <;> (try rfl)) (by simp only [zaf, zao, false_implies, implies_true, and_true, zaT, lookR, zaa, if_true, if_false, ↓reduceIte, Option.some.injEq, forall_eq'] <;> ((repeat' with_reducible apply zay) <;> (first | with_reducible trivial | exact fun c hc q hq => absurd hq (Ints_refs0 _ _ c hc) | (simp [zaS, toN]; done)))); simp only [zae, zag, zaf, zao, false_implies, implies_true, and_true, lk, slot, zaQ, zaE, toN, zaa, if_true, if_false, ↓reduceIte, reduceCtorEq])
    all_goals ((repeat' apply zay) <;> (first | rfl | trivial | (simp only [zaL]; done) | (simp only [zaL]; rfl) | (simp only [zaL]; trivial))))
end Go.Proofs.Ytlajelbiniakpaa
-- NEWGO
-- PRUNE: cl_lendx cl_use
-- ISG: scG
-- FLAT: Cs_flat
namespace Go.Proofs.Ytlajelbiniakpaa
set_option linter.unusedVariables false
set_option linter.unusedSimpArgs false
open Go.Proofs.Ytlajelbiniakpaa.Sh
set_option maxRecDepth 20000
theorem scG (v : Value) : (zba v).isG = true := rfl
theorem ksame_spec (a b : List Int) (k k2 : Option Nat) (hl : a.length ≤ 9223372036854775806) : FnSpec Try.prog 23 [gi a k, gi b k2] [] (b1 (decide (a = b))) [] := by
  by_cases hlen : a.length = b.length
  case neg =>
    have c : ¬ (a.length : Int) = (b.length : Int) := by omega
    rw [decide_eq_false (fun e => hlen (by rw [e]))]
    refine fnspec_of mixed TT_ok TT_cl ⟨fun _ => false, fun _ => [], 0, fun _ => false, fun _ => false⟩ Try.func23 rfl (by kernel_rfl) rfl 26 rfl [.tmp 4] rfl ?_
    simp only [go_sem, zaa, zah, zai, zaj, zak, zad, ↓reduceIte, reduceCtorEq, zab, zac, zal, zam, zan, decide_eq_false c]
    repeat' (first
 | exact fs_nil trivial rfl
 | fail)
  have c : (a.length : Int) = (b.length : Int) := by omega
  refine fnspec_of mixed TT_ok TT_cl ⟨fun _ => false, fun _ => [], 0, fun _ => false, fun _ => false⟩ Try.func23 rfl (by kernel_rfl) rfl 26 rfl [.tmp 4] rfl ?_
  simp only [go_sem, zaa, zah, zai, zaj, zak, zad, ↓reduceIte, reduceCtorEq, zab, zac, zal, zam, zan, decide_eq_true c]
  repeat' (first
 | (intros; (try simp only [zav, zaJ, zaD, zaA, zar, zas, decide_eq_true_eq, decide_eq_false_iff_not] at *); omega))
  refine w_loop (ι := Nat) (fun m => ⟨[(0, gi a k), (1, gi b k2), (5, i1 m)], [], 0⟩) (fun m => m ≤ a.length ∧ a.take m = b.take m) (fun m => a.length - m) 0 ?_ ⟨zaU _, rfl⟩ ?_
  · (refine imp_sub _ _ _ [] (by simp) (by simp) (by simp) (zaU _) ?_ rfl (by simp); simp only [zaf, zao, false_implies, implies_true, and_true, lk, slot, zaQ, zaE, zaa, if_true, if_false, ↓reduceIte, reduceCtorEq])
    all_goals ((repeat' apply zay) <;> (first | rfl | trivial))
  rintro m ⟨hm, he⟩
  simp only at hm he ⊢
  rcases zbb m a.length with hlt | hge
  case inr =>
    have c2 : ¬ (m : Int) < (a.length : Int) := by omega
    rw [zaV hge, zaV (by omega)] at he
    rw [decide_eq_true he]
    simp only [go_sem, zaa, zah, zai, zaj, zak, zad, ↓reduceIte, reduceCtorEq, zab, zac, zal, zam, zan, decide_eq_false c2]
    repeat' (first
 | exact fs_nil trivial rfl
 | fail)
  have c2 : (m : Int) < (a.length : Int) := by omega
  by_cases hx : a.getD m 0 = b.getD m 0
  · simp only [go_sem, zaa, zah, zai, zaj, zak, zad, ↓reduceIte, reduceCtorEq, zab, zac, zal, zam, zan, decide_eq_true c2, decide_eq_true hx]
    repeat' (first
 | with_reducible refine zay ?_ ?_
 | (unfold OKC; kernel_rfl)
 | (unfold EDG; kernel_rfl)
 | (intros; omega)
 | (intros; (try simp only [zav, zaJ, zaD, zaA, zar, zas, decide_eq_true_eq, decide_eq_false_iff_not] at *); omega))
    refine le_mk (m + 1) ?_ ⟨hlt, by rw [take_getD a m 0 hlt, take_getD b m 0 (by omega), he, hx]⟩ (by show a.length - (m + 1) < a.length - m; omega)
    (refine imp_sub _ _ _ [] (by simp) (by simp) (by simp) (zaU _) ?_ rfl (by simp); simp only [zaf, zao, false_implies, implies_true, and_true, lk, slot, zaQ, zaE, zaa, if_true, if_false, ↓reduceIte, reduceCtorEq])
    all_goals ((repeat' apply zay) <;> (first | rfl | trivial | (simp only [zaL]; done) | (simp only [zaL]; rfl) | (simp only [zaL]; trivial)))
  · rw [decide_eq_false (fun e => hx (by rw [e]))]
    simp only [go_sem, zaa, zah, zai, zaj, zak, zad, ↓reduceIte, reduceCtorEq, zab, zac, zal, zam, zan, decide_eq_true c2, decide_eq_false hx]
    repeat' (first
 | with_reducible refine zay ?_ ?_
 | (unfold OKC; kernel_rfl)
 | (unfold EDG; kernel_rfl)
 | (intros; omega)
 | exact fs_nil trivial rfl
 | fail)
abbrev kT : List Nd := [⟨1, 0, [], 0, 0, 0⟩, ⟨2, 1, [97], 0, 0, 0⟩]
abbrev kL0 : List Cd := [⟨7, 2, 100, 0⟩, ⟨8, 2, 80, 100⟩]
abbrev kL1 : List Cd := [⟨7, 2, 100, -1000⟩, ⟨8, 2, 80, -1000⟩]
set_option maxHeartbeats 16000000 in
theorem ksane_spec : FnSpec Try.prog 8 [] [] (b1 true) [] := by
  have hN : NmR kT := fun x hx => by simp only [List.mem_cons, zao, or_false] at hx; rcases hx with rfl | rfl <;> decide
  have hC : CtR kT := fun x hx => by simp only [List.mem_cons, zao, or_false] at hx; rcases hx with rfl | rfl <;> decide
  have a1 := kscore_spec ⟨8, 2, 80, 100⟩ 1000
  rw [show scM ⟨8, 2, 80, 100⟩ 1000 = (180, 0) from by kernel_rfl] at a1
  have a2 := fun k => decide_own kT 3 kL0 k [] none 1 1000 (by decide) (by decide) (by decide) hN hC
  rw [show deM kT 3 kL0 [] 1 1000 = ((8, [8], 0), 0) from by kernel_rfl] at a2
  have a3 := fun k kg => decide_own kT 3 kL0 k [2] kg 1 1000 (by decide) (by decide) (by decide) hN hC
  rw [show deM kT 3 kL0 [2] 1 1000 = ((8, [7, 8], 2), 0) from by kernel_rfl] at a3
  have a4 := fun k => victim_spec kT 3 kL1 k 1 1000 (by decide) (by decide) hN hC
  rw [show viM kT 3 kL1 1 1000 = (zcd, 21) from by kernel_rfl] at a4
  have a2' : ∀ k, FnSpec Try.prog 21 [.agg [.gsl (Cs kT) 0 2 (some 2), int 3], .one (.gsl (Cs kL0) 0 2 k), .one (.sc (.slice none 0 0)), i1 1, i1 1000] [] (.tup [.agg [int 8, .osl 0 0 1 none, int 0], i1 0]) [some ⟨Ints [8], 1⟩] := fun k => (a2 k).pre (by simp only [gi, gr, Ints, zag, swl_cons, swl_nil, sw_agg, sw_one, cwl_cons, cwl_nil, cw_id, cw_nil0, cw_cap0, zau, zaq, Nat.zero_add, zah, and_true, true_and])
  have a3' : ∀ k kg, FnSpec Try.prog 21 [.agg [.gsl (Cs kT) 0 2 (some 2), int 3], .one (.gsl (Cs kL0) 0 2 k), .one (.gsl (Ints [2]) 0 1 kg), i1 1, i1 1000] [] (.tup [.agg [int 8, .osl 0 0 2 none, int 2], i1 0]) [some ⟨Ints [7, 8], 1⟩] := fun k kg => (a3 k kg).pre (by simp only [gi, gr, Ints, zag, swl_cons, swl_nil, sw_agg, sw_one, cwl_cons, cwl_nil, cw_id, cw_nil0, cw_cap0, zau, zaq, Nat.zero_add, zah, and_true, true_and])
  have a4' : ∀ k, FnSpec Try.prog 18 [.agg [.gsl (Cs kT) 0 2 (some 2), int 3], .one (.gsl (Cs kL1) 0 2 k), i1 1, i1 1000] [] (.tup [i1 0, i1 21]) [] := fun k => (a4 k).pre (by simp only [gi, gr, Ints, zag, swl_cons, swl_nil, sw_agg, sw_one, cwl_cons, cwl_nil, cw_id, cw_nil0, cw_cap0, zau, zaq, Nat.zero_add, zah, and_true, true_and])
  have s1 := fun k k2 => ksame_spec [8] [8] k k2 (by decide)
  have s2 := fun k k2 => ksame_spec [7, 8] [7, 8] k k2 (by decide)
  rw [decide_eq_true rfl] at s1 s2
  clear a2 a3 a4
  simp only [cdc] at a1
  refine fnspec_of mixed TT_ok TT_cl ⟨fun _ => false, fun _ => [], 0 , fun i => if i = 65 then true else if i = 85 then true else false, fun i => if i = 3 then true else false⟩ Try.func8 rfl (by kernel_rfl) rfl 95 rfl [.tmp 0] rfl ?_
  simp only [go_sem, zaa, zah, zai, zaj, zak, zad, ↓reduceIte, reduceCtorEq, zab, zac, zal, zam, zan, zaB, zaF, zap, zaz, zaC, zaw, zax, zat, zaI, zaK, zaq, zau]
  repeat' (first
 | (intros; (try simp only [zav, zaJ, zaD, zaA, zar, zas, decide_eq_true_eq, decide_eq_false_iff_not] at *); omega))
  refine rgf_t _ (imp_frz _ _ 3 ⟨Cs kT, 6⟩ rfl (Cs_isG _)) ?_
  simp only [frzTm, SV.frz, SV.frzL, Cell.frz, frzHp, frzO, Ints_frz, Cs_frz, zae, zag, zaa, if_true, if_false, ↓reduceIte]
  simp only [go_sem, zaa, zah, zai, zaj, zak, zad, ↓reduceIte, reduceCtorEq, zab, zac, zal, zam, zan, zaB, zaF, zap, zaz, zaC, zaw, zax, zat, zaI, zaK, zaq, zau]
  repeat' (first
 | with_reducible refine zay ?_ ?_
 | (apply cl_plain
    case hs => rfl
    case ha => (simp only [zae, zag, prepV, prepC, idx, hpL', lookR, zaa, if_true, if_false]; rfl)
    case h => (first | exact a1 .. | exact a2' .. | exact a3' .. | exact a4' .. | exact s1 .. | exact s2 ..))
 | (apply cl_show
    case ha => (simp only [zae, zag, prepV, prepC, idx, hpL', lookR, zaa, if_true, if_false]; rfl)
    case hs => ((simp [snaps, SV.refs, zaS, idx, hpL', lookR]) <;> (repeat' apply zay) <;> (first | exact Ints_isG _ | exact scG _))
    case h => (first | exact a1 .. | exact a2' .. | exact a3' .. | exact a4' .. | exact s1 .. | exact s2 ..)
    case hg => ((simp [SV.noG, SV.noGL, zbl]) <;> (repeat' apply zay) <;> exact Ints_noG _))
 | ((first | refine s1_id ?_ | refine swp_id ?_ | refine sops_id ?_ | refine s2_id ?_); simp only [decide_true, zaB, zaF, zap, zaz, zaC, zaw, zax, zat, zaI, zaK, zaq, zau, go_sem, zaa, zah, zai, zaj, zak, zad, ↓reduceIte, reduceCtorEq, zab, zac, zal, zam, zan, zaQ, zaP, zaE, zaO, renO, bk, back, outUpsFrom, Ints_ren])
 | (intros; omega)
 | exact fs_nil trivial rfl
 | fail)
end Go.Proofs.Ytlajelbiniakpaa
-- NEWGO
-- PRUNE: cl_lendx cl_use
-- ISG: Cs_isG
-- FLAT: Cs_flat
namespace Go.Proofs.Ytlajelbiniakpaa
set_option linter.unusedVariables false
set_option linter.unusedSimpArgs false
open Go.Proofs.Ytlajelbiniakpaa.Sh
set_option maxRecDepth 20000
theorem kctr {l : List Nd} {n : Int} (h : VT l n) : CtR l := fun x hx => by
  have := (h.vl.all x hx).2
  unfold rngOk at this
  simp only [zav, decide_eq_true_eq] at this
  omega
theorem vaF_asc (l : List Nd) : ∀ (C : List Cd) (last : Int), vaF l C last = true → C.Pairwise (fun x y => x.p < y.p)
  | [], _, _ => List.Pairwise.nil
  | y :: r, last, h => by
    have h' := h
    rw [vaF, zav, zav, zav] at h
    refine List.pairwise_cons.2 ⟨fun x hx => (vaF_all l r y.p h.2.2.2 x hx).2.2, vaF_asc l r y.p h.2.2.2⟩
theorem vaM_asc {l : List Nd} {n : Int} {C : List Cd} (h : vaM l n C = true) : C.Pairwise (fun x y => x.p < y.p) := by
  unfold vaM at h
  rw [zav, zav] at h
  exact vaF_asc l C 0 h.2.2
theorem mxF_best (t : Int) : ∀ (r : List Cd) (m : Cd), (m :: r).Pairwise (fun x y => x.p < y.p) → mxF t m r ∈ m :: r ∧ ∀ y ∈ m :: r, scr y t ≤ scr (mxF t m r) t ∧ (scr y t = scr (mxF t m r) t → (mxF t m r).p ≤ y.p)
  | [], m, _ => ⟨zaX, fun y hy => by rw [List.mem_singleton.1 hy]; exact ⟨Int.le_refl _, fun _ => Int.le_refl _⟩⟩
  | x :: r, m, h => by
    have hm := List.pairwise_cons.1 h
    have hx := List.pairwise_cons.1 hm.2
    show mxF t (if scr m t < scr x t then x else m) r ∈ _ ∧ _
    by_cases c : scr m t < scr x t
    · have e : mxF t m (x :: r) = mxF t x r := by show mxF t (if scr m t < scr x t then x else m) r = _; rw [if_pos c]
      rw [if_pos c, e]
      obtain ⟨h1, h2⟩ := mxF_best t r x hm.2
      refine ⟨zaY _ h1, fun y hy => ?_⟩
      rcases List.mem_cons.1 hy with rfl | hy
      · have := (h2 x zaX).1
        exact ⟨by omega, fun e => by omega⟩
      · exact h2 y hy
    · have e : mxF t m (x :: r) = mxF t m r := by show mxF t (if scr m t < scr x t then x else m) r = _; rw [if_neg c]
      rw [if_neg c, e]
      obtain ⟨h1, h2⟩ := mxF_best t r m (List.pairwise_cons.2 ⟨fun y hy => hm.1 y (zaY _ hy), hx.2⟩)
      refine ⟨?_, fun y hy => ?_⟩
      · rcases List.mem_cons.1 h1 with h1 | h1
        · rw [h1]; exact zaX
        · exact zaY _ (zaY _ h1)
      · rcases List.mem_cons.1 hy with rfl | hy
        · exact h2 y zaX
        rcases List.mem_cons.1 hy with rfl | hy
        · have a1 := h2 m zaX
          have a2 := hm.1 y zaX
          exact ⟨by omega, fun e => by have := a1.2 (by omega); omega⟩
        · exact h2 y (zaY _ hy)
theorem mxW_best (t : Int) (W : List Cd) (h0 : W.length ≠ 0) (h : W.Pairwise (fun x y => x.p < y.p)) : mxW t W ∈ W ∧ ∀ y ∈ W, scr y t ≤ scr (mxW t W) t ∧ (scr y t = scr (mxW t W) t → (mxW t W).p ≤ y.p) := by
  cases W with
  | nil => exact absurd rfl h0
  | cons m r => exact mxF_best t r m h
theorem sub_anc {l : List Nd} {n : Int} (h : VT l n) {s t : Nat} (hs : s < l.length) (ht : t < l.length) : (gN l s).i ∈ subM l n (gN l t).i ↔ (gN l t).i ∈ ancM l n (gN l s).i := by
  have h1 : hasM l n (gN l t).i = true := hasM_iff.2 ⟨(chkT_iff l n).2 h, gN l t, getD_mem l t zn ht, rfl⟩
  have h2 : hasM l n (gN l s).i = true := hasM_iff.2 ⟨(chkT_iff l n).2 h, gN l s, getD_mem l s zn hs, rfl⟩
  unfold subM ancM
  rw [if_pos h1, if_pos h2]
  constructor
  · intro hx
    obtain ⟨i, _, _, _, hu⟩ := subF_ge h l.length t _ ht hx
    exact hu
  · intro hx
    exact subF_up h ht (by omega) s hs hx
theorem bsF_node {l : List Nd} {n id : Int} (h : VT l n) (hb : bsF Nd.i l id = true) : ∃ s, s < l.length ∧ (gN l s).i = id := by
  obtain ⟨h1, h2⟩ := bsF_at Nd.i l id hb
  exact ⟨_, h1, h2⟩
theorem bsF_of {l : List Nd} {n : Int} (h : VT l n) {t : Nat} (ht : t < l.length) : bsF Nd.i l (gN l t).i = true := (bs_found Nd.i l (fun i j hij hj => h.asc i j hij hj) t ht).2
theorem wi_iff {l : List Nd} {n : Int} {C : List Cd} (hv : vaM l n C = true) {t : Nat} (ht : t < l.length) (x : Cd) : x ∈ wiM l n C (gN l t).i ↔ x ∈ C ∧ (gN l t).i ∈ ancM l n x.g ∧ x.a ≠ -1000 := by
  obtain ⟨hV, _, hall⟩ := vaM_all hv
  unfold wiM
  rw [List.mem_filter]
  constructor
  · rintro ⟨h1, h2⟩
    obtain ⟨s, hs, es⟩ := bsF_node hV (hall x h1).2.1
    unfold outF at h2
    rw [zaD, zas, zaA, decide_eq_true_eq, decide_eq_false_iff_not] at h2
    rw [← es] at h2 ⊢
    exact ⟨h1, (sub_anc hV hs ht).1 h2.1, h2.2⟩
  · rintro ⟨h1, h2, h3⟩
    obtain ⟨s, hs, es⟩ := bsF_node hV (hall x h1).2.1
    refine ⟨h1, ?_⟩
    unfold outF
    rw [zaD, zas, zaA, decide_eq_true_eq, decide_eq_false_iff_not]
    rw [← es] at h2 ⊢
    exact ⟨(sub_anc hV hs ht).2 h2, h3⟩
theorem wi_asc {l : List Nd} {n : Int} {C : List Cd} (hv : vaM l n C = true) (g : Int) : (wiM l n C g).Pairwise (fun x y => x.p < y.p) := (vaM_asc hv).sublist List.filter_sublist
structure ViP (l : List Nd) (n : Int) (C : List Cd) (at' t : Int) (M : Cd) : Prop where
  mem : M ∈ C
  anc : at' ∈ ancM l n M.g
  sp : M.a ≠ -1000
  best : ∀ y ∈ C, y.a ≠ -1000 → at' ∈ ancM l n y.g → scr y t ≤ scr M t ∧ (scr y t = scr M t → M.p ≤ y.p)
theorem vi_cases {l : List Nd} {n : Int} {C : List Cd} (hv : vaM l n C = true) {s : Nat} (hs : s < l.length) {t : Int} (ht : pgk t = true) : (viM l n C (gN l s).i t = (zcd, 21) ∧ ∀ y ∈ C, y.a ≠ -1000 → ¬ (gN l s).i ∈ ancM l n y.g) ∨ ∃ M, viM l n C (gN l s).i t = (M, 0) ∧ ViP l n C (gN l s).i t M := by
  obtain ⟨hV, _, hall⟩ := vaM_all hv
  unfold viM
  rw [hv, if_pos rfl, bsF_of hV hs, if_pos rfl, ht, if_pos rfl]
  by_cases h0 : (wiM l n C (gN l s).i).length = 0
  · left
    rw [if_pos h0]
    refine ⟨rfl, fun y hy hya hyg => ?_⟩
    have := (wi_iff hv hs y).2 ⟨hy, hyg, hya⟩
    rw [List.length_eq_zero_iff.1 h0] at this
    cases this
  · right
    rw [if_neg h0]
    obtain ⟨h1, h2⟩ := mxW_best t (wiM l n C (gN l s).i) h0 (wi_asc hv _)
    obtain ⟨m1, m2, m3⟩ := (wi_iff hv hs _).1 h1
    exact ⟨_, rfl, m1, m2, m3, fun y hy hya hyg => h2 y ((wi_iff hv hs y).2 ⟨hy, hyg, hya⟩)⟩
theorem asc_inj {C : List Cd} (h : C.Pairwise (fun x y => x.p < y.p)) {x y : Cd} (hx : x ∈ C) (hy : y ∈ C) (e : x.p = y.p) : x = y := by
  induction h with
  | nil => cases hx
  | cons h1 _ ih =>
    rcases List.mem_cons.1 hx with rfl | hx'
    · rcases List.mem_cons.1 hy with rfl | hy'
      · rfl
      · have := h1 _ hy'; omega
    · rcases List.mem_cons.1 hy with rfl | hy'
      · have := h1 _ hx'; omega
      · exact ih hx' hy'
end Go.Proofs.Ytlajelbiniakpaa
