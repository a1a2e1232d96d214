/- Contracts of functions, told of values, on the way to SetsShort (part 5). -/
import Derived.Test.YteokppcgmfbnkaaDoorSetsShortM4
-- NEWGO
-- PRUNE: cl_lendx cl_use
namespace Go.Proofs.YteokppcgmfbnkaaDoor
set_option linter.unusedVariables false
set_option linter.unusedSimpArgs false
open Go.Proofs.YteokppcgmfbnkaaDoor.Sh
set_option maxRecDepth 20000
def stA (L : List Int) : Nat → Nat → Int → List Int → List Int × Nat
  | 0, j, _, acc => (acc, j)
  | m + 1, j, k, acc => stA L m (nxA L j 3) (k + 1) (if nxV L j 3 = 2 then acc ++ [k] else acc)
def dSet (L : List Int) (j : Nat) (n : Nat) : List Int × Nat := stA L n j 0 []
theorem stA_ok (L : List Int) : ∀ (m : Nat) (j : Nat) (k : Int) (acc : List Int), acc.Pairwise (· < ·) → (∀ x ∈ acc, 0 ≤ x ∧ x < k) → 0 ≤ k → (stA L m j k acc).1.Pairwise (· < ·) ∧ (∀ x ∈ (stA L m j k acc).1, 0 ≤ x ∧ x < k + m)
  | 0, j, k, acc, h1, h2, h3 => ⟨h1, fun x hx => by have := h2 x hx; omega⟩
  | m + 1, j, k, acc, h1, h2, h3 => by
    rw [stA]
    have := stA_ok L m (nxA L j 3) (k + 1) (if nxV L j 3 = 2 then acc ++ [k] else acc) (by
      split
      · exact List.pairwise_append.2 ⟨h1, List.pairwise_singleton _ _, fun a ha b hb => by rw [List.mem_singleton.1 hb]; exact (h2 a ha).2⟩
      · exact h1) (fun x hx => by
      split at hx
      · rcases List.mem_append.1 hx with hx | hx
        · have := h2 x hx; omega
        · rw [List.mem_singleton.1 hx]; omega
      · have := h2 x hx; omega) (by omega)
    exact ⟨this.1, fun x hx => by have := this.2 x hx; omega⟩
theorem dSet_asc (L : List Int) (j n : Nat) : (dSet L j n).1.Pairwise (· < ·) := (stA_ok L n j 0 [] List.Pairwise.nil (fun x hx => absurd hx List.not_mem_nil) (Int.le_refl 0)).1
theorem dSet_rng (L : List Int) (j n : Nat) : ∀ x ∈ (dSet L j n).1, 0 ≤ x ∧ x < n := fun x hx => by
  have := (stA_ok L n j 0 [] List.Pairwise.nil (fun x hx => absurd hx List.not_mem_nil) (Int.le_refl 0)).2 x hx
  omega
theorem stA_len (L : List Int) : ∀ (m : Nat) (j : Nat) (k : Int) (acc : List Int), (stA L m j k acc).1.length ≤ acc.length + m
  | 0, j, k, acc => Nat.le_refl _
  | m + 1, j, k, acc => by
    rw [stA]
    refine Nat.le_trans (stA_len L m _ _ _) ?_
    split
    · rw [List.length_append, List.length_singleton]; omega
    · omega
theorem dSet_len (L : List Int) (j n : Nat) : (dSet L j n).1.length ≤ n := by have := stA_len L n j 0 []; simpa [dSet] using this
set_option maxHeartbeats 4000000 in
theorem dset_spec (l : List Int) (j : Nat) (n : Nat) (hn : n ≤ 1000) (hl : l.length ≤ 600) (hr : ∀ x ∈ l, -9223372036854775808 ≤ x ∧ x ≤ 9223372036854775807) : FnSpec Tryd.prog 17 [dp, i1 n] [dice l j] (gi (dSet l j n).1 none) [some (dice l (dSet l j n).2)] := by
  obtain ⟨D, hD⟩ : ∃ D, dSet l j n = D := ⟨_, rfl⟩
  rw [hD]
  refine fnspec_of mixed TT_ok TT_cl ⟨fun _ => false, fun f => if f = 13 then [0] else [], 1, fun _ => false, fun _ => false⟩ Tryd.func17 rfl (by kernel_rfl) rfl 19 rfl [.tmp 4] rfl ?_
  simp only [go_sem, Nat.reduceEqDiff, Nat.reduceAdd, Nat.reduceSub, Nat.reduceMul, Nat.reduceLT, Nat.reduceLeDiff, ↓reduceIte, reduceCtorEq, List.reduceReplicate, Int.cast_ofNat_Int, Int.reduceEq, Int.reduceLT, Int.reduceLE]
  repeat' (first
    | ((first | refine s1_id ?_ | refine swp_id ?_ | refine sops_id ?_ | refine s2_id ?_); simp only [go_sem, Nat.reduceEqDiff, Nat.reduceAdd, Nat.reduceSub, Nat.reduceMul, Nat.reduceLT, Nat.reduceLeDiff, ↓reduceIte, reduceCtorEq, List.reduceReplicate, Int.cast_ofNat_Int, Int.reduceEq, Int.reduceLT, Int.reduceLE, SV.ren, SV.renL, Cell.ren, Row.ren, renO, bk, back, outUpsFrom, Ints_ren]))
  refine w_loop (ι := Nat × Nat × List Int) (fun s => ⟨[(0, dp), (1, i1 n), (5, .one (.osl 1 0 s.2.2.length none)), (6, i1 s.1)], [(0, some (dice l s.2.1)), (1, some ⟨Ints s.2.2, 1⟩)], 2⟩) (fun s => s.1 ≤ n ∧ s.2.2.length ≤ s.1 ∧ stA l (n - s.1) s.2.1 s.1 s.2.2 = D) (fun s => n - s.1) (0, j, []) ?_ ⟨Nat.zero_le _, Nat.le_refl _, hD⟩ ?_
  · (refine Imp.trans (imp_nilA _ _ 5 1 99 (by simp only []; omega) rfl) ?_)
    (refine imp_ren _ _ _ [(0, 0, dice l j), (1, 99, ⟨[], 1⟩)] (by simp) (by simp) (by simp) (Nat.le_of_ble_eq_true rfl) ?_ rfl (by simp only [List.forall_mem_cons, List.not_mem_nil, false_implies, implies_true, and_true, St.hpF, lookR, Nat.reduceEqDiff, if_true, if_false, ↓reduceIte, dice] <;> (repeat' apply And.intro) <;> (first | rfl | trivial)) (by simp only [List.forall_mem_cons, List.not_mem_nil, false_implies, implies_true, and_true, true_and, flat_cons, flat_nil, flat_ints, flat_bools, flat_app, Cell.refs, and_self, eq_self_iff_true, List.append_nil, dice]); simp only [List.map_cons, List.map_nil, List.forall_mem_cons, List.not_mem_nil, false_implies, implies_true, and_true, lk, slot, SV.ren, Cell.ren, toN, Nat.reduceEqDiff, if_true, if_false, ↓reduceIte, reduceCtorEq])
    all_goals ((repeat' apply And.intro) <;> (first | rfl | trivial))
  rintro ⟨k, i, acc⟩ ⟨hk, ha, hI⟩
  simp only at hk ha hI ⊢
  rcases Nat.lt_or_ge k n with hlt | hge
  case inr =>
    have c : ¬ (k : Int) < (n : Int) := by omega
    rw [show n - k = 0 by omega] at hI
    subst hI
    simp only [go_sem, Nat.reduceEqDiff, Nat.reduceAdd, Nat.reduceSub, Nat.reduceMul, Nat.reduceLT, Nat.reduceLeDiff, ↓reduceIte, reduceCtorEq, List.reduceReplicate, Int.cast_ofNat_Int, Int.reduceEq, Int.reduceLT, Int.reduceLE, decide_eq_false c, stA]
    repeat' (first
    | ((first | refine s1_id ?_ | refine swp_id ?_ | refine sops_id ?_ | refine s2_id ?_); simp only [decide_eq_false c, stA, go_sem, Nat.reduceEqDiff, Nat.reduceAdd, Nat.reduceSub, Nat.reduceMul, Nat.reduceLT, Nat.reduceLeDiff, ↓reduceIte, reduceCtorEq, List.reduceReplicate, Int.cast_ofNat_Int, Int.reduceEq, Int.reduceLT, Int.reduceLE, SV.ren, SV.renL, Cell.ren, Row.ren, renO, bk, back, outUpsFrom, Ints_ren]))
    (refine fs_frz 1 ⟨Ints acc, 1⟩ (by simp only [St.hpF, lookR, Nat.reduceEqDiff, if_true, if_false, ↓reduceIte]) (by first | exact Ints_isG _ | exact Bools_isG _ | (simp [Cell.isG]; done)) ?_; simp only [frzTm, SV.frz, SV.frzL, Cell.frz, frzHp, frzO, Ints_frz, Bools_frz, List.map_cons, List.map_nil, Nat.reduceEqDiff, if_true, if_false, ↓reduceIte])
    (refine fs_flat [(0, dice l i)] (by simp) (by simp only [List.map_cons, List.map_nil]; decide) (by simp only [go_sem, resV, resS, SV.ren, SV.renL, Cell.ren, St.tmF, St.hpF, idx, renO, Row.ren, evS, slot, lookR, Nat.reduceEqDiff, ↓reduceIte, reduceCtorEq, if_true, if_false, Option.getD_some, Option.getD_none, List.map_cons, List.map_nil, sLoad, readAt, readNeed, Ints_ren, Ints_length, Ints_getD, and_true, true_and, List.getD_cons_zero, List.getD_cons_succ]; try decide) ?_ (by simp only [List.forall_mem_cons, List.not_mem_nil, false_implies, implies_true, and_true, St.hpF, lookR, Nat.reduceEqDiff, if_true, if_false, ↓reduceIte, dice] <;> (repeat' apply And.intro) <;> (first | rfl | trivial)) (by simp only [List.forall_mem_cons, List.not_mem_nil, false_implies, implies_true, and_true, true_and, flat_cons, flat_nil, flat_ints, flat_bools, flat_app, Cell.refs, and_self, eq_self_iff_true, List.append_nil, dice]) ?_ <;> (try simp only [go_sem, resV, resS, SV.ren, SV.renL, Cell.ren, St.tmF, St.hpF, idx, renO, Row.ren, evS, slot, lookR, Nat.reduceEqDiff, ↓reduceIte, reduceCtorEq, if_true, if_false, Option.getD_some, Option.getD_none, List.map_cons, List.map_nil, sLoad, readAt, readNeed, Ints_ren, Ints_length, Ints_getD, and_true, true_and, List.getD_cons_zero, List.getD_cons_succ]) <;> (try rfl))
  have c : (k : Int) < (n : Int) := by omega
  rw [show n - k = (n - (k + 1)) + 1 by omega, stA] at hI
  have h1 := bool_spec l i 3 hl hr (by omega)
  have htk : List.take acc.length (Ints acc) = Ints acc := List.take_of_length_le (by rw [Ints_length]; exact Nat.le_refl _)
  by_cases h2 : nxV l i 3 = 2
  · rw [decide_eq_true (by omega : nxV l i 3 = 3 - 1)] at h1
    rw [if_pos h2] at hI
    have hpp : Ints acc ++ [int k] = Ints (acc ++ [(k : Int)]) := by simp [Ints]
    have hla : (acc ++ [(k : Int)]).length = acc.length + 1 := by simp
    simp only [go_sem, Nat.reduceEqDiff, Nat.reduceAdd, Nat.reduceSub, Nat.reduceMul, Nat.reduceLT, Nat.reduceLeDiff, ↓reduceIte, reduceCtorEq, List.reduceReplicate, Int.cast_ofNat_Int, Int.reduceEq, Int.reduceLT, Int.reduceLE, decide_eq_true c]
    repeat' (first
    | with_reducible refine And.intro ?_ ?_
    | (intros; (try simp only [Bool.and_eq_true, Bool.or_eq_true, Bool.not_eq_true', Bool.not_eq_false', Bool.and_eq_false_iff, Bool.or_eq_false_iff, decide_eq_true_eq, decide_eq_false_iff_not] at *); omega)
    | (apply cl_lend
       case hr => (simp only [List.map_cons, List.map_nil, hpL', lookR, Nat.reduceEqDiff, if_true, if_false]; first | exact map1 _ | exact map2 _ _ | exact map3 _ _ _)
       case ha => (simp only [List.map_cons, List.map_nil, prepV, prepC, idx, hpL', lookR, Nat.reduceEqDiff, if_true, if_false]; rfl)
       case hs => rfl
       case hn => decide
       case h => (first | exact h1 ..)
       case hf => (simp only [List.forall_mem_cons, List.not_mem_nil, false_implies, implies_true, and_true, true_and, flat_cons, flat_nil, flat_ints, flat_bools, flat_app, Cell.refs, and_self, eq_self_iff_true, List.append_nil])
       case hl => (simp only [List.length_cons, List.length_nil]; decide))
    | ((first | refine s1_id ?_ | refine swp_id ?_ | refine sops_id ?_ | refine s2_id ?_); simp only [decide_eq_true c, htk, hpp, List.flatten_cons, List.flatten_nil, List.append_nil, List.cons_append, List.nil_append, List.set_cons_zero, List.set_cons_succ, List.take_succ_cons, List.take_zero, List.take_nil, List.length_cons, List.length_nil, go_sem, Nat.reduceEqDiff, Nat.reduceAdd, Nat.reduceSub, Nat.reduceMul, Nat.reduceLT, Nat.reduceLeDiff, ↓reduceIte, reduceCtorEq, List.reduceReplicate, Int.cast_ofNat_Int, Int.reduceEq, Int.reduceLT, Int.reduceLE, SV.ren, SV.renL, Cell.ren, Row.ren, renO, bk, back, outUpsFrom, Ints_ren]))
    refine le_mk (k + 1, nxA l i 3, acc ++ [(k : Int)]) ?_ ⟨hlt, by show _ ≤ k + 1; rw [hla]; omega, hI⟩ (by show n - (k + 1) < n - k; omega)
    simp only [hla]
    (refine imp_ren _ _ _ [(0, 0, dice l (nxA l i 3)), (1, 10, ⟨Ints (acc ++ [(k : Int)]), 1⟩)] (by simp) (by simp) (by simp) (Nat.le_of_ble_eq_true rfl) ?_ rfl (by simp only [List.forall_mem_cons, List.not_mem_nil, false_implies, implies_true, and_true, St.hpF, lookR, Nat.reduceEqDiff, if_true, if_false, ↓reduceIte, dice] <;> (repeat' apply And.intro) <;> (first | rfl | trivial)) (by simp only [List.forall_mem_cons, List.not_mem_nil, false_implies, implies_true, and_true, true_and, flat_cons, flat_nil, flat_ints, flat_bools, flat_app, Cell.refs, and_self, eq_self_iff_true, List.append_nil, dice]); simp only [List.map_cons, List.map_nil, List.forall_mem_cons, List.not_mem_nil, false_implies, implies_true, and_true, lk, slot, SV.ren, Cell.ren, toN, Nat.reduceEqDiff, if_true, if_false, ↓reduceIte, reduceCtorEq])
    all_goals ((repeat' apply And.intro) <;> (first | rfl | trivial | (simp only [Int.natCast_add]; done) | (simp only [Int.natCast_add]; rfl) | (simp only [Int.natCast_add]; trivial)))
  · rw [decide_eq_false (by omega : ¬ nxV l i 3 = 3 - 1)] at h1
    rw [if_neg h2] at hI
    simp only [go_sem, Nat.reduceEqDiff, Nat.reduceAdd, Nat.reduceSub, Nat.reduceMul, Nat.reduceLT, Nat.reduceLeDiff, ↓reduceIte, reduceCtorEq, List.reduceReplicate, Int.cast_ofNat_Int, Int.reduceEq, Int.reduceLT, Int.reduceLE, decide_eq_true c]
    repeat' (first
    | with_reducible refine And.intro ?_ ?_
    | (intros; (try simp only [Bool.and_eq_true, Bool.or_eq_true, Bool.not_eq_true', Bool.not_eq_false', Bool.and_eq_false_iff, Bool.or_eq_false_iff, decide_eq_true_eq, decide_eq_false_iff_not] at *); omega)
    | (apply cl_lend
       case hr => (simp only [List.map_cons, List.map_nil, hpL', lookR, Nat.reduceEqDiff, if_true, if_false]; first | exact map1 _ | exact map2 _ _ | exact map3 _ _ _)
       case ha => (simp only [List.map_cons, List.map_nil, prepV, prepC, idx, hpL', lookR, Nat.reduceEqDiff, if_true, if_false]; rfl)
       case hs => rfl
       case hn => decide
       case h => (first | exact h1 ..)
       case hf => (simp only [List.forall_mem_cons, List.not_mem_nil, false_implies, implies_true, and_true, true_and, flat_cons, flat_nil, flat_ints, flat_bools, flat_app, Cell.refs, and_self, eq_self_iff_true, List.append_nil])
       case hl => (simp only [List.length_cons, List.length_nil]; decide))
    | ((first | refine s1_id ?_ | refine swp_id ?_ | refine sops_id ?_ | refine s2_id ?_); simp only [decide_eq_true c, go_sem, Nat.reduceEqDiff, Nat.reduceAdd, Nat.reduceSub, Nat.reduceMul, Nat.reduceLT, Nat.reduceLeDiff, ↓reduceIte, reduceCtorEq, List.reduceReplicate, Int.cast_ofNat_Int, Int.reduceEq, Int.reduceLT, Int.reduceLE, SV.ren, SV.renL, Cell.ren, Row.ren, renO, bk, back, outUpsFrom, Ints_ren]))
    refine le_mk (k + 1, nxA l i 3, acc) ?_ ⟨hlt, by show acc.length ≤ k + 1; omega, hI⟩ (by show n - (k + 1) < n - k; omega)
    (refine imp_ren _ _ _ [(0, 0, dice l (nxA l i 3)), (1, 1, ⟨Ints acc, 1⟩)] (by simp) (by simp) (by simp) (Nat.le_of_ble_eq_true rfl) ?_ rfl (by simp only [List.forall_mem_cons, List.not_mem_nil, false_implies, implies_true, and_true, St.hpF, lookR, Nat.reduceEqDiff, if_true, if_false, ↓reduceIte, dice] <;> (repeat' apply And.intro) <;> (first | rfl | trivial)) (by simp only [List.forall_mem_cons, List.not_mem_nil, false_implies, implies_true, and_true, true_and, flat_cons, flat_nil, flat_ints, flat_bools, flat_app, Cell.refs, and_self, eq_self_iff_true, List.append_nil, dice]); simp only [List.map_cons, List.map_nil, List.forall_mem_cons, List.not_mem_nil, false_implies, implies_true, and_true, lk, slot, SV.ren, Cell.ren, toN, Nat.reduceEqDiff, if_true, if_false, ↓reduceIte, reduceCtorEq])
    all_goals ((repeat' apply And.intro) <;> (first | rfl | trivial | (simp only [Int.natCast_add]; done) | (simp only [Int.natCast_add]; rfl) | (simp only [Int.natCast_add]; trivial)))
end Go.Proofs.YteokppcgmfbnkaaDoor
-- NEWGO
-- PRUNE: cl_lendx cl_use cl_lend
namespace Go.Proofs.YteokppcgmfbnkaaDoor
set_option linter.unusedVariables false
set_option linter.unusedSimpArgs false
open Go.Proofs.YteokppcgmfbnkaaDoor.Sh
set_option maxRecDepth 20000
end Go.Proofs.YteokppcgmfbnkaaDoor
-- NEWGO
-- PRUNE: cl_lendx cl_use
namespace Go.Proofs.YteokppcgmfbnkaaDoor
set_option linter.unusedVariables false
set_option linter.unusedSimpArgs false
open Go.Proofs.YteokppcgmfbnkaaDoor.Sh
set_option maxRecDepth 20000
theorem prt_ex : jn (prt [0, 1, 2, 7]) [44] = [48, 45, 50, 44, 55] := by
  have e1 : rnN 0 [1, 2, 7] = 2 := by decide
  have e2 : rnN 7 [] = 0 := rfl
  have d0 : dec 0 = [48] := by rw [dec_lo (by decide)]; rfl
  have d2 : dec 2 = [50] := by rw [dec_lo (by decide)]; rfl
  have d7 : dec 7 = [55] := by rw [dec_lo (by decide)]; rfl
  rw [prt_cons, e1]
  show jn (prt1 0 2 :: prt [7]) [44] = _
  rw [prt_cons, e2]
  show jn (prt1 0 2 :: prt1 7 0 :: prt []) [44] = _
  rw [prt_nil]
  have p1 : prt1 0 2 = [48, 45, 50] := by
    show dec 0 ++ 45 :: dec 2 = _
    rw [d0, d2]; rfl
  have p2 : prt1 7 0 = [55] := by
    show dec 7 = _
    rw [d7]
  rw [p1, p2, jn_consS _ _ _ (by simp), jn_oneS]; rfl
theorem sane_spec : FnSpec Tryd.prog 9 [] [] (b1 true) [] := by
  have h1 := parse_spec [48, 45, 50, 44, 55, 44, 49] 8 (by decide)
  have e1 : pSets [48, 45, 50, 44, 55, 44, 49] 8 = ([0, 1, 2, 7], 0) := by decide +kernel
  rw [e1] at h1
  have h2 := format_spec [0, 1, 2, 7] none (by decide) (by decide) (by decide) (by rw [prt_ex]; decide)
  rw [prt_ex] at h2
  refine fnspec_of mixed TT_ok TT_cl ⟨fun _ => false, fun _ => [], 0, fun _ => false, fun _ => false⟩ Tryd.func9 rfl (by kernel_rfl) rfl 29 rfl [.tmp 0] rfl ?_
  simp only [go_sem, Nat.reduceEqDiff, Nat.reduceAdd, Nat.reduceSub, Nat.reduceMul, Nat.reduceLT, Nat.reduceLeDiff, ↓reduceIte, reduceCtorEq, List.reduceReplicate, Int.cast_ofNat_Int, Int.reduceEq, Int.reduceLT, Int.reduceLE]
  repeat' (first
    | (apply cl_plain
       case hs => rfl
       case ha => (simp only [List.map_cons, List.map_nil, prepV, prepC, idx, hpL', lookR, Nat.reduceEqDiff, if_true, if_false]; rfl)
       case h => (first | exact h1 .. | exact h2 ..))
    | ((first | refine s1_id ?_ | refine swp_id ?_ | refine sops_id ?_ | refine s2_id ?_); simp only [go_sem, Nat.reduceEqDiff, Nat.reduceAdd, Nat.reduceSub, Nat.reduceMul, Nat.reduceLT, Nat.reduceLeDiff, ↓reduceIte, reduceCtorEq, List.reduceReplicate, Int.cast_ofNat_Int, Int.reduceEq, Int.reduceLT, Int.reduceLE, SV.ren, SV.renL, Cell.ren, Row.ren, renO, bk, back, outUpsFrom, Ints_ren])
    | (apply fs_nil <;> (try simp only [go_sem, resV, resS, SV.ren, SV.renL, Cell.ren, St.tmF, St.hpF, idx, renO, Row.ren, evS, slot, lookR, Nat.reduceEqDiff, ↓reduceIte, reduceCtorEq, if_true, if_false, Option.getD_some, Option.getD_none, List.map_cons, List.map_nil, sLoad, readAt, readNeed, Ints_ren, Ints_length, Ints_getD, and_true, true_and, List.getD_cons_zero, List.getD_cons_succ]) <;> (try rfl)))
def lendL : FuncId → List Nat := fun f => if f = 17 then [0] else []
end Go.Proofs.YteokppcgmfbnkaaDoor
-- NEWGO
-- PRUNE: cl_lendx cl_use
namespace Go.Proofs.YteokppcgmfbnkaaDoor
set_option linter.unusedVariables false
set_option linter.unusedSimpArgs false
open Go.Proofs.YteokppcgmfbnkaaDoor.Sh
set_option maxRecDepth 20000
def brk : Int → List Int → Nat
  | _, [] => 0
  | p, y :: r => (if y = p + 1 then 0 else 1) + brk y r
theorem prt_brk : ∀ (r : List Int) (x : Int), (prt (x :: r)).length = 1 + brk x r
  | [], x => by rw [prt_cons, List.length_cons]; simp [rnN, prt_nil, brk]
  | z :: r, x => by
    have ih := prt_brk r z
    rw [prt_cons, List.length_cons, rnN_cons, brk]
    by_cases c : z = x + 1
    · rw [if_pos c, if_pos c, List.drop_succ_cons]
      rw [prt_cons, List.length_cons] at ih
      omega
    · rw [if_neg c, if_neg c, List.drop_zero, ih]; omega
theorem cnt_jn (ps : List Str) (h : ∀ p ∈ ps, (44 : UInt8) ∉ p) : (cnt 44 (jn ps [44]) : Int) = max ((ps.length : Int) - 1) 0 := by
  cases ps with
  | nil => decide
  | cons p r =>
    have h1 := spl_len 44 (jn (p :: r) [44]) []
    rw [spl_jn 44 _ (List.cons_ne_nil _ _) h] at h1
    omega
theorem cnt_consS (c b : UInt8) (r : Str) : cnt c (b :: r) = (if b = c then 1 else 0) + cnt c r := by
  unfold cnt
  rw [List.count_cons]
  by_cases h : b = c
  · simp [h]; omega
  · simp [h]
structure ShI (S : List Int) (i : Nat) (r : Nat) : Prop where
  hi : i ≤ S.length
  z : i = 0 → r = 0
  s : 0 < i → r + brk (S.getD (i - 1) 0) (S.drop i) = (prt S).length
set_option maxHeartbeats 8000000 in
theorem short_spec (L : List Int) (hr : ∀ x ∈ L, -9223372036854775808 ≤ x ∧ x ≤ 9223372036854775807) : FnSpec Tryd.prog 4 [gi L none] [] (b1 true) [] := by
  by_cases hlen : (L.length : Int) ≤ 600
  case neg =>
    refine fnspec_of mixed TT_ok TT_cl ⟨fun _ => false, lendL, 0, fun _ => false, fun _ => false⟩ Tryd.func4 rfl (by kernel_rfl) rfl 77 rfl [.tmp 2] rfl ?_
    simp only [go_sem, Nat.reduceEqDiff, Nat.reduceAdd, Nat.reduceSub, Nat.reduceMul, Nat.reduceLT, Nat.reduceLeDiff, ↓reduceIte, reduceCtorEq, List.reduceReplicate, Int.cast_ofNat_Int, Int.reduceEq, Int.reduceLT, Int.reduceLE, decide_eq_false hlen, lendL]
    repeat' (first
    | (apply cl_plain
       case hs => rfl
       case ha => (simp only [List.map_cons, List.map_nil, prepV, prepC, idx, hpL', lookR, Nat.reduceEqDiff, if_true, if_false]; rfl)
       case h => (first | exact light_spec .. | exact sane_spec ..))
    | ((first | refine s1_id ?_ | refine swp_id ?_ | refine sops_id ?_ | refine s2_id ?_); simp only [decide_eq_false hlen, lendL, go_sem, Nat.reduceEqDiff, Nat.reduceAdd, Nat.reduceSub, Nat.reduceMul, Nat.reduceLT, Nat.reduceLeDiff, ↓reduceIte, reduceCtorEq, List.reduceReplicate, Int.cast_ofNat_Int, Int.reduceEq, Int.reduceLT, Int.reduceLE, SV.ren, SV.renL, Cell.ren, Row.ren, renO, bk, back, outUpsFrom, Ints_ren])
    | (apply fs_nil <;> (try simp only [go_sem, resV, resS, SV.ren, SV.renL, Cell.ren, St.tmF, St.hpF, idx, renO, Row.ren, evS, slot, lookR, Nat.reduceEqDiff, ↓reduceIte, reduceCtorEq, if_true, if_false, Option.getD_some, Option.getD_none, List.map_cons, List.map_nil, sLoad, readAt, readNeed, Ints_ren, Ints_length, Ints_getD, and_true, true_and, List.getD_cons_zero, List.getD_cons_succ]) <;> (try rfl)))
  have h1 := dset_spec L 0 40 (by decide) (by omega) hr
  have hA := dSet_asc L 0 40
  have hB := dSet_rng L 0 40
  have hL := dSet_len L 0 40
  generalize dSet L 0 40 = D at *
  obtain ⟨S, j⟩ := D
  simp only at h1 hA hB hL
  have hB2 : ∀ x ∈ S, 0 ≤ x ∧ x < 100 := fun x hx => by have := hB x hx; omega
  have hf := fmt_len S hB2
  have h2 := format_spec S none (ascF_of S (-1) hA fun x hx => by have := hB x hx; omega) hB2 (by omega) (by omega)
  have hpl := prt_len S.length S (Nat.le_refl _)
  have hcn := cnt_jn (prt S) (fun p hp => by
    rw [prt_rs S.length S (Nat.le_refl _)] at hp
    obtain ⟨e, he, rfl⟩ := List.mem_map.1 hp
    exact elT_no e (rsE_ok S.length S (Nat.le_refl _) hB2 e he))
  have hT0 : (jn (prt S) [44] = []) ↔ ((S.length : Int) = 0) := by
    constructor
    · intro h0
      cases S with
      | nil => rfl
      | cons x r =>
        exfalso
        have hes := elS_jn (rsE (x :: r)) (rsE_ok _ (x :: r) (Nat.le_refl _) hB2)
        rw [← prt_rs _ _ (Nat.le_refl _), h0, prt_cons] at hes
        cases hes
    · intro h0
      have : S = [] := List.length_eq_zero_iff.1 (by omega)
      subst this; rw [prt_nil]; rfl
  have hpb : ∀ x r, S = x :: r → (prt S).length = 1 + brk x r := fun x r e => by rw [e]; exact prt_brk r x
  have hp0 : S = [] → (prt S).length = 0 := fun e => by rw [e, prt_nil]; rfl
  clear hB2 hA
  generalize jn (prt S) [44] = T at *
  have hShI : ShI S 0 0 := ⟨Nat.zero_le _, fun _ => rfl, fun h => absurd h (Nat.lt_irrefl 0)⟩
  refine fnspec_of mixed TT_ok TT_cl ⟨fun _ => false, lendL, 0, fun _ => false, fun _ => false⟩ Tryd.func4 rfl (by kernel_rfl) rfl 77 rfl [.tmp 2] rfl ?_
  simp only [go_sem, Nat.reduceEqDiff, Nat.reduceAdd, Nat.reduceSub, Nat.reduceMul, Nat.reduceLT, Nat.reduceLeDiff, ↓reduceIte, reduceCtorEq, List.reduceReplicate, Int.cast_ofNat_Int, Int.reduceEq, Int.reduceLT, Int.reduceLE, decide_eq_true hlen, lendL]
  repeat' (first
    | (apply cl_plain
       case hs => rfl
       case ha => (simp only [List.map_cons, List.map_nil, prepV, prepC, idx, hpL', lookR, Nat.reduceEqDiff, if_true, if_false]; rfl)
       case h => (first | exact light_spec .. | exact roll_spec .. | exact h1 .. | exact h2 ..))
    | (apply cl_lend
       case hr => (simp only [List.map_cons, List.map_nil, hpL', lookR, Nat.reduceEqDiff, if_true, if_false]; first | exact map1 _ | exact map2 _ _ | exact map3 _ _ _)
       case ha => (simp only [List.map_cons, List.map_nil, prepV, prepC, idx, hpL', lookR, Nat.reduceEqDiff, if_true, if_false]; rfl)
       case hs => rfl
       case hn => decide
       case h => (first | exact light_spec .. | exact roll_spec .. | exact h1 .. | exact h2 ..)
       case hf => (simp only [List.forall_mem_cons, List.not_mem_nil, false_implies, implies_true, and_true, true_and, flat_cons, flat_nil, flat_ints, flat_bools, flat_app, Cell.refs, and_self, eq_self_iff_true, List.append_nil])
       case hl => (simp only [List.length_cons, List.length_nil]; decide))
    | ((first | refine s1_id ?_ | refine swp_id ?_ | refine sops_id ?_ | refine s2_id ?_); simp only [decide_eq_true hlen, lendL, go_sem, Nat.reduceEqDiff, Nat.reduceAdd, Nat.reduceSub, Nat.reduceMul, Nat.reduceLT, Nat.reduceLeDiff, ↓reduceIte, reduceCtorEq, List.reduceReplicate, Int.cast_ofNat_Int, Int.reduceEq, Int.reduceLT, Int.reduceLE, SV.ren, SV.renL, Cell.ren, Row.ren, renO, bk, back, outUpsFrom, Ints_ren]))
  refine w_loop (ι := Nat × Nat) (fun s => ⟨[(3, gi S none), (4, s1 T), (5, i1 0), (6, i1 s.2), (23, i1 S.length), (24, i1 s.1)], [], 0⟩) (fun s => ShI S s.1 s.2) (fun s => S.length - s.1) (0, 0) ?_ hShI ?_
  · (refine imp_ren _ _ _ [] (by simp) (by simp) (by simp) (Nat.le_of_ble_eq_true rfl) ?_ rfl (by simp only [List.forall_mem_cons, List.not_mem_nil, false_implies, implies_true, and_true, St.hpF, lookR, Nat.reduceEqDiff, if_true, if_false, ↓reduceIte] <;> (repeat' apply And.intro) <;> (first | rfl | trivial)) (by simp only [List.forall_mem_cons, List.not_mem_nil, false_implies, implies_true, and_true, true_and, flat_cons, flat_nil, flat_ints, flat_bools, flat_app, Cell.refs, and_self, eq_self_iff_true, List.append_nil]); simp only [List.map_cons, List.map_nil, List.forall_mem_cons, List.not_mem_nil, false_implies, implies_true, and_true, lk, slot, SV.ren, Cell.ren, toN, Nat.reduceEqDiff, if_true, if_false, ↓reduceIte, reduceCtorEq])
    all_goals ((repeat' apply And.intro) <;> (first | rfl | trivial))
  rintro ⟨i, r⟩ hI
  simp only at hI ⊢
  have hi := hI.hi
  rcases Nat.lt_or_ge i S.length with hlt | hge
  case inl =>
    have c : (i : Int) < (S.length : Int) := by omega
    have hrb : r ≤ 40 := by
      by_cases h0 : i = 0
      · rw [hI.z h0]; omega
      · have := hI.s (by omega); omega
    by_cases hi0 : i = 0
    · subst hi0
      have hr0 := hI.z rfl
      subst hr0
      have hst : ShI S 1 1 := by
        refine ⟨hlt, fun h => by omega, fun _ => ?_⟩
        cases S with
        | nil => simp at hlt
        | cons x rr => rw [hpb x rr rfl]; rfl
      simp only [go_sem, Nat.reduceEqDiff, Nat.reduceAdd, Nat.reduceSub, Nat.reduceMul, Nat.reduceLT, Nat.reduceLeDiff, ↓reduceIte, reduceCtorEq, List.reduceReplicate, Int.cast_ofNat_Int, Int.reduceEq, Int.reduceLT, Int.reduceLE, decide_eq_true c, lendL]
      repeat' (first
    | with_reducible refine And.intro ?_ ?_
    | (unfold OKC; kernel_rfl)
    | (unfold EDG; kernel_rfl)
    | (intros; (try simp only [Bool.and_eq_true, Bool.or_eq_true, Bool.not_eq_true', Bool.not_eq_false', Bool.and_eq_false_iff, Bool.or_eq_false_iff, decide_eq_true_eq, decide_eq_false_iff_not] at *); omega)
    | (refine gt_if (fun h => ?_) (fun h => ?_) <;> (try simp only [h]))
    | ((first | refine s1_id ?_ | refine swp_id ?_ | refine sops_id ?_ | refine s2_id ?_); simp only [decide_eq_true c, lendL, go_sem, Nat.reduceEqDiff, Nat.reduceAdd, Nat.reduceSub, Nat.reduceMul, Nat.reduceLT, Nat.reduceLeDiff, ↓reduceIte, reduceCtorEq, List.reduceReplicate, Int.cast_ofNat_Int, Int.reduceEq, Int.reduceLT, Int.reduceLE, SV.ren, SV.renL, Cell.ren, Row.ren, renO, bk, back, outUpsFrom, Ints_ren]))
      refine le_mk (1, 1) ?_ hst (by show S.length - 1 < S.length - 0; omega)
      (refine imp_ren _ _ _ [] (by simp) (by simp) (by simp) (Nat.le_of_ble_eq_true rfl) ?_ rfl (by simp only [List.forall_mem_cons, List.not_mem_nil, false_implies, implies_true, and_true, St.hpF, lookR, Nat.reduceEqDiff, if_true, if_false, ↓reduceIte] <;> (repeat' apply And.intro) <;> (first | rfl | trivial)) (by simp only [List.forall_mem_cons, List.not_mem_nil, false_implies, implies_true, and_true, true_and, flat_cons, flat_nil, flat_ints, flat_bools, flat_app, Cell.refs, and_self, eq_self_iff_true, List.append_nil]); simp only [List.map_cons, List.map_nil, List.forall_mem_cons, List.not_mem_nil, false_implies, implies_true, and_true, lk, slot, SV.ren, Cell.ren, toN, Nat.reduceEqDiff, if_true, if_false, ↓reduceIte, reduceCtorEq])
      all_goals ((repeat' apply And.intro) <;> (first | rfl | trivial | (simp only []; done) | (simp only []; rfl) | (simp only []; trivial)))
    · have c0 : ¬ (i : Int) = 0 := by omega
      have hin : ((i : Int) - 1).toNat = i - 1 := by omega
      have hs := hI.s (by omega)
      rw [drop_getD S i 0 hlt, brk] at hs
      obtain ⟨y, hy⟩ : ∃ y, S.getD i 0 = y := ⟨_, rfl⟩
      obtain ⟨p, hp⟩ : ∃ p, S.getD (i - 1) 0 = p := ⟨_, rfl⟩
      rw [hy, hp] at hs
      have hyi : S.getD (i + 1 - 1) 0 = y := by rw [Nat.add_sub_cancel]; exact hy
      have hyb := hB _ (getD_mem S i 0 hlt)
      have hpbb := hB _ (getD_mem S (i - 1) 0 (by omega))
      rw [hy] at hyb
      rw [hp] at hpbb
      by_cases hyp : y = p + 1
      · have hst : ShI S (i + 1) r := ⟨hlt, fun h => by omega, fun _ => by rw [hyi]; rw [if_pos hyp] at hs; omega⟩
        simp only [go_sem, Nat.reduceEqDiff, Nat.reduceAdd, Nat.reduceSub, Nat.reduceMul, Nat.reduceLT, Nat.reduceLeDiff, ↓reduceIte, reduceCtorEq, List.reduceReplicate, Int.cast_ofNat_Int, Int.reduceEq, Int.reduceLT, Int.reduceLE, decide_eq_true c, lendL, decide_eq_false c0, hin, hy, hp, decide_eq_true hyp]
        repeat' (first
    | with_reducible refine And.intro ?_ ?_
    | (unfold OKC; kernel_rfl)
    | (unfold EDG; kernel_rfl)
    | (intros; (try simp only [Bool.and_eq_true, Bool.or_eq_true, Bool.not_eq_true', Bool.not_eq_false', Bool.and_eq_false_iff, Bool.or_eq_false_iff, decide_eq_true_eq, decide_eq_false_iff_not] at *); omega)
    | ((first | refine s1_id ?_ | refine swp_id ?_ | refine sops_id ?_ | refine s2_id ?_); simp only [decide_eq_true c, lendL, decide_eq_false c0, hin, hy, hp, decide_eq_true hyp, go_sem, Nat.reduceEqDiff, Nat.reduceAdd, Nat.reduceSub, Nat.reduceMul, Nat.reduceLT, Nat.reduceLeDiff, ↓reduceIte, reduceCtorEq, List.reduceReplicate, Int.cast_ofNat_Int, Int.reduceEq, Int.reduceLT, Int.reduceLE, SV.ren, SV.renL, Cell.ren, Row.ren, renO, bk, back, outUpsFrom, Ints_ren]))
        refine le_mk (i + 1, r) ?_ hst (by show S.length - (i + 1) < S.length - i; omega)
        (refine imp_ren _ _ _ [] (by simp) (by simp) (by simp) (Nat.le_of_ble_eq_true rfl) ?_ rfl (by simp only [List.forall_mem_cons, List.not_mem_nil, false_implies, implies_true, and_true, St.hpF, lookR, Nat.reduceEqDiff, if_true, if_false, ↓reduceIte] <;> (repeat' apply And.intro) <;> (first | rfl | trivial)) (by simp only [List.forall_mem_cons, List.not_mem_nil, false_implies, implies_true, and_true, true_and, flat_cons, flat_nil, flat_ints, flat_bools, flat_app, Cell.refs, and_self, eq_self_iff_true, List.append_nil]); simp only [List.map_cons, List.map_nil, List.forall_mem_cons, List.not_mem_nil, false_implies, implies_true, and_true, lk, slot, SV.ren, Cell.ren, toN, Nat.reduceEqDiff, if_true, if_false, ↓reduceIte, reduceCtorEq])
        all_goals ((repeat' apply And.intro) <;> (first | rfl | trivial | (simp only [Int.natCast_add]; done) | (simp only [Int.natCast_add]; rfl) | (simp only [Int.natCast_add]; trivial)))
      · have hst : ShI S (i + 1) (r + 1) := ⟨hlt, fun h => by omega, fun _ => by rw [hyi]; rw [if_neg hyp] at hs; omega⟩
        simp only [go_sem, Nat.reduceEqDiff, Nat.reduceAdd, Nat.reduceSub, Nat.reduceMul, Nat.reduceLT, Nat.reduceLeDiff, ↓reduceIte, reduceCtorEq, List.reduceReplicate, Int.cast_ofNat_Int, Int.reduceEq, Int.reduceLT, Int.reduceLE, decide_eq_true c, lendL, decide_eq_false c0, hin, hy, hp, decide_eq_false hyp]
        repeat' (first
    | with_reducible refine And.intro ?_ ?_
    | (unfold OKC; kernel_rfl)
    | (unfold EDG; kernel_rfl)
    | (intros; (try simp only [Bool.and_eq_true, Bool.or_eq_true, Bool.not_eq_true', Bool.not_eq_false', Bool.and_eq_false_iff, Bool.or_eq_false_iff, decide_eq_true_eq, decide_eq_false_iff_not] at *); omega)
    | ((first | refine s1_id ?_ | refine swp_id ?_ | refine sops_id ?_ | refine s2_id ?_); simp only [decide_eq_true c, lendL, decide_eq_false c0, hin, hy, hp, decide_eq_false hyp, go_sem, Nat.reduceEqDiff, Nat.reduceAdd, Nat.reduceSub, Nat.reduceMul, Nat.reduceLT, Nat.reduceLeDiff, ↓reduceIte, reduceCtorEq, List.reduceReplicate, Int.cast_ofNat_Int, Int.reduceEq, Int.reduceLT, Int.reduceLE, SV.ren, SV.renL, Cell.ren, Row.ren, renO, bk, back, outUpsFrom, Ints_ren]))
        refine le_mk (i + 1, r + 1) ?_ hst (by show S.length - (i + 1) < S.length - i; omega)
        (refine imp_ren _ _ _ [] (by simp) (by simp) (by simp) (Nat.le_of_ble_eq_true rfl) ?_ rfl (by simp only [List.forall_mem_cons, List.not_mem_nil, false_implies, implies_true, and_true, St.hpF, lookR, Nat.reduceEqDiff, if_true, if_false, ↓reduceIte] <;> (repeat' apply And.intro) <;> (first | rfl | trivial)) (by simp only [List.forall_mem_cons, List.not_mem_nil, false_implies, implies_true, and_true, true_and, flat_cons, flat_nil, flat_ints, flat_bools, flat_app, Cell.refs, and_self, eq_self_iff_true, List.append_nil]); simp only [List.map_cons, List.map_nil, List.forall_mem_cons, List.not_mem_nil, false_implies, implies_true, and_true, lk, slot, SV.ren, Cell.ren, toN, Nat.reduceEqDiff, if_true, if_false, ↓reduceIte, reduceCtorEq])
        all_goals ((repeat' apply And.intro) <;> (first | rfl | trivial | (simp only [Int.natCast_add]; done) | (simp only [Int.natCast_add]; rfl) | (simp only [Int.natCast_add]; trivial)))
  have c : ¬ (i : Int) < (S.length : Int) := by omega
  have hr : r = (prt S).length := by
    by_cases h0 : i = 0
    · rw [hI.z h0, hp0 (List.length_eq_zero_iff.1 (by omega))]
    · have := hI.s (by omega)
      rw [List.drop_of_length_le hge, brk] at this; omega
  subst hr
  simp only [go_sem, Nat.reduceEqDiff, Nat.reduceAdd, Nat.reduceSub, Nat.reduceMul, Nat.reduceLT, Nat.reduceLeDiff, ↓reduceIte, reduceCtorEq, List.reduceReplicate, Int.cast_ofNat_Int, Int.reduceEq, Int.reduceLT, Int.reduceLE, decide_eq_false c, lendL]
  repeat' (first
    | ((first | refine s1_id ?_ | refine swp_id ?_ | refine sops_id ?_ | refine s2_id ?_); simp only [decide_eq_false c, lendL, go_sem, Nat.reduceEqDiff, Nat.reduceAdd, Nat.reduceSub, Nat.reduceMul, Nat.reduceLT, Nat.reduceLeDiff, ↓reduceIte, reduceCtorEq, List.reduceReplicate, Int.cast_ofNat_Int, Int.reduceEq, Int.reduceLT, Int.reduceLE, SV.ren, SV.renL, Cell.ren, Row.ren, renO, bk, back, outUpsFrom, Ints_ren]))
  refine w_loop (ι := Nat × Nat) (fun s => ⟨[(3, gi S none), (4, s1 T), (5, i1 0), (6, i1 (prt S).length), (8, i1 s.2), (9, i1 s.1)], [], 0⟩) (fun s => s.1 ≤ T.length ∧ s.2 ≤ s.1 ∧ s.2 + cnt 44 (T.drop s.1) = cnt 44 T) (fun s => T.length - s.1) (0, 0) ?_ ⟨Nat.zero_le _, Nat.le_refl _, by rw [Nat.zero_add]; rfl⟩ ?_
  · (refine imp_ren _ _ _ [] (by simp) (by simp) (by simp) (Nat.le_of_ble_eq_true rfl) ?_ rfl (by simp only [List.forall_mem_cons, List.not_mem_nil, false_implies, implies_true, and_true, St.hpF, lookR, Nat.reduceEqDiff, if_true, if_false, ↓reduceIte] <;> (repeat' apply And.intro) <;> (first | rfl | trivial)) (by simp only [List.forall_mem_cons, List.not_mem_nil, false_implies, implies_true, and_true, true_and, flat_cons, flat_nil, flat_ints, flat_bools, flat_app, Cell.refs, and_self, eq_self_iff_true, List.append_nil]); simp only [List.map_cons, List.map_nil, List.forall_mem_cons, List.not_mem_nil, false_implies, implies_true, and_true, lk, slot, SV.ren, Cell.ren, toN, Nat.reduceEqDiff, if_true, if_false, ↓reduceIte, reduceCtorEq])
    all_goals ((repeat' apply And.intro) <;> (first | rfl | trivial))
  rintro ⟨k, m⟩ ⟨hk, hm, hcc⟩
  simp only at hk hm hcc ⊢
  rcases Nat.lt_or_ge k T.length with hltk | hgek
  · have ck : (k : Int) < (T.length : Int) := by omega
    obtain ⟨b, hb⟩ : ∃ b, T[k]? = some b := ⟨_, List.getElem?_eq_getElem hltk⟩
    rw [drop_at T k b hb, cnt_consS] at hcc
    by_cases hb44 : b = 44
    · rw [if_pos hb44] at hcc
      have h44 : (b.toNat : Int) = 44 := by rw [hb44]; rfl
      simp only [go_sem, Nat.reduceEqDiff, Nat.reduceAdd, Nat.reduceSub, Nat.reduceMul, Nat.reduceLT, Nat.reduceLeDiff, ↓reduceIte, reduceCtorEq, List.reduceReplicate, Int.cast_ofNat_Int, Int.reduceEq, Int.reduceLT, Int.reduceLE, decide_eq_true ck, lendL, hb, decide_eq_true h44]
      repeat' (first
    | with_reducible refine And.intro ?_ ?_
    | (intros; (try simp only [Bool.and_eq_true, Bool.or_eq_true, Bool.not_eq_true', Bool.not_eq_false', Bool.and_eq_false_iff, Bool.or_eq_false_iff, decide_eq_true_eq, decide_eq_false_iff_not] at *); omega)
    | ((first | refine s1_id ?_ | refine swp_id ?_ | refine sops_id ?_ | refine s2_id ?_); simp only [decide_eq_true ck, lendL, hb, decide_eq_true h44, go_sem, Nat.reduceEqDiff, Nat.reduceAdd, Nat.reduceSub, Nat.reduceMul, Nat.reduceLT, Nat.reduceLeDiff, ↓reduceIte, reduceCtorEq, List.reduceReplicate, Int.cast_ofNat_Int, Int.reduceEq, Int.reduceLT, Int.reduceLE, SV.ren, SV.renL, Cell.ren, Row.ren, renO, bk, back, outUpsFrom, Ints_ren]))
      refine le_mk (k + 1, m + 1) ?_ ⟨hltk, by show m + 1 ≤ k + 1; omega, by show m + 1 + cnt 44 (T.drop (k + 1)) = cnt 44 T; omega⟩ (by show T.length - (k + 1) < T.length - k; omega)
      (refine imp_ren _ _ _ [] (by simp) (by simp) (by simp) (Nat.le_of_ble_eq_true rfl) ?_ rfl (by simp only [List.forall_mem_cons, List.not_mem_nil, false_implies, implies_true, and_true, St.hpF, lookR, Nat.reduceEqDiff, if_true, if_false, ↓reduceIte] <;> (repeat' apply And.intro) <;> (first | rfl | trivial)) (by simp only [List.forall_mem_cons, List.not_mem_nil, false_implies, implies_true, and_true, true_and, flat_cons, flat_nil, flat_ints, flat_bools, flat_app, Cell.refs, and_self, eq_self_iff_true, List.append_nil]); simp only [List.map_cons, List.map_nil, List.forall_mem_cons, List.not_mem_nil, false_implies, implies_true, and_true, lk, slot, SV.ren, Cell.ren, toN, Nat.reduceEqDiff, if_true, if_false, ↓reduceIte, reduceCtorEq])
      all_goals ((repeat' apply And.intro) <;> (first | rfl | trivial | (simp only [Int.natCast_add]; done) | (simp only [Int.natCast_add]; rfl) | (simp only [Int.natCast_add]; trivial)))
    · rw [if_neg hb44] at hcc
      have h44 : ¬ (b.toNat : Int) = 44 := fun e => hb44 (UInt8.toNat_inj.1 (by show b.toNat = 44; omega))
      simp only [go_sem, Nat.reduceEqDiff, Nat.reduceAdd, Nat.reduceSub, Nat.reduceMul, Nat.reduceLT, Nat.reduceLeDiff, ↓reduceIte, reduceCtorEq, List.reduceReplicate, Int.cast_ofNat_Int, Int.reduceEq, Int.reduceLT, Int.reduceLE, decide_eq_true ck, lendL, hb, decide_eq_false h44]
      repeat' (first
    | with_reducible refine And.intro ?_ ?_
    | (intros; (try simp only [Bool.and_eq_true, Bool.or_eq_true, Bool.not_eq_true', Bool.not_eq_false', Bool.and_eq_false_iff, Bool.or_eq_false_iff, decide_eq_true_eq, decide_eq_false_iff_not] at *); omega)
    | ((first | refine s1_id ?_ | refine swp_id ?_ | refine sops_id ?_ | refine s2_id ?_); simp only [decide_eq_true ck, lendL, hb, decide_eq_false h44, go_sem, Nat.reduceEqDiff, Nat.reduceAdd, Nat.reduceSub, Nat.reduceMul, Nat.reduceLT, Nat.reduceLeDiff, ↓reduceIte, reduceCtorEq, List.reduceReplicate, Int.cast_ofNat_Int, Int.reduceEq, Int.reduceLT, Int.reduceLE, SV.ren, SV.renL, Cell.ren, Row.ren, renO, bk, back, outUpsFrom, Ints_ren]))
      refine le_mk (k + 1, m) ?_ ⟨hltk, by show m ≤ k + 1; omega, by show m + cnt 44 (T.drop (k + 1)) = cnt 44 T; omega⟩ (by show T.length - (k + 1) < T.length - k; omega)
      (refine imp_ren _ _ _ [] (by simp) (by simp) (by simp) (Nat.le_of_ble_eq_true rfl) ?_ rfl (by simp only [List.forall_mem_cons, List.not_mem_nil, false_implies, implies_true, and_true, St.hpF, lookR, Nat.reduceEqDiff, if_true, if_false, ↓reduceIte] <;> (repeat' apply And.intro) <;> (first | rfl | trivial)) (by simp only [List.forall_mem_cons, List.not_mem_nil, false_implies, implies_true, and_true, true_and, flat_cons, flat_nil, flat_ints, flat_bools, flat_app, Cell.refs, and_self, eq_self_iff_true, List.append_nil]); simp only [List.map_cons, List.map_nil, List.forall_mem_cons, List.not_mem_nil, false_implies, implies_true, and_true, lk, slot, SV.ren, Cell.ren, toN, Nat.reduceEqDiff, if_true, if_false, ↓reduceIte, reduceCtorEq])
      all_goals ((repeat' apply And.intro) <;> (first | rfl | trivial | (simp only [Int.natCast_add]; done) | (simp only [Int.natCast_add]; rfl) | (simp only [Int.natCast_add]; trivial)))
  · have ck : ¬ (k : Int) < (T.length : Int) := by omega
    have h0 : cnt 44 ([] : Str) = 0 := rfl
    rw [List.drop_of_length_le hgek, h0, Nat.add_zero] at hcc
    subst hcc
    have hif : (if ((prt S).length : Int) - 1 < 0 then 0 else ((prt S).length : Int) - 1) = (cnt 44 T : Int) := by
      rw [hcn]
      split <;> omega
    have hb2 : ((prt S).length : Int) ≤ 40 := by omega
    by_cases hTe : T = []
    · have hSl := hT0.1 hTe
      simp only [go_sem, Nat.reduceEqDiff, Nat.reduceAdd, Nat.reduceSub, Nat.reduceMul, Nat.reduceLT, Nat.reduceLeDiff, ↓reduceIte, reduceCtorEq, List.reduceReplicate, Int.cast_ofNat_Int, Int.reduceEq, Int.reduceLT, Int.reduceLE, decide_eq_false ck, lendL, hif, decide_eq_true hTe, decide_eq_true hSl]
      repeat' (first
    | with_reducible refine And.intro ?_ ?_
    | (intros; (try simp only [Bool.and_eq_true, Bool.or_eq_true, Bool.not_eq_true', Bool.not_eq_false', Bool.and_eq_false_iff, Bool.or_eq_false_iff, decide_eq_true_eq, decide_eq_false_iff_not] at *); omega)
    | (apply cg_tp
       case hl => rfl
       case ha => (simp only [List.map_cons, List.map_nil, prepV, prepC, idx, hpL', lookR, Nat.reduceEqDiff, if_true, if_false]; rfl)
       case hs => rfl
       case h => (first | exact sane_spec ..))
    | ((first | refine s1_id ?_ | refine swp_id ?_ | refine sops_id ?_ | refine s2_id ?_); simp only [decide_eq_false ck, lendL, hif, decide_eq_true hTe, decide_eq_true hSl, go_sem, Nat.reduceEqDiff, Nat.reduceAdd, Nat.reduceSub, Nat.reduceMul, Nat.reduceLT, Nat.reduceLeDiff, ↓reduceIte, reduceCtorEq, List.reduceReplicate, Int.cast_ofNat_Int, Int.reduceEq, Int.reduceLT, Int.reduceLE, SV.ren, SV.renL, Cell.ren, Row.ren, renO, bk, back, outUpsFrom, Ints_ren])
    | (apply fs_nil <;> (try simp only [go_sem, resV, resS, SV.ren, SV.renL, Cell.ren, St.tmF, St.hpF, idx, renO, Row.ren, evS, slot, lookR, Nat.reduceEqDiff, ↓reduceIte, reduceCtorEq, if_true, if_false, Option.getD_some, Option.getD_none, List.map_cons, List.map_nil, sLoad, readAt, readNeed, Ints_ren, Ints_length, Ints_getD, and_true, true_and, List.getD_cons_zero, List.getD_cons_succ]) <;> (try rfl)))
    · have hSl : ¬ (S.length : Int) = 0 := fun e => hTe (hT0.2 e)
      simp only [go_sem, Nat.reduceEqDiff, Nat.reduceAdd, Nat.reduceSub, Nat.reduceMul, Nat.reduceLT, Nat.reduceLeDiff, ↓reduceIte, reduceCtorEq, List.reduceReplicate, Int.cast_ofNat_Int, Int.reduceEq, Int.reduceLT, Int.reduceLE, decide_eq_false ck, lendL, hif, decide_eq_false hTe, decide_eq_false hSl]
      repeat' (first
    | with_reducible refine And.intro ?_ ?_
    | (intros; (try simp only [Bool.and_eq_true, Bool.or_eq_true, Bool.not_eq_true', Bool.not_eq_false', Bool.and_eq_false_iff, Bool.or_eq_false_iff, decide_eq_true_eq, decide_eq_false_iff_not] at *); omega)
    | (apply cg_tp
       case hl => rfl
       case ha => (simp only [List.map_cons, List.map_nil, prepV, prepC, idx, hpL', lookR, Nat.reduceEqDiff, if_true, if_false]; rfl)
       case hs => rfl
       case h => (first | exact sane_spec ..))
    | ((first | refine s1_id ?_ | refine swp_id ?_ | refine sops_id ?_ | refine s2_id ?_); simp only [decide_eq_false ck, lendL, hif, decide_eq_false hTe, decide_eq_false hSl, go_sem, Nat.reduceEqDiff, Nat.reduceAdd, Nat.reduceSub, Nat.reduceMul, Nat.reduceLT, Nat.reduceLeDiff, ↓reduceIte, reduceCtorEq, List.reduceReplicate, Int.cast_ofNat_Int, Int.reduceEq, Int.reduceLT, Int.reduceLE, SV.ren, SV.renL, Cell.ren, Row.ren, renO, bk, back, outUpsFrom, Ints_ren])
    | (apply fs_nil <;> (try simp only [go_sem, resV, resS, SV.ren, SV.renL, Cell.ren, St.tmF, St.hpF, idx, renO, Row.ren, evS, slot, lookR, Nat.reduceEqDiff, ↓reduceIte, reduceCtorEq, if_true, if_false, Option.getD_some, Option.getD_none, List.map_cons, List.map_nil, sLoad, readAt, readNeed, Ints_ren, Ints_length, Ints_getD, and_true, true_and, List.getD_cons_zero, List.getD_cons_succ]) <;> (try rfl)))
theorem short_main (g0 : List Cell) (s0 : GTy Tryd.prog 12 22 g0) : FnSpec Tryd.prog 4 [svOf Tryd.prog 22 g0] [] (b1 true) [] := by
  obtain ⟨l, rfl, hl, hr⟩ := gty_ints (n := 10) Tryd.underlying22 Tryd.underlying3 s0
  simp only [svOf, Tryd.underlying22, List.headD_cons]
  exact short_spec l hr
end Go.Proofs.YteokppcgmfbnkaaDoor
