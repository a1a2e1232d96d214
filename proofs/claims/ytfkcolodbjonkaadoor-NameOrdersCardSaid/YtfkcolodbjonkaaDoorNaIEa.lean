/- Contracts of functions, told of values, on the way to NameOrders. -/
import Derived.Test.YtfkcolodbjonkaaDoorTyEa
import Derived.Test.YtfkcolodbjonkaaDoorNaHEa
-- NEWGO
-- PRUNE: cl_lendx cl_use cl_lend
-- ISG: Strs_isG
-- FLAT: Strs_flat
namespace Go.Proofs.YtfkcolodbjonkaaDoor
set_option linter.unusedVariables false
set_option linter.unusedSimpArgs false
open Go.Proofs.YtfkcolodbjonkaaDoor.Sh
set_option maxRecDepth 20000
set_option maxHeartbeats 4000000 in
theorem rshared_spec (a b : List Str) (k k2 : Option Nat) (ha : a.length ≤ 9223372036854775807) (hb : b.length ≤ 9223372036854775807) : FnSpec Tryd.prog 38 [gs a k, gs b k2] [] (i1 (alk a b)) [] := by
  refine fnspec_of mixed TT_ok TT_cl ⟨fun _ => false, fun _ => [], 0, fun _ => false, fun _ => false⟩ Tryd.func38 rfl (by kernel_rfl) rfl 30 rfl [.tmp 4] rfl ?_
  simp only [go_sem, Nat.reduceEqDiff, Nat.reduceAdd, Nat.reduceSub, Nat.reduceMul, Nat.reduceLT, Nat.reduceLeDiff, ↓reduceIte, reduceCtorEq, List.reduceReplicate, Int.cast_ofNat_Int, Int.reduceEq, Int.reduceLT, Int.reduceLE]
  repeat' (first
    | ((first | refine s1_id ?_ | refine swp_id ?_ | refine sops_id ?_ | refine s2_id ?_); simp only [go_sem, Nat.reduceEqDiff, Nat.reduceAdd, Nat.reduceSub, Nat.reduceMul, Nat.reduceLT, Nat.reduceLeDiff, ↓reduceIte, reduceCtorEq, List.reduceReplicate, Int.cast_ofNat_Int, Int.reduceEq, Int.reduceLT, Int.reduceLE, SV.ren, SV.renL, Cell.ren, Row.ren, renO, bk, back, outUpsFrom, Ints_ren]))
  refine w_loop (ι := Nat) (fun i => ⟨[(0, gs a k), (1, gs b k2), (5, i1 i)], [], 0⟩) (fun i => i ≤ a.length ∧ i ≤ b.length ∧ alk a b = i + alk (a.drop i) (b.drop i)) (fun i => a.length - i) 0 ?_ ⟨Nat.zero_le _, Nat.zero_le _, by simp⟩ ?_
  · (refine imp_sub _ _ _ [] (by simp) (by simp) (by simp) (Nat.zero_le _) ?_ rfl (by simp); simp only [List.forall_mem_cons, List.not_mem_nil, false_implies, implies_true, and_true, lk, slot, SV.ren, Cell.ren, Nat.reduceEqDiff, if_true, if_false, ↓reduceIte, reduceCtorEq])
    all_goals ((repeat' apply And.intro) <;> (first | rfl | trivial))
  rintro i ⟨hi, hi2, he⟩
  simp only at hi hi2 he ⊢
  by_cases h1 : i < a.length
  case neg =>
    have h1' : ¬ (i : Int) < (a.length : Int) := by omega
    rw [alk_end a b i (fun h => h1 h.1)] at he
    rw [he]
    simp only [go_sem, Nat.reduceEqDiff, Nat.reduceAdd, Nat.reduceSub, Nat.reduceMul, Nat.reduceLT, Nat.reduceLeDiff, ↓reduceIte, reduceCtorEq, List.reduceReplicate, Int.cast_ofNat_Int, Int.reduceEq, Int.reduceLT, Int.reduceLE, decide_eq_false h1', Nat.add_zero]
    repeat' (first
    | with_reducible refine And.intro ?_ ?_
    | (unfold OKC; kernel_rfl)
    | (unfold EDG; kernel_rfl)
    | (apply fs_nil <;> (try simp only [go_sem, resV, resS, SV.ren, SV.renL, Cell.ren, St.tmF, St.hpF, idx, renO, Row.ren, evS, slot, lookR, Nat.reduceEqDiff, ↓reduceIte, reduceCtorEq, if_true, if_false, Option.getD_some, Option.getD_none, List.map_cons, List.map_nil, sLoad, readAt, readNeed, Ints_ren, Ints_length, Ints_getD, and_true, true_and, List.getD_cons_zero, List.getD_cons_succ]) <;> (try rfl)))
  by_cases h2 : i < b.length
  case neg =>
    have h1' : (i : Int) < (a.length : Int) := by omega
    have h2' : ¬ (i : Int) < (b.length : Int) := by omega
    rw [alk_end a b i (fun h => h2 h.2)] at he
    rw [he]
    simp only [go_sem, Nat.reduceEqDiff, Nat.reduceAdd, Nat.reduceSub, Nat.reduceMul, Nat.reduceLT, Nat.reduceLeDiff, ↓reduceIte, reduceCtorEq, List.reduceReplicate, Int.cast_ofNat_Int, Int.reduceEq, Int.reduceLT, Int.reduceLE, decide_eq_true h1', decide_eq_false h2', Nat.add_zero]
    repeat' (first
    | with_reducible refine And.intro ?_ ?_
    | (unfold OKC; kernel_rfl)
    | (unfold EDG; kernel_rfl)
    | (apply fs_nil <;> (try simp only [go_sem, resV, resS, SV.ren, SV.renL, Cell.ren, St.tmF, St.hpF, idx, renO, Row.ren, evS, slot, lookR, Nat.reduceEqDiff, ↓reduceIte, reduceCtorEq, if_true, if_false, Option.getD_some, Option.getD_none, List.map_cons, List.map_nil, sLoad, readAt, readNeed, Ints_ren, Ints_length, Ints_getD, and_true, true_and, List.getD_cons_zero, List.getD_cons_succ]) <;> (try rfl)))
  have h1' : (i : Int) < (a.length : Int) := by omega
  have h2' : (i : Int) < (b.length : Int) := by omega
  have hat := Strs_getD' a i (.sc (.string (bs []))) h1
  have hbt := Strs_getD' b i (.sc (.string (bs []))) h2
  rw [alk_at a b i h1 h2] at he
  by_cases h3 : a.getD i [] = b.getD i []
  · rw [if_pos h3] at he
    generalize a.getD i [] = x at *
    subst h3
    simp only [go_sem, Nat.reduceEqDiff, Nat.reduceAdd, Nat.reduceSub, Nat.reduceMul, Nat.reduceLT, Nat.reduceLeDiff, ↓reduceIte, reduceCtorEq, List.reduceReplicate, Int.cast_ofNat_Int, Int.reduceEq, Int.reduceLT, Int.reduceLE, decide_eq_true h1', decide_eq_true h2', hat, hbt]
    repeat' (first
    | with_reducible refine And.intro ?_ ?_
    | (unfold OKC; kernel_rfl)
    | (unfold EDG; kernel_rfl)
    | (intros; (try simp only [Bool.and_eq_true, Bool.or_eq_true, Bool.not_eq_true', Bool.not_eq_false', Bool.and_eq_false_iff, Bool.or_eq_false_iff, decide_eq_true_eq, decide_eq_false_iff_not] at *); omega)
    | ((first | refine s1_id ?_ | refine swp_id ?_ | refine sops_id ?_ | refine s2_id ?_); simp only [decide_eq_true h1', decide_eq_true h2', hat, hbt, go_sem, Nat.reduceEqDiff, Nat.reduceAdd, Nat.reduceSub, Nat.reduceMul, Nat.reduceLT, Nat.reduceLeDiff, ↓reduceIte, reduceCtorEq, List.reduceReplicate, Int.cast_ofNat_Int, Int.reduceEq, Int.reduceLT, Int.reduceLE, SV.ren, SV.renL, Cell.ren, Row.ren, renO, bk, back, outUpsFrom, Ints_ren]))
    refine le_mk (i + 1) ?_ ⟨by omega, by omega, by omega⟩ (by omega)
    (refine imp_sub _ _ _ [] (by simp) (by simp) (by simp) (Nat.zero_le _) ?_ rfl (by simp); simp only [List.forall_mem_cons, List.not_mem_nil, false_implies, implies_true, and_true, lk, slot, SV.ren, Cell.ren, Nat.reduceEqDiff, if_true, if_false, ↓reduceIte, reduceCtorEq])
    all_goals ((repeat' apply And.intro) <;> (first | rfl | trivial | (simp only [Int.natCast_add]; done) | (simp only [Int.natCast_add]; rfl) | (simp only [Int.natCast_add]; trivial)))
  · rw [if_neg h3] at he
    rw [he]
    generalize a.getD i [] = x at *
    generalize b.getD i [] = y at *
    simp only [go_sem, Nat.reduceEqDiff, Nat.reduceAdd, Nat.reduceSub, Nat.reduceMul, Nat.reduceLT, Nat.reduceLeDiff, ↓reduceIte, reduceCtorEq, List.reduceReplicate, Int.cast_ofNat_Int, Int.reduceEq, Int.reduceLT, Int.reduceLE, decide_eq_true h1', decide_eq_true h2', hat, hbt, decide_eq_false h3, Nat.add_zero]
    repeat' (first
    | with_reducible refine And.intro ?_ ?_
    | (unfold OKC; kernel_rfl)
    | (unfold EDG; kernel_rfl)
    | (intros; (try simp only [Bool.and_eq_true, Bool.or_eq_true, Bool.not_eq_true', Bool.not_eq_false', Bool.and_eq_false_iff, Bool.or_eq_false_iff, decide_eq_true_eq, decide_eq_false_iff_not] at *); omega)
    | (apply fs_nil <;> (try simp only [go_sem, resV, resS, SV.ren, SV.renL, Cell.ren, St.tmF, St.hpF, idx, renO, Row.ren, evS, slot, lookR, Nat.reduceEqDiff, ↓reduceIte, reduceCtorEq, if_true, if_false, Option.getD_some, Option.getD_none, List.map_cons, List.map_nil, sLoad, readAt, readNeed, Ints_ren, Ints_length, Ints_getD, and_true, true_and, List.getD_cons_zero, List.getD_cons_succ]) <;> (try rfl)))
def ctj : List Str → Str
  | [] => []
  | x :: r => 47 :: (x ++ ctj r)
theorem ctj_app : ∀ (a : List Str) (x : Str), ctj (a ++ [x]) = ctj a ++ 47 :: x
  | [], x => by simp [ctj]
  | b :: a, x => by simp only [List.cons_append, ctj, ctj_app a x, List.append_assoc]
theorem ctj_jn : ∀ xs : List Str, xs ≠ [] → ctj xs = 47 :: jn xs [47]
  | [], h => absurd rfl h
  | [x], _ => by
    have : jn [x] [47] = x := Lib.join_one _ _
    rw [this]; simp [ctj]
  | x :: y :: r, _ => by
    rw [jn_cons _ _ _ (by simp), ← ctj_jn (y :: r) (by simp)]
    rfl
theorem ctj_len : ∀ xs : List Str, (∀ x ∈ xs, nmOk x = true) → (ctj xs).length ≤ 33 * xs.length
  | [], _ => Nat.zero_le _
  | x :: r, h => by
    have h1 := nmOk_len x (h x List.mem_cons_self)
    have h2 := ctj_len r fun y hy => h y (List.mem_cons_of_mem _ hy)
    simp only [ctj, List.length_cons, List.length_append]; omega
theorem take_more (xs : List Str) (i : Nat) (h : i < xs.length) : xs.take (i + 1) = xs.take i ++ [xs.getD i []] := by
  rw [List.take_succ_eq_append_getElem h, List.getD_eq_getElem?_getD, List.getElem?_eq_getElem h]
  rfl
set_option maxHeartbeats 4000000 in
theorem rjoin_p (xs : List Str) (k : Option Nat) (hx : ∀ s ∈ xs, s.length ≤ 9223372036854775807) (hl : xs.length ≤ 140737488355328) : FnSpec Tryd.prog 25 [gs xs k] [] (rJ (pJn xs)) [] := by
  unfold pJn
  refine fnspec_of mixed TT_ok TT_cl ⟨fun _ => false, fun _ => [], 0, fun _ => false, fun _ => false⟩ Tryd.func25 rfl (by kernel_rfl) rfl 31 rfl [.tmp 2, .tmp 3] rfl ?_
  simp only [go_sem, Nat.reduceEqDiff, Nat.reduceAdd, Nat.reduceSub, Nat.reduceMul, Nat.reduceLT, Nat.reduceLeDiff, ↓reduceIte, reduceCtorEq, List.reduceReplicate, Int.cast_ofNat_Int, Int.reduceEq, Int.reduceLT, Int.reduceLE]
  repeat' (first
    | ((first | refine s1_id ?_ | refine swp_id ?_ | refine sops_id ?_ | refine s2_id ?_); simp only [go_sem, Nat.reduceEqDiff, Nat.reduceAdd, Nat.reduceSub, Nat.reduceMul, Nat.reduceLT, Nat.reduceLeDiff, ↓reduceIte, reduceCtorEq, List.reduceReplicate, Int.cast_ofNat_Int, Int.reduceEq, Int.reduceLT, Int.reduceLE, SV.ren, SV.renL, Cell.ren, Row.ren, renO, bk, back, outUpsFrom, Ints_ren]))
  refine w_loop (ι := Nat) (fun i => ⟨[(0, gs xs k), (4, s1 (ctj (xs.take i))), (5, i1 i)], [], 0⟩) (fun i => i ≤ xs.length ∧ ∀ x ∈ xs.take i, nmOk x = true) (fun i => xs.length - i) 0 ?_ ⟨Nat.zero_le _, fun x hx => (List.not_mem_nil hx).elim⟩ ?_
  · (refine imp_sub _ _ _ [] (by simp) (by simp) (by simp) (Nat.zero_le _) ?_ rfl (by simp); simp only [List.forall_mem_cons, List.not_mem_nil, false_implies, implies_true, and_true, lk, slot, SV.ren, Cell.ren, Nat.reduceEqDiff, if_true, if_false, ↓reduceIte, reduceCtorEq])
    all_goals ((repeat' apply And.intro) <;> (first | rfl | trivial))
  rintro i ⟨hi, hok⟩
  simp only at hi hok ⊢
  rcases Nat.lt_or_ge i xs.length with hlt | hge
  case inr =>
    have hc : ¬ (i : Int) < (xs.length : Int) := by omega
    have ht : xs.take i = xs := List.take_of_length_le hge
    rw [ht] at hok ⊢
    have hk := chk_good xs hok
    by_cases c8 : 8 < (xs.length : Int)
    · rw [if_pos c8] at hk
      rw [hk, if_neg (by decide)]
      simp only [go_sem, Nat.reduceEqDiff, Nat.reduceAdd, Nat.reduceSub, Nat.reduceMul, Nat.reduceLT, Nat.reduceLeDiff, ↓reduceIte, reduceCtorEq, List.reduceReplicate, Int.cast_ofNat_Int, Int.reduceEq, Int.reduceLT, Int.reduceLE, decide_eq_false hc, decide_eq_true c8]
      repeat' (first
    | (apply fs_nil <;> (try simp only [go_sem, resV, resS, SV.ren, SV.renL, Cell.ren, St.tmF, St.hpF, idx, renO, Row.ren, evS, slot, lookR, Nat.reduceEqDiff, ↓reduceIte, reduceCtorEq, if_true, if_false, Option.getD_some, Option.getD_none, List.map_cons, List.map_nil, sLoad, readAt, readNeed, Ints_ren, Ints_length, Ints_getD, and_true, true_and, List.getD_cons_zero, List.getD_cons_succ]) <;> (try rfl)))
    · rw [if_neg c8] at hk
      rw [hk, if_pos rfl]
      by_cases h0 : xs = []
      · subst h0
        simp only [go_sem, Nat.reduceEqDiff, Nat.reduceAdd, Nat.reduceSub, Nat.reduceMul, Nat.reduceLT, Nat.reduceLeDiff, ↓reduceIte, reduceCtorEq, List.reduceReplicate, Int.cast_ofNat_Int, Int.reduceEq, Int.reduceLT, Int.reduceLE, ctj]
        repeat' (first
    | (intros; (try simp only [Bool.and_eq_true, Bool.or_eq_true, Bool.not_eq_true', Bool.not_eq_false', Bool.and_eq_false_iff, Bool.or_eq_false_iff, decide_eq_true_eq, decide_eq_false_iff_not] at *); omega)
    | (refine gt_if (fun h => ?_) (fun h => ?_) <;> (try simp only [h]))
    | ((first | refine s1_id ?_ | refine swp_id ?_ | refine sops_id ?_ | refine s2_id ?_); simp only [ctj, go_sem, Nat.reduceEqDiff, Nat.reduceAdd, Nat.reduceSub, Nat.reduceMul, Nat.reduceLT, Nat.reduceLeDiff, ↓reduceIte, reduceCtorEq, List.reduceReplicate, Int.cast_ofNat_Int, Int.reduceEq, Int.reduceLT, Int.reduceLE, SV.ren, SV.renL, Cell.ren, Row.ren, renO, bk, back, outUpsFrom, Ints_ren])
    | (apply fs_nil <;> (try simp only [go_sem, resV, resS, SV.ren, SV.renL, Cell.ren, St.tmF, St.hpF, idx, renO, Row.ren, evS, slot, lookR, Nat.reduceEqDiff, ↓reduceIte, reduceCtorEq, if_true, if_false, Option.getD_some, Option.getD_none, List.map_cons, List.map_nil, sLoad, readAt, readNeed, Ints_ren, Ints_length, Ints_getD, and_true, true_and, List.getD_cons_zero, List.getD_cons_succ]) <;> (try rfl)))
      · have hj := ctj_jn xs h0
        have hne : ¬ ctj xs = [] := by rw [hj]; simp
        rw [← hj]
        simp only [go_sem, Nat.reduceEqDiff, Nat.reduceAdd, Nat.reduceSub, Nat.reduceMul, Nat.reduceLT, Nat.reduceLeDiff, ↓reduceIte, reduceCtorEq, List.reduceReplicate, Int.cast_ofNat_Int, Int.reduceEq, Int.reduceLT, Int.reduceLE, decide_eq_false hc, decide_eq_false c8, decide_eq_false hne]
        repeat' (first
    | (apply fs_nil <;> (try simp only [go_sem, resV, resS, SV.ren, SV.renL, Cell.ren, St.tmF, St.hpF, idx, renO, Row.ren, evS, slot, lookR, Nat.reduceEqDiff, ↓reduceIte, reduceCtorEq, if_true, if_false, Option.getD_some, Option.getD_none, List.map_cons, List.map_nil, sLoad, readAt, readNeed, Ints_ren, Ints_length, Ints_getD, and_true, true_and, List.getD_cons_zero, List.getD_cons_succ]) <;> (try rfl)))
  have hc : (i : Int) < (xs.length : Int) := by omega
  have hat := Strs_getD' xs i (.sc (.string (bs []))) hlt
  have hm : xs.getD i [] ∈ xs := by
    rw [List.getD_eq_getElem?_getD, List.getElem?_eq_getElem hlt]
    exact List.getElem_mem hlt
  have hv := rvalid_spec (xs.getD i []) (hx _ hm)
  have htm := take_more xs i hlt
  have hln := ctj_len _ hok
  rw [List.length_take] at hln
  generalize xs.getD i [] = s at *
  cases hn : nmOk s with
  | false =>
    rw [hn] at hv
    rw [chk_bad xs s hm hn, if_neg (by decide)]
    simp only [go_sem, Nat.reduceEqDiff, Nat.reduceAdd, Nat.reduceSub, Nat.reduceMul, Nat.reduceLT, Nat.reduceLeDiff, ↓reduceIte, reduceCtorEq, List.reduceReplicate, Int.cast_ofNat_Int, Int.reduceEq, Int.reduceLT, Int.reduceLE, decide_eq_true hc, hat]
    repeat' (first
    | with_reducible refine And.intro ?_ ?_
    | (intros; (try simp only [Bool.and_eq_true, Bool.or_eq_true, Bool.not_eq_true', Bool.not_eq_false', Bool.and_eq_false_iff, Bool.or_eq_false_iff, decide_eq_true_eq, decide_eq_false_iff_not] at *); omega)
    | (apply cl_plain
       case hs => rfl
       case ha => (simp only [List.map_cons, List.map_nil, prepV, prepC, idx, hpL', lookR, Nat.reduceEqDiff, if_true, if_false]; rfl)
       case h => (first | exact hv ..))
    | ((first | refine s1_id ?_ | refine swp_id ?_ | refine sops_id ?_ | refine s2_id ?_); simp only [decide_eq_true hc, hat, go_sem, Nat.reduceEqDiff, Nat.reduceAdd, Nat.reduceSub, Nat.reduceMul, Nat.reduceLT, Nat.reduceLeDiff, ↓reduceIte, reduceCtorEq, List.reduceReplicate, Int.cast_ofNat_Int, Int.reduceEq, Int.reduceLT, Int.reduceLE, SV.ren, SV.renL, Cell.ren, Row.ren, renO, bk, back, outUpsFrom, Ints_ren])
    | (apply fs_nil <;> (try simp only [go_sem, resV, resS, SV.ren, SV.renL, Cell.ren, St.tmF, St.hpF, idx, renO, Row.ren, evS, slot, lookR, Nat.reduceEqDiff, ↓reduceIte, reduceCtorEq, if_true, if_false, Option.getD_some, Option.getD_none, List.map_cons, List.map_nil, sLoad, readAt, readNeed, Ints_ren, Ints_length, Ints_getD, and_true, true_and, List.getD_cons_zero, List.getD_cons_succ]) <;> (try rfl)))
  | true =>
    rw [hn] at hv
    have hsl := nmOk_len s hn
    have eca : ctj (xs.take i) ++ 47 :: s = ctj (xs.take (i + 1)) := by rw [htm, ctj_app]
    simp only [go_sem, Nat.reduceEqDiff, Nat.reduceAdd, Nat.reduceSub, Nat.reduceMul, Nat.reduceLT, Nat.reduceLeDiff, ↓reduceIte, reduceCtorEq, List.reduceReplicate, Int.cast_ofNat_Int, Int.reduceEq, Int.reduceLT, Int.reduceLE, decide_eq_true hc, hat]
    repeat' (first
    | with_reducible refine And.intro ?_ ?_
    | (intros; (try simp only [Bool.and_eq_true, Bool.or_eq_true, Bool.not_eq_true', Bool.not_eq_false', Bool.and_eq_false_iff, Bool.or_eq_false_iff, decide_eq_true_eq, decide_eq_false_iff_not] at *); omega)
    | (apply cl_plain
       case hs => rfl
       case ha => (simp only [List.map_cons, List.map_nil, prepV, prepC, idx, hpL', lookR, Nat.reduceEqDiff, if_true, if_false]; rfl)
       case h => (first | exact hv ..))
    | ((first | refine s1_id ?_ | refine swp_id ?_ | refine sops_id ?_ | refine s2_id ?_); simp only [decide_eq_true hc, hat, go_sem, Nat.reduceEqDiff, Nat.reduceAdd, Nat.reduceSub, Nat.reduceMul, Nat.reduceLT, Nat.reduceLeDiff, ↓reduceIte, reduceCtorEq, List.reduceReplicate, Int.cast_ofNat_Int, Int.reduceEq, Int.reduceLT, Int.reduceLE, SV.ren, SV.renL, Cell.ren, Row.ren, renO, bk, back, outUpsFrom, Ints_ren]))
    refine le_mk (i + 1) ?_ ⟨by omega, ?_⟩ (by omega)
    · (refine imp_sub _ _ _ [] (by simp) (by simp) (by simp) (Nat.zero_le _) ?_ rfl (by simp); simp only [List.forall_mem_cons, List.not_mem_nil, false_implies, implies_true, and_true, lk, slot, SV.ren, Cell.ren, Nat.reduceEqDiff, if_true, if_false, ↓reduceIte, reduceCtorEq])
      all_goals ((repeat' apply And.intro) <;> (first | rfl | trivial | (simp only [Int.natCast_add, eca]; done) | (simp only [Int.natCast_add, eca]; rfl) | (simp only [Int.natCast_add, eca]; trivial)))
    · rw [htm]
      intro x hx
      rcases List.mem_append.1 hx with hx | hx
      · exact hok x hx
      · rw [List.mem_singleton.1 hx]; exact hn
theorem rjoin_pt (xs : List Str) (n : Nat) (hn : n ≤ xs.length) (k : Option Nat) (hx : ∀ s ∈ xs, s.length ≤ 9223372036854775807) (hl : xs.length ≤ 140737488355328) : FnSpec Tryd.prog 25 [.one (.gsl (Strs xs) 0 n k)] [] (rJ (pJn (xs.take n))) [] := by
  have h := rjoin_p (xs.take n) k (fun s hs => hx s (List.mem_of_mem_take hs)) (by rw [List.length_take]; omega)
  refine h.pre ⟨?_, trivial⟩
  have e : (xs.take n).length = n := by rw [List.length_take]; omega
  have := cw_take (Strs xs) 0 n k n
  rw [Strs_take] at this
  show CW _ (.gsl (Strs (xs.take n)) 0 (xs.take n).length k)
  rw [e]
  exact this
theorem rcommon_p (a b : Str) (ha : a.length ≤ 1000000) (hb : b.length ≤ 1000000) : FnSpec Tryd.prog 26 [s1 a, s1 b] [] (rJ (pCm a b)) [] := by
  have h1 := rsplit_p a ha
  have h2 := rsplit_p b hb
  have k1 := pSp_ok a
  have k2 := pSp_ok b
  unfold pCm
  generalize pSp a = u at *
  generalize pSp b = v at *
  obtain ⟨x, e⟩ := u
  obtain ⟨y, f⟩ := v
  simp only at k1 k2 ⊢
  by_cases he : e = 0
  case neg =>
    rw [if_neg he]
    refine fnspec_of mixed TT_ok TT_cl ⟨fun _ => false, fun _ => [], 0, fun _ => false, fun _ => false⟩ Tryd.func26 rfl (by kernel_rfl) rfl 33 rfl [.tmp 4, .tmp 5] rfl ?_
    simp only [go_sem, Nat.reduceEqDiff, Nat.reduceAdd, Nat.reduceSub, Nat.reduceMul, Nat.reduceLT, Nat.reduceLeDiff, ↓reduceIte, reduceCtorEq, List.reduceReplicate, Int.cast_ofNat_Int, Int.reduceEq, Int.reduceLT, Int.reduceLE]
    repeat' (first
    | (apply cl_plain
       case hs => rfl
       case ha => (simp only [List.map_cons, List.map_nil, prepV, prepC, idx, hpL', lookR, Nat.reduceEqDiff, if_true, if_false]; rfl)
       case h => (first | exact h1 ..))
    | ((first | refine s1_id ?_ | refine swp_id ?_ | refine sops_id ?_ | refine s2_id ?_); simp only [decide_eq_false he, go_sem, Nat.reduceEqDiff, Nat.reduceAdd, Nat.reduceSub, Nat.reduceMul, Nat.reduceLT, Nat.reduceLeDiff, ↓reduceIte, reduceCtorEq, List.reduceReplicate, Int.cast_ofNat_Int, Int.reduceEq, Int.reduceLT, Int.reduceLE, SV.ren, SV.renL, Cell.ren, Row.ren, renO, bk, back, outUpsFrom, Ints_ren])
    | (apply fs_nil <;> (try simp only [go_sem, resV, resS, SV.ren, SV.renL, Cell.ren, St.tmF, St.hpF, idx, renO, Row.ren, evS, slot, lookR, Nat.reduceEqDiff, ↓reduceIte, reduceCtorEq, if_true, if_false, Option.getD_some, Option.getD_none, List.map_cons, List.map_nil, sLoad, readAt, readNeed, Ints_ren, Ints_length, Ints_getD, and_true, true_and, List.getD_cons_zero, List.getD_cons_succ]) <;> (try rfl)))
  subst he
  rw [if_pos rfl]
  by_cases hf : f = 0
  case neg =>
    rw [if_neg hf]
    refine fnspec_of mixed TT_ok TT_cl ⟨fun _ => false, fun _ => [], 0, fun _ => false, fun _ => false⟩ Tryd.func26 rfl (by kernel_rfl) rfl 33 rfl [.tmp 4, .tmp 5] rfl ?_
    simp only [go_sem, Nat.reduceEqDiff, Nat.reduceAdd, Nat.reduceSub, Nat.reduceMul, Nat.reduceLT, Nat.reduceLeDiff, ↓reduceIte, reduceCtorEq, List.reduceReplicate, Int.cast_ofNat_Int, Int.reduceEq, Int.reduceLT, Int.reduceLE]
    repeat' (first
    | (apply cl_plain
       case hs => rfl
       case ha => (simp only [List.map_cons, List.map_nil, prepV, prepC, idx, hpL', lookR, Nat.reduceEqDiff, if_true, if_false]; rfl)
       case h => (first | exact h1 .. | exact h2 ..))
    | ((first | refine s1_id ?_ | refine swp_id ?_ | refine sops_id ?_ | refine s2_id ?_); simp only [decide_eq_false hf, go_sem, Nat.reduceEqDiff, Nat.reduceAdd, Nat.reduceSub, Nat.reduceMul, Nat.reduceLT, Nat.reduceLeDiff, ↓reduceIte, reduceCtorEq, List.reduceReplicate, Int.cast_ofNat_Int, Int.reduceEq, Int.reduceLT, Int.reduceLE, SV.ren, SV.renL, Cell.ren, Row.ren, renO, bk, back, outUpsFrom, Ints_ren])
    | (apply fs_nil <;> (try simp only [go_sem, resV, resS, SV.ren, SV.renL, Cell.ren, St.tmF, St.hpF, idx, renO, Row.ren, evS, slot, lookR, Nat.reduceEqDiff, ↓reduceIte, reduceCtorEq, if_true, if_false, Option.getD_some, Option.getD_none, List.map_cons, List.map_nil, sLoad, readAt, readNeed, Ints_ren, Ints_length, Ints_getD, and_true, true_and, List.getD_cons_zero, List.getD_cons_succ]) <;> (try rfl)))
  subst hf
  rw [if_pos rfl]
  have h3 := rshared_spec x y none none (by omega) (by omega)
  have h4 := rjoin_pt x (alk x y) (alk_le x y).1 none (fun s hs => by have := nmOk_len s (k1.1 s hs); omega) (by omega)
  have h5 := (alk_le x y).1
  generalize alk x y = n at *
  generalize pJn (x.take n) = r at *
  have h6 : (n : Int) ≤ (x.length : Int) := by omega
  refine fnspec_of mixed TT_ok TT_cl ⟨fun _ => false, fun _ => [], 0, fun _ => false, fun _ => false⟩ Tryd.func26 rfl (by kernel_rfl) rfl 33 rfl [.tmp 4, .tmp 5] rfl ?_
  simp only [go_sem, Nat.reduceEqDiff, Nat.reduceAdd, Nat.reduceSub, Nat.reduceMul, Nat.reduceLT, Nat.reduceLeDiff, ↓reduceIte, reduceCtorEq, List.reduceReplicate, Int.cast_ofNat_Int, Int.reduceEq, Int.reduceLT, Int.reduceLE]
  repeat' (first
    | with_reducible refine And.intro ?_ ?_
    | (intros; (try simp only [Bool.and_eq_true, Bool.or_eq_true, Bool.not_eq_true', Bool.not_eq_false', Bool.and_eq_false_iff, Bool.or_eq_false_iff, decide_eq_true_eq, decide_eq_false_iff_not] at *); omega)
    | (apply cl_plain
       case hs => rfl
       case ha => (simp only [List.map_cons, List.map_nil, prepV, prepC, idx, hpL', lookR, Nat.reduceEqDiff, if_true, if_false]; rfl)
       case h => (first | exact h1 .. | exact h2 .. | exact h3 .. | exact h4 ..))
    | ((first | refine s1_id ?_ | refine swp_id ?_ | refine sops_id ?_ | refine s2_id ?_); simp only [go_sem, Nat.reduceEqDiff, Nat.reduceAdd, Nat.reduceSub, Nat.reduceMul, Nat.reduceLT, Nat.reduceLeDiff, ↓reduceIte, reduceCtorEq, List.reduceReplicate, Int.cast_ofNat_Int, Int.reduceEq, Int.reduceLT, Int.reduceLE, SV.ren, SV.renL, Cell.ren, Row.ren, renO, bk, back, outUpsFrom, Ints_ren])
    | (apply fs_nil <;> (try simp only [go_sem, resV, resS, SV.ren, SV.renL, Cell.ren, St.tmF, St.hpF, idx, renO, Row.ren, evS, slot, lookR, Nat.reduceEqDiff, ↓reduceIte, reduceCtorEq, if_true, if_false, Option.getD_some, Option.getD_none, List.map_cons, List.map_nil, sLoad, readAt, readNeed, Ints_ren, Ints_length, Ints_getD, and_true, true_and, List.getD_cons_zero, List.getD_cons_succ]) <;> (try rfl)))
theorem runder_p (a b : Str) (ha : a.length ≤ 1000000) (hb : b.length ≤ 1000000) : FnSpec Tryd.prog 27 [s1 a, s1 b] [] (b1 (pUn a b)) [] := by
  have h1 := rsplit_p a ha
  have h2 := rsplit_p b hb
  have k1 := pSp_ok a
  have k2 := pSp_ok b
  unfold pUn
  generalize pSp a = u at *
  generalize pSp b = v at *
  obtain ⟨x, e⟩ := u
  obtain ⟨y, f⟩ := v
  simp only at k1 k2 ⊢
  by_cases he : e = 0
  case neg =>
    rw [decide_eq_false he, Bool.false_and]
    refine fnspec_of mixed TT_ok TT_cl ⟨fun _ => false, fun _ => [], 0, fun _ => false, fun _ => false⟩ Tryd.func27 rfl (by kernel_rfl) rfl 33 rfl [.tmp 4] rfl ?_
    simp only [go_sem, Nat.reduceEqDiff, Nat.reduceAdd, Nat.reduceSub, Nat.reduceMul, Nat.reduceLT, Nat.reduceLeDiff, ↓reduceIte, reduceCtorEq, List.reduceReplicate, Int.cast_ofNat_Int, Int.reduceEq, Int.reduceLT, Int.reduceLE]
    repeat' (first
    | (apply cl_plain
       case hs => rfl
       case ha => (simp only [List.map_cons, List.map_nil, prepV, prepC, idx, hpL', lookR, Nat.reduceEqDiff, if_true, if_false]; rfl)
       case h => (first | exact h1 .. | exact h2 ..))
    | ((first | refine s1_id ?_ | refine swp_id ?_ | refine sops_id ?_ | refine s2_id ?_); simp only [decide_eq_false he, go_sem, Nat.reduceEqDiff, Nat.reduceAdd, Nat.reduceSub, Nat.reduceMul, Nat.reduceLT, Nat.reduceLeDiff, ↓reduceIte, reduceCtorEq, List.reduceReplicate, Int.cast_ofNat_Int, Int.reduceEq, Int.reduceLT, Int.reduceLE, SV.ren, SV.renL, Cell.ren, Row.ren, renO, bk, back, outUpsFrom, Ints_ren])
    | (apply fs_nil <;> (try simp only [go_sem, resV, resS, SV.ren, SV.renL, Cell.ren, St.tmF, St.hpF, idx, renO, Row.ren, evS, slot, lookR, Nat.reduceEqDiff, ↓reduceIte, reduceCtorEq, if_true, if_false, Option.getD_some, Option.getD_none, List.map_cons, List.map_nil, sLoad, readAt, readNeed, Ints_ren, Ints_length, Ints_getD, and_true, true_and, List.getD_cons_zero, List.getD_cons_succ]) <;> (try rfl)))
  subst he
  by_cases hf : f = 0
  case neg =>
    rw [decide_eq_false hf, Bool.false_and, Bool.and_false]
    refine fnspec_of mixed TT_ok TT_cl ⟨fun _ => false, fun _ => [], 0, fun _ => false, fun _ => false⟩ Tryd.func27 rfl (by kernel_rfl) rfl 33 rfl [.tmp 4] rfl ?_
    simp only [go_sem, Nat.reduceEqDiff, Nat.reduceAdd, Nat.reduceSub, Nat.reduceMul, Nat.reduceLT, Nat.reduceLeDiff, ↓reduceIte, reduceCtorEq, List.reduceReplicate, Int.cast_ofNat_Int, Int.reduceEq, Int.reduceLT, Int.reduceLE]
    repeat' (first
    | (apply cl_plain
       case hs => rfl
       case ha => (simp only [List.map_cons, List.map_nil, prepV, prepC, idx, hpL', lookR, Nat.reduceEqDiff, if_true, if_false]; rfl)
       case h => (first | exact h1 .. | exact h2 ..))
    | ((first | refine s1_id ?_ | refine swp_id ?_ | refine sops_id ?_ | refine s2_id ?_); simp only [decide_eq_false hf, go_sem, Nat.reduceEqDiff, Nat.reduceAdd, Nat.reduceSub, Nat.reduceMul, Nat.reduceLT, Nat.reduceLeDiff, ↓reduceIte, reduceCtorEq, List.reduceReplicate, Int.cast_ofNat_Int, Int.reduceEq, Int.reduceLT, Int.reduceLE, SV.ren, SV.renL, Cell.ren, Row.ren, renO, bk, back, outUpsFrom, Ints_ren])
    | (apply fs_nil <;> (try simp only [go_sem, resV, resS, SV.ren, SV.renL, Cell.ren, St.tmF, St.hpF, idx, renO, Row.ren, evS, slot, lookR, Nat.reduceEqDiff, ↓reduceIte, reduceCtorEq, if_true, if_false, Option.getD_some, Option.getD_none, List.map_cons, List.map_nil, sLoad, readAt, readNeed, Ints_ren, Ints_length, Ints_getD, and_true, true_and, List.getD_cons_zero, List.getD_cons_succ]) <;> (try rfl)))
  subst hf
  have h3 := rshared_spec x y none none (by omega) (by omega)
  generalize alk x y = n at *
  simp only [decide_true, Bool.true_and]
  refine fnspec_of mixed TT_ok TT_cl ⟨fun _ => false, fun _ => [], 0, fun _ => false, fun _ => false⟩ Tryd.func27 rfl (by kernel_rfl) rfl 33 rfl [.tmp 4] rfl ?_
  simp only [go_sem, Nat.reduceEqDiff, Nat.reduceAdd, Nat.reduceSub, Nat.reduceMul, Nat.reduceLT, Nat.reduceLeDiff, ↓reduceIte, reduceCtorEq, List.reduceReplicate, Int.cast_ofNat_Int, Int.reduceEq, Int.reduceLT, Int.reduceLE]
  repeat' (first
    | (apply cg_tp
       case hl => rfl
       case ha => (simp only [List.map_cons, List.map_nil, prepV, prepC, idx, hpL', lookR, Nat.reduceEqDiff, if_true, if_false]; rfl)
       case hs => rfl
       case h => (first | exact h1 .. | exact h2 .. | exact h3 ..))
    | (apply cl_plain
       case hs => rfl
       case ha => (simp only [List.map_cons, List.map_nil, prepV, prepC, idx, hpL', lookR, Nat.reduceEqDiff, if_true, if_false]; rfl)
       case h => (first | exact h1 .. | exact h2 .. | exact h3 ..))
    | ((first | refine s1_id ?_ | refine swp_id ?_ | refine sops_id ?_ | refine s2_id ?_); simp only [go_sem, Nat.reduceEqDiff, Nat.reduceAdd, Nat.reduceSub, Nat.reduceMul, Nat.reduceLT, Nat.reduceLeDiff, ↓reduceIte, reduceCtorEq, List.reduceReplicate, Int.cast_ofNat_Int, Int.reduceEq, Int.reduceLT, Int.reduceLE, SV.ren, SV.renL, Cell.ren, Row.ren, renO, bk, back, outUpsFrom, Ints_ren])
    | (apply fs_nil <;> (try simp only [go_sem, resV, resS, SV.ren, SV.renL, Cell.ren, St.tmF, St.hpF, idx, renO, Row.ren, evS, slot, lookR, Nat.reduceEqDiff, ↓reduceIte, reduceCtorEq, if_true, if_false, Option.getD_some, Option.getD_none, List.map_cons, List.map_nil, sLoad, readAt, readNeed, Ints_ren, Ints_length, Ints_getD, and_true, true_and, List.getD_cons_zero, List.getD_cons_succ]) <;> (try rfl)))
theorem order_spec (a b : Str) : FnSpec Tryd.prog 41 [s1 a, s1 b] [] (i1 (cmpB a b)) [] := by
  have hr := cmpB_rng a b
  have hz := cmpB_zero a b
  have hl := bs_less a b
  by_cases c1 : cmpB a b < 0
  · have e : cmpB a b = -1 := by omega
    rw [decide_eq_true c1] at hl
    rw [e]
    refine fnspec_of mixed TT_ok TT_cl ⟨fun _ => false, fun _ => [], 0, fun _ => false, fun _ => false⟩ Tryd.func41 rfl (by kernel_rfl) rfl 13 rfl [.tmp 4] rfl ?_
    simp only [go_sem, Nat.reduceEqDiff, Nat.reduceAdd, Nat.reduceSub, Nat.reduceMul, Nat.reduceLT, Nat.reduceLeDiff, ↓reduceIte, reduceCtorEq, List.reduceReplicate, Int.cast_ofNat_Int, Int.reduceEq, Int.reduceLT, Int.reduceLE, hl]
    repeat' (first
    | (apply fs_nil <;> (try simp only [go_sem, resV, resS, SV.ren, SV.renL, Cell.ren, St.tmF, St.hpF, idx, renO, Row.ren, evS, slot, lookR, Nat.reduceEqDiff, ↓reduceIte, reduceCtorEq, if_true, if_false, Option.getD_some, Option.getD_none, List.map_cons, List.map_nil, sLoad, readAt, readNeed, Ints_ren, Ints_length, Ints_getD, and_true, true_and, List.getD_cons_zero, List.getD_cons_succ]) <;> (try rfl)))
  · rw [decide_eq_false c1] at hl
    by_cases c2 : a = b
    · rw [hz.2 c2]
      subst c2
      refine fnspec_of mixed TT_ok TT_cl ⟨fun _ => false, fun _ => [], 0, fun _ => false, fun _ => false⟩ Tryd.func41 rfl (by kernel_rfl) rfl 13 rfl [.tmp 4] rfl ?_
      simp only [go_sem, Nat.reduceEqDiff, Nat.reduceAdd, Nat.reduceSub, Nat.reduceMul, Nat.reduceLT, Nat.reduceLeDiff, ↓reduceIte, reduceCtorEq, List.reduceReplicate, Int.cast_ofNat_Int, Int.reduceEq, Int.reduceLT, Int.reduceLE, hl]
      repeat' (first
    | (refine gt_if (fun h => ?_) (fun h => ?_) <;> (try simp only [h]))
    | ((first | refine s1_id ?_ | refine swp_id ?_ | refine sops_id ?_ | refine s2_id ?_); simp only [hl, go_sem, Nat.reduceEqDiff, Nat.reduceAdd, Nat.reduceSub, Nat.reduceMul, Nat.reduceLT, Nat.reduceLeDiff, ↓reduceIte, reduceCtorEq, List.reduceReplicate, Int.cast_ofNat_Int, Int.reduceEq, Int.reduceLT, Int.reduceLE, SV.ren, SV.renL, Cell.ren, Row.ren, renO, bk, back, outUpsFrom, Ints_ren])
    | (apply fs_nil <;> (try simp only [go_sem, resV, resS, SV.ren, SV.renL, Cell.ren, St.tmF, St.hpF, idx, renO, Row.ren, evS, slot, lookR, Nat.reduceEqDiff, ↓reduceIte, reduceCtorEq, if_true, if_false, Option.getD_some, Option.getD_none, List.map_cons, List.map_nil, sLoad, readAt, readNeed, Ints_ren, Ints_length, Ints_getD, and_true, true_and, List.getD_cons_zero, List.getD_cons_succ]) <;> (try rfl)))
      all_goals cases h
    · have e : cmpB a b = 1 := by
        have : cmpB a b ≠ 0 := fun q => c2 (hz.1 q)
        omega
      rw [e]
      refine fnspec_of mixed TT_ok TT_cl ⟨fun _ => false, fun _ => [], 0, fun _ => false, fun _ => false⟩ Tryd.func41 rfl (by kernel_rfl) rfl 13 rfl [.tmp 4] rfl ?_
      simp only [go_sem, Nat.reduceEqDiff, Nat.reduceAdd, Nat.reduceSub, Nat.reduceMul, Nat.reduceLT, Nat.reduceLeDiff, ↓reduceIte, reduceCtorEq, List.reduceReplicate, Int.cast_ofNat_Int, Int.reduceEq, Int.reduceLT, Int.reduceLE, hl, decide_eq_false c2]
      repeat' (first
    | (refine gt_if (fun h => ?_) (fun h => ?_) <;> (try simp only [h]))
    | ((first | refine s1_id ?_ | refine swp_id ?_ | refine sops_id ?_ | refine s2_id ?_); simp only [hl, decide_eq_false c2, go_sem, Nat.reduceEqDiff, Nat.reduceAdd, Nat.reduceSub, Nat.reduceMul, Nat.reduceLT, Nat.reduceLeDiff, ↓reduceIte, reduceCtorEq, List.reduceReplicate, Int.cast_ofNat_Int, Int.reduceEq, Int.reduceLT, Int.reduceLE, SV.ren, SV.renL, Cell.ren, Row.ren, renO, bk, back, outUpsFrom, Ints_ren])
    | (apply fs_nil <;> (try simp only [go_sem, resV, resS, SV.ren, SV.renL, Cell.ren, St.tmF, St.hpF, idx, renO, Row.ren, evS, slot, lookR, Nat.reduceEqDiff, ↓reduceIte, reduceCtorEq, if_true, if_false, Option.getD_some, Option.getD_none, List.map_cons, List.map_nil, sLoad, readAt, readNeed, Ints_ren, Ints_length, Ints_getD, and_true, true_and, List.getD_cons_zero, List.getD_cons_succ]) <;> (try rfl)))
      all_goals cases h
end Go.Proofs.YtfkcolodbjonkaaDoor
