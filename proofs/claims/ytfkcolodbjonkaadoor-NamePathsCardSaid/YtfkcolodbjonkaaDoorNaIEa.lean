/- Contracts of functions, told of values, on the way to NamePaths. -/
import Derived.Test.YtfkcolodbjonkaaDoorTyEa
import Derived.Test.YtfkcolodbjonkaaDoorNaHEa
-- NEWGO
-- PRUNE: cl_lendx cl_use cl_lend
-- ISG: Strs_isG
-- FLAT: Strs_flat
namespace Go.Proofs.YtfkcolodbjonkaaDoor
set_option linter.unusedVariables false
set_option linter.unusedSimpArgs false
open Go.Proofs.YtfkcolodbjonkaaDoor.Sh
set_option maxRecDepth 20000
def ctj : List Str → Str
  | [] => []
  | x :: r => 47 :: (x ++ ctj r)
theorem ctj_app : ∀ (a : List Str) (x : Str), ctj (a ++ [x]) = ctj a ++ 47 :: x
  | [], x => by simp [ctj]
  | b :: a, x => by simp only [List.cons_append, ctj, ctj_app a x, List.append_assoc]
theorem ctj_jn : ∀ xs : List Str, xs ≠ [] → ctj xs = 47 :: jn xs [47]
  | [], h => absurd rfl h
  | [x], _ => by
    have : jn [x] [47] = x := Lib.join_one _ _
    rw [this]; simp [ctj]
  | x :: y :: r, _ => by
    rw [jn_cons _ _ _ (by simp), ← ctj_jn (y :: r) (by simp)]
    rfl
theorem ctj_len : ∀ xs : List Str, (∀ x ∈ xs, nmOk x = true) → (ctj xs).length ≤ 33 * xs.length
  | [], _ => Nat.zero_le _
  | x :: r, h => by
    have h1 := nmOk_len x (h x List.mem_cons_self)
    have h2 := ctj_len r fun y hy => h y (List.mem_cons_of_mem _ hy)
    simp only [ctj, List.length_cons, List.length_append]; omega
theorem take_more (xs : List Str) (i : Nat) (h : i < xs.length) : xs.take (i + 1) = xs.take i ++ [xs.getD i []] := by
  rw [List.take_succ_eq_append_getElem h, List.getD_eq_getElem?_getD, List.getElem?_eq_getElem h]
  rfl
set_option maxHeartbeats 4000000 in
theorem rjoin_p (xs : List Str) (k : Option Nat) (hx : ∀ s ∈ xs, s.length ≤ 9223372036854775807) (hl : xs.length ≤ 140737488355328) : FnSpec Tryd.prog 25 [gs xs k] [] (rJ (pJn xs)) [] := by
  unfold pJn
  refine fnspec_of mixed TT_ok TT_cl ⟨fun _ => false, fun _ => [], 0, fun _ => false, fun _ => false⟩ Tryd.func25 rfl (by kernel_rfl) rfl 31 rfl [.tmp 2, .tmp 3] rfl ?_
  simp only [go_sem, Nat.reduceEqDiff, Nat.reduceAdd, Nat.reduceSub, Nat.reduceMul, Nat.reduceLT, Nat.reduceLeDiff, ↓reduceIte, reduceCtorEq, List.reduceReplicate, Int.cast_ofNat_Int, Int.reduceEq, Int.reduceLT, Int.reduceLE]
  repeat' (first
    | ((first | refine s1_id ?_ | refine swp_id ?_ | refine sops_id ?_ | refine s2_id ?_); simp only [go_sem, Nat.reduceEqDiff, Nat.reduceAdd, Nat.reduceSub, Nat.reduceMul, Nat.reduceLT, Nat.reduceLeDiff, ↓reduceIte, reduceCtorEq, List.reduceReplicate, Int.cast_ofNat_Int, Int.reduceEq, Int.reduceLT, Int.reduceLE, SV.ren, SV.renL, Cell.ren, Row.ren, renO, bk, back, outUpsFrom, Ints_ren]))
  refine w_loop (ι := Nat) (fun i => ⟨[(0, gs xs k), (4, s1 (ctj (xs.take i))), (5, i1 i)], [], 0⟩) (fun i => i ≤ xs.length ∧ ∀ x ∈ xs.take i, nmOk x = true) (fun i => xs.length - i) 0 ?_ ⟨Nat.zero_le _, fun x hx => (List.not_mem_nil hx).elim⟩ ?_
  · (refine imp_sub _ _ _ [] (by simp) (by simp) (by simp) (Nat.zero_le _) ?_ rfl (by simp); simp only [List.forall_mem_cons, List.not_mem_nil, false_implies, implies_true, and_true, lk, slot, SV.ren, Cell.ren, Nat.reduceEqDiff, if_true, if_false, ↓reduceIte, reduceCtorEq])
    all_goals ((repeat' apply And.intro) <;> (first | rfl | trivial))
  rintro i ⟨hi, hok⟩
  simp only at hi hok ⊢
  rcases Nat.lt_or_ge i xs.length with hlt | hge
  case inr =>
    have hc : ¬ (i : Int) < (xs.length : Int) := by omega
    have ht : xs.take i = xs := List.take_of_length_le hge
    rw [ht] at hok ⊢
    have hk := chk_good xs hok
    by_cases c8 : 8 < (xs.length : Int)
    · rw [if_pos c8] at hk
      rw [hk, if_neg (by decide)]
      simp only [go_sem, Nat.reduceEqDiff, Nat.reduceAdd, Nat.reduceSub, Nat.reduceMul, Nat.reduceLT, Nat.reduceLeDiff, ↓reduceIte, reduceCtorEq, List.reduceReplicate, Int.cast_ofNat_Int, Int.reduceEq, Int.reduceLT, Int.reduceLE, decide_eq_false hc, decide_eq_true c8]
      repeat' (first
    | (apply fs_nil <;> (try simp only [go_sem, resV, resS, SV.ren, SV.renL, Cell.ren, St.tmF, St.hpF, idx, renO, Row.ren, evS, slot, lookR, Nat.reduceEqDiff, ↓reduceIte, reduceCtorEq, if_true, if_false, Option.getD_some, Option.getD_none, List.map_cons, List.map_nil, sLoad, readAt, readNeed, Ints_ren, Ints_length, Ints_getD, and_true, true_and, List.getD_cons_zero, List.getD_cons_succ]) <;> (try rfl)))
    · rw [if_neg c8] at hk
      rw [hk, if_pos rfl]
      by_cases h0 : xs = []
      · subst h0
        simp only [go_sem, Nat.reduceEqDiff, Nat.reduceAdd, Nat.reduceSub, Nat.reduceMul, Nat.reduceLT, Nat.reduceLeDiff, ↓reduceIte, reduceCtorEq, List.reduceReplicate, Int.cast_ofNat_Int, Int.reduceEq, Int.reduceLT, Int.reduceLE, ctj]
        repeat' (first
    | (intros; (try simp only [Bool.and_eq_true, Bool.or_eq_true, Bool.not_eq_true', Bool.not_eq_false', Bool.and_eq_false_iff, Bool.or_eq_false_iff, decide_eq_true_eq, decide_eq_false_iff_not] at *); omega)
    | (refine gt_if (fun h => ?_) (fun h => ?_) <;> (try simp only [h]))
    | ((first | refine s1_id ?_ | refine swp_id ?_ | refine sops_id ?_ | refine s2_id ?_); simp only [ctj, go_sem, Nat.reduceEqDiff, Nat.reduceAdd, Nat.reduceSub, Nat.reduceMul, Nat.reduceLT, Nat.reduceLeDiff, ↓reduceIte, reduceCtorEq, List.reduceReplicate, Int.cast_ofNat_Int, Int.reduceEq, Int.reduceLT, Int.reduceLE, SV.ren, SV.renL, Cell.ren, Row.ren, renO, bk, back, outUpsFrom, Ints_ren])
    | (apply fs_nil <;> (try simp only [go_sem, resV, resS, SV.ren, SV.renL, Cell.ren, St.tmF, St.hpF, idx, renO, Row.ren, evS, slot, lookR, Nat.reduceEqDiff, ↓reduceIte, reduceCtorEq, if_true, if_false, Option.getD_some, Option.getD_none, List.map_cons, List.map_nil, sLoad, readAt, readNeed, Ints_ren, Ints_length, Ints_getD, and_true, true_and, List.getD_cons_zero, List.getD_cons_succ]) <;> (try rfl)))
      · have hj := ctj_jn xs h0
        have hne : ¬ ctj xs = [] := by rw [hj]; simp
        rw [← hj]
        simp only [go_sem, Nat.reduceEqDiff, Nat.reduceAdd, Nat.reduceSub, Nat.reduceMul, Nat.reduceLT, Nat.reduceLeDiff, ↓reduceIte, reduceCtorEq, List.reduceReplicate, Int.cast_ofNat_Int, Int.reduceEq, Int.reduceLT, Int.reduceLE, decide_eq_false hc, decide_eq_false c8, decide_eq_false hne]
        repeat' (first
    | (apply fs_nil <;> (try simp only [go_sem, resV, resS, SV.ren, SV.renL, Cell.ren, St.tmF, St.hpF, idx, renO, Row.ren, evS, slot, lookR, Nat.reduceEqDiff, ↓reduceIte, reduceCtorEq, if_true, if_false, Option.getD_some, Option.getD_none, List.map_cons, List.map_nil, sLoad, readAt, readNeed, Ints_ren, Ints_length, Ints_getD, and_true, true_and, List.getD_cons_zero, List.getD_cons_succ]) <;> (try rfl)))
  have hc : (i : Int) < (xs.length : Int) := by omega
  have hat := Strs_getD' xs i (.sc (.string (bs []))) hlt
  have hm : xs.getD i [] ∈ xs := by
    rw [List.getD_eq_getElem?_getD, List.getElem?_eq_getElem hlt]
    exact List.getElem_mem hlt
  have hv := rvalid_spec (xs.getD i []) (hx _ hm)
  have htm := take_more xs i hlt
  have hln := ctj_len _ hok
  rw [List.length_take] at hln
  generalize xs.getD i [] = s at *
  cases hn : nmOk s with
  | false =>
    rw [hn] at hv
    rw [chk_bad xs s hm hn, if_neg (by decide)]
    simp only [go_sem, Nat.reduceEqDiff, Nat.reduceAdd, Nat.reduceSub, Nat.reduceMul, Nat.reduceLT, Nat.reduceLeDiff, ↓reduceIte, reduceCtorEq, List.reduceReplicate, Int.cast_ofNat_Int, Int.reduceEq, Int.reduceLT, Int.reduceLE, decide_eq_true hc, hat]
    repeat' (first
    | with_reducible refine And.intro ?_ ?_
    | (intros; (try simp only [Bool.and_eq_true, Bool.or_eq_true, Bool.not_eq_true', Bool.not_eq_false', Bool.and_eq_false_iff, Bool.or_eq_false_iff, decide_eq_true_eq, decide_eq_false_iff_not] at *); omega)
    | (apply cl_plain
       case hs => rfl
       case ha => (simp only [List.map_cons, List.map_nil, prepV, prepC, idx, hpL', lookR, Nat.reduceEqDiff, if_true, if_false]; rfl)
       case h => (first | exact hv ..))
    | ((first | refine s1_id ?_ | refine swp_id ?_ | refine sops_id ?_ | refine s2_id ?_); simp only [decide_eq_true hc, hat, go_sem, Nat.reduceEqDiff, Nat.reduceAdd, Nat.reduceSub, Nat.reduceMul, Nat.reduceLT, Nat.reduceLeDiff, ↓reduceIte, reduceCtorEq, List.reduceReplicate, Int.cast_ofNat_Int, Int.reduceEq, Int.reduceLT, Int.reduceLE, SV.ren, SV.renL, Cell.ren, Row.ren, renO, bk, back, outUpsFrom, Ints_ren])
    | (apply fs_nil <;> (try simp only [go_sem, resV, resS, SV.ren, SV.renL, Cell.ren, St.tmF, St.hpF, idx, renO, Row.ren, evS, slot, lookR, Nat.reduceEqDiff, ↓reduceIte, reduceCtorEq, if_true, if_false, Option.getD_some, Option.getD_none, List.map_cons, List.map_nil, sLoad, readAt, readNeed, Ints_ren, Ints_length, Ints_getD, and_true, true_and, List.getD_cons_zero, List.getD_cons_succ]) <;> (try rfl)))
  | true =>
    rw [hn] at hv
    have hsl := nmOk_len s hn
    have eca : ctj (xs.take i) ++ 47 :: s = ctj (xs.take (i + 1)) := by rw [htm, ctj_app]
    simp only [go_sem, Nat.reduceEqDiff, Nat.reduceAdd, Nat.reduceSub, Nat.reduceMul, Nat.reduceLT, Nat.reduceLeDiff, ↓reduceIte, reduceCtorEq, List.reduceReplicate, Int.cast_ofNat_Int, Int.reduceEq, Int.reduceLT, Int.reduceLE, decide_eq_true hc, hat]
    repeat' (first
    | with_reducible refine And.intro ?_ ?_
    | (intros; (try simp only [Bool.and_eq_true, Bool.or_eq_true, Bool.not_eq_true', Bool.not_eq_false', Bool.and_eq_false_iff, Bool.or_eq_false_iff, decide_eq_true_eq, decide_eq_false_iff_not] at *); omega)
    | (apply cl_plain
       case hs => rfl
       case ha => (simp only [List.map_cons, List.map_nil, prepV, prepC, idx, hpL', lookR, Nat.reduceEqDiff, if_true, if_false]; rfl)
       case h => (first | exact hv ..))
    | ((first | refine s1_id ?_ | refine swp_id ?_ | refine sops_id ?_ | refine s2_id ?_); simp only [decide_eq_true hc, hat, go_sem, Nat.reduceEqDiff, Nat.reduceAdd, Nat.reduceSub, Nat.reduceMul, Nat.reduceLT, Nat.reduceLeDiff, ↓reduceIte, reduceCtorEq, List.reduceReplicate, Int.cast_ofNat_Int, Int.reduceEq, Int.reduceLT, Int.reduceLE, SV.ren, SV.renL, Cell.ren, Row.ren, renO, bk, back, outUpsFrom, Ints_ren]))
    refine le_mk (i + 1) ?_ ⟨by omega, ?_⟩ (by omega)
    · (refine imp_sub _ _ _ [] (by simp) (by simp) (by simp) (Nat.zero_le _) ?_ rfl (by simp); simp only [List.forall_mem_cons, List.not_mem_nil, false_implies, implies_true, and_true, lk, slot, SV.ren, Cell.ren, Nat.reduceEqDiff, if_true, if_false, ↓reduceIte, reduceCtorEq])
      all_goals ((repeat' apply And.intro) <;> (first | rfl | trivial | (simp only [Int.natCast_add, eca]; done) | (simp only [Int.natCast_add, eca]; rfl) | (simp only [Int.natCast_add, eca]; trivial)))
    · rw [htm]
      intro x hx
      rcases List.mem_append.1 hx with hx | hx
      · exact hok x hx
      · rw [List.mem_singleton.1 hx]; exact hn
theorem rjoin_pt (xs : List Str) (n : Nat) (hn : n ≤ xs.length) (k : Option Nat) (hx : ∀ s ∈ xs, s.length ≤ 9223372036854775807) (hl : xs.length ≤ 140737488355328) : FnSpec Tryd.prog 25 [.one (.gsl (Strs xs) 0 n k)] [] (rJ (pJn (xs.take n))) [] := by
  have h := rjoin_p (xs.take n) k (fun s hs => hx s (List.mem_of_mem_take hs)) (by rw [List.length_take]; omega)
  refine h.pre ⟨?_, trivial⟩
  have e : (xs.take n).length = n := by rw [List.length_take]; omega
  have := cw_take (Strs xs) 0 n k n
  rw [Strs_take] at this
  show CW _ (.gsl (Strs (xs.take n)) 0 (xs.take n).length k)
  rw [e]
  exact this
end Go.Proofs.YtfkcolodbjonkaaDoor
