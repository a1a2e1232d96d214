/- Contracts of functions, told of values, on the way to NamePaths. -/
import Derived.Test.YtfkcolodbjonkaaDoorTyEa
import Derived.Test.YtfkcolodbjonkaaDoorNa6Ea
-- NEWGO
-- PRUNE: cl_lendx cl_use cl_lend
-- ISG: Strs_isG
-- FLAT: Strs_flat
namespace Go.Proofs.YtfkcolodbjonkaaDoor
set_option linter.unusedVariables false
set_option linter.unusedSimpArgs false
open Go.Proofs.YtfkcolodbjonkaaDoor.Sh
set_option maxRecDepth 20000
def pJn (xs : List Str) : Str × Int := if chkP xs = 0 then (47 :: jn xs [47], 0) else ([], chkP xs)
abbrev rJ (x : Str × Int) : SV := .tup [s1 x.1, i1 x.2]
theorem nmOk_len (s : Str) (h : nmOk s = true) : s.length ≤ 32 := by
  unfold nmOk at h
  simp only [Bool.and_eq_true, decide_eq_true_eq] at h
  omega
theorem chk_ok (xs : List Str) (h : chkP xs = 0) : (∀ s ∈ xs, nmOk s = true) ∧ xs.length ≤ 8 := by
  unfold chkP at h
  cases ha : xs.any (fun s => !nmOk s) with
  | true => rw [ha, if_pos rfl] at h; cases h
  | false =>
    rw [ha, if_neg Bool.false_ne_true] at h
    refine ⟨fun s hs => ?_, ?_⟩
    · have := List.any_eq_false.1 ha s hs
      simpa using this
    · by_cases h8 : 8 < (xs.length : Int)
      · rw [if_pos h8] at h; cases h
      · omega
theorem lens_le (n : Nat) : ∀ xs : List Str, (∀ s ∈ xs, s.length ≤ n) → Lib.lens xs ≤ n * xs.length
  | [], _ => Nat.zero_le _
  | x :: xs, h => by
    have h1 := lens_le n xs fun s hs => h s (List.mem_cons_of_mem _ hs)
    have h2 := h x List.mem_cons_self
    have e : Lib.lens (x :: xs) = x.length + Lib.lens xs := by simp [Lib.lens]
    rw [e, List.length_cons, Nat.mul_succ]
    omega
theorem jn_len (xs : List Str) (h : chkP xs = 0) : (jn xs [47]).length ≤ 300 := by
  obtain ⟨h1, h2⟩ := chk_ok xs h
  have h3 := lens_le 32 xs fun s hs => nmOk_len s (h1 s hs)
  cases xs with
  | nil => exact Nat.zero_le _
  | cons x r =>
    unfold jn
    rw [Lib.join_length]
    simp only [List.length_cons, List.length_nil] at *
    omega
theorem join_p (xs : List Str) (k : Option Nat) (hx : ∀ s ∈ xs, s.length ≤ 9223372036854775807) (hl : xs.length ≤ 140737488355328) : FnSpec Tryd.prog 10 [gs xs k] [] (rJ (pJn xs)) [] := by
  have h1 := checkN_spec xs hx k (by omega)
  unfold pJn
  by_cases hc : chkP xs = 0
  · have h2 := join_spec xs [47] k hl (by have := jn_len xs hc; omega)
    have h3 := jn_len xs hc
    rw [if_pos hc]
    rw [hc] at h1
    refine fnspec_of mixed TT_ok TT_cl ⟨fun _ => false, fun _ => [], 0, fun _ => false, fun _ => false⟩ Tryd.func10 rfl (by kernel_rfl) rfl 13 rfl [.tmp 2, .tmp 3] rfl ?_
    simp only [go_sem, Nat.reduceEqDiff, Nat.reduceAdd, Nat.reduceSub, Nat.reduceMul, Nat.reduceLT, Nat.reduceLeDiff, ↓reduceIte, reduceCtorEq, List.reduceReplicate, Int.cast_ofNat_Int, Int.reduceEq, Int.reduceLT, Int.reduceLE]
    repeat' (first
    | with_reducible refine And.intro ?_ ?_
    | (intros; (try simp only [Bool.and_eq_true, Bool.or_eq_true, Bool.not_eq_true', Bool.not_eq_false', Bool.and_eq_false_iff, Bool.or_eq_false_iff, decide_eq_true_eq, decide_eq_false_iff_not] at *); omega)
    | (apply cl_plain
       case hs => rfl
       case ha => (simp only [List.map_cons, List.map_nil, prepV, prepC, idx, hpL', lookR, Nat.reduceEqDiff, if_true, if_false]; rfl)
       case h => (first | exact h1 .. | exact h2 ..))
    | ((first | refine s1_id ?_ | refine swp_id ?_ | refine sops_id ?_ | refine s2_id ?_); simp only [go_sem, Nat.reduceEqDiff, Nat.reduceAdd, Nat.reduceSub, Nat.reduceMul, Nat.reduceLT, Nat.reduceLeDiff, ↓reduceIte, reduceCtorEq, List.reduceReplicate, Int.cast_ofNat_Int, Int.reduceEq, Int.reduceLT, Int.reduceLE, SV.ren, SV.renL, Cell.ren, Row.ren, renO, bk, back, outUpsFrom, Ints_ren])
    | (apply fs_nil <;> (try simp only [go_sem, resV, resS, SV.ren, SV.renL, Cell.ren, St.tmF, St.hpF, idx, renO, Row.ren, evS, slot, lookR, Nat.reduceEqDiff, ↓reduceIte, reduceCtorEq, if_true, if_false, Option.getD_some, Option.getD_none, List.map_cons, List.map_nil, sLoad, readAt, readNeed, Ints_ren, Ints_length, Ints_getD, and_true, true_and, List.getD_cons_zero, List.getD_cons_succ]) <;> (try rfl)))
  · rw [if_neg hc]
    generalize chkP xs = e at *
    refine fnspec_of mixed TT_ok TT_cl ⟨fun _ => false, fun _ => [], 0, fun _ => false, fun _ => false⟩ Tryd.func10 rfl (by kernel_rfl) rfl 13 rfl [.tmp 2, .tmp 3] rfl ?_
    simp only [go_sem, Nat.reduceEqDiff, Nat.reduceAdd, Nat.reduceSub, Nat.reduceMul, Nat.reduceLT, Nat.reduceLeDiff, ↓reduceIte, reduceCtorEq, List.reduceReplicate, Int.cast_ofNat_Int, Int.reduceEq, Int.reduceLT, Int.reduceLE]
    repeat' (first
    | (apply cl_plain
       case hs => rfl
       case ha => (simp only [List.map_cons, List.map_nil, prepV, prepC, idx, hpL', lookR, Nat.reduceEqDiff, if_true, if_false]; rfl)
       case h => (first | exact h1 ..))
    | ((first | refine s1_id ?_ | refine swp_id ?_ | refine sops_id ?_ | refine s2_id ?_); simp only [decide_eq_false hc, go_sem, Nat.reduceEqDiff, Nat.reduceAdd, Nat.reduceSub, Nat.reduceMul, Nat.reduceLT, Nat.reduceLeDiff, ↓reduceIte, reduceCtorEq, List.reduceReplicate, Int.cast_ofNat_Int, Int.reduceEq, Int.reduceLT, Int.reduceLE, SV.ren, SV.renL, Cell.ren, Row.ren, renO, bk, back, outUpsFrom, Ints_ren])
    | (apply fs_nil <;> (try simp only [go_sem, resV, resS, SV.ren, SV.renL, Cell.ren, St.tmF, St.hpF, idx, renO, Row.ren, evS, slot, lookR, Nat.reduceEqDiff, ↓reduceIte, reduceCtorEq, if_true, if_false, Option.getD_some, Option.getD_none, List.map_cons, List.map_nil, sLoad, readAt, readNeed, Ints_ren, Ints_length, Ints_getD, and_true, true_and, List.getD_cons_zero, List.getD_cons_succ]) <;> (try rfl)))
theorem join_pt (xs : List Str) (n : Nat) (hn : n ≤ xs.length) (k : Option Nat) (hx : ∀ s ∈ xs, s.length ≤ 9223372036854775807) (hl : xs.length ≤ 140737488355328) : FnSpec Tryd.prog 10 [.one (.gsl (Strs xs) 0 n k)] [] (rJ (pJn (xs.take n))) [] := by
  have h := join_p (xs.take n) k (fun s hs => hx s (List.mem_of_mem_take hs)) (by rw [List.length_take]; omega)
  refine h.pre ⟨?_, trivial⟩
  have e : (xs.take n).length = n := by rw [List.length_take]; omega
  have := cw_take (Strs xs) 0 n k n
  rw [Strs_take] at this
  show CW _ (.gsl (Strs (xs.take n)) 0 (xs.take n).length k)
  rw [e]
  exact this
theorem pSp_ok (s : Str) : (∀ x ∈ (pSp s).1, nmOk x = true) ∧ (pSp s).1.length ≤ 8 := by
  unfold pSp
  by_cases ha : s.take 1 = [47]
  case neg => rw [if_neg ha]; exact ⟨fun x hx => (List.not_mem_nil hx).elim, Nat.zero_le _⟩
  rw [if_pos ha]
  by_cases hb : s = [47]
  · rw [if_pos hb]; exact ⟨fun x hx => (List.not_mem_nil hx).elim, Nat.zero_le _⟩
  rw [if_neg hb]
  by_cases hc : chkP (spl 47 (s.drop 1) []) = 0
  · rw [if_pos hc]; exact chk_ok _ hc
  · rw [if_neg hc]; exact ⟨fun x hx => (List.not_mem_nil hx).elim, Nat.zero_le _⟩
def pCm (a b : Str) : Str × Int :=
  if (pSp a).2 = 0 then if (pSp b).2 = 0 then pJn ((pSp a).1.take (alk (pSp a).1 (pSp b).1)) else ([], (pSp b).2) else ([], (pSp a).2)
theorem common_p (a b : Str) (ha : a.length ≤ 1000000) (hb : b.length ≤ 1000000) : FnSpec Tryd.prog 17 [s1 a, s1 b] [] (rJ (pCm a b)) [] := by
  have h1 := split_p a ha
  have h2 := split_p b hb
  have k1 := pSp_ok a
  have k2 := pSp_ok b
  unfold pCm
  generalize pSp a = u at *
  generalize pSp b = v at *
  obtain ⟨x, e⟩ := u
  obtain ⟨y, f⟩ := v
  simp only at k1 k2 ⊢
  by_cases he : e = 0
  case neg =>
    rw [if_neg he]
    refine fnspec_of mixed TT_ok TT_cl ⟨fun _ => false, fun _ => [], 0, fun _ => false, fun _ => false⟩ Tryd.func17 rfl (by kernel_rfl) rfl 33 rfl [.tmp 4, .tmp 5] rfl ?_
    simp only [go_sem, Nat.reduceEqDiff, Nat.reduceAdd, Nat.reduceSub, Nat.reduceMul, Nat.reduceLT, Nat.reduceLeDiff, ↓reduceIte, reduceCtorEq, List.reduceReplicate, Int.cast_ofNat_Int, Int.reduceEq, Int.reduceLT, Int.reduceLE]
    repeat' (first
    | (apply cl_plain
       case hs => rfl
       case ha => (simp only [List.map_cons, List.map_nil, prepV, prepC, idx, hpL', lookR, Nat.reduceEqDiff, if_true, if_false]; rfl)
       case h => (first | exact h1 ..))
    | ((first | refine s1_id ?_ | refine swp_id ?_ | refine sops_id ?_ | refine s2_id ?_); simp only [decide_eq_false he, go_sem, Nat.reduceEqDiff, Nat.reduceAdd, Nat.reduceSub, Nat.reduceMul, Nat.reduceLT, Nat.reduceLeDiff, ↓reduceIte, reduceCtorEq, List.reduceReplicate, Int.cast_ofNat_Int, Int.reduceEq, Int.reduceLT, Int.reduceLE, SV.ren, SV.renL, Cell.ren, Row.ren, renO, bk, back, outUpsFrom, Ints_ren])
    | (apply fs_nil <;> (try simp only [go_sem, resV, resS, SV.ren, SV.renL, Cell.ren, St.tmF, St.hpF, idx, renO, Row.ren, evS, slot, lookR, Nat.reduceEqDiff, ↓reduceIte, reduceCtorEq, if_true, if_false, Option.getD_some, Option.getD_none, List.map_cons, List.map_nil, sLoad, readAt, readNeed, Ints_ren, Ints_length, Ints_getD, and_true, true_and, List.getD_cons_zero, List.getD_cons_succ]) <;> (try rfl)))
  subst he
  rw [if_pos rfl]
  by_cases hf : f = 0
  case neg =>
    rw [if_neg hf]
    refine fnspec_of mixed TT_ok TT_cl ⟨fun _ => false, fun _ => [], 0, fun _ => false, fun _ => false⟩ Tryd.func17 rfl (by kernel_rfl) rfl 33 rfl [.tmp 4, .tmp 5] rfl ?_
    simp only [go_sem, Nat.reduceEqDiff, Nat.reduceAdd, Nat.reduceSub, Nat.reduceMul, Nat.reduceLT, Nat.reduceLeDiff, ↓reduceIte, reduceCtorEq, List.reduceReplicate, Int.cast_ofNat_Int, Int.reduceEq, Int.reduceLT, Int.reduceLE]
    repeat' (first
    | (apply cl_plain
       case hs => rfl
       case ha => (simp only [List.map_cons, List.map_nil, prepV, prepC, idx, hpL', lookR, Nat.reduceEqDiff, if_true, if_false]; rfl)
       case h => (first | exact h1 .. | exact h2 ..))
    | ((first | refine s1_id ?_ | refine swp_id ?_ | refine sops_id ?_ | refine s2_id ?_); simp only [decide_eq_false hf, go_sem, Nat.reduceEqDiff, Nat.reduceAdd, Nat.reduceSub, Nat.reduceMul, Nat.reduceLT, Nat.reduceLeDiff, ↓reduceIte, reduceCtorEq, List.reduceReplicate, Int.cast_ofNat_Int, Int.reduceEq, Int.reduceLT, Int.reduceLE, SV.ren, SV.renL, Cell.ren, Row.ren, renO, bk, back, outUpsFrom, Ints_ren])
    | (apply fs_nil <;> (try simp only [go_sem, resV, resS, SV.ren, SV.renL, Cell.ren, St.tmF, St.hpF, idx, renO, Row.ren, evS, slot, lookR, Nat.reduceEqDiff, ↓reduceIte, reduceCtorEq, if_true, if_false, Option.getD_some, Option.getD_none, List.map_cons, List.map_nil, sLoad, readAt, readNeed, Ints_ren, Ints_length, Ints_getD, and_true, true_and, List.getD_cons_zero, List.getD_cons_succ]) <;> (try rfl)))
  subst hf
  rw [if_pos rfl]
  have h3 := alike_spec x y none none (by omega) (by omega)
  have h4 := join_pt x (alk x y) (alk_le x y).1 none (fun s hs => by have := nmOk_len s (k1.1 s hs); omega) (by omega)
  have h5 := (alk_le x y).1
  generalize alk x y = n at *
  generalize pJn (x.take n) = r at *
  have h6 : (n : Int) ≤ (x.length : Int) := by omega
  refine fnspec_of mixed TT_ok TT_cl ⟨fun _ => false, fun _ => [], 0, fun _ => false, fun _ => false⟩ Tryd.func17 rfl (by kernel_rfl) rfl 33 rfl [.tmp 4, .tmp 5] rfl ?_
  simp only [go_sem, Nat.reduceEqDiff, Nat.reduceAdd, Nat.reduceSub, Nat.reduceMul, Nat.reduceLT, Nat.reduceLeDiff, ↓reduceIte, reduceCtorEq, List.reduceReplicate, Int.cast_ofNat_Int, Int.reduceEq, Int.reduceLT, Int.reduceLE]
  repeat' (first
    | with_reducible refine And.intro ?_ ?_
    | (intros; (try simp only [Bool.and_eq_true, Bool.or_eq_true, Bool.not_eq_true', Bool.not_eq_false', Bool.and_eq_false_iff, Bool.or_eq_false_iff, decide_eq_true_eq, decide_eq_false_iff_not] at *); omega)
    | (apply cl_plain
       case hs => rfl
       case ha => (simp only [List.map_cons, List.map_nil, prepV, prepC, idx, hpL', lookR, Nat.reduceEqDiff, if_true, if_false]; rfl)
       case h => (first | exact h1 .. | exact h2 .. | exact h3 .. | exact h4 ..))
    | ((first | refine s1_id ?_ | refine swp_id ?_ | refine sops_id ?_ | refine s2_id ?_); simp only [go_sem, Nat.reduceEqDiff, Nat.reduceAdd, Nat.reduceSub, Nat.reduceMul, Nat.reduceLT, Nat.reduceLeDiff, ↓reduceIte, reduceCtorEq, List.reduceReplicate, Int.cast_ofNat_Int, Int.reduceEq, Int.reduceLT, Int.reduceLE, SV.ren, SV.renL, Cell.ren, Row.ren, renO, bk, back, outUpsFrom, Ints_ren])
    | (apply fs_nil <;> (try simp only [go_sem, resV, resS, SV.ren, SV.renL, Cell.ren, St.tmF, St.hpF, idx, renO, Row.ren, evS, slot, lookR, Nat.reduceEqDiff, ↓reduceIte, reduceCtorEq, if_true, if_false, Option.getD_some, Option.getD_none, List.map_cons, List.map_nil, sLoad, readAt, readNeed, Ints_ren, Ints_length, Ints_getD, and_true, true_and, List.getD_cons_zero, List.getD_cons_succ]) <;> (try rfl)))
end Go.Proofs.YtfkcolodbjonkaaDoor
