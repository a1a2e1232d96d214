/- Contracts of functions, told of values, on the way to NumberTexts. -/
import Derived.Test.YtfkcolodbjonkabDoorTyEb
import Derived.Test.YtfkcolodbjonkabDoorNb7Eb
-- NEWGO
-- PRUNE: cl_lendx cl_use cl_lend
namespace Go.Proofs.YtfkcolodbjonkabDoor
set_option linter.unusedVariables false
set_option linter.unusedSimpArgs false
open Go.Proofs.YtfkcolodbjonkabDoor.Sh
set_option maxRecDepth 20000
theorem rformat_spec (n : Int) (h : -9223372036854775808 ≤ n ∧ n ≤ 9223372036854775807) : FnSpec Tryd.prog 18 [i1 n] [] (rT (pFo n)) [] := by
  unfold pFo
  by_cases hm : n = 4611686018427387904
  · rw [if_pos hm]
    refine fnspec_of mixed TT_ok TT_cl ⟨fun _ => false, fun _ => [], 0, fun _ => false, fun _ => false⟩ Tryd.func18 rfl (by kernel_rfl) rfl 16 rfl [.tmp 2, .tmp 3] rfl ?_
    simp only [go_sem, Nat.reduceEqDiff, Nat.reduceAdd, Nat.reduceSub, Nat.reduceMul, Nat.reduceLT, Nat.reduceLeDiff, ↓reduceIte, reduceCtorEq, List.reduceReplicate, Int.cast_ofNat_Int, Int.reduceEq, Int.reduceLT, Int.reduceLE, decide_eq_true hm]
    repeat' (first
    | (apply fs_nil <;> (try simp only [go_sem, resV, resS, SV.ren, SV.renL, Cell.ren, St.tmF, St.hpF, idx, renO, Row.ren, evS, slot, lookR, Nat.reduceEqDiff, ↓reduceIte, reduceCtorEq, if_true, if_false, Option.getD_some, Option.getD_none, List.map_cons, List.map_nil, sLoad, readAt, readNeed, Ints_ren, Ints_length, Ints_getD, and_true, true_and, List.getD_cons_zero, List.getD_cons_succ]) <;> (try rfl)))
  rw [if_neg hm]
  by_cases h0 : n < 0
  · rw [if_pos (.inl h0)]
    refine fnspec_of mixed TT_ok TT_cl ⟨fun _ => false, fun _ => [], 0, fun _ => false, fun _ => false⟩ Tryd.func18 rfl (by kernel_rfl) rfl 16 rfl [.tmp 2, .tmp 3] rfl ?_
    simp only [go_sem, Nat.reduceEqDiff, Nat.reduceAdd, Nat.reduceSub, Nat.reduceMul, Nat.reduceLT, Nat.reduceLeDiff, ↓reduceIte, reduceCtorEq, List.reduceReplicate, Int.cast_ofNat_Int, Int.reduceEq, Int.reduceLT, Int.reduceLE, decide_eq_false hm, decide_eq_true h0]
    repeat' (first
    | (apply fs_nil <;> (try simp only [go_sem, resV, resS, SV.ren, SV.renL, Cell.ren, St.tmF, St.hpF, idx, renO, Row.ren, evS, slot, lookR, Nat.reduceEqDiff, ↓reduceIte, reduceCtorEq, if_true, if_false, Option.getD_some, Option.getD_none, List.map_cons, List.map_nil, sLoad, readAt, readNeed, Ints_ren, Ints_length, Ints_getD, and_true, true_and, List.getD_cons_zero, List.getD_cons_succ]) <;> (try rfl)))
  by_cases h1 : 1099511627776 < n
  · rw [if_pos (.inr h1)]
    refine fnspec_of mixed TT_ok TT_cl ⟨fun _ => false, fun _ => [], 0, fun _ => false, fun _ => false⟩ Tryd.func18 rfl (by kernel_rfl) rfl 16 rfl [.tmp 2, .tmp 3] rfl ?_
    simp only [go_sem, Nat.reduceEqDiff, Nat.reduceAdd, Nat.reduceSub, Nat.reduceMul, Nat.reduceLT, Nat.reduceLeDiff, ↓reduceIte, reduceCtorEq, List.reduceReplicate, Int.cast_ofNat_Int, Int.reduceEq, Int.reduceLT, Int.reduceLE, decide_eq_false hm, decide_eq_false h0, decide_eq_true h1]
    repeat' (first
    | (apply fs_nil <;> (try simp only [go_sem, resV, resS, SV.ren, SV.renL, Cell.ren, St.tmF, St.hpF, idx, renO, Row.ren, evS, slot, lookR, Nat.reduceEqDiff, ↓reduceIte, reduceCtorEq, if_true, if_false, Option.getD_some, Option.getD_none, List.map_cons, List.map_nil, sLoad, readAt, readNeed, Ints_ren, Ints_length, Ints_getD, and_true, true_and, List.getD_cons_zero, List.getD_cons_succ]) <;> (try rfl)))
  rw [if_neg (fun q => q.elim h0 h1)]
  obtain ⟨k, rfl⟩ : ∃ k : Nat, n = k := ⟨n.toNat, by omega⟩
  rw [Int.toNat_natCast]
  have hi := decimal_spec k (by omega)
  refine fnspec_of mixed TT_ok TT_cl ⟨fun _ => false, fun _ => [], 0, fun _ => false, fun _ => false⟩ Tryd.func18 rfl (by kernel_rfl) rfl 16 rfl [.tmp 2, .tmp 3] rfl ?_
  simp only [go_sem, Nat.reduceEqDiff, Nat.reduceAdd, Nat.reduceSub, Nat.reduceMul, Nat.reduceLT, Nat.reduceLeDiff, ↓reduceIte, reduceCtorEq, List.reduceReplicate, Int.cast_ofNat_Int, Int.reduceEq, Int.reduceLT, Int.reduceLE, decide_eq_false hm, decide_eq_false h0, decide_eq_false h1]
  repeat' (first
    | (apply cl_plain
       case hs => rfl
       case ha => (simp only [List.map_cons, List.map_nil, prepV, prepC, idx, hpL', lookR, Nat.reduceEqDiff, if_true, if_false]; rfl)
       case h => (first | exact hi ..))
    | ((first | refine s1_id ?_ | refine swp_id ?_ | refine sops_id ?_ | refine s2_id ?_); simp only [decide_eq_false hm, decide_eq_false h0, decide_eq_false h1, go_sem, Nat.reduceEqDiff, Nat.reduceAdd, Nat.reduceSub, Nat.reduceMul, Nat.reduceLT, Nat.reduceLeDiff, ↓reduceIte, reduceCtorEq, List.reduceReplicate, Int.cast_ofNat_Int, Int.reduceEq, Int.reduceLT, Int.reduceLE, SV.ren, SV.renL, Cell.ren, Row.ren, renO, bk, back, outUpsFrom, Ints_ren])
    | (apply fs_nil <;> (try simp only [go_sem, resV, resS, SV.ren, SV.renL, Cell.ren, St.tmF, St.hpF, idx, renO, Row.ren, evS, slot, lookR, Nat.reduceEqDiff, ↓reduceIte, reduceCtorEq, if_true, if_false, Option.getD_some, Option.getD_none, List.map_cons, List.map_nil, sLoad, readAt, readNeed, Ints_ren, Ints_length, Ints_getD, and_true, true_and, List.getD_cons_zero, List.getD_cons_succ]) <;> (try rfl)))
def pFh (n : Int) : Str × Int := if n < 0 ∨ 10000 < n then ([], 3) else if n = 10000 then ([109, 97, 120], 0) else (fm n.toNat, 0)
theorem fmtA_spec (n : Int) : FnSpec Tryd.prog 6 [i1 n] [] (rT (pFh n)) [] := by
  unfold pFh
  by_cases h0 : n < 0
  · rw [if_pos (.inl h0)]
    refine fnspec_of mixed TT_ok TT_cl ⟨fun _ => false, fun _ => [], 0, fun _ => false, fun _ => false⟩ Tryd.func6 rfl (by kernel_rfl) rfl 27 rfl [.tmp 2, .tmp 3] rfl ?_
    simp only [go_sem, Nat.reduceEqDiff, Nat.reduceAdd, Nat.reduceSub, Nat.reduceMul, Nat.reduceLT, Nat.reduceLeDiff, ↓reduceIte, reduceCtorEq, List.reduceReplicate, Int.cast_ofNat_Int, Int.reduceEq, Int.reduceLT, Int.reduceLE, decide_eq_true h0]
    repeat' (first
    | (apply fs_nil <;> (try simp only [go_sem, resV, resS, SV.ren, SV.renL, Cell.ren, St.tmF, St.hpF, idx, renO, Row.ren, evS, slot, lookR, Nat.reduceEqDiff, ↓reduceIte, reduceCtorEq, if_true, if_false, Option.getD_some, Option.getD_none, List.map_cons, List.map_nil, sLoad, readAt, readNeed, Ints_ren, Ints_length, Ints_getD, and_true, true_and, List.getD_cons_zero, List.getD_cons_succ]) <;> (try rfl)))
  by_cases h1 : 10000 < n
  · rw [if_pos (.inr h1)]
    refine fnspec_of mixed TT_ok TT_cl ⟨fun _ => false, fun _ => [], 0, fun _ => false, fun _ => false⟩ Tryd.func6 rfl (by kernel_rfl) rfl 27 rfl [.tmp 2, .tmp 3] rfl ?_
    simp only [go_sem, Nat.reduceEqDiff, Nat.reduceAdd, Nat.reduceSub, Nat.reduceMul, Nat.reduceLT, Nat.reduceLeDiff, ↓reduceIte, reduceCtorEq, List.reduceReplicate, Int.cast_ofNat_Int, Int.reduceEq, Int.reduceLT, Int.reduceLE, decide_eq_false h0, decide_eq_true h1]
    repeat' (first
    | (apply fs_nil <;> (try simp only [go_sem, resV, resS, SV.ren, SV.renL, Cell.ren, St.tmF, St.hpF, idx, renO, Row.ren, evS, slot, lookR, Nat.reduceEqDiff, ↓reduceIte, reduceCtorEq, if_true, if_false, Option.getD_some, Option.getD_none, List.map_cons, List.map_nil, sLoad, readAt, readNeed, Ints_ren, Ints_length, Ints_getD, and_true, true_and, List.getD_cons_zero, List.getD_cons_succ]) <;> (try rfl)))
  rw [if_neg (fun q => q.elim h0 h1)]
  by_cases hm : n = 10000
  · rw [if_pos hm, hm]; exact fmt_max
  rw [if_neg hm]
  obtain ⟨k, rfl⟩ : ∃ k : Nat, n = k := ⟨n.toNat, by omega⟩
  rw [Int.toNat_natCast]
  exact fmt_spec k (by omega)
theorem rfmtA_spec (n : Int) : FnSpec Tryd.prog 19 [i1 n] [] (rT (pFh n)) [] := by
  unfold pFh
  by_cases h0 : n < 0
  · rw [if_pos (.inl h0)]
    refine fnspec_of mixed TT_ok TT_cl ⟨fun _ => false, fun _ => [], 0, fun _ => false, fun _ => false⟩ Tryd.func19 rfl (by kernel_rfl) rfl 27 rfl [.tmp 2, .tmp 3] rfl ?_
    simp only [go_sem, Nat.reduceEqDiff, Nat.reduceAdd, Nat.reduceSub, Nat.reduceMul, Nat.reduceLT, Nat.reduceLeDiff, ↓reduceIte, reduceCtorEq, List.reduceReplicate, Int.cast_ofNat_Int, Int.reduceEq, Int.reduceLT, Int.reduceLE, decide_eq_true h0]
    repeat' (first
    | (apply fs_nil <;> (try simp only [go_sem, resV, resS, SV.ren, SV.renL, Cell.ren, St.tmF, St.hpF, idx, renO, Row.ren, evS, slot, lookR, Nat.reduceEqDiff, ↓reduceIte, reduceCtorEq, if_true, if_false, Option.getD_some, Option.getD_none, List.map_cons, List.map_nil, sLoad, readAt, readNeed, Ints_ren, Ints_length, Ints_getD, and_true, true_and, List.getD_cons_zero, List.getD_cons_succ]) <;> (try rfl)))
  by_cases h1 : 10000 < n
  · rw [if_pos (.inr h1)]
    refine fnspec_of mixed TT_ok TT_cl ⟨fun _ => false, fun _ => [], 0, fun _ => false, fun _ => false⟩ Tryd.func19 rfl (by kernel_rfl) rfl 27 rfl [.tmp 2, .tmp 3] rfl ?_
    simp only [go_sem, Nat.reduceEqDiff, Nat.reduceAdd, Nat.reduceSub, Nat.reduceMul, Nat.reduceLT, Nat.reduceLeDiff, ↓reduceIte, reduceCtorEq, List.reduceReplicate, Int.cast_ofNat_Int, Int.reduceEq, Int.reduceLT, Int.reduceLE, decide_eq_false h0, decide_eq_true h1]
    repeat' (first
    | (apply fs_nil <;> (try simp only [go_sem, resV, resS, SV.ren, SV.renL, Cell.ren, St.tmF, St.hpF, idx, renO, Row.ren, evS, slot, lookR, Nat.reduceEqDiff, ↓reduceIte, reduceCtorEq, if_true, if_false, Option.getD_some, Option.getD_none, List.map_cons, List.map_nil, sLoad, readAt, readNeed, Ints_ren, Ints_length, Ints_getD, and_true, true_and, List.getD_cons_zero, List.getD_cons_succ]) <;> (try rfl)))
  rw [if_neg (fun q => q.elim h0 h1)]
  by_cases hm : n = 10000
  · rw [if_pos hm]
    refine fnspec_of mixed TT_ok TT_cl ⟨fun _ => false, fun _ => [], 0, fun _ => false, fun _ => false⟩ Tryd.func19 rfl (by kernel_rfl) rfl 27 rfl [.tmp 2, .tmp 3] rfl ?_
    simp only [go_sem, Nat.reduceEqDiff, Nat.reduceAdd, Nat.reduceSub, Nat.reduceMul, Nat.reduceLT, Nat.reduceLeDiff, ↓reduceIte, reduceCtorEq, List.reduceReplicate, Int.cast_ofNat_Int, Int.reduceEq, Int.reduceLT, Int.reduceLE, decide_eq_false h0, decide_eq_false h1, decide_eq_true hm]
    repeat' (first
    | (apply fs_nil <;> (try simp only [go_sem, resV, resS, SV.ren, SV.renL, Cell.ren, St.tmF, St.hpF, idx, renO, Row.ren, evS, slot, lookR, Nat.reduceEqDiff, ↓reduceIte, reduceCtorEq, if_true, if_false, Option.getD_some, Option.getD_none, List.map_cons, List.map_nil, sLoad, readAt, readNeed, Ints_ren, Ints_length, Ints_getD, and_true, true_and, List.getD_cons_zero, List.getD_cons_succ]) <;> (try rfl)))
  rw [if_neg hm]
  obtain ⟨a, rfl⟩ : ∃ k : Nat, n = k := ⟨n.toNat, by omega⟩
  rw [Int.toNat_natCast]
  unfold fm
  rw [show a % 100 / 10 = a / 10 % 10 by omega, show a % 100 % 10 = a % 10 by omega]
  have k1 := decimal_spec (a / 100) (by omega)
  have k2 := decimal_spec (a / 10 % 10) (by omega)
  have k3 := decimal_spec (a % 10) (by omega)
  have l1 := dec_len (a / 100) (by omega)
  have l2 := dec_len (a / 10 % 10) (by omega)
  have l3 := dec_len (a % 10) (by omega)
  have e1 : (a : Int).tdiv 100 = ((a / 100 : Nat) : Int) := rfl
  have e2 : (a : Int).tdiv 10 = ((a / 10 : Nat) : Int) := rfl
  have e3 : ((a / 10 : Nat) : Int).tmod 10 = ((a / 10 % 10 : Nat) : Int) := rfl
  have e4 : (a : Int).tmod 10 = ((a % 10 : Nat) : Int) := rfl
  generalize dec (a / 100) = x at *
  generalize dec (a / 10 % 10) = y at *
  generalize dec (a % 10) = z at *
  refine fnspec_of mixed TT_ok TT_cl ⟨fun _ => false, fun _ => [], 0, fun _ => false, fun _ => false⟩ Tryd.func19 rfl (by kernel_rfl) rfl 27 rfl [.tmp 2, .tmp 3] rfl ?_
  simp only [go_sem, Nat.reduceEqDiff, Nat.reduceAdd, Nat.reduceSub, Nat.reduceMul, Nat.reduceLT, Nat.reduceLeDiff, ↓reduceIte, reduceCtorEq, List.reduceReplicate, Int.cast_ofNat_Int, Int.reduceEq, Int.reduceLT, Int.reduceLE, e1, e2, e3, e4, decide_eq_false h0, decide_eq_false h1, decide_eq_false hm]
  repeat' (first
    | with_reducible refine And.intro ?_ ?_
    | (intros; (try simp only [Bool.and_eq_true, Bool.or_eq_true, Bool.not_eq_true', Bool.not_eq_false', Bool.and_eq_false_iff, Bool.or_eq_false_iff, decide_eq_true_eq, decide_eq_false_iff_not] at *); omega)
    | (apply cl_plain
       case hs => rfl
       case ha => (simp only [List.map_cons, List.map_nil, prepV, prepC, idx, hpL', lookR, Nat.reduceEqDiff, if_true, if_false]; rfl)
       case h => (first | exact k1 .. | exact k2 .. | exact k3 ..))
    | ((first | refine s1_id ?_ | refine swp_id ?_ | refine sops_id ?_ | refine s2_id ?_); simp only [e1, e2, e3, e4, decide_eq_false h0, decide_eq_false h1, decide_eq_false hm, go_sem, Nat.reduceEqDiff, Nat.reduceAdd, Nat.reduceSub, Nat.reduceMul, Nat.reduceLT, Nat.reduceLeDiff, ↓reduceIte, reduceCtorEq, List.reduceReplicate, Int.cast_ofNat_Int, Int.reduceEq, Int.reduceLT, Int.reduceLE, SV.ren, SV.renL, Cell.ren, Row.ren, renO, bk, back, outUpsFrom, Ints_ren])
    | (apply fs_nil <;> (try simp only [go_sem, resV, resS, SV.ren, SV.renL, Cell.ren, St.tmF, St.hpF, idx, renO, Row.ren, evS, slot, lookR, Nat.reduceEqDiff, ↓reduceIte, reduceCtorEq, if_true, if_false, Option.getD_some, Option.getD_none, List.map_cons, List.map_nil, sLoad, readAt, readNeed, Ints_ren, Ints_length, Ints_getD, and_true, true_and, List.getD_cons_zero, List.getD_cons_succ]) <;> (try rfl)))
def it : Nat → Int → Int
  | 0, m => m
  | t + 1, m => it t (min (1024 * m) 1099511627777)
theorem pE_it (d : Str) (n u : Int) (t : Nat) (h : vR d = (n, true)) (hn : 0 ≤ n ∧ n ≤ 1099511627777) (hu : (u = 1 ∧ t = 0) ∨ (u = 1024 ∧ t = 1) ∨ (u = 1048576 ∧ t = 2) ∨ (u = 1073741824 ∧ t = 3) ∨ (u = 1099511627776 ∧ t = 4)) : pE d u = if 1099511627776 < it t n then (0, 3) else (it t n, 0) := by
  unfold pE
  rw [h]
  simp only [if_true]
  rcases hu with ⟨rfl, rfl⟩ | ⟨rfl, rfl⟩ | ⟨rfl, rfl⟩ | ⟨rfl, rfl⟩ | ⟨rfl, rfl⟩
  · rw [Int.tdiv_one, Int.mul_one]; rfl
  · rw [show (1099511627776 : Int).tdiv 1024 = 1073741824 by decide]
    have e : it 1 n = min (1024 * (n)) 1099511627777 := rfl
    generalize it 1 n = w at *
    by_cases c : 1073741824 < n
    · rw [if_pos c, if_pos (by omega)]
    · rw [if_neg c, if_neg (by omega)]; congr 1; omega
  · rw [show (1099511627776 : Int).tdiv 1048576 = 1048576 by decide]
    have e : it 2 n = min (1024 * (min (1024 * (n)) 1099511627777)) 1099511627777 := rfl
    generalize it 2 n = w at *
    by_cases c : 1048576 < n
    · rw [if_pos c, if_pos (by omega)]
    · rw [if_neg c, if_neg (by omega)]; congr 1; omega
  · rw [show (1099511627776 : Int).tdiv 1073741824 = 1024 by decide]
    have e : it 3 n = min (1024 * (min (1024 * (min (1024 * (n)) 1099511627777)) 1099511627777)) 1099511627777 := rfl
    generalize it 3 n = w at *
    by_cases c : 1024 < n
    · rw [if_pos c, if_pos (by omega)]
    · rw [if_neg c, if_neg (by omega)]; congr 1; omega
  · rw [show (1099511627776 : Int).tdiv 1099511627776 = 1 by decide]
    have e : it 4 n = min (1024 * (min (1024 * (min (1024 * (min (1024 * (n)) 1099511627777)) 1099511627777)) 1099511627777)) 1099511627777 := rfl
    generalize it 4 n = w at *
    by_cases c : 1 < n
    · rw [if_pos c, if_pos (by omega)]
    · rw [if_neg c, if_neg (by omega)]; congr 1; omega
theorem lst_at (s : Str) (k : Nat) (h : s.length = k + 1) : lst s = (s[k]?).getD 0 := by
  unfold lst
  rw [show ((s.length : Int) - 1).toNat = k by omega]
theorem pE_bad (d : Str) (u : Int) (h : (vR d).2 = false) : pE d u = (0, 2) := by
  unfold pE; rw [h]; rfl
theorem pPa_bad (s : Str) (hm : ¬ s = [109, 97, 120]) (h : dgN s = 0 ∨ dgN s + 1 < s.length ∨ (s.length = dgN s + 1 ∧ fac (lst s) = 0)) : pPa s = (0, 2) := by
  have hle := dgN_le s
  unfold pPa
  rw [if_neg hm]
  by_cases hc : 0 < (s.length : Int) ∧ 0 < fac (lst s)
  · rw [if_pos hc]
    have ek : ((s.length : Int) - 1).toNat = s.length - 1 := by omega
    rw [ek]
    refine pE_bad _ _ ?_
    by_cases hd : dgN s < s.length - 1
    · rw [vR_bad _ (by rw [dgN_take2 s _ hd, List.length_take]; omega)]
    · have h0 : dgN s = 0 := by
        rcases h with h | h | h
        · exact h
        · omega
        · rw [h.2] at hc; exact absurd hc.2 (by decide)
      have : s.length - 1 = 0 := by omega
      rw [this, List.take_zero, vR_nil]
  · rw [if_neg hc]
    refine pE_bad _ _ ?_
    by_cases hl : s.length = 0
    · rw [List.length_eq_zero_iff.1 hl, vR_nil]
    · rw [vR_bad s (by omega)]
theorem fac_dig (b : UInt8) (h : isD b) : fac b = 0 := by
  unfold fac
  obtain ⟨h1, h2⟩ := h
  rw [if_neg (by omega), if_neg (by omega), if_neg (by omega), if_neg (by omega)]
theorem pPa_dig (s : Str) (hm : ¬ s = [109, 97, 120]) (h0 : dgN s ≠ 0) (h : s.length = dgN s) : pPa s = pE s 1 := by
  unfold pPa
  have hf : fac (lst s) = 0 := by
    rw [lst_at s (dgN s - 1) (by omega)]
    have hb : s[dgN s - 1]? = some (s[dgN s - 1]'(by omega)) := List.getElem?_eq_getElem (by omega)
    rw [hb]
    exact fac_dig _ (dgN_at s _ _ (by omega) hb)
  rw [if_neg hm, hf, if_neg (fun q => absurd q.2 (by decide))]
theorem pPa_let (s : Str) (hm : ¬ s = [109, 97, 120]) (h : s.length = dgN s + 1) (hf : 0 < fac (lst s)) : pPa s = pE (s.take (dgN s)) (fac (lst s)) := by
  unfold pPa
  rw [if_neg hm, if_pos ⟨by omega, hf⟩, show ((s.length : Int) - 1).toNat = dgN s by omega]
theorem vR_dig (s : Str) (h0 : s.length ≠ 0) (h : dgN s = s.length) : ∃ n, vS s 0 = some n ∧ vR s = (n, true) ∧ 0 ≤ n ∧ n ≤ 1099511627777 := by
  obtain ⟨n, hn⟩ := vS_dig s 0 h
  have hr := vS_rng s 0 n ⟨Int.le_refl 0, by decide⟩ hn
  refine ⟨n, hn, ?_, hr.1, hr.2⟩
  unfold vR
  rw [hn]
  show (n, decide _) = _
  rw [decide_eq_true (by omega)]
end Go.Proofs.YtfkcolodbjonkabDoor
