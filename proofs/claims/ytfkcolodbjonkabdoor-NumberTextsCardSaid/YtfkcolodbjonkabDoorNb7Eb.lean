/- Contracts of functions, told of values, on the way to NumberTexts. -/
import Derived.Test.YtfkcolodbjonkabDoorTyEb
import Derived.Test.YtfkcolodbjonkabDoorNb6Eb
-- NEWGO
-- PRUNE: cl_lendx cl_use cl_lend
namespace Go.Proofs.YtfkcolodbjonkabDoor
set_option linter.unusedVariables false
set_option linter.unusedSimpArgs false
open Go.Proofs.YtfkcolodbjonkabDoor.Sh
set_option maxRecDepth 20000
abbrev isD (b : UInt8) : Prop := 48 ≤ (b.toNat : Int) ∧ (b.toNat : Int) ≤ 57
def dgN : Str → Nat
  | [] => 0
  | b :: r => if isD b then dgN r + 1 else 0
theorem dgN_le : ∀ s, dgN s ≤ s.length
  | [] => Nat.le_refl _
  | b :: r => by
    have := dgN_le r
    unfold dgN
    split
    · rw [List.length_cons]; omega
    · exact Nat.zero_le _
theorem dgN_at : ∀ (s : Str) (i : Nat) (b : UInt8), i < dgN s → s[i]? = some b → isD b
  | [], i, b, h, _ => absurd h (by show ¬ i < 0; omega)
  | c :: r, i, b, h, hb => by
    unfold dgN at h
    by_cases hc : isD c
    · cases i with
      | zero => cases hb; exact hc
      | succ i => rw [if_pos hc] at h; exact dgN_at r i b (by omega) hb
    · rw [if_neg hc] at h; omega
theorem dgN_end : ∀ (s : Str) (b : UInt8), s[dgN s]? = some b → ¬ isD b
  | [], b, h => by cases h
  | c :: r, b, h => by
    unfold dgN at h
    by_cases hc : isD c
    · rw [if_pos hc, List.getElem?_cons_succ] at h
      exact dgN_end r b h
    · rw [if_neg hc] at h
      cases h; exact hc
set_option maxHeartbeats 4000000 in
theorem digits_spec (s : Str) (hs : s.length ≤ 9223372036854775807) : FnSpec Tryd.prog 24 [s1 s] [] (i1 (dgN s)) [] := by
  have hle := dgN_le s
  refine fnspec_of mixed TT_ok TT_cl ⟨fun _ => false, fun _ => [], 0, fun _ => false, fun _ => false⟩ Tryd.func24 rfl (by kernel_rfl) rfl 23 rfl [.tmp 2] rfl ?_
  simp only [go_sem, Nat.reduceEqDiff, Nat.reduceAdd, Nat.reduceSub, Nat.reduceMul, Nat.reduceLT, Nat.reduceLeDiff, ↓reduceIte, reduceCtorEq, List.reduceReplicate, Int.cast_ofNat_Int, Int.reduceEq, Int.reduceLT, Int.reduceLE]
  repeat' (first
    | ((first | refine s1_id ?_ | refine swp_id ?_ | refine sops_id ?_ | refine s2_id ?_); simp only [go_sem, Nat.reduceEqDiff, Nat.reduceAdd, Nat.reduceSub, Nat.reduceMul, Nat.reduceLT, Nat.reduceLeDiff, ↓reduceIte, reduceCtorEq, List.reduceReplicate, Int.cast_ofNat_Int, Int.reduceEq, Int.reduceLT, Int.reduceLE, SV.ren, SV.renL, Cell.ren, Row.ren, renO, bk, back, outUpsFrom, Ints_ren]))
  refine w_loop (ι := Nat) (fun i => ⟨[(0, s1 s), (3, i1 i)], [], 0⟩) (fun i => i ≤ dgN s) (fun i => s.length - i) 0 ?_ (Nat.zero_le _) ?_
  · (refine imp_sub _ _ _ [] (by simp) (by simp) (by simp) (Nat.zero_le _) ?_ rfl (by simp); simp only [List.forall_mem_cons, List.not_mem_nil, false_implies, implies_true, and_true, lk, slot, SV.ren, Cell.ren, Nat.reduceEqDiff, if_true, if_false, ↓reduceIte, reduceCtorEq])
    all_goals ((repeat' apply And.intro) <;> (first | rfl | trivial))
  intro i hi
  simp only at hi ⊢
  rcases Nat.lt_or_ge i s.length with hlt | hge
  case inr =>
    have hlt' : ¬ (i : Int) < (s.length : Int) := by omega
    have e : i = dgN s := by omega
    rw [← e]
    simp only [go_sem, Nat.reduceEqDiff, Nat.reduceAdd, Nat.reduceSub, Nat.reduceMul, Nat.reduceLT, Nat.reduceLeDiff, ↓reduceIte, reduceCtorEq, List.reduceReplicate, Int.cast_ofNat_Int, Int.reduceEq, Int.reduceLT, Int.reduceLE, decide_eq_false hlt']
    repeat' (first
    | (apply fs_nil <;> (try simp only [go_sem, resV, resS, SV.ren, SV.renL, Cell.ren, St.tmF, St.hpF, idx, renO, Row.ren, evS, slot, lookR, Nat.reduceEqDiff, ↓reduceIte, reduceCtorEq, if_true, if_false, Option.getD_some, Option.getD_none, List.map_cons, List.map_nil, sLoad, readAt, readNeed, Ints_ren, Ints_length, Ints_getD, and_true, true_and, List.getD_cons_zero, List.getD_cons_succ]) <;> (try rfl)))
  have hlt' : (i : Int) < (s.length : Int) := by omega
  obtain ⟨b, hb⟩ : ∃ b, s[i]? = some b := ⟨_, List.getElem?_eq_getElem hlt⟩
  rcases Nat.lt_or_ge i (dgN s) with hd | hd
  · obtain ⟨h1, h2⟩ := dgN_at s i b hd hb
    simp only [go_sem, Nat.reduceEqDiff, Nat.reduceAdd, Nat.reduceSub, Nat.reduceMul, Nat.reduceLT, Nat.reduceLeDiff, ↓reduceIte, reduceCtorEq, List.reduceReplicate, Int.cast_ofNat_Int, Int.reduceEq, Int.reduceLT, Int.reduceLE, decide_eq_true hlt', hb, decide_eq_true h1, decide_eq_true h2]
    repeat' (first
    | with_reducible refine And.intro ?_ ?_
    | (intros; (try simp only [Bool.and_eq_true, Bool.or_eq_true, Bool.not_eq_true', Bool.not_eq_false', Bool.and_eq_false_iff, Bool.or_eq_false_iff, decide_eq_true_eq, decide_eq_false_iff_not] at *); omega)
    | ((first | refine s1_id ?_ | refine swp_id ?_ | refine sops_id ?_ | refine s2_id ?_); simp only [decide_eq_true hlt', hb, decide_eq_true h1, decide_eq_true h2, go_sem, Nat.reduceEqDiff, Nat.reduceAdd, Nat.reduceSub, Nat.reduceMul, Nat.reduceLT, Nat.reduceLeDiff, ↓reduceIte, reduceCtorEq, List.reduceReplicate, Int.cast_ofNat_Int, Int.reduceEq, Int.reduceLT, Int.reduceLE, SV.ren, SV.renL, Cell.ren, Row.ren, renO, bk, back, outUpsFrom, Ints_ren]))
    refine le_mk (i + 1) ?_ (by omega) (by omega)
    (refine imp_sub _ _ _ [] (by simp) (by simp) (by simp) (Nat.zero_le _) ?_ rfl (by simp); simp only [List.forall_mem_cons, List.not_mem_nil, false_implies, implies_true, and_true, lk, slot, SV.ren, Cell.ren, Nat.reduceEqDiff, if_true, if_false, ↓reduceIte, reduceCtorEq])
    all_goals ((repeat' apply And.intro) <;> (first | rfl | trivial | (simp only [Int.natCast_add]; done) | (simp only [Int.natCast_add]; rfl) | (simp only [Int.natCast_add]; trivial)))
  · have e : i = dgN s := by omega
    have hne := dgN_end s b (by rw [← e]; exact hb)
    rw [← e]
    by_cases h1 : 48 ≤ (b.toNat : Int)
    · have h2 : ¬ (b.toNat : Int) ≤ 57 := fun q => hne ⟨h1, q⟩
      simp only [go_sem, Nat.reduceEqDiff, Nat.reduceAdd, Nat.reduceSub, Nat.reduceMul, Nat.reduceLT, Nat.reduceLeDiff, ↓reduceIte, reduceCtorEq, List.reduceReplicate, Int.cast_ofNat_Int, Int.reduceEq, Int.reduceLT, Int.reduceLE, decide_eq_true hlt', hb, decide_eq_true h1, decide_eq_false h2]
      repeat' (first
    | with_reducible refine And.intro ?_ ?_
    | (intros; (try simp only [Bool.and_eq_true, Bool.or_eq_true, Bool.not_eq_true', Bool.not_eq_false', Bool.and_eq_false_iff, Bool.or_eq_false_iff, decide_eq_true_eq, decide_eq_false_iff_not] at *); omega)
    | (apply fs_nil <;> (try simp only [go_sem, resV, resS, SV.ren, SV.renL, Cell.ren, St.tmF, St.hpF, idx, renO, Row.ren, evS, slot, lookR, Nat.reduceEqDiff, ↓reduceIte, reduceCtorEq, if_true, if_false, Option.getD_some, Option.getD_none, List.map_cons, List.map_nil, sLoad, readAt, readNeed, Ints_ren, Ints_length, Ints_getD, and_true, true_and, List.getD_cons_zero, List.getD_cons_succ]) <;> (try rfl)))
    · simp only [go_sem, Nat.reduceEqDiff, Nat.reduceAdd, Nat.reduceSub, Nat.reduceMul, Nat.reduceLT, Nat.reduceLeDiff, ↓reduceIte, reduceCtorEq, List.reduceReplicate, Int.cast_ofNat_Int, Int.reduceEq, Int.reduceLT, Int.reduceLE, decide_eq_true hlt', hb, decide_eq_false h1]
      repeat' (first
    | with_reducible refine And.intro ?_ ?_
    | (intros; (try simp only [Bool.and_eq_true, Bool.or_eq_true, Bool.not_eq_true', Bool.not_eq_false', Bool.and_eq_false_iff, Bool.or_eq_false_iff, decide_eq_true_eq, decide_eq_false_iff_not] at *); omega)
    | (apply fs_nil <;> (try simp only [go_sem, resV, resS, SV.ren, SV.renL, Cell.ren, St.tmF, St.hpF, idx, renO, Row.ren, evS, slot, lookR, Nat.reduceEqDiff, ↓reduceIte, reduceCtorEq, if_true, if_false, Option.getD_some, Option.getD_none, List.map_cons, List.map_nil, sLoad, readAt, readNeed, Ints_ren, Ints_length, Ints_getD, and_true, true_and, List.getD_cons_zero, List.getD_cons_succ]) <;> (try rfl)))
set_option maxHeartbeats 4000000 in
theorem rvalue_spec (s : Str) (hs : s.length ≤ 9223372036854775807) (m : Int) (hm : vS s 0 = some m) : FnSpec Tryd.prog 25 [s1 s] [] (i1 m) [] := by
  refine fnspec_of mixed TT_ok TT_cl ⟨fun _ => false, fun _ => [], 0, fun _ => false, fun _ => false⟩ Tryd.func25 rfl (by kernel_rfl) rfl 21 rfl [.tmp 2] rfl ?_
  simp only [go_sem, Nat.reduceEqDiff, Nat.reduceAdd, Nat.reduceSub, Nat.reduceMul, Nat.reduceLT, Nat.reduceLeDiff, ↓reduceIte, reduceCtorEq, List.reduceReplicate, Int.cast_ofNat_Int, Int.reduceEq, Int.reduceLT, Int.reduceLE]
  repeat' (first
    | ((first | refine s1_id ?_ | refine swp_id ?_ | refine sops_id ?_ | refine s2_id ?_); simp only [go_sem, Nat.reduceEqDiff, Nat.reduceAdd, Nat.reduceSub, Nat.reduceMul, Nat.reduceLT, Nat.reduceLeDiff, ↓reduceIte, reduceCtorEq, List.reduceReplicate, Int.cast_ofNat_Int, Int.reduceEq, Int.reduceLT, Int.reduceLE, SV.ren, SV.renL, Cell.ren, Row.ren, renO, bk, back, outUpsFrom, Ints_ren]))
  refine w_loop (ι := Nat × Int) (fun p => ⟨[(0, s1 s), (3, i1 p.2), (4, i1 p.1)], [], 0⟩) (fun p => p.1 ≤ s.length ∧ (0 ≤ p.2 ∧ p.2 ≤ 1099511627777) ∧ vS (s.drop p.1) p.2 = some m) (fun p => s.length - p.1) (0, 0) ?_ ⟨Nat.zero_le _, ⟨Int.le_refl 0, by decide⟩, hm⟩ ?_
  · (refine imp_sub _ _ _ [] (by simp) (by simp) (by simp) (Nat.zero_le _) ?_ rfl (by simp); simp only [List.forall_mem_cons, List.not_mem_nil, false_implies, implies_true, and_true, lk, slot, SV.ren, Cell.ren, Nat.reduceEqDiff, if_true, if_false, ↓reduceIte, reduceCtorEq])
    all_goals ((repeat' apply And.intro) <;> (first | rfl | trivial))
  rintro ⟨i, n⟩ ⟨hi, hn, he⟩
  simp only at hi hn he ⊢
  rcases Nat.lt_or_ge i s.length with hlt | hge
  case inr =>
    have hlt' : ¬ (i : Int) < (s.length : Int) := by omega
    rw [List.drop_of_length_le hge] at he
    have e : n = m := by cases he; rfl
    subst e
    simp only [go_sem, Nat.reduceEqDiff, Nat.reduceAdd, Nat.reduceSub, Nat.reduceMul, Nat.reduceLT, Nat.reduceLeDiff, ↓reduceIte, reduceCtorEq, List.reduceReplicate, Int.cast_ofNat_Int, Int.reduceEq, Int.reduceLT, Int.reduceLE, decide_eq_false hlt']
    repeat' (first
    | (apply fs_nil <;> (try simp only [go_sem, resV, resS, SV.ren, SV.renL, Cell.ren, St.tmF, St.hpF, idx, renO, Row.ren, evS, slot, lookR, Nat.reduceEqDiff, ↓reduceIte, reduceCtorEq, if_true, if_false, Option.getD_some, Option.getD_none, List.map_cons, List.map_nil, sLoad, readAt, readNeed, Ints_ren, Ints_length, Ints_getD, and_true, true_and, List.getD_cons_zero, List.getD_cons_succ]) <;> (try rfl)))
  have hlt' : (i : Int) < (s.length : Int) := by omega
  obtain ⟨b, hb⟩ : ∃ b, s[i]? = some b := ⟨_, List.getElem?_eq_getElem hlt⟩
  rw [drop_at s i b hb, vS] at he
  by_cases hd : 48 ≤ (b.toNat : Int) ∧ (b.toNat : Int) ≤ 57
  case neg => rw [if_neg hd] at he; cases he
  rw [if_pos hd] at he
  have em : (if 1099511627777 < 10 * n + ((b.toNat : Int) - 48) then 1099511627777 else 10 * n + ((b.toNat : Int) - 48)) = min (10 * n + ((b.toNat : Int) - 48)) 1099511627777 := by
    split <;> omega
  have q8 : inR .u8 ((b.toNat : Int) - 48) = True := eq_true (show (0 : Int) ≤ _ ∧ _ ≤ (255 : Int) by omega)
  simp only [go_sem, Nat.reduceEqDiff, Nat.reduceAdd, Nat.reduceSub, Nat.reduceMul, Nat.reduceLT, Nat.reduceLeDiff, ↓reduceIte, reduceCtorEq, List.reduceReplicate, Int.cast_ofNat_Int, Int.reduceEq, Int.reduceLT, Int.reduceLE, decide_eq_true hlt', hb, em, q8]
  repeat' (first
    | with_reducible refine And.intro ?_ ?_
    | (intros; (try simp only [Bool.and_eq_true, Bool.or_eq_true, Bool.not_eq_true', Bool.not_eq_false', Bool.and_eq_false_iff, Bool.or_eq_false_iff, decide_eq_true_eq, decide_eq_false_iff_not] at *); omega)
    | ((first | refine s1_id ?_ | refine swp_id ?_ | refine sops_id ?_ | refine s2_id ?_); simp only [decide_eq_true hlt', hb, em, q8, go_sem, Nat.reduceEqDiff, Nat.reduceAdd, Nat.reduceSub, Nat.reduceMul, Nat.reduceLT, Nat.reduceLeDiff, ↓reduceIte, reduceCtorEq, List.reduceReplicate, Int.cast_ofNat_Int, Int.reduceEq, Int.reduceLT, Int.reduceLE, SV.ren, SV.renL, Cell.ren, Row.ren, renO, bk, back, outUpsFrom, Ints_ren]))
  refine le_mk (i + 1, min (10 * n + ((b.toNat : Int) - 48)) 1099511627777) ?_ ⟨by show i + 1 ≤ s.length; omega, by show 0 ≤ min _ _ ∧ min _ _ ≤ _; omega, he⟩ (by show s.length - (i + 1) < s.length - i; omega)
  (refine imp_sub _ _ _ [] (by simp) (by simp) (by simp) (Nat.zero_le _) ?_ rfl (by simp); simp only [List.forall_mem_cons, List.not_mem_nil, false_implies, implies_true, and_true, lk, slot, SV.ren, Cell.ren, Nat.reduceEqDiff, if_true, if_false, ↓reduceIte, reduceCtorEq])
  all_goals ((repeat' apply And.intro) <;> (first | rfl | trivial | (simp only [Int.natCast_add]; done) | (simp only [Int.natCast_add]; rfl) | (simp only [Int.natCast_add]; trivial)))
theorem vS_dig : ∀ (s : Str) (n : Int), dgN s = s.length → ∃ m, vS s n = some m
  | [], n, _ => ⟨n, rfl⟩
  | b :: r, n, h => by
    unfold dgN at h
    by_cases hb : isD b
    · rw [if_pos hb, List.length_cons] at h
      obtain ⟨m, hm⟩ := vS_dig r (min (10 * n + ((b.toNat : Int) - 48)) 1099511627777) (by omega)
      exact ⟨m, by rw [vS, if_pos hb, hm]⟩
    · rw [if_neg hb, List.length_cons] at h; omega
theorem vS_bad : ∀ (s : Str) (n : Int), dgN s < s.length → vS s n = none
  | [], n, h => absurd h (by show ¬ 0 < 0; omega)
  | b :: r, n, h => by
    unfold dgN at h
    by_cases hb : isD b
    · rw [if_pos hb, List.length_cons] at h
      rw [vS, if_pos hb, vS_bad r _ (by omega)]
    · rw [vS, if_neg hb]
theorem dgN_take : ∀ (s : Str) (k : Nat), k ≤ dgN s → dgN (s.take k) = k
  | [], k, h => by
    have : k = 0 := by have : k ≤ 0 := h; omega
    subst this; rfl
  | b :: r, 0, _ => rfl
  | b :: r, k + 1, h => by
    unfold dgN at h
    by_cases hb : isD b
    · rw [if_pos hb] at h
      rw [List.take_succ_cons, dgN, if_pos hb, dgN_take r k (by omega)]
    · rw [if_neg hb] at h; omega
theorem dgN_take2 : ∀ (s : Str) (k : Nat), dgN s < k → dgN (s.take k) = dgN s
  | [], k, h => by simp
  | b :: r, 0, h => absurd h (by omega)
  | b :: r, k + 1, h => by
    unfold dgN at h
    rw [List.take_succ_cons]
    by_cases hb : isD b
    · rw [if_pos hb] at h
      rw [dgN, dgN, if_pos hb, if_pos hb, dgN_take2 r k (by omega)]
    · rw [dgN, dgN, if_neg hb, if_neg hb]
theorem vR_bad (s : Str) (h : dgN s < s.length) : vR s = (0, false) := by
  unfold vR; rw [vS_bad s 0 h]
theorem vR_nil : vR [] = (0, false) := by unfold vR; rfl
end Go.Proofs.YtfkcolodbjonkabDoor
