/- Contracts of functions, told of values, on the way to NameLattice. -/
import Derived.Test.YtfkcolodbjonkaaDoorTyEa
import Derived.Test.YtfkcolodbjonkaaDoorNaBEa
-- NEWGO
-- PRUNE: cl_lendx cl_use
-- ISG: Strs_isG
-- FLAT: Strs_flat
namespace Go.Proofs.YtfkcolodbjonkaaDoor
set_option linter.unusedVariables false
set_option linter.unusedSimpArgs false
open Go.Proofs.YtfkcolodbjonkaaDoor.Sh
set_option maxRecDepth 20000
theorem alk_comm : ∀ a b : List Str, alk a b = alk b a
  | [], [] => rfl
  | [], _ :: _ => rfl
  | _ :: _, [] => rfl
  | a :: x, b :: y => by
    unfold alk
    by_cases h : a = b
    · rw [if_pos h, if_pos h.symm, alk_comm x y]
    · rw [if_neg h, if_neg (fun q => h q.symm)]
theorem alk_take : ∀ a b : List Str, a.take (alk a b) = b.take (alk a b)
  | [], [] => rfl
  | [], _ :: _ => rfl
  | _ :: _, [] => rfl
  | a :: x, b :: y => by
    unfold alk
    by_cases h : a = b
    · rw [if_pos h, List.take_succ_cons, List.take_succ_cons, alk_take x y, h]
    · rw [if_neg h]; rfl
theorem alk_full : ∀ p a : List Str, alk p a = p.length ↔ p <+: a
  | [], a => ⟨fun _ => List.nil_prefix, fun _ => by cases a <;> rfl⟩
  | p :: x, [] => ⟨fun (h : 0 = _) => (by cases h), fun h => (by have := h.length_le; simp at this)⟩
  | p :: x, a :: y => by
    unfold alk
    by_cases h : p = a
    · subst h
      rw [if_pos rfl, List.length_cons, List.cons_prefix_cons]
      have := alk_full x y
      constructor
      · intro q; exact ⟨rfl, this.1 (by omega)⟩
      · intro q; have := this.2 q.2; omega
    · rw [if_neg h, List.length_cons]
      constructor
      · intro q; omega
      · intro q; exact absurd (List.cons_prefix_cons.1 q).1 h
theorem alk_most : ∀ p a b : List Str, p <+: a → p <+: b → p <+: a.take (alk a b)
  | [], a, b, _, _ => List.nil_prefix
  | p :: x, [], _, h, _ => (by have := h.length_le; simp at this)
  | p :: x, _ :: _, [], _, h => (by have := h.length_le; simp at this)
  | p :: x, a :: y, b :: z, h1, h2 => by
    obtain ⟨e1, q1⟩ := List.cons_prefix_cons.1 h1
    obtain ⟨e2, q2⟩ := List.cons_prefix_cons.1 h2
    subst e1; subst e2
    unfold alk
    rw [if_pos rfl, List.take_succ_cons, List.cons_prefix_cons]
    exact ⟨rfl, alk_most x y z q1 q2⟩
theorem pUn_iff (a b : Str) : pUn a b = true ↔ (pSp a).2 = 0 ∧ (pSp b).2 = 0 ∧ (pSp a).1 <+: (pSp b).1 := by
  unfold pUn
  rw [Bool.and_eq_true, Bool.and_eq_true, decide_eq_true_eq, decide_eq_true_eq, decide_eq_true_eq, ← alk_full]
  constructor
  · intro h; exact ⟨h.1, h.2.1, by omega⟩
  · intro h; exact ⟨h.1, h.2.1, by omega⟩
theorem spl_run (c : UInt8) (s : Str) : ∀ x w, c ∉ x → spl c (x ++ s) w = spl c s (w ++ x)
  | [], w, _ => by rw [List.nil_append, List.append_nil]
  | b :: r, w, h => by
    rw [List.cons_append, spl_cons, if_neg (fun e => h (by rw [e]; exact List.mem_cons_self)), spl_run c s r (w ++ [b]) (fun e => h (List.mem_cons_of_mem _ e)), List.append_assoc, List.singleton_append]
theorem spl_jn (c : UInt8) : ∀ xs : List Str, xs ≠ [] → (∀ x ∈ xs, c ∉ x) → spl c (jn xs [c]) [] = xs
  | [], h, _ => absurd rfl h
  | [x], _, h => by
    have e : jn [x] [c] = x ++ [] := by rw [List.append_nil]; exact Lib.join_one _ _
    rw [e, spl_run c [] x [] (h x List.mem_cons_self)]
    rfl
  | x :: y :: r, _, h => by
    rw [jn_cons _ _ _ (by simp), spl_run c _ x [] (h x List.mem_cons_self), spl_cons, if_pos rfl, spl_jn c (y :: r) (by simp) (fun z hz => h z (List.mem_cons_of_mem _ hz))]
    rfl
theorem nmOk_47 (s : Str) (h : nmOk s = true) : (47 : UInt8) ∉ s := by
  unfold nmOk at h
  simp only [Bool.and_eq_true] at h
  intro hm
  have := List.all_eq_true.1 h.2 _ hm
  revert this; decide
theorem nmOk_ne (s : Str) (h : nmOk s = true) : s ≠ [] := by
  intro e; subst e; revert h; decide
theorem jn_nil (xs : List Str) (h : ∀ x ∈ xs, x ≠ []) (he : jn xs [47] = []) : xs = [] := by
  cases xs with
  | nil => rfl
  | cons x r =>
    have h1 := h x List.mem_cons_self
    have : jn (x :: r) [47] = x ++ Lib.joinTail [47] r := Lib.join_cons _ _ _
    rw [this] at he
    exact absurd (List.append_eq_nil_iff.1 he).1 h1
theorem fore (xs : List Str) (h : chkP xs = 0) : pSp (47 :: jn xs [47]) = (xs, 0) := by
  obtain ⟨h1, h2⟩ := chk_ok xs h
  unfold pSp
  rw [if_pos (show (47 :: jn xs [47]).take 1 = [47] from rfl)]
  by_cases hx : xs = []
  · subst hx; rfl
  · rw [if_neg (fun e => hx (jn_nil xs (fun x hm => nmOk_ne x (h1 x hm)) (List.cons.inj e).2))]
    show (if chkP (spl 47 (jn xs [47]) []) = 0 then _ else _) = _
    have e : List.drop 1 (47 :: jn xs [47]) = jn xs [47] := rfl
    rw [e, spl_jn 47 xs hx (fun x hm => nmOk_47 x (h1 x hm)), if_pos h]
theorem chk_of (xs : List Str) (h1 : ∀ s ∈ xs, nmOk s = true) (h2 : xs.length ≤ 8) : chkP xs = 0 := by
  unfold chkP
  have : xs.any (fun s => !nmOk s) = false := by
    rw [List.any_eq_false]
    intro s hs
    rw [h1 s hs]; decide
  rw [this, if_neg Bool.false_ne_true, if_neg (by omega)]
theorem chk_take (s : Str) (n : Nat) : chkP ((pSp s).1.take n) = 0 := by
  obtain ⟨h1, h2⟩ := pSp_ok s
  exact chk_of _ (fun x hx => h1 x (List.mem_of_mem_take hx)) (by rw [List.length_take]; omega)
theorem pCm_ok (a b : Str) (ha : (pSp a).2 = 0) (hb : (pSp b).2 = 0) : pCm a b = (47 :: jn ((pSp a).1.take (alk (pSp a).1 (pSp b).1)) [47], 0) := by
  unfold pCm pJn
  rw [if_pos ha, if_pos hb, if_pos (chk_take _ _)]
theorem pCm_err (a b : Str) (h : ¬ ((pSp a).2 = 0 ∧ (pSp b).2 = 0)) : (pCm a b).2 ≠ 0 := by
  unfold pCm
  by_cases ha : (pSp a).2 = 0
  · rw [if_pos ha, if_neg (fun hb => h ⟨ha, hb⟩)]
    exact fun hb => h ⟨ha, hb⟩
  · rw [if_neg ha]; exact ha
theorem lat (a b c : Str) : ((pCm a b).2 ≠ 0 ∧ (pCm b a).2 ≠ 0) ∨ ∃ x : Str, x.length ≤ 301 ∧ pCm a b = (x, 0) ∧ pCm b a = (x, 0) ∧ pUn x a = true ∧ pUn x b = true ∧ (pUn c a = true → pUn c b = true → pUn c x = true) ∧ pCm x a = (x, 0) := by
  by_cases h : (pSp a).2 = 0 ∧ (pSp b).2 = 0
  case neg => exact .inl ⟨pCm_err a b h, pCm_err b a fun q => h ⟨q.2, q.1⟩⟩
  obtain ⟨ha, hb⟩ := h
  refine .inr ⟨47 :: jn ((pSp a).1.take (alk (pSp a).1 (pSp b).1)) [47], ?_, pCm_ok a b ha hb, ?_, ?_, ?_, ?_, ?_⟩
  · have := jn_len _ (chk_take a (alk (pSp a).1 (pSp b).1))
    rw [List.length_cons]; omega
  · rw [pCm_ok b a hb ha, alk_comm (pSp b).1, alk_take (pSp a).1]
  · rw [pUn_iff, fore _ (chk_take _ _)]
    exact ⟨rfl, ha, List.take_prefix _ _⟩
  · rw [pUn_iff, fore _ (chk_take _ _)]
    refine ⟨rfl, hb, ?_⟩
    show List.take _ _ <+: _
    rw [alk_take]
    exact List.take_prefix _ _
  · rw [pUn_iff, pUn_iff, pUn_iff, fore _ (chk_take _ _)]
    intro h1 h2
    exact ⟨h1.1, rfl, alk_most _ _ _ h1.2.2 h2.2.2⟩
  · have e := fore _ (chk_take a (alk (pSp a).1 (pSp b).1))
    rw [pCm_ok _ a (by rw [e]) ha, e]
    have hp := List.take_prefix (alk (pSp a).1 (pSp b).1) (pSp a).1
    have := (alk_full _ _).2 hp
    simp only [this, List.take_length]
end Go.Proofs.YtfkcolodbjonkaaDoor
