/- Contracts of functions, told of values, on the way to NameTotal. -/
import Derived.Test.YtfkcolodbjonkaaDoorTyEa
import Derived.Test.YtfkcolodbjonkaaDoorNaCEa
import Derived.Sort.Walk0
-- NEWGO
-- PRUNE: cl_lendx cl_use cl_lend
-- ISG: Strs_isG
-- FLAT: Strs_flat
namespace Go.Proofs.YtfkcolodbjonkaaDoor
set_option linter.unusedVariables false
set_option linter.unusedSimpArgs false
open Go.Proofs.YtfkcolodbjonkaaDoor.Sh
set_option maxRecDepth 20000
abbrev cmpB (a b : Str) : Int := Lib.compareBytes a b
theorem cmpB_cons (a b : UInt8) (x y : Str) : cmpB (a :: x) (b :: y) = if a < b then -1 else if b < a then 1 else cmpB x y := rfl
theorem cmpB_comm : ∀ a b : Str, cmpB b a = -cmpB a b
  | [], [] => rfl
  | [], _ :: _ => rfl
  | _ :: _, [] => rfl
  | a :: x, b :: y => by
    rw [cmpB_cons, cmpB_cons]
    by_cases h : a < b
    · have h2 : ¬ b < a := fun q => UInt8.lt_irrefl _ (UInt8.lt_trans h q)
      rw [if_pos h, if_neg h2, if_pos h]; rfl
    · by_cases h2 : b < a
      · rw [if_pos h2, if_neg h, if_pos h2]
      · rw [if_neg h, if_neg h2, if_neg h2, if_neg h, cmpB_comm x y]
theorem u8_eq {a b : UInt8} (h : ¬ a < b) (h2 : ¬ b < a) : a = b := UInt8.le_antisymm (UInt8.not_lt.1 h2) (UInt8.not_lt.1 h)
theorem cmpB_zero : ∀ a b : Str, cmpB a b = 0 ↔ a = b
  | [], [] => ⟨fun _ => rfl, fun _ => rfl⟩
  | [], _ :: _ => ⟨fun h => (by cases h), fun h => (by cases h)⟩
  | _ :: _, [] => ⟨fun h => (by cases h), fun h => (by cases h)⟩
  | a :: x, b :: y => by
    rw [cmpB_cons]
    by_cases h : a < b
    · rw [if_pos h]
      exact ⟨fun q => (by cases q), fun q => by rw [(List.cons.inj q).1] at h; exact absurd h (UInt8.lt_irrefl _)⟩
    · by_cases h2 : b < a
      · rw [if_neg h, if_pos h2]
        exact ⟨fun q => (by cases q), fun q => by rw [(List.cons.inj q).1] at h2; exact absurd h2 (UInt8.lt_irrefl _)⟩
      · rw [if_neg h, if_neg h2, cmpB_zero x y, u8_eq h h2]
        exact ⟨fun q => by rw [q], fun q => (List.cons.inj q).2⟩
theorem cmpB_trans : ∀ a b c : Str, cmpB a b ≤ 0 → cmpB b c ≤ 0 → cmpB a c ≤ 0
  | [], _, [], _, _ => Int.le_refl 0
  | [], _, _ :: _, _, _ => (by show (-1 : Int) ≤ 0; decide)
  | _ :: _, [], _, h, _ => (by have : (1 : Int) ≤ 0 := h; omega)
  | _ :: _, _ :: _, [], _, h => (by have : (1 : Int) ≤ 0 := h; omega)
  | a :: x, b :: y, c :: z, h1, h2 => by
    rw [cmpB_cons] at h1 h2 ⊢
    by_cases p1 : a < b
    · by_cases p2 : b < c
      · rw [if_pos (UInt8.lt_trans p1 p2)]; decide
      · rw [if_neg p2] at h2
        by_cases p3 : c < b
        · rw [if_pos p3] at h2; omega
        · rw [← u8_eq p2 p3, if_pos p1]; decide
    · rw [if_neg p1] at h1
      by_cases p2 : b < a
      · rw [if_pos p2] at h1; omega
      · rw [if_neg p2] at h1
        have e := u8_eq p1 p2
        subst e
        by_cases p3 : a < c
        · rw [if_pos p3]; decide
        · rw [if_neg p3] at h2 ⊢
          by_cases p4 : c < a
          · rw [if_pos p4] at h2; omega
          · rw [if_neg p4] at h2 ⊢
            exact cmpB_trans x y z h1 h2
theorem cmpB_rng : ∀ a b : Str, -1 ≤ cmpB a b ∧ cmpB a b ≤ 1
  | [], [] => ⟨by show (-1 : Int) ≤ 0; decide, by show (0 : Int) ≤ 1; decide⟩
  | [], _ :: _ => ⟨by show (-1 : Int) ≤ -1; decide, by show (-1 : Int) ≤ 1; decide⟩
  | _ :: _, [] => ⟨by show (-1 : Int) ≤ 1; decide, by show (1 : Int) ≤ 1; decide⟩
  | a :: x, b :: y => by
    rw [cmpB_cons]
    split
    · decide
    · split
      · decide
      · exact cmpB_rng x y
theorem cmpB_lt (a b c : Str) (h1 : cmpB a b < 0) (h2 : cmpB b c ≤ 0) : cmpB a c < 0 := by
  have h3 := cmpB_trans a b c (by omega) h2
  rcases Int.lt_or_eq_of_le h3 with h | h
  · exact h
  · rw [cmpB_zero] at h
    subst h
    have := cmpB_comm a b
    omega
theorem less_cmp : ∀ a b : Str, Op.bytesLess a b = decide (cmpB a b < 0)
  | [], [] => rfl
  | [], _ :: _ => rfl
  | _ :: _, [] => rfl
  | a :: x, b :: y => by
    rw [cmpB_cons, Op.bytesLess, less_cmp x y]
    by_cases h : a < b
    · rw [if_pos h]; simp [h]
    · by_cases h2 : b < a
      · rw [if_neg h, if_pos h2]
        have : ¬ a = b := fun e => by subst e; exact h h2
        simp [h, this]
      · rw [if_neg h, if_neg h2]
        have := u8_eq h h2
        subst this
        simp
theorem bs_less (a b : Str) : Op.bytesLess (bs a).toList (bs b).toList = decide (cmpB a b < 0) := by rw [bs_toList, bs_toList, less_cmp]
def cmpL : List Str → List Str → Int
  | [], [] => 0
  | [], _ :: _ => -1
  | _ :: _, [] => 1
  | a :: x, b :: y => if cmpB a b = 0 then cmpL x y else cmpB a b
theorem cmpL_comm : ∀ a b, cmpL b a = -cmpL a b
  | [], [] => rfl
  | [], _ :: _ => rfl
  | _ :: _, [] => rfl
  | a :: x, b :: y => by
    have h := cmpB_comm a b
    unfold cmpL
    by_cases q : cmpB a b = 0
    · rw [if_pos q, if_pos (by omega), cmpL_comm x y]
    · rw [if_neg q, if_neg (by omega), h]
theorem cmpL_zero : ∀ a b, cmpL a b = 0 ↔ a = b
  | [], [] => ⟨fun _ => rfl, fun _ => rfl⟩
  | [], _ :: _ => ⟨fun (h : (-1 : Int) = 0) => (by cases h), fun h => (by cases h)⟩
  | _ :: _, [] => ⟨fun (h : (1 : Int) = 0) => (by cases h), fun h => (by cases h)⟩
  | a :: x, b :: y => by
    unfold cmpL
    by_cases q : cmpB a b = 0
    · rw [if_pos q, cmpL_zero x y]
      have := (cmpB_zero a b).1 q
      subst this
      exact ⟨fun q => by rw [q], fun q => (List.cons.inj q).2⟩
    · rw [if_neg q]
      exact ⟨fun h => absurd h q, fun h => absurd ((cmpB_zero a b).2 (List.cons.inj h).1) q⟩
theorem cmpL_rng : ∀ a b, -1 ≤ cmpL a b ∧ cmpL a b ≤ 1
  | [], [] => ⟨by show (-1 : Int) ≤ 0; decide, by show (0 : Int) ≤ 1; decide⟩
  | [], _ :: _ => ⟨by show (-1 : Int) ≤ -1; decide, by show (-1 : Int) ≤ 1; decide⟩
  | _ :: _, [] => ⟨by show (-1 : Int) ≤ 1; decide, by show (1 : Int) ≤ 1; decide⟩
  | a :: x, b :: y => by
    unfold cmpL
    split
    · exact cmpL_rng x y
    · exact cmpB_rng a b
theorem cmpL_trans : ∀ a b c, cmpL a b ≤ 0 → cmpL b c ≤ 0 → cmpL a c ≤ 0
  | [], _, [], _, _ => Int.le_refl 0
  | [], _, _ :: _, _, _ => (by show (-1 : Int) ≤ 0; decide)
  | _ :: _, [], _, h, _ => (by have : (1 : Int) ≤ 0 := h; omega)
  | _ :: _, _ :: _, [], _, h => (by have : (1 : Int) ≤ 0 := h; omega)
  | a :: x, b :: y, c :: z, h1, h2 => by
    unfold cmpL at h1 h2 ⊢
    by_cases q1 : cmpB a b = 0
    · rw [if_pos q1] at h1
      have := (cmpB_zero a b).1 q1
      subst this
      by_cases q2 : cmpB a c = 0
      · rw [if_pos q2] at h2 ⊢
        exact cmpL_trans x y z h1 h2
      · rw [if_neg q2] at h2 ⊢
        exact h2
    · rw [if_neg q1] at h1
      have h3 : cmpB b c ≤ 0 := by
        by_cases q2 : cmpB b c = 0
        · omega
        · rw [if_neg q2] at h2; exact h2
      have h4 := cmpB_lt a b c (by omega) h3
      rw [if_neg (by omega)]; omega
theorem cmpL_pre : ∀ p b, p <+: b → p ≠ b → cmpL p b = -1
  | [], [], _, h => absurd rfl h
  | [], _ :: _, _, _ => rfl
  | p :: x, [], h, _ => (by have := h.length_le; simp at this)
  | p :: x, b :: y, h, hn => by
    obtain ⟨e, q⟩ := List.cons_prefix_cons.1 h
    subst e
    unfold cmpL
    rw [if_pos ((cmpB_zero p p).2 rfl)]
    exact cmpL_pre x y q fun e => hn (by rw [e])
theorem cmpL_below : ∀ a b c, a <+: b → ¬ a <+: c → cmpL a c < 0 → cmpL b c < 0
  | [], _, _, _, h, _ => absurd List.nil_prefix h
  | a :: x, [], _, h, _, _ => (by have := h.length_le; simp at this)
  | a :: x, _ :: _, [], _, _, h => (by have : (1 : Int) < 0 := h; omega)
  | a :: x, b :: y, c :: z, h1, h2, h3 => by
    obtain ⟨e, q⟩ := List.cons_prefix_cons.1 h1
    subst e
    unfold cmpL at h3 ⊢
    by_cases p : cmpB a c = 0
    · rw [if_pos p] at h3 ⊢
      have := (cmpB_zero a c).1 p
      subst this
      exact cmpL_below x y z q (fun r => h2 (List.cons_prefix_cons.2 ⟨rfl, r⟩)) h3
    · rw [if_neg p] at h3 ⊢
      exact h3
def pCp (a b : Str) : Int :=
  if (pSp a).2 = 0 then if (pSp b).2 = 0 then cmpL (pSp a).1 (pSp b).1 else -1
  else if (pSp b).2 = 0 then 1 else cmpB a b
theorem pSp_inj (a b : Str) (ha : (pSp a).2 = 0) (hb : (pSp b).2 = 0) (h : (pSp a).1 = (pSp b).1) : a = b := by
  have h1 := bkJoin a ha
  have h2 := bkJoin b hb
  rw [h, h2] at h1
  exact (Prod.mk.inj h1).1.symm
theorem pCp_comm (a b : Str) : pCp b a = -pCp a b := by
  unfold pCp
  by_cases ha : (pSp a).2 = 0 <;> by_cases hb : (pSp b).2 = 0 <;> simp only [ha, hb, if_true, if_false]
  · exact cmpL_comm _ _
  · rfl
  · exact cmpB_comm _ _
theorem pCp_zero (a b : Str) : pCp a b = 0 ↔ a = b := by
  unfold pCp
  by_cases ha : (pSp a).2 = 0
  · rw [if_pos ha]
    by_cases hb : (pSp b).2 = 0
    · rw [if_pos hb, cmpL_zero]
      exact ⟨pSp_inj a b ha hb, fun e => by rw [e]⟩
    · rw [if_neg hb]
      exact ⟨fun h => (by cases h), fun e => by subst e; exact absurd ha hb⟩
  · rw [if_neg ha]
    by_cases hb : (pSp b).2 = 0
    · rw [if_pos hb]
      exact ⟨fun h => (by cases h), fun e => by subst e; exact absurd hb ha⟩
    · rw [if_neg hb]; exact cmpB_zero a b
theorem pCp_rng (a b : Str) : -1 ≤ pCp a b ∧ pCp a b ≤ 1 := by
  unfold pCp
  split
  · split
    · exact cmpL_rng _ _
    · decide
  · split
    · decide
    · exact cmpB_rng _ _
theorem pCp_trans (a b c : Str) : pCp a b ≤ 0 → pCp b c ≤ 0 → pCp a c ≤ 0 := by
  unfold pCp
  by_cases ha : (pSp a).2 = 0 <;> by_cases hb : (pSp b).2 = 0 <;> by_cases hc : (pSp c).2 = 0 <;> simp only [ha, hb, hc, if_true, if_false] <;> try omega
  · exact cmpL_trans _ _ _
  · exact cmpB_trans _ _ _
theorem pCp_pre (a b : Str) (h : pUn a b = true) (hn : a ≠ b) : pCp a b = -1 := by
  obtain ⟨ha, hb, hp⟩ := (pUn_iff a b).1 h
  unfold pCp
  rw [if_pos ha, if_pos hb]
  exact cmpL_pre _ _ hp fun e => hn (pSp_inj a b ha hb e)
theorem pCp_below (a b c : Str) (h : pUn a b = true) (h2 : pUn a c = false) (h3 : pCp a c < 0) : pCp b c < 0 := by
  obtain ⟨ha, hb, hp⟩ := (pUn_iff a b).1 h
  unfold pCp at h3 ⊢
  rw [if_pos ha] at h3
  rw [if_pos hb]
  by_cases hc : (pSp c).2 = 0
  · rw [if_pos hc] at h3 ⊢
    refine cmpL_below _ _ _ hp (fun q => ?_) h3
    rw [(pUn_iff a c).2 ⟨ha, hc, q⟩] at h2
    cases h2
  · rw [if_neg hc]; decide
end Go.Proofs.YtfkcolodbjonkaaDoor
