/- Contracts of functions, told of values, on the way to NumberBack. -/
import Derived.Test.YtfkcolodbjonkabDoorTyEb
import Derived.Test.YtfkcolodbjonkabDoorNb4Eb
-- NEWGO
-- PRUNE: cl_lendx cl_use cl_lend
namespace Go.Proofs.YtfkcolodbjonkabDoor
set_option linter.unusedVariables false
set_option linter.unusedSimpArgs false
open Go.Proofs.YtfkcolodbjonkabDoor.Sh
set_option maxRecDepth 20000
theorem e_12k : pPa [49, 50, 75] = (12288, 0) := by decide +kernel
theorem e_012 : pPa [48, 49, 50] = (12, 0) := by decide +kernel
theorem e_k : pPa [75] = (0, 2) := by decide +kernel
theorem e_125 : pHu [49, 50, 46, 53] = (1250, 0) := by decide +kernel
theorem sane_spec : FnSpec Tryd.prog 9 [] [] (b1 true) [] := by
  have h1 := parse_spec [49, 50, 75] (by decide)
  have h2 := parse_spec [48, 49, 50] (by decide)
  have h3 := parse_spec [75] (by decide)
  have h4 := hund_spec [49, 50, 46, 53] (by decide)
  rw [e_12k] at h1
  rw [e_012] at h2
  rw [e_k] at h3
  rw [e_125] at h4
  refine fnspec_of mixed TT_ok TT_cl ⟨fun _ => false, fun _ => [], 0, fun _ => false, fun _ => false⟩ Tryd.func9 rfl (by kernel_rfl) rfl 51 rfl [.tmp 0] rfl ?_
  simp only [go_sem, Nat.reduceEqDiff, Nat.reduceAdd, Nat.reduceSub, Nat.reduceMul, Nat.reduceLT, Nat.reduceLeDiff, ↓reduceIte, reduceCtorEq, List.reduceReplicate, Int.cast_ofNat_Int, Int.reduceEq, Int.reduceLT, Int.reduceLE]
  repeat' (first
    | (apply cl_plain
       case hs => rfl
       case ha => (simp only [List.map_cons, List.map_nil, prepV, prepC, idx, hpL', lookR, Nat.reduceEqDiff, if_true, if_false]; rfl)
       case h => (first | exact h1 .. | exact h2 .. | exact h3 .. | exact h4 ..))
    | ((first | refine s1_id ?_ | refine swp_id ?_ | refine sops_id ?_ | refine s2_id ?_); simp only [go_sem, Nat.reduceEqDiff, Nat.reduceAdd, Nat.reduceSub, Nat.reduceMul, Nat.reduceLT, Nat.reduceLeDiff, ↓reduceIte, reduceCtorEq, List.reduceReplicate, Int.cast_ofNat_Int, Int.reduceEq, Int.reduceLT, Int.reduceLE, SV.ren, SV.renL, Cell.ren, Row.ren, renO, bk, back, outUpsFrom, Ints_ren])
    | (apply fs_nil <;> (try simp only [go_sem, resV, resS, SV.ren, SV.renL, Cell.ren, St.tmF, St.hpF, idx, renO, Row.ren, evS, slot, lookR, Nat.reduceEqDiff, ↓reduceIte, reduceCtorEq, if_true, if_false, Option.getD_some, Option.getD_none, List.map_cons, List.map_nil, sLoad, readAt, readNeed, Ints_ren, Ints_length, Ints_getD, and_true, true_and, List.getD_cons_zero, List.getD_cons_succ]) <;> (try rfl)))
def dc (n : Nat) : Str := if n < 10 then [UInt8.ofNat (48 + n)] else [UInt8.ofNat (48 + n / 10), UInt8.ofNat (48 + n % 10)]
theorem dec_dc (n : Nat) (h : n < 100) : dec n = dc n := by
  unfold dc
  by_cases h10 : n < 10
  · rw [if_pos h10, dec_lo h10]
  · rw [if_neg h10, dec_hi h10, dec_lo (by omega)]; rfl
theorem dc_val : ∀ n, n < 100 → vR (dc n) = ((n : Int), true) := by decide +kernel
theorem dc_46 : ∀ n, n < 100 → (46 ∉ dc n ∧ (dc n).head? ≠ some 109 ∧ dc n ≠ []) := by decide +kernel
theorem dc_two : ∀ y, y < 10 → ∀ z, z < 10 → (vR (dc y ++ dc z) = (((10 * y + z : Nat) : Int), true) ∧ (dc y ++ dc z).length = 2) := by decide +kernel
theorem dot_split (p : Str) : ∀ d : Str, 46 ∉ d → dotAt (d ++ 46 :: p) = d.length
  | [], _ => by simp [dotAt, List.findIdx_cons]
  | b :: d, h => by
    have h1 : ¬ b = 46 := fun e => h (by rw [e]; exact List.mem_cons_self)
    have ih := dot_split p d fun e => h (List.mem_cons_of_mem _ e)
    unfold dotAt at ih ⊢
    have hbq : (b == 46) = false := by simpa using h1
    rw [List.cons_append, List.findIdx_cons, ih, hbq]
    rfl
theorem pHu_dot (d p : Str) (h : 46 ∉ d ∧ d.head? ≠ some 109 ∧ d ≠ []) : pHu (d ++ 46 :: p) = tl d p := by
  unfold pHu
  have hm : ¬ d ++ 46 :: p = [109, 97, 120] := by
    intro e
    cases d with
    | nil => exact h.2.2 rfl
    | cons b d => exact h.2.1 (by rw [List.cons_append] at e; rw [(List.cons.inj e).1]; rfl)
  rw [if_neg hm, dot_split p d h.1, if_pos (by rw [List.length_append, List.length_cons]; omega)]
  congr 1
  · rw [List.take_append_of_le_length (Nat.le_refl _), List.take_length]
  · simp [List.drop_append]
theorem h_fm (a : Nat) (h : a < 10000) : pHu (fm a) = ((a : Int), 0) := by
  unfold fm
  rw [dec_dc (a / 100) (by omega), dec_dc (a % 100 / 10) (by omega), dec_dc (a % 100 % 10) (by omega)]
  have e : dc (a / 100) ++ [46] ++ dc (a % 100 / 10) ++ dc (a % 100 % 10) = dc (a / 100) ++ 46 :: (dc (a % 100 / 10) ++ dc (a % 100 % 10)) := by simp
  obtain ⟨h1, h2⟩ := dc_two (a % 100 / 10) (by omega) (a % 100 % 10) (by omega)
  rw [e, pHu_dot _ _ (dc_46 (a / 100) (by omega))]
  unfold tl kOf
  rw [dc_val (a / 100) (by omega), h1, h2]
  simp only [if_true]
  have c1 : ¬ (2 : Int) < ((2 : Nat) : Int) := by decide
  have c2 : ¬ ((2 : Nat) : Int) = 1 := by decide
  rw [if_neg c1, if_neg c2, if_neg (by omega)]
  congr 1
  omega
end Go.Proofs.YtfkcolodbjonkabDoor
