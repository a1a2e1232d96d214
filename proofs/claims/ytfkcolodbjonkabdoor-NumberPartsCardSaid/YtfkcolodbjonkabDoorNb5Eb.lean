/- Contracts of functions, told of values, on the way to NumberParts. -/
import Derived.Test.YtfkcolodbjonkabDoorTyEb
import Derived.Test.YtfkcolodbjonkabDoorNb4Eb
-- NEWGO
-- PRUNE: cl_lendx cl_use cl_lend
namespace Go.Proofs.YtfkcolodbjonkabDoor
set_option linter.unusedVariables false
set_option linter.unusedSimpArgs false
open Go.Proofs.YtfkcolodbjonkabDoor.Sh
set_option maxRecDepth 20000
theorem e_12k : pPa [49, 50, 75] = (12288, 0) := by decide +kernel
theorem e_012 : pPa [48, 49, 50] = (12, 0) := by decide +kernel
theorem e_k : pPa [75] = (0, 2) := by decide +kernel
theorem e_125 : pHu [49, 50, 46, 53] = (1250, 0) := by decide +kernel
theorem sane_spec : FnSpec Tryd.prog 9 [] [] (b1 true) [] := by
  have h1 := parse_spec [49, 50, 75] (by decide)
  have h2 := parse_spec [48, 49, 50] (by decide)
  have h3 := parse_spec [75] (by decide)
  have h4 := hund_spec [49, 50, 46, 53] (by decide)
  rw [e_12k] at h1
  rw [e_012] at h2
  rw [e_k] at h3
  rw [e_125] at h4
  refine fnspec_of mixed TT_ok TT_cl ⟨fun _ => false, fun _ => [], 0, fun _ => false, fun _ => false⟩ Tryd.func9 rfl (by kernel_rfl) rfl 51 rfl [.tmp 0] rfl ?_
  simp only [go_sem, Nat.reduceEqDiff, Nat.reduceAdd, Nat.reduceSub, Nat.reduceMul, Nat.reduceLT, Nat.reduceLeDiff, ↓reduceIte, reduceCtorEq, List.reduceReplicate, Int.cast_ofNat_Int, Int.reduceEq, Int.reduceLT, Int.reduceLE]
  repeat' (first
    | (apply cl_plain
       case hs => rfl
       case ha => (simp only [List.map_cons, List.map_nil, prepV, prepC, idx, hpL', lookR, Nat.reduceEqDiff, if_true, if_false]; rfl)
       case h => (first | exact h1 .. | exact h2 .. | exact h3 .. | exact h4 ..))
    | ((first | refine s1_id ?_ | refine swp_id ?_ | refine sops_id ?_ | refine s2_id ?_); simp only [go_sem, Nat.reduceEqDiff, Nat.reduceAdd, Nat.reduceSub, Nat.reduceMul, Nat.reduceLT, Nat.reduceLeDiff, ↓reduceIte, reduceCtorEq, List.reduceReplicate, Int.cast_ofNat_Int, Int.reduceEq, Int.reduceLT, Int.reduceLE, SV.ren, SV.renL, Cell.ren, Row.ren, renO, bk, back, outUpsFrom, Ints_ren])
    | (apply fs_nil <;> (try simp only [go_sem, resV, resS, SV.ren, SV.renL, Cell.ren, St.tmF, St.hpF, idx, renO, Row.ren, evS, slot, lookR, Nat.reduceEqDiff, ↓reduceIte, reduceCtorEq, if_true, if_false, Option.getD_some, Option.getD_none, List.map_cons, List.map_nil, sLoad, readAt, readNeed, Ints_ren, Ints_length, Ints_getD, and_true, true_and, List.getD_cons_zero, List.getD_cons_succ]) <;> (try rfl)))
def dc (n : Nat) : Str := if n < 10 then [UInt8.ofNat (48 + n)] else [UInt8.ofNat (48 + n / 10), UInt8.ofNat (48 + n % 10)]
theorem dec_dc (n : Nat) (h : n < 100) : dec n = dc n := by
  unfold dc
  by_cases h10 : n < 10
  · rw [if_pos h10, dec_lo h10]
  · rw [if_neg h10, dec_hi h10, dec_lo (by omega)]; rfl
theorem dc_val : ∀ n, n < 100 → vR (dc n) = ((n : Int), true) := by decide +kernel
theorem dc_46 : ∀ n, n < 100 → (46 ∉ dc n ∧ (dc n).head? ≠ some 109 ∧ dc n ≠ []) := by decide +kernel
theorem dc_two : ∀ y, y < 10 → ∀ z, z < 10 → (vR (dc y ++ dc z) = (((10 * y + z : Nat) : Int), true) ∧ (dc y ++ dc z).length = 2) := by decide +kernel
theorem dc_one : ∀ y, y < 10 → (dc y).length = 1 := by decide +kernel
theorem dot_split (p : Str) : ∀ d : Str, 46 ∉ d → dotAt (d ++ 46 :: p) = d.length
  | [], _ => by simp [dotAt, List.findIdx_cons]
  | b :: d, h => by
    have h1 : ¬ b = 46 := fun e => h (by rw [e]; exact List.mem_cons_self)
    have ih := dot_split p d fun e => h (List.mem_cons_of_mem _ e)
    unfold dotAt at ih ⊢
    have hbq : (b == 46) = false := by simpa using h1
    rw [List.cons_append, List.findIdx_cons, ih, hbq]
    rfl
theorem dot_none (d : Str) (h : 46 ∉ d) : ¬ dotAt d < d.length := by
  intro hh
  have h1 := List.findIdx_getElem (w := hh)
  have h3 : d[dotAt d]'hh = 46 := beq_iff_eq.1 h1
  exact h (h3 ▸ List.getElem_mem hh)
theorem pHu_dot (d p : Str) (h : 46 ∉ d ∧ d.head? ≠ some 109 ∧ d ≠ []) : pHu (d ++ 46 :: p) = tl d p := by
  unfold pHu
  have hm : ¬ d ++ 46 :: p = [109, 97, 120] := by
    intro e
    cases d with
    | nil => exact h.2.2 rfl
    | cons b d => exact h.2.1 (by rw [List.cons_append] at e; rw [(List.cons.inj e).1]; rfl)
  rw [if_neg hm, dot_split p d h.1, if_pos (by rw [List.length_append, List.length_cons]; omega)]
  congr 1
  · rw [List.take_append_of_le_length (Nat.le_refl _), List.take_length]
  · simp [List.drop_append]
theorem pHu_plain (d : Str) (h : 46 ∉ d ∧ d.head? ≠ some 109 ∧ d ≠ []) : pHu d = tl d [48, 48] := by
  unfold pHu
  have hm : ¬ d = [109, 97, 120] := by
    intro e
    exact h.2.1 (by rw [e]; rfl)
  rw [if_neg hm, if_neg (dot_none d h.1)]
theorem v00 : vR [48, 48] = (0, true) := by decide +kernel
theorem h_fm (a : Nat) (h : a < 10000) : pHu (fm a) = ((a : Int), 0) := by
  unfold fm
  rw [dec_dc (a / 100) (by omega), dec_dc (a % 100 / 10) (by omega), dec_dc (a % 100 % 10) (by omega)]
  have e : dc (a / 100) ++ [46] ++ dc (a % 100 / 10) ++ dc (a % 100 % 10) = dc (a / 100) ++ 46 :: (dc (a % 100 / 10) ++ dc (a % 100 % 10)) := by simp
  obtain ⟨h1, h2⟩ := dc_two (a % 100 / 10) (by omega) (a % 100 % 10) (by omega)
  rw [e, pHu_dot _ _ (dc_46 (a / 100) (by omega))]
  unfold tl kOf
  rw [dc_val (a / 100) (by omega), h1, h2]
  simp only [if_true]
  have c1 : ¬ (2 : Int) < ((2 : Nat) : Int) := by decide
  have c2 : ¬ ((2 : Nat) : Int) = 1 := by decide
  rw [if_neg c1, if_neg c2, if_neg (by omega)]
  congr 1
  omega
theorem h_whole (a : Nat) (h : a < 10000) : pHu (dec (a / 100)) = (((a / 100 : Nat) : Int) * 100, 0) := by
  rw [dec_dc (a / 100) (by omega), pHu_plain _ (dc_46 (a / 100) (by omega))]
  unfold tl kOf
  rw [dc_val (a / 100) (by omega), v00]
  simp only [if_true]
  have c1 : ¬ (2 : Int) < (([48, 48] : Str).length : Int) := by decide
  have c2 : ¬ (([48, 48] : Str).length : Int) = 1 := by decide
  rw [if_neg c1, if_neg c2, if_neg (by omega)]
  congr 1
  omega
theorem h_tenth (a : Nat) (h : a < 10000) : pHu (dec (a / 100) ++ 46 :: dec (a / 10 % 10)) = (((a / 10 : Nat) : Int) * 10, 0) := by
  rw [dec_dc (a / 100) (by omega), dec_dc (a / 10 % 10) (by omega), pHu_dot _ _ (dc_46 (a / 100) (by omega))]
  unfold tl kOf
  rw [dc_val (a / 100) (by omega), dc_val (a / 10 % 10) (by omega), dc_one (a / 10 % 10) (by omega)]
  simp only [if_true]
  have c1 : ¬ (2 : Int) < ((1 : Nat) : Int) := by decide
  have c2 : ((1 : Nat) : Int) = 1 := by decide
  rw [if_neg c1, if_pos c2, if_neg (by omega)]
  congr 1
  omega
set_option maxHeartbeats 8000000 in
theorem parts_spec (n m : Int) (hn : 0 ≤ n ∧ n ≤ 65535) (hm : 0 ≤ m ∧ m ≤ 65535) : FnSpec Tryd.prog 3 [.one (.sc (.int .u16 n)), .one (.sc (.int .u16 m))] [] (b1 true) [] := by
  have a1 := Int.tmod_nonneg (a := n) 10000 hn.1
  have a2 := Int.tmod_lt_of_pos n (b := 10000) (by omega)
  have b1' := Int.tmod_nonneg (a := m) 10000 hm.1
  have b2 := Int.tmod_lt_of_pos m (b := 10000) (by omega)
  obtain ⟨a, ha⟩ : ∃ a : Nat, n.tmod 10000 = a := ⟨(n.tmod 10000).toNat, by omega⟩
  obtain ⟨b, hb⟩ : ∃ b : Nat, m.tmod 10000 = b := ⟨(m.tmod 10000).toNat, by omega⟩
  rw [ha] at a1 a2
  rw [hb] at b1' b2
  have k1 := fmt_spec a (by omega)
  have k2 := fmt_spec b (by omega)
  have l1 := dec_len (a / 100) (by omega)
  have l2 := dec_len (a / 10 % 10) (by omega)
  have fl : ∀ a, a < 10000 → (fm a).length ≤ 10 := by
    intro a h
    have l1 := dec_len (a / 100) (by omega)
    have l2 := dec_len (a % 100 / 10) (by omega)
    have l3 := dec_len (a % 100 % 10) (by omega)
    unfold fm
    simp only [List.length_append, List.length_cons, List.length_nil]
    omega
  have k3 := hund_spec (fm a) (by have := fl a (by omega); omega)
  have k4 := hund_spec (fm b) (by have := fl b (by omega); omega)
  rw [h_fm a (by omega)] at k3
  rw [h_fm b (by omega)] at k4
  have k5 := decimal_spec (a / 100) (by omega)
  have k6 := hund_spec (dec (a / 100)) (by omega)
  rw [h_whole a (by omega)] at k6
  have k7 := decimal_spec (a / 10 % 10) (by omega)
  have k8 := hund_spec (dec (a / 100) ++ 46 :: dec (a / 10 % 10)) (by rw [List.length_append, List.length_cons]; omega)
  rw [h_tenth a (by omega)] at k8
  have e2 : (a : Int).tdiv 100 = ((a / 100 : Nat) : Int) := rfl
  have e3 : (a : Int).tdiv 10 = ((a / 10 : Nat) : Int) := rfl
  have e4 : ((a / 10 : Nat) : Int).tmod 10 = ((a / 10 % 10 : Nat) : Int) := rfl
  have e5 : dec (a / 100) ++ [46] ++ dec (a / 10 % 10) = dec (a / 100) ++ 46 :: dec (a / 10 % 10) := by simp
  generalize fm a = s at *
  generalize fm b = t at *
  generalize dec (a / 100) = x at *
  generalize dec (a / 10 % 10) = y at *
  refine fnspec_of mixed TT_ok TT_cl ⟨fun _ => false, fun _ => [], 0, fun _ => false, fun _ => false⟩ Tryd.func3 rfl (by kernel_rfl) rfl 111 rfl [.tmp 4] rfl ?_
  simp only [go_sem, Nat.reduceEqDiff, Nat.reduceAdd, Nat.reduceSub, Nat.reduceMul, Nat.reduceLT, Nat.reduceLeDiff, ↓reduceIte, reduceCtorEq, List.reduceReplicate, Int.cast_ofNat_Int, Int.reduceEq, Int.reduceLT, Int.reduceLE, ha, hb, e2, e3, e4, e5]
  repeat' (first
    | with_reducible refine And.intro ?_ ?_
    | (intros; (try simp only [Bool.and_eq_true, Bool.or_eq_true, Bool.not_eq_true', Bool.not_eq_false', Bool.and_eq_false_iff, Bool.or_eq_false_iff, decide_eq_true_eq, decide_eq_false_iff_not] at *); omega)
    | (apply cg_tp
       case hl => rfl
       case ha => (simp only [List.map_cons, List.map_nil, prepV, prepC, idx, hpL', lookR, Nat.reduceEqDiff, if_true, if_false]; rfl)
       case hs => rfl
       case h => (first | exact k1 .. | exact k2 .. | exact k3 .. | exact k4 .. | exact k5 .. | exact k6 .. | exact k7 .. | exact k8 .. | exact sane_spec ..))
    | (apply cl_plain
       case hs => rfl
       case ha => (simp only [List.map_cons, List.map_nil, prepV, prepC, idx, hpL', lookR, Nat.reduceEqDiff, if_true, if_false]; rfl)
       case h => (first | exact k1 .. | exact k2 .. | exact k3 .. | exact k4 .. | exact k5 .. | exact k6 .. | exact k7 .. | exact k8 .. | exact sane_spec ..))
    | ((first | refine s1_id ?_ | refine swp_id ?_ | refine sops_id ?_ | refine s2_id ?_); simp only [ha, hb, e2, e3, e4, e5, beq_self_eq_true, go_sem, Nat.reduceEqDiff, Nat.reduceAdd, Nat.reduceSub, Nat.reduceMul, Nat.reduceLT, Nat.reduceLeDiff, ↓reduceIte, reduceCtorEq, List.reduceReplicate, Int.cast_ofNat_Int, Int.reduceEq, Int.reduceLT, Int.reduceLE, SV.ren, SV.renL, Cell.ren, Row.ren, renO, bk, back, outUpsFrom, Ints_ren])
    | (apply fs_nil <;> (try simp only [go_sem, resV, resS, SV.ren, SV.renL, Cell.ren, St.tmF, St.hpF, idx, renO, Row.ren, evS, slot, lookR, Nat.reduceEqDiff, ↓reduceIte, reduceCtorEq, if_true, if_false, Option.getD_some, Option.getD_none, List.map_cons, List.map_nil, sLoad, readAt, readNeed, Ints_ren, Ints_length, Ints_getD, and_true, true_and, List.getD_cons_zero, List.getD_cons_succ]) <;> (try rfl)))
theorem parts_main (g0 : List Cell) (s0 : GTy Tryd.prog 12 22 g0) (g1 : List Cell) (s1 : GTy Tryd.prog 12 22 g1) : FnSpec Tryd.prog 3 [svOf Tryd.prog 22 g0, svOf Tryd.prog 22 g1] [] (b1 true) [] := by
  obtain ⟨n, rfl, hn⟩ := gty_int (k := .u16) (by kernel_rfl) s0
  obtain ⟨m, rfl, hm⟩ := gty_int (k := .u16) (by kernel_rfl) s1
  have h1 : 0 ≤ n ∧ n ≤ 65535 := by
    have : IntKind.u16.min ≤ n ∧ n ≤ IntKind.u16.max := by simpa [Lit.wf] using hn
    exact this
  have h2 : 0 ≤ m ∧ m ≤ 65535 := by
    have : IntKind.u16.min ≤ m ∧ m ≤ IntKind.u16.max := by simpa [Lit.wf] using hm
    exact this
  exact parts_spec n m h1 h2
end Go.Proofs.YtfkcolodbjonkabDoor
