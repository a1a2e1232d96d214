/- Contracts of functions, told of values, on the way to VirtualWakes. -/
import Derived.Test.YtabanfgnnelfcaaTyCa
import Derived.Test.YtabanfgnnelfcaaVt1Ca
-- NEWGO
-- PRUNE: cl_lendx cl_use cg_ts cg_show
-- FLAT: Its_flat
namespace Go.Proofs.Ytabanfgnnelfcaa
set_option linter.unusedVariables false
set_option linter.unusedSimpArgs false
open Go.Proofs.Ytabanfgnnelfcaa.Sh
set_option maxRecDepth 20000
theorem index1_spec (x : It) (id : Int) : FnSpec Try.prog 63 [itt x, i1 id] [] (i1 (cmpv x.i id)) [] := by
  refine fnspec_of mixed TT_ok TT_cl ⟨fun _ => false, fun _ => [], 0, fun _ => false, fun _ => false⟩ Try.func63 rfl (by kernel_rfl) rfl 9 rfl [.tmp 4] rfl ?_
  simp only [go_sem, Nat.reduceEqDiff, Nat.reduceAdd, Nat.reduceSub, Nat.reduceMul, Nat.reduceLT, Nat.reduceLeDiff, ↓reduceIte, reduceCtorEq, List.reduceReplicate, Int.cast_ofNat_Int, Int.reduceEq, Int.reduceLT, Int.reduceLE]
  repeat' (first
    | (apply cl_plain
       case hs => rfl
       case ha => (simp only [List.map_cons, List.map_nil, prepV, prepC, idx, hpL', lookR, Nat.reduceEqDiff, if_true, if_false]; rfl)
       case h => (first | exact cmp_spec ..))
    | ((first | refine s1_id ?_ | refine swp_id ?_ | refine sops_id ?_ | refine s2_id ?_); simp only [go_sem, Nat.reduceEqDiff, Nat.reduceAdd, Nat.reduceSub, Nat.reduceMul, Nat.reduceLT, Nat.reduceLeDiff, ↓reduceIte, reduceCtorEq, List.reduceReplicate, Int.cast_ofNat_Int, Int.reduceEq, Int.reduceLT, Int.reduceLE, SV.ren, SV.renL, Cell.ren, Row.ren, renO, bk, back, outUpsFrom, Ints_ren])
    | (apply fs_nil <;> (try simp only [go_sem, resV, resS, SV.ren, SV.renL, Cell.ren, St.tmF, St.hpF, idx, renO, Row.ren, evS, slot, lookR, Nat.reduceEqDiff, ↓reduceIte, reduceCtorEq, if_true, if_false, Option.getD_some, Option.getD_none, List.map_cons, List.map_nil, sLoad, readAt, readNeed, Ints_ren, Ints_length, Ints_getD, and_true, true_and, List.getD_cons_zero, List.getD_cons_succ]) <;> (try rfl)))
def bsG (l : List It) (id : Int) : Nat → Nat → Nat → Nat
  | 0, i, _ => i
  | n + 1, i, j => if i < j then (if (l.getD ((i + j) / 2) zi).i < id then bsG l id n ((i + j) / 2 + 1) j else bsG l id n i ((i + j) / 2)) else i
theorem bsG_fuel (l : List It) (id : Int) : ∀ (n m i j : Nat), j - i ≤ n → j - i ≤ m → bsG l id n i j = bsG l id m i j
  | 0, 0, i, j, _, _ => rfl
  | 0, m + 1, i, j, h, _ => by rw [bsG, bsG, if_neg (by omega)]
  | n + 1, 0, i, j, _, h => by rw [bsG, bsG, if_neg (by omega)]
  | n + 1, m + 1, i, j, h1, h2 => by
    rw [bsG, bsG]
    by_cases h : i < j
    · rw [if_pos h, if_pos h]
      split
      · exact bsG_fuel l id n m _ _ (by omega) (by omega)
      · exact bsG_fuel l id n m _ _ (by omega) (by omega)
    · rw [if_neg h, if_neg h]
def bsV (l : List It) (id : Int) : Nat := bsG l id l.length 0 l.length
def bsF (l : List It) (id : Int) : Bool := decide (bsV l id < l.length) && decide ((l.getD (bsV l id) zi).i = id)
theorem bsG_le (l : List It) (id : Int) : ∀ (n i j : Nat), i ≤ j → i ≤ bsG l id n i j ∧ bsG l id n i j ≤ j
  | 0, i, j, h => ⟨Nat.le_refl _, h⟩
  | n + 1, i, j, h => by
    rw [bsG]
    split
    · split
      · have := bsG_le l id n ((i + j) / 2 + 1) j (by omega); omega
      · have := bsG_le l id n i ((i + j) / 2) (by omega); omega
    · omega
theorem bsV_le (l : List It) (id : Int) : bsV l id ≤ l.length := (bsG_le l id l.length 0 l.length (Nat.zero_le _)).2
theorem cmpv_lt (a b : Int) : decide (cmpv a b < 0) = decide (a < b) := by
  unfold cmpv; split
  · rename_i h; simp [h]
  · rename_i h; split <;> simp [h]
theorem cmpv_eq (a b : Int) : decide (cmpv a b = 0) = decide (a = b) := by
  unfold cmpv; split
  · rename_i h; simp; omega
  · rename_i h; split
    · simp; omega
    · simp; omega
set_option maxHeartbeats 4000000 in
theorem bs_spec (l : List It) (c : Option Nat) (id : Int) (hl : l.length ≤ 4611686018427387904) : FnSpec Try.prog 62 [.one (.gsl (Its l) 0 l.length c), i1 id, .one (.fn 63 [])] [] (.tup [i1 (bsV l id), b1 (bsF l id)]) [] := by
  have hil := Its_len l
  refine fnspec_of mixed TT_ok TT_cl ⟨fun _ => false, fun _ => [], 0, fun _ => false, fun _ => false⟩ Try.func62 rfl (by kernel_rfl) rfl 49 rfl [.tmp 6, .tmp 7] rfl ?_
  simp only [go_sem, Nat.reduceEqDiff, Nat.reduceAdd, Nat.reduceSub, Nat.reduceMul, Nat.reduceLT, Nat.reduceLeDiff, ↓reduceIte, reduceCtorEq, List.reduceReplicate, Int.cast_ofNat_Int, Int.reduceEq, Int.reduceLT, Int.reduceLE]
  repeat' (first
    | ((first | refine s1_id ?_ | refine swp_id ?_ | refine sops_id ?_ | refine s2_id ?_); simp only [go_sem, Nat.reduceEqDiff, Nat.reduceAdd, Nat.reduceSub, Nat.reduceMul, Nat.reduceLT, Nat.reduceLeDiff, ↓reduceIte, reduceCtorEq, List.reduceReplicate, Int.cast_ofNat_Int, Int.reduceEq, Int.reduceLT, Int.reduceLE, SV.ren, SV.renL, Cell.ren, Row.ren, renO, bk, back, outUpsFrom, Ints_ren]))
  refine w_loop (ι := Nat × Nat) (fun s => ⟨[(0, .one (.gsl (Its l) 0 l.length c)), (1, i1 id), (2, .one (.fn 63 [])), (8, i1 l.length), (9, i1 s.1), (10, i1 s.2)], [], 0⟩) (fun s => s.1 ≤ s.2 ∧ s.2 ≤ l.length ∧ bsG l id (s.2 - s.1) s.1 s.2 = bsV l id) (fun s => s.2 - s.1) (0, l.length) ?_ ⟨Nat.zero_le _, Nat.le_refl _, rfl⟩ ?_
  · (refine imp_ren _ _ _ [] (by simp) (by simp) (by simp) (Nat.le_of_ble_eq_true rfl) ?_ rfl (by simp only [List.forall_mem_cons, List.not_mem_nil, false_implies, implies_true, and_true, St.hpF, lookR, Nat.reduceEqDiff, if_true, if_false, ↓reduceIte] <;> (repeat' apply And.intro) <;> (first | rfl | trivial)) (by simp only [List.forall_mem_cons, List.not_mem_nil, false_implies, implies_true, and_true, true_and, flat_cons, flat_nil, flat_ints, flat_bools, flat_app, Cell.refs, and_self, eq_self_iff_true, List.append_nil]); simp only [List.map_cons, List.map_nil, List.forall_mem_cons, List.not_mem_nil, false_implies, implies_true, and_true, lk, slot, SV.ren, Cell.ren, toN, Nat.reduceEqDiff, if_true, if_false, ↓reduceIte, reduceCtorEq])
    all_goals ((repeat' apply And.intro) <;> (first | rfl | trivial))
  rintro ⟨i, j⟩ ⟨hij, hjl, hb⟩
  simp only at hij hjl hb ⊢
  by_cases hlt : i < j
  · have hlt' : (i : Int) < (j : Int) := by omega
    have hsh : ((i : Int) + j).fdiv (2 ^ min (Int.toNat 1) 64) = (((i + j) / 2 : Nat) : Int) := by
      have e : (2 : Int) ^ min (Int.toNat 1) 64 = 2 := rfl
      rw [e, Int.fdiv_eq_ediv_of_nonneg _ (by omega)]; omega
    obtain ⟨h, hh⟩ : ∃ h, h = (i + j) / 2 := ⟨_, rfl⟩
    rw [← hh] at hsh
    have hhl : h < l.length := by omega
    have hat := Its_at l h hhl
    have hhi : (h : Int) < (l.length : Int) := by omega
    have hb' := bsG_fuel l id (j - i) (j - i - 1 + 1) i j (Nat.le_refl _) (by omega)
    rw [hb, bsG, if_pos hlt, ← hh] at hb'
    have hix := index1_spec (l.getD h zi) id
    have hcl := cmpv_lt (l.getD h zi).i id
    by_cases hc : (l.getD h zi).i < id
    · rw [if_pos hc] at hb'
      simp only [go_sem, Nat.reduceEqDiff, Nat.reduceAdd, Nat.reduceSub, Nat.reduceMul, Nat.reduceLT, Nat.reduceLeDiff, ↓reduceIte, reduceCtorEq, List.reduceReplicate, Int.cast_ofNat_Int, Int.reduceEq, Int.reduceLT, Int.reduceLE, decide_eq_true hlt', hsh, hat]
      repeat' (first
    | with_reducible refine And.intro ?_ ?_
    | (intros; (try simp only [Bool.and_eq_true, Bool.or_eq_true, Bool.not_eq_true', Bool.not_eq_false', Bool.and_eq_false_iff, Bool.or_eq_false_iff, decide_eq_true_eq, decide_eq_false_iff_not] at *); omega)
    | (apply cl_plain
       case hs => rfl
       case ha => (simp only [List.map_cons, List.map_nil, prepV, prepC, idx, hpL', lookR, Nat.reduceEqDiff, if_true, if_false]; rfl)
       case h => (first | exact hix ..))
    | ((first | refine s1_id ?_ | refine swp_id ?_ | refine sops_id ?_ | refine s2_id ?_); simp only [decide_eq_true hlt', hsh, hat, hcl, decide_eq_true hc, go_sem, Nat.reduceEqDiff, Nat.reduceAdd, Nat.reduceSub, Nat.reduceMul, Nat.reduceLT, Nat.reduceLeDiff, ↓reduceIte, reduceCtorEq, List.reduceReplicate, Int.cast_ofNat_Int, Int.reduceEq, Int.reduceLT, Int.reduceLE, SV.ren, SV.renL, Cell.ren, Row.ren, renO, bk, back, outUpsFrom, Ints_ren]))
      refine le_mk (h + 1, j) ?_ ⟨by show h + 1 ≤ j; omega, hjl, by show bsG l id (j - (h + 1)) (h + 1) j = bsV l id; rw [hb']; exact bsG_fuel l id _ _ _ _ (Nat.le_refl _) (by omega)⟩ (by show j - (h + 1) < j - i; omega)
      (refine imp_ren _ _ _ [] (by simp) (by simp) (by simp) (Nat.le_of_ble_eq_true rfl) ?_ rfl (by simp only [List.forall_mem_cons, List.not_mem_nil, false_implies, implies_true, and_true, St.hpF, lookR, Nat.reduceEqDiff, if_true, if_false, ↓reduceIte] <;> (repeat' apply And.intro) <;> (first | rfl | trivial)) (by simp only [List.forall_mem_cons, List.not_mem_nil, false_implies, implies_true, and_true, true_and, flat_cons, flat_nil, flat_ints, flat_bools, flat_app, Cell.refs, and_self, eq_self_iff_true, List.append_nil]); simp only [List.map_cons, List.map_nil, List.forall_mem_cons, List.not_mem_nil, false_implies, implies_true, and_true, lk, slot, SV.ren, Cell.ren, toN, Nat.reduceEqDiff, if_true, if_false, ↓reduceIte, reduceCtorEq])
      all_goals ((repeat' apply And.intro) <;> (first | rfl | trivial | (simp only [Int.natCast_add]; done) | (simp only [Int.natCast_add]; rfl) | (simp only [Int.natCast_add]; trivial)))
    · rw [if_neg hc] at hb'
      simp only [go_sem, Nat.reduceEqDiff, Nat.reduceAdd, Nat.reduceSub, Nat.reduceMul, Nat.reduceLT, Nat.reduceLeDiff, ↓reduceIte, reduceCtorEq, List.reduceReplicate, Int.cast_ofNat_Int, Int.reduceEq, Int.reduceLT, Int.reduceLE, decide_eq_true hlt', hsh, hat]
      repeat' (first
    | with_reducible refine And.intro ?_ ?_
    | (intros; (try simp only [Bool.and_eq_true, Bool.or_eq_true, Bool.not_eq_true', Bool.not_eq_false', Bool.and_eq_false_iff, Bool.or_eq_false_iff, decide_eq_true_eq, decide_eq_false_iff_not] at *); omega)
    | (apply cl_plain
       case hs => rfl
       case ha => (simp only [List.map_cons, List.map_nil, prepV, prepC, idx, hpL', lookR, Nat.reduceEqDiff, if_true, if_false]; rfl)
       case h => (first | exact hix ..))
    | ((first | refine s1_id ?_ | refine swp_id ?_ | refine sops_id ?_ | refine s2_id ?_); simp only [decide_eq_true hlt', hsh, hat, hcl, decide_eq_false hc, go_sem, Nat.reduceEqDiff, Nat.reduceAdd, Nat.reduceSub, Nat.reduceMul, Nat.reduceLT, Nat.reduceLeDiff, ↓reduceIte, reduceCtorEq, List.reduceReplicate, Int.cast_ofNat_Int, Int.reduceEq, Int.reduceLT, Int.reduceLE, SV.ren, SV.renL, Cell.ren, Row.ren, renO, bk, back, outUpsFrom, Ints_ren]))
      refine le_mk (i, h) ?_ ⟨by show i ≤ h; omega, by show h ≤ l.length; omega, by show bsG l id (h - i) i h = bsV l id; rw [hb']; exact bsG_fuel l id _ _ _ _ (Nat.le_refl _) (by omega)⟩ (by show h - i < j - i; omega)
      (refine imp_ren _ _ _ [] (by simp) (by simp) (by simp) (Nat.le_of_ble_eq_true rfl) ?_ rfl (by simp only [List.forall_mem_cons, List.not_mem_nil, false_implies, implies_true, and_true, St.hpF, lookR, Nat.reduceEqDiff, if_true, if_false, ↓reduceIte] <;> (repeat' apply And.intro) <;> (first | rfl | trivial)) (by simp only [List.forall_mem_cons, List.not_mem_nil, false_implies, implies_true, and_true, true_and, flat_cons, flat_nil, flat_ints, flat_bools, flat_app, Cell.refs, and_self, eq_self_iff_true, List.append_nil]); simp only [List.map_cons, List.map_nil, List.forall_mem_cons, List.not_mem_nil, false_implies, implies_true, and_true, lk, slot, SV.ren, Cell.ren, toN, Nat.reduceEqDiff, if_true, if_false, ↓reduceIte, reduceCtorEq])
      all_goals ((repeat' apply And.intro) <;> (first | rfl | trivial))
  · have hlt' : ¬ (i : Int) < (j : Int) := by omega
    have hi : i = bsV l id := by
      have e : j - i = 0 := by omega
      rw [e] at hb
      exact hb
    subst hi
    unfold bsF
    by_cases hin : bsV l id < l.length
    · have hin' : ((bsV l id : Nat) : Int) < (l.length : Int) := by omega
      have hat := Its_at l (bsV l id) hin
      have hix := index1_spec (l.getD (bsV l id) zi) id
      have hce := cmpv_eq (l.getD (bsV l id) zi).i id
      rw [decide_eq_true hin, Bool.true_and]
      generalize bsV l id = v at *
      simp only [go_sem, Nat.reduceEqDiff, Nat.reduceAdd, Nat.reduceSub, Nat.reduceMul, Nat.reduceLT, Nat.reduceLeDiff, ↓reduceIte, reduceCtorEq, List.reduceReplicate, Int.cast_ofNat_Int, Int.reduceEq, Int.reduceLT, Int.reduceLE, decide_eq_false hlt', decide_eq_true hin', hat]
      repeat' (first
    | with_reducible refine And.intro ?_ ?_
    | (intros; (try simp only [Bool.and_eq_true, Bool.or_eq_true, Bool.not_eq_true', Bool.not_eq_false', Bool.and_eq_false_iff, Bool.or_eq_false_iff, decide_eq_true_eq, decide_eq_false_iff_not] at *); omega)
    | (apply cg_tp
       case hl => rfl
       case ha => (simp only [List.map_cons, List.map_nil, prepV, prepC, idx, hpL', lookR, Nat.reduceEqDiff, if_true, if_false]; rfl)
       case hs => rfl
       case h => (first | exact hix ..))
    | ((first | refine s1_id ?_ | refine swp_id ?_ | refine sops_id ?_ | refine s2_id ?_); simp only [decide_eq_false hlt', decide_eq_true hin', hat, hce, go_sem, Nat.reduceEqDiff, Nat.reduceAdd, Nat.reduceSub, Nat.reduceMul, Nat.reduceLT, Nat.reduceLeDiff, ↓reduceIte, reduceCtorEq, List.reduceReplicate, Int.cast_ofNat_Int, Int.reduceEq, Int.reduceLT, Int.reduceLE, SV.ren, SV.renL, Cell.ren, Row.ren, renO, bk, back, outUpsFrom, Ints_ren])
    | (apply fs_nil <;> (try simp only [go_sem, resV, resS, SV.ren, SV.renL, Cell.ren, St.tmF, St.hpF, idx, renO, Row.ren, evS, slot, lookR, Nat.reduceEqDiff, ↓reduceIte, reduceCtorEq, if_true, if_false, Option.getD_some, Option.getD_none, List.map_cons, List.map_nil, sLoad, readAt, readNeed, Ints_ren, Ints_length, Ints_getD, and_true, true_and, List.getD_cons_zero, List.getD_cons_succ]) <;> (try rfl)))
    · have hin' : ¬ ((bsV l id : Nat) : Int) < (l.length : Int) := by omega
      rw [decide_eq_false hin, Bool.false_and]
      generalize bsV l id = v at *
      simp only [go_sem, Nat.reduceEqDiff, Nat.reduceAdd, Nat.reduceSub, Nat.reduceMul, Nat.reduceLT, Nat.reduceLeDiff, ↓reduceIte, reduceCtorEq, List.reduceReplicate, Int.cast_ofNat_Int, Int.reduceEq, Int.reduceLT, Int.reduceLE, decide_eq_false hlt', decide_eq_false hin']
      repeat' (first
    | (apply fs_nil <;> (try simp only [go_sem, resV, resS, SV.ren, SV.renL, Cell.ren, St.tmF, St.hpF, idx, renO, Row.ren, evS, slot, lookR, Nat.reduceEqDiff, ↓reduceIte, reduceCtorEq, if_true, if_false, Option.getD_some, Option.getD_none, List.map_cons, List.map_nil, sLoad, readAt, readNeed, Ints_ren, Ints_length, Ints_getD, and_true, true_and, List.getD_cons_zero, List.getD_cons_succ]) <;> (try rfl)))
end Go.Proofs.Ytabanfgnnelfcaa
