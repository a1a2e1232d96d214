/- Contracts of functions, told of values, on the way to NamePaths. -/
import Derived.Test.YtfkcolodbjonkaaDoorTyEa
import Derived.Test.YtfkcolodbjonkaaDoorNa3Ea
-- NEWGO
-- PRUNE: cl_lendx cl_use cl_lend
-- ISG: Strs_isG
-- FLAT: Strs_flat
namespace Go.Proofs.YtfkcolodbjonkaaDoor
set_option linter.unusedVariables false
set_option linter.unusedSimpArgs false
open Go.Proofs.YtfkcolodbjonkaaDoor.Sh
set_option maxRecDepth 20000
theorem indexC_spec (c : UInt8) (s : Str) (hs : s.length ≤ 9223372036854775807) : FnSpec Tryd.prog 64 [s1 s, s1 [c]] [] (i1 (Lib.indexByte s c)) [] := by
  have h1 := indexByte_spec c s hs
  by_cases h : [c] = s
  · have e : Lib.indexByte s c = 0 := by rw [← h]; simp [Lib.indexByte]
    rw [e]
    refine fnspec_of mixed TT_ok TT_cl ⟨fun _ => false, fun _ => [], 0, fun _ => false, fun _ => false⟩ Tryd.func64 rfl (by kernel_rfl) rfl 143 rfl [.tmp 4] rfl ?_
    simp only [go_sem, Nat.reduceEqDiff, Nat.reduceAdd, Nat.reduceSub, Nat.reduceMul, Nat.reduceLT, Nat.reduceLeDiff, ↓reduceIte, reduceCtorEq, List.reduceReplicate, Int.cast_ofNat_Int, Int.reduceEq, Int.reduceLT, Int.reduceLE, decide_eq_true h]
    repeat' (first
    | (apply fs_nil <;> (try simp only [go_sem, resV, resS, SV.ren, SV.renL, Cell.ren, St.tmF, St.hpF, idx, renO, Row.ren, evS, slot, lookR, Nat.reduceEqDiff, ↓reduceIte, reduceCtorEq, if_true, if_false, Option.getD_some, Option.getD_none, List.map_cons, List.map_nil, sLoad, readAt, readNeed, Ints_ren, Ints_length, Ints_getD, and_true, true_and, List.getD_cons_zero, List.getD_cons_succ]) <;> (try rfl)))
  · refine fnspec_of mixed TT_ok TT_cl ⟨fun _ => false, fun _ => [], 0, fun _ => false, fun _ => false⟩ Tryd.func64 rfl (by kernel_rfl) rfl 143 rfl [.tmp 4] rfl ?_
    simp only [go_sem, Nat.reduceEqDiff, Nat.reduceAdd, Nat.reduceSub, Nat.reduceMul, Nat.reduceLT, Nat.reduceLeDiff, ↓reduceIte, reduceCtorEq, List.reduceReplicate, Int.cast_ofNat_Int, Int.reduceEq, Int.reduceLT, Int.reduceLE, decide_eq_false h, one_at]
    repeat' (first
    | (apply cl_plain
       case hs => rfl
       case ha => (simp only [List.map_cons, List.map_nil, prepV, prepC, idx, hpL', lookR, Nat.reduceEqDiff, if_true, if_false]; rfl)
       case h => (first | exact h1 ..))
    | ((first | refine s1_id ?_ | refine swp_id ?_ | refine sops_id ?_ | refine s2_id ?_); simp only [decide_eq_false h, one_at, go_sem, Nat.reduceEqDiff, Nat.reduceAdd, Nat.reduceSub, Nat.reduceMul, Nat.reduceLT, Nat.reduceLeDiff, ↓reduceIte, reduceCtorEq, List.reduceReplicate, Int.cast_ofNat_Int, Int.reduceEq, Int.reduceLT, Int.reduceLE, SV.ren, SV.renL, Cell.ren, Row.ren, renO, bk, back, outUpsFrom, Ints_ren])
    | (apply fs_nil <;> (try simp only [go_sem, resV, resS, SV.ren, SV.renL, Cell.ren, St.tmF, St.hpF, idx, renO, Row.ren, evS, slot, lookR, Nat.reduceEqDiff, ↓reduceIte, reduceCtorEq, if_true, if_false, Option.getD_some, Option.getD_none, List.map_cons, List.map_nil, sLoad, readAt, readNeed, Ints_ren, Ints_length, Ints_getD, and_true, true_and, List.getD_cons_zero, List.getD_cons_succ]) <;> (try rfl)))
theorem index1_spec (c : UInt8) (s : Str) (hs : s.length ≤ 9223372036854775807) : FnSpec Tryd.prog 54 [s1 s, s1 [c]] [] (i1 (Lib.indexByte s c)) [] := by
  have h1 := indexC_spec c s hs
  refine fnspec_of mixed TT_ok TT_cl ⟨fun _ => false, fun _ => [], 0, fun _ => false, fun _ => false⟩ Tryd.func54 rfl (by kernel_rfl) rfl 8 rfl [.tmp 4] rfl ?_
  simp only [go_sem, Nat.reduceEqDiff, Nat.reduceAdd, Nat.reduceSub, Nat.reduceMul, Nat.reduceLT, Nat.reduceLeDiff, ↓reduceIte, reduceCtorEq, List.reduceReplicate, Int.cast_ofNat_Int, Int.reduceEq, Int.reduceLT, Int.reduceLE]
  repeat' (first
    | (apply cl_plain
       case hs => rfl
       case ha => (simp only [List.map_cons, List.map_nil, prepV, prepC, idx, hpL', lookR, Nat.reduceEqDiff, if_true, if_false]; rfl)
       case h => (first | exact h1 ..))
    | ((first | refine s1_id ?_ | refine swp_id ?_ | refine sops_id ?_ | refine s2_id ?_); simp only [go_sem, Nat.reduceEqDiff, Nat.reduceAdd, Nat.reduceSub, Nat.reduceMul, Nat.reduceLT, Nat.reduceLeDiff, ↓reduceIte, reduceCtorEq, List.reduceReplicate, Int.cast_ofNat_Int, Int.reduceEq, Int.reduceLT, Int.reduceLE, SV.ren, SV.renL, Cell.ren, Row.ren, renO, bk, back, outUpsFrom, Ints_ren])
    | (apply fs_nil <;> (try simp only [go_sem, resV, resS, SV.ren, SV.renL, Cell.ren, St.tmF, St.hpF, idx, renO, Row.ren, evS, slot, lookR, Nat.reduceEqDiff, ↓reduceIte, reduceCtorEq, if_true, if_false, Option.getD_some, Option.getD_none, List.map_cons, List.map_nil, sLoad, readAt, readNeed, Ints_ren, Ints_length, Ints_getD, and_true, true_and, List.getD_cons_zero, List.getD_cons_succ]) <;> (try rfl)))
def spl (c : UInt8) : Str → Str → List Str
  | [], w => [w]
  | b :: r, w => if b = c then w :: spl c r [] else spl c r (w ++ [b])
theorem spl_len (c : UInt8) : ∀ s w, (spl c s w).length = cnt c s + 1
  | [], w => rfl
  | b :: r, w => by
    unfold spl cnt
    rw [List.count_cons]
    by_cases h : b = c
    · rw [if_pos h, List.length_cons, spl_len c r []]
      simp [h, cnt]
    · rw [if_neg h, spl_len c r _]
      simp [h, cnt]
theorem spl_cons (c b : UInt8) (r w : Str) : spl c (b :: r) w = if b = c then w :: spl c r [] else spl c r (w ++ [b]) := rfl
theorem spl_idx (c : UInt8) : ∀ s w, (Lib.indexByte s c < 0 ∧ Lib.indexByte s c = -1 ∧ spl c s w = [w ++ s] ∧ cnt c s = 0) ∨
    ∃ k : Nat, Lib.indexByte s c = k ∧ k < s.length ∧ spl c s w = (w ++ s.take k) :: spl c (s.drop (k + 1)) [] ∧ cnt c s = cnt c (s.drop (k + 1)) + 1
  | [], w => .inl ⟨by simp [Lib.indexByte], by simp [Lib.indexByte], by simp [spl], rfl⟩
  | b :: r, w => by
    by_cases h : b = c
    · refine .inr ⟨0, by simp [Lib.indexByte, h], by simp, ?_, ?_⟩
      · rw [spl_cons, if_pos h]
        simp
      · unfold cnt
        rw [List.count_cons]
        simp [h]
    · rcases spl_idx c r (w ++ [b]) with ⟨h1, h2, h3, h4⟩ | ⟨k, h1, h2, h3, h4⟩
      · refine .inl ⟨?_, ?_, ?_, ?_⟩
        · simp [Lib.indexByte, h, h2]
        · simp [Lib.indexByte, h, h2]
        · rw [spl_cons, if_neg h, h3]; simp
        · unfold cnt at h4 ⊢; rw [List.count_cons, h4]; simp [h]
      · refine .inr ⟨k + 1, ?_, by simp; omega, ?_, ?_⟩
        · simp only [Lib.indexByte, h, h1]
          simp
          exact fun e => absurd e h
        · rw [spl_cons, if_neg h, h3]; simp
        · unfold cnt at h4 ⊢; rw [List.count_cons, h4]; simp [h]
theorem cnt_le (c : UInt8) (s : Str) : cnt c s ≤ s.length := List.count_le_length
theorem strs_lay (ps : List Str) (n : Nat) (x : Str) : (ps ++ List.replicate (n + 1) []).set ps.length x = ps ++ [x] ++ List.replicate n [] := by
  rw [List.set_append_right _ _ (Nat.le_refl _), Nat.sub_self, List.replicate_succ, List.set_cons_zero]
  simp
set_option maxHeartbeats 8000000 in
theorem genSplit_spec (c : UInt8) (s : Str) (hs : s.length ≤ 1000000) : FnSpec Tryd.prog 43 [s1 s, s1 [c], i1 0, i1 (-1)] [] (gs (spl c s []) none) [] := by
  have h1 := count_spec c s (by omega)
  have hc := cnt_le c s
  have hm : min ((cnt c s : Int) + 1) ((s.length : Int) + 1) = (cnt c s : Int) + 1 := by omega
  have hm2 : (if (s.length : Int) + 1 < (cnt c s : Int) + 1 then (s.length : Int) + 1 else (cnt c s : Int) + 1) = (cnt c s : Int) + 1 := by rw [if_neg (by omega)]
  obtain ⟨N, hN⟩ : ∃ N, cnt c s = N := ⟨_, rfl⟩
  rw [hN] at h1 hc hm hm2
  refine fnspec_of mixed TT_ok TT_cl ⟨fun _ => false, fun _ => [], 0, fun _ => false, fun _ => false⟩ Tryd.func43 rfl (by kernel_rfl) rfl 66 rfl [.tmp 8] rfl ?_
  have hN1 : ((N : Int) + 1).toNat = N + 1 := by omega
  simp only [go_sem, Nat.reduceEqDiff, Nat.reduceAdd, Nat.reduceSub, Nat.reduceMul, Nat.reduceLT, Nat.reduceLeDiff, ↓reduceIte, reduceCtorEq, List.reduceReplicate, Int.cast_ofNat_Int, Int.reduceEq, Int.reduceLT, Int.reduceLE, hm2, hN1, Strs_rep]
  repeat' (first
    | with_reducible refine And.intro ?_ ?_
    | (intros; (try simp only [Bool.and_eq_true, Bool.or_eq_true, Bool.not_eq_true', Bool.not_eq_false', Bool.and_eq_false_iff, Bool.or_eq_false_iff, decide_eq_true_eq, decide_eq_false_iff_not] at *); omega)
    | (apply cl_plain
       case hs => rfl
       case ha => (simp only [List.map_cons, List.map_nil, prepV, prepC, idx, hpL', lookR, Nat.reduceEqDiff, if_true, if_false]; rfl)
       case h => (first | exact h1 ..))
    | ((first | refine s1_id ?_ | refine swp_id ?_ | refine sops_id ?_ | refine s2_id ?_); simp only [hm2, hN1, Strs_rep, go_sem, Nat.reduceEqDiff, Nat.reduceAdd, Nat.reduceSub, Nat.reduceMul, Nat.reduceLT, Nat.reduceLeDiff, ↓reduceIte, reduceCtorEq, List.reduceReplicate, Int.cast_ofNat_Int, Int.reduceEq, Int.reduceLT, Int.reduceLE, SV.ren, SV.renL, Cell.ren, Row.ren, renO, bk, back, outUpsFrom, Ints_ren]))
  refine w_loop (ι := List Str × Str) (fun p => ⟨[(0, s1 p.2), (1, s1 [c]), (2, i1 0), (3, i1 N), (9, .one (.osl 0 0 (N + 1) (some (N + 1)))), (10, i1 p.1.length)], [(0, some ⟨Strs (p.1 ++ List.replicate (N + 1 - p.1.length) []), 1⟩)], 1⟩) (fun p => p.1.length ≤ N ∧ p.2.length ≤ s.length ∧ spl c s [] = p.1 ++ spl c p.2 [] ∧ cnt c p.2 = N - p.1.length) (fun p => N - p.1.length) ([], s) ?_ ⟨Nat.zero_le _, Nat.le_refl _, rfl, hN⟩ ?_
  · (refine imp_ren _ _ _ [(0, 19, ⟨Strs (List.replicate (N + 1) []), 1⟩)] (by simp) (by simp) (by simp) (Nat.le_of_ble_eq_true rfl) ?_ rfl (by simp only [List.forall_mem_cons, List.not_mem_nil, false_implies, implies_true, and_true, St.hpF, lookR, Nat.reduceEqDiff, if_true, if_false, ↓reduceIte, Strs_flat] <;> (repeat' apply And.intro) <;> (first | rfl | trivial)) (by simp only [List.forall_mem_cons, List.not_mem_nil, false_implies, implies_true, and_true, true_and, flat_cons, flat_nil, flat_ints, flat_bools, flat_app, Cell.refs, and_self, eq_self_iff_true, List.append_nil, Strs_flat]); simp only [List.map_cons, List.map_nil, List.forall_mem_cons, List.not_mem_nil, false_implies, implies_true, and_true, lk, slot, SV.ren, Cell.ren, toN, Nat.reduceEqDiff, if_true, if_false, ↓reduceIte, reduceCtorEq])
    all_goals ((repeat' apply And.intro) <;> (first | rfl | trivial))
  clear h1 hm hm2
  rintro ⟨ps, r⟩ ⟨hp, hr, hsp, hct⟩
  simp only at hp hr hsp hct ⊢
  rcases Nat.lt_or_ge ps.length N with hlt | hge
  · have hlt' : (ps.length : Int) < (N : Int) := by omega
    have h2 := index1_spec c r (by omega)
    rcases spl_idx c r [] with ⟨_, _, _, h0⟩ | ⟨k, e1, e2, e3, e4⟩
    · omega
    rw [e1] at h2
    have hk0 : ¬ (k : Int) < 0 := by omega
    obtain ⟨n, hn⟩ : ∃ n, N + 1 - ps.length = n + 1 := ⟨N - ps.length, by omega⟩
    have hlay := strs_lay ps n (r.take k)
    have hkn : ((k : Int) + 1).toNat = k + 1 := by omega
    have hpl : ps.length < N + 1 := by omega
    rw [hn]
    simp only [go_sem, Nat.reduceEqDiff, Nat.reduceAdd, Nat.reduceSub, Nat.reduceMul, Nat.reduceLT, Nat.reduceLeDiff, ↓reduceIte, reduceCtorEq, List.reduceReplicate, Int.cast_ofNat_Int, Int.reduceEq, Int.reduceLT, Int.reduceLE, decide_eq_true hlt', decide_eq_false hk0, hlay, hkn, List.take_length, Int.add_zero]
    repeat' (first
    | with_reducible refine And.intro ?_ ?_
    | (intros; (try simp only [Bool.and_eq_true, Bool.or_eq_true, Bool.not_eq_true', Bool.not_eq_false', Bool.and_eq_false_iff, Bool.or_eq_false_iff, decide_eq_true_eq, decide_eq_false_iff_not] at *); omega)
    | (apply cl_plain
       case hs => rfl
       case ha => (simp only [List.map_cons, List.map_nil, prepV, prepC, idx, hpL', lookR, Nat.reduceEqDiff, if_true, if_false]; rfl)
       case h => (first | exact h2 ..))
    | ((first | refine s1_id ?_ | refine swp_id ?_ | refine sops_id ?_ | refine s2_id ?_); simp only [decide_eq_true hlt', decide_eq_false hk0, hlay, hkn, List.take_length, Int.add_zero, go_sem, Nat.reduceEqDiff, Nat.reduceAdd, Nat.reduceSub, Nat.reduceMul, Nat.reduceLT, Nat.reduceLeDiff, ↓reduceIte, reduceCtorEq, List.reduceReplicate, Int.cast_ofNat_Int, Int.reduceEq, Int.reduceLT, Int.reduceLE, SV.ren, SV.renL, Cell.ren, Row.ren, renO, bk, back, outUpsFrom, Ints_ren]))
    refine le_mk (ps ++ [r.take k], r.drop (k + 1)) ?_ ⟨by simp; omega, by simp; omega, by rw [hsp, e3]; simp, by simp; omega⟩ (by show N - (ps ++ [r.take k]).length < N - ps.length; simp; omega)
    have hn2 : N + 1 - (ps ++ [r.take k]).length = n := by simp; omega
    have hl2 : ((ps ++ [r.take k]).length : Int) = (ps.length : Int) + 1 := by simp
    simp only [hn2, hl2]
    (refine imp_ren _ _ _ [(0, 0, ⟨Strs (ps ++ [r.take k] ++ List.replicate n []), 1⟩)] (by simp) (by simp) (by simp) (Nat.le_of_ble_eq_true rfl) ?_ rfl (by simp only [List.forall_mem_cons, List.not_mem_nil, false_implies, implies_true, and_true, St.hpF, lookR, Nat.reduceEqDiff, if_true, if_false, ↓reduceIte, Strs_flat] <;> (repeat' apply And.intro) <;> (first | rfl | trivial)) (by simp only [List.forall_mem_cons, List.not_mem_nil, false_implies, implies_true, and_true, true_and, flat_cons, flat_nil, flat_ints, flat_bools, flat_app, Cell.refs, and_self, eq_self_iff_true, List.append_nil, Strs_flat]); simp only [List.map_cons, List.map_nil, List.forall_mem_cons, List.not_mem_nil, false_implies, implies_true, and_true, lk, slot, SV.ren, Cell.ren, toN, Nat.reduceEqDiff, if_true, if_false, ↓reduceIte, reduceCtorEq])
    all_goals ((repeat' apply And.intro) <;> (first | rfl | trivial | (simp only [Int.natCast_add]; done) | (simp only [Int.natCast_add]; rfl) | (simp only [Int.natCast_add]; trivial)))
  · have hlt' : ¬ (ps.length : Int) < (N : Int) := by omega
    have ep : ps.length = N := by omega
    have h0 : cnt c r = 0 := by omega
    have hsr : spl c r [] = [r] := by
      rcases spl_idx c r [] with ⟨_, _, h3, _⟩ | ⟨k, _, _, _, e4⟩
      · exact h3
      · omega
    have hlay := strs_lay ps 0 r
    rw [hsr] at hsp
    have hl3 : (ps ++ [r]).length = N + 1 := by simp; omega
    rw [hsp, gs, hl3]
    have hn3 : N + 1 - ps.length = 0 + 1 := by omega
    have hN2 : (N : Int) + 1 ≤ ((N + 1 : Nat) : Int) := by omega
    simp only [hn3]
    simp only [go_sem, Nat.reduceEqDiff, Nat.reduceAdd, Nat.reduceSub, Nat.reduceMul, Nat.reduceLT, Nat.reduceLeDiff, ↓reduceIte, reduceCtorEq, List.reduceReplicate, Int.cast_ofNat_Int, Int.reduceEq, Int.reduceLT, Int.reduceLE, decide_eq_false hlt', hlay, List.replicate_zero, List.append_nil, ep, hN1]
    repeat' (first
    | with_reducible refine And.intro ?_ ?_
    | (intros; (try simp only [Bool.and_eq_true, Bool.or_eq_true, Bool.not_eq_true', Bool.not_eq_false', Bool.and_eq_false_iff, Bool.or_eq_false_iff, decide_eq_true_eq, decide_eq_false_iff_not] at *); omega)
    | (refine gt_if (fun h => ?_) (fun h => ?_) <;> (try simp only [h]))
    | ((first | refine s1_id ?_ | refine swp_id ?_ | refine sops_id ?_ | refine s2_id ?_); simp only [decide_eq_false hlt', hlay, List.replicate_zero, List.append_nil, ep, hN1, go_sem, Nat.reduceEqDiff, Nat.reduceAdd, Nat.reduceSub, Nat.reduceMul, Nat.reduceLT, Nat.reduceLeDiff, ↓reduceIte, reduceCtorEq, List.reduceReplicate, Int.cast_ofNat_Int, Int.reduceEq, Int.reduceLT, Int.reduceLE, SV.ren, SV.renL, Cell.ren, Row.ren, renO, bk, back, outUpsFrom, Ints_ren]))
    all_goals try (intro row hrow; cases hrow; rfl)
    have hlay2 : (ps ++ [[]]).set N r = ps ++ [r] := by rw [← ep, List.set_append_right _ _ (Nat.le_refl _), Nat.sub_self]; rfl
    rw [hlay2]
    refine fs_res (res0 := .one (.gsl (Strs (ps ++ [r])) 0 (N + 1) (some (N + 1)))) (svw_of (cw_cap _ _ _ _)) ?_
    (refine fs_frz 0 ⟨Strs (ps ++ [r]), 1⟩ (by simp only [St.hpF, lookR, Nat.reduceEqDiff, if_true, if_false, ↓reduceIte]) (by first | exact Ints_isG _ | exact Bools_isG _ | exact Strs_isG _ | (simp [Cell.isG]; done)) ?_; simp only [frzTm, SV.frz, SV.frzL, Cell.frz, frzHp, frzO, Ints_frz, Bools_frz, List.map_cons, List.map_nil, Nat.reduceEqDiff, if_true, if_false, ↓reduceIte])
    apply fs_nil <;> (try simp only [go_sem, resV, resS, SV.ren, SV.renL, Cell.ren, St.tmF, St.hpF, idx, renO, Row.ren, evS, slot, lookR, Nat.reduceEqDiff, ↓reduceIte, reduceCtorEq, if_true, if_false, Option.getD_some, Option.getD_none, List.map_cons, List.map_nil, sLoad, readAt, readNeed, Ints_ren, Ints_length, Ints_getD, and_true, true_and, List.getD_cons_zero, List.getD_cons_succ]) <;> (try rfl)
theorem split_spec (c : UInt8) (s : Str) (hs : s.length ≤ 1000000) : FnSpec Tryd.prog 31 [s1 s, s1 [c]] [] (gs (spl c s []) none) [] := by
  have h1 := genSplit_spec c s hs
  refine fnspec_of mixed TT_ok TT_cl ⟨fun _ => false, fun _ => [], 0, fun _ => false, fun _ => false⟩ Tryd.func31 rfl (by kernel_rfl) rfl 8 rfl [.tmp 4] rfl ?_
  simp only [go_sem, Nat.reduceEqDiff, Nat.reduceAdd, Nat.reduceSub, Nat.reduceMul, Nat.reduceLT, Nat.reduceLeDiff, ↓reduceIte, reduceCtorEq, List.reduceReplicate, Int.cast_ofNat_Int, Int.reduceEq, Int.reduceLT, Int.reduceLE]
  repeat' (first
    | (apply cl_plain
       case hs => rfl
       case ha => (simp only [List.map_cons, List.map_nil, prepV, prepC, idx, hpL', lookR, Nat.reduceEqDiff, if_true, if_false]; rfl)
       case h => (first | exact h1 ..))
    | ((first | refine s1_id ?_ | refine swp_id ?_ | refine sops_id ?_ | refine s2_id ?_); simp only [go_sem, Nat.reduceEqDiff, Nat.reduceAdd, Nat.reduceSub, Nat.reduceMul, Nat.reduceLT, Nat.reduceLeDiff, ↓reduceIte, reduceCtorEq, List.reduceReplicate, Int.cast_ofNat_Int, Int.reduceEq, Int.reduceLT, Int.reduceLE, SV.ren, SV.renL, Cell.ren, Row.ren, renO, bk, back, outUpsFrom, Ints_ren])
    | (apply fs_nil <;> (try simp only [go_sem, resV, resS, SV.ren, SV.renL, Cell.ren, St.tmF, St.hpF, idx, renO, Row.ren, evS, slot, lookR, Nat.reduceEqDiff, ↓reduceIte, reduceCtorEq, if_true, if_false, Option.getD_some, Option.getD_none, List.map_cons, List.map_nil, sLoad, readAt, readNeed, Ints_ren, Ints_length, Ints_getD, and_true, true_and, List.getD_cons_zero, List.getD_cons_succ]) <;> (try rfl)))
end Go.Proofs.YtfkcolodbjonkaaDoor
