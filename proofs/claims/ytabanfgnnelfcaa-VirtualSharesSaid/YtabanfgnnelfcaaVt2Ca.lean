/- Contracts of functions, told of values, on the way to VirtualShares. -/
import Derived.Test.YtabanfgnnelfcaaTyCa
import Derived.Test.YtabanfgnnelfcaaVt1Ca
-- NEWGO
-- PRUNE: cl_lendx cl_use cg_ts cg_show
-- FLAT: Its_flat
namespace Go.Proofs.Ytabanfgnnelfcaa
set_option linter.unusedVariables false
set_option linter.unusedSimpArgs false
open Go.Proofs.Ytabanfgnnelfcaa.Sh
set_option maxRecDepth 20000
def lendI (f : Nat) : List Nat := if f = 65 then [0, 1] else []
set_option maxHeartbeats 4000000 in
theorem insert_spec (l : List It) (k : Nat) (x : It) (hk : k ≤ l.length) (hl : l.length ≤ 1000) : FnSpec Try.prog 54 [.one (.osl 0 0 l.length none), i1 k, .one (.osl 1 0 1 (some 1))] [⟨Its l, 4⟩, ⟨itc x, 4⟩] (.one (.gsl (Its (l.take k ++ [x] ++ l.drop k)) 0 (l.length + 1) none)) [none, some ⟨itc x, 4⟩] := by
  refine FnSpec.capk (fun c hc => ?_)
  have hil := Its_len l
  have hts : List.take (l.length * 4) (Its l) = Its l := List.take_of_length_le (by rw [Its_len]; exact Nat.le_refl _)
  have ho : Its [x] = itc x := rfl
  have hap : Its l ++ itc x = Its (l ++ [x]) := by rw [Its_one, Its_app]
  rcases Nat.eq_or_lt_of_le hk with hk' | hk'
  · subst hk'
    have hle : List.take l.length l ++ [x] ++ List.drop l.length l = l ++ [x] := by simp
    rw [hle]
    have hlay : layAt (Its l) (l.length * 4) (itc x) = Its (l ++ [x]) := by
      rw [← ho, lay_its l [x] l.length _ rfl, List.drop_of_length_le (by simp), List.take_length]; simp
    cases c with
    | zero =>
      have hn : l = [] := List.length_eq_zero_iff.1 (by omega)
      subst hn
      refine fnspec_of mixed TT_ok TT_cl ⟨fun _ => false, lendI, 2, fun _ => false, fun _ => false⟩ Try.func54 rfl (by kernel_rfl) rfl 95 rfl [.tmp 6] rfl ?_
      simp only [go_sem, Nat.reduceEqDiff, Nat.reduceAdd, Nat.reduceSub, Nat.reduceMul, Nat.reduceLT, Nat.reduceLeDiff, ↓reduceIte, reduceCtorEq, List.reduceReplicate, Int.cast_ofNat_Int, Int.reduceEq, Int.reduceLT, Int.reduceLE, lendI]
      repeat' (first
    | with_reducible refine And.intro ?_ ?_
    | ((first | refine s1_id ?_ | refine swp_id ?_ | refine sops_id ?_ | refine s2_id ?_); simp only [lendI, go_sem, Nat.reduceEqDiff, Nat.reduceAdd, Nat.reduceSub, Nat.reduceMul, Nat.reduceLT, Nat.reduceLeDiff, ↓reduceIte, reduceCtorEq, List.reduceReplicate, Int.cast_ofNat_Int, Int.reduceEq, Int.reduceLT, Int.reduceLE, SV.ren, SV.renL, Cell.ren, Row.ren, renO, bk, back, outUpsFrom, Ints_ren]))
      all_goals try (intro row hrow; cases hrow; rfl)
      refine fs_frz 19 ⟨Its [x], 4⟩ (by first | (simp only [St.hpF, lookR, Nat.reduceEqDiff, if_true, if_false, ↓reduceIte, reduceCtorEq]; done) | rfl) (Its_isG _) ?_
      simp only [frzTm, SV.frz, SV.frzL, Cell.frz, frzHp, frzO, Its_frz, List.map_cons, List.map_nil, Nat.reduceEqDiff, if_true, if_false, ↓reduceIte]
      refine fs_frz 0 ⟨Its [], 4⟩ (by first | (simp only [St.hpF, lookR, Nat.reduceEqDiff, if_true, if_false, ↓reduceIte, reduceCtorEq]; done) | rfl) (Its_isG _) ?_
      simp only [frzTm, SV.frz, SV.frzL, Cell.frz, frzHp, frzO, Its_frz, List.map_cons, List.map_nil, Nat.reduceEqDiff, if_true, if_false, ↓reduceIte]
      (refine fs_mk [0, 1] (by simp) (by decide) (by simp only [go_sem, resV, resS, SV.ren, SV.renL, Cell.ren, St.tmF, St.hpF, idx, renO, Row.ren, evS, slot, lookR, Nat.reduceEqDiff, ↓reduceIte, reduceCtorEq, if_true, if_false, Option.getD_some, Option.getD_none, List.map_cons, List.map_nil, sLoad, readAt, readNeed, Ints_ren, Ints_length, Ints_getD, and_true, true_and, List.getD_cons_zero, List.getD_cons_succ]; try decide) ?_ ?_ ?_ <;> (try simp only [go_sem, resV, resS, SV.ren, SV.renL, Cell.ren, St.tmF, St.hpF, idx, renO, Row.ren, evS, slot, lookR, Nat.reduceEqDiff, ↓reduceIte, reduceCtorEq, if_true, if_false, Option.getD_some, Option.getD_none, List.map_cons, List.map_nil, sLoad, readAt, readNeed, Ints_ren, Ints_length, Ints_getD, and_true, true_and, List.getD_cons_zero, List.getD_cons_succ, St.hpF, lookR, renO, Row.ren, Cell.ren, idx, List.map_cons, List.map_nil, Ints_ren, List.forall_mem_cons, List.not_mem_nil, false_implies, implies_true, Option.some.injEq, forall_eq', and_true, true_and, frzHp, frzO, Its_ren, Its_flat]) <;> (try rfl) <;> (try ((repeat' apply And.intro) <;> (first | trivial | exact fun c hc q hq => absurd hq (Ints_refs0 _ _ c hc) | (simp [Cell.refs]; done)))))
    | succ c =>
      by_cases hr : l.length + 1 ≤ c + 1
      · refine fnspec_of mixed TT_ok TT_cl ⟨fun _ => false, lendI, 2, fun _ => false, fun _ => false⟩ Try.func54 rfl (by kernel_rfl) rfl 95 rfl [.tmp 6] rfl ?_
        simp only [go_sem, Nat.reduceEqDiff, Nat.reduceAdd, Nat.reduceSub, Nat.reduceMul, Nat.reduceLT, Nat.reduceLeDiff, ↓reduceIte, reduceCtorEq, List.reduceReplicate, Int.cast_ofNat_Int, Int.reduceEq, Int.reduceLT, Int.reduceLE, lendI, hr, hts, hil, hlay]
        repeat' (first
    | with_reducible refine And.intro ?_ ?_
    | (intros; (try simp only [Bool.and_eq_true, Bool.or_eq_true, Bool.not_eq_true', Bool.not_eq_false', Bool.and_eq_false_iff, Bool.or_eq_false_iff, decide_eq_true_eq, decide_eq_false_iff_not] at *); omega)
    | ((first | refine s1_id ?_ | refine swp_id ?_ | refine sops_id ?_ | refine s2_id ?_); simp only [lendI, hr, hts, hil, hlay, go_sem, Nat.reduceEqDiff, Nat.reduceAdd, Nat.reduceSub, Nat.reduceMul, Nat.reduceLT, Nat.reduceLeDiff, ↓reduceIte, reduceCtorEq, List.reduceReplicate, Int.cast_ofNat_Int, Int.reduceEq, Int.reduceLT, Int.reduceLE, SV.ren, SV.renL, Cell.ren, Row.ren, renO, bk, back, outUpsFrom, Ints_ren]))
        all_goals try (intro row hrow; cases hrow; rfl)
        refine fs_res (res0 := .one (.gsl (Its (l ++ [x])) 0 (l.length + 1) (some (c + 1)))) (svw_of (by exact cw_cap _ _ _ _)) ?_
        refine fs_frz 0 ⟨Its (l ++ [x]), 4⟩ (by first | (simp only [St.hpF, lookR, Nat.reduceEqDiff, if_true, if_false, ↓reduceIte, reduceCtorEq]; done) | rfl) (Its_isG _) ?_
        simp only [frzTm, SV.frz, SV.frzL, Cell.frz, frzHp, frzO, Its_frz, List.map_cons, List.map_nil, Nat.reduceEqDiff, if_true, if_false, ↓reduceIte]
        (refine fs_mk [0, 1] (by simp) (by decide) (by simp only [go_sem, resV, resS, SV.ren, SV.renL, Cell.ren, St.tmF, St.hpF, idx, renO, Row.ren, evS, slot, lookR, Nat.reduceEqDiff, ↓reduceIte, reduceCtorEq, if_true, if_false, Option.getD_some, Option.getD_none, List.map_cons, List.map_nil, sLoad, readAt, readNeed, Ints_ren, Ints_length, Ints_getD, and_true, true_and, List.getD_cons_zero, List.getD_cons_succ]; try decide) ?_ ?_ ?_ <;> (try simp only [go_sem, resV, resS, SV.ren, SV.renL, Cell.ren, St.tmF, St.hpF, idx, renO, Row.ren, evS, slot, lookR, Nat.reduceEqDiff, ↓reduceIte, reduceCtorEq, if_true, if_false, Option.getD_some, Option.getD_none, List.map_cons, List.map_nil, sLoad, readAt, readNeed, Ints_ren, Ints_length, Ints_getD, and_true, true_and, List.getD_cons_zero, List.getD_cons_succ, St.hpF, lookR, renO, Row.ren, Cell.ren, idx, List.map_cons, List.map_nil, Ints_ren, List.forall_mem_cons, List.not_mem_nil, false_implies, implies_true, Option.some.injEq, forall_eq', and_true, true_and, frzHp, frzO, Its_ren, Its_flat]) <;> (try rfl) <;> (try ((repeat' apply And.intro) <;> (first | trivial | exact fun c hc q hq => absurd hq (Ints_refs0 _ _ c hc) | (simp [Cell.refs]; done)))))
      · refine fnspec_of mixed TT_ok TT_cl ⟨fun _ => false, lendI, 2, fun _ => false, fun _ => false⟩ Try.func54 rfl (by kernel_rfl) rfl 95 rfl [.tmp 6] rfl ?_
        simp only [go_sem, Nat.reduceEqDiff, Nat.reduceAdd, Nat.reduceSub, Nat.reduceMul, Nat.reduceLT, Nat.reduceLeDiff, ↓reduceIte, reduceCtorEq, List.reduceReplicate, Int.cast_ofNat_Int, Int.reduceEq, Int.reduceLT, Int.reduceLE, lendI, hr, hts, hil, hap]
        repeat' (first
    | with_reducible refine And.intro ?_ ?_
    | (intros; (try simp only [Bool.and_eq_true, Bool.or_eq_true, Bool.not_eq_true', Bool.not_eq_false', Bool.and_eq_false_iff, Bool.or_eq_false_iff, decide_eq_true_eq, decide_eq_false_iff_not] at *); omega)
    | ((first | refine s1_id ?_ | refine swp_id ?_ | refine sops_id ?_ | refine s2_id ?_); simp only [lendI, hr, hts, hil, hap, go_sem, Nat.reduceEqDiff, Nat.reduceAdd, Nat.reduceSub, Nat.reduceMul, Nat.reduceLT, Nat.reduceLeDiff, ↓reduceIte, reduceCtorEq, List.reduceReplicate, Int.cast_ofNat_Int, Int.reduceEq, Int.reduceLT, Int.reduceLE, SV.ren, SV.renL, Cell.ren, Row.ren, renO, bk, back, outUpsFrom, Ints_ren]))
        all_goals try (intro row hrow; cases hrow; rfl)
        refine fs_frz 19 ⟨Its (l ++ [x]), 4⟩ (by first | (simp only [St.hpF, lookR, Nat.reduceEqDiff, if_true, if_false, ↓reduceIte, reduceCtorEq]; done) | rfl) (Its_isG _) ?_
        simp only [frzTm, SV.frz, SV.frzL, Cell.frz, frzHp, frzO, Its_frz, List.map_cons, List.map_nil, Nat.reduceEqDiff, if_true, if_false, ↓reduceIte]
        refine fs_frz 0 ⟨Its l, 4⟩ (by first | (simp only [St.hpF, lookR, Nat.reduceEqDiff, if_true, if_false, ↓reduceIte, reduceCtorEq]; done) | rfl) (Its_isG _) ?_
        simp only [frzTm, SV.frz, SV.frzL, Cell.frz, frzHp, frzO, Its_frz, List.map_cons, List.map_nil, Nat.reduceEqDiff, if_true, if_false, ↓reduceIte]
        (refine fs_mk [0, 1] (by simp) (by decide) (by simp only [go_sem, resV, resS, SV.ren, SV.renL, Cell.ren, St.tmF, St.hpF, idx, renO, Row.ren, evS, slot, lookR, Nat.reduceEqDiff, ↓reduceIte, reduceCtorEq, if_true, if_false, Option.getD_some, Option.getD_none, List.map_cons, List.map_nil, sLoad, readAt, readNeed, Ints_ren, Ints_length, Ints_getD, and_true, true_and, List.getD_cons_zero, List.getD_cons_succ]; try decide) ?_ ?_ ?_ <;> (try simp only [go_sem, resV, resS, SV.ren, SV.renL, Cell.ren, St.tmF, St.hpF, idx, renO, Row.ren, evS, slot, lookR, Nat.reduceEqDiff, ↓reduceIte, reduceCtorEq, if_true, if_false, Option.getD_some, Option.getD_none, List.map_cons, List.map_nil, sLoad, readAt, readNeed, Ints_ren, Ints_length, Ints_getD, and_true, true_and, List.getD_cons_zero, List.getD_cons_succ, St.hpF, lookR, renO, Row.ren, Cell.ren, idx, List.map_cons, List.map_nil, Ints_ren, List.forall_mem_cons, List.not_mem_nil, false_implies, implies_true, Option.some.injEq, forall_eq', and_true, true_and, frzHp, frzO, Its_ren, Its_flat]) <;> (try rfl) <;> (try ((repeat' apply And.intro) <;> (first | trivial | exact fun c hc q hq => absurd hq (Ints_refs0 _ _ c hc) | (simp [Cell.refs]; done)))))
  · obtain ⟨c, rfl⟩ : ∃ c', c = c' + 1 := ⟨c - 1, by omega⟩
    have hki : ¬ (k : Int) = (l.length : Int) := by omega
    have t0 : Int.toNat 0 = 0 := rfl
    have t1 : ((k : Int) + 1).toNat = k + 1 := by omega
    have t2 : ((l.length : Int) + 1).toNat = l.length + 1 := by omega
    have t3 : ((l.length : Int) + 1 - k).toNat = l.length + 1 - k := by omega
    have t4 : k + (l.length + 1 - k) = l.length + 1 := by omega
    have t5 : min 1 (l.length + 1 - k) = 1 := by omega
    have t6 : min (l.length - k) (l.length + 1 - (k + 1)) = l.length - k := by omega
    have t7 : min (l.length + 1 - k) (l.length + 1 - (k + 1)) = l.length - k := by omega
    have t8 : l.length + 1 - (k + 1) = l.length - k := by omega
    have hd2 : List.take ((l.length - k) * 4) (Its (l.drop k)) = Its (l.drop k) := List.take_of_length_le (by rw [Its_len, List.length_drop]; exact Nat.le_refl _)
    have hd3 : List.take ((l.length + 1 - k) * 4) (Its (l.drop k)) = Its (l.drop k) := List.take_of_length_le (by rw [Its_len, List.length_drop]; exact Nat.mul_le_mul_right _ (by omega))
    have hd4 : List.take (l.length - k) (l.drop k) = l.drop k := List.take_of_length_le (by rw [List.length_drop]; exact Nat.le_refl _)
    have hdl : (Its (l.drop k)).length = (l.length - k) * 4 := by rw [Its_len, List.length_drop]
    have htl : (Its (l.take k)).length = k * 4 := by rw [Its_len, List.length_take]; congr 1; omega
    by_cases hr : l.length + 1 ≤ c + 1
    · have hri : ¬ ((c + 1 : Nat) : Int) < (l.length : Int) + 1 := by omega
      have t9 : min (l.length + 1 - k) (l.length - k) = l.length - k := by omega
      have m1 : layAt (Its l) ((k + 1) * 4) (Its (l.drop k)) = Its (l.take (k + 1) ++ l.drop k) := by
        have e : l.drop (k + 1 + (l.drop k).length) = [] := List.drop_of_length_le (by rw [List.length_drop]; omega)
        rw [lay_its l (l.drop k) (k + 1) _ rfl, e, List.append_nil]
      have m2 : (Its (l.take (k + 1) ++ l.drop k)).length = (l.length + 1) * 4 := by
        rw [Its_len]; simp; omega
      have m3 : layAt (Its (l.take (k + 1) ++ l.drop k)) (k * 4) (itc x) = Its (l.take k ++ [x] ++ l.drop k) := by
        have e1 : (l.take (k + 1)).length = k + 1 := by rw [List.length_take]; omega
        rw [← ho, lay_its _ [x] k _ rfl]
        rw [List.take_append_of_le_length (by omega), List.take_take, Nat.min_eq_left (by omega)]
        rw [List.drop_append, List.drop_of_length_le (by rw [e1]; exact Nat.le_refl _), List.nil_append, e1]
        simp
      refine fnspec_of mixed TT_ok TT_cl ⟨fun _ => false, lendI, 2, fun _ => false, fun _ => false⟩ Try.func54 rfl (by kernel_rfl) rfl 95 rfl [.tmp 6] rfl ?_
      simp only [go_sem, Nat.reduceEqDiff, Nat.reduceAdd, Nat.reduceSub, Nat.reduceMul, Nat.reduceLT, Nat.reduceLeDiff, ↓reduceIte, reduceCtorEq, List.reduceReplicate, Int.cast_ofNat_Int, Int.reduceEq, Int.reduceLT, Int.reduceLE, lendI, hts, hil, decide_eq_false hki, decide_eq_false hri, t0, t1, t2, t3, t4, t5, t6, t7, t8, Nat.min_self, hd4, hd2, hd3, hdl, htl, Nat.zero_mul, Nat.sub_zero, Its_take, Its_drop, Its_app, Nat.one_mul, List.take_succ_cons, List.take_zero]
      repeat' (first
    | with_reducible refine And.intro ?_ ?_
    | (intros; (try simp only [Bool.and_eq_true, Bool.or_eq_true, Bool.not_eq_true', Bool.not_eq_false', Bool.and_eq_false_iff, Bool.or_eq_false_iff, decide_eq_true_eq, decide_eq_false_iff_not] at *); omega)
    | ((first | refine s1_id ?_ | refine swp_id ?_ | refine sops_id ?_ | refine s2_id ?_); simp only [lendI, hts, hil, decide_eq_false hki, decide_eq_false hri, t0, t1, t2, t3, t4, t5, t6, t7, t8, Nat.min_self, hd4, hd2, hd3, hdl, htl, Nat.zero_mul, Nat.sub_zero, Its_take, Its_drop, Its_app, Nat.one_mul, List.take_succ_cons, List.take_zero, go_sem, Nat.reduceEqDiff, Nat.reduceAdd, Nat.reduceSub, Nat.reduceMul, Nat.reduceLT, Nat.reduceLeDiff, ↓reduceIte, reduceCtorEq, List.reduceReplicate, Int.cast_ofNat_Int, Int.reduceEq, Int.reduceLT, Int.reduceLE, SV.ren, SV.renL, Cell.ren, Row.ren, renO, bk, back, outUpsFrom, Ints_ren]))
      all_goals try (intro row hrow; cases hrow; rfl)
      refine cl_ext (rows := [⟨itc x, 4⟩, ⟨Its l, 4⟩]) (res := b1 false) (outs := [some ⟨itc x, 4⟩, some ⟨Its l, 4⟩]) (overlaps_spec (fn := Try.f65) (tS := 27) (tR := 4) (e := 32) (sz := 4) Try.func65 (by kernel_rfl) (by kernel_rfl) (by kernel_rfl) (by kernel_rfl) Try.underlying27 (fun w => TIok.size w (TT_ok 32 _ rfl)) 0 1 ((k + 1) * 4) (l.length - k) (some 1) (some (c + 1 - (k + 1))) ⟨itc x, 4⟩ ⟨Its l, 4⟩ (by omega) (by omega) (by decide) ?_) ⟨by decide, ?_, ?_, Nat.le_refl _, .inl rfl⟩ rfl (by simp only [lentRows, List.map_cons, List.map_nil, hpL', lookR, Row.ren, Cell.ren, idx, Its_ren, Nat.reduceEqDiff, if_true, if_false, ↓reduceIte, reduceCtorEq]) ?_
      · intro e
        have : (Its l).length = 0 := by simp only at e; rw [e]; rfl
        omega
      · intro r hr2
        simp only [List.mem_cons, List.not_mem_nil, or_false] at hr2
        rcases hr2 with rfl | rfl
        · exact ⟨_, rfl, fun c hc q hq => by simp only [List.mem_cons, List.not_mem_nil, or_false] at hc; rcases hc with rfl | rfl | rfl | rfl <;> cases hq⟩
        · exact ⟨_, rfl, fun c hc q hq => absurd hq (by rw [Its_flat l c hc]; exact List.not_mem_nil)⟩
      · intro r hr2
        cases hr2
      simp only [go_sem, Nat.reduceEqDiff, Nat.reduceAdd, Nat.reduceSub, Nat.reduceMul, Nat.reduceLT, Nat.reduceLeDiff, ↓reduceIte, reduceCtorEq, List.reduceReplicate, Int.cast_ofNat_Int, Int.reduceEq, Int.reduceLT, Int.reduceLE, SV.ren, SV.renL, Cell.ren, Row.ren, renO, bk, back, outUpsFrom, Its_ren, t9, m1, m2, m3, t0, t1, t2, t3, t4, t5, t6, t7, t8, Nat.min_self, hd4, hd2, hd3, hdl, htl, Nat.zero_mul, Nat.sub_zero, Its_take, Its_drop, Its_app, Nat.one_mul, List.take_succ_cons, List.take_zero]
      repeat' (first
    | with_reducible refine And.intro ?_ ?_
    | (unfold OKC; kernel_rfl)
    | (unfold EDG; kernel_rfl)
    | (intros; (try simp only [Bool.and_eq_true, Bool.or_eq_true, Bool.not_eq_true', Bool.not_eq_false', Bool.and_eq_false_iff, Bool.or_eq_false_iff, decide_eq_true_eq, decide_eq_false_iff_not] at *); omega)
    | ((first | refine s1_id ?_ | refine swp_id ?_ | refine sops_id ?_ | refine s2_id ?_); simp only [lendI, hts, hil, decide_eq_false hki, decide_eq_false hri, t9, m1, m2, m3, t0, t1, t2, t3, t4, t5, t6, t7, t8, Nat.min_self, hd4, hd2, hd3, hdl, htl, Nat.zero_mul, Nat.sub_zero, Its_take, Its_drop, Its_app, Nat.one_mul, List.take_succ_cons, List.take_zero, go_sem, Nat.reduceEqDiff, Nat.reduceAdd, Nat.reduceSub, Nat.reduceMul, Nat.reduceLT, Nat.reduceLeDiff, ↓reduceIte, reduceCtorEq, List.reduceReplicate, Int.cast_ofNat_Int, Int.reduceEq, Int.reduceLT, Int.reduceLE, SV.ren, SV.renL, Cell.ren, Row.ren, renO, bk, back, outUpsFrom, Ints_ren]))
      all_goals try (intro row hrow; cases hrow; rfl)
      refine fs_res (res0 := .one (.gsl (Its (List.take k l ++ [x] ++ List.drop k l)) 0 (l.length + 1) (some (c + 1)))) (svw_of (by exact cw_cap _ _ _ _)) ?_
      refine fs_frz 0 ⟨Its (List.take k l ++ [x] ++ List.drop k l), 4⟩ (by first | (simp only [St.hpF, lookR, Nat.reduceEqDiff, if_true, if_false, ↓reduceIte, reduceCtorEq]; done) | rfl) (Its_isG _) ?_
      simp only [frzTm, SV.frz, SV.frzL, Cell.frz, frzHp, frzO, Its_frz, List.map_cons, List.map_nil, Nat.reduceEqDiff, if_true, if_false, ↓reduceIte]
      (refine fs_mk [0, 1] (by simp) (by decide) (by simp only [go_sem, resV, resS, SV.ren, SV.renL, Cell.ren, St.tmF, St.hpF, idx, renO, Row.ren, evS, slot, lookR, Nat.reduceEqDiff, ↓reduceIte, reduceCtorEq, if_true, if_false, Option.getD_some, Option.getD_none, List.map_cons, List.map_nil, sLoad, readAt, readNeed, Ints_ren, Ints_length, Ints_getD, and_true, true_and, List.getD_cons_zero, List.getD_cons_succ]; try decide) ?_ ?_ ?_ <;> (try simp only [go_sem, resV, resS, SV.ren, SV.renL, Cell.ren, St.tmF, St.hpF, idx, renO, Row.ren, evS, slot, lookR, Nat.reduceEqDiff, ↓reduceIte, reduceCtorEq, if_true, if_false, Option.getD_some, Option.getD_none, List.map_cons, List.map_nil, sLoad, readAt, readNeed, Ints_ren, Ints_length, Ints_getD, and_true, true_and, List.getD_cons_zero, List.getD_cons_succ, St.hpF, lookR, renO, Row.ren, Cell.ren, idx, List.map_cons, List.map_nil, Ints_ren, List.forall_mem_cons, List.not_mem_nil, false_implies, implies_true, Option.some.injEq, forall_eq', and_true, true_and, frzHp, frzO, Its_ren, Its_flat]) <;> (try rfl) <;> (try ((repeat' apply And.intro) <;> (first | trivial | exact fun c hc q hq => absurd hq (Ints_refs0 _ _ c hc) | (simp [Cell.refs]; done)))))
    · have hri : ((c + 1 : Nat) : Int) < (l.length : Int) + 1 := by omega
      have hz : (List.replicate (l.length + 1 - k) [Cell.sc (Value.int IntKind.i64 0), Cell.sc (Value.int IntKind.i64 0), Cell.sc (Value.int IntKind.i64 0), Cell.sc (Value.bool false)]).flatten = Its (List.replicate (l.length + 1 - k) zi) := by
        generalize l.length + 1 - k = m
        induction m with
        | zero => rfl
        | succ m ih => rw [List.replicate_succ, List.flatten_cons, ih, List.replicate_succ, Its, Its, List.flatMap_cons]; rfl
      have a1 : (List.take k l ++ List.replicate (l.length + 1 - k) zi).take k = l.take k := by
        rw [List.take_append_of_le_length (by rw [List.length_take]; omega), List.take_take, Nat.min_self]
      have hl1 : layAt (Its (List.take k l ++ List.replicate (l.length + 1 - k) zi)) (k * 4) (itc x) = Its (List.take k l ++ [x] ++ List.replicate (l.length - k) zi) := by
        rw [← ho, lay_its _ [x] k _ rfl, a1]
        congr 2
        rw [List.drop_append, List.drop_of_length_le (by rw [List.length_take]; simp only [List.length_cons, List.length_nil]; omega), List.nil_append, List.drop_replicate, List.length_take]
        congr 1
        simp only [List.length_cons, List.length_nil]
        omega
      have hl2 : layAt (Its (List.take k l ++ [x] ++ List.replicate (l.length - k) zi)) ((k + 1) * 4) (Its (l.drop k)) = Its (List.take k l ++ [x] ++ List.drop k l) := by
        have e1 : (List.take k l ++ [x]).length = k + 1 := by simp; omega
        have e2 : (List.take k l ++ [x] ++ List.replicate (l.length - k) zi).take (k + 1) = List.take k l ++ [x] := by
          rw [List.take_append_of_le_length (by omega), List.take_of_length_le (by omega)]
        have e3 : (List.take k l ++ [x] ++ List.replicate (l.length - k) zi).drop (k + 1 + (l.drop k).length) = [] := List.drop_of_length_le (by rw [List.length_append, e1, List.length_replicate, List.length_drop]; exact Nat.le_refl _)
        rw [lay_its _ _ (k + 1) _ rfl, e2, e3, List.append_nil]
      have hbl : (Its (List.take k l ++ [x] ++ List.replicate (l.length - k) zi)).length = (l.length + 1) * 4 := by
        rw [Its_len]; simp; omega
      have hal : (Its (List.take k l ++ List.replicate (l.length + 1 - k) zi)).length = (l.length + 1) * 4 := by
        rw [Its_len]; simp; omega
      refine fnspec_of mixed TT_ok TT_cl ⟨fun _ => false, lendI, 2, fun _ => false, fun _ => false⟩ Try.func54 rfl (by kernel_rfl) rfl 95 rfl [.tmp 6] rfl ?_
      simp only [go_sem, Nat.reduceEqDiff, Nat.reduceAdd, Nat.reduceSub, Nat.reduceMul, Nat.reduceLT, Nat.reduceLeDiff, ↓reduceIte, reduceCtorEq, List.reduceReplicate, Int.cast_ofNat_Int, Int.reduceEq, Int.reduceLT, Int.reduceLE, lendI, hts, hil, decide_eq_false hki, decide_eq_true hri, hz, hl1, hl2, hal, hbl, t0, t1, t2, t3, t4, t5, t6, t7, t8, Nat.min_self, hd4, hd2, hd3, hdl, htl, Nat.zero_mul, Nat.sub_zero, Its_take, Its_drop, Its_app, Nat.one_mul, List.take_succ_cons, List.take_zero]
      repeat' (first
    | with_reducible refine And.intro ?_ ?_
    | (unfold OKC; kernel_rfl)
    | (unfold EDG; kernel_rfl)
    | (intros; (try simp only [Bool.and_eq_true, Bool.or_eq_true, Bool.not_eq_true', Bool.not_eq_false', Bool.and_eq_false_iff, Bool.or_eq_false_iff, decide_eq_true_eq, decide_eq_false_iff_not] at *); omega)
    | ((first | refine s1_id ?_ | refine swp_id ?_ | refine sops_id ?_ | refine s2_id ?_); simp only [lendI, hts, hil, decide_eq_false hki, decide_eq_true hri, hz, hl1, hl2, hal, hbl, t0, t1, t2, t3, t4, t5, t6, t7, t8, Nat.min_self, hd4, hd2, hd3, hdl, htl, Nat.zero_mul, Nat.sub_zero, Its_take, Its_drop, Its_app, Nat.one_mul, List.take_succ_cons, List.take_zero, go_sem, Nat.reduceEqDiff, Nat.reduceAdd, Nat.reduceSub, Nat.reduceMul, Nat.reduceLT, Nat.reduceLeDiff, ↓reduceIte, reduceCtorEq, List.reduceReplicate, Int.cast_ofNat_Int, Int.reduceEq, Int.reduceLT, Int.reduceLE, SV.ren, SV.renL, Cell.ren, Row.ren, renO, bk, back, outUpsFrom, Ints_ren]))
      all_goals try (intro row hrow; cases hrow; rfl)
      all_goals try (intro row hrow; cases hrow; rfl)
      refine fs_frz 31 ⟨Its (List.take k l ++ [x] ++ List.drop k l), 4⟩ (by first | (simp only [St.hpF, lookR, Nat.reduceEqDiff, if_true, if_false, ↓reduceIte, reduceCtorEq]; done) | rfl) (Its_isG _) ?_
      simp only [frzTm, SV.frz, SV.frzL, Cell.frz, frzHp, frzO, Its_frz, List.map_cons, List.map_nil, Nat.reduceEqDiff, if_true, if_false, ↓reduceIte]
      refine fs_frz 0 ⟨Its l, 4⟩ (by first | (simp only [St.hpF, lookR, Nat.reduceEqDiff, if_true, if_false, ↓reduceIte, reduceCtorEq]; done) | rfl) (Its_isG _) ?_
      simp only [frzTm, SV.frz, SV.frzL, Cell.frz, frzHp, frzO, Its_frz, List.map_cons, List.map_nil, Nat.reduceEqDiff, if_true, if_false, ↓reduceIte]
      (refine fs_mk [0, 1] (by simp) (by decide) (by simp only [go_sem, resV, resS, SV.ren, SV.renL, Cell.ren, St.tmF, St.hpF, idx, renO, Row.ren, evS, slot, lookR, Nat.reduceEqDiff, ↓reduceIte, reduceCtorEq, if_true, if_false, Option.getD_some, Option.getD_none, List.map_cons, List.map_nil, sLoad, readAt, readNeed, Ints_ren, Ints_length, Ints_getD, and_true, true_and, List.getD_cons_zero, List.getD_cons_succ]; try decide) ?_ ?_ ?_ <;> (try simp only [go_sem, resV, resS, SV.ren, SV.renL, Cell.ren, St.tmF, St.hpF, idx, renO, Row.ren, evS, slot, lookR, Nat.reduceEqDiff, ↓reduceIte, reduceCtorEq, if_true, if_false, Option.getD_some, Option.getD_none, List.map_cons, List.map_nil, sLoad, readAt, readNeed, Ints_ren, Ints_length, Ints_getD, and_true, true_and, List.getD_cons_zero, List.getD_cons_succ, St.hpF, lookR, renO, Row.ren, Cell.ren, idx, List.map_cons, List.map_nil, Ints_ren, List.forall_mem_cons, List.not_mem_nil, false_implies, implies_true, Option.some.injEq, forall_eq', and_true, true_and, frzHp, frzO, Its_ren, Its_flat]) <;> (try rfl) <;> (try ((repeat' apply And.intro) <;> (first | trivial | exact fun c hc q hq => absurd hq (Ints_refs0 _ _ c hc) | (simp [Cell.refs]; done)))))
end Go.Proofs.Ytabanfgnnelfcaa
