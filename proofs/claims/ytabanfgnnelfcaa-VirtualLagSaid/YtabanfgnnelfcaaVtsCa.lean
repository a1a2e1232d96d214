/- Contracts of functions, told of values, on the way to VirtualLag. -/
import Derived.Test.YtabanfgnnelfcaaTyCa
import Derived.Test.YtabanfgnnelfcaaVtgCa
import Derived.Test.YtabanfgnnelfcaaVthCa
import Derived.Test.YtabanfgnnelfcaaVtrCa
-- NEWGO
-- PRUNE: cl_lendx
-- ISG: Its_isG
namespace Go.Proofs.Ytabanfgnnelfcaa
set_option linter.unusedVariables false
set_option linter.unusedSimpArgs false
open Go.Proofs.Ytabanfgnnelfcaa.Sh
set_option maxRecDepth 20000
set_option maxHeartbeats 40000000 in
theorem lag_spec (l : List Int) (hl : ∀ x ∈ l, -9223372036854775808 ≤ x ∧ x ≤ 9223372036854775807) : FnSpec Try.prog 7 [gi l none] [] (b1 true) [] := by
  by_cases hlen : (l.length : Int) ≤ 600
  case neg =>
    refine fnspec_of mixed TT_ok TT_cl ⟨fun _ => false, fun _ => [], 0, fun _ => false, fun _ => false⟩ Try.func7 rfl (by kernel_rfl) rfl 212 rfl [.tmp 2] rfl ?_
    simp only [go_sem, Nat.reduceEqDiff, Nat.reduceAdd, Nat.reduceSub, Nat.reduceMul, Nat.reduceLT, Nat.reduceLeDiff, ↓reduceIte, reduceCtorEq, List.reduceReplicate, Int.cast_ofNat_Int, Int.reduceEq, Int.reduceLT, Int.reduceLE]
    repeat' (first
    | (apply cl_plain
       case hs => rfl
       case ha => (simp only [List.map_cons, List.map_nil, prepV, prepC, idx, hpL', lookR, Nat.reduceEqDiff, if_true, if_false]; rfl)
       case h => (first | exact light_spec .. | exact sane_spec ..))
    | ((first | refine s1_id ?_ | refine swp_id ?_ | refine sops_id ?_ | refine s2_id ?_); simp only [decide_eq_false hlen, go_sem, Nat.reduceEqDiff, Nat.reduceAdd, Nat.reduceSub, Nat.reduceMul, Nat.reduceLT, Nat.reduceLeDiff, ↓reduceIte, reduceCtorEq, List.reduceReplicate, Int.cast_ofNat_Int, Int.reduceEq, Int.reduceLT, Int.reduceLE, SV.ren, SV.renL, Cell.ren, Row.ren, renO, bk, back, outUpsFrom, Ints_ren])
    | (apply fs_nil <;> (try simp only [go_sem, resV, resS, SV.ren, SV.renL, Cell.ren, St.tmF, St.hpF, idx, renO, Row.ren, evS, slot, lookR, Nat.reduceEqDiff, ↓reduceIte, reduceCtorEq, if_true, if_false, Option.getD_some, Option.getD_none, List.map_cons, List.map_nil, sLoad, readAt, readNeed, Ints_ren, Ints_length, Ints_getD, and_true, true_and, List.getD_cons_zero, List.getD_cons_succ]) <;> (try rfl)))
  have hl6 : l.length ≤ 600 := by omega
  have hQ := queue_spec l 0 14 hl6 hl (by omega)
  have hK := mkQ_ok l 0 14
  have hM := mkQ_max l 0 14 (by omega)
  generalize mkQ l 0 14 = T at *
  obtain ⟨⟨c, q⟩, j⟩ := T
  simp only at hK hQ hM
  have hqi := qck_iff hK
  have hil := Its_len q
  refine fnspec_of mixed TT_ok TT_cl ⟨fun _ => false, lendQ, 0, fun _ => false, fun _ => false⟩ Try.func7 rfl (by kernel_rfl) rfl 212 rfl [.tmp 2] rfl ?_
  simp only [go_sem, Nat.reduceEqDiff, Nat.reduceAdd, Nat.reduceSub, Nat.reduceMul, Nat.reduceLT, Nat.reduceLeDiff, ↓reduceIte, reduceCtorEq, List.reduceReplicate, Int.cast_ofNat_Int, Int.reduceEq, Int.reduceLT, Int.reduceLE, decide_eq_true hlen, lendQ]
  repeat' (first
    | (apply cl_plain
       case hs => rfl
       case ha => (simp only [List.map_cons, List.map_nil, prepV, prepC, idx, hpL', lookR, Nat.reduceEqDiff, if_true, if_false]; rfl)
       case h => (first | exact light_spec .. | exact roll_spec .. | exact hQ ..))
    | (apply cl_lend
       case hr => (simp only [List.map_cons, List.map_nil, hpL', lookR, Nat.reduceEqDiff, if_true, if_false]; first | exact map1 _ | exact map2 _ _ | exact map3 _ _ _)
       case ha => (simp only [List.map_cons, List.map_nil, prepV, prepC, idx, hpL', lookR, Nat.reduceEqDiff, if_true, if_false]; rfl)
       case hs => rfl
       case hn => decide
       case h => (first | exact light_spec .. | exact roll_spec .. | exact hQ ..)
       case hf => (simp only [List.forall_mem_cons, List.not_mem_nil, false_implies, implies_true, and_true, true_and, flat_cons, flat_nil, flat_ints, flat_bools, flat_app, Cell.refs, and_self, eq_self_iff_true, List.append_nil])
       case hl => (simp only [List.length_cons, List.length_nil]; decide))
    | ((first | refine s1_id ?_ | refine swp_id ?_ | refine sops_id ?_ | refine s2_id ?_); simp only [decide_eq_true hlen, lendQ, go_sem, Nat.reduceEqDiff, Nat.reduceAdd, Nat.reduceSub, Nat.reduceMul, Nat.reduceLT, Nat.reduceLeDiff, ↓reduceIte, reduceCtorEq, List.reduceReplicate, Int.cast_ofNat_Int, Int.reduceEq, Int.reduceLT, Int.reduceLE, SV.ren, SV.renL, Cell.ren, Row.ren, renO, bk, back, outUpsFrom, Ints_ren]))
  refine w_loop (ι := Nat) (fun i => ⟨[(3, dp), (4, .one (.optr 1 0)), (5, .one (.osl 2 0 (act q i).length none)), (40, i1 q.length), (41, i1 i)], [(0, some (dice l j)), (1, some ⟨[int c, .gsl (Its q) 0 q.length none], 2⟩), (2, some ⟨Ints (act q i), 1⟩)], 3⟩) (fun i => i ≤ q.length) (fun i => q.length - i) 0 ?_ (Nat.zero_le _) ?_
  · have e0 := act_zero q
    refine Imp.trans (imp_nil _ _ 5 1 rfl) ?_
    rw [e0]
    (refine imp_ren _ _ _ [(0, 5, dice l j), (1, 9, ⟨[int c, .gsl (Its q) 0 q.length none], 2⟩), (2, 16, ⟨[], 1⟩)] (by simp) (by simp) (by simp) (Nat.le_of_ble_eq_true rfl) ?_ rfl (by simp only [List.forall_mem_cons, List.not_mem_nil, false_implies, implies_true, and_true, St.hpF, lookR, Nat.reduceEqDiff, if_true, if_false, ↓reduceIte, dice] <;> (repeat' apply And.intro) <;> (first | rfl | trivial)) (by simp only [List.forall_mem_cons, List.not_mem_nil, false_implies, implies_true, and_true, true_and, flat_cons, flat_nil, flat_ints, flat_bools, flat_app, Cell.refs, and_self, eq_self_iff_true, List.append_nil, dice]); simp only [List.map_cons, List.map_nil, List.forall_mem_cons, List.not_mem_nil, false_implies, implies_true, and_true, lk, slot, SV.ren, Cell.ren, toN, Nat.reduceEqDiff, if_true, if_false, ↓reduceIte, reduceCtorEq])
    all_goals ((repeat' apply And.intro) <;> (first | rfl | trivial))
  clear hQ
  intro i hi
  simp only at hi ⊢
  have hal := act_len q i
  rcases Nat.lt_or_ge i q.length with hli | hge
  case inl =>
    have hli' : (i : Int) < (q.length : Int) := by omega
    have hf := Its_f q i hli (.sc (.int .i64 0))
    have hfb := (Its_f q i hli (.sc (.bool false))).2.2.2
    cases ha : (q.getD i zi).a with
    | false =>
      have e := act_no q i hli ha
      rw [ha] at hfb
      simp only [go_sem, Nat.reduceEqDiff, Nat.reduceAdd, Nat.reduceSub, Nat.reduceMul, Nat.reduceLT, Nat.reduceLeDiff, ↓reduceIte, reduceCtorEq, List.reduceReplicate, Int.cast_ofNat_Int, Int.reduceEq, Int.reduceLT, Int.reduceLE, decide_eq_true hli', lendQ, hf, hfb]
      repeat' (first
    | with_reducible refine And.intro ?_ ?_
    | (intros; (try simp only [Bool.and_eq_true, Bool.or_eq_true, Bool.not_eq_true', Bool.not_eq_false', Bool.and_eq_false_iff, Bool.or_eq_false_iff, decide_eq_true_eq, decide_eq_false_iff_not] at *); omega)
    | ((first | refine s1_id ?_ | refine swp_id ?_ | refine sops_id ?_ | refine s2_id ?_); simp only [decide_eq_true hli', lendQ, hf, hfb, go_sem, Nat.reduceEqDiff, Nat.reduceAdd, Nat.reduceSub, Nat.reduceMul, Nat.reduceLT, Nat.reduceLeDiff, ↓reduceIte, reduceCtorEq, List.reduceReplicate, Int.cast_ofNat_Int, Int.reduceEq, Int.reduceLT, Int.reduceLE, SV.ren, SV.renL, Cell.ren, Row.ren, renO, bk, back, outUpsFrom, Ints_ren]))
      refine le_mk (i + 1) ?_ (by omega) (by omega)
      rw [e]
      (refine imp_ren _ _ _ [(0, 0, dice l j), (1, 1, ⟨[int c, .gsl (Its q) 0 q.length none], 2⟩), (2, 2, ⟨Ints (act q i), 1⟩)] (by simp) (by simp) (by simp) (Nat.le_of_ble_eq_true rfl) ?_ rfl (by simp only [List.forall_mem_cons, List.not_mem_nil, false_implies, implies_true, and_true, St.hpF, lookR, Nat.reduceEqDiff, if_true, if_false, ↓reduceIte, dice] <;> (repeat' apply And.intro) <;> (first | rfl | trivial)) (by simp only [List.forall_mem_cons, List.not_mem_nil, false_implies, implies_true, and_true, true_and, flat_cons, flat_nil, flat_ints, flat_bools, flat_app, Cell.refs, and_self, eq_self_iff_true, List.append_nil, dice]); simp only [List.map_cons, List.map_nil, List.forall_mem_cons, List.not_mem_nil, false_implies, implies_true, and_true, lk, slot, SV.ren, Cell.ren, toN, Nat.reduceEqDiff, if_true, if_false, ↓reduceIte, reduceCtorEq])
      all_goals ((repeat' apply And.intro) <;> (first | rfl | trivial | (simp only [Int.natCast_add]; done) | (simp only [Int.natCast_add]; rfl) | (simp only [Int.natCast_add]; trivial)))
    | true =>
      have e := act_yes q i hli ha
      rw [ha] at hfb
      have hla : (act q i ++ [(q.getD i zi).i]).length = (act q i).length + 1 := by simp
      have hpp : Ints (act q i) ++ [int (q.getD i zi).i] = Ints (act q i ++ [(q.getD i zi).i]) := by simp [Ints]
      have htk : List.take (act q i).length (Ints (act q i)) = Ints (act q i) := List.take_of_length_le (by rw [Ints_length]; exact Nat.le_refl _)
      simp only [go_sem, Nat.reduceEqDiff, Nat.reduceAdd, Nat.reduceSub, Nat.reduceMul, Nat.reduceLT, Nat.reduceLeDiff, ↓reduceIte, reduceCtorEq, List.reduceReplicate, Int.cast_ofNat_Int, Int.reduceEq, Int.reduceLT, Int.reduceLE, decide_eq_true hli', lendQ, hf, hfb]
      repeat' (first
    | with_reducible refine And.intro ?_ ?_
    | (intros; (try simp only [Bool.and_eq_true, Bool.or_eq_true, Bool.not_eq_true', Bool.not_eq_false', Bool.and_eq_false_iff, Bool.or_eq_false_iff, decide_eq_true_eq, decide_eq_false_iff_not] at *); omega)
    | ((first | refine s1_id ?_ | refine swp_id ?_ | refine sops_id ?_ | refine s2_id ?_); simp only [decide_eq_true hli', lendQ, hf, hfb, hpp, htk, List.flatten_cons, List.flatten_nil, List.append_nil, List.cons_append, List.nil_append, List.set_cons_zero, List.set_cons_succ, go_sem, Nat.reduceEqDiff, Nat.reduceAdd, Nat.reduceSub, Nat.reduceMul, Nat.reduceLT, Nat.reduceLeDiff, ↓reduceIte, reduceCtorEq, List.reduceReplicate, Int.cast_ofNat_Int, Int.reduceEq, Int.reduceLT, Int.reduceLE, SV.ren, SV.renL, Cell.ren, Row.ren, renO, bk, back, outUpsFrom, Ints_ren]))
      refine le_mk (i + 1) ?_ (by omega) (by omega)
      rw [e, hla]
      (refine imp_ren _ _ _ [(0, 0, dice l j), (1, 1, ⟨[int c, .gsl (Its q) 0 q.length none], 2⟩), (2, 20, ⟨Ints (act q i ++ [(q.getD i zi).i]), 1⟩)] (by simp) (by simp) (by simp) (Nat.le_of_ble_eq_true rfl) ?_ rfl (by simp only [List.forall_mem_cons, List.not_mem_nil, false_implies, implies_true, and_true, St.hpF, lookR, Nat.reduceEqDiff, if_true, if_false, ↓reduceIte, dice] <;> (repeat' apply And.intro) <;> (first | rfl | trivial)) (by simp only [List.forall_mem_cons, List.not_mem_nil, false_implies, implies_true, and_true, true_and, flat_cons, flat_nil, flat_ints, flat_bools, flat_app, Cell.refs, and_self, eq_self_iff_true, List.append_nil, dice]); simp only [List.map_cons, List.map_nil, List.forall_mem_cons, List.not_mem_nil, false_implies, implies_true, and_true, lk, slot, SV.ren, Cell.ren, toN, Nat.reduceEqDiff, if_true, if_false, ↓reduceIte, reduceCtorEq])
      all_goals ((repeat' apply And.intro) <;> (first | rfl | trivial | (simp only [Int.natCast_add]; done) | (simp only [Int.natCast_add]; rfl) | (simp only [Int.natCast_add]; trivial)))
  have hli' : ¬ (i : Int) < (q.length : Int) := by omega
  have ei : i = q.length := by omega
  subst ei
  have hmem : ∀ d ∈ act q q.length, ∃ w, Hd q d w := fun d hd => act_mem hd
  generalize act q q.length = L at *
  by_cases h2 : (L.length : Int) < 2
  · simp only [go_sem, Nat.reduceEqDiff, Nat.reduceAdd, Nat.reduceSub, Nat.reduceMul, Nat.reduceLT, Nat.reduceLeDiff, ↓reduceIte, reduceCtorEq, List.reduceReplicate, Int.cast_ofNat_Int, Int.reduceEq, Int.reduceLT, Int.reduceLE, decide_eq_false hli', lendQ]
    repeat' (first
    | (intros; (try simp only [Bool.and_eq_true, Bool.or_eq_true, Bool.not_eq_true', Bool.not_eq_false', Bool.and_eq_false_iff, Bool.or_eq_false_iff, decide_eq_true_eq, decide_eq_false_iff_not] at *); omega)
    | (refine gt_if (fun h => ?_) (fun h => ?_) <;> (try simp only [h]))
    | (apply cl_plain
       case hs => rfl
       case ha => (simp only [List.map_cons, List.map_nil, prepV, prepC, idx, hpL', lookR, Nat.reduceEqDiff, if_true, if_false]; rfl)
       case h => (first | exact sane_spec ..))
    | ((first | refine s1_id ?_ | refine swp_id ?_ | refine sops_id ?_ | refine s2_id ?_); simp only [decide_eq_false hli', lendQ, decide_eq_true h2, go_sem, Nat.reduceEqDiff, Nat.reduceAdd, Nat.reduceSub, Nat.reduceMul, Nat.reduceLT, Nat.reduceLeDiff, ↓reduceIte, reduceCtorEq, List.reduceReplicate, Int.cast_ofNat_Int, Int.reduceEq, Int.reduceLT, Int.reduceLE, SV.ren, SV.renL, Cell.ren, Row.ren, renO, bk, back, outUpsFrom, Ints_ren])
    | (apply fs_nil <;> (try simp only [go_sem, resV, resS, SV.ren, SV.renL, Cell.ren, St.tmF, St.hpF, idx, renO, Row.ren, evS, slot, lookR, Nat.reduceEqDiff, ↓reduceIte, reduceCtorEq, if_true, if_false, Option.getD_some, Option.getD_none, List.map_cons, List.map_nil, sLoad, readAt, readNeed, Ints_ren, Ints_length, Ints_getD, and_true, true_and, List.getD_cons_zero, List.getD_cons_succ]) <;> (try rfl)))
  obtain ⟨a, hA⟩ : ∃ a, L.getD 0 0 = a := ⟨_, rfl⟩
  obtain ⟨b, hB⟩ : ∃ b, L.getD 1 0 = b := ⟨_, rfl⟩
  obtain ⟨wa, hda⟩ := hmem a (by rw [← hA, List.getD_eq_getElem?_getD, List.getElem?_eq_getElem (show 0 < L.length by omega)]; exact List.getElem_mem _)
  obtain ⟨wb, hdb⟩ := hmem b (by rw [← hB, List.getD_eq_getElem?_getD, List.getElem?_eq_getElem (show 1 < L.length by omega)]; exact List.getElem_mem _)
  obtain ⟨x0, hx0, hxw, x1, x2, x3⟩ := hd_fnd hK hda
  obtain ⟨y0, hy0, hyw, y1, y2, y3⟩ := hd_fnd hK hdb
  have f1 := rfind_spec c q none a (by omega)
  have f2 := rfind_spec c q none b (by omega)
  rw [hx0] at f1
  rw [hy0] at f2
  have hA' : L.getD (Int.toNat 0) 0 = a := hA
  have hB' : L.getD (Int.toNat 1) 0 = b := hB
  have hI : Inv a wa b wb 107374182400 c q := ⟨hK, hda, hdb, hM⟩
  have ca := cst_rng wa
  have cb := cst_rng wb
  have s7 := rcost_spec wa
  have s8 := rcost_spec wb
  simp only [go_sem, Nat.reduceEqDiff, Nat.reduceAdd, Nat.reduceSub, Nat.reduceMul, Nat.reduceLT, Nat.reduceLeDiff, ↓reduceIte, reduceCtorEq, List.reduceReplicate, Int.cast_ofNat_Int, Int.reduceEq, Int.reduceLT, Int.reduceLE, decide_eq_false hli', lendQ]
  repeat' (first
    | with_reducible refine And.intro ?_ ?_
    | (unfold OKC; kernel_rfl)
    | (unfold EDG; kernel_rfl)
    | (intros; (try simp only [Bool.and_eq_true, Bool.or_eq_true, Bool.not_eq_true', Bool.not_eq_false', Bool.and_eq_false_iff, Bool.or_eq_false_iff, decide_eq_true_eq, decide_eq_false_iff_not] at *); omega)
    | (refine gt_if (fun h => ?_) (fun h => ?_) <;> (try simp only [h]))
    | (apply cl_plain
       case hs => rfl
       case ha => (simp only [List.map_cons, List.map_nil, prepV, prepC, idx, hpL', lookR, Nat.reduceEqDiff, if_true, if_false]; rfl)
       case h => (first | exact f1 .. | exact f2 ..))
    | ((first | refine s1_id ?_ | refine swp_id ?_ | refine sops_id ?_ | refine s2_id ?_); simp only [decide_eq_false hli', lendQ, decide_eq_false h2, hA', hB', go_sem, Nat.reduceEqDiff, Nat.reduceAdd, Nat.reduceSub, Nat.reduceMul, Nat.reduceLT, Nat.reduceLeDiff, ↓reduceIte, reduceCtorEq, List.reduceReplicate, Int.cast_ofNat_Int, Int.reduceEq, Int.reduceLT, Int.reduceLE, SV.ren, SV.renL, Cell.ren, Row.ren, renO, bk, back, outUpsFrom, Ints_ren]))
  refine w_loop (ι := Nat × (Int × List It) × Nat) (fun s => ⟨[(3, dp), (4, .one (.optr 1 0)), (5, .one (.osl 2 0 L.length none)), (7, i1 a), (8, i1 b), (9, .one (.optr 3 0)), (11, .one (.optr 4 0)), (13, i1 s.1)], [(0, some (dice l s.2.2)), (1, some ⟨[int s.2.1.1, .gsl (Its s.2.1.2) 0 s.2.1.2.length none], 2⟩), (2, some ⟨Ints L, 1⟩), (3, some ⟨itc x0, 4⟩), (4, some ⟨itc y0, 4⟩)], 5⟩) (fun s => s.1 ≤ 25 ∧ Inv a wa b wb (107374182400 + 2147483648 * s.1) s.2.1.1 s.2.1.2) (fun s => 25 - s.1) (0, (c, q), j) ?_ ⟨Nat.zero_le _, hI⟩ ?_
  · (refine imp_ren _ _ _ [(0, 0, dice l j), (1, 1, ⟨[int c, .gsl (Its q) 0 q.length none], 2⟩), (2, 2, ⟨Ints L, 1⟩), (3, 21, ⟨itc x0, 4⟩), (4, 30, ⟨itc y0, 4⟩)] (by simp) (by simp) (by simp) (Nat.le_of_ble_eq_true rfl) ?_ rfl (by simp only [List.forall_mem_cons, List.not_mem_nil, false_implies, implies_true, and_true, St.hpF, lookR, Nat.reduceEqDiff, if_true, if_false, ↓reduceIte, dice, itc] <;> (repeat' apply And.intro) <;> (first | rfl | trivial)) (by simp only [List.forall_mem_cons, List.not_mem_nil, false_implies, implies_true, and_true, true_and, flat_cons, flat_nil, flat_ints, flat_bools, flat_app, Cell.refs, and_self, eq_self_iff_true, List.append_nil, dice, itc]); simp only [List.map_cons, List.map_nil, List.forall_mem_cons, List.not_mem_nil, false_implies, implies_true, and_true, lk, slot, SV.ren, Cell.ren, toN, Nat.reduceEqDiff, if_true, if_false, ↓reduceIte, reduceCtorEq])
    all_goals ((repeat' apply And.intro) <;> (first | rfl | trivial))
  have hLL : L.length ≤ 192 := by omega
  have hc0 : 0 ≤ c := hqi.1
  clear hx0 hy0 f1 f2 hI hK hM hda hdb hmem hqi hil hA hB hA' hB' hli' hge
  rintro ⟨n, ⟨c', q'⟩, j1⟩ ⟨hn, hI⟩
  simp only at hn hI ⊢
  rcases Nat.lt_or_ge n 25 with hlt | hge
  case inr =>
    have hlt' : ¬ (n : Int) < 25 := by omega
    simp only [go_sem, Nat.reduceEqDiff, Nat.reduceAdd, Nat.reduceSub, Nat.reduceMul, Nat.reduceLT, Nat.reduceLeDiff, ↓reduceIte, reduceCtorEq, List.reduceReplicate, Int.cast_ofNat_Int, Int.reduceEq, Int.reduceLT, Int.reduceLE, decide_eq_false hlt', lendQ]
    repeat' (first
    | (apply cl_plain
       case hs => rfl
       case ha => (simp only [List.map_cons, List.map_nil, prepV, prepC, idx, hpL', lookR, Nat.reduceEqDiff, if_true, if_false]; rfl)
       case h => (first | exact sane_spec ..))
    | ((first | refine s1_id ?_ | refine swp_id ?_ | refine sops_id ?_ | refine s2_id ?_); simp only [decide_eq_false hlt', lendQ, go_sem, Nat.reduceEqDiff, Nat.reduceAdd, Nat.reduceSub, Nat.reduceMul, Nat.reduceLT, Nat.reduceLeDiff, ↓reduceIte, reduceCtorEq, List.reduceReplicate, Int.cast_ofNat_Int, Int.reduceEq, Int.reduceLT, Int.reduceLE, SV.ren, SV.renL, Cell.ren, Row.ren, renO, bk, back, outUpsFrom, Ints_ren])
    | (apply fs_nil <;> (try simp only [go_sem, resV, resS, SV.ren, SV.renL, Cell.ren, St.tmF, St.hpF, idx, renO, Row.ren, evS, slot, lookR, Nat.reduceEqDiff, ↓reduceIte, reduceCtorEq, if_true, if_false, Option.getD_some, Option.getD_none, List.map_cons, List.map_nil, sLoad, readAt, readNeed, Ints_ren, Ints_length, Ints_getD, and_true, true_and, List.getD_cons_zero, List.getD_cons_succ]) <;> (try rfl)))
  have hlt' : (n : Int) < 25 := by omega
  have hqi := qck_iff hI.1
  simp only [go_sem, Nat.reduceEqDiff, Nat.reduceAdd, Nat.reduceSub, Nat.reduceMul, Nat.reduceLT, Nat.reduceLeDiff, ↓reduceIte, reduceCtorEq, List.reduceReplicate, Int.cast_ofNat_Int, Int.reduceEq, Int.reduceLT, Int.reduceLE, decide_eq_true hlt', lendQ]
  repeat' (first
    | ((first | refine s1_id ?_ | refine swp_id ?_ | refine sops_id ?_ | refine s2_id ?_); simp only [decide_eq_true hlt', lendQ, List.flatten_cons, List.flatten_nil, List.append_nil, List.cons_append, List.nil_append, List.set_cons_zero, List.set_cons_succ, go_sem, Nat.reduceEqDiff, Nat.reduceAdd, Nat.reduceSub, Nat.reduceMul, Nat.reduceLT, Nat.reduceLeDiff, ↓reduceIte, reduceCtorEq, List.reduceReplicate, Int.cast_ofNat_Int, Int.reduceEq, Int.reduceLT, Int.reduceLE, SV.ren, SV.renL, Cell.ren, Row.ren, renO, bk, back, outUpsFrom, Ints_ren]))
  refine w_loop (ι := Nat × List Int × Nat) (fun s => ⟨[(3, dp), (4, .one (.optr 1 0)), (5, .one (.osl 2 0 L.length none)), (7, i1 a), (8, i1 b), (9, .one (.optr 3 0)), (11, .one (.optr 4 0)), (13, i1 n), (14, .one (.osl 5 0 s.2.1.length none)), (89, .one (.osl 2 0 L.length none)), (90, i1 L.length), (91, i1 s.1)], [(0, some (dice l s.2.2)), (1, some ⟨[int c', .gsl (Its q') 0 q'.length none], 2⟩), (2, some ⟨Ints L, 1⟩), (3, some ⟨itc x0, 4⟩), (4, some ⟨itc y0, 4⟩), (5, some ⟨Ints s.2.1, 1⟩)], 6⟩) (fun s => s.1 ≤ L.length ∧ s.2.1.length ≤ 2 + s.1 ∧ hasI a s.2.1 = true) (fun s => L.length - s.1) (0, [a, b], j1) ?_ ⟨Nat.zero_le _, Nat.le_refl _, hasI_mem (List.mem_cons_self ..)⟩ ?_
  · refine Imp.trans (t := ⟨[(3, dp), (4, .one (.optr 1 0)), (5, .one (.osl 2 0 L.length none)), (7, i1 a), (8, i1 b), (9, .one (.optr 3 0)), (11, .one (.optr 4 0)), (13, i1 n), (14, .one (.osl 5 0 2 (some 2))), (89, .one (.osl 2 0 L.length none)), (90, i1 L.length), (91, i1 (0 : Nat))], [(0, some (dice l j1)), (1, some ⟨[int c', .gsl (Its q') 0 q'.length none], 2⟩), (2, some ⟨Ints L, 1⟩), (3, some ⟨itc x0, 4⟩), (4, some ⟨itc y0, 4⟩), (5, some ⟨Ints [a, b], 1⟩)], 6⟩) ?_ (imp_w _ _ _ ?_ rfl (Nat.le_refl _))
    · skip
      (refine imp_ren _ _ _ [(0, 0, dice l j1), (1, 1, ⟨[int c', .gsl (Its q') 0 q'.length none], 2⟩), (2, 2, ⟨Ints L, 1⟩), (3, 3, ⟨itc x0, 4⟩), (4, 4, ⟨itc y0, 4⟩), (5, 9, ⟨Ints [a, b], 1⟩)] (by simp) (by simp) (by simp) (Nat.le_of_ble_eq_true rfl) ?_ rfl (by simp only [List.forall_mem_cons, List.not_mem_nil, false_implies, implies_true, and_true, St.hpF, lookR, Nat.reduceEqDiff, if_true, if_false, ↓reduceIte, dice, itc] <;> (repeat' apply And.intro) <;> (first | rfl | trivial)) (by simp only [List.forall_mem_cons, List.not_mem_nil, false_implies, implies_true, and_true, true_and, flat_cons, flat_nil, flat_ints, flat_bools, flat_app, Cell.refs, and_self, eq_self_iff_true, List.append_nil, dice, itc]); simp only [List.map_cons, List.map_nil, List.forall_mem_cons, List.not_mem_nil, false_implies, implies_true, and_true, lk, slot, SV.ren, Cell.ren, toN, Nat.reduceEqDiff, if_true, if_false, ↓reduceIte, reduceCtorEq])
      all_goals ((repeat' apply And.intro) <;> (first | rfl | trivial))
    · intro x hx
      simp only [List.mem_cons, List.not_mem_nil, or_false] at hx
      rcases hx with rfl | rfl | rfl | rfl | rfl | rfl | rfl | rfl | rfl | rfl | rfl | rfl <;> first | exact ⟨_, rfl, SVW.refl _⟩ | exact ⟨_, rfl, svw_of (cw_ocap _ _ _ _)⟩
  rintro ⟨k, E, j2⟩ ⟨hk, hEl, hE⟩
  simp only at hk hEl hE ⊢
  rcases Nat.lt_or_ge k L.length with hkl | hge
  case inl =>
    have hkl' : (k : Int) < (L.length : Int) := by omega
    obtain ⟨d, hd⟩ : ∃ d, L.getD k 0 = d := ⟨_, rfl⟩
    have hb := bool_spec l j2 2 hl6 hl (by omega)
    generalize nxA l j2 2 = j3 at *
    by_cases hB : nxV l j2 2 = 2 - 1
    · rw [decide_eq_true hB] at hb
      have hla : (E ++ [d]).length = E.length + 1 := by simp
      have hpp : Ints E ++ [int d] = Ints (E ++ [d]) := by simp [Ints]
      have htk : List.take E.length (Ints E) = Ints E := List.take_of_length_le (by rw [Ints_length]; exact Nat.le_refl _)
      simp only [go_sem, Nat.reduceEqDiff, Nat.reduceAdd, Nat.reduceSub, Nat.reduceMul, Nat.reduceLT, Nat.reduceLeDiff, ↓reduceIte, reduceCtorEq, List.reduceReplicate, Int.cast_ofNat_Int, Int.reduceEq, Int.reduceLT, Int.reduceLE, decide_eq_true hkl', lendQ, hd]
      repeat' (first
    | with_reducible refine And.intro ?_ ?_
    | (intros; (try simp only [Bool.and_eq_true, Bool.or_eq_true, Bool.not_eq_true', Bool.not_eq_false', Bool.and_eq_false_iff, Bool.or_eq_false_iff, decide_eq_true_eq, decide_eq_false_iff_not] at *); omega)
    | (apply cl_lend
       case hr => (simp only [List.map_cons, List.map_nil, hpL', lookR, Nat.reduceEqDiff, if_true, if_false]; first | exact map1 _ | exact map2 _ _ | exact map3 _ _ _)
       case ha => (simp only [List.map_cons, List.map_nil, prepV, prepC, idx, hpL', lookR, Nat.reduceEqDiff, if_true, if_false]; rfl)
       case hs => rfl
       case hn => decide
       case h => (first | exact hb ..)
       case hf => (simp only [List.forall_mem_cons, List.not_mem_nil, false_implies, implies_true, and_true, true_and, flat_cons, flat_nil, flat_ints, flat_bools, flat_app, Cell.refs, and_self, eq_self_iff_true, List.append_nil])
       case hl => (simp only [List.length_cons, List.length_nil]; decide))
    | ((first | refine s1_id ?_ | refine swp_id ?_ | refine sops_id ?_ | refine s2_id ?_); simp only [decide_eq_true hkl', lendQ, hd, hpp, htk, List.flatten_cons, List.flatten_nil, List.append_nil, List.cons_append, List.nil_append, List.set_cons_zero, List.set_cons_succ, go_sem, Nat.reduceEqDiff, Nat.reduceAdd, Nat.reduceSub, Nat.reduceMul, Nat.reduceLT, Nat.reduceLeDiff, ↓reduceIte, reduceCtorEq, List.reduceReplicate, Int.cast_ofNat_Int, Int.reduceEq, Int.reduceLT, Int.reduceLE, SV.ren, SV.renL, Cell.ren, Row.ren, renO, bk, back, outUpsFrom, Ints_ren]))
      refine le_mk (k + 1, E ++ [d], j3) ?_ ⟨by show k + 1 ≤ L.length; omega, by show (E ++ [d]).length ≤ 2 + (k + 1); omega, hasI_mem (by have := hE; unfold hasI at this; obtain ⟨y, hy1, hy2⟩ := List.any_eq_true.1 this; rw [decide_eq_true_eq] at hy2; rw [← hy2]; exact List.mem_append_left _ hy1)⟩ (by show L.length - (k + 1) < L.length - k; omega)
      rw [hla]
      (refine imp_ren _ _ _ [(0, 0, dice l j3), (1, 1, ⟨[int c', .gsl (Its q') 0 q'.length none], 2⟩), (2, 2, ⟨Ints L, 1⟩), (3, 3, ⟨itc x0, 4⟩), (4, 4, ⟨itc y0, 4⟩), (5, 15, ⟨Ints (E ++ [d]), 1⟩)] (by simp) (by simp) (by simp) (Nat.le_of_ble_eq_true rfl) ?_ rfl (by simp only [List.forall_mem_cons, List.not_mem_nil, false_implies, implies_true, and_true, St.hpF, lookR, Nat.reduceEqDiff, if_true, if_false, ↓reduceIte, dice, itc] <;> (repeat' apply And.intro) <;> (first | rfl | trivial)) (by simp only [List.forall_mem_cons, List.not_mem_nil, false_implies, implies_true, and_true, true_and, flat_cons, flat_nil, flat_ints, flat_bools, flat_app, Cell.refs, and_self, eq_self_iff_true, List.append_nil, dice, itc]); simp only [List.map_cons, List.map_nil, List.forall_mem_cons, List.not_mem_nil, false_implies, implies_true, and_true, lk, slot, SV.ren, Cell.ren, toN, Nat.reduceEqDiff, if_true, if_false, ↓reduceIte, reduceCtorEq])
      all_goals ((repeat' apply And.intro) <;> (first | rfl | trivial | (simp only [Int.natCast_add]; done) | (simp only [Int.natCast_add]; rfl) | (simp only [Int.natCast_add]; trivial)))
    · rw [decide_eq_false hB] at hb
      simp only [go_sem, Nat.reduceEqDiff, Nat.reduceAdd, Nat.reduceSub, Nat.reduceMul, Nat.reduceLT, Nat.reduceLeDiff, ↓reduceIte, reduceCtorEq, List.reduceReplicate, Int.cast_ofNat_Int, Int.reduceEq, Int.reduceLT, Int.reduceLE, decide_eq_true hkl', lendQ, hd]
      repeat' (first
    | with_reducible refine And.intro ?_ ?_
    | (intros; (try simp only [Bool.and_eq_true, Bool.or_eq_true, Bool.not_eq_true', Bool.not_eq_false', Bool.and_eq_false_iff, Bool.or_eq_false_iff, decide_eq_true_eq, decide_eq_false_iff_not] at *); omega)
    | (apply cl_lend
       case hr => (simp only [List.map_cons, List.map_nil, hpL', lookR, Nat.reduceEqDiff, if_true, if_false]; first | exact map1 _ | exact map2 _ _ | exact map3 _ _ _)
       case ha => (simp only [List.map_cons, List.map_nil, prepV, prepC, idx, hpL', lookR, Nat.reduceEqDiff, if_true, if_false]; rfl)
       case hs => rfl
       case hn => decide
       case h => (first | exact hb ..)
       case hf => (simp only [List.forall_mem_cons, List.not_mem_nil, false_implies, implies_true, and_true, true_and, flat_cons, flat_nil, flat_ints, flat_bools, flat_app, Cell.refs, and_self, eq_self_iff_true, List.append_nil])
       case hl => (simp only [List.length_cons, List.length_nil]; decide))
    | ((first | refine s1_id ?_ | refine swp_id ?_ | refine sops_id ?_ | refine s2_id ?_); simp only [decide_eq_true hkl', lendQ, hd, go_sem, Nat.reduceEqDiff, Nat.reduceAdd, Nat.reduceSub, Nat.reduceMul, Nat.reduceLT, Nat.reduceLeDiff, ↓reduceIte, reduceCtorEq, List.reduceReplicate, Int.cast_ofNat_Int, Int.reduceEq, Int.reduceLT, Int.reduceLE, SV.ren, SV.renL, Cell.ren, Row.ren, renO, bk, back, outUpsFrom, Ints_ren]))
      refine le_mk (k + 1, E, j3) ?_ ⟨by show k + 1 ≤ L.length; omega, by show E.length ≤ 2 + (k + 1); omega, hE⟩ (by show L.length - (k + 1) < L.length - k; omega)
      (refine imp_ren _ _ _ [(0, 0, dice l j3), (1, 1, ⟨[int c', .gsl (Its q') 0 q'.length none], 2⟩), (2, 2, ⟨Ints L, 1⟩), (3, 3, ⟨itc x0, 4⟩), (4, 4, ⟨itc y0, 4⟩), (5, 5, ⟨Ints E, 1⟩)] (by simp) (by simp) (by simp) (Nat.le_of_ble_eq_true rfl) ?_ rfl (by simp only [List.forall_mem_cons, List.not_mem_nil, false_implies, implies_true, and_true, St.hpF, lookR, Nat.reduceEqDiff, if_true, if_false, ↓reduceIte, dice, itc] <;> (repeat' apply And.intro) <;> (first | rfl | trivial)) (by simp only [List.forall_mem_cons, List.not_mem_nil, false_implies, implies_true, and_true, true_and, flat_cons, flat_nil, flat_ints, flat_bools, flat_app, Cell.refs, and_self, eq_self_iff_true, List.append_nil, dice, itc]); simp only [List.map_cons, List.map_nil, List.forall_mem_cons, List.not_mem_nil, false_implies, implies_true, and_true, lk, slot, SV.ren, Cell.ren, toN, Nat.reduceEqDiff, if_true, if_false, ↓reduceIte, reduceCtorEq])
      all_goals ((repeat' apply And.intro) <;> (first | rfl | trivial | (simp only [Int.natCast_add]; done) | (simp only [Int.natCast_add]; rfl) | (simp only [Int.natCast_add]; trivial)))
  have hkl' : ¬ (k : Int) < (L.length : Int) := by omega
  have n7 := next_spec l j2 7 hl6 hl (by omega)
  have n7r := nxV_rng l j2 7 (by omega)
  obtain ⟨id, hid⟩ : ∃ id, nxV l j2 7 - 3 = id := ⟨_, rfl⟩
  generalize nxV l j2 7 = v7 at *
  generalize nxA l j2 7 = j3 at *
  have hm : (0 : Int) ≤ 107374182400 + 2147483648 * n := by omega
  have hIu := inv_up (m' := 107374182400 + 2147483648 * n + 1073741824) hI (by omega)
  by_cases ha : id = a
  focus
    simp only [go_sem, Nat.reduceEqDiff, Nat.reduceAdd, Nat.reduceSub, Nat.reduceMul, Nat.reduceLT, Nat.reduceLeDiff, ↓reduceIte, reduceCtorEq, List.reduceReplicate, Int.cast_ofNat_Int, Int.reduceEq, Int.reduceLT, Int.reduceLE, decide_eq_false hkl', lendQ, hid, decide_true, decide_false, Int.reduceEq, Bool.and_false, Bool.and_true, decide_eq_true ha]
    repeat' (first
    | with_reducible refine And.intro ?_ ?_
    | (intros; (try simp only [Bool.and_eq_true, Bool.or_eq_true, Bool.not_eq_true', Bool.not_eq_false', Bool.and_eq_false_iff, Bool.or_eq_false_iff, decide_eq_true_eq, decide_eq_false_iff_not] at *); omega)
    | (apply cl_lend
       case hr => (simp only [List.map_cons, List.map_nil, hpL', lookR, Nat.reduceEqDiff, if_true, if_false]; first | exact map1 _ | exact map2 _ _ | exact map3 _ _ _)
       case ha => (simp only [List.map_cons, List.map_nil, prepV, prepC, idx, hpL', lookR, Nat.reduceEqDiff, if_true, if_false]; rfl)
       case hs => rfl
       case hn => decide
       case h => (first | exact n7 ..)
       case hf => (simp only [List.forall_mem_cons, List.not_mem_nil, false_implies, implies_true, and_true, true_and, flat_cons, flat_nil, flat_ints, flat_bools, flat_app, Cell.refs, and_self, eq_self_iff_true, List.append_nil])
       case hl => (simp only [List.length_cons, List.length_nil]; decide))
    | ((first | refine s1_id ?_ | refine swp_id ?_ | refine sops_id ?_ | refine s2_id ?_); simp only [decide_eq_false hkl', lendQ, hid, decide_true, decide_false, Int.reduceEq, Bool.and_false, Bool.and_true, decide_eq_true ha, go_sem, Nat.reduceEqDiff, Nat.reduceAdd, Nat.reduceSub, Nat.reduceMul, Nat.reduceLT, Nat.reduceLeDiff, ↓reduceIte, reduceCtorEq, List.reduceReplicate, Int.cast_ofNat_Int, Int.reduceEq, Int.reduceLT, Int.reduceLE, SV.ren, SV.renL, Cell.ren, Row.ren, renO, bk, back, outUpsFrom, Ints_ren]))
    obtain ⟨c2, hc2⟩ : ∃ x, x = c' := ⟨_, rfl⟩
    obtain ⟨q2, hq2⟩ : ∃ x, x = q' := ⟨_, rfl⟩
    obtain ⟨j9, hj9⟩ : ∃ x, x = j3 := ⟨_, rfl⟩
    subst hc2 hq2 hj9
    have hI2 := hIu
  rotate_left
  by_cases hb : id = b
  focus
    simp only [go_sem, Nat.reduceEqDiff, Nat.reduceAdd, Nat.reduceSub, Nat.reduceMul, Nat.reduceLT, Nat.reduceLeDiff, ↓reduceIte, reduceCtorEq, List.reduceReplicate, Int.cast_ofNat_Int, Int.reduceEq, Int.reduceLT, Int.reduceLE, decide_eq_false hkl', lendQ, hid, decide_true, decide_false, Int.reduceEq, Bool.and_false, Bool.and_true, decide_eq_false ha, decide_eq_true hb]
    repeat' (first
    | with_reducible refine And.intro ?_ ?_
    | (intros; (try simp only [Bool.and_eq_true, Bool.or_eq_true, Bool.not_eq_true', Bool.not_eq_false', Bool.and_eq_false_iff, Bool.or_eq_false_iff, decide_eq_true_eq, decide_eq_false_iff_not] at *); omega)
    | (apply cl_lend
       case hr => (simp only [List.map_cons, List.map_nil, hpL', lookR, Nat.reduceEqDiff, if_true, if_false]; first | exact map1 _ | exact map2 _ _ | exact map3 _ _ _)
       case ha => (simp only [List.map_cons, List.map_nil, prepV, prepC, idx, hpL', lookR, Nat.reduceEqDiff, if_true, if_false]; rfl)
       case hs => rfl
       case hn => decide
       case h => (first | exact n7 ..)
       case hf => (simp only [List.forall_mem_cons, List.not_mem_nil, false_implies, implies_true, and_true, true_and, flat_cons, flat_nil, flat_ints, flat_bools, flat_app, Cell.refs, and_self, eq_self_iff_true, List.append_nil])
       case hl => (simp only [List.length_cons, List.length_nil]; decide))
    | ((first | refine s1_id ?_ | refine swp_id ?_ | refine sops_id ?_ | refine s2_id ?_); simp only [decide_eq_false hkl', lendQ, hid, decide_true, decide_false, Int.reduceEq, Bool.and_false, Bool.and_true, decide_eq_false ha, decide_eq_true hb, go_sem, Nat.reduceEqDiff, Nat.reduceAdd, Nat.reduceSub, Nat.reduceMul, Nat.reduceLT, Nat.reduceLeDiff, ↓reduceIte, reduceCtorEq, List.reduceReplicate, Int.cast_ofNat_Int, Int.reduceEq, Int.reduceLT, Int.reduceLE, SV.ren, SV.renL, Cell.ren, Row.ren, renO, bk, back, outUpsFrom, Ints_ren]))
    obtain ⟨c2, hc2⟩ : ∃ x, x = c' := ⟨_, rfl⟩
    obtain ⟨q2, hq2⟩ : ∃ x, x = q' := ⟨_, rfl⟩
    obtain ⟨j9, hj9⟩ : ∃ x, x = j3 := ⟨_, rfl⟩
    subst hc2 hq2 hj9
    have hI2 := hIu
  rotate_left
  have n6 := next_spec l j3 6 hl6 hl (by omega)
  have n6r := nxV_rng l j3 6 (by omega)
  generalize nxV l j3 6 = k6 at *
  generalize nxA l j3 6 = j4 at *
  by_cases k0 : k6 = 0
  focus
    have hw := wake_spec c' q' none id (by omega)
    have hiw := inv_wake hI hm ha hb
    generalize chg c' q' id (wkF c' q' (bsV q' id)) = R at *
    obtain ⟨⟨cx, qx⟩, e⟩ := R
    simp only at hiw
    by_cases he : e = 0
    focus
      simp only [go_sem, Nat.reduceEqDiff, Nat.reduceAdd, Nat.reduceSub, Nat.reduceMul, Nat.reduceLT, Nat.reduceLeDiff, ↓reduceIte, reduceCtorEq, List.reduceReplicate, Int.cast_ofNat_Int, Int.reduceEq, Int.reduceLT, Int.reduceLE, decide_eq_false hkl', lendQ, hid, decide_true, decide_false, Int.reduceEq, Bool.and_false, Bool.and_true, decide_eq_false ha, decide_eq_false hb, decide_eq_true k0, decide_eq_true he]
      repeat' (first
    | with_reducible refine And.intro ?_ ?_
    | (intros; (try simp only [Bool.and_eq_true, Bool.or_eq_true, Bool.not_eq_true', Bool.not_eq_false', Bool.and_eq_false_iff, Bool.or_eq_false_iff, decide_eq_true_eq, decide_eq_false_iff_not] at *); omega)
    | (apply cl_plain
       case hs => rfl
       case ha => (simp only [List.map_cons, List.map_nil, prepV, prepC, idx, hpL', lookR, Nat.reduceEqDiff, if_true, if_false]; rfl)
       case h => (first | exact n7 .. | exact n6 .. | exact hw ..))
    | (apply cl_lend
       case hr => (simp only [List.map_cons, List.map_nil, hpL', lookR, Nat.reduceEqDiff, if_true, if_false]; first | exact map1 _ | exact map2 _ _ | exact map3 _ _ _)
       case ha => (simp only [List.map_cons, List.map_nil, prepV, prepC, idx, hpL', lookR, Nat.reduceEqDiff, if_true, if_false]; rfl)
       case hs => rfl
       case hn => decide
       case h => (first | exact n7 .. | exact n6 .. | exact hw ..)
       case hf => (simp only [List.forall_mem_cons, List.not_mem_nil, false_implies, implies_true, and_true, true_and, flat_cons, flat_nil, flat_ints, flat_bools, flat_app, Cell.refs, and_self, eq_self_iff_true, List.append_nil])
       case hl => (simp only [List.length_cons, List.length_nil]; decide))
    | ((first | refine s1_id ?_ | refine swp_id ?_ | refine sops_id ?_ | refine s2_id ?_); simp only [decide_eq_false hkl', lendQ, hid, decide_true, decide_false, Int.reduceEq, Bool.and_false, Bool.and_true, decide_eq_false ha, decide_eq_false hb, decide_eq_true k0, decide_eq_true he, go_sem, Nat.reduceEqDiff, Nat.reduceAdd, Nat.reduceSub, Nat.reduceMul, Nat.reduceLT, Nat.reduceLeDiff, ↓reduceIte, reduceCtorEq, List.reduceReplicate, Int.cast_ofNat_Int, Int.reduceEq, Int.reduceLT, Int.reduceLE, SV.ren, SV.renL, Cell.ren, Row.ren, renO, bk, back, outUpsFrom, Ints_ren]))
      obtain ⟨c2, hc2⟩ : ∃ x, x = cx := ⟨_, rfl⟩
      obtain ⟨q2, hq2⟩ : ∃ x, x = qx := ⟨_, rfl⟩
      obtain ⟨j9, hj9⟩ : ∃ x, x = j4 := ⟨_, rfl⟩
      subst hc2 hq2 hj9
      have hI2 := hiw he
    rotate_left
    focus
      simp only [go_sem, Nat.reduceEqDiff, Nat.reduceAdd, Nat.reduceSub, Nat.reduceMul, Nat.reduceLT, Nat.reduceLeDiff, ↓reduceIte, reduceCtorEq, List.reduceReplicate, Int.cast_ofNat_Int, Int.reduceEq, Int.reduceLT, Int.reduceLE, decide_eq_false hkl', lendQ, hid, decide_true, decide_false, Int.reduceEq, Bool.and_false, Bool.and_true, decide_eq_false ha, decide_eq_false hb, decide_eq_true k0, decide_eq_false he]
      repeat' (first
    | with_reducible refine And.intro ?_ ?_
    | (intros; (try simp only [Bool.and_eq_true, Bool.or_eq_true, Bool.not_eq_true', Bool.not_eq_false', Bool.and_eq_false_iff, Bool.or_eq_false_iff, decide_eq_true_eq, decide_eq_false_iff_not] at *); omega)
    | (apply cl_plain
       case hs => rfl
       case ha => (simp only [List.map_cons, List.map_nil, prepV, prepC, idx, hpL', lookR, Nat.reduceEqDiff, if_true, if_false]; rfl)
       case h => (first | exact n7 .. | exact n6 .. | exact hw ..))
    | (apply cl_lend
       case hr => (simp only [List.map_cons, List.map_nil, hpL', lookR, Nat.reduceEqDiff, if_true, if_false]; first | exact map1 _ | exact map2 _ _ | exact map3 _ _ _)
       case ha => (simp only [List.map_cons, List.map_nil, prepV, prepC, idx, hpL', lookR, Nat.reduceEqDiff, if_true, if_false]; rfl)
       case hs => rfl
       case hn => decide
       case h => (first | exact n7 .. | exact n6 .. | exact hw ..)
       case hf => (simp only [List.forall_mem_cons, List.not_mem_nil, false_implies, implies_true, and_true, true_and, flat_cons, flat_nil, flat_ints, flat_bools, flat_app, Cell.refs, and_self, eq_self_iff_true, List.append_nil])
       case hl => (simp only [List.length_cons, List.length_nil]; decide))
    | ((first | refine s1_id ?_ | refine swp_id ?_ | refine sops_id ?_ | refine s2_id ?_); simp only [decide_eq_false hkl', lendQ, hid, decide_true, decide_false, Int.reduceEq, Bool.and_false, Bool.and_true, decide_eq_false ha, decide_eq_false hb, decide_eq_true k0, decide_eq_false he, go_sem, Nat.reduceEqDiff, Nat.reduceAdd, Nat.reduceSub, Nat.reduceMul, Nat.reduceLT, Nat.reduceLeDiff, ↓reduceIte, reduceCtorEq, List.reduceReplicate, Int.cast_ofNat_Int, Int.reduceEq, Int.reduceLT, Int.reduceLE, SV.ren, SV.renL, Cell.ren, Row.ren, renO, bk, back, outUpsFrom, Ints_ren]))
      obtain ⟨c2, hc2⟩ : ∃ x, x = c' := ⟨_, rfl⟩
      obtain ⟨q2, hq2⟩ : ∃ x, x = q' := ⟨_, rfl⟩
      obtain ⟨j9, hj9⟩ : ∃ x, x = j4 := ⟨_, rfl⟩
      subst hc2 hq2 hj9
      have hI2 := hIu
  rotate_left 2
  by_cases k1 : k6 = 1
  focus
    have hw := sleep_spec c' q' none id (by omega)
    have hiw := inv_sleep hI hm ha hb
    generalize chg c' q' id (slF q' (bsV q' id)) = R at *
    obtain ⟨⟨cx, qx⟩, e⟩ := R
    simp only at hiw
    by_cases he : e = 0
    focus
      simp only [go_sem, Nat.reduceEqDiff, Nat.reduceAdd, Nat.reduceSub, Nat.reduceMul, Nat.reduceLT, Nat.reduceLeDiff, ↓reduceIte, reduceCtorEq, List.reduceReplicate, Int.cast_ofNat_Int, Int.reduceEq, Int.reduceLT, Int.reduceLE, decide_eq_false hkl', lendQ, hid, decide_true, decide_false, Int.reduceEq, Bool.and_false, Bool.and_true, decide_eq_false ha, decide_eq_false hb, decide_eq_false k0, decide_eq_true k1, decide_eq_true he]
      repeat' (first
    | with_reducible refine And.intro ?_ ?_
    | (intros; (try simp only [Bool.and_eq_true, Bool.or_eq_true, Bool.not_eq_true', Bool.not_eq_false', Bool.and_eq_false_iff, Bool.or_eq_false_iff, decide_eq_true_eq, decide_eq_false_iff_not] at *); omega)
    | (apply cl_plain
       case hs => rfl
       case ha => (simp only [List.map_cons, List.map_nil, prepV, prepC, idx, hpL', lookR, Nat.reduceEqDiff, if_true, if_false]; rfl)
       case h => (first | exact n7 .. | exact n6 .. | exact hw ..))
    | (apply cl_lend
       case hr => (simp only [List.map_cons, List.map_nil, hpL', lookR, Nat.reduceEqDiff, if_true, if_false]; first | exact map1 _ | exact map2 _ _ | exact map3 _ _ _)
       case ha => (simp only [List.map_cons, List.map_nil, prepV, prepC, idx, hpL', lookR, Nat.reduceEqDiff, if_true, if_false]; rfl)
       case hs => rfl
       case hn => decide
       case h => (first | exact n7 .. | exact n6 .. | exact hw ..)
       case hf => (simp only [List.forall_mem_cons, List.not_mem_nil, false_implies, implies_true, and_true, true_and, flat_cons, flat_nil, flat_ints, flat_bools, flat_app, Cell.refs, and_self, eq_self_iff_true, List.append_nil])
       case hl => (simp only [List.length_cons, List.length_nil]; decide))
    | ((first | refine s1_id ?_ | refine swp_id ?_ | refine sops_id ?_ | refine s2_id ?_); simp only [decide_eq_false hkl', lendQ, hid, decide_true, decide_false, Int.reduceEq, Bool.and_false, Bool.and_true, decide_eq_false ha, decide_eq_false hb, decide_eq_false k0, decide_eq_true k1, decide_eq_true he, go_sem, Nat.reduceEqDiff, Nat.reduceAdd, Nat.reduceSub, Nat.reduceMul, Nat.reduceLT, Nat.reduceLeDiff, ↓reduceIte, reduceCtorEq, List.reduceReplicate, Int.cast_ofNat_Int, Int.reduceEq, Int.reduceLT, Int.reduceLE, SV.ren, SV.renL, Cell.ren, Row.ren, renO, bk, back, outUpsFrom, Ints_ren]))
      obtain ⟨c2, hc2⟩ : ∃ x, x = cx := ⟨_, rfl⟩
      obtain ⟨q2, hq2⟩ : ∃ x, x = qx := ⟨_, rfl⟩
      obtain ⟨j9, hj9⟩ : ∃ x, x = j4 := ⟨_, rfl⟩
      subst hc2 hq2 hj9
      have hI2 := hiw he
    rotate_left
    focus
      simp only [go_sem, Nat.reduceEqDiff, Nat.reduceAdd, Nat.reduceSub, Nat.reduceMul, Nat.reduceLT, Nat.reduceLeDiff, ↓reduceIte, reduceCtorEq, List.reduceReplicate, Int.cast_ofNat_Int, Int.reduceEq, Int.reduceLT, Int.reduceLE, decide_eq_false hkl', lendQ, hid, decide_true, decide_false, Int.reduceEq, Bool.and_false, Bool.and_true, decide_eq_false ha, decide_eq_false hb, decide_eq_false k0, decide_eq_true k1, decide_eq_false he]
      repeat' (first
    | with_reducible refine And.intro ?_ ?_
    | (intros; (try simp only [Bool.and_eq_true, Bool.or_eq_true, Bool.not_eq_true', Bool.not_eq_false', Bool.and_eq_false_iff, Bool.or_eq_false_iff, decide_eq_true_eq, decide_eq_false_iff_not] at *); omega)
    | (apply cl_plain
       case hs => rfl
       case ha => (simp only [List.map_cons, List.map_nil, prepV, prepC, idx, hpL', lookR, Nat.reduceEqDiff, if_true, if_false]; rfl)
       case h => (first | exact n7 .. | exact n6 .. | exact hw ..))
    | (apply cl_lend
       case hr => (simp only [List.map_cons, List.map_nil, hpL', lookR, Nat.reduceEqDiff, if_true, if_false]; first | exact map1 _ | exact map2 _ _ | exact map3 _ _ _)
       case ha => (simp only [List.map_cons, List.map_nil, prepV, prepC, idx, hpL', lookR, Nat.reduceEqDiff, if_true, if_false]; rfl)
       case hs => rfl
       case hn => decide
       case h => (first | exact n7 .. | exact n6 .. | exact hw ..)
       case hf => (simp only [List.forall_mem_cons, List.not_mem_nil, false_implies, implies_true, and_true, true_and, flat_cons, flat_nil, flat_ints, flat_bools, flat_app, Cell.refs, and_self, eq_self_iff_true, List.append_nil])
       case hl => (simp only [List.length_cons, List.length_nil]; decide))
    | ((first | refine s1_id ?_ | refine swp_id ?_ | refine sops_id ?_ | refine s2_id ?_); simp only [decide_eq_false hkl', lendQ, hid, decide_true, decide_false, Int.reduceEq, Bool.and_false, Bool.and_true, decide_eq_false ha, decide_eq_false hb, decide_eq_false k0, decide_eq_true k1, decide_eq_false he, go_sem, Nat.reduceEqDiff, Nat.reduceAdd, Nat.reduceSub, Nat.reduceMul, Nat.reduceLT, Nat.reduceLeDiff, ↓reduceIte, reduceCtorEq, List.reduceReplicate, Int.cast_ofNat_Int, Int.reduceEq, Int.reduceLT, Int.reduceLE, SV.ren, SV.renL, Cell.ren, Row.ren, renO, bk, back, outUpsFrom, Ints_ren]))
      obtain ⟨c2, hc2⟩ : ∃ x, x = c' := ⟨_, rfl⟩
      obtain ⟨q2, hq2⟩ : ∃ x, x = q' := ⟨_, rfl⟩
      obtain ⟨j9, hj9⟩ : ∃ x, x = j4 := ⟨_, rfl⟩
      subst hc2 hq2 hj9
      have hI2 := hIu
  rotate_left 2
  by_cases k2 : k6 = 2
  focus
    have hwt := weight_spec l j4 hl6 hl
    have hw := rew_spec c' q' none id (wtV l j4) (by omega)
    have hiw := inv_rew l j4 hI hm ha hb
    generalize rwQ c' q' id (wtV l j4) = R at *
    generalize wtV l j4 = w9 at *
    generalize wtA l j4 = j5 at *
    obtain ⟨⟨cx, qx⟩, e⟩ := R
    simp only at hiw
    by_cases he : e = 0
    focus
      simp only [go_sem, Nat.reduceEqDiff, Nat.reduceAdd, Nat.reduceSub, Nat.reduceMul, Nat.reduceLT, Nat.reduceLeDiff, ↓reduceIte, reduceCtorEq, List.reduceReplicate, Int.cast_ofNat_Int, Int.reduceEq, Int.reduceLT, Int.reduceLE, decide_eq_false hkl', lendQ, hid, decide_true, decide_false, Int.reduceEq, Bool.and_false, Bool.and_true, decide_eq_false ha, decide_eq_false hb, decide_eq_false k0, decide_eq_false k1, decide_eq_true k2, decide_eq_true he]
      repeat' (first
    | with_reducible refine And.intro ?_ ?_
    | (unfold OKC; kernel_rfl)
    | (unfold EDG; kernel_rfl)
    | (intros; (try simp only [Bool.and_eq_true, Bool.or_eq_true, Bool.not_eq_true', Bool.not_eq_false', Bool.and_eq_false_iff, Bool.or_eq_false_iff, decide_eq_true_eq, decide_eq_false_iff_not] at *); omega)
    | (apply cl_plain
       case hs => rfl
       case ha => (simp only [List.map_cons, List.map_nil, prepV, prepC, idx, hpL', lookR, Nat.reduceEqDiff, if_true, if_false]; rfl)
       case h => (first | exact n7 .. | exact n6 .. | exact hw .. | exact hwt ..))
    | (apply cl_lend
       case hr => (simp only [List.map_cons, List.map_nil, hpL', lookR, Nat.reduceEqDiff, if_true, if_false]; first | exact map1 _ | exact map2 _ _ | exact map3 _ _ _)
       case ha => (simp only [List.map_cons, List.map_nil, prepV, prepC, idx, hpL', lookR, Nat.reduceEqDiff, if_true, if_false]; rfl)
       case hs => rfl
       case hn => decide
       case h => (first | exact n7 .. | exact n6 .. | exact hw .. | exact hwt ..)
       case hf => (simp only [List.forall_mem_cons, List.not_mem_nil, false_implies, implies_true, and_true, true_and, flat_cons, flat_nil, flat_ints, flat_bools, flat_app, Cell.refs, and_self, eq_self_iff_true, List.append_nil])
       case hl => (simp only [List.length_cons, List.length_nil]; decide))
    | ((first | refine s1_id ?_ | refine swp_id ?_ | refine sops_id ?_ | refine s2_id ?_); simp only [decide_eq_false hkl', lendQ, hid, decide_true, decide_false, Int.reduceEq, Bool.and_false, Bool.and_true, decide_eq_false ha, decide_eq_false hb, decide_eq_false k0, decide_eq_false k1, decide_eq_true k2, decide_eq_true he, go_sem, Nat.reduceEqDiff, Nat.reduceAdd, Nat.reduceSub, Nat.reduceMul, Nat.reduceLT, Nat.reduceLeDiff, ↓reduceIte, reduceCtorEq, List.reduceReplicate, Int.cast_ofNat_Int, Int.reduceEq, Int.reduceLT, Int.reduceLE, SV.ren, SV.renL, Cell.ren, Row.ren, renO, bk, back, outUpsFrom, Ints_ren]))
      obtain ⟨c2, hc2⟩ : ∃ x, x = cx := ⟨_, rfl⟩
      obtain ⟨q2, hq2⟩ : ∃ x, x = qx := ⟨_, rfl⟩
      obtain ⟨j9, hj9⟩ : ∃ x, x = j5 := ⟨_, rfl⟩
      subst hc2 hq2 hj9
      have hI2 := hiw he
    rotate_left
    focus
      simp only [go_sem, Nat.reduceEqDiff, Nat.reduceAdd, Nat.reduceSub, Nat.reduceMul, Nat.reduceLT, Nat.reduceLeDiff, ↓reduceIte, reduceCtorEq, List.reduceReplicate, Int.cast_ofNat_Int, Int.reduceEq, Int.reduceLT, Int.reduceLE, decide_eq_false hkl', lendQ, hid, decide_true, decide_false, Int.reduceEq, Bool.and_false, Bool.and_true, decide_eq_false ha, decide_eq_false hb, decide_eq_false k0, decide_eq_false k1, decide_eq_true k2, decide_eq_false he]
      repeat' (first
    | with_reducible refine And.intro ?_ ?_
    | (unfold OKC; kernel_rfl)
    | (unfold EDG; kernel_rfl)
    | (intros; (try simp only [Bool.and_eq_true, Bool.or_eq_true, Bool.not_eq_true', Bool.not_eq_false', Bool.and_eq_false_iff, Bool.or_eq_false_iff, decide_eq_true_eq, decide_eq_false_iff_not] at *); omega)
    | (apply cl_plain
       case hs => rfl
       case ha => (simp only [List.map_cons, List.map_nil, prepV, prepC, idx, hpL', lookR, Nat.reduceEqDiff, if_true, if_false]; rfl)
       case h => (first | exact n7 .. | exact n6 .. | exact hw .. | exact hwt ..))
    | (apply cl_lend
       case hr => (simp only [List.map_cons, List.map_nil, hpL', lookR, Nat.reduceEqDiff, if_true, if_false]; first | exact map1 _ | exact map2 _ _ | exact map3 _ _ _)
       case ha => (simp only [List.map_cons, List.map_nil, prepV, prepC, idx, hpL', lookR, Nat.reduceEqDiff, if_true, if_false]; rfl)
       case hs => rfl
       case hn => decide
       case h => (first | exact n7 .. | exact n6 .. | exact hw .. | exact hwt ..)
       case hf => (simp only [List.forall_mem_cons, List.not_mem_nil, false_implies, implies_true, and_true, true_and, flat_cons, flat_nil, flat_ints, flat_bools, flat_app, Cell.refs, and_self, eq_self_iff_true, List.append_nil])
       case hl => (simp only [List.length_cons, List.length_nil]; decide))
    | ((first | refine s1_id ?_ | refine swp_id ?_ | refine sops_id ?_ | refine s2_id ?_); simp only [decide_eq_false hkl', lendQ, hid, decide_true, decide_false, Int.reduceEq, Bool.and_false, Bool.and_true, decide_eq_false ha, decide_eq_false hb, decide_eq_false k0, decide_eq_false k1, decide_eq_true k2, decide_eq_false he, go_sem, Nat.reduceEqDiff, Nat.reduceAdd, Nat.reduceSub, Nat.reduceMul, Nat.reduceLT, Nat.reduceLeDiff, ↓reduceIte, reduceCtorEq, List.reduceReplicate, Int.cast_ofNat_Int, Int.reduceEq, Int.reduceLT, Int.reduceLE, SV.ren, SV.renL, Cell.ren, Row.ren, renO, bk, back, outUpsFrom, Ints_ren]))
      obtain ⟨c2, hc2⟩ : ∃ x, x = c' := ⟨_, rfl⟩
      obtain ⟨q2, hq2⟩ : ∃ x, x = q' := ⟨_, rfl⟩
      obtain ⟨j9, hj9⟩ : ∃ x, x = j5 := ⟨_, rfl⟩
      subst hc2 hq2 hj9
      have hI2 := hIu
  rotate_left 2
  focus
    simp only [go_sem, Nat.reduceEqDiff, Nat.reduceAdd, Nat.reduceSub, Nat.reduceMul, Nat.reduceLT, Nat.reduceLeDiff, ↓reduceIte, reduceCtorEq, List.reduceReplicate, Int.cast_ofNat_Int, Int.reduceEq, Int.reduceLT, Int.reduceLE, decide_eq_false hkl', lendQ, hid, decide_true, decide_false, Int.reduceEq, Bool.and_false, Bool.and_true, decide_eq_false ha, decide_eq_false hb, decide_eq_false k0, decide_eq_false k1, decide_eq_false k2]
    repeat' (first
    | with_reducible refine And.intro ?_ ?_
    | (intros; (try simp only [Bool.and_eq_true, Bool.or_eq_true, Bool.not_eq_true', Bool.not_eq_false', Bool.and_eq_false_iff, Bool.or_eq_false_iff, decide_eq_true_eq, decide_eq_false_iff_not] at *); omega)
    | (apply cl_lend
       case hr => (simp only [List.map_cons, List.map_nil, hpL', lookR, Nat.reduceEqDiff, if_true, if_false]; first | exact map1 _ | exact map2 _ _ | exact map3 _ _ _)
       case ha => (simp only [List.map_cons, List.map_nil, prepV, prepC, idx, hpL', lookR, Nat.reduceEqDiff, if_true, if_false]; rfl)
       case hs => rfl
       case hn => decide
       case h => (first | exact n7 .. | exact n6 ..)
       case hf => (simp only [List.forall_mem_cons, List.not_mem_nil, false_implies, implies_true, and_true, true_and, flat_cons, flat_nil, flat_ints, flat_bools, flat_app, Cell.refs, and_self, eq_self_iff_true, List.append_nil])
       case hl => (simp only [List.length_cons, List.length_nil]; decide))
    | ((first | refine s1_id ?_ | refine swp_id ?_ | refine sops_id ?_ | refine s2_id ?_); simp only [decide_eq_false hkl', lendQ, hid, decide_true, decide_false, Int.reduceEq, Bool.and_false, Bool.and_true, decide_eq_false ha, decide_eq_false hb, decide_eq_false k0, decide_eq_false k1, decide_eq_false k2, go_sem, Nat.reduceEqDiff, Nat.reduceAdd, Nat.reduceSub, Nat.reduceMul, Nat.reduceLT, Nat.reduceLeDiff, ↓reduceIte, reduceCtorEq, List.reduceReplicate, Int.cast_ofNat_Int, Int.reduceEq, Int.reduceLT, Int.reduceLE, SV.ren, SV.renL, Cell.ren, Row.ren, renO, bk, back, outUpsFrom, Ints_ren]))
    obtain ⟨c2, hc2⟩ : ∃ x, x = c' := ⟨_, rfl⟩
    obtain ⟨q2, hq2⟩ : ∃ x, x = q' := ⟨_, rfl⟩
    obtain ⟨j9, hj9⟩ : ∃ x, x = j4 := ⟨_, rfl⟩
    subst hc2 hq2 hj9
    have hI2 := hIu
  all_goals
    clear n7 n7r hid hm hIu
    have hqi2 := qck_iff hI2.1
    obtain ⟨kp, hkp, hap, _, hpk⟩ := pick_ok hI2.1 hI2.2.1 hE
    have hvm := hI2.2.2.2.2 kp hkp
    have hcr := cst_rng (q2.getD kp zi).w
    obtain ⟨c3, q3, hsv, hq3, hl3, _, _, _⟩ := serve_at hI2.1 hkp rfl hap (by omega)
    have hI3 := inv_serve hI2 (by omega) (id := (q2.getD kp zi).i) (by rw [hsv])
    rw [hsv] at hI3
    simp only at hI3
    have hqi3 := qck_iff hI3.1
    have p1 := vpick_spec c2 q2 none E none (by omega) (by omega)
    rw [hpk] at p1
    have p2 := serve_spec c2 q2 none (q2.getD kp zi).i (by omega)
    rw [hsv] at p2
    obtain ⟨x9, hx9, e1, e2, e3, e4⟩ := hd_fnd hI3.1 hI3.2.1
    obtain ⟨y9, hy9, g1, g2, g3, g4⟩ := hd_fnd hI3.1 hI3.2.2.1
    have p3 := rfind_spec c3 q3 none a (by omega)
    have p4 := rfind_spec c3 q3 none b (by omega)
    rw [hx9] at p3
    rw [hy9] at p4
    have d1 : ¬ cst wa + cst wb < x9.v - x0.v - (y9.v - y0.v) := by omega
    have d2 : ¬ x9.v - x0.v - (y9.v - y0.v) < -(cst wa + cst wb) := by omega
    generalize (q2.getD kp zi).i = ip at *
    repeat' (first
    | with_reducible refine And.intro ?_ ?_
    | (unfold OKC; kernel_rfl)
    | (unfold EDG; kernel_rfl)
    | (intros; (try simp only [Bool.and_eq_true, Bool.or_eq_true, Bool.not_eq_true', Bool.not_eq_false', Bool.and_eq_false_iff, Bool.or_eq_false_iff, decide_eq_true_eq, decide_eq_false_iff_not] at *); omega)
    | (refine gt_if (fun h => ?_) (fun h => ?_) <;> (try simp only [h]))
    | (apply cl_plain
       case hs => rfl
       case ha => (simp only [List.map_cons, List.map_nil, prepV, prepC, idx, hpL', lookR, Nat.reduceEqDiff, if_true, if_false]; rfl)
       case h => (first | exact p1 .. | exact p2 .. | exact p3 .. | exact p4 .. | exact s7 .. | exact s8 ..))
    | (apply cl_show
       case ha => (simp only [List.map_cons, List.map_nil, prepV, prepC, idx, hpL', lookR, Nat.reduceEqDiff, if_true, if_false]; rfl)
       case hs => ((simp [snaps, SV.refs, Cell.refs, idx, hpL', lookR]) <;> (repeat' apply And.intro) <;> (first | exact Ints_isG _ | exact Its_isG _))
       case h => (first | exact p1 .. | exact p2 .. | exact p3 .. | exact p4 .. | exact s7 .. | exact s8 ..)
       case hg => ((simp [SV.noG, SV.noGL, Cell.noG]) <;> (repeat' apply And.intro) <;> exact Ints_noG _))
    | ((first | refine s1_id ?_ | refine swp_id ?_ | refine sops_id ?_ | refine s2_id ?_); simp only [lendQ, decide_true, decide_false, Int.reduceEq, decide_eq_false d1, decide_eq_false d2, hxw, hyw, go_sem, Nat.reduceEqDiff, Nat.reduceAdd, Nat.reduceSub, Nat.reduceMul, Nat.reduceLT, Nat.reduceLeDiff, ↓reduceIte, reduceCtorEq, List.reduceReplicate, Int.cast_ofNat_Int, Int.reduceEq, Int.reduceLT, Int.reduceLE, SV.ren, SV.renL, Cell.ren, Row.ren, renO, bk, back, outUpsFrom, Ints_ren]))
    refine le_mk (n + 1, (c3, q3), j9) ?_ ⟨by show n + 1 ≤ 25; omega, show Inv a wa b wb (107374182400 + 2147483648 * ((n + 1 : Nat) : Int)) c3 q3 from inv_up hI3 (by omega)⟩ (by show 25 - (n + 1) < 25 - n; omega)
    (refine imp_ren _ _ _ [(0, 0, dice l j9), (1, 1, ⟨[int c3, .gsl (Its q3) 0 q3.length none], 2⟩), (2, 2, ⟨Ints L, 1⟩), (3, 3, ⟨itc x0, 4⟩), (4, 4, ⟨itc y0, 4⟩)] (by simp) (by simp) (by simp) (Nat.le_of_ble_eq_true rfl) ?_ rfl (by simp only [List.forall_mem_cons, List.not_mem_nil, false_implies, implies_true, and_true, St.hpF, lookR, Nat.reduceEqDiff, if_true, if_false, ↓reduceIte, dice, itc] <;> (repeat' apply And.intro) <;> (first | rfl | trivial)) (by simp only [List.forall_mem_cons, List.not_mem_nil, false_implies, implies_true, and_true, true_and, flat_cons, flat_nil, flat_ints, flat_bools, flat_app, Cell.refs, and_self, eq_self_iff_true, List.append_nil, dice, itc]); simp only [List.map_cons, List.map_nil, List.forall_mem_cons, List.not_mem_nil, false_implies, implies_true, and_true, lk, slot, SV.ren, Cell.ren, toN, Nat.reduceEqDiff, if_true, if_false, ↓reduceIte, reduceCtorEq])
    all_goals ((repeat' apply And.intro) <;> (first | rfl | trivial | (simp only [Int.natCast_add]; done) | (simp only [Int.natCast_add]; rfl) | (simp only [Int.natCast_add]; trivial)))
theorem lag_main (g0 : List Cell) (s0 : GTy Try.prog 12 22 g0) : FnSpec Try.prog 7 [svOf Try.prog 22 g0] [] (b1 true) [] := by
  obtain ⟨l, rfl, hl, hr⟩ := gty_ints (n := 10) Try.underlying22 Try.underlying3 s0
  simp only [svOf, Try.underlying22, List.headD_cons]
  exact lag_spec l hr
end Go.Proofs.Ytabanfgnnelfcaa
