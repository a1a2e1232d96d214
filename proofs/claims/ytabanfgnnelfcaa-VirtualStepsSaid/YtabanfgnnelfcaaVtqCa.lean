/- Contracts of functions, told of values, on the way to VirtualSteps. -/
import Derived.Test.YtabanfgnnelfcaaTyCa
import Derived.Test.YtabanfgnnelfcaaVtpCa
-- NEWGO
-- PRUNE: cl_lendx
-- ISG: Its_isG
namespace Go.Proofs.Ytabanfgnnelfcaa
set_option linter.unusedVariables false
set_option linter.unusedSimpArgs false
open Go.Proofs.Ytabanfgnnelfcaa.Sh
set_option maxRecDepth 20000
set_option maxHeartbeats 40000000 in
theorem steps_spec (l : List Int) (hl : ∀ x ∈ l, -9223372036854775808 ≤ x ∧ x ≤ 9223372036854775807) (id weight c0 : Int) (q0 : List It) (hq0 : q0.length ≤ 9223372036854775807) : FnSpec Try.prog 5 [gi l none, i1 id, i1 weight, gqc c0 q0 none] [] (b1 true) [] := by
  by_cases hlen : (l.length : Int) ≤ 600
  case neg =>
    refine fnspec_of mixed TT_ok TT_cl ⟨fun _ => false, fun _ => [], 0, fun _ => false, fun _ => false⟩ Try.func5 rfl (by kernel_rfl) rfl 291 rfl [.tmp 8] rfl ?_
    simp only [go_sem, Nat.reduceEqDiff, Nat.reduceAdd, Nat.reduceSub, Nat.reduceMul, Nat.reduceLT, Nat.reduceLeDiff, ↓reduceIte, reduceCtorEq, List.reduceReplicate, Int.cast_ofNat_Int, Int.reduceEq, Int.reduceLT, Int.reduceLE]
    repeat' (first
    | (apply cl_plain
       case hs => rfl
       case ha => (simp only [List.map_cons, List.map_nil, prepV, prepC, idx, hpL', lookR, Nat.reduceEqDiff, if_true, if_false]; rfl)
       case h => (first | exact light_spec .. | exact sane_spec ..))
    | ((first | refine s1_id ?_ | refine swp_id ?_ | refine sops_id ?_ | refine s2_id ?_); simp only [decide_eq_false hlen, go_sem, Nat.reduceEqDiff, Nat.reduceAdd, Nat.reduceSub, Nat.reduceMul, Nat.reduceLT, Nat.reduceLeDiff, ↓reduceIte, reduceCtorEq, List.reduceReplicate, Int.cast_ofNat_Int, Int.reduceEq, Int.reduceLT, Int.reduceLE, SV.ren, SV.renL, Cell.ren, Row.ren, renO, bk, back, outUpsFrom, Ints_ren])
    | (apply fs_nil <;> (try simp only [go_sem, resV, resS, SV.ren, SV.renL, Cell.ren, St.tmF, St.hpF, idx, renO, Row.ren, evS, slot, lookR, Nat.reduceEqDiff, ↓reduceIte, reduceCtorEq, if_true, if_false, Option.getD_some, Option.getD_none, List.map_cons, List.map_nil, sLoad, readAt, readNeed, Ints_ren, Ints_length, Ints_getD, and_true, true_and, List.getD_cons_zero, List.getD_cons_succ]) <;> (try rfl)))
  by_cases h60 : (60 : Int) < (q0.length : Int)
  case pos =>
    refine fnspec_of mixed TT_ok TT_cl ⟨fun _ => false, fun _ => [], 0, fun _ => false, fun _ => false⟩ Try.func5 rfl (by kernel_rfl) rfl 291 rfl [.tmp 8] rfl ?_
    simp only [go_sem, Nat.reduceEqDiff, Nat.reduceAdd, Nat.reduceSub, Nat.reduceMul, Nat.reduceLT, Nat.reduceLeDiff, ↓reduceIte, reduceCtorEq, List.reduceReplicate, Int.cast_ofNat_Int, Int.reduceEq, Int.reduceLT, Int.reduceLE]
    repeat' (first
    | (apply cl_plain
       case hs => rfl
       case ha => (simp only [List.map_cons, List.map_nil, prepV, prepC, idx, hpL', lookR, Nat.reduceEqDiff, if_true, if_false]; rfl)
       case h => (first | exact light_spec .. | exact sane_spec ..))
    | ((first | refine s1_id ?_ | refine swp_id ?_ | refine sops_id ?_ | refine s2_id ?_); simp only [decide_eq_true hlen, decide_eq_true h60, go_sem, Nat.reduceEqDiff, Nat.reduceAdd, Nat.reduceSub, Nat.reduceMul, Nat.reduceLT, Nat.reduceLeDiff, ↓reduceIte, reduceCtorEq, List.reduceReplicate, Int.cast_ofNat_Int, Int.reduceEq, Int.reduceLT, Int.reduceLE, SV.ren, SV.renL, Cell.ren, Row.ren, renO, bk, back, outUpsFrom, Ints_ren])
    | (apply fs_nil <;> (try simp only [go_sem, resV, resS, SV.ren, SV.renL, Cell.ren, St.tmF, St.hpF, idx, renO, Row.ren, evS, slot, lookR, Nat.reduceEqDiff, ↓reduceIte, reduceCtorEq, if_true, if_false, Option.getD_some, Option.getD_none, List.map_cons, List.map_nil, sLoad, readAt, readNeed, Ints_ren, Ints_length, Ints_getD, and_true, true_and, List.getD_cons_zero, List.getD_cons_succ]) <;> (try rfl)))
  have hl6 : l.length ≤ 600 := by omega
  have hQ := queue_spec l 0 16 hl6 hl (by omega)
  have hK := mkQ_ok l 0 16
  generalize mkQ l 0 16 = T at *
  obtain ⟨⟨c, q⟩, j⟩ := T
  simp only at hK hQ
  obtain ⟨c', q', j', hq', hO⟩ := odd_spec l hl6 hl c q j hK
  have hqn := (qck_iff hK).2.2.1
  have hSl := Qs_len [(c, q), (c', q'), (c0, q0)]
  have hR : Qs [(c, q), (c', q'), (c0, q0)] = [int c, .gsl (Its q) 0 q.length none, int c', .gsl (Its q') 0 q'.length none, int c0, .gsl (Its q0) 0 q0.length none] := rfl
  have hS : ∀ i : Nat, i < 3 → (List.getD [(c, q), (c', q'), (c0, q0)] i (0, [])).2.length ≤ 192 := by
    intro i hi
    have : i = 0 ∨ i = 1 ∨ i = 2 := by omega
    rcases this with rfl | rfl | rfl
    · exact hqn
    · show q'.length ≤ 192; omega
    · show q0.length ≤ 192; omega
  obtain ⟨S, hSe⟩ : ∃ S, [(c, q), (c', q'), (c0, q0)] = S := ⟨_, rfl⟩
  rw [hSe] at hSl hR hS
  have hS3 : S.length = 3 := by rw [← hSe]; rfl
  rw [hS3] at hSl
  clear hSe
  refine fnspec_of mixed TT_ok TT_cl ⟨fun _ => false, lendQ, 0, fun _ => false, fun _ => false⟩ Try.func5 rfl (by kernel_rfl) rfl 291 rfl [.tmp 8] rfl ?_
  simp only [go_sem, Nat.reduceEqDiff, Nat.reduceAdd, Nat.reduceSub, Nat.reduceMul, Nat.reduceLT, Nat.reduceLeDiff, ↓reduceIte, reduceCtorEq, List.reduceReplicate, Int.cast_ofNat_Int, Int.reduceEq, Int.reduceLT, Int.reduceLE, decide_eq_true hlen, decide_eq_false h60, lendQ]
  repeat' (first
    | with_reducible refine And.intro ?_ ?_
    | (unfold OKC; kernel_rfl)
    | (unfold EDG; kernel_rfl)
    | (apply cl_plain
       case hs => rfl
       case ha => (simp only [List.map_cons, List.map_nil, prepV, prepC, idx, hpL', lookR, Nat.reduceEqDiff, if_true, if_false]; rfl)
       case h => (first | exact light_spec .. | exact roll_spec .. | exact hQ .. | exact hO ..))
    | (apply cl_lend
       case hr => (simp only [List.map_cons, List.map_nil, hpL', lookR, Nat.reduceEqDiff, if_true, if_false]; first | exact map1 _ | exact map2 _ _ | exact map3 _ _ _)
       case ha => (simp only [List.map_cons, List.map_nil, prepV, prepC, idx, hpL', lookR, Nat.reduceEqDiff, if_true, if_false]; rfl)
       case hs => rfl
       case hn => decide
       case h => (first | exact light_spec .. | exact roll_spec .. | exact hQ .. | exact hO ..)
       case hf => (simp only [List.forall_mem_cons, List.not_mem_nil, false_implies, implies_true, and_true, true_and, flat_cons, flat_nil, flat_ints, flat_bools, flat_app, Cell.refs, and_self, eq_self_iff_true, List.append_nil])
       case hl => (simp only [List.length_cons, List.length_nil]; decide))
    | ((first | refine s1_id ?_ | refine swp_id ?_ | refine sops_id ?_ | refine s2_id ?_); simp only [decide_eq_true hlen, decide_eq_false h60, lendQ, List.flatten_cons, List.flatten_nil, List.append_nil, List.cons_append, List.nil_append, List.set_cons_zero, List.set_cons_succ, go_sem, Nat.reduceEqDiff, Nat.reduceAdd, Nat.reduceSub, Nat.reduceMul, Nat.reduceLT, Nat.reduceLeDiff, ↓reduceIte, reduceCtorEq, List.reduceReplicate, Int.cast_ofNat_Int, Int.reduceEq, Int.reduceLT, Int.reduceLE, SV.ren, SV.renL, Cell.ren, Row.ren, renO, bk, back, outUpsFrom, Ints_ren]))
  refine w_loop (ι := Nat × Nat) (fun s => ⟨[(1, i1 id), (2, i1 weight), (9, dp), (52, .one (.osl 1 0 3 (some 3))), (53, i1 3), (54, i1 s.1)], [(0, some (dice l s.2)), (1, some ⟨Qs S, 2⟩)], 2⟩) (fun s => s.1 ≤ 3) (fun s => 3 - s.1) (0, j') ?_ (Nat.zero_le _) ?_
  · rw [hR]
    (refine imp_ren _ _ _ [(0, 12, dice l j'), (1, 23, ⟨[int c, .gsl (Its q) 0 q.length none, int c', .gsl (Its q') 0 q'.length none, int c0, .gsl (Its q0) 0 q0.length none], 2⟩)] (by simp) (by simp) (by simp) (Nat.le_of_ble_eq_true rfl) ?_ rfl (by simp only [List.forall_mem_cons, List.not_mem_nil, false_implies, implies_true, and_true, St.hpF, lookR, Nat.reduceEqDiff, if_true, if_false, ↓reduceIte, dice] <;> (repeat' apply And.intro) <;> (first | rfl | trivial)) (by simp only [List.forall_mem_cons, List.not_mem_nil, false_implies, implies_true, and_true, true_and, flat_cons, flat_nil, flat_ints, flat_bools, flat_app, Cell.refs, and_self, eq_self_iff_true, List.append_nil, dice]); simp only [List.map_cons, List.map_nil, List.forall_mem_cons, List.not_mem_nil, false_implies, implies_true, and_true, lk, slot, SV.ren, Cell.ren, toN, Nat.reduceEqDiff, if_true, if_false, ↓reduceIte, reduceCtorEq])
    all_goals ((repeat' apply And.intro) <;> (first | rfl | trivial))
  clear hQ hK hO hq' hqn hR h60 hq0
  clear q q' q0 c c' c0 j j'
  rintro ⟨i, j⟩ hi
  simp only at hi ⊢
  have hQf := Qs_flat S
  have hQr := fun g => Qs_ren g S
  rcases Nat.lt_or_ge i 3 with hli | hge
  case inr =>
    have hli' : ¬ (i : Int) < 3 := by omega
    simp only [go_sem, Nat.reduceEqDiff, Nat.reduceAdd, Nat.reduceSub, Nat.reduceMul, Nat.reduceLT, Nat.reduceLeDiff, ↓reduceIte, reduceCtorEq, List.reduceReplicate, Int.cast_ofNat_Int, Int.reduceEq, Int.reduceLT, Int.reduceLE, decide_eq_false hli', lendQ]
    repeat' (first
    | (apply cl_plain
       case hs => rfl
       case ha => (simp only [List.map_cons, List.map_nil, prepV, prepC, idx, hpL', lookR, Nat.reduceEqDiff, if_true, if_false]; rfl)
       case h => (first | exact sane_spec ..))
    | ((first | refine s1_id ?_ | refine swp_id ?_ | refine sops_id ?_ | refine s2_id ?_); simp only [decide_eq_false hli', lendQ, go_sem, Nat.reduceEqDiff, Nat.reduceAdd, Nat.reduceSub, Nat.reduceMul, Nat.reduceLT, Nat.reduceLeDiff, ↓reduceIte, reduceCtorEq, List.reduceReplicate, Int.cast_ofNat_Int, Int.reduceEq, Int.reduceLT, Int.reduceLE, SV.ren, SV.renL, Cell.ren, Row.ren, renO, bk, back, outUpsFrom, Ints_ren])
    | (apply fs_nil <;> (try simp only [go_sem, resV, resS, SV.ren, SV.renL, Cell.ren, St.tmF, St.hpF, idx, renO, Row.ren, evS, slot, lookR, Nat.reduceEqDiff, ↓reduceIte, reduceCtorEq, if_true, if_false, Option.getD_some, Option.getD_none, List.map_cons, List.map_nil, sLoad, readAt, readNeed, Ints_ren, Ints_length, Ints_getD, and_true, true_and, List.getD_cons_zero, List.getD_cons_succ]) <;> (try rfl)))
  have hli' : (i : Int) < 3 := by omega
  have hat := Qs_at S i (by omega)
  have hqn := hS i hli
  generalize S.getD i (0, []) = X at *
  obtain ⟨c, q⟩ := X
  simp only at hat hqn
  have k1 := check_spec c q none (by omega)
  have k2 := rcheck_spec c q none (by omega)
  have k3 := Least_spec c q none (by omega)
  have k4 := rleast_spec c q none (by omega)
  have n1 := next_spec l j 7 hl6 hl (by omega)
  have n1r := nxV_rng l j 7 (by omega)
  have n2 := next_spec l (nxA l j 7) 7 hl6 hl (by omega)
  have n2r := nxV_rng l (nxA l j 7) 7 (by omega)
  generalize nxV l j 7 = v1 at *
  generalize nxA l j 7 = j1 at *
  generalize nxV l j1 7 = v2 at *
  generalize nxA l j1 7 = j2 at *
  generalize qck c q = ck at *
  generalize (if ck = true then (lsV q).1 else 0) = ls at *
  generalize (if ck = true then (lsV q).2 else false) = lb at *
  simp only [go_sem, Nat.reduceEqDiff, Nat.reduceAdd, Nat.reduceSub, Nat.reduceMul, Nat.reduceLT, Nat.reduceLeDiff, ↓reduceIte, reduceCtorEq, List.reduceReplicate, Int.cast_ofNat_Int, Int.reduceEq, Int.reduceLT, Int.reduceLE, decide_eq_true hli', lendQ, hat, hSl, bne_self_eq_false, beq_self_eq_true, Bool.not_true]
  repeat' (first
    | with_reducible refine And.intro ?_ ?_
    | (unfold OKC; kernel_rfl)
    | (unfold EDG; kernel_rfl)
    | (intros; (try simp only [Bool.and_eq_true, Bool.or_eq_true, Bool.not_eq_true', Bool.not_eq_false', Bool.and_eq_false_iff, Bool.or_eq_false_iff, decide_eq_true_eq, decide_eq_false_iff_not] at *); omega)
    | (apply cl_plain
       case hs => rfl
       case ha => (simp only [List.map_cons, List.map_nil, prepV, prepC, idx, hpL', lookR, Nat.reduceEqDiff, if_true, if_false]; rfl)
       case h => (first | exact k1 .. | exact k2 .. | exact k3 .. | exact k4 .. | exact n1 .. | exact n2 ..))
    | (apply cl_lend
       case hr => (simp only [List.map_cons, List.map_nil, hpL', lookR, Nat.reduceEqDiff, if_true, if_false]; first | exact map1 _ | exact map2 _ _ | exact map3 _ _ _)
       case ha => (simp only [List.map_cons, List.map_nil, prepV, prepC, idx, hpL', lookR, Nat.reduceEqDiff, if_true, if_false]; rfl)
       case hs => rfl
       case hn => decide
       case h => (first | exact k1 .. | exact k2 .. | exact k3 .. | exact k4 .. | exact n1 .. | exact n2 ..)
       case hf => (simp only [List.forall_mem_cons, List.not_mem_nil, false_implies, implies_true, and_true, true_and, flat_cons, flat_nil, flat_ints, flat_bools, flat_app, Cell.refs, and_self, eq_self_iff_true, List.append_nil])
       case hl => (simp only [List.length_cons, List.length_nil]; decide))
    | ((first | refine s1_id ?_ | refine swp_id ?_ | refine sops_id ?_ | refine s2_id ?_); simp only [decide_eq_true hli', lendQ, hat, hSl, bne_self_eq_false, beq_self_eq_true, Bool.not_true, decide_true, List.flatten_cons, List.flatten_nil, List.append_nil, List.cons_append, List.nil_append, List.set_cons_zero, List.set_cons_succ, Qs_ren, go_sem, Nat.reduceEqDiff, Nat.reduceAdd, Nat.reduceSub, Nat.reduceMul, Nat.reduceLT, Nat.reduceLeDiff, ↓reduceIte, reduceCtorEq, List.reduceReplicate, Int.cast_ofNat_Int, Int.reduceEq, Int.reduceLT, Int.reduceLE, SV.ren, SV.renL, Cell.ren, Row.ren, renO, bk, back, outUpsFrom, Ints_ren]))
  obtain ⟨V, hV⟩ : ∃ V, [id, v1 - 3, v2 - 3] = V := ⟨_, rfl⟩
  have hV3 : V.length = 3 := by rw [← hV]; rfl
  refine w_loop (ι := Nat × Nat) (fun s => ⟨[(1, i1 id), (2, i1 weight), (9, dp), (12, .one (.optr 2 0)), (52, .one (.osl 1 0 3 (some 3))), (53, i1 3), (54, i1 i), (88, .one (.osl 3 0 3 (some 3))), (89, i1 3), (90, i1 s.1)], [(0, some (dice l s.2)), (1, some ⟨Qs S, 2⟩), (2, some ⟨[int c, .gsl (Its q) 0 q.length none], 2⟩), (3, some ⟨Ints V, 1⟩)], 4⟩) (fun s => s.1 ≤ 3) (fun s => 3 - s.1) (0, j2) ?_ (Nat.zero_le _) ?_
  · rw [← hV]
    (refine imp_ren _ _ _ [(0, 0, dice l j2), (1, 1, ⟨Qs S, 2⟩), (2, 5, ⟨[int c, .gsl (Its q) 0 q.length none], 2⟩), (3, 41, ⟨Ints [id, v1 - 3, v2 - 3], 1⟩)] (by simp) (by simp) (by simp) (Nat.le_of_ble_eq_true rfl) ?_ rfl (by simp only [List.forall_mem_cons, List.not_mem_nil, false_implies, implies_true, and_true, St.hpF, lookR, Nat.reduceEqDiff, if_true, if_false, ↓reduceIte, dice, Qs_flat] <;> (repeat' apply And.intro) <;> (first | rfl | trivial)) (by simp only [List.forall_mem_cons, List.not_mem_nil, false_implies, implies_true, and_true, true_and, flat_cons, flat_nil, flat_ints, flat_bools, flat_app, Cell.refs, and_self, eq_self_iff_true, List.append_nil, dice, Qs_flat]); simp only [List.map_cons, List.map_nil, List.forall_mem_cons, List.not_mem_nil, false_implies, implies_true, and_true, lk, slot, SV.ren, Cell.ren, toN, Nat.reduceEqDiff, if_true, if_false, ↓reduceIte, reduceCtorEq])
    all_goals ((repeat' apply And.intro) <;> (first | rfl | trivial))
  clear hV n1 n2 n1r n2r k1 k2 k3 k4 hat hi
  clear v1 v2 j1 j2 ck ls lb
  rintro ⟨k, jn⟩ hk
  simp only at hk ⊢
  rcases Nat.lt_or_ge k 3 with hkl | hge
  case inr =>
    have hkl' : ¬ (k : Int) < 3 := by omega
    simp only [go_sem, Nat.reduceEqDiff, Nat.reduceAdd, Nat.reduceSub, Nat.reduceMul, Nat.reduceLT, Nat.reduceLeDiff, ↓reduceIte, reduceCtorEq, List.reduceReplicate, Int.cast_ofNat_Int, Int.reduceEq, Int.reduceLT, Int.reduceLE, decide_eq_false hkl', lendQ]
    repeat' (first
    | with_reducible refine And.intro ?_ ?_
    | (intros; (try simp only [Bool.and_eq_true, Bool.or_eq_true, Bool.not_eq_true', Bool.not_eq_false', Bool.and_eq_false_iff, Bool.or_eq_false_iff, decide_eq_true_eq, decide_eq_false_iff_not] at *); omega)
    | ((first | refine s1_id ?_ | refine swp_id ?_ | refine sops_id ?_ | refine s2_id ?_); simp only [decide_eq_false hkl', lendQ, go_sem, Nat.reduceEqDiff, Nat.reduceAdd, Nat.reduceSub, Nat.reduceMul, Nat.reduceLT, Nat.reduceLeDiff, ↓reduceIte, reduceCtorEq, List.reduceReplicate, Int.cast_ofNat_Int, Int.reduceEq, Int.reduceLT, Int.reduceLE, SV.ren, SV.renL, Cell.ren, Row.ren, renO, bk, back, outUpsFrom, Ints_ren]))
    refine le_mk (i + 1, jn) ?_ (by show i + 1 ≤ 3; omega) (by show 3 - (i + 1) < 3 - i; omega)
    (refine imp_ren _ _ _ [(0, 0, dice l jn), (1, 1, ⟨Qs S, 2⟩)] (by simp) (by simp) (by simp) (Nat.le_of_ble_eq_true rfl) ?_ rfl (by simp only [List.forall_mem_cons, List.not_mem_nil, false_implies, implies_true, and_true, St.hpF, lookR, Nat.reduceEqDiff, if_true, if_false, ↓reduceIte, dice, Qs_flat] <;> (repeat' apply And.intro) <;> (first | rfl | trivial)) (by simp only [List.forall_mem_cons, List.not_mem_nil, false_implies, implies_true, and_true, true_and, flat_cons, flat_nil, flat_ints, flat_bools, flat_app, Cell.refs, and_self, eq_self_iff_true, List.append_nil, dice, Qs_flat]); simp only [List.map_cons, List.map_nil, List.forall_mem_cons, List.not_mem_nil, false_implies, implies_true, and_true, lk, slot, SV.ren, Cell.ren, toN, Nat.reduceEqDiff, if_true, if_false, ↓reduceIte, reduceCtorEq])
    all_goals ((repeat' apply And.intro) <;> (first | rfl | trivial | (simp only [Int.natCast_add]; done) | (simp only [Int.natCast_add]; rfl) | (simp only [Int.natCast_add]; trivial)))
  have hkl' : (k : Int) < 3 := by omega
  have wt := weight_spec l jn hl6 hl
  generalize wtV l jn = w0 at *
  generalize wtA l jn = j1 at *
  have n3 := next_spec l j1 3 hl6 hl (by omega)
  have n3r := nxV_rng l j1 3 (by omega)
  generalize nxV l j1 3 = v3 at *
  generalize nxA l j1 3 = j2 at *
  obtain ⟨el, j3, hel, so⟩ := some_spec l j2 hl6 hl
  have hVk : ∃ d, V.getD k 0 = d := ⟨_, rfl⟩
  obtain ⟨d, hVk⟩ := hVk
  have hwe : ∃ w, [weight, w0, 0].getD v3.toNat 0 = w := ⟨_, rfl⟩
  obtain ⟨w, hwe⟩ := hwe
  have f1 := find_spec c q none d (by omega)
  have f2 := rfind_spec c q none d (by omega)
  generalize fnd c q d = F at *
  have cs1 := cost_spec w
  have cs2 := rcost_spec w
  have cs3 := cost_spec weight
  have cs4 := rcost_spec weight
  generalize cst w = cw at *
  generalize cst weight = cw2 at *
  have a1 := add_spec c q none d w (by omega)
  have a2 := radd_spec c q none d w (by omega)
  have hzA := vAdd_len c q d w
  generalize vAdd c q d w = ZA at *
  obtain ⟨⟨CA, LA⟩, EA⟩ := ZA
  simp only at hzA
  have aS := same_spec CA LA (by omega)
  have b1' := drop_spec c q none d (by omega)
  have b2' := rdrop_spec c q none d (by omega)
  have hzB := vDrop_len c q d
  generalize vDrop c q d = ZB at *
  obtain ⟨⟨CB, LB⟩, EB⟩ := ZB
  simp only at hzB
  have bS := same_spec CB LB (by omega)
  have w1' := wake_spec c q none d (by omega)
  have w2' := rwake_spec c q none d (by omega)
  have hzW := chg_len (c := c) (l := q) (id := d) (n := q.length + 1) (F := wkF c q (bsV q d)) (by rw [wkF_len]; omega)
  generalize chg c q d (wkF c q (bsV q d)) = ZW at *
  obtain ⟨⟨CW, LW⟩, EW⟩ := ZW
  simp only at hzW
  have wS := same_spec CW LW (by omega)
  have s1' := sleep_spec c q none d (by omega)
  have s2' := rsleep_spec c q none d (by omega)
  have hzS := chg_len (c := c) (l := q) (id := d) (n := q.length + 1) (F := slF q (bsV q d)) (by rw [slF_len]; omega)
  generalize chg c q d (slF q (bsV q d)) = ZS at *
  obtain ⟨⟨CS, LS⟩, ES⟩ := ZS
  simp only at hzS
  have sS := same_spec CS LS (by omega)
  have e1' := serve_spec c q none d (by omega)
  have e2' := rserve_spec c q none d (by omega)
  have hzE := chg_len (c := c) (l := q) (id := d) (n := q.length + 1) (F := svF q (bsV q d)) (by rw [svF_len]; omega)
  generalize chg c q d (svF q (bsV q d)) = ZE at *
  obtain ⟨⟨CE, LE⟩, EE⟩ := ZE
  simp only at hzE
  have eS := same_spec CE LE (by omega)
  have r1' := rew_spec c q none d w (by omega)
  have r2' := rrew_spec c q none d w (by omega)
  have hzR := Nat.le_trans (rwQ_len c q d w) (Nat.le_succ _)
  generalize rwQ c q d w = ZR at *
  obtain ⟨⟨CR, LR⟩, ER⟩ := ZR
  simp only at hzR
  have rS := same_spec CR LR (by omega)
  have p1 := vpick_spec c q none el none (by omega) (by omega)
  have p2 := rpick_spec c q none el none (by omega) (by omega)
  generalize vPick c q el = P at *
  obtain ⟨P1, P2⟩ := P
  obtain ⟨F1, F2⟩ := F
  simp only at f1 f2 p1 p2
  simp only [go_sem, Nat.reduceEqDiff, Nat.reduceAdd, Nat.reduceSub, Nat.reduceMul, Nat.reduceLT, Nat.reduceLeDiff, ↓reduceIte, reduceCtorEq, List.reduceReplicate, Int.cast_ofNat_Int, Int.reduceEq, Int.reduceLT, Int.reduceLE, decide_eq_true hkl', lendQ, hV3, hVk, hwe, bne_self_eq_false, beq_self_eq_true, Bool.not_true, eqCL, eqV, sameK, decide_true, Bool.and_self]
  repeat' (first
    | with_reducible refine And.intro ?_ ?_
    | (intros; (try simp only [Bool.and_eq_true, Bool.or_eq_true, Bool.not_eq_true', Bool.not_eq_false', Bool.and_eq_false_iff, Bool.or_eq_false_iff, decide_eq_true_eq, decide_eq_false_iff_not] at *); omega)
    | (apply cg_tp
       case hl => rfl
       case ha => (simp only [List.map_cons, List.map_nil, prepV, prepC, idx, hpL', lookR, Nat.reduceEqDiff, if_true, if_false]; rfl)
       case hs => rfl
       case h => (first | exact wt .. | exact n3 .. | exact f1 .. | exact f2 .. | exact cs1 .. | exact cs2 .. | exact cs3 .. | exact cs4 .. | exact a1 .. | exact a2 .. | exact aS .. | exact b1' .. | exact b2' .. | exact bS .. | exact w1' .. | exact w2' .. | exact wS .. | exact s1' .. | exact s2' .. | exact sS .. | exact e1' .. | exact e2' .. | exact eS .. | exact r1' .. | exact r2' .. | exact rS .. | exact so .. | exact p1 .. | exact p2 ..))
    | (apply cl_plain
       case hs => rfl
       case ha => (simp only [List.map_cons, List.map_nil, prepV, prepC, idx, hpL', lookR, Nat.reduceEqDiff, if_true, if_false]; rfl)
       case h => (first | exact wt .. | exact n3 .. | exact f1 .. | exact f2 .. | exact cs1 .. | exact cs2 .. | exact cs3 .. | exact cs4 .. | exact a1 .. | exact a2 .. | exact aS .. | exact b1' .. | exact b2' .. | exact bS .. | exact w1' .. | exact w2' .. | exact wS .. | exact s1' .. | exact s2' .. | exact sS .. | exact e1' .. | exact e2' .. | exact eS .. | exact r1' .. | exact r2' .. | exact rS .. | exact so .. | exact p1 .. | exact p2 ..))
    | (apply cl_lend
       case hr => (simp only [List.map_cons, List.map_nil, hpL', lookR, Nat.reduceEqDiff, if_true, if_false]; first | exact map1 _ | exact map2 _ _ | exact map3 _ _ _)
       case ha => (simp only [List.map_cons, List.map_nil, prepV, prepC, idx, hpL', lookR, Nat.reduceEqDiff, if_true, if_false]; rfl)
       case hs => rfl
       case hn => decide
       case h => (first | exact wt .. | exact n3 .. | exact f1 .. | exact f2 .. | exact cs1 .. | exact cs2 .. | exact cs3 .. | exact cs4 .. | exact a1 .. | exact a2 .. | exact aS .. | exact b1' .. | exact b2' .. | exact bS .. | exact w1' .. | exact w2' .. | exact wS .. | exact s1' .. | exact s2' .. | exact sS .. | exact e1' .. | exact e2' .. | exact eS .. | exact r1' .. | exact r2' .. | exact rS .. | exact so .. | exact p1 .. | exact p2 ..)
       case hf => (simp only [List.forall_mem_cons, List.not_mem_nil, false_implies, implies_true, and_true, true_and, flat_cons, flat_nil, flat_ints, flat_bools, flat_app, Cell.refs, and_self, eq_self_iff_true, List.append_nil])
       case hl => (simp only [List.length_cons, List.length_nil]; decide))
    | ((first | refine s1_id ?_ | refine swp_id ?_ | refine sops_id ?_ | refine s2_id ?_); simp only [decide_eq_true hkl', lendQ, hV3, hVk, hwe, bne_self_eq_false, beq_self_eq_true, Bool.not_true, eqCL, eqV, sameK, decide_true, Bool.and_self, List.flatten_cons, List.flatten_nil, List.append_nil, List.cons_append, List.nil_append, List.set_cons_zero, List.set_cons_succ, Qs_ren, go_sem, Nat.reduceEqDiff, Nat.reduceAdd, Nat.reduceSub, Nat.reduceMul, Nat.reduceLT, Nat.reduceLeDiff, ↓reduceIte, reduceCtorEq, List.reduceReplicate, Int.cast_ofNat_Int, Int.reduceEq, Int.reduceLT, Int.reduceLE, SV.ren, SV.renL, Cell.ren, Row.ren, renO, bk, back, outUpsFrom, Ints_ren]))
  refine le_mk (k + 1, j3) ?_ (by show k + 1 ≤ 3; omega) (by show 3 - (k + 1) < 3 - k; omega)
  (refine imp_ren _ _ _ [(0, 0, dice l j3), (1, 1, ⟨Qs S, 2⟩), (2, 2, ⟨[int c, .gsl (Its q) 0 q.length none], 2⟩), (3, 3, ⟨Ints V, 1⟩)] (by simp) (by simp) (by simp) (Nat.le_of_ble_eq_true rfl) ?_ rfl (by simp only [List.forall_mem_cons, List.not_mem_nil, false_implies, implies_true, and_true, St.hpF, lookR, Nat.reduceEqDiff, if_true, if_false, ↓reduceIte, dice, Qs_flat] <;> (repeat' apply And.intro) <;> (first | rfl | trivial)) (by simp only [List.forall_mem_cons, List.not_mem_nil, false_implies, implies_true, and_true, true_and, flat_cons, flat_nil, flat_ints, flat_bools, flat_app, Cell.refs, and_self, eq_self_iff_true, List.append_nil, dice, Qs_flat]); simp only [List.map_cons, List.map_nil, List.forall_mem_cons, List.not_mem_nil, false_implies, implies_true, and_true, lk, slot, SV.ren, Cell.ren, toN, Nat.reduceEqDiff, if_true, if_false, ↓reduceIte, reduceCtorEq])
  all_goals ((repeat' apply And.intro) <;> (first | rfl | trivial | (simp only [Int.natCast_add]; done) | (simp only [Int.natCast_add]; rfl) | (simp only [Int.natCast_add]; trivial)))
theorem item_of {n : Nat} {g : List Cell} (h : GTy Try.prog (n + 2) 32 g) : ∃ x : It, g = itc x := by
  have h := gty_struct (n := n + 1) Try.underlying32 h
  obtain ⟨a0, b0, rfl, h0, a1, b1, rfl, h1, a2, b2, rfl, h2, a3, b3, rfl, h3, rfl⟩ := h
  obtain ⟨m0, rfl, _⟩ := gty_int (n := n) Try.underlying3 h0
  obtain ⟨m1, rfl, _⟩ := gty_int (n := n) Try.underlying3 h1
  obtain ⟨m2, rfl, _⟩ := gty_int (n := n) Try.underlying3 h2
  obtain ⟨m3, rfl⟩ := gty_bool (n := n) Try.underlying4 h3
  exact ⟨⟨m0, m1, m2, m3⟩, rfl⟩
theorem items_of {n : Nat} : ∀ (ess : List (List Cell)), (∀ es ∈ ess, GTy Try.prog (n + 2) 32 es) → ∃ q : List It, ess.flatten = Its q ∧ ess.length = q.length
  | [], _ => ⟨[], rfl, rfl⟩
  | es :: ess, h => by
    obtain ⟨q, h1, h2⟩ := items_of ess (fun x hx => h x (List.mem_cons_of_mem _ hx))
    obtain ⟨x, rfl⟩ := item_of (h es (List.mem_cons_self ..))
    exact ⟨x :: q, by rw [List.flatten_cons, h1]; rfl, by rw [List.length_cons, List.length_cons, h2]⟩
theorem queue_of {g : List Cell} (h : GTy Try.prog 12 29 g) : ∃ (c : Int) (q : List It), g = [int c, .gsl (Its q) 0 q.length none] ∧ q.length ≤ 9223372036854775807 := by
  have h := gty_struct (n := 11) Try.underlying29 h
  obtain ⟨a0, b0, rfl, h0, a1, b1, rfl, h1, rfl⟩ := h
  obtain ⟨c, rfl, _⟩ := gty_int (n := 10) Try.underlying3 h0
  obtain ⟨ess, rfl, hl, hf⟩ := gty_slice (n := 10) Try.underlying27 h1
  obtain ⟨q, e1, e2⟩ := items_of (n := 8) ess hf
  rw [e1, e2]
  rw [e2] at hl
  exact ⟨c, q, rfl, hl⟩
theorem steps_main (g0 : List Cell) (s0 : GTy Try.prog 12 22 g0) (g1 : List Cell) (s1 : GTy Try.prog 12 3 g1) (g2 : List Cell) (s2 : GTy Try.prog 12 3 g2) (g3 : List Cell) (s3 : GTy Try.prog 12 29 g3) : FnSpec Try.prog 5 [svOf Try.prog 22 g0, svOf Try.prog 3 g1, svOf Try.prog 3 g2, svOf Try.prog 29 g3] [] (b1 true) [] := by
  obtain ⟨l, rfl, hl, hr⟩ := gty_ints (n := 10) Try.underlying22 Try.underlying3 s0
  obtain ⟨n, rfl, hn⟩ := gty_int (n := 11) Try.underlying3 s1
  obtain ⟨m, rfl, hm⟩ := gty_int (n := 11) Try.underlying3 s2
  obtain ⟨c, q, rfl, hq⟩ := queue_of s3
  simp only [svOf, Try.underlying22, Try.underlying3, Try.underlying29, List.headD_cons]
  exact steps_spec l hr n m c q hq
end Go.Proofs.Ytabanfgnnelfcaa
