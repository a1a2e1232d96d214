/- Contracts of functions, told of values, on the way to VirtualWakes. -/
import Derived.Test.YtabanfgnnelfcaaTyCa
import Derived.Test.YtabanfgnnelfcaaShMb
import Derived.Test.YtabanfgnnelfcaaVtgCa
import Derived.Test.YtabanfgnnelfcaaVthCa
import Derived.Test.YtabanfgnnelfcaaVttCa
-- NEWGO
-- PRUNE: cl_lendx
-- ISG: Its_isG
namespace Go.Proofs.Ytabanfgnnelfcaa
set_option linter.unusedVariables false
set_option linter.unusedSimpArgs false
open Go.Proofs.Ytabanfgnnelfcaa.Sh
set_option maxRecDepth 20000
def ids (q : List It) (n : Nat) : List Int := (q.take n).map (fun x => x.i)
theorem ids_zero (q : List It) : ids q 0 = [] := by simp [ids]
theorem ids_succ (q : List It) (i : Nat) (h : i < q.length) : ids q (i + 1) = ids q i ++ [(q.getD i zi).i] := by
  unfold ids
  rw [List.take_add_one, List.map_append, List.getD_eq_getElem?_getD]
  simp [h]
theorem ids_len (q : List It) (n : Nat) (h : n ≤ q.length) : (ids q n).length = n := by unfold ids; simp; omega
theorem ids_all (q : List It) (i : Nat) (h : i < q.length) : hasI (q.getD i zi).i (ids q q.length) = true := by
  refine hasI_mem ?_
  unfold ids
  rw [List.take_length, List.getD_eq_getElem?_getD, List.getElem?_eq_getElem h]
  exact List.mem_map.2 ⟨_, List.getElem_mem h, rfl⟩
theorem woke {c : Int} {q : List It} {id : Int} {c' : Int} {q' : List It} (h : chg c q id (wkF c q (bsV q id)) = ((c', q'), 0)) :
    qck c' q' = true ∧ ∃ w, Hd q' id w := by
  have he : (chg c q id (wkF c q (bsV q id))).2 = 0 := by rw [h]
  obtain ⟨hq, hb, hF, _⟩ := chg_ok he
  obtain ⟨i, hi, hid⟩ : ∃ i, i < q.length ∧ id = (q.getD i zi).i := by
    unfold bsF at hb
    simp only [Bool.and_eq_true, decide_eq_true_eq] at hb
    exact ⟨_, by omega, hb.2.symm⟩
  cases ha : (q.getD i zi).a with
  | true => rw [wake_no hq hi hid ha] at h; simp at h
  | false =>
    obtain ⟨c2, l2, z, e1, e2, e3, e4, e5⟩ := wake_at hq hi hid ha
    rw [e1] at h
    simp only [Prod.mk.injEq, and_true] at h
    obtain ⟨rfl, rfl⟩ := h
    refine ⟨e2, z.w, ?_⟩
    unfold fnd at e4
    split at e4
    · rename_i hh
      have hb2 := hh.1
      unfold bsF at hb2
      simp only [Bool.and_eq_true, decide_eq_true_eq] at hb2
      have hz : l2.getD (bsV l2 id) zi = z := (Prod.mk.inj e4).1
      exact ⟨bsV l2 id, by omega, hb2.2, by rw [hz, e5], by rw [hz]⟩
    · cases (Prod.mk.inj e4).2
set_option maxHeartbeats 40000000 in
theorem wakes_spec (l : List Int) (hl : ∀ x ∈ l, -9223372036854775808 ≤ x ∧ x ≤ 9223372036854775807) : FnSpec Try.prog 8 [gi l none] [] (b1 true) [] := by
  by_cases hlen : (l.length : Int) ≤ 600
  case neg =>
    refine fnspec_of mixed TT_ok TT_cl ⟨fun _ => false, fun _ => [], 0, fun _ => false, fun _ => false⟩ Try.func8 rfl (by kernel_rfl) rfl 116 rfl [.tmp 2] rfl ?_
    simp only [go_sem, Nat.reduceEqDiff, Nat.reduceAdd, Nat.reduceSub, Nat.reduceMul, Nat.reduceLT, Nat.reduceLeDiff, ↓reduceIte, reduceCtorEq, List.reduceReplicate, Int.cast_ofNat_Int, Int.reduceEq, Int.reduceLT, Int.reduceLE]
    repeat' (first
    | (apply cl_plain
       case hs => rfl
       case ha => (simp only [List.map_cons, List.map_nil, prepV, prepC, idx, hpL', lookR, Nat.reduceEqDiff, if_true, if_false]; rfl)
       case h => (first | exact light_spec .. | exact sane_spec ..))
    | ((first | refine s1_id ?_ | refine swp_id ?_ | refine sops_id ?_ | refine s2_id ?_); simp only [decide_eq_false hlen, go_sem, Nat.reduceEqDiff, Nat.reduceAdd, Nat.reduceSub, Nat.reduceMul, Nat.reduceLT, Nat.reduceLeDiff, ↓reduceIte, reduceCtorEq, List.reduceReplicate, Int.cast_ofNat_Int, Int.reduceEq, Int.reduceLT, Int.reduceLE, SV.ren, SV.renL, Cell.ren, Row.ren, renO, bk, back, outUpsFrom, Ints_ren])
    | (apply fs_nil <;> (try simp only [go_sem, resV, resS, SV.ren, SV.renL, Cell.ren, St.tmF, St.hpF, idx, renO, Row.ren, evS, slot, lookR, Nat.reduceEqDiff, ↓reduceIte, reduceCtorEq, if_true, if_false, Option.getD_some, Option.getD_none, List.map_cons, List.map_nil, sLoad, readAt, readNeed, Ints_ren, Ints_length, Ints_getD, and_true, true_and, List.getD_cons_zero, List.getD_cons_succ]) <;> (try rfl)))
  have hl6 : l.length ≤ 600 := by omega
  have hQ := queue_spec l 0 16 hl6 hl (by omega)
  have hK := mkQ_ok l 0 16
  have hM := mkQ_max l 0 16 (by omega)
  generalize mkQ l 0 16 = T at *
  obtain ⟨⟨c0, q0⟩, j⟩ := T
  simp only at hK hQ hM
  have hqi := qck_iff hK
  have n7 := next_spec l j 7 hl6 hl (by omega)
  have n7r := nxV_rng l j 7 (by omega)
  obtain ⟨id, hid⟩ : ∃ id, nxV l j 7 - 3 = id := ⟨_, rfl⟩
  generalize nxV l j 7 = v7 at *
  generalize nxA l j 7 = j1 at *
  have hw := wake_spec c0 q0 none id (by omega)
  have hwo := @woke c0 q0 id
  have hM2 := qMax_op [] (c0, q0) id 2 0 (by omega) hM
  rw [show qOp [] (c0, q0) id 2 0 = (chg c0 q0 id (wkF c0 q0 (bsV q0 id)), 0) from rfl] at hM2
  generalize chg c0 q0 id (wkF c0 q0 (bsV q0 id)) = R at *
  obtain ⟨⟨c, q⟩, e⟩ := R
  simp only at hM2
  by_cases he : e = 0
  case neg =>
    refine fnspec_of mixed TT_ok TT_cl ⟨fun _ => false, lendQ, 0, fun _ => false, fun _ => false⟩ Try.func8 rfl (by kernel_rfl) rfl 116 rfl [.tmp 2] rfl ?_
    simp only [go_sem, Nat.reduceEqDiff, Nat.reduceAdd, Nat.reduceSub, Nat.reduceMul, Nat.reduceLT, Nat.reduceLeDiff, ↓reduceIte, reduceCtorEq, List.reduceReplicate, Int.cast_ofNat_Int, Int.reduceEq, Int.reduceLT, Int.reduceLE, decide_eq_true hlen, lendQ, hid, decide_eq_false he]
    repeat' (first
    | with_reducible refine And.intro ?_ ?_
    | (intros; (try simp only [Bool.and_eq_true, Bool.or_eq_true, Bool.not_eq_true', Bool.not_eq_false', Bool.and_eq_false_iff, Bool.or_eq_false_iff, decide_eq_true_eq, decide_eq_false_iff_not] at *); omega)
    | (apply cl_plain
       case hs => rfl
       case ha => (simp only [List.map_cons, List.map_nil, prepV, prepC, idx, hpL', lookR, Nat.reduceEqDiff, if_true, if_false]; rfl)
       case h => (first | exact light_spec .. | exact roll_spec .. | exact hQ .. | exact n7 .. | exact hw .. | exact sane_spec ..))
    | (apply cl_lend
       case hr => (simp only [List.map_cons, List.map_nil, hpL', lookR, Nat.reduceEqDiff, if_true, if_false]; first | exact map1 _ | exact map2 _ _ | exact map3 _ _ _)
       case ha => (simp only [List.map_cons, List.map_nil, prepV, prepC, idx, hpL', lookR, Nat.reduceEqDiff, if_true, if_false]; rfl)
       case hs => rfl
       case hn => decide
       case h => (first | exact light_spec .. | exact roll_spec .. | exact hQ .. | exact n7 .. | exact hw .. | exact sane_spec ..)
       case hf => (simp only [List.forall_mem_cons, List.not_mem_nil, false_implies, implies_true, and_true, true_and, flat_cons, flat_nil, flat_ints, flat_bools, flat_app, Cell.refs, and_self, eq_self_iff_true, List.append_nil])
       case hl => (simp only [List.length_cons, List.length_nil]; decide))
    | ((first | refine s1_id ?_ | refine swp_id ?_ | refine sops_id ?_ | refine s2_id ?_); simp only [decide_eq_true hlen, lendQ, hid, decide_eq_false he, go_sem, Nat.reduceEqDiff, Nat.reduceAdd, Nat.reduceSub, Nat.reduceMul, Nat.reduceLT, Nat.reduceLeDiff, ↓reduceIte, reduceCtorEq, List.reduceReplicate, Int.cast_ofNat_Int, Int.reduceEq, Int.reduceLT, Int.reduceLE, SV.ren, SV.renL, Cell.ren, Row.ren, renO, bk, back, outUpsFrom, Ints_ren])
    | (apply fs_nil <;> (try simp only [go_sem, resV, resS, SV.ren, SV.renL, Cell.ren, St.tmF, St.hpF, idx, renO, Row.ren, evS, slot, lookR, Nat.reduceEqDiff, ↓reduceIte, reduceCtorEq, if_true, if_false, Option.getD_some, Option.getD_none, List.map_cons, List.map_nil, sLoad, readAt, readNeed, Ints_ren, Ints_length, Ints_getD, and_true, true_and, List.getD_cons_zero, List.getD_cons_succ]) <;> (try rfl)))
  subst he
  obtain ⟨hq, wm, hd⟩ := hwo rfl
  clear hwo hK hM
  have hqi2 := qck_iff hq
  obtain ⟨x0, hx0, x1, x2, x3, x4⟩ := hd_fnd hq hd
  have f1 := rfind_spec c q none id (by omega)
  rw [hx0] at f1
  have hil := Its_len q
  refine fnspec_of mixed TT_ok TT_cl ⟨fun _ => false, lendQ, 0, fun _ => false, fun _ => false⟩ Try.func8 rfl (by kernel_rfl) rfl 116 rfl [.tmp 2] rfl ?_
  simp only [go_sem, Nat.reduceEqDiff, Nat.reduceAdd, Nat.reduceSub, Nat.reduceMul, Nat.reduceLT, Nat.reduceLeDiff, ↓reduceIte, reduceCtorEq, List.reduceReplicate, Int.cast_ofNat_Int, Int.reduceEq, Int.reduceLT, Int.reduceLE, decide_eq_true hlen, lendQ, hid]
  repeat' (first
    | with_reducible refine And.intro ?_ ?_
    | (intros; (try simp only [Bool.and_eq_true, Bool.or_eq_true, Bool.not_eq_true', Bool.not_eq_false', Bool.and_eq_false_iff, Bool.or_eq_false_iff, decide_eq_true_eq, decide_eq_false_iff_not] at *); omega)
    | (apply cl_plain
       case hs => rfl
       case ha => (simp only [List.map_cons, List.map_nil, prepV, prepC, idx, hpL', lookR, Nat.reduceEqDiff, if_true, if_false]; rfl)
       case h => (first | exact light_spec .. | exact roll_spec .. | exact hQ .. | exact n7 .. | exact hw .. | exact f1 ..))
    | (apply cl_lend
       case hr => (simp only [List.map_cons, List.map_nil, hpL', lookR, Nat.reduceEqDiff, if_true, if_false]; first | exact map1 _ | exact map2 _ _ | exact map3 _ _ _)
       case ha => (simp only [List.map_cons, List.map_nil, prepV, prepC, idx, hpL', lookR, Nat.reduceEqDiff, if_true, if_false]; rfl)
       case hs => rfl
       case hn => decide
       case h => (first | exact light_spec .. | exact roll_spec .. | exact hQ .. | exact n7 .. | exact hw .. | exact f1 ..)
       case hf => (simp only [List.forall_mem_cons, List.not_mem_nil, false_implies, implies_true, and_true, true_and, flat_cons, flat_nil, flat_ints, flat_bools, flat_app, Cell.refs, and_self, eq_self_iff_true, List.append_nil])
       case hl => (simp only [List.length_cons, List.length_nil]; decide))
    | ((first | refine s1_id ?_ | refine swp_id ?_ | refine sops_id ?_ | refine s2_id ?_); simp only [decide_eq_true hlen, lendQ, hid, go_sem, Nat.reduceEqDiff, Nat.reduceAdd, Nat.reduceSub, Nat.reduceMul, Nat.reduceLT, Nat.reduceLeDiff, ↓reduceIte, reduceCtorEq, List.reduceReplicate, Int.cast_ofNat_Int, Int.reduceEq, Int.reduceLT, Int.reduceLE, SV.ren, SV.renL, Cell.ren, Row.ren, renO, bk, back, outUpsFrom, Ints_ren]))
  refine w_loop (ι := Nat) (fun i => ⟨[(5, i1 id), (6, .one (.optr 0 0)), (8, .one (.optr 1 0)), (10, .one (.osl 2 0 i none)), (48, i1 q.length), (49, i1 i)], [(0, some ⟨[int c, .gsl (Its q) 0 q.length none], 2⟩), (1, some ⟨itc x0, 4⟩), (2, some ⟨Ints (ids q i), 1⟩)], 3⟩) (fun i => i ≤ q.length) (fun i => q.length - i) 0 ?_ (Nat.zero_le _) ?_
  · have e0 := ids_zero q
    refine Imp.trans (imp_nil _ _ 10 1 rfl) ?_
    rw [e0]
    (refine imp_ren _ _ _ [(0, 21, ⟨[int c, .gsl (Its q) 0 q.length none], 2⟩), (1, 32, ⟨itc x0, 4⟩), (2, 40, ⟨[], 1⟩)] (by simp) (by simp) (by simp) (Nat.le_of_ble_eq_true rfl) ?_ rfl (by simp only [List.forall_mem_cons, List.not_mem_nil, false_implies, implies_true, and_true, St.hpF, lookR, Nat.reduceEqDiff, if_true, if_false, ↓reduceIte, itc] <;> (repeat' apply And.intro) <;> (first | rfl | trivial)) (by simp only [List.forall_mem_cons, List.not_mem_nil, false_implies, implies_true, and_true, true_and, flat_cons, flat_nil, flat_ints, flat_bools, flat_app, Cell.refs, and_self, eq_self_iff_true, List.append_nil, itc]); simp only [List.map_cons, List.map_nil, List.forall_mem_cons, List.not_mem_nil, false_implies, implies_true, and_true, lk, slot, SV.ren, Cell.ren, toN, Nat.reduceEqDiff, if_true, if_false, ↓reduceIte, reduceCtorEq])
    all_goals ((repeat' apply And.intro) <;> (first | rfl | trivial))
  have hids0 := ids_all q
  clear hQ hw n7 f1
  intro i hi
  simp only at hi ⊢
  have hal := ids_len q i hi
  rcases Nat.lt_or_ge i q.length with hli | hge
  case inl =>
    have hli' : (i : Int) < (q.length : Int) := by omega
    have hf := Its_f q i hli (.sc (.int .i64 0))
    have e := ids_succ q i hli
    have hpp : Ints (ids q i) ++ [int (q.getD i zi).i] = Ints (ids q i ++ [(q.getD i zi).i]) := by simp [Ints]
    have htk : List.take i (ids q i) = ids q i := List.take_of_length_le (by rw [hal]; exact Nat.le_refl _)
    simp only [go_sem, Nat.reduceEqDiff, Nat.reduceAdd, Nat.reduceSub, Nat.reduceMul, Nat.reduceLT, Nat.reduceLeDiff, ↓reduceIte, reduceCtorEq, List.reduceReplicate, Int.cast_ofNat_Int, Int.reduceEq, Int.reduceLT, Int.reduceLE, decide_eq_true hli', lendQ, hf]
    repeat' (first
    | with_reducible refine And.intro ?_ ?_
    | (intros; (try simp only [Bool.and_eq_true, Bool.or_eq_true, Bool.not_eq_true', Bool.not_eq_false', Bool.and_eq_false_iff, Bool.or_eq_false_iff, decide_eq_true_eq, decide_eq_false_iff_not] at *); omega)
    | ((first | refine s1_id ?_ | refine swp_id ?_ | refine sops_id ?_ | refine s2_id ?_); simp only [decide_eq_true hli', lendQ, hf, hpp, htk, List.flatten_cons, List.flatten_nil, List.append_nil, List.cons_append, List.nil_append, List.set_cons_zero, List.set_cons_succ, go_sem, Nat.reduceEqDiff, Nat.reduceAdd, Nat.reduceSub, Nat.reduceMul, Nat.reduceLT, Nat.reduceLeDiff, ↓reduceIte, reduceCtorEq, List.reduceReplicate, Int.cast_ofNat_Int, Int.reduceEq, Int.reduceLT, Int.reduceLE, SV.ren, SV.renL, Cell.ren, Row.ren, renO, bk, back, outUpsFrom, Ints_ren]))
    refine le_mk (i + 1) ?_ (by omega) (by omega)
    rw [e]
    (refine imp_ren _ _ _ [(0, 0, ⟨[int c, .gsl (Its q) 0 q.length none], 2⟩), (1, 1, ⟨itc x0, 4⟩), (2, 14, ⟨Ints (ids q i ++ [(q.getD i zi).i]), 1⟩)] (by simp) (by simp) (by simp) (Nat.le_of_ble_eq_true rfl) ?_ rfl (by simp only [List.forall_mem_cons, List.not_mem_nil, false_implies, implies_true, and_true, St.hpF, lookR, Nat.reduceEqDiff, if_true, if_false, ↓reduceIte, itc, htk] <;> (repeat' apply And.intro) <;> (first | rfl | trivial)) (by simp only [List.forall_mem_cons, List.not_mem_nil, false_implies, implies_true, and_true, true_and, flat_cons, flat_nil, flat_ints, flat_bools, flat_app, Cell.refs, and_self, eq_self_iff_true, List.append_nil, itc, htk]); simp only [List.map_cons, List.map_nil, List.forall_mem_cons, List.not_mem_nil, false_implies, implies_true, and_true, lk, slot, SV.ren, Cell.ren, toN, Nat.reduceEqDiff, if_true, if_false, ↓reduceIte, reduceCtorEq])
    all_goals ((repeat' apply And.intro) <;> (first | rfl | trivial | (simp only [Int.natCast_add]; done) | (simp only [Int.natCast_add]; rfl) | (simp only [Int.natCast_add]; trivial)))
  have hli' : ¬ (i : Int) < (q.length : Int) := by omega
  have ei : i = q.length := by omega
  subst ei
  generalize ids q q.length = L at *
  have hW0 : Wk c x0.v wm id (getM []) c q := by
    obtain ⟨k, hk, k1, k2, k3⟩ := hd
    refine ⟨hq, ⟨k, hk, k1, k2, k3, ?_⟩, fun j hj hja hjw => ?_⟩
    · have := fnd_at hq hk k1.symm
      rw [hx0] at this
      rw [← (Prod.mk.inj this).1]
    · have := (iOk_all.1 (qck_ok hq hj)).2.2.2.2.2 hja
      rw [getM_nil]
      omega
  have hI0 : Inv id wm id wm (108447924224 + 1073741824 * ((0 : Nat) : Int)) c q := ⟨hq, hd, hd, qMax_up hM2 (by omega)⟩
  simp only [go_sem, Nat.reduceEqDiff, Nat.reduceAdd, Nat.reduceSub, Nat.reduceMul, Nat.reduceLT, Nat.reduceLeDiff, ↓reduceIte, reduceCtorEq, List.reduceReplicate, Int.cast_ofNat_Int, Int.reduceEq, Int.reduceLT, Int.reduceLE, decide_eq_false hli', lendQ]
  repeat' (first
    | ((first | refine s1_id ?_ | refine swp_id ?_ | refine sops_id ?_ | refine s2_id ?_); simp only [decide_eq_false hli', lendQ, go_sem, Nat.reduceEqDiff, Nat.reduceAdd, Nat.reduceSub, Nat.reduceMul, Nat.reduceLT, Nat.reduceLeDiff, ↓reduceIte, reduceCtorEq, List.reduceReplicate, Int.cast_ofNat_Int, Int.reduceEq, Int.reduceLT, Int.reduceLE, SV.ren, SV.renL, Cell.ren, Row.ren, renO, bk, back, outUpsFrom, Ints_ren]))
  refine w_loop (ι := Nat × (Int × List It) × List (Int × Int)) (fun s => ⟨[(5, i1 id), (6, .one (.optr 0 0)), (8, .one (.optr 1 0)), (10, .one (.osl 2 0 q.length none)), (12, .one (.mp 3)), (13, i1 s.1)], [(0, some ⟨[int s.2.1.1, .gsl (Its s.2.1.2) 0 s.2.1.2.length none], 2⟩), (1, some ⟨itc x0, 4⟩), (2, some ⟨Ints L, 1⟩), (3, some ⟨Mps s.2.2, 0⟩)], 4⟩)
    (fun s => s.1 ≤ 3 * q.length + 1 ∧ s.2.1.2.length = q.length ∧ (∀ k, k < s.2.1.2.length → hasI (s.2.1.2.getD k zi).i L = true) ∧ Wk c x0.v wm id (getM s.2.2) s.2.1.1 s.2.1.2 ∧ Inv id wm id wm (108447924224 + 1073741824 * s.1) s.2.1.1 s.2.1.2 ∧ ∀ d, 0 ≤ getM s.2.2 d ∧ getM s.2.2 d ≤ s.1) (fun s => 3 * q.length + 1 - s.1) (0, (c, q), []) ?_ ⟨Nat.zero_le _, rfl, hids0, hW0, hI0, fun d => ⟨Int.le_refl _, Int.le_refl _⟩⟩ ?_
  · (refine imp_ren _ _ _ [(0, 0, ⟨[int c, .gsl (Its q) 0 q.length none], 2⟩), (1, 1, ⟨itc x0, 4⟩), (2, 2, ⟨Ints L, 1⟩), (3, 4, ⟨[], 0⟩)] (by simp) (by simp) (by simp) (Nat.le_of_ble_eq_true rfl) ?_ rfl (by simp only [List.forall_mem_cons, List.not_mem_nil, false_implies, implies_true, and_true, St.hpF, lookR, Nat.reduceEqDiff, if_true, if_false, ↓reduceIte, itc] <;> (repeat' apply And.intro) <;> (first | rfl | trivial)) (by simp only [List.forall_mem_cons, List.not_mem_nil, false_implies, implies_true, and_true, true_and, flat_cons, flat_nil, flat_ints, flat_bools, flat_app, Cell.refs, and_self, eq_self_iff_true, List.append_nil, itc]); simp only [List.map_cons, List.map_nil, List.forall_mem_cons, List.not_mem_nil, false_implies, implies_true, and_true, lk, slot, SV.ren, Cell.ren, toN, Nat.reduceEqDiff, if_true, if_false, ↓reduceIte, reduceCtorEq])
    all_goals ((repeat' apply And.intro) <;> (first | rfl | trivial))
  have hll : L.length = q.length := hal
  have hn2 : q.length ≤ 192 := hqi2.2.2.1
  generalize q.length = N at *
  clear hids0 hW0 hI0 hx0 hM2 hqi hqi2 hd hq hil hge hi hli' hal
  rintro ⟨n, ⟨c', q'⟩, M⟩ ⟨hn, hlq, hin, hW, hI, hM⟩
  simp only at hn hlq hin hW hI hM ⊢
  rcases Nat.lt_or_ge n (3 * N + 1) with hlt | hge
  case inr =>
    have hlt' : ¬ (n : Int) < 3 * (N : Int) + 1 := by omega
    simp only [go_sem, Nat.reduceEqDiff, Nat.reduceAdd, Nat.reduceSub, Nat.reduceMul, Nat.reduceLT, Nat.reduceLeDiff, ↓reduceIte, reduceCtorEq, List.reduceReplicate, Int.cast_ofNat_Int, Int.reduceEq, Int.reduceLT, Int.reduceLE, decide_eq_false hlt', lendQ]
    repeat' (first
    | with_reducible refine And.intro ?_ ?_
    | (intros; (try simp only [Bool.and_eq_true, Bool.or_eq_true, Bool.not_eq_true', Bool.not_eq_false', Bool.and_eq_false_iff, Bool.or_eq_false_iff, decide_eq_true_eq, decide_eq_false_iff_not] at *); omega)
    | (apply cl_plain
       case hs => rfl
       case ha => (simp only [List.map_cons, List.map_nil, prepV, prepC, idx, hpL', lookR, Nat.reduceEqDiff, if_true, if_false]; rfl)
       case h => (first | exact sane_spec ..))
    | ((first | refine s1_id ?_ | refine swp_id ?_ | refine sops_id ?_ | refine s2_id ?_); simp only [decide_eq_false hlt', lendQ, go_sem, Nat.reduceEqDiff, Nat.reduceAdd, Nat.reduceSub, Nat.reduceMul, Nat.reduceLT, Nat.reduceLeDiff, ↓reduceIte, reduceCtorEq, List.reduceReplicate, Int.cast_ofNat_Int, Int.reduceEq, Int.reduceLT, Int.reduceLE, SV.ren, SV.renL, Cell.ren, Row.ren, renO, bk, back, outUpsFrom, Ints_ren])
    | (apply fs_nil <;> (try simp only [go_sem, resV, resS, SV.ren, SV.renL, Cell.ren, St.tmF, St.hpF, idx, renO, Row.ren, evS, slot, lookR, Nat.reduceEqDiff, ↓reduceIte, reduceCtorEq, if_true, if_false, Option.getD_some, Option.getD_none, List.map_cons, List.map_nil, sLoad, readAt, readNeed, Ints_ren, Ints_length, Ints_getD, and_true, true_and, List.getD_cons_zero, List.getD_cons_succ]) <;> (try rfl)))
  have hlt' : (n : Int) < 3 * (N : Int) + 1 := by omega
  have hqi := qck_iff hI.1
  have hidL : hasI id L = true := by
    obtain ⟨_, ⟨k, hk, k1, _⟩, _⟩ := hW
    rw [← k1]; exact hin k hk
  obtain ⟨kp, hkp, hap, hpk, hle0⟩ := pick_least hW.1 hW.hd hidL
  have hle : ∀ i, i < q'.length → (q'.getD i zi).a = true → (q'.getD kp zi).v ≤ (q'.getD i zi).v := fun i hi ha => hle0 i hi ha (hin i hi)
  have hvm := hI.2.2.2.2 kp hkp
  have hcr := cst_rng (q'.getD kp zi).w
  have p1 := vpick_spec c' q' none L none (by omega) (by omega)
  rw [hpk] at p1
  simp only [gi, hll] at p1
  by_cases hid2 : (q'.getD kp zi).i = id
  · obtain ⟨c3, q3, hsv, _⟩ := serve_at hI.1 hkp rfl hap (by omega)
    have p2 := serve_spec c' q' none (q'.getD kp zi).i (by omega)
    rw [hsv] at p2
    rw [hid2] at p1 p2
    simp only [go_sem, Nat.reduceEqDiff, Nat.reduceAdd, Nat.reduceSub, Nat.reduceMul, Nat.reduceLT, Nat.reduceLeDiff, ↓reduceIte, reduceCtorEq, List.reduceReplicate, Int.cast_ofNat_Int, Int.reduceEq, Int.reduceLT, Int.reduceLE, decide_eq_true hlt', lendQ]
    repeat' (first
    | with_reducible refine And.intro ?_ ?_
    | (intros; (try simp only [Bool.and_eq_true, Bool.or_eq_true, Bool.not_eq_true', Bool.not_eq_false', Bool.and_eq_false_iff, Bool.or_eq_false_iff, decide_eq_true_eq, decide_eq_false_iff_not] at *); omega)
    | (apply cl_plain
       case hs => rfl
       case ha => (simp only [List.map_cons, List.map_nil, prepV, prepC, idx, hpL', lookR, Nat.reduceEqDiff, if_true, if_false]; rfl)
       case h => (first | exact p1 .. | exact p2 .. | exact sane_spec ..))
    | (apply cl_show
       case ha => (simp only [List.map_cons, List.map_nil, prepV, prepC, idx, hpL', lookR, Nat.reduceEqDiff, if_true, if_false]; rfl)
       case hs => ((simp [snaps, SV.refs, Cell.refs, idx, hpL', lookR]) <;> (repeat' apply And.intro) <;> (first | exact Ints_isG _ | exact Its_isG _))
       case h => (first | exact p1 .. | exact p2 .. | exact sane_spec ..)
       case hg => ((simp [SV.noG, SV.noGL, Cell.noG]) <;> (repeat' apply And.intro) <;> exact Ints_noG _))
    | ((first | refine s1_id ?_ | refine swp_id ?_ | refine sops_id ?_ | refine s2_id ?_); simp only [decide_eq_true hlt', lendQ, decide_true, decide_false, hll, go_sem, Nat.reduceEqDiff, Nat.reduceAdd, Nat.reduceSub, Nat.reduceMul, Nat.reduceLT, Nat.reduceLeDiff, ↓reduceIte, reduceCtorEq, List.reduceReplicate, Int.cast_ofNat_Int, Int.reduceEq, Int.reduceLT, Int.reduceLE, SV.ren, SV.renL, Cell.ren, Row.ren, renO, bk, back, outUpsFrom, Ints_ren])
    | (apply fs_nil <;> (try simp only [go_sem, resV, resS, SV.ren, SV.renL, Cell.ren, St.tmF, St.hpF, idx, renO, Row.ren, evS, slot, lookR, Nat.reduceEqDiff, ↓reduceIte, reduceCtorEq, if_true, if_false, Option.getD_some, Option.getD_none, List.map_cons, List.map_nil, sLoad, readAt, readNeed, Ints_ren, Ints_length, Ints_getD, and_true, true_and, List.getD_cons_zero, List.getD_cons_succ]) <;> (try rfl)))
  obtain ⟨c3, q3, hsv, hl3, hids, hW3⟩ := hW.serve hkp hap hle hid2 (by omega)
  have hfew := hW.few (by omega) hkp hap hle
  have p2 := serve_spec c' q' none (q'.getD kp zi).i (by omega)
  have hI3 := inv_serve hI (by omega) (id := (q'.getD kp zi).i) (by rw [hsv])
  rw [hsv] at p2 hI3
  have p3 := rfind_spec c' q' none (q'.getD kp zi).i (by omega)
  rw [fnd_at hI.1 hkp rfl] at p3
  simp only at hI3
  clear hsv hpk hle0 hle
  generalize q'.getD kp zi = x at *
  have hg : getM (setM M x.i (getM M x.i + 1)) x.i = getM M x.i + 1 := by rw [getM_setM, if_pos rfl]
  have hmi := hM x.i
  have hfin : 3 * N + 1 - (n + 1) < 3 * N + 1 - n := by omega
  have hinv : n + 1 ≤ 3 * N + 1 ∧ q3.length = N ∧ (∀ k, k < q3.length → hasI (q3.getD k zi).i L = true) ∧ Wk c x0.v wm id (getM (setM M x.i (getM M x.i + 1))) c3 q3 ∧ Inv id wm id wm (108447924224 + 1073741824 * ((n + 1 : Nat) : Int)) c3 q3 ∧ ∀ d, 0 ≤ getM (setM M x.i (getM M x.i + 1)) d ∧ getM (setM M x.i (getM M x.i + 1)) d ≤ ((n + 1 : Nat) : Int) := by
    refine ⟨by omega, by omega, fun k hk => by rw [hids]; exact hin k (by omega), ?_, inv_up hI3 (by omega), fun d => ?_⟩
    · have : getM (setM M x.i (getM M x.i + 1)) = fun d => if d = x.i then getM M d + 1 else getM M d := by
        funext d
        rw [getM_setM]
        split
        · rename_i h; rw [h]
        · rfl
      rw [this]
      exact hW3
    · rw [getM_setM]
      have := hM d
      split <;> omega
  have hlt3 : q3.length ≤ 192 := by omega
  clear hin hW hI hids hW3 hI3
  by_cases hwl : x.w ≤ x0.w
  · have h3 : ¬ 3 ≤ getM M x.i + 1 := by have := hfew (by omega); omega
    simp only [go_sem, Nat.reduceEqDiff, Nat.reduceAdd, Nat.reduceSub, Nat.reduceMul, Nat.reduceLT, Nat.reduceLeDiff, ↓reduceIte, reduceCtorEq, List.reduceReplicate, Int.cast_ofNat_Int, Int.reduceEq, Int.reduceLT, Int.reduceLE, decide_eq_true hlt', lendQ]
    repeat' (first
    | with_reducible refine And.intro ?_ ?_
    | (intros; (try simp only [Bool.and_eq_true, Bool.or_eq_true, Bool.not_eq_true', Bool.not_eq_false', Bool.and_eq_false_iff, Bool.or_eq_false_iff, decide_eq_true_eq, decide_eq_false_iff_not] at *); omega)
    | (apply cl_plain
       case hs => rfl
       case ha => (simp only [List.map_cons, List.map_nil, prepV, prepC, idx, hpL', lookR, Nat.reduceEqDiff, if_true, if_false]; rfl)
       case h => (first | exact p1 .. | exact p2 .. | exact p3 ..))
    | (apply cl_show
       case ha => (simp only [List.map_cons, List.map_nil, prepV, prepC, idx, hpL', lookR, Nat.reduceEqDiff, if_true, if_false]; rfl)
       case hs => ((simp [snaps, SV.refs, Cell.refs, idx, hpL', lookR]) <;> (repeat' apply And.intro) <;> (first | exact Ints_isG _ | exact Its_isG _))
       case h => (first | exact p1 .. | exact p2 .. | exact p3 ..)
       case hg => ((simp [SV.noG, SV.noGL, Cell.noG]) <;> (repeat' apply And.intro) <;> exact Ints_noG _))
    | ((first | refine s1_id ?_ | refine swp_id ?_ | refine sops_id ?_ | refine s2_id ?_); simp only [decide_eq_true hlt', lendQ, decide_true, decide_false, hll, decide_eq_false hid2, decide_eq_true hwl, hg, decide_eq_false h3, go_sem, Nat.reduceEqDiff, Nat.reduceAdd, Nat.reduceSub, Nat.reduceMul, Nat.reduceLT, Nat.reduceLeDiff, ↓reduceIte, reduceCtorEq, List.reduceReplicate, Int.cast_ofNat_Int, Int.reduceEq, Int.reduceLT, Int.reduceLE, SV.ren, SV.renL, Cell.ren, Row.ren, renO, bk, back, outUpsFrom, Ints_ren]))
    refine le_mk (n + 1, (c3, q3), setM M x.i (getM M x.i + 1)) ?_ hinv (by show 3 * N + 1 - (n + 1) < 3 * N + 1 - n; exact hfin)
    (refine imp_ren _ _ _ [(0, 0, ⟨[int c3, .gsl (Its q3) 0 q3.length none], 2⟩), (1, 1, ⟨itc x0, 4⟩), (2, 2, ⟨Ints L, 1⟩), (3, 3, ⟨Mps (setM M x.i (getM M x.i + 1)), 0⟩)] (by simp) (by simp) (by simp) (Nat.le_of_ble_eq_true rfl) ?_ rfl (by simp only [List.forall_mem_cons, List.not_mem_nil, false_implies, implies_true, and_true, St.hpF, lookR, Nat.reduceEqDiff, if_true, if_false, ↓reduceIte, itc, Mps_flat] <;> (repeat' apply And.intro) <;> (first | rfl | trivial)) (by simp only [List.forall_mem_cons, List.not_mem_nil, false_implies, implies_true, and_true, true_and, flat_cons, flat_nil, flat_ints, flat_bools, flat_app, Cell.refs, and_self, eq_self_iff_true, List.append_nil, itc, Mps_flat]); simp only [List.map_cons, List.map_nil, List.forall_mem_cons, List.not_mem_nil, false_implies, implies_true, and_true, lk, slot, SV.ren, Cell.ren, toN, Nat.reduceEqDiff, if_true, if_false, ↓reduceIte, reduceCtorEq])
    all_goals ((repeat' apply And.intro) <;> (first | rfl | trivial | (simp only [Int.natCast_add]; done) | (simp only [Int.natCast_add]; rfl) | (simp only [Int.natCast_add]; trivial)))
  · simp only [go_sem, Nat.reduceEqDiff, Nat.reduceAdd, Nat.reduceSub, Nat.reduceMul, Nat.reduceLT, Nat.reduceLeDiff, ↓reduceIte, reduceCtorEq, List.reduceReplicate, Int.cast_ofNat_Int, Int.reduceEq, Int.reduceLT, Int.reduceLE, decide_eq_true hlt', lendQ]
    repeat' (first
    | with_reducible refine And.intro ?_ ?_
    | (intros; (try simp only [Bool.and_eq_true, Bool.or_eq_true, Bool.not_eq_true', Bool.not_eq_false', Bool.and_eq_false_iff, Bool.or_eq_false_iff, decide_eq_true_eq, decide_eq_false_iff_not] at *); omega)
    | (apply cl_plain
       case hs => rfl
       case ha => (simp only [List.map_cons, List.map_nil, prepV, prepC, idx, hpL', lookR, Nat.reduceEqDiff, if_true, if_false]; rfl)
       case h => (first | exact p1 .. | exact p2 .. | exact p3 ..))
    | (apply cl_show
       case ha => (simp only [List.map_cons, List.map_nil, prepV, prepC, idx, hpL', lookR, Nat.reduceEqDiff, if_true, if_false]; rfl)
       case hs => ((simp [snaps, SV.refs, Cell.refs, idx, hpL', lookR]) <;> (repeat' apply And.intro) <;> (first | exact Ints_isG _ | exact Its_isG _))
       case h => (first | exact p1 .. | exact p2 .. | exact p3 ..)
       case hg => ((simp [SV.noG, SV.noGL, Cell.noG]) <;> (repeat' apply And.intro) <;> exact Ints_noG _))
    | ((first | refine s1_id ?_ | refine swp_id ?_ | refine sops_id ?_ | refine s2_id ?_); simp only [decide_eq_true hlt', lendQ, decide_true, decide_false, hll, decide_eq_false hid2, decide_eq_false hwl, hg, go_sem, Nat.reduceEqDiff, Nat.reduceAdd, Nat.reduceSub, Nat.reduceMul, Nat.reduceLT, Nat.reduceLeDiff, ↓reduceIte, reduceCtorEq, List.reduceReplicate, Int.cast_ofNat_Int, Int.reduceEq, Int.reduceLT, Int.reduceLE, SV.ren, SV.renL, Cell.ren, Row.ren, renO, bk, back, outUpsFrom, Ints_ren]))
    refine le_mk (n + 1, (c3, q3), setM M x.i (getM M x.i + 1)) ?_ hinv (by show 3 * N + 1 - (n + 1) < 3 * N + 1 - n; exact hfin)
    (refine imp_ren _ _ _ [(0, 0, ⟨[int c3, .gsl (Its q3) 0 q3.length none], 2⟩), (1, 1, ⟨itc x0, 4⟩), (2, 2, ⟨Ints L, 1⟩), (3, 3, ⟨Mps (setM M x.i (getM M x.i + 1)), 0⟩)] (by simp) (by simp) (by simp) (Nat.le_of_ble_eq_true rfl) ?_ rfl (by simp only [List.forall_mem_cons, List.not_mem_nil, false_implies, implies_true, and_true, St.hpF, lookR, Nat.reduceEqDiff, if_true, if_false, ↓reduceIte, itc, Mps_flat] <;> (repeat' apply And.intro) <;> (first | rfl | trivial)) (by simp only [List.forall_mem_cons, List.not_mem_nil, false_implies, implies_true, and_true, true_and, flat_cons, flat_nil, flat_ints, flat_bools, flat_app, Cell.refs, and_self, eq_self_iff_true, List.append_nil, itc, Mps_flat]); simp only [List.map_cons, List.map_nil, List.forall_mem_cons, List.not_mem_nil, false_implies, implies_true, and_true, lk, slot, SV.ren, Cell.ren, toN, Nat.reduceEqDiff, if_true, if_false, ↓reduceIte, reduceCtorEq])
    all_goals ((repeat' apply And.intro) <;> (first | rfl | trivial | (simp only [Int.natCast_add]; done) | (simp only [Int.natCast_add]; rfl) | (simp only [Int.natCast_add]; trivial)))
theorem wakes_main (g0 : List Cell) (s0 : GTy Try.prog 12 22 g0) : FnSpec Try.prog 8 [svOf Try.prog 22 g0] [] (b1 true) [] := by
  obtain ⟨l, rfl, hl, hr⟩ := gty_ints (n := 10) Try.underlying22 Try.underlying3 s0
  simp only [svOf, Try.underlying22, List.headD_cons]
  exact wakes_spec l hr
end Go.Proofs.Ytabanfgnnelfcaa
