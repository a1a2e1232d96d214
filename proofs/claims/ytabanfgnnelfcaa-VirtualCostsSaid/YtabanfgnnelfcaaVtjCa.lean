/- Contracts of functions, told of values, on the way to VirtualCosts. -/
import Derived.Test.YtabanfgnnelfcaaTyCa
import Derived.Test.YtabanfgnnelfcaaVtgCa
import Derived.Test.YtabanfgnnelfcaaVthCa
-- NEWGO
-- PRUNE: cl_lendx
-- ISG: Its_isG
namespace Go.Proofs.Ytabanfgnnelfcaa
set_option linter.unusedVariables false
set_option linter.unusedSimpArgs false
open Go.Proofs.Ytabanfgnnelfcaa.Sh
set_option maxRecDepth 20000
theorem cst_whole {a : Int} (h : 1 ≤ a ∧ a ≤ 10000) : 1073741824 ≤ cst a * a ∧ (cst a - 1) * a < 1073741824 := by
  have hw : wok a = true := wok_iff.2 h
  unfold cst
  rw [if_pos hw]
  have e := Int.mul_ediv_add_emod (1073741824 + a - 1) a
  have r1 := Int.emod_nonneg (1073741824 + a - 1) (show a ≠ 0 by omega)
  have r2 := Int.emod_lt_of_pos (1073741824 + a - 1) (show 0 < a by omega)
  rw [Int.sub_mul, Int.one_mul]
  generalize (1073741824 + a - 1) % a = r at *
  generalize (1073741824 + a - 1) / a = q at *
  rw [Int.mul_comm a q] at e
  constructor <;> omega
theorem cst_anti {a b : Int} (ha : 1 ≤ a) (hab : a < b) (hb : b ≤ 10000) : cst b ≤ cst a := by
  have h1 := cst_whole (a := a) ⟨ha, by omega⟩
  have h2 := cst_whole (a := b) ⟨by omega, hb⟩
  have r1 := cst_rng a
  by_cases h : cst b ≤ cst a
  case neg =>
    have m1 : cst a * a ≤ cst a * b := Int.mul_le_mul_of_nonneg_left (by omega) r1.1
    have m2 : cst a * b ≤ (cst b - 1) * b := Int.mul_le_mul_of_nonneg_right (by omega) (by omega)
    omega
  exact h
theorem rwQ_at {c : Int} {l : List It} (hq : qck c l = true) {i : Nat} (hi : i < l.length) {id a : Int} (hid : id = (l.getD i zi).i) (ha : wok a = true) :
    rwQ c l id a = ((stC c (l.set i ⟨id, a, rwV c a (l.getD i zi), (l.getD i zi).a⟩), l.set i ⟨id, a, rwV c a (l.getD i zi), (l.getD i zi).a⟩), 0) := by
  obtain ⟨e1, e2⟩ := bsV_at (qck_srt hq) hi hid.symm
  unfold rwQ
  rw [if_neg (by intro h; rw [ha] at h; exact absurd h.2 (by decide))]
  unfold chg
  rw [if_pos hq, if_pos e2, e1]
  unfold rwF
  rw [if_pos rfl, hid]
theorem rew2 {c : Int} {l : List It} (hq : qck c l = true) {i : Nat} (hi : i < l.length) {id w a : Int} (hid : id = (l.getD i zi).i) (hw : w = (l.getD i zi).w) (ha : wok a = true) :
    ∃ c1 L1 c2 L2 o2, rwQ c l id a = ((c1, L1), 0) ∧ rwQ c1 L1 id w = ((c2, L2), 0) ∧ fnd c2 L2 id = (o2, true) ∧ qck c1 L1 = true ∧ qck c2 L2 = true ∧ o2.v ≤ c1 + cst w ∧ o2.w = w := by
  have hww : wok w = true := by rw [hw]; exact (iOk_all.1 (qck_ok hq hi)).2.1
  have E1 := rwQ_at hq hi hid ha
  generalize hy : (⟨id, a, rwV c a (l.getD i zi), (l.getD i zi).a⟩ : It) = y at E1
  have k1 := kp_rew c l id a
  rw [E1] at k1
  have k1 := (k1 rfl).1
  simp only at k1
  have hi1 : i < (l.set i y).length := by rw [List.length_set]; exact hi
  have hg := getD_set l i y hi
  have hid1 : id = ((l.set i y).getD i zi).i := by rw [hg, ← hy]
  have E2 := rwQ_at k1 hi1 hid1 hww
  have ho := qck_ok k1 hi1
  have hc := qck_iff k1
  have hr := rwV_ok hww ho ⟨hc.1, hc.2.1⟩
  generalize hz : (⟨id, w, rwV (stC c (l.set i y)) w ((l.set i y).getD i zi), ((l.set i y).getD i zi).a⟩ : It) = z at E2
  have k2 := kp_rew (stC c (l.set i y)) (l.set i y) id w
  rw [E2] at k2
  have k2 := (k2 rfl).1
  simp only at k2
  have hi2 : i < ((l.set i y).set i z).length := by rw [List.length_set]; exact hi1
  have hg2 := getD_set (l.set i y) i z hi1
  obtain ⟨e1, e2⟩ := bsV_at (id := id) (qck_srt k2) hi2 (by rw [hg2, ← hz])
  refine ⟨_, _, _, _, z, E1, E2, ?_, k1, k2, ?_, ?_⟩
  · unfold fnd
    rw [if_pos ⟨e2, k2⟩, e1, hg2]
  · have := (iOk_all.1 hr).2.2.2.1
    rw [← hz]
    exact this
  · rw [← hz]
set_option maxHeartbeats 8000000 in
theorem costs_spec (l : List Int) (hl : ∀ x ∈ l, -9223372036854775808 ≤ x ∧ x ≤ 9223372036854775807) (n m : Int) (hn : 0 ≤ n ∧ n ≤ 65535) (hm : 0 ≤ m ∧ m ≤ 65535) : FnSpec Try.prog 4 [gi l none, .one (.sc (.int .u16 n)), .one (.sc (.int .u16 m))] [] (b1 true) [] := by
  by_cases hlen : (l.length : Int) ≤ 600
  case neg =>
    refine fnspec_of mixed TT_ok TT_cl ⟨fun _ => false, fun _ => [], 0, fun _ => false, fun _ => false⟩ Try.func4 rfl (by kernel_rfl) rfl 140 rfl [.tmp 6] rfl ?_
    simp only [go_sem, Nat.reduceEqDiff, Nat.reduceAdd, Nat.reduceSub, Nat.reduceMul, Nat.reduceLT, Nat.reduceLeDiff, ↓reduceIte, reduceCtorEq, List.reduceReplicate, Int.cast_ofNat_Int, Int.reduceEq, Int.reduceLT, Int.reduceLE]
    repeat' (first
    | (apply cl_plain
       case hs => rfl
       case ha => (simp only [List.map_cons, List.map_nil, prepV, prepC, idx, hpL', lookR, Nat.reduceEqDiff, if_true, if_false]; rfl)
       case h => (first | exact light_spec .. | exact sane_spec ..))
    | ((first | refine s1_id ?_ | refine swp_id ?_ | refine sops_id ?_ | refine s2_id ?_); simp only [decide_eq_false hlen, go_sem, Nat.reduceEqDiff, Nat.reduceAdd, Nat.reduceSub, Nat.reduceMul, Nat.reduceLT, Nat.reduceLeDiff, ↓reduceIte, reduceCtorEq, List.reduceReplicate, Int.cast_ofNat_Int, Int.reduceEq, Int.reduceLT, Int.reduceLE, SV.ren, SV.renL, Cell.ren, Row.ren, renO, bk, back, outUpsFrom, Ints_ren])
    | (apply fs_nil <;> (try simp only [go_sem, resV, resS, SV.ren, SV.renL, Cell.ren, St.tmF, St.hpF, idx, renO, Row.ren, evS, slot, lookR, Nat.reduceEqDiff, ↓reduceIte, reduceCtorEq, if_true, if_false, Option.getD_some, Option.getD_none, List.map_cons, List.map_nil, sLoad, readAt, readNeed, Ints_ren, Ints_length, Ints_getD, and_true, true_and, List.getD_cons_zero, List.getD_cons_succ]) <;> (try rfl)))
  have hl6 : l.length ≤ 600 := by omega
  have t1 : 0 ≤ n.tmod 10000 ∧ n.tmod 10000 < 10000 := ⟨Int.tmod_nonneg _ hn.1, Int.tmod_lt_of_pos _ (by decide)⟩
  have t2 : 0 ≤ m.tmod 10000 ∧ m.tmod 10000 < 10000 := ⟨Int.tmod_nonneg _ hm.1, Int.tmod_lt_of_pos _ (by decide)⟩
  refine fnspec_of mixed TT_ok TT_cl ⟨fun _ => false, lendQ, 0, fun _ => false, fun _ => false⟩ Try.func4 rfl (by kernel_rfl) rfl 140 rfl [.tmp 6] rfl ?_
  generalize hA : n.tmod 10000 = a0 at *
  generalize hB : m.tmod 10000 = b0 at *
  have c1 := cost_spec (1 + a0)
  have c2 := cost_spec (1 + b0)
  have w1 := cst_whole (a := 1 + a0) (by omega)
  have ha : wok (1 + a0) = true := wok_iff.2 (by omega)
  have hab : 1 + a0 < 1 + b0 → ¬ cst (1 + a0) < cst (1 + b0) := fun h => by have := cst_anti (a := 1 + a0) (b := 1 + b0) (by omega) h (by omega); omega
  have r1 := cst_rng (1 + a0)
  have r2 := cst_rng (1 + b0)
  generalize hx : cst (1 + a0) = x at *
  generalize cst (1 + b0) = y at *
  have p1 : 0 ≤ x * (1 + a0) ∧ x * (1 + a0) ≤ 1073741824 * 10000 := ⟨Int.mul_nonneg r1.1 (by omega), Int.le_trans (Int.mul_le_mul_of_nonneg_right r1.2 (by omega)) (by omega)⟩
  have p2 : -10000 ≤ (x - 1) * (1 + a0) := by rw [Int.sub_mul]; omega
  have d1 : ¬ x * (1 + a0) < 1073741824 := by omega
  have d2 : ¬ 1073741824 ≤ (x - 1) * (1 + a0) := by omega
  have hQ := queue_spec l 0 14 hl6 hl (by omega)
  have hK := mkQ_ok l 0 14
  generalize mkQ l 0 14 = T at *
  obtain ⟨⟨c, q⟩, j⟩ := T
  simp only at hK hQ
  have hq := qck_iff hK
  have hil := Its_len q
  by_cases hlt : 1 + a0 < 1 + b0
  case' pos =>
    simp only [go_sem, Nat.reduceEqDiff, Nat.reduceAdd, Nat.reduceSub, Nat.reduceMul, Nat.reduceLT, Nat.reduceLeDiff, ↓reduceIte, reduceCtorEq, List.reduceReplicate, Int.cast_ofNat_Int, Int.reduceEq, Int.reduceLT, Int.reduceLE, decide_eq_true hlen, lendQ, decide_eq_false d1, decide_eq_false d2, hA, hB, decide_eq_true hlt, decide_eq_false (hab hlt)]
    repeat' (first
    | with_reducible refine And.intro ?_ ?_
    | (intros; (try simp only [Bool.and_eq_true, Bool.or_eq_true, Bool.not_eq_true', Bool.not_eq_false', Bool.and_eq_false_iff, Bool.or_eq_false_iff, decide_eq_true_eq, decide_eq_false_iff_not] at *); omega)
    | (apply cl_plain
       case hs => rfl
       case ha => (simp only [List.map_cons, List.map_nil, prepV, prepC, idx, hpL', lookR, Nat.reduceEqDiff, if_true, if_false]; rfl)
       case h => (first | exact light_spec .. | exact roll_spec .. | exact c1 .. | exact c2 .. | exact hQ ..))
    | (apply cl_lend
       case hr => (simp only [List.map_cons, List.map_nil, hpL', lookR, Nat.reduceEqDiff, if_true, if_false]; first | exact map1 _ | exact map2 _ _ | exact map3 _ _ _)
       case ha => (simp only [List.map_cons, List.map_nil, prepV, prepC, idx, hpL', lookR, Nat.reduceEqDiff, if_true, if_false]; rfl)
       case hs => rfl
       case hn => decide
       case h => (first | exact light_spec .. | exact roll_spec .. | exact c1 .. | exact c2 .. | exact hQ ..)
       case hf => (simp only [List.forall_mem_cons, List.not_mem_nil, false_implies, implies_true, and_true, true_and, flat_cons, flat_nil, flat_ints, flat_bools, flat_app, Cell.refs, and_self, eq_self_iff_true, List.append_nil])
       case hl => (simp only [List.length_cons, List.length_nil]; decide))
    | ((first | refine s1_id ?_ | refine swp_id ?_ | refine sops_id ?_ | refine s2_id ?_); simp only [decide_eq_true hlen, lendQ, decide_eq_false d1, decide_eq_false d2, hA, hB, decide_eq_true hlt, decide_eq_false (hab hlt), go_sem, Nat.reduceEqDiff, Nat.reduceAdd, Nat.reduceSub, Nat.reduceMul, Nat.reduceLT, Nat.reduceLeDiff, ↓reduceIte, reduceCtorEq, List.reduceReplicate, Int.cast_ofNat_Int, Int.reduceEq, Int.reduceLT, Int.reduceLE, SV.ren, SV.renL, Cell.ren, Row.ren, renO, bk, back, outUpsFrom, Ints_ren]))
  case' neg =>
    simp only [go_sem, Nat.reduceEqDiff, Nat.reduceAdd, Nat.reduceSub, Nat.reduceMul, Nat.reduceLT, Nat.reduceLeDiff, ↓reduceIte, reduceCtorEq, List.reduceReplicate, Int.cast_ofNat_Int, Int.reduceEq, Int.reduceLT, Int.reduceLE, decide_eq_true hlen, lendQ, decide_eq_false d1, decide_eq_false d2, hA, hB, decide_eq_false hlt]
    repeat' (first
    | with_reducible refine And.intro ?_ ?_
    | (intros; (try simp only [Bool.and_eq_true, Bool.or_eq_true, Bool.not_eq_true', Bool.not_eq_false', Bool.and_eq_false_iff, Bool.or_eq_false_iff, decide_eq_true_eq, decide_eq_false_iff_not] at *); omega)
    | (apply cl_plain
       case hs => rfl
       case ha => (simp only [List.map_cons, List.map_nil, prepV, prepC, idx, hpL', lookR, Nat.reduceEqDiff, if_true, if_false]; rfl)
       case h => (first | exact light_spec .. | exact roll_spec .. | exact c1 .. | exact c2 .. | exact hQ ..))
    | (apply cl_lend
       case hr => (simp only [List.map_cons, List.map_nil, hpL', lookR, Nat.reduceEqDiff, if_true, if_false]; first | exact map1 _ | exact map2 _ _ | exact map3 _ _ _)
       case ha => (simp only [List.map_cons, List.map_nil, prepV, prepC, idx, hpL', lookR, Nat.reduceEqDiff, if_true, if_false]; rfl)
       case hs => rfl
       case hn => decide
       case h => (first | exact light_spec .. | exact roll_spec .. | exact c1 .. | exact c2 .. | exact hQ ..)
       case hf => (simp only [List.forall_mem_cons, List.not_mem_nil, false_implies, implies_true, and_true, true_and, flat_cons, flat_nil, flat_ints, flat_bools, flat_app, Cell.refs, and_self, eq_self_iff_true, List.append_nil])
       case hl => (simp only [List.length_cons, List.length_nil]; decide))
    | ((first | refine s1_id ?_ | refine swp_id ?_ | refine sops_id ?_ | refine s2_id ?_); simp only [decide_eq_true hlen, lendQ, decide_eq_false d1, decide_eq_false d2, hA, hB, decide_eq_false hlt, go_sem, Nat.reduceEqDiff, Nat.reduceAdd, Nat.reduceSub, Nat.reduceMul, Nat.reduceLT, Nat.reduceLeDiff, ↓reduceIte, reduceCtorEq, List.reduceReplicate, Int.cast_ofNat_Int, Int.reduceEq, Int.reduceLT, Int.reduceLE, SV.ren, SV.renL, Cell.ren, Row.ren, renO, bk, back, outUpsFrom, Ints_ren]))
  all_goals
    refine w_loop (ι := Nat) (fun i => ⟨[(7, i1 (1 + a0)), (12, .one (.optr 0 0)), (64, i1 q.length), (65, i1 i)], [(0, some ⟨[int c, .gsl (Its q) 0 q.length none], 2⟩)], 1⟩) (fun i => i ≤ q.length) (fun i => q.length - i) 0 ?_ (Nat.zero_le _) ?_
    · (refine imp_ren _ _ _ [(0, 46, ⟨[int c, .gsl (Its q) 0 q.length none], 2⟩)] (by simp) (by simp) (by simp) (Nat.le_of_ble_eq_true rfl) ?_ rfl (by simp only [List.forall_mem_cons, List.not_mem_nil, false_implies, implies_true, and_true, St.hpF, lookR, Nat.reduceEqDiff, if_true, if_false, ↓reduceIte] <;> (repeat' apply And.intro) <;> (first | rfl | trivial)) (by simp only [List.forall_mem_cons, List.not_mem_nil, false_implies, implies_true, and_true, true_and, flat_cons, flat_nil, flat_ints, flat_bools, flat_app, Cell.refs, and_self, eq_self_iff_true, List.append_nil]); simp only [List.map_cons, List.map_nil, List.forall_mem_cons, List.not_mem_nil, false_implies, implies_true, and_true, lk, slot, SV.ren, Cell.ren, toN, Nat.reduceEqDiff, if_true, if_false, ↓reduceIte, reduceCtorEq])
      all_goals ((repeat' apply And.intro) <;> (first | rfl | trivial))
    clear d1 d2 p1 p2 w1 hab hA hB hQ
    intro i hi
    simp only at hi ⊢
    rcases Nat.lt_or_ge i q.length with hli | hge
    case inr =>
      have hli' : ¬ (i : Int) < (q.length : Int) := by omega
      simp only [go_sem, Nat.reduceEqDiff, Nat.reduceAdd, Nat.reduceSub, Nat.reduceMul, Nat.reduceLT, Nat.reduceLeDiff, ↓reduceIte, reduceCtorEq, List.reduceReplicate, Int.cast_ofNat_Int, Int.reduceEq, Int.reduceLT, Int.reduceLE, decide_eq_false hli', lendQ]
      repeat' (first
    | (apply cl_plain
       case hs => rfl
       case ha => (simp only [List.map_cons, List.map_nil, prepV, prepC, idx, hpL', lookR, Nat.reduceEqDiff, if_true, if_false]; rfl)
       case h => (first | exact sane_spec ..))
    | ((first | refine s1_id ?_ | refine swp_id ?_ | refine sops_id ?_ | refine s2_id ?_); simp only [decide_eq_false hli', lendQ, go_sem, Nat.reduceEqDiff, Nat.reduceAdd, Nat.reduceSub, Nat.reduceMul, Nat.reduceLT, Nat.reduceLeDiff, ↓reduceIte, reduceCtorEq, List.reduceReplicate, Int.cast_ofNat_Int, Int.reduceEq, Int.reduceLT, Int.reduceLE, SV.ren, SV.renL, Cell.ren, Row.ren, renO, bk, back, outUpsFrom, Ints_ren])
    | (apply fs_nil <;> (try simp only [go_sem, resV, resS, SV.ren, SV.renL, Cell.ren, St.tmF, St.hpF, idx, renO, Row.ren, evS, slot, lookR, Nat.reduceEqDiff, ↓reduceIte, reduceCtorEq, if_true, if_false, Option.getD_some, Option.getD_none, List.map_cons, List.map_nil, sLoad, readAt, readNeed, Ints_ren, Ints_length, Ints_getD, and_true, true_and, List.getD_cons_zero, List.getD_cons_succ]) <;> (try rfl)))
    have hli' : (i : Int) < (q.length : Int) := by omega
    have hat := Its_at q i hli
    generalize ho : q.getD i zi = o at *
    obtain ⟨C1, L1, C2, L2, z, E1, E2, E3, K1, K2, hv, hw⟩ := rew2 hK hli (id := o.i) (w := o.w) (a := 1 + a0) (by rw [ho]) (by rw [ho]) ha
    have s1 := rew_spec c q none o.i (1 + a0) (by omega)
    rw [E1] at s1
    have k1 := qck_iff K1
    have k2 := qck_iff K2
    have s2 := rew_spec C1 L1 none o.i o.w (by omega)
    rw [E2] at s2
    have s3 := find_spec C2 L2 none o.i (by omega)
    rw [E3] at s3
    have s4 := rcheck_spec C1 L1 none (by omega)
    rw [K1] at s4
    have s5 := rcheck_spec C2 L2 none (by omega)
    rw [K2] at s5
    have s6 := cost_spec o.w
    have rw1 := cst_rng o.w
    clear E1 E2 E3 K1 K2
    generalize cst o.w = ow at *
    have hmx : ¬ (if o.v < C1 + ow then C1 + ow else o.v) < z.v := by split <;> omega
    simp only [go_sem, Nat.reduceEqDiff, Nat.reduceAdd, Nat.reduceSub, Nat.reduceMul, Nat.reduceLT, Nat.reduceLeDiff, ↓reduceIte, reduceCtorEq, List.reduceReplicate, Int.cast_ofNat_Int, Int.reduceEq, Int.reduceLT, Int.reduceLE, decide_eq_true hli', lendQ, hat]
    repeat' (first
    | with_reducible refine And.intro ?_ ?_
    | (unfold OKC; kernel_rfl)
    | (unfold EDG; kernel_rfl)
    | (intros; (try simp only [Bool.and_eq_true, Bool.or_eq_true, Bool.not_eq_true', Bool.not_eq_false', Bool.and_eq_false_iff, Bool.or_eq_false_iff, decide_eq_true_eq, decide_eq_false_iff_not] at *); omega)
    | (apply cg_tp
       case hl => rfl
       case ha => (simp only [List.map_cons, List.map_nil, prepV, prepC, idx, hpL', lookR, Nat.reduceEqDiff, if_true, if_false]; rfl)
       case hs => rfl
       case h => (first | exact s1 .. | exact s2 .. | exact s3 .. | exact s4 .. | exact s5 .. | exact s6 ..))
    | (apply cl_plain
       case hs => rfl
       case ha => (simp only [List.map_cons, List.map_nil, prepV, prepC, idx, hpL', lookR, Nat.reduceEqDiff, if_true, if_false]; rfl)
       case h => (first | exact s1 .. | exact s2 .. | exact s3 .. | exact s4 .. | exact s5 .. | exact s6 ..))
    | ((first | refine s1_id ?_ | refine swp_id ?_ | refine sops_id ?_ | refine s2_id ?_); simp only [decide_eq_true hli', lendQ, hat, decide_eq_false hmx, hw, decide_true, decide_false, go_sem, Nat.reduceEqDiff, Nat.reduceAdd, Nat.reduceSub, Nat.reduceMul, Nat.reduceLT, Nat.reduceLeDiff, ↓reduceIte, reduceCtorEq, List.reduceReplicate, Int.cast_ofNat_Int, Int.reduceEq, Int.reduceLT, Int.reduceLE, SV.ren, SV.renL, Cell.ren, Row.ren, renO, bk, back, outUpsFrom, Ints_ren]))
    refine le_mk (i + 1) ?_ (by omega) (by omega)
    (refine imp_ren _ _ _ [(0, 0, ⟨[int c, .gsl (Its q) 0 q.length none], 2⟩)] (by simp) (by simp) (by simp) (Nat.le_of_ble_eq_true rfl) ?_ rfl (by simp only [List.forall_mem_cons, List.not_mem_nil, false_implies, implies_true, and_true, St.hpF, lookR, Nat.reduceEqDiff, if_true, if_false, ↓reduceIte] <;> (repeat' apply And.intro) <;> (first | rfl | trivial)) (by simp only [List.forall_mem_cons, List.not_mem_nil, false_implies, implies_true, and_true, true_and, flat_cons, flat_nil, flat_ints, flat_bools, flat_app, Cell.refs, and_self, eq_self_iff_true, List.append_nil]); simp only [List.map_cons, List.map_nil, List.forall_mem_cons, List.not_mem_nil, false_implies, implies_true, and_true, lk, slot, SV.ren, Cell.ren, toN, Nat.reduceEqDiff, if_true, if_false, ↓reduceIte, reduceCtorEq])
    all_goals ((repeat' apply And.intro) <;> (first | rfl | trivial | (simp only [Int.natCast_add]; done) | (simp only [Int.natCast_add]; rfl) | (simp only [Int.natCast_add]; trivial)))
theorem costs_main (g0 : List Cell) (s0 : GTy Try.prog 12 22 g0) (g1 : List Cell) (s1 : GTy Try.prog 12 38 g1) (g2 : List Cell) (s2 : GTy Try.prog 12 38 g2) : FnSpec Try.prog 4 [svOf Try.prog 22 g0, svOf Try.prog 38 g1, svOf Try.prog 38 g2] [] (b1 true) [] := by
  obtain ⟨l, rfl, hl, hr⟩ := gty_ints (n := 10) Try.underlying22 Try.underlying3 s0
  obtain ⟨n, rfl, hn⟩ := gty_int (n := 11) Try.underlying38 s1
  obtain ⟨m, rfl, hm⟩ := gty_int (n := 11) Try.underlying38 s2
  simp only [svOf, Try.underlying22, Try.underlying38, List.headD_cons]
  exact costs_spec l hr n m (wf_u16 hn) (wf_u16 hm)
end Go.Proofs.Ytabanfgnnelfcaa
