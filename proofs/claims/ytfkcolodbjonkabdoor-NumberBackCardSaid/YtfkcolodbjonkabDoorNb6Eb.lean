/- Contracts of functions, told of values, on the way to NumberBack. -/
import Derived.Test.YtfkcolodbjonkabDoorTyEb
import Derived.Test.YtfkcolodbjonkabDoorNb5Eb
import Derived.Test.YtfkcolodbjonkabDoorShSz
-- NEWGO
-- PRUNE: cl_lendx cl_use cl_lend
namespace Go.Proofs.YtfkcolodbjonkabDoor
set_option linter.unusedVariables false
set_option linter.unusedSimpArgs false
open Go.Proofs.YtfkcolodbjonkabDoor.Sh
set_option maxRecDepth 20000
theorem pow10_glob : Tryd.prog.globalNamed "internal/strconv.uint64pow10" = some 0 := by kernel_rfl
theorem itoaN_spec (n : Nat) (h : n ≤ 9223372036854775807) : FnSpec Tryd.prog 20 [i1 n] [] (s1 (dec n)) [] := by
  refine FnSpec.of_callsG Tryd.func20 (by kernel_rfl) (by kernel_rfl) trivial fun w vals m hm hg hv => ?_
  generalize hvs : vals.toList = vs at hv
  match vs, hv with
  | [u], ⟨hu, _⟩ =>
    have hvals : vals = #[u] := by apply Array.ext'; exact hvs
    have eu : u = .int .i64 n := by cases hu; rfl
    subst hvals; subst eu
    have ht := hg _ (List.mem_singleton.2 rfl) 0 pow10_glob
    refine (Tryd.strconv_Itoa n (by omega) (by omega) w ht).mono fun e w' ⟨h1, k, os, h2⟩ => ?_
    have e1 : Lib.itoa (n : Int) = dec n := by
      unfold Lib.itoa
      rw [if_neg (by omega), Int.toNat_natCast]
    rw [e1] at h1
    subst h1; subst h2
    refine ⟨_, rfl, VG.sc _ rfl, ⟨rfl, rfl, rfl, ?_, fun k hk => ?_⟩⟩
    · show w.heap.size ≤ (w.heap ++ os).size
      rw [Array.size_append]; omega
    · show (w.heap ++ os)[k]? = w.heap[k]?
      exact Array.getElem?_append_left hk
def pFo (n : Int) : Str × Int := if n = 4611686018427387904 then ([109, 97, 120], 0) else if n < 0 ∨ 1099511627776 < n then ([], 3) else (dec n.toNat, 0)
abbrev rT (x : Str × Int) : SV := .tup [s1 x.1, i1 x.2]
theorem format_spec (n : Int) (h : -9223372036854775808 ≤ n ∧ n ≤ 9223372036854775807) : FnSpec Tryd.prog 17 [i1 n] [] (rT (pFo n)) [] := by
  unfold pFo
  by_cases hm : n = 4611686018427387904
  · rw [if_pos hm]
    refine fnspec_of mixed TT_ok TT_cl ⟨fun _ => false, fun _ => [], 0, fun _ => false, fun _ => false⟩ Tryd.func17 rfl (by kernel_rfl) rfl 14 rfl [.tmp 2, .tmp 3] rfl ?_
    simp only [go_sem, Nat.reduceEqDiff, Nat.reduceAdd, Nat.reduceSub, Nat.reduceMul, Nat.reduceLT, Nat.reduceLeDiff, ↓reduceIte, reduceCtorEq, List.reduceReplicate, Int.cast_ofNat_Int, Int.reduceEq, Int.reduceLT, Int.reduceLE, decide_eq_true hm]
    repeat' (first
    | (apply fs_nil <;> (try simp only [go_sem, resV, resS, SV.ren, SV.renL, Cell.ren, St.tmF, St.hpF, idx, renO, Row.ren, evS, slot, lookR, Nat.reduceEqDiff, ↓reduceIte, reduceCtorEq, if_true, if_false, Option.getD_some, Option.getD_none, List.map_cons, List.map_nil, sLoad, readAt, readNeed, Ints_ren, Ints_length, Ints_getD, and_true, true_and, List.getD_cons_zero, List.getD_cons_succ]) <;> (try rfl)))
  rw [if_neg hm]
  by_cases h0 : n < 0
  · rw [if_pos (.inl h0)]
    refine fnspec_of mixed TT_ok TT_cl ⟨fun _ => false, fun _ => [], 0, fun _ => false, fun _ => false⟩ Tryd.func17 rfl (by kernel_rfl) rfl 14 rfl [.tmp 2, .tmp 3] rfl ?_
    simp only [go_sem, Nat.reduceEqDiff, Nat.reduceAdd, Nat.reduceSub, Nat.reduceMul, Nat.reduceLT, Nat.reduceLeDiff, ↓reduceIte, reduceCtorEq, List.reduceReplicate, Int.cast_ofNat_Int, Int.reduceEq, Int.reduceLT, Int.reduceLE, decide_eq_false hm, decide_eq_true h0]
    repeat' (first
    | (apply fs_nil <;> (try simp only [go_sem, resV, resS, SV.ren, SV.renL, Cell.ren, St.tmF, St.hpF, idx, renO, Row.ren, evS, slot, lookR, Nat.reduceEqDiff, ↓reduceIte, reduceCtorEq, if_true, if_false, Option.getD_some, Option.getD_none, List.map_cons, List.map_nil, sLoad, readAt, readNeed, Ints_ren, Ints_length, Ints_getD, and_true, true_and, List.getD_cons_zero, List.getD_cons_succ]) <;> (try rfl)))
  by_cases h1 : 1099511627776 < n
  · rw [if_pos (.inr h1)]
    refine fnspec_of mixed TT_ok TT_cl ⟨fun _ => false, fun _ => [], 0, fun _ => false, fun _ => false⟩ Tryd.func17 rfl (by kernel_rfl) rfl 14 rfl [.tmp 2, .tmp 3] rfl ?_
    simp only [go_sem, Nat.reduceEqDiff, Nat.reduceAdd, Nat.reduceSub, Nat.reduceMul, Nat.reduceLT, Nat.reduceLeDiff, ↓reduceIte, reduceCtorEq, List.reduceReplicate, Int.cast_ofNat_Int, Int.reduceEq, Int.reduceLT, Int.reduceLE, decide_eq_false hm, decide_eq_false h0, decide_eq_true h1]
    repeat' (first
    | (apply fs_nil <;> (try simp only [go_sem, resV, resS, SV.ren, SV.renL, Cell.ren, St.tmF, St.hpF, idx, renO, Row.ren, evS, slot, lookR, Nat.reduceEqDiff, ↓reduceIte, reduceCtorEq, if_true, if_false, Option.getD_some, Option.getD_none, List.map_cons, List.map_nil, sLoad, readAt, readNeed, Ints_ren, Ints_length, Ints_getD, and_true, true_and, List.getD_cons_zero, List.getD_cons_succ]) <;> (try rfl)))
  rw [if_neg (fun q => q.elim h0 h1)]
  obtain ⟨k, rfl⟩ : ∃ k : Nat, n = k := ⟨n.toNat, by omega⟩
  rw [Int.toNat_natCast]
  have hi := itoaN_spec k (by omega)
  refine fnspec_of mixed TT_ok TT_cl ⟨fun _ => false, fun _ => [], 0, fun _ => false, fun _ => false⟩ Tryd.func17 rfl (by kernel_rfl) rfl 14 rfl [.tmp 2, .tmp 3] rfl ?_
  simp only [go_sem, Nat.reduceEqDiff, Nat.reduceAdd, Nat.reduceSub, Nat.reduceMul, Nat.reduceLT, Nat.reduceLeDiff, ↓reduceIte, reduceCtorEq, List.reduceReplicate, Int.cast_ofNat_Int, Int.reduceEq, Int.reduceLT, Int.reduceLE, decide_eq_false hm, decide_eq_false h0, decide_eq_false h1]
  repeat' (first
    | (apply cl_plain
       case hs => rfl
       case ha => (simp only [List.map_cons, List.map_nil, prepV, prepC, idx, hpL', lookR, Nat.reduceEqDiff, if_true, if_false]; rfl)
       case h => (first | exact hi ..))
    | ((first | refine s1_id ?_ | refine swp_id ?_ | refine sops_id ?_ | refine s2_id ?_); simp only [decide_eq_false hm, decide_eq_false h0, decide_eq_false h1, go_sem, Nat.reduceEqDiff, Nat.reduceAdd, Nat.reduceSub, Nat.reduceMul, Nat.reduceLT, Nat.reduceLeDiff, ↓reduceIte, reduceCtorEq, List.reduceReplicate, Int.cast_ofNat_Int, Int.reduceEq, Int.reduceLT, Int.reduceLE, SV.ren, SV.renL, Cell.ren, Row.ren, renO, bk, back, outUpsFrom, Ints_ren])
    | (apply fs_nil <;> (try simp only [go_sem, resV, resS, SV.ren, SV.renL, Cell.ren, St.tmF, St.hpF, idx, renO, Row.ren, evS, slot, lookR, Nat.reduceEqDiff, ↓reduceIte, reduceCtorEq, if_true, if_false, Option.getD_some, Option.getD_none, List.map_cons, List.map_nil, sLoad, readAt, readNeed, Ints_ren, Ints_length, Ints_getD, and_true, true_and, List.getD_cons_zero, List.getD_cons_succ]) <;> (try rfl)))
theorem vS_app : ∀ (a b : Str) (m : Int), vS (a ++ b) m = (vS a m).bind (vS b)
  | [], b, m => rfl
  | c :: a, b, m => by
    rw [List.cons_append, vS, vS]
    by_cases h : 48 ≤ (c.toNat : Int) ∧ (c.toNat : Int) ≤ 57
    · rw [if_pos h, if_pos h, vS_app a b]
    · rw [if_neg h, if_neg h]; rfl
theorem dg_nat (k : Nat) (h : k < 10) : (UInt8.ofNat (48 + k)).toNat = 48 + k := by
  rw [UInt8.toNat_ofNat']; omega
theorem vS_one (k : Nat) (h : k < 10) (m : Int) : vS [UInt8.ofNat (48 + k)] m = some (min (10 * m + (k : Int)) 1099511627777) := by
  rw [vS, dg_nat k h, if_pos (by omega), vS]
  congr 2
  omega
theorem vS_dec (n : Nat) (h : n ≤ 1099511627776) : vS (dec n) 0 = some (n : Int) := by
  by_cases h10 : n < 10
  · rw [dec_lo h10, vS_one n h10]
    congr 1
    omega
  · rw [dec_hi h10, vS_app, vS_dec (n / 10) (by omega)]
    show vS [UInt8.ofNat (48 + n % 10)] _ = _
    rw [vS_one (n % 10) (by omega)]
    congr 1
    omega
termination_by n
theorem dec_last (n : Nat) : ∃ xs, dec n = xs ++ [UInt8.ofNat (48 + n % 10)] := by
  by_cases h10 : n < 10
  · exact ⟨[], by rw [dec_lo h10, show n % 10 = n by omega]; rfl⟩
  · exact ⟨_, dec_hi h10⟩
theorem lst_app (xs : Str) (d : UInt8) : lst (xs ++ [d]) = d := by
  unfold lst
  have e : (((xs ++ [d]).length : Int) - 1).toNat = xs.length := by
    rw [List.length_append]; show (((xs.length + 1 : Nat) : Int) - 1).toNat = _; omega
  rw [e, List.getElem?_append_right (Nat.le_refl _), Nat.sub_self]
  rfl
theorem parse_dec (n : Nat) (h : n ≤ 1099511627776) : pPa (dec n) = ((n : Int), 0) := by
  obtain ⟨xs, e⟩ := dec_last n
  have hv := vS_dec n h
  have hl : 0 < (dec n).length := by rw [e, List.length_append]; show 0 < _ + 1; omega
  have hf : fac (lst (dec n)) = 0 := by
    rw [e, lst_app]
    unfold fac
    rw [dg_nat _ (by omega), if_neg (by omega), if_neg (by omega), if_neg (by omega), if_neg (by omega)]
  have hm : ¬ dec n = [109, 97, 120] := by
    intro q
    have h1 : lst (dec n) = 120 := by rw [q]; decide
    rw [e, lst_app] at h1
    have h2 := congrArg UInt8.toNat h1
    rw [dg_nat _ (by omega)] at h2
    have h3 : (120 : UInt8).toNat = 120 := rfl
    omega
  unfold pPa
  rw [if_neg hm, hf, if_neg (fun q => absurd q.2 (by decide))]
  have hr : vR (dec n) = ((n : Int), true) := by
    unfold vR
    rw [hv]
    show ((n : Int), decide _) = _
    rw [decide_eq_true (by omega)]
  unfold pE
  rw [hr]
  show (if true = true then (if (1099511627776 : Int).tdiv 1 < (n : Int) then _ else _) else _) = _
  rw [if_pos rfl, Int.tdiv_one, if_neg (by omega), Int.mul_one]
theorem p_max : pPa [109, 97, 120] = (4611686018427387904, 0) := by unfold pPa; rw [if_pos rfl]
theorem h_max : pHu [109, 97, 120] = (10000, 0) := by unfold pHu; rw [if_pos rfl]
theorem decl (n : Nat) : (dec n).length ≤ n + 1 := by
  by_cases h10 : n < 10
  · rw [dec_lo h10]; show 1 ≤ _; omega
  · rw [dec_hi h10, List.length_append]
    have := decl (n / 10)
    show _ + 1 ≤ _
    omega
termination_by n
theorem back_num (n : Int) (h : (pFo n).2 = 0) : pPa (pFo n).1 = (n, 0) ∧ (pFo n).1.length ≤ 1099511627777 := by
  unfold pFo at h ⊢
  by_cases hm : n = 4611686018427387904
  · rw [if_pos hm]; exact ⟨by rw [hm]; exact p_max, by show 3 ≤ _; decide⟩
  rw [if_neg hm] at h ⊢
  by_cases hb : n < 0 ∨ 1099511627776 < n
  · rw [if_pos hb] at h; cases h
  rw [if_neg hb]
  have := parse_dec n.toNat (by omega)
  refine ⟨by rw [this]; congr 1; omega, ?_⟩
  have h2 := decl n.toNat
  show (dec n.toNat).length ≤ _
  omega
theorem fmt_max : FnSpec Tryd.prog 6 [i1 10000] [] (.tup [s1 [109, 97, 120], i1 0]) [] := by
  refine fnspec_of mixed TT_ok TT_cl ⟨fun _ => false, fun _ => [], 0, fun _ => false, fun _ => false⟩ Tryd.func6 rfl (by kernel_rfl) rfl 27 rfl [.tmp 2, .tmp 3] rfl ?_
  simp only [go_sem, Nat.reduceEqDiff, Nat.reduceAdd, Nat.reduceSub, Nat.reduceMul, Nat.reduceLT, Nat.reduceLeDiff, ↓reduceIte, reduceCtorEq, List.reduceReplicate, Int.cast_ofNat_Int, Int.reduceEq, Int.reduceLT, Int.reduceLE]
  repeat' (first
    | (apply fs_nil <;> (try simp only [go_sem, resV, resS, SV.ren, SV.renL, Cell.ren, St.tmF, St.hpF, idx, renO, Row.ren, evS, slot, lookR, Nat.reduceEqDiff, ↓reduceIte, reduceCtorEq, if_true, if_false, Option.getD_some, Option.getD_none, List.map_cons, List.map_nil, sLoad, readAt, readNeed, Ints_ren, Ints_length, Ints_getD, and_true, true_and, List.getD_cons_zero, List.getD_cons_succ]) <;> (try rfl)))
set_option maxHeartbeats 8000000 in
theorem nback_spec (n h : Int) (hn : -9223372036854775808 ≤ n ∧ n ≤ 9223372036854775807) (hh : 0 ≤ h ∧ h ≤ 65535) : FnSpec Tryd.prog 5 [i1 n, .one (.sc (.int .u16 h))] [] (b1 true) [] := by
  refine fnspec_of mixed TT_ok TT_cl ⟨fun _ => false, fun _ => [], 0, fun _ => false, fun _ => false⟩ Tryd.func5 rfl (by kernel_rfl) rfl 75 rfl [.tmp 4] rfl ?_
  simp only [go_sem, Nat.reduceEqDiff, Nat.reduceAdd, Nat.reduceSub, Nat.reduceMul, Nat.reduceLT, Nat.reduceLeDiff, ↓reduceIte, reduceCtorEq, List.reduceReplicate, Int.cast_ofNat_Int, Int.reduceEq, Int.reduceLT, Int.reduceLE]
  repeat' (first
    | with_reducible refine And.intro ?_ ?_
    | (intros; (try simp only [Bool.and_eq_true, Bool.or_eq_true, Bool.not_eq_true', Bool.not_eq_false', Bool.and_eq_false_iff, Bool.or_eq_false_iff, decide_eq_true_eq, decide_eq_false_iff_not] at *); omega)
    | ((first | refine s1_id ?_ | refine swp_id ?_ | refine sops_id ?_ | refine s2_id ?_); simp only [go_sem, Nat.reduceEqDiff, Nat.reduceAdd, Nat.reduceSub, Nat.reduceMul, Nat.reduceLT, Nat.reduceLeDiff, ↓reduceIte, reduceCtorEq, List.reduceReplicate, Int.cast_ofNat_Int, Int.reduceEq, Int.reduceLT, Int.reduceLE, SV.ren, SV.renL, Cell.ren, Row.ren, renO, bk, back, outUpsFrom, Ints_ren]))
  obtain ⟨L, hL⟩ : ∃ L : List Int, [n, h, h * 123456789, 4611686018427387904, 1099511627776] = L := ⟨_, rfl⟩
  have e0 : Ints L = [int n, int h, int (h * 123456789), int 4611686018427387904, int 1099511627776] := by rw [← hL]; rfl
  have e1 : L.length = 5 := by rw [← hL]; rfl
  have e2 : ∀ x ∈ L, -9223372036854775808 ≤ x ∧ x ≤ 9223372036854775807 := by
    intro w hw
    rw [← hL] at hw
    simp only [List.mem_cons, List.not_mem_nil, or_false] at hw
    rcases hw with rfl | rfl | rfl | rfl | rfl <;> omega
  refine w_loop (ι := Nat) (fun j => ⟨[(1, .one (.sc (.int .u16 h))), (22, .one (.osl 0 0 5 (some 5))), (23, i1 5), (24, i1 j)], [(0, some ⟨Ints L, 1⟩)], 1⟩) (fun j => j ≤ 5) (fun j => 5 - j) 0 ?_ (Nat.zero_le _) ?_
  · (refine imp_ren _ _ _ [(0, 7, ⟨Ints L, 1⟩)] (by simp) (by simp) (by simp) (Nat.le_of_ble_eq_true rfl) ?_ rfl (by simp only [List.forall_mem_cons, List.not_mem_nil, false_implies, implies_true, and_true, St.hpF, lookR, Nat.reduceEqDiff, if_true, if_false, ↓reduceIte, hL] <;> (repeat' apply And.intro) <;> (first | rfl | trivial)) (by simp only [List.forall_mem_cons, List.not_mem_nil, false_implies, implies_true, and_true, true_and, flat_cons, flat_nil, flat_ints, flat_bools, flat_app, Cell.refs, and_self, eq_self_iff_true, List.append_nil, hL]); simp only [List.map_cons, List.map_nil, List.forall_mem_cons, List.not_mem_nil, false_implies, implies_true, and_true, lk, slot, SV.ren, Cell.ren, toN, Nat.reduceEqDiff, if_true, if_false, ↓reduceIte, reduceCtorEq])
    all_goals ((repeat' apply And.intro) <;> (first | rfl | trivial | (simp only []; done) | (simp only []; rfl) | (simp only []; trivial)));;
  clear hL
  intro j hj
  simp only at hj ⊢
  rcases Nat.lt_or_ge j 5 with hlt | hge
  case inl =>
    have c1 : (j : Int) < 5 := by omega
    have hm : L.getD j 0 ∈ L := by
      rw [List.getD_eq_getElem?_getD, List.getElem?_eq_getElem (by omega)]
      exact List.getElem_mem _
    have hx := e2 _ hm
    have h1 := format_spec (L.getD j 0) hx
    have h2 := back_num (L.getD j 0)
    obtain ⟨x, hx0⟩ : ∃ x, L.getD j 0 = x := ⟨_, rfl⟩
    rw [hx0] at hx h1 h2
    generalize pFo x = u at *
    obtain ⟨s, e⟩ := u
    simp only at h2
    by_cases he : e = 0
    case neg =>
      simp only [go_sem, Nat.reduceEqDiff, Nat.reduceAdd, Nat.reduceSub, Nat.reduceMul, Nat.reduceLT, Nat.reduceLeDiff, ↓reduceIte, reduceCtorEq, List.reduceReplicate, Int.cast_ofNat_Int, Int.reduceEq, Int.reduceLT, Int.reduceLE, decide_eq_true c1, e1, hx0]
      repeat' (first
    | with_reducible refine And.intro ?_ ?_
    | (intros; (try simp only [Bool.and_eq_true, Bool.or_eq_true, Bool.not_eq_true', Bool.not_eq_false', Bool.and_eq_false_iff, Bool.or_eq_false_iff, decide_eq_true_eq, decide_eq_false_iff_not] at *); omega)
    | (apply cl_plain
       case hs => rfl
       case ha => (simp only [List.map_cons, List.map_nil, prepV, prepC, idx, hpL', lookR, Nat.reduceEqDiff, if_true, if_false]; rfl)
       case h => (first | exact h1 ..))
    | ((first | refine s1_id ?_ | refine swp_id ?_ | refine sops_id ?_ | refine s2_id ?_); simp only [decide_eq_true c1, e1, hx0, decide_eq_false he, go_sem, Nat.reduceEqDiff, Nat.reduceAdd, Nat.reduceSub, Nat.reduceMul, Nat.reduceLT, Nat.reduceLeDiff, ↓reduceIte, reduceCtorEq, List.reduceReplicate, Int.cast_ofNat_Int, Int.reduceEq, Int.reduceLT, Int.reduceLE, SV.ren, SV.renL, Cell.ren, Row.ren, renO, bk, back, outUpsFrom, Ints_ren]))
      refine le_mk (j + 1) ?_ (by omega) (by omega)
      (refine imp_ren _ _ _ [(0, 0, ⟨Ints L, 1⟩)] (by simp) (by simp) (by simp) (Nat.le_of_ble_eq_true rfl) ?_ rfl (by simp only [List.forall_mem_cons, List.not_mem_nil, false_implies, implies_true, and_true, St.hpF, lookR, Nat.reduceEqDiff, if_true, if_false, ↓reduceIte] <;> (repeat' apply And.intro) <;> (first | rfl | trivial)) (by simp only [List.forall_mem_cons, List.not_mem_nil, false_implies, implies_true, and_true, true_and, flat_cons, flat_nil, flat_ints, flat_bools, flat_app, Cell.refs, and_self, eq_self_iff_true, List.append_nil]); simp only [List.map_cons, List.map_nil, List.forall_mem_cons, List.not_mem_nil, false_implies, implies_true, and_true, lk, slot, SV.ren, Cell.ren, toN, Nat.reduceEqDiff, if_true, if_false, ↓reduceIte, reduceCtorEq])
      all_goals ((repeat' apply And.intro) <;> (first | rfl | trivial | (simp only [Int.natCast_add]; done) | (simp only [Int.natCast_add]; rfl) | (simp only [Int.natCast_add]; trivial)))
    subst he
    obtain ⟨h3, h4⟩ := h2 rfl
    have h5 := parse_spec s (by omega)
    rw [h3] at h5
    simp only [go_sem, Nat.reduceEqDiff, Nat.reduceAdd, Nat.reduceSub, Nat.reduceMul, Nat.reduceLT, Nat.reduceLeDiff, ↓reduceIte, reduceCtorEq, List.reduceReplicate, Int.cast_ofNat_Int, Int.reduceEq, Int.reduceLT, Int.reduceLE, decide_eq_true c1, e1, hx0]
    repeat' (first
    | with_reducible refine And.intro ?_ ?_
    | (intros; (try simp only [Bool.and_eq_true, Bool.or_eq_true, Bool.not_eq_true', Bool.not_eq_false', Bool.and_eq_false_iff, Bool.or_eq_false_iff, decide_eq_true_eq, decide_eq_false_iff_not] at *); omega)
    | (apply cl_plain
       case hs => rfl
       case ha => (simp only [List.map_cons, List.map_nil, prepV, prepC, idx, hpL', lookR, Nat.reduceEqDiff, if_true, if_false]; rfl)
       case h => (first | exact h1 .. | exact h5 ..))
    | ((first | refine s1_id ?_ | refine swp_id ?_ | refine sops_id ?_ | refine s2_id ?_); simp only [decide_eq_true c1, e1, hx0, go_sem, Nat.reduceEqDiff, Nat.reduceAdd, Nat.reduceSub, Nat.reduceMul, Nat.reduceLT, Nat.reduceLeDiff, ↓reduceIte, reduceCtorEq, List.reduceReplicate, Int.cast_ofNat_Int, Int.reduceEq, Int.reduceLT, Int.reduceLE, SV.ren, SV.renL, Cell.ren, Row.ren, renO, bk, back, outUpsFrom, Ints_ren]))
    refine le_mk (j + 1) ?_ (by omega) (by omega)
    (refine imp_ren _ _ _ [(0, 0, ⟨Ints L, 1⟩)] (by simp) (by simp) (by simp) (Nat.le_of_ble_eq_true rfl) ?_ rfl (by simp only [List.forall_mem_cons, List.not_mem_nil, false_implies, implies_true, and_true, St.hpF, lookR, Nat.reduceEqDiff, if_true, if_false, ↓reduceIte] <;> (repeat' apply And.intro) <;> (first | rfl | trivial)) (by simp only [List.forall_mem_cons, List.not_mem_nil, false_implies, implies_true, and_true, true_and, flat_cons, flat_nil, flat_ints, flat_bools, flat_app, Cell.refs, and_self, eq_self_iff_true, List.append_nil]); simp only [List.map_cons, List.map_nil, List.forall_mem_cons, List.not_mem_nil, false_implies, implies_true, and_true, lk, slot, SV.ren, Cell.ren, toN, Nat.reduceEqDiff, if_true, if_false, ↓reduceIte, reduceCtorEq])
    all_goals ((repeat' apply And.intro) <;> (first | rfl | trivial | (simp only [Int.natCast_add]; done) | (simp only [Int.natCast_add]; rfl) | (simp only [Int.natCast_add]; trivial)))
  have c1 : ¬ (j : Int) < 5 := by omega
  have a1 := Int.tmod_nonneg (a := h) 10001 hh.1
  have a2 := Int.tmod_lt_of_pos h (b := 10001) (by omega)
  obtain ⟨a, ha⟩ : ∃ a : Nat, h.tmod 10001 = a := ⟨(h.tmod 10001).toNat, by omega⟩
  rw [ha] at a1 a2
  by_cases h4 : a = 10000
  · subst h4
    have k1 := fmt_max
    have k2 := hund_spec [109, 97, 120] (by decide)
    rw [h_max] at k2
    have ha' : h.tmod 10001 = 10000 := ha
    simp only [go_sem, Nat.reduceEqDiff, Nat.reduceAdd, Nat.reduceSub, Nat.reduceMul, Nat.reduceLT, Nat.reduceLeDiff, ↓reduceIte, reduceCtorEq, List.reduceReplicate, Int.cast_ofNat_Int, Int.reduceEq, Int.reduceLT, Int.reduceLE, decide_eq_false c1, ha']
    repeat' (first
    | with_reducible refine And.intro ?_ ?_
    | (intros; (try simp only [Bool.and_eq_true, Bool.or_eq_true, Bool.not_eq_true', Bool.not_eq_false', Bool.and_eq_false_iff, Bool.or_eq_false_iff, decide_eq_true_eq, decide_eq_false_iff_not] at *); omega)
    | (apply cg_tp
       case hl => rfl
       case ha => (simp only [List.map_cons, List.map_nil, prepV, prepC, idx, hpL', lookR, Nat.reduceEqDiff, if_true, if_false]; rfl)
       case hs => rfl
       case h => (first | exact k1 .. | exact k2 .. | exact sane_spec ..))
    | (apply cl_plain
       case hs => rfl
       case ha => (simp only [List.map_cons, List.map_nil, prepV, prepC, idx, hpL', lookR, Nat.reduceEqDiff, if_true, if_false]; rfl)
       case h => (first | exact k1 .. | exact k2 .. | exact sane_spec ..))
    | ((first | refine s1_id ?_ | refine swp_id ?_ | refine sops_id ?_ | refine s2_id ?_); simp only [decide_eq_false c1, ha', go_sem, Nat.reduceEqDiff, Nat.reduceAdd, Nat.reduceSub, Nat.reduceMul, Nat.reduceLT, Nat.reduceLeDiff, ↓reduceIte, reduceCtorEq, List.reduceReplicate, Int.cast_ofNat_Int, Int.reduceEq, Int.reduceLT, Int.reduceLE, SV.ren, SV.renL, Cell.ren, Row.ren, renO, bk, back, outUpsFrom, Ints_ren])
    | (apply fs_nil <;> (try simp only [go_sem, resV, resS, SV.ren, SV.renL, Cell.ren, St.tmF, St.hpF, idx, renO, Row.ren, evS, slot, lookR, Nat.reduceEqDiff, ↓reduceIte, reduceCtorEq, if_true, if_false, Option.getD_some, Option.getD_none, List.map_cons, List.map_nil, sLoad, readAt, readNeed, Ints_ren, Ints_length, Ints_getD, and_true, true_and, List.getD_cons_zero, List.getD_cons_succ]) <;> (try rfl)))
  · have k1 := fmt_spec a (by omega)
    have l1 := dec_len (a / 100) (by omega)
    have l2 := dec_len (a % 100 / 10) (by omega)
    have l3 := dec_len (a % 100 % 10) (by omega)
    have k2 := hund_spec (fm a) (by
      unfold fm
      simp only [List.length_append, List.length_cons, List.length_nil]
      omega)
    rw [h_fm a (by omega)] at k2
    generalize fm a = s at *
    simp only [go_sem, Nat.reduceEqDiff, Nat.reduceAdd, Nat.reduceSub, Nat.reduceMul, Nat.reduceLT, Nat.reduceLeDiff, ↓reduceIte, reduceCtorEq, List.reduceReplicate, Int.cast_ofNat_Int, Int.reduceEq, Int.reduceLT, Int.reduceLE, decide_eq_false c1, ha]
    repeat' (first
    | with_reducible refine And.intro ?_ ?_
    | (intros; (try simp only [Bool.and_eq_true, Bool.or_eq_true, Bool.not_eq_true', Bool.not_eq_false', Bool.and_eq_false_iff, Bool.or_eq_false_iff, decide_eq_true_eq, decide_eq_false_iff_not] at *); omega)
    | (apply cg_tp
       case hl => rfl
       case ha => (simp only [List.map_cons, List.map_nil, prepV, prepC, idx, hpL', lookR, Nat.reduceEqDiff, if_true, if_false]; rfl)
       case hs => rfl
       case h => (first | exact k1 .. | exact k2 .. | exact sane_spec ..))
    | (apply cl_plain
       case hs => rfl
       case ha => (simp only [List.map_cons, List.map_nil, prepV, prepC, idx, hpL', lookR, Nat.reduceEqDiff, if_true, if_false]; rfl)
       case h => (first | exact k1 .. | exact k2 .. | exact sane_spec ..))
    | ((first | refine s1_id ?_ | refine swp_id ?_ | refine sops_id ?_ | refine s2_id ?_); simp only [decide_eq_false c1, ha, go_sem, Nat.reduceEqDiff, Nat.reduceAdd, Nat.reduceSub, Nat.reduceMul, Nat.reduceLT, Nat.reduceLeDiff, ↓reduceIte, reduceCtorEq, List.reduceReplicate, Int.cast_ofNat_Int, Int.reduceEq, Int.reduceLT, Int.reduceLE, SV.ren, SV.renL, Cell.ren, Row.ren, renO, bk, back, outUpsFrom, Ints_ren])
    | (apply fs_nil <;> (try simp only [go_sem, resV, resS, SV.ren, SV.renL, Cell.ren, St.tmF, St.hpF, idx, renO, Row.ren, evS, slot, lookR, Nat.reduceEqDiff, ↓reduceIte, reduceCtorEq, if_true, if_false, Option.getD_some, Option.getD_none, List.map_cons, List.map_nil, sLoad, readAt, readNeed, Ints_ren, Ints_length, Ints_getD, and_true, true_and, List.getD_cons_zero, List.getD_cons_succ]) <;> (try rfl)))
theorem nback_main (g0 : List Cell) (s0 : GTy Tryd.prog 12 3 g0) (g1 : List Cell) (s1 : GTy Tryd.prog 12 22 g1) : FnSpec Tryd.prog 5 [svOf Tryd.prog 3 g0, svOf Tryd.prog 22 g1] [] (b1 true) [] := by
  obtain ⟨n, rfl, hn⟩ := gty_int (k := .i64) (by kernel_rfl) s0
  obtain ⟨m, rfl, hm⟩ := gty_int (k := .u16) (by kernel_rfl) s1
  have h1 : -9223372036854775808 ≤ n ∧ n ≤ 9223372036854775807 := by
    have : IntKind.i64.min ≤ n ∧ n ≤ IntKind.i64.max := by simpa [Lit.wf] using hn
    exact this
  have h2 : 0 ≤ m ∧ m ≤ 65535 := by
    have : IntKind.u16.min ≤ m ∧ m ≤ IntKind.u16.max := by simpa [Lit.wf] using hm
    exact this
  exact nback_spec n m h1 h2
end Go.Proofs.YtfkcolodbjonkabDoor
