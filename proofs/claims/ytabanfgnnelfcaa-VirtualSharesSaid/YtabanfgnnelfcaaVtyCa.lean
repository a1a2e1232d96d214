/- Contracts of functions, told of values, on the way to VirtualShares. -/
import Derived.Test.YtabanfgnnelfcaaTyCa
import Derived.Test.YtabanfgnnelfcaaShMb
import Derived.Test.YtabanfgnnelfcaaVtdCa
import Derived.Test.YtabanfgnnelfcaaVtgCa
import Derived.Test.YtabanfgnnelfcaaVthCa
import Derived.Test.YtabanfgnnelfcaaVtvCa
-- NEWGO
-- PRUNE: cl_lendx
-- ISG: Its_isG
namespace Go.Proofs.Ytabanfgnnelfcaa
set_option linter.unusedVariables false
set_option linter.unusedSimpArgs false
open Go.Proofs.Ytabanfgnnelfcaa.Sh
set_option maxRecDepth 20000
def upN : Nat → List Int
  | 0 => []
  | m + 1 => upN m ++ [(m : Int) + 1]
theorem upN_len : ∀ m, (upN m).length = m
  | 0 => rfl
  | m + 1 => by unfold upN; simp [upN_len m]
theorem upN_has : ∀ m (k : Nat), k < m → hasI ((k : Int) + 1) (upN m) = true
  | 0, k, h => by omega
  | m + 1, k, h => by
    refine hasI_mem ?_
    unfold upN
    rcases Nat.lt_or_ge k m with h1 | h1
    · have := upN_has m k h1
      unfold hasI at this
      obtain ⟨y, hy1, hy2⟩ := List.any_eq_true.1 this
      rw [decide_eq_true_eq] at hy2
      rw [← hy2]; exact List.mem_append_left _ hy1
    · have : k = m := by omega
      subst this
      simp
def w5 (v : Int) : Int := [100, 200, 400, 50, 800].getD v.toNat 0
theorem w5_ok (v : Int) (h : 0 ≤ v ∧ v < 5) : wok (w5 v) = true ∧ 1 ≤ w5 v ∧ w5 v ≤ 10000 := by
  have hv : v = 0 ∨ v = 1 ∨ v = 2 ∨ v = 3 ∨ v = 4 := by omega
  rcases hv with rfl | rfl | rfl | rfl | rfl <;> decide
theorem w5_at (v : Int) (h : 0 ≤ v ∧ v < 5) : (Ints [100, 200, 400, 50, 800]).getD v.toNat (.sc (.int .i64 0)) = int (w5 v) := Ints_getD _ _
set_option maxHeartbeats 40000000 in
theorem shares_spec (l : List Int) (n : Int) (hl : ∀ x ∈ l, -9223372036854775808 ≤ x ∧ x ≤ 9223372036854775807) (hn : 0 ≤ n ∧ n ≤ 255) : FnSpec Try.prog 9 [gi l none, .one (.sc (.int .u8 n))] [] (b1 true) [] := by
  by_cases hlen : (l.length : Int) ≤ 600
  case neg =>
    refine fnspec_of mixed TT_ok TT_cl ⟨fun _ => false, fun _ => [], 0, fun _ => false, fun _ => false⟩ Try.func9 rfl (by kernel_rfl) rfl 122 rfl [.tmp 4] rfl ?_
    simp only [go_sem, Nat.reduceEqDiff, Nat.reduceAdd, Nat.reduceSub, Nat.reduceMul, Nat.reduceLT, Nat.reduceLeDiff, ↓reduceIte, reduceCtorEq, List.reduceReplicate, Int.cast_ofNat_Int, Int.reduceEq, Int.reduceLT, Int.reduceLE]
    repeat' (first
    | (apply cl_plain
       case hs => rfl
       case ha => (simp only [List.map_cons, List.map_nil, prepV, prepC, idx, hpL', lookR, Nat.reduceEqDiff, if_true, if_false]; rfl)
       case h => (first | exact light_spec .. | exact sane_spec ..))
    | ((first | refine s1_id ?_ | refine swp_id ?_ | refine sops_id ?_ | refine s2_id ?_); simp only [decide_eq_false hlen, go_sem, Nat.reduceEqDiff, Nat.reduceAdd, Nat.reduceSub, Nat.reduceMul, Nat.reduceLT, Nat.reduceLeDiff, ↓reduceIte, reduceCtorEq, List.reduceReplicate, Int.cast_ofNat_Int, Int.reduceEq, Int.reduceLT, Int.reduceLE, SV.ren, SV.renL, Cell.ren, Row.ren, renO, bk, back, outUpsFrom, Ints_ren])
    | (apply fs_nil <;> (try simp only [go_sem, resV, resS, SV.ren, SV.renL, Cell.ren, St.tmF, St.hpF, idx, renO, Row.ren, evS, slot, lookR, Nat.reduceEqDiff, ↓reduceIte, reduceCtorEq, if_true, if_false, Option.getD_some, Option.getD_none, List.map_cons, List.map_nil, sLoad, readAt, readNeed, Ints_ren, Ints_length, Ints_getD, and_true, true_and, List.getD_cons_zero, List.getD_cons_succ]) <;> (try rfl)))
  have hl6 : l.length ≤ 600 := by omega
  refine fnspec_of mixed TT_ok TT_cl ⟨fun _ => false, lendQ, 0, fun _ => false, fun _ => false⟩ Try.func9 rfl (by kernel_rfl) rfl 122 rfl [.tmp 4] rfl ?_
  simp only [go_sem, Nat.reduceEqDiff, Nat.reduceAdd, Nat.reduceSub, Nat.reduceMul, Nat.reduceLT, Nat.reduceLeDiff, ↓reduceIte, reduceCtorEq, List.reduceReplicate, Int.cast_ofNat_Int, Int.reduceEq, Int.reduceLT, Int.reduceLE, decide_eq_true hlen, lendQ]
  repeat' (first
    | (apply cl_plain
       case hs => rfl
       case ha => (simp only [List.map_cons, List.map_nil, prepV, prepC, idx, hpL', lookR, Nat.reduceEqDiff, if_true, if_false]; rfl)
       case h => (first | exact light_spec .. | exact roll_spec ..))
    | ((first | refine s1_id ?_ | refine swp_id ?_ | refine sops_id ?_ | refine s2_id ?_); simp only [decide_eq_true hlen, lendQ, go_sem, Nat.reduceEqDiff, Nat.reduceAdd, Nat.reduceSub, Nat.reduceMul, Nat.reduceLT, Nat.reduceLeDiff, ↓reduceIte, reduceCtorEq, List.reduceReplicate, Int.cast_ofNat_Int, Int.reduceEq, Int.reduceLT, Int.reduceLE, SV.ren, SV.renL, Cell.ren, Row.ren, renO, bk, back, outUpsFrom, Ints_ren]))
  refine w_loop (ι := Nat × List It × Int × Nat) (fun s => ⟨[(1, .one (.sc (.int .u8 n))), (5, dp), (6, .one (.optr 1 0)), (7, .one (.osl 2 0 s.1 none)), (8, i1 s.2.2.1), (9, i1 ((s.1 : Int) + 1))], [(0, some (dice l s.2.2.2)), (1, some ⟨[int 0, .gsl (Its s.2.1) 0 s.2.1.length none], 2⟩), (2, some ⟨Ints (upN s.1), 1⟩)], 3⟩) (fun s => s.1 ≤ 4 ∧ Ini s.1 s.2.1 ∧ s.2.2.1 = sumN (fun k => (s.2.1.getD k zi).w) s.2.1.length ∧ (s.1 : Int) ≤ s.2.2.1 ∧ s.2.2.1 ≤ 10000 * (s.1 : Int)) (fun s => 5 - s.1) (0, [], 0, 0) ?_ ⟨Nat.zero_le _, ini_zero, rfl, Int.le_refl _, Int.le_refl _⟩ ?_
  · refine Imp.trans (imp_nil _ _ 7 1 rfl) ?_
    refine Imp.trans (imp_wrow _ _ 8 (cs := [int 0, .sc (.slice none 0 0)]) (ds := [int 0, .gsl [] 0 0 none]) (e := 2) rfl ⟨cw_rfl _, cw_gnil, trivial⟩ (by intro d hd; simp at hd; rcases hd with rfl | rfl <;> simp)) ?_
    (refine imp_ren _ _ _ [(0, 5, dice l 0), (1, 8, ⟨[int 0, .gsl [] 0 0 none], 2⟩), (2, 13, ⟨[], 1⟩)] (by simp) (by simp) (by simp) (Nat.le_of_ble_eq_true rfl) ?_ rfl (by simp only [List.forall_mem_cons, List.not_mem_nil, false_implies, implies_true, and_true, St.hpF, lookR, Nat.reduceEqDiff, if_true, if_false, ↓reduceIte, dice] <;> (repeat' apply And.intro) <;> (first | rfl | trivial)) (by simp only [List.forall_mem_cons, List.not_mem_nil, false_implies, implies_true, and_true, true_and, flat_cons, flat_nil, flat_ints, flat_bools, flat_app, Cell.refs, and_self, eq_self_iff_true, List.append_nil, dice]); simp only [List.map_cons, List.map_nil, List.forall_mem_cons, List.not_mem_nil, false_implies, implies_true, and_true, lk, slot, SV.ren, Cell.ren, toN, Nat.reduceEqDiff, if_true, if_false, ↓reduceIte, reduceCtorEq])
    all_goals ((repeat' apply And.intro) <;> (first | rfl | trivial))
  rintro ⟨m, q, S, j⟩ ⟨hm, hI, hS, hS1, hS2⟩
  simp only at hm hI hS hS1 hS2 ⊢
  have n3 := next_spec l j 3 hl6 hl (by omega)
  have n3r := nxV_rng l j 3 (by omega)
  have hqi := qck_iff hI.1
  generalize nxV l j 3 = v3 at *
  generalize nxA l j 3 = j1 at *
  have hum := upN_len m
  by_cases hlt : (m : Int) + 1 ≤ 2 + v3
  · have n5 := next_spec l j1 5 hl6 hl (by omega)
    have n5r := nxV_rng l j1 5 (by omega)
    generalize nxV l j1 5 = v5 at *
    generalize nxA l j1 5 = j2 at *
    obtain ⟨hwk, hw1, hw2⟩ := w5_ok v5 (by omega)
    have hat := w5_at v5 (by omega)
    generalize w5 v5 = w at *
    obtain ⟨q1, q2, e1, e2, e3, hI2, e5⟩ := hI.step (by omega) (id := (m : Int) + 1) rfl hwk
    have p1 := radd_spec 0 q none ((m : Int) + 1) w (by omega)
    rw [e1] at p1
    have p2 := rwake_spec 0 q1 none ((m : Int) + 1) (by omega)
    rw [e3] at p2
    have htk : List.take m (upN m) = upN m := List.take_of_length_le (by rw [hum]; exact Nat.le_refl _)
    have hup : upN m ++ [(m : Int) + 1] = upN (m + 1) := rfl
    have hup2 : Ints (upN m) ++ [int ((m : Int) + 1)] = Ints (upN (m + 1)) := by rw [← hup]; simp [Ints]
    have hle := hI2.2.1
    simp only [go_sem, Nat.reduceEqDiff, Nat.reduceAdd, Nat.reduceSub, Nat.reduceMul, Nat.reduceLT, Nat.reduceLeDiff, ↓reduceIte, reduceCtorEq, List.reduceReplicate, Int.cast_ofNat_Int, Int.reduceEq, Int.reduceLT, Int.reduceLE, decide_eq_true hlt, lendQ, hat]
    repeat' (first
    | with_reducible refine And.intro ?_ ?_
    | (intros; (try simp only [Bool.and_eq_true, Bool.or_eq_true, Bool.not_eq_true', Bool.not_eq_false', Bool.and_eq_false_iff, Bool.or_eq_false_iff, decide_eq_true_eq, decide_eq_false_iff_not] at *); omega)
    | (apply cl_plain
       case hs => rfl
       case ha => (simp only [List.map_cons, List.map_nil, prepV, prepC, idx, hpL', lookR, Nat.reduceEqDiff, if_true, if_false]; rfl)
       case h => (first | exact n3 .. | exact n5 .. | exact p1 .. | exact p2 ..))
    | (apply cl_lend
       case hr => (simp only [List.map_cons, List.map_nil, hpL', lookR, Nat.reduceEqDiff, if_true, if_false]; first | exact map1 _ | exact map2 _ _ | exact map3 _ _ _)
       case ha => (simp only [List.map_cons, List.map_nil, prepV, prepC, idx, hpL', lookR, Nat.reduceEqDiff, if_true, if_false]; rfl)
       case hs => rfl
       case hn => decide
       case h => (first | exact n3 .. | exact n5 .. | exact p1 .. | exact p2 ..)
       case hf => (simp only [List.forall_mem_cons, List.not_mem_nil, false_implies, implies_true, and_true, true_and, flat_cons, flat_nil, flat_ints, flat_bools, flat_app, Cell.refs, and_self, eq_self_iff_true, List.append_nil])
       case hl => (simp only [List.length_cons, List.length_nil]; decide))
    | ((first | refine s1_id ?_ | refine swp_id ?_ | refine sops_id ?_ | refine s2_id ?_); simp only [decide_eq_true hlt, lendQ, hat, htk, hup, hup2, List.flatten_cons, List.flatten_nil, List.append_nil, List.cons_append, List.nil_append, List.set_cons_zero, List.set_cons_succ, go_sem, Nat.reduceEqDiff, Nat.reduceAdd, Nat.reduceSub, Nat.reduceMul, Nat.reduceLT, Nat.reduceLeDiff, ↓reduceIte, reduceCtorEq, List.reduceReplicate, Int.cast_ofNat_Int, Int.reduceEq, Int.reduceLT, Int.reduceLE, SV.ren, SV.renL, Cell.ren, Row.ren, renO, bk, back, outUpsFrom, Ints_ren]))
    refine le_mk (m + 1, q2, S + w, j2) ?_ ⟨by show m + 1 ≤ 4; omega, hI2, by show S + w = _; rw [hS, ← e5], by show ((m + 1 : Nat) : Int) ≤ S + w; omega, by show S + w ≤ 10000 * ((m + 1 : Nat) : Int); omega⟩ (by show 5 - (m + 1) < 5 - m; omega)
    (refine imp_ren _ _ _ [(0, 0, dice l j2), (1, 1, ⟨[int 0, .gsl (Its q2) 0 q2.length none], 2⟩), (2, 32, ⟨Ints (upN (m + 1)), 1⟩)] (by simp) (by simp) (by simp) (Nat.le_of_ble_eq_true rfl) ?_ rfl (by simp only [List.forall_mem_cons, List.not_mem_nil, false_implies, implies_true, and_true, St.hpF, lookR, Nat.reduceEqDiff, if_true, if_false, ↓reduceIte, dice, htk, hup] <;> (repeat' apply And.intro) <;> (first | rfl | trivial)) (by simp only [List.forall_mem_cons, List.not_mem_nil, false_implies, implies_true, and_true, true_and, flat_cons, flat_nil, flat_ints, flat_bools, flat_app, Cell.refs, and_self, eq_self_iff_true, List.append_nil, dice, htk, hup]); simp only [List.map_cons, List.map_nil, List.forall_mem_cons, List.not_mem_nil, false_implies, implies_true, and_true, lk, slot, SV.ren, Cell.ren, toN, Nat.reduceEqDiff, if_true, if_false, ↓reduceIte, reduceCtorEq])
    all_goals ((repeat' apply And.intro) <;> (first | rfl | trivial | (simp only [Int.natCast_add]; done) | (simp only [Int.natCast_add]; rfl) | (simp only [Int.natCast_add]; trivial)))
  have hm2 : 2 ≤ m := by omega
  simp only [go_sem, Nat.reduceEqDiff, Nat.reduceAdd, Nat.reduceSub, Nat.reduceMul, Nat.reduceLT, Nat.reduceLeDiff, ↓reduceIte, reduceCtorEq, List.reduceReplicate, Int.cast_ofNat_Int, Int.reduceEq, Int.reduceLT, Int.reduceLE, decide_eq_false hlt, lendQ]
  repeat' (first
    | with_reducible refine And.intro ?_ ?_
    | (intros; (try simp only [Bool.and_eq_true, Bool.or_eq_true, Bool.not_eq_true', Bool.not_eq_false', Bool.and_eq_false_iff, Bool.or_eq_false_iff, decide_eq_true_eq, decide_eq_false_iff_not] at *); omega)
    | (apply cl_lend
       case hr => (simp only [List.map_cons, List.map_nil, hpL', lookR, Nat.reduceEqDiff, if_true, if_false]; first | exact map1 _ | exact map2 _ _ | exact map3 _ _ _)
       case ha => (simp only [List.map_cons, List.map_nil, prepV, prepC, idx, hpL', lookR, Nat.reduceEqDiff, if_true, if_false]; rfl)
       case hs => rfl
       case hn => decide
       case h => (first | exact n3 ..)
       case hf => (simp only [List.forall_mem_cons, List.not_mem_nil, false_implies, implies_true, and_true, true_and, flat_cons, flat_nil, flat_ints, flat_bools, flat_app, Cell.refs, and_self, eq_self_iff_true, List.append_nil])
       case hl => (simp only [List.length_cons, List.length_nil]; decide))
    | ((first | refine s1_id ?_ | refine swp_id ?_ | refine sops_id ?_ | refine s2_id ?_); simp only [decide_eq_false hlt, lendQ, go_sem, Nat.reduceEqDiff, Nat.reduceAdd, Nat.reduceSub, Nat.reduceMul, Nat.reduceLT, Nat.reduceLeDiff, ↓reduceIte, reduceCtorEq, List.reduceReplicate, Int.cast_ofNat_Int, Int.reduceEq, Int.reduceLT, Int.reduceLE, SV.ren, SV.renL, Cell.ren, Row.ren, renO, bk, back, outUpsFrom, Ints_ren]))
  have hids : ∀ k, k < q.length → hasI (q.getD k zi).i (upN m) = true := fun k hk => by
    rw [(hI.2.2 k (by have := hI.2.1; omega)).1]
    exact upN_has m k (by have := hI.2.1; omega)
  have hShr0 : Shr (getM []) 0 0 q := hI.shr
  have hlq0 := hI.2.1
  generalize upN m = L at *
  refine w_loop (ι := Nat × (Int × List It) × List (Int × Int)) (fun s => ⟨[(1, .one (.sc (.int .u8 n))), (6, .one (.optr 0 0)), (7, .one (.osl 1 0 m none)), (8, i1 S), (11, .one (.mp 2)), (12, i1 s.1)], [(0, some ⟨[int s.2.1.1, .gsl (Its s.2.1.2) 0 s.2.1.2.length none], 2⟩), (1, some ⟨Ints L, 1⟩), (2, some ⟨Mps s.2.2, 0⟩)], 3⟩)
    (fun s => (s.1 : Int) ≤ n ∧ s.2.1.2.length = m ∧ (∀ k, k < s.2.1.2.length → hasI (s.2.1.2.getD k zi).i L = true) ∧ Shr (getM s.2.2) s.1 s.2.1.1 s.2.1.2 ∧ S = sumN (fun k => (s.2.1.2.getD k zi).w) s.2.1.2.length ∧ ∀ d, 0 ≤ getM s.2.2 d ∧ getM s.2.2 d ≤ s.1) (fun s => 256 - s.1) (0, (0, q), []) ?_ ⟨by show ((0 : Nat) : Int) ≤ n; omega, hlq0, hids, hShr0, hS, fun d => ⟨Int.le_refl _, Int.le_refl _⟩⟩ ?_
  · (refine imp_ren _ _ _ [(0, 1, ⟨[int 0, .gsl (Its q) 0 q.length none], 2⟩), (1, 2, ⟨Ints L, 1⟩), (2, 8, ⟨[], 0⟩)] (by simp) (by simp) (by simp) (Nat.le_of_ble_eq_true rfl) ?_ rfl (by simp only [List.forall_mem_cons, List.not_mem_nil, false_implies, implies_true, and_true, St.hpF, lookR, Nat.reduceEqDiff, if_true, if_false, ↓reduceIte] <;> (repeat' apply And.intro) <;> (first | rfl | trivial)) (by simp only [List.forall_mem_cons, List.not_mem_nil, false_implies, implies_true, and_true, true_and, flat_cons, flat_nil, flat_ints, flat_bools, flat_app, Cell.refs, and_self, eq_self_iff_true, List.append_nil]); simp only [List.map_cons, List.map_nil, List.forall_mem_cons, List.not_mem_nil, false_implies, implies_true, and_true, lk, slot, SV.ren, Cell.ren, toN, Nat.reduceEqDiff, if_true, if_false, ↓reduceIte, reduceCtorEq])
    all_goals ((repeat' apply And.intro) <;> (first | rfl | trivial))
  clear hids hShr0 hI n3 n3r hqi hS
  rintro ⟨s, ⟨c, r⟩, M⟩ ⟨hs, hlr, hin, hR, hS, hM⟩
  simp only at hs hlr hin hR hS hM ⊢
  have hqi := qck_iff hR.1
  by_cases hsn : (s : Int) < n
  · have hnn : ∀ i, i < r.length → 0 ≤ getM M (r.getD i zi).i := fun i hi => (hR.2.1 i hi).2.2
    have hd0 : Hd r (r.getD 0 zi).i (r.getD 0 zi).w := ⟨0, by omega, rfl, (hR.2.1 0 (by omega)).1, rfl⟩
    obtain ⟨kp, hkp, hap, hpk, hle0⟩ := pick_least hR.1 hd0 (hin 0 (by omega))
    have hle : ∀ i, i < r.length → (r.getD i zi).a = true → (r.getD kp zi).v ≤ (r.getD i zi).v := fun i hi ha => hle0 i hi ha (hin i hi)
    have hcr := cst_rng (r.getD kp zi).w
    have hvm : (r.getD kp zi).v ≤ 255 * 1073741824 := by
      rw [(hR.2.1 kp hkp).2.1]
      have := hM (r.getD kp zi).i
      exact Int.mul_le_mul (by omega) hcr.2 hcr.1 (by omega)
    obtain ⟨c3, q3, hsv, hl3, hiw, hR3⟩ := hR.serve hkp hle (by omega)
    have p1 := vpick_spec c r none L none (by omega) (by omega)
    rw [hpk] at p1
    simp only [gi, hum] at p1
    have p2 := serve_spec c r none (r.getD kp zi).i (by omega)
    rw [hsv] at p2
    have p3 := has_spec L none (r.getD kp zi).i (by omega)
    rw [hin kp hkp] at p3
    simp only [gi, hum] at p3
    clear hsv hpk hle0 hle hd0
    generalize (r.getD kp zi).i = ip at *
    have hmi := hM ip
    have hinv : ((s + 1 : Nat) : Int) ≤ n ∧ q3.length = m ∧ (∀ k, k < q3.length → hasI (q3.getD k zi).i L = true) ∧ Shr (getM (setM M ip (getM M ip + 1))) ((s + 1 : Nat) : Int) c3 q3 ∧ S = sumN (fun k => (q3.getD k zi).w) q3.length ∧ ∀ d, 0 ≤ getM (setM M ip (getM M ip + 1)) d ∧ getM (setM M ip (getM M ip + 1)) d ≤ ((s + 1 : Nat) : Int) := by
      refine ⟨by omega, by omega, fun k hk => by rw [(hiw k).1]; exact hin k (by omega), ?_, ?_, fun d => ?_⟩
      · have : getM (setM M ip (getM M ip + 1)) = fun d => if d = ip then getM M d + 1 else getM M d := by
          funext d
          rw [getM_setM]
          split
          · rename_i h; rw [h]
          · rfl
        rw [this]
        exact hR3
      · rw [hS, hl3]
        exact sumN_congr _ (fun i _ => ((hiw i).2).symm)
      · rw [getM_setM]
        have := hM d
        split <;> omega
    have hfin : 256 - (s + 1) < 256 - s := by omega
    have hlt3 : q3.length ≤ 192 := by omega
    clear hin hR hiw hR3 hnn
    simp only [go_sem, Nat.reduceEqDiff, Nat.reduceAdd, Nat.reduceSub, Nat.reduceMul, Nat.reduceLT, Nat.reduceLeDiff, ↓reduceIte, reduceCtorEq, List.reduceReplicate, Int.cast_ofNat_Int, Int.reduceEq, Int.reduceLT, Int.reduceLE, decide_eq_true hsn, lendQ]
    repeat' (first
    | with_reducible refine And.intro ?_ ?_
    | (intros; (try simp only [Bool.and_eq_true, Bool.or_eq_true, Bool.not_eq_true', Bool.not_eq_false', Bool.and_eq_false_iff, Bool.or_eq_false_iff, decide_eq_true_eq, decide_eq_false_iff_not] at *); omega)
    | (apply cg_ts
       case hl => rfl
       case ha => (simp only [List.map_cons, List.map_nil, prepV, prepC, idx, hpL', lookR, Nat.reduceEqDiff, if_true, if_false]; rfl)
       case hs => (simp only [snaps_nil, List.flatMap_cons, List.flatMap_nil, SV.refs, Cell.refs, List.nil_append, List.cons_append, List.append_nil]; rfl)
       case h => (first | exact p1 .. | exact p2 .. | exact p3 ..)
       case hf => ((simp only [List.forall_mem_cons, List.not_mem_nil, false_implies, implies_true, and_true, hpL', lookR, Nat.reduceEqDiff, if_true, if_false]) <;> (repeat' apply And.intro) <;> (first | exact ⟨_, rfl, Ints_isG _⟩ | exact ⟨_, rfl, Its_isG _⟩ | exact ⟨_, rfl, by simp [Cell.isG]⟩))
       case hg => simp [SV.noG, SV.noGL, Cell.noG])
    | (apply cl_plain
       case hs => rfl
       case ha => (simp only [List.map_cons, List.map_nil, prepV, prepC, idx, hpL', lookR, Nat.reduceEqDiff, if_true, if_false]; rfl)
       case h => (first | exact p1 .. | exact p2 .. | exact p3 ..))
    | (apply cl_show
       case ha => (simp only [List.map_cons, List.map_nil, prepV, prepC, idx, hpL', lookR, Nat.reduceEqDiff, if_true, if_false]; rfl)
       case hs => ((simp [snaps, SV.refs, Cell.refs, idx, hpL', lookR]) <;> (repeat' apply And.intro) <;> (first | exact Ints_isG _ | exact Its_isG _))
       case h => (first | exact p1 .. | exact p2 .. | exact p3 ..)
       case hg => ((simp [SV.noG, SV.noGL, Cell.noG]) <;> (repeat' apply And.intro) <;> exact Ints_noG _))
    | ((first | refine s1_id ?_ | refine swp_id ?_ | refine sops_id ?_ | refine s2_id ?_); simp only [decide_eq_true hsn, lendQ, decide_true, decide_false, hum, go_sem, Nat.reduceEqDiff, Nat.reduceAdd, Nat.reduceSub, Nat.reduceMul, Nat.reduceLT, Nat.reduceLeDiff, ↓reduceIte, reduceCtorEq, List.reduceReplicate, Int.cast_ofNat_Int, Int.reduceEq, Int.reduceLT, Int.reduceLE, SV.ren, SV.renL, Cell.ren, Row.ren, renO, bk, back, outUpsFrom, Ints_ren]))
    refine le_mk (s + 1, (c3, q3), setM M ip (getM M ip + 1)) ?_ hinv (by show 256 - (s + 1) < 256 - s; exact hfin)
    (refine imp_ren _ _ _ [(0, 0, ⟨[int c3, .gsl (Its q3) 0 q3.length none], 2⟩), (1, 1, ⟨Ints L, 1⟩), (2, 2, ⟨Mps (setM M ip (getM M ip + 1)), 0⟩)] (by simp) (by simp) (by simp) (Nat.le_of_ble_eq_true rfl) ?_ rfl (by simp only [List.forall_mem_cons, List.not_mem_nil, false_implies, implies_true, and_true, St.hpF, lookR, Nat.reduceEqDiff, if_true, if_false, ↓reduceIte, Mps_flat] <;> (repeat' apply And.intro) <;> (first | rfl | trivial)) (by simp only [List.forall_mem_cons, List.not_mem_nil, false_implies, implies_true, and_true, true_and, flat_cons, flat_nil, flat_ints, flat_bools, flat_app, Cell.refs, and_self, eq_self_iff_true, List.append_nil, Mps_flat]); simp only [List.map_cons, List.map_nil, List.forall_mem_cons, List.not_mem_nil, false_implies, implies_true, and_true, lk, slot, SV.ren, Cell.ren, toN, Nat.reduceEqDiff, if_true, if_false, ↓reduceIte, reduceCtorEq])
    all_goals ((repeat' apply And.intro) <;> (first | rfl | trivial | (simp only [Int.natCast_add]; done) | (simp only [Int.natCast_add]; rfl) | (simp only [Int.natCast_add]; trivial)))
  have hsn' : (s : Int) = n := by omega
  have hil := Its_len r
  have hfn : ∀ j, j < r.length → ¬ getM M (r.getD j zi).i + m < n * (r.getD j zi).w / S := fun j hj => by
    have := hR.fin (by omega) hj
    rw [← hS, hlr, hsn'] at this
    exact this
  have hwr : ∀ j, j < r.length → 1 ≤ (r.getD j zi).w ∧ (r.getD j zi).w ≤ 10000 := fun j hj => wok_iff.1 (iOk_all.1 (qck_ok hR.1 hj)).2.1
  simp only [go_sem, Nat.reduceEqDiff, Nat.reduceAdd, Nat.reduceSub, Nat.reduceMul, Nat.reduceLT, Nat.reduceLeDiff, ↓reduceIte, reduceCtorEq, List.reduceReplicate, Int.cast_ofNat_Int, Int.reduceEq, Int.reduceLT, Int.reduceLE, decide_eq_false hsn, lendQ]
  repeat' (first
    | with_reducible refine And.intro ?_ ?_
    | (intros; (try simp only [Bool.and_eq_true, Bool.or_eq_true, Bool.not_eq_true', Bool.not_eq_false', Bool.and_eq_false_iff, Bool.or_eq_false_iff, decide_eq_true_eq, decide_eq_false_iff_not] at *); omega)
    | ((first | refine s1_id ?_ | refine swp_id ?_ | refine sops_id ?_ | refine s2_id ?_); simp only [decide_eq_false hsn, lendQ, go_sem, Nat.reduceEqDiff, Nat.reduceAdd, Nat.reduceSub, Nat.reduceMul, Nat.reduceLT, Nat.reduceLeDiff, ↓reduceIte, reduceCtorEq, List.reduceReplicate, Int.cast_ofNat_Int, Int.reduceEq, Int.reduceLT, Int.reduceLE, SV.ren, SV.renL, Cell.ren, Row.ren, renO, bk, back, outUpsFrom, Ints_ren]))
  refine w_loop (ι := Nat) (fun j => ⟨[(1, .one (.sc (.int .u8 n))), (6, .one (.optr 0 0)), (7, .one (.osl 1 0 m none)), (8, i1 S), (11, .one (.mp 2)), (96, i1 r.length), (97, i1 j)], [(0, some ⟨[int c, .gsl (Its r) 0 r.length none], 2⟩), (1, some ⟨Ints L, 1⟩), (2, some ⟨Mps M, 0⟩)], 3⟩) (fun j => j ≤ r.length) (fun j => r.length - j) 0 ?_ (Nat.zero_le _) ?_
  · (refine imp_ren _ _ _ [(0, 0, ⟨[int c, .gsl (Its r) 0 r.length none], 2⟩), (1, 1, ⟨Ints L, 1⟩), (2, 2, ⟨Mps M, 0⟩)] (by simp) (by simp) (by simp) (Nat.le_of_ble_eq_true rfl) ?_ rfl (by simp only [List.forall_mem_cons, List.not_mem_nil, false_implies, implies_true, and_true, St.hpF, lookR, Nat.reduceEqDiff, if_true, if_false, ↓reduceIte, Mps_flat] <;> (repeat' apply And.intro) <;> (first | rfl | trivial)) (by simp only [List.forall_mem_cons, List.not_mem_nil, false_implies, implies_true, and_true, true_and, flat_cons, flat_nil, flat_ints, flat_bools, flat_app, Cell.refs, and_self, eq_self_iff_true, List.append_nil, Mps_flat]); simp only [List.map_cons, List.map_nil, List.forall_mem_cons, List.not_mem_nil, false_implies, implies_true, and_true, lk, slot, SV.ren, Cell.ren, toN, Nat.reduceEqDiff, if_true, if_false, ↓reduceIte, reduceCtorEq])
    all_goals ((repeat' apply And.intro) <;> (first | rfl | trivial))
  clear hR hin
  intro j hj
  simp only at hj ⊢
  by_cases hjl : (j : Int) < (r.length : Int)
  · have hat := Its_at r j (by omega)
    have hw := hwr j (by omega)
    have hnf := hfn j (by omega)
    generalize r.getD j zi = x at *
    have hmx := hM x.i
    have hpr : 0 ≤ n * x.w ∧ n * x.w ≤ 255 * 10000 := ⟨Int.mul_nonneg (by omega) (by omega), Int.mul_le_mul (by omega) (by omega) (by omega) (by omega)⟩
    have hdv : (n * x.w).tdiv S = n * x.w / S := Int.tdiv_eq_ediv_of_nonneg hpr.1
    have hd1 : 0 ≤ n * x.w / S := Int.ediv_nonneg hpr.1 (by omega)
    have hd2 : n * x.w / S ≤ n * x.w := Int.ediv_le_self _ hpr.1
    have hS0 : ¬ S = 0 := by omega
    simp only [go_sem, Nat.reduceEqDiff, Nat.reduceAdd, Nat.reduceSub, Nat.reduceMul, Nat.reduceLT, Nat.reduceLeDiff, ↓reduceIte, reduceCtorEq, List.reduceReplicate, Int.cast_ofNat_Int, Int.reduceEq, Int.reduceLT, Int.reduceLE, decide_eq_true hjl, lendQ, hat]
    repeat' (first
    | with_reducible refine And.intro ?_ ?_
    | (unfold OKC; kernel_rfl)
    | (unfold EDG; kernel_rfl)
    | (intros; (try simp only [Bool.and_eq_true, Bool.or_eq_true, Bool.not_eq_true', Bool.not_eq_false', Bool.and_eq_false_iff, Bool.or_eq_false_iff, decide_eq_true_eq, decide_eq_false_iff_not] at *); omega)
    | (refine gt_if (fun h => ?_) (fun h => ?_) <;> (try simp only [h]))
    | ((first | refine s1_id ?_ | refine swp_id ?_ | refine sops_id ?_ | refine s2_id ?_); simp only [decide_eq_true hjl, lendQ, hat, hdv, decide_eq_false hnf, go_sem, Nat.reduceEqDiff, Nat.reduceAdd, Nat.reduceSub, Nat.reduceMul, Nat.reduceLT, Nat.reduceLeDiff, ↓reduceIte, reduceCtorEq, List.reduceReplicate, Int.cast_ofNat_Int, Int.reduceEq, Int.reduceLT, Int.reduceLE, SV.ren, SV.renL, Cell.ren, Row.ren, renO, bk, back, outUpsFrom, Ints_ren]))
    refine le_mk (j + 1) ?_ (by omega) (by omega)
    (refine imp_ren _ _ _ [(0, 0, ⟨[int c, .gsl (Its r) 0 r.length none], 2⟩), (1, 1, ⟨Ints L, 1⟩), (2, 2, ⟨Mps M, 0⟩)] (by simp) (by simp) (by simp) (Nat.le_of_ble_eq_true rfl) ?_ rfl (by simp only [List.forall_mem_cons, List.not_mem_nil, false_implies, implies_true, and_true, St.hpF, lookR, Nat.reduceEqDiff, if_true, if_false, ↓reduceIte, Mps_flat] <;> (repeat' apply And.intro) <;> (first | rfl | trivial)) (by simp only [List.forall_mem_cons, List.not_mem_nil, false_implies, implies_true, and_true, true_and, flat_cons, flat_nil, flat_ints, flat_bools, flat_app, Cell.refs, and_self, eq_self_iff_true, List.append_nil, Mps_flat]); simp only [List.map_cons, List.map_nil, List.forall_mem_cons, List.not_mem_nil, false_implies, implies_true, and_true, lk, slot, SV.ren, Cell.ren, toN, Nat.reduceEqDiff, if_true, if_false, ↓reduceIte, reduceCtorEq])
    all_goals ((repeat' apply And.intro) <;> (first | rfl | trivial | (simp only [Int.natCast_add]; done) | (simp only [Int.natCast_add]; rfl) | (simp only [Int.natCast_add]; trivial)))
  · simp only [go_sem, Nat.reduceEqDiff, Nat.reduceAdd, Nat.reduceSub, Nat.reduceMul, Nat.reduceLT, Nat.reduceLeDiff, ↓reduceIte, reduceCtorEq, List.reduceReplicate, Int.cast_ofNat_Int, Int.reduceEq, Int.reduceLT, Int.reduceLE, decide_eq_false hjl, lendQ]
    repeat' (first
    | (apply cl_plain
       case hs => rfl
       case ha => (simp only [List.map_cons, List.map_nil, prepV, prepC, idx, hpL', lookR, Nat.reduceEqDiff, if_true, if_false]; rfl)
       case h => (first | exact sane_spec ..))
    | ((first | refine s1_id ?_ | refine swp_id ?_ | refine sops_id ?_ | refine s2_id ?_); simp only [decide_eq_false hjl, lendQ, go_sem, Nat.reduceEqDiff, Nat.reduceAdd, Nat.reduceSub, Nat.reduceMul, Nat.reduceLT, Nat.reduceLeDiff, ↓reduceIte, reduceCtorEq, List.reduceReplicate, Int.cast_ofNat_Int, Int.reduceEq, Int.reduceLT, Int.reduceLE, SV.ren, SV.renL, Cell.ren, Row.ren, renO, bk, back, outUpsFrom, Ints_ren])
    | (apply fs_nil <;> (try simp only [go_sem, resV, resS, SV.ren, SV.renL, Cell.ren, St.tmF, St.hpF, idx, renO, Row.ren, evS, slot, lookR, Nat.reduceEqDiff, ↓reduceIte, reduceCtorEq, if_true, if_false, Option.getD_some, Option.getD_none, List.map_cons, List.map_nil, sLoad, readAt, readNeed, Ints_ren, Ints_length, Ints_getD, and_true, true_and, List.getD_cons_zero, List.getD_cons_succ]) <;> (try rfl)))
theorem shares_main (g0 : List Cell) (s0 : GTy Try.prog 12 22 g0) (g1 : List Cell) (s1 : GTy Try.prog 12 5 g1) : FnSpec Try.prog 9 [svOf Try.prog 22 g0, svOf Try.prog 5 g1] [] (b1 true) [] := by
  obtain ⟨l, rfl, hl, hr⟩ := gty_ints (n := 10) Try.underlying22 Try.underlying3 s0
  obtain ⟨m, rfl, hm⟩ := gty_int (n := 11) Try.underlying5 s1
  simp only [svOf, Try.underlying22, Try.underlying5, List.headD_cons]
  exact shares_spec l m hr (wf_u8 hm)
end Go.Proofs.Ytabanfgnnelfcaa
