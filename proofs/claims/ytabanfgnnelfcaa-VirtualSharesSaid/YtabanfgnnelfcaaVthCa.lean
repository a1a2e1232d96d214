/- Contracts of functions, told of values, on the way to VirtualShares. -/
import Derived.Test.YtabanfgnnelfcaaTyCa
import Derived.Test.YtabanfgnnelfcaaVtfCa
-- NEWGO
-- PRUNE: cl_lendx
-- ISG: Its_isG
namespace Go.Proofs.Ytabanfgnnelfcaa
set_option linter.unusedVariables false
set_option linter.unusedSimpArgs false
open Go.Proofs.Ytabanfgnnelfcaa.Sh
set_option maxRecDepth 20000
def sn1 : (Int × List It) × Int := vAdd 0 [] 1 100
def sn2 : (Int × List It) × Int := vAdd sn1.1.1 sn1.1.2 2 300
def sn3 : (Int × List It) × Int := chg sn2.1.1 sn2.1.2 1 (wkF sn2.1.1 sn2.1.2 (bsV sn2.1.2 1))
def sn4 : (Int × List It) × Int := chg sn3.1.1 sn3.1.2 2 (wkF sn3.1.1 sn3.1.2 (bsV sn3.1.2 2))
def snP (s : (Int × List It) × Int) : Int × Bool := vPick s.1.1 s.1.2 [1, 2]
def snR (s : (Int × List It) × Int) : (Int × List It) × Int := chg s.1.1 s.1.2 (snP s).1 (svF s.1.2 (bsV s.1.2 (snP s).1))
def snS (s : (Int × List It) × Int) : (Int × List It) × Int := ((snR s).1, if (snP s).1 = 1 then s.2 + 1 else s.2)
def snL : Nat → (Int × List It) × Int
  | 0 => (sn4.1, 0)
  | n + 1 => snS (snL n)
def snO (s : (Int × List It) × Int) : Bool := (snP s).2 && decide ((snR s).2 = 0) && decide (s.1.2.length ≤ 192) && decide (0 ≤ s.2) && decide (s.2 ≤ 100)
def snA : Nat → (Int × List It) × Int → Bool
  | 0, _ => true
  | n + 1, s => snO s && snA n (snS s)
theorem snA_get : ∀ (n i : Nat) (k : Nat), snA n (snL k) = true → i < n → snO (snL (k + i)) = true
  | 0, i, k, _, h => by omega
  | n + 1, 0, k, h, _ => by rw [snA, Bool.and_eq_true] at h; exact h.1
  | n + 1, i + 1, k, h, hi => by
    rw [snA, Bool.and_eq_true] at h
    have := snA_get n i (k + 1) h.2 (by omega)
    rwa [Nat.add_assoc, Nat.add_comm 1 i] at this
theorem sn_all : snA 40 (snL 0) = true := by kernel_rfl
theorem sn_ten : (snL 40).2 = 10 := by kernel_rfl
theorem sn_e1 : sn1.2 = 0 := by kernel_rfl
theorem sn_e2 : sn2.2 = 0 := by kernel_rfl
theorem sn_e3 : sn3.2 = 0 := by kernel_rfl
theorem sn_e4 : sn4.2 = 0 := by kernel_rfl
theorem sn_l : sn1.1.2.length = 1 ∧ sn2.1.2.length = 2 ∧ sn3.1.2.length = 2 ∧ sn4.1.2.length = 2 := ⟨by kernel_rfl, by kernel_rfl, by kernel_rfl, by kernel_rfl⟩
set_option maxHeartbeats 4000000 in
theorem sane_spec : FnSpec Try.prog 11 [] [] (b1 true) [] := by
  have h1 : FnSpec Try.prog 28 [.agg [int 0, .sc (.slice none 0 0)], i1 1, i1 100] [] (rq sn1) [] := (add_spec 0 [] none 1 100 (by simp)).pre ⟨⟨cw_rfl _, cw_gnil, trivial⟩, cw_rfl _, cw_rfl _, trivial⟩
  have h2 := add_spec sn1.1.1 sn1.1.2 none 2 300 (by rw [sn_l.1]; decide)
  have h3 := wake_spec sn2.1.1 sn2.1.2 none 1 (by rw [sn_l.2.1]; decide)
  have h4 := wake_spec sn3.1.1 sn3.1.2 none 2 (by rw [sn_l.2.2.1]; decide)
  have e2 : vAdd sn1.1.1 sn1.1.2 2 300 = sn2 := rfl
  have e3 : chg sn2.1.1 sn2.1.2 1 (wkF sn2.1.1 sn2.1.2 (bsV sn2.1.2 1)) = sn3 := rfl
  have e4 : chg sn3.1.1 sn3.1.2 2 (wkF sn3.1.1 sn3.1.2 (bsV sn3.1.2 2)) = sn4 := rfl
  have e5 : snL 0 = (sn4.1, 0) := rfl
  rw [e2] at h2
  rw [e3] at h3
  rw [e4] at h4
  have x1 := sn_e1
  have x2 := sn_e2
  have x3 := sn_e3
  have x4 := sn_e4
  clear e2 e3 e4
  generalize sn1 = r1 at *
  generalize sn2 = r2 at *
  generalize sn3 = r3 at *
  generalize sn4 = r4 at *
  obtain ⟨⟨c1, l1⟩, y1⟩ := r1
  obtain ⟨⟨c2, l2⟩, y2⟩ := r2
  obtain ⟨⟨c3, l3⟩, y3⟩ := r3
  obtain ⟨⟨c4, l4⟩, y4⟩ := r4
  simp only at x1 x2 x3 x4 h1 h2 h3 h4 e5
  subst x1 x2 x3 x4
  refine fnspec_of mixed TT_ok TT_cl ⟨fun _ => false, fun _ => [], 0, fun _ => false, fun _ => false⟩ Try.func11 rfl (by kernel_rfl) rfl 81 rfl [.tmp 0] rfl ?_
  simp only [go_sem, Nat.reduceEqDiff, Nat.reduceAdd, Nat.reduceSub, Nat.reduceMul, Nat.reduceLT, Nat.reduceLeDiff, ↓reduceIte, reduceCtorEq, List.reduceReplicate, Int.cast_ofNat_Int, Int.reduceEq, Int.reduceLT, Int.reduceLE]
  repeat' (first
    | (apply cl_plain
       case hs => rfl
       case ha => (simp only [List.map_cons, List.map_nil, prepV, prepC, idx, hpL', lookR, Nat.reduceEqDiff, if_true, if_false]; rfl)
       case h => (first | exact h1 .. | exact h2 .. | exact h3 .. | exact h4 ..))
    | ((first | refine s1_id ?_ | refine swp_id ?_ | refine sops_id ?_ | refine s2_id ?_); simp only [go_sem, Nat.reduceEqDiff, Nat.reduceAdd, Nat.reduceSub, Nat.reduceMul, Nat.reduceLT, Nat.reduceLeDiff, ↓reduceIte, reduceCtorEq, List.reduceReplicate, Int.cast_ofNat_Int, Int.reduceEq, Int.reduceLT, Int.reduceLE, SV.ren, SV.renL, Cell.ren, Row.ren, renO, bk, back, outUpsFrom, Ints_ren]))
  refine w_loop (ι := Nat) (fun i => ⟨[(1, .one (.optr 0 0)), (2, i1 0), (3, i1 0), (4, i1 0), (5, i1 0), (6, i1 (snL i).2), (7, i1 i)], [(0, some ⟨[int (snL i).1.1, .gsl (Its (snL i).1.2) 0 (snL i).1.2.length none], 2⟩)], 1⟩) (fun i => i ≤ 40) (fun i => 40 - i) 0 ?_ (Nat.zero_le _) ?_
  · skip
    rw [e5]
    (refine imp_ren _ _ _ [(0, 6, ⟨[int c4, .gsl (Its l4) 0 l4.length none], 2⟩)] (by simp) (by simp) (by simp) (Nat.le_of_ble_eq_true rfl) ?_ rfl (by simp only [List.forall_mem_cons, List.not_mem_nil, false_implies, implies_true, and_true, St.hpF, lookR, Nat.reduceEqDiff, if_true, if_false, ↓reduceIte] <;> (repeat' apply And.intro) <;> (first | rfl | trivial)) (by simp only [List.forall_mem_cons, List.not_mem_nil, false_implies, implies_true, and_true, true_and, flat_cons, flat_nil, flat_ints, flat_bools, flat_app, Cell.refs, and_self, eq_self_iff_true, List.append_nil]); simp only [List.map_cons, List.map_nil, List.forall_mem_cons, List.not_mem_nil, false_implies, implies_true, and_true, lk, slot, SV.ren, Cell.ren, toN, Nat.reduceEqDiff, if_true, if_false, ↓reduceIte, reduceCtorEq])
    all_goals ((repeat' apply And.intro) <;> (first | rfl | trivial))
  intro i hi
  simp only at hi ⊢
  rcases Nat.lt_or_ge i 40 with hlt | hge
  case inr =>
    have hlt' : ¬ (i : Int) < 40 := by omega
    have e : i = 40 := by omega
    subst e
    rw [sn_ten]
    generalize (snL 40).1 = q at *
    simp only [go_sem, Nat.reduceEqDiff, Nat.reduceAdd, Nat.reduceSub, Nat.reduceMul, Nat.reduceLT, Nat.reduceLeDiff, ↓reduceIte, reduceCtorEq, List.reduceReplicate, Int.cast_ofNat_Int, Int.reduceEq, Int.reduceLT, Int.reduceLE, decide_eq_false hlt']
    repeat' (first
    | (apply fs_nil <;> (try simp only [go_sem, resV, resS, SV.ren, SV.renL, Cell.ren, St.tmF, St.hpF, idx, renO, Row.ren, evS, slot, lookR, Nat.reduceEqDiff, ↓reduceIte, reduceCtorEq, if_true, if_false, Option.getD_some, Option.getD_none, List.map_cons, List.map_nil, sLoad, readAt, readNeed, Ints_ren, Ints_length, Ints_getD, and_true, true_and, List.getD_cons_zero, List.getD_cons_succ]) <;> (try rfl)))
  have hlt' : (i : Int) < 40 := by omega
  have hO := snA_get 40 i 0 sn_all hlt
  rw [Nat.zero_add] at hO
  have hS : snL (i + 1) = ((snR (snL i)).1, if (snP (snL i)).1 = 1 then (snL i).2 + 1 else (snL i).2) := rfl
  unfold snO at hO
  generalize snL i = s at *
  obtain ⟨⟨c, q⟩, n⟩ := s
  simp only [Bool.and_eq_true, decide_eq_true_eq] at hO hS
  obtain ⟨⟨⟨⟨o1, o2⟩, o3⟩, o4⟩, o5⟩ := hO
  have hpk := vpick_spec c q none [1, 2] (some 2) (by omega) (by simp)
  have hsv := serve_spec c q none (snP ((c, q), n)).1 (by omega)
  have d1 : vPick c q [1, 2] = snP ((c, q), n) := rfl
  have d2 : chg c q (snP ((c, q), n)).1 (svF q (bsV q (snP ((c, q), n)).1)) = snR ((c, q), n) := rfl
  rw [d1] at hpk
  rw [d2] at hsv
  clear d1 d2
  generalize snP ((c, q), n) = p at *
  generalize snR ((c, q), n) = r at *
  obtain ⟨p1, p2⟩ := p
  obtain ⟨⟨c', q'⟩, e⟩ := r
  simp only at o1 o2 hS hpk hsv
  subst o1 o2
  by_cases hp1 : p1 = 1
  · rw [if_pos hp1] at hS
    simp only [go_sem, Nat.reduceEqDiff, Nat.reduceAdd, Nat.reduceSub, Nat.reduceMul, Nat.reduceLT, Nat.reduceLeDiff, ↓reduceIte, reduceCtorEq, List.reduceReplicate, Int.cast_ofNat_Int, Int.reduceEq, Int.reduceLT, Int.reduceLE, decide_eq_true hlt']
    repeat' (first
    | with_reducible refine And.intro ?_ ?_
    | (intros; (try simp only [Bool.and_eq_true, Bool.or_eq_true, Bool.not_eq_true', Bool.not_eq_false', Bool.and_eq_false_iff, Bool.or_eq_false_iff, decide_eq_true_eq, decide_eq_false_iff_not] at *); omega)
    | (apply cl_plain
       case hs => rfl
       case ha => (simp only [List.map_cons, List.map_nil, prepV, prepC, idx, hpL', lookR, Nat.reduceEqDiff, if_true, if_false]; rfl)
       case h => (first | exact hpk .. | exact hsv ..))
    | (apply cl_show
       case ha => (simp only [List.map_cons, List.map_nil, prepV, prepC, idx, hpL', lookR, Nat.reduceEqDiff, if_true, if_false]; rfl)
       case hs => ((simp [snaps, SV.refs, Cell.refs, idx, hpL', lookR]) <;> (repeat' apply And.intro) <;> (first | exact Ints_isG _ | exact Its_isG _))
       case h => (first | exact hpk .. | exact hsv ..)
       case hg => ((simp [SV.noG, SV.noGL, Cell.noG]) <;> (repeat' apply And.intro) <;> exact Ints_noG _))
    | ((first | refine s1_id ?_ | refine swp_id ?_ | refine sops_id ?_ | refine s2_id ?_); simp only [decide_eq_true hlt', decide_eq_true hp1, go_sem, Nat.reduceEqDiff, Nat.reduceAdd, Nat.reduceSub, Nat.reduceMul, Nat.reduceLT, Nat.reduceLeDiff, ↓reduceIte, reduceCtorEq, List.reduceReplicate, Int.cast_ofNat_Int, Int.reduceEq, Int.reduceLT, Int.reduceLE, SV.ren, SV.renL, Cell.ren, Row.ren, renO, bk, back, outUpsFrom, Ints_ren]))
    refine le_mk (i + 1) ?_ (by omega) (by omega)
    rw [hS]
    (refine imp_ren _ _ _ [(0, 0, ⟨[int c', .gsl (Its q') 0 q'.length none], 2⟩)] (by simp) (by simp) (by simp) (Nat.le_of_ble_eq_true rfl) ?_ rfl (by simp only [List.forall_mem_cons, List.not_mem_nil, false_implies, implies_true, and_true, St.hpF, lookR, Nat.reduceEqDiff, if_true, if_false, ↓reduceIte] <;> (repeat' apply And.intro) <;> (first | rfl | trivial)) (by simp only [List.forall_mem_cons, List.not_mem_nil, false_implies, implies_true, and_true, true_and, flat_cons, flat_nil, flat_ints, flat_bools, flat_app, Cell.refs, and_self, eq_self_iff_true, List.append_nil]); simp only [List.map_cons, List.map_nil, List.forall_mem_cons, List.not_mem_nil, false_implies, implies_true, and_true, lk, slot, SV.ren, Cell.ren, toN, Nat.reduceEqDiff, if_true, if_false, ↓reduceIte, reduceCtorEq])
    all_goals ((repeat' apply And.intro) <;> (first | rfl | trivial | (simp only [Int.natCast_add]; done) | (simp only [Int.natCast_add]; rfl) | (simp only [Int.natCast_add]; trivial)))
  · rw [if_neg hp1] at hS
    simp only [go_sem, Nat.reduceEqDiff, Nat.reduceAdd, Nat.reduceSub, Nat.reduceMul, Nat.reduceLT, Nat.reduceLeDiff, ↓reduceIte, reduceCtorEq, List.reduceReplicate, Int.cast_ofNat_Int, Int.reduceEq, Int.reduceLT, Int.reduceLE, decide_eq_true hlt']
    repeat' (first
    | with_reducible refine And.intro ?_ ?_
    | (intros; (try simp only [Bool.and_eq_true, Bool.or_eq_true, Bool.not_eq_true', Bool.not_eq_false', Bool.and_eq_false_iff, Bool.or_eq_false_iff, decide_eq_true_eq, decide_eq_false_iff_not] at *); omega)
    | (apply cl_plain
       case hs => rfl
       case ha => (simp only [List.map_cons, List.map_nil, prepV, prepC, idx, hpL', lookR, Nat.reduceEqDiff, if_true, if_false]; rfl)
       case h => (first | exact hpk .. | exact hsv ..))
    | (apply cl_show
       case ha => (simp only [List.map_cons, List.map_nil, prepV, prepC, idx, hpL', lookR, Nat.reduceEqDiff, if_true, if_false]; rfl)
       case hs => ((simp [snaps, SV.refs, Cell.refs, idx, hpL', lookR]) <;> (repeat' apply And.intro) <;> (first | exact Ints_isG _ | exact Its_isG _))
       case h => (first | exact hpk .. | exact hsv ..)
       case hg => ((simp [SV.noG, SV.noGL, Cell.noG]) <;> (repeat' apply And.intro) <;> exact Ints_noG _))
    | ((first | refine s1_id ?_ | refine swp_id ?_ | refine sops_id ?_ | refine s2_id ?_); simp only [decide_eq_true hlt', decide_eq_false hp1, go_sem, Nat.reduceEqDiff, Nat.reduceAdd, Nat.reduceSub, Nat.reduceMul, Nat.reduceLT, Nat.reduceLeDiff, ↓reduceIte, reduceCtorEq, List.reduceReplicate, Int.cast_ofNat_Int, Int.reduceEq, Int.reduceLT, Int.reduceLE, SV.ren, SV.renL, Cell.ren, Row.ren, renO, bk, back, outUpsFrom, Ints_ren]))
    refine le_mk (i + 1) ?_ (by omega) (by omega)
    rw [hS]
    (refine imp_ren _ _ _ [(0, 0, ⟨[int c', .gsl (Its q') 0 q'.length none], 2⟩)] (by simp) (by simp) (by simp) (Nat.le_of_ble_eq_true rfl) ?_ rfl (by simp only [List.forall_mem_cons, List.not_mem_nil, false_implies, implies_true, and_true, St.hpF, lookR, Nat.reduceEqDiff, if_true, if_false, ↓reduceIte] <;> (repeat' apply And.intro) <;> (first | rfl | trivial)) (by simp only [List.forall_mem_cons, List.not_mem_nil, false_implies, implies_true, and_true, true_and, flat_cons, flat_nil, flat_ints, flat_bools, flat_app, Cell.refs, and_self, eq_self_iff_true, List.append_nil]); simp only [List.map_cons, List.map_nil, List.forall_mem_cons, List.not_mem_nil, false_implies, implies_true, and_true, lk, slot, SV.ren, Cell.ren, toN, Nat.reduceEqDiff, if_true, if_false, ↓reduceIte, reduceCtorEq])
    all_goals ((repeat' apply And.intro) <;> (first | rfl | trivial | (simp only [Int.natCast_add]; done) | (simp only [Int.natCast_add]; rfl) | (simp only [Int.natCast_add]; trivial)))
end Go.Proofs.Ytabanfgnnelfcaa
