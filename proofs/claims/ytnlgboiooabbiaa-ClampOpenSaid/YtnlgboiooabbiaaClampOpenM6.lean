/- Contracts of functions, told of values, on the way to ClampOpen (part 6). -/
import Derived.Test.YtnlgboiooabbiaaClampOpenM3
import Derived.Test.YtnlgboiooabbiaaClampOpenM5
-- NEWGO
-- PRUNE: cl_lendx cl_use
-- ISG: Cs_isG
-- FLAT: Cs_flat
namespace Go.Proofs.Ytnlgboiooabbiaa
set_option linter.unusedVariables false
set_option linter.unusedSimpArgs false
open Go.Proofs.Ytnlgboiooabbiaa.Sh
set_option maxRecDepth 20000
theorem gC_ne (C : List Cl) (k i : Nat) (x : Cl) (h : k ≠ i) : gC (C.set k x) i = gC C i := by
  show (C.set k x).getD i zc = C.getD i zc
  rw [List.getD_eq_getElem?_getD, List.getElem?_set_ne h, List.getD_eq_getElem?_getD]
theorem mu_ind {l : List Nd} {n : Int} {C D : List Cl} (h : VC l n C) (h' : VC l n D) (hm : ∀ i, i < l.length → (gC C i).mx ≤ (gC D i).mx) : ∀ i, i < l.length → muN l C i ≤ muN l D i := fun i => by
  induction i using Nat.strongRecOn with
  | _ i ih =>
    intro hi
    by_cases h0 : i = 0
    · subst h0
      rw [mu_root h, mu_root h']
      exact hm 0 hi
    · obtain ⟨j, hj, hp⟩ := (h.v.ch hi h0).par
      rw [mu_child h hi h0 hp, mu_child h' hi h0 hp]
      have h1 := ih j hj (by omega)
      have h2 := hm i hi
      omega
theorem mu_all {l : List Nd} {n : Int} {C : List Cl} (h : VC l n C) (hm : ∀ i, i < l.length → (gC C i).mx = 10000) : ∀ i, i < l.length → muN l C i = 10000 := fun i => by
  induction i using Nat.strongRecOn with
  | _ i ih =>
    intro hi
    by_cases h0 : i = 0
    · subst h0
      rw [mu_root h]
      exact hm 0 hi
    · obtain ⟨j, hj, hp⟩ := (h.v.ch hi h0).par
      rw [mu_child h hi h0 hp, ih j hj (by omega), hm i hi]
      decide
theorem mu_shut {l : List Nd} {n : Int} {C : List Cl} (h : VC l n C) (hm : (gC C 0).mx = 0) : ∀ i, i < l.length → muN l C i = 0 := fun i => by
  induction i using Nat.strongRecOn with
  | _ i ih =>
    intro hi
    by_cases h0 : i = 0
    · subst h0
      rw [mu_root h]
      exact hm
    · obtain ⟨j, hj, hp⟩ := (h.v.ch hi h0).par
      rw [mu_child h hi h0 hp, ih j hj (by omega)]
      have := (h.ok i hi).2
      omega
theorem viM_nil {l : List Nd} {n : Int} {C : List Cl} (h : VC l n C) : (viM l n C).length = 0 ↔ ∀ i, i < l.length → (gC C i).mn ≤ muN l C i := by
  unfold viM viL
  rw [vdC_iff.2 h, if_pos rfl, List.length_map, List.length_eq_zero_iff, List.filter_eq_nil_iff, h.len]
  constructor
  · intro hh i hi
    have := hh i (List.mem_range.2 hi)
    rw [decide_eq_true_eq] at this
    have e : (efE l C i).mn = min (gC C i).mn (muN l C i) := rfl
    omega
  · intro hh i hi
    have := hh i (List.mem_range.1 hi)
    rw [decide_eq_true_eq]
    have e : (efE l C i).mn = min (gC C i).mn (muN l C i) := rfl
    omega
theorem VC.set {l : List Nd} {n : Int} {C : List Cl} (h : VC l n C) {k : Nat} (a b : Int) (ha : 0 ≤ a ∧ a ≤ 10000) (hb : 0 ≤ b ∧ b ≤ 10000) : VC l n (C.set k ⟨(gC C k).g, a, b⟩) := by
  refine ⟨h.v, by rw [List.length_set]; exact h.len, fun i hi => ?_⟩
  have hl := h.len
  by_cases e : i = k
  · subst e
    rw [show gC (C.set i ⟨(gC C i).g, a, b⟩) i = ⟨(gC C i).g, a, b⟩ from getD_set_self C i _ zc (by omega)]
    exact ⟨(h.ok i hi).1, ha.1, ha.2, hb.1, hb.2⟩
  · rw [show gC (C.set k ⟨(gC C k).g, a, b⟩) i = gC C i from gC_ne C k i _ (fun q => e q.symm)]
    exact h.ok i hi
theorem vi_more {l : List Nd} {n : Int} {C : List Cl} (h : VC l n C) {k : Nat} (hk : k < l.length) (a : Int) (ha : 0 ≤ a ∧ a ≤ (gC C k).mn) (h0 : (viM l n C).length = 0) : (viM l n (C.set k ⟨(gC C k).g, a, 10000⟩)).length = 0 := by
  have hl := h.len
  have hb := (h.ok k hk).2
  have h' := h.set (k := k) a 10000 (by omega) (by decide)
  have hs : gC (C.set k ⟨(gC C k).g, a, 10000⟩) k = ⟨(gC C k).g, a, 10000⟩ := getD_set_self C k _ zc (by omega)
  have hn : ∀ i, i ≠ k → gC (C.set k ⟨(gC C k).g, a, 10000⟩) i = gC C i := fun i e => gC_ne C k i _ (fun q => e q.symm)
  have hm := mu_ind h h' (fun i hi => by
    by_cases e : i = k
    · subst e; rw [hs]; exact hb.2.2.2
    · rw [hn i e]; exact Int.le_refl _)
  rw [viM_nil h'] 
  rw [viM_nil h] at h0
  intro i hi
  have h1 := h0 i hi
  have h2 := hm i hi
  by_cases e : i = k
  · subst e; rw [hs]; simp only; omega
  · rw [hn i e]; omega
def opA (C : List Cl) (m : Nat) : List Cl := (C.take m).map (fun x => ⟨x.g, 0, 10000⟩) ++ C.drop m
theorem opA_len (C : List Cl) (m : Nat) : (opA C m).length = C.length := by
  unfold opA; rw [List.length_append, List.length_map, List.length_take, List.length_drop]; omega
theorem opA_lo (C : List Cl) (m i : Nat) (h : i < m) (hm : m ≤ C.length) : gC (opA C m) i = ⟨(gC C i).g, 0, 10000⟩ := by
  show (opA C m).getD i zc = _
  unfold opA
  rw [List.getD_eq_getElem?_getD, List.getElem?_append_left (by rw [List.length_map, List.length_take]; omega), List.getElem?_map, List.getElem?_take_of_lt h, List.getElem?_eq_getElem (by omega)]
  show (⟨_, 0, 10000⟩ : Cl) = ⟨(C.getD i zc).g, 0, 10000⟩
  rw [getD_at C i zc (by omega)]
theorem opA_hi (C : List Cl) (m : Nat) (hm : m < C.length) : gC (opA C m) m = gC C m := by
  show (opA C m).getD m zc = C.getD m zc
  unfold opA
  rw [List.getD_eq_getElem?_getD, List.getElem?_append_right (by rw [List.length_map, List.length_take]; omega), List.length_map, List.length_take, List.getElem?_drop, Nat.min_eq_left (by omega), Nat.sub_self, Nat.add_zero, List.getD_eq_getElem?_getD]
theorem opA_set (C : List Cl) (m : Nat) (hm : m < C.length) : (opA C m).set m ⟨(gC C m).g, 0, 10000⟩ = opA C (m + 1) := by
  unfold opA
  rw [take_getD C m zc hm, drop_getD C m zc hm, List.map_append, List.set_append_right _ _ (by rw [List.length_map, List.length_take]; omega), List.length_map, List.length_take, Nat.min_eq_left (by omega), Nat.sub_self, List.set_cons_zero, List.append_assoc]
  rfl
theorem opA_vc {l : List Nd} {n : Int} {C : List Cl} (h : VC l n C) : VC l n (opA C C.length) := by
  refine ⟨h.v, by rw [opA_len]; exact h.len, fun i hi => ?_⟩
  rw [opA_lo C _ i (by rw [h.len]; exact hi) (Nat.le_refl _)]
  exact ⟨(h.ok i hi).1, Int.le_refl 0, (by decide : (0 : Int) ≤ 10000), (by decide : (0 : Int) ≤ 10000), Int.le_refl 10000⟩
theorem ap_open {l : List Nd} {n : Int} {C : List Cl} (h : VC l n C) {i : Nat} (hi : i < l.length) (u : Int) (hu : 0 ≤ u ∧ u ≤ 10000) : apM l n (opA C C.length) (gN l i).i u = u := by
  have hl := h.len
  unfold apM
  rw [vdC_of (opA_vc h) hi, mu_all (opA_vc h) (fun j hj => by rw [opA_lo C _ j (by omega) (Nat.le_refl _)]) i hi, opA_lo C _ i (by omega) (Nat.le_refl _)]
  simp only
  omega
theorem ap_shut {l : List Nd} {n : Int} {C : List Cl} (h : VC l n C) {i : Nat} (hi : i < l.length) (u : Int) (hu : 0 ≤ u) : apM l n (C.set 0 ⟨(gC C 0).g, (gC C 0).mn, 0⟩) (gN l i).i u = 0 := by
  have hl := h.len
  have h0 := (h.ok 0 (by omega)).2
  have h' := h.set (k := 0) (gC C 0).mn 0 (by omega) (by decide)
  have hs : (gC (C.set 0 ⟨(gC C 0).g, (gC C 0).mn, 0⟩) 0).mx = 0 := by rw [show gC (C.set 0 ⟨(gC C 0).g, (gC C 0).mn, 0⟩) 0 = _ from getD_set_self C 0 _ zc (by omega)]
  unfold apM
  rw [vdC_of h' hi, mu_shut h' hs i hi]
  simp only
  have := (h'.ok i hi).2
  omega
theorem anc_pos {l : List Nd} {n : Int} (h : VT l n) {i : Nat} (hi : i < l.length) : 0 < (ancM l n (gN l i).i).length := by
  unfold ancM
  rw [hasM_iff.2 ⟨(chkT_iff l n).2 h, gN l i, getD_mem l i zn hi, rfl⟩, if_pos rfl, upL_node h.asc hi]
  exact Nat.succ_pos _
set_option maxHeartbeats 16000000 in
theorem open_spec (L : List Int) (q : Int) (hq : 0 ≤ q ∧ q < 65536) (hr : ∀ x ∈ L, -9223372036854775808 ≤ x ∧ x ≤ 9223372036854775807) : FnSpec Try.prog 4 [gi L none, .one (.sc (.int .u16 q))] [] (b1 true) [] := by
  by_cases hlen : (L.length : Int) ≤ 600
  case neg =>
    refine fnspec_of mixed TT_ok TT_cl ⟨fun _ => false, lendB, 0, fun _ => false, fun _ => false⟩ Try.func4 rfl (by kernel_rfl) rfl 148 rfl [.tmp 4] rfl ?_
    simp only [go_sem, Nat.reduceEqDiff, Nat.reduceAdd, Nat.reduceSub, Nat.reduceMul, Nat.reduceLT, Nat.reduceLeDiff, ↓reduceIte, reduceCtorEq, List.reduceReplicate, Int.cast_ofNat_Int, Int.reduceEq, Int.reduceLT, Int.reduceLE, decide_eq_false hlen, lendB]
    repeat' (first
    | (apply cl_plain
       case hs => rfl
       case ha => (simp only [List.map_cons, List.map_nil, prepV, prepC, idx, hpL', lookR, Nat.reduceEqDiff, if_true, if_false]; rfl)
       case h => (first | exact light_spec .. | exact sane_spec ..))
    | ((first | refine s1_id ?_ | refine swp_id ?_ | refine sops_id ?_ | refine s2_id ?_); simp only [decide_eq_false hlen, lendB, go_sem, Nat.reduceEqDiff, Nat.reduceAdd, Nat.reduceSub, Nat.reduceMul, Nat.reduceLT, Nat.reduceLeDiff, ↓reduceIte, reduceCtorEq, List.reduceReplicate, Int.cast_ofNat_Int, Int.reduceEq, Int.reduceLT, Int.reduceLE, SV.ren, SV.renL, Cell.ren, Row.ren, renO, bk, back, outUpsFrom, Ints_ren])
    | (apply fs_nil <;> (try simp only [go_sem, resV, resS, SV.ren, SV.renL, Cell.ren, St.tmF, St.hpF, idx, renO, Row.ren, evS, slot, lookR, Nat.reduceEqDiff, ↓reduceIte, reduceCtorEq, if_true, if_false, Option.getD_some, Option.getD_none, List.map_cons, List.map_nil, sLoad, readAt, readNeed, Ints_ren, Ints_length, Ints_getD, and_true, true_and, List.getD_cons_zero, List.getD_cons_succ]) <;> (try rfl)))
  have hl : L.length ≤ 600 := by omega
  have t1 := tree_spec L hl hr 0 7 (by decide)
  have hti := mkT_ok L 0 7
  generalize mkT L 0 7 = T at *
  obtain ⟨⟨l, n⟩, j⟩ := T
  simp only at t1 hti
  have hV := hti.v.vt
  have hle := hti.len
  have c1 := clamps_spec L hl hr j l n hle.2
  have hC := cpF_vc L hV j
  generalize cpF L l j = X at *
  obtain ⟨C, J⟩ := X
  simp only at c1 hC
  have c2 := clamps_own L hl hr J l n hle.2
  have hO := cpF_vc L hV J
  generalize cpF L l J = X at *
  obtain ⟨O, J2⟩ := X
  simp only at c2 hO
  have hCl := hC.len
  have hOl := hO.len
  have hnl := nd_len l
  refine fnspec_of mixed TT_ok TT_cl ⟨fun _ => false, lendB, 0 , fun _ => false, fun i => if i = 17 then true else false⟩ Try.func4 rfl (by kernel_rfl) rfl 148 rfl [.tmp 4] rfl ?_
  simp only [go_sem, Nat.reduceEqDiff, Nat.reduceAdd, Nat.reduceSub, Nat.reduceMul, Nat.reduceLT, Nat.reduceLeDiff, ↓reduceIte, reduceCtorEq, List.reduceReplicate, Int.cast_ofNat_Int, Int.reduceEq, Int.reduceLT, Int.reduceLE, decide_eq_true hlen, lendB]
  repeat' (first
    | (apply cl_plain
       case hs => rfl
       case ha => (simp only [List.map_cons, List.map_nil, prepV, prepC, idx, hpL', lookR, Nat.reduceEqDiff, if_true, if_false]; rfl)
       case h => (first | exact light_spec .. | exact roll_spec .. | exact t1 .. | exact c1 .. | exact c2 ..))
    | (apply cl_lend
       case hr => (simp only [List.map_cons, List.map_nil, hpL', lookR, Nat.reduceEqDiff, if_true, if_false]; first | exact map1 _ | exact map2 _ _ | exact map3 _ _ _)
       case ha => (simp only [List.map_cons, List.map_nil, prepV, prepC, idx, hpL', lookR, Nat.reduceEqDiff, if_true, if_false]; rfl)
       case hs => rfl
       case hn => decide
       case h => (first | exact light_spec .. | exact roll_spec .. | exact t1 .. | exact c1 .. | exact c2 ..)
       case hf => (simp only [List.forall_mem_cons, List.not_mem_nil, false_implies, implies_true, and_true, true_and, flat_cons, flat_nil, flat_ints, flat_bools, flat_app, Cs_flat, Cell.refs, and_self, eq_self_iff_true, List.append_nil])
       case hl => (simp only [List.length_cons, List.length_nil]; decide))
    | ((first | refine s1_id ?_ | refine swp_id ?_ | refine sops_id ?_ | refine s2_id ?_); simp only [decide_eq_true hlen, lendB, dice, go_sem, Nat.reduceEqDiff, Nat.reduceAdd, Nat.reduceSub, Nat.reduceMul, Nat.reduceLT, Nat.reduceLeDiff, ↓reduceIte, reduceCtorEq, List.reduceReplicate, Int.cast_ofNat_Int, Int.reduceEq, Int.reduceLT, Int.reduceLE, SV.ren, SV.renL, Cell.ren, Row.ren, renO, bk, back, outUpsFrom, Ints_ren]))
  refine w_loop (ι := Nat) (fun m => ⟨[(1, .one (.sc (.int .u16 q))), (5, .one (.optr 0 0)), (6, .one (.optr 1 0)), (7, gr C none), (8, .one (.osl 2 0 l.length none)), (34, i1 l.length), (35, i1 m)], [(0, some (dice L J2)), (1, some ⟨[.gsl (Cs l) 0 l.length none, int n], 2⟩), (2, some ⟨Cs (opA O m), 3⟩)], 3⟩) (fun m => m ≤ l.length) (fun m => l.length - m) 0 ?_ (Nat.zero_le _) ?_
  · simp only [hOl]
    (refine imp_ren _ _ _ [(0, 5, dice L J2), (1, 9, ⟨[.gsl (Cs l) 0 l.length none, int n], 2⟩), (2, 17, ⟨Cs O, 3⟩)] (by simp) (by simp) (by simp) (Nat.le_of_ble_eq_true rfl) ?_ rfl (by simp only [List.forall_mem_cons, List.not_mem_nil, false_implies, implies_true, and_true, St.hpF, lookR, Nat.reduceEqDiff, if_true, if_false, ↓reduceIte, dice, Cs_flat] <;> (repeat' apply And.intro) <;> (first | rfl | trivial)) (by simp only [List.forall_mem_cons, List.not_mem_nil, false_implies, implies_true, and_true, true_and, flat_cons, flat_nil, flat_ints, flat_bools, flat_app, Cell.refs, and_self, eq_self_iff_true, List.append_nil, dice, Cs_flat]); simp only [List.map_cons, List.map_nil, List.forall_mem_cons, List.not_mem_nil, false_implies, implies_true, and_true, lk, slot, SV.ren, Cell.ren, toN, Nat.reduceEqDiff, if_true, if_false, ↓reduceIte, reduceCtorEq])
    all_goals ((repeat' apply And.intro) <;> (first | rfl | trivial))
  clear c1 c2 t1
  intro m hm
  simp only at hm ⊢
  rcases Nat.lt_or_ge m l.length with hlt | hge
  case inl =>
    have c : (m : Int) < (l.length : Int) := by omega
    have hAl := opA_len O m
    have hAh := opA_hi O m (by omega)
    have hAs := opA_set O m (by omega)
    generalize opA O m = A at *
    have hac := cl_len A
    obtain ⟨B, hB⟩ : ∃ B, A.set m ⟨(gC O m).g, 0, (gC O m).mx⟩ = B := ⟨_, rfl⟩
    have s1 : (Cs A).set (m * 3 + 1) (int 0) = Cs B := by
      rw [← hB]
      refine Cs_setf A m 1 _ _ (by omega) (by decide) ?_
      show clc _ = (clc (gC A m)).set 1 _
      rw [hAh]; rfl
    have hBm : gC B m = ⟨(gC O m).g, 0, (gC O m).mx⟩ := by rw [← hB]; exact getD_set_self A m _ zc (by omega)
    have hBl : B.length = A.length := by rw [← hB]; simp
    have hBc := cl_len B
    have s2 : (Cs B).set (m * 3 + 2) (int 10000) = Cs (opA O (m + 1)) := by
      have e : opA O (m + 1) = B.set m ⟨(gC O m).g, 0, 10000⟩ := by rw [← hAs, ← hB, List.set_set]
      rw [e]
      refine Cs_setf B m 2 _ _ (by omega) (by decide) ?_
      show clc _ = (clc (gC B m)).set 2 _
      rw [hBm]; rfl
    simp only [go_sem, Nat.reduceEqDiff, Nat.reduceAdd, Nat.reduceSub, Nat.reduceMul, Nat.reduceLT, Nat.reduceLeDiff, ↓reduceIte, reduceCtorEq, List.reduceReplicate, Int.cast_ofNat_Int, Int.reduceEq, Int.reduceLT, Int.reduceLE, decide_eq_true c, lendB, s1, s2]
    repeat' (first
    | with_reducible refine And.intro ?_ ?_
    | (intros; (try simp only [Bool.and_eq_true, Bool.or_eq_true, Bool.not_eq_true', Bool.not_eq_false', Bool.and_eq_false_iff, Bool.or_eq_false_iff, decide_eq_true_eq, decide_eq_false_iff_not] at *); omega)
    | ((first | refine s1_id ?_ | refine swp_id ?_ | refine sops_id ?_ | refine s2_id ?_); simp only [decide_eq_true c, lendB, s1, s2, dice, go_sem, Nat.reduceEqDiff, Nat.reduceAdd, Nat.reduceSub, Nat.reduceMul, Nat.reduceLT, Nat.reduceLeDiff, ↓reduceIte, reduceCtorEq, List.reduceReplicate, Int.cast_ofNat_Int, Int.reduceEq, Int.reduceLT, Int.reduceLE, SV.ren, SV.renL, Cell.ren, Row.ren, renO, bk, back, outUpsFrom, Ints_ren]))
    refine le_mk (m + 1) ?_ hlt (by omega)
    (refine imp_ren _ _ _ [(0, 0, dice L J2), (1, 1, ⟨[.gsl (Cs l) 0 l.length none, int n], 2⟩), (2, 2, ⟨Cs (opA O (m + 1)), 3⟩)] (by simp) (by simp) (by simp) (Nat.le_of_ble_eq_true rfl) ?_ rfl (by simp only [List.forall_mem_cons, List.not_mem_nil, false_implies, implies_true, and_true, St.hpF, lookR, Nat.reduceEqDiff, if_true, if_false, ↓reduceIte, dice, Cs_flat] <;> (repeat' apply And.intro) <;> (first | rfl | trivial)) (by simp only [List.forall_mem_cons, List.not_mem_nil, false_implies, implies_true, and_true, true_and, flat_cons, flat_nil, flat_ints, flat_bools, flat_app, Cell.refs, and_self, eq_self_iff_true, List.append_nil, dice, Cs_flat]); simp only [List.map_cons, List.map_nil, List.forall_mem_cons, List.not_mem_nil, false_implies, implies_true, and_true, lk, slot, SV.ren, Cell.ren, toN, Nat.reduceEqDiff, if_true, if_false, ↓reduceIte, reduceCtorEq])
    all_goals ((repeat' apply And.intro) <;> (first | rfl | trivial | (simp only [Int.natCast_add]; done) | (simp only [Int.natCast_add]; rfl) | (simp only [Int.natCast_add]; trivial)))
  have c : ¬ (m : Int) < (l.length : Int) := by omega
  obtain rfl : m = l.length := by omega
  have hop := fun i (hi : i < l.length) => ap_open hO hi
  have hPv := opA_vc hO
  rw [hOl] at hop hPv
  have hPl := opA_len O l.length
  generalize opA O l.length = P at *
  rw [hOl] at hPl
  have nk := next_spec L J2 l.length hl hr (by omega)
  have rk := nx_rng L J2 l.length (by omega)
  obtain ⟨k, hk, hkl⟩ : ∃ k : Nat, nxV L J2 l.length = k ∧ k < l.length := ⟨(nxV L J2 l.length).toNat, by omega, by omega⟩
  rw [hk] at nk
  generalize nxA L J2 l.length = J3 at *
  have hok := (hC.ok k hkl).2
  have nv := next_spec L J3 ((gC C k).mn + 1) hl hr (by omega)
  have rv := nx_rng L J3 ((gC C k).mn + 1) (by omega)
  have hmore := fun h => vi_more hC hkl (nxV L J3 ((gC C k).mn + 1)) (by omega) h
  have hMv := hC.set (k := k) (nxV L J3 ((gC C k).mn + 1)) 10000 (by omega) (by decide)
  obtain ⟨_, q2, _⟩ := cl_f C k (by omega) (.sc (.int .i64 0))
  have hcc := cl_len C
  obtain ⟨B, hB⟩ : ∃ B, C.set k ⟨(gC C k).g, (gC C k).mn, 10000⟩ = B := ⟨_, rfl⟩
  have hBm : gC B k = ⟨(gC C k).g, (gC C k).mn, 10000⟩ := by rw [← hB]; exact getD_set_self C k _ zc (by omega)
  have hBl : B.length = l.length := by rw [← hB]; simpa using hCl
  have hbc := cl_len B
  have s1 : (Cs C).set (k * 3 + 2) (int 10000) = Cs B := by
    rw [← hB]
    refine Cs_setf C k 2 _ _ (by omega) (by decide) ?_
    rfl
  generalize nxV L J3 ((gC C k).mn + 1) = v at *
  generalize nxA L J3 ((gC C k).mn + 1) = J4 at *
  have s2 : (Cs B).set (k * 3 + 1) (int v) = Cs (C.set k ⟨(gC C k).g, v, 10000⟩) := by
    have e : C.set k ⟨(gC C k).g, v, 10000⟩ = B.set k ⟨(gC C k).g, v, 10000⟩ := by rw [← hB, List.set_set]
    rw [e]
    refine Cs_setf B k 1 _ _ (by omega) (by decide) ?_
    show clc _ = (clc (gC B k)).set 1 _
    rw [hBm]; rfl
  generalize C.set k ⟨(gC C k).g, v, 10000⟩ = M at *
  have hMl := hMv.len
  have v1 := cviol_spec l n C none (by omega) (by omega) hti.nr hV.ct
  have v2 := cviol_spec l n M none (by omega) (by omega) hti.nr hV.ct
  generalize (gC C k).mn = mnk at *
  have hV1 : ∃ U, viM l n C = U := ⟨_, rfl⟩
  obtain ⟨U, hU⟩ := hV1
  have hV2 : ∃ U, viM l n M = U := ⟨_, rfl⟩
  obtain ⟨W, hW⟩ := hV2
  rw [hU] at v1 hmore
  rw [hW] at v2 hmore
  have hca : List.take (l.length * 3) (Cs C) = Cs C := Cs_all C _ (show C.length * 3 ≤ l.length * 3 by omega)
  simp only [gr, hMl] at v2
  have hrem : Int.tmod q 10001 = q % 10001 := Int.tmod_eq_emod_of_nonneg hq.1
  have hu0 : 0 ≤ q % 10001 ∧ q % 10001 ≤ 10000 := by omega
  generalize hu : q % 10001 = u at *
  simp only [go_sem, Nat.reduceEqDiff, Nat.reduceAdd, Nat.reduceSub, Nat.reduceMul, Nat.reduceLT, Nat.reduceLeDiff, ↓reduceIte, reduceCtorEq, List.reduceReplicate, Int.cast_ofNat_Int, Int.reduceEq, Int.reduceLT, Int.reduceLE, decide_eq_false c, lendB, hCl, s1, s2, q2, hrem]
  repeat' (first
    | with_reducible refine And.intro ?_ ?_
    | (intros; (try simp only [Bool.and_eq_true, Bool.or_eq_true, Bool.not_eq_true', Bool.not_eq_false', Bool.and_eq_false_iff, Bool.or_eq_false_iff, decide_eq_true_eq, decide_eq_false_iff_not] at *); omega)
    | (apply cl_plain
       case hs => rfl
       case ha => (simp only [List.map_cons, List.map_nil, prepV, prepC, idx, hpL', lookR, Nat.reduceEqDiff, if_true, if_false]; rfl)
       case h => (first | exact v1 .. | exact v2 .. | exact nk .. | exact nv ..))
    | (apply cl_lend
       case hr => (simp only [List.map_cons, List.map_nil, hpL', lookR, Nat.reduceEqDiff, if_true, if_false]; first | exact map1 _ | exact map2 _ _ | exact map3 _ _ _)
       case ha => (simp only [List.map_cons, List.map_nil, prepV, prepC, idx, hpL', lookR, Nat.reduceEqDiff, if_true, if_false]; rfl)
       case hs => rfl
       case hn => decide
       case h => (first | exact v1 .. | exact v2 .. | exact nk .. | exact nv ..)
       case hf => (simp only [List.forall_mem_cons, List.not_mem_nil, false_implies, implies_true, and_true, true_and, flat_cons, flat_nil, flat_ints, flat_bools, flat_app, Cs_flat, Cell.refs, and_self, eq_self_iff_true, List.append_nil])
       case hl => (simp only [List.length_cons, List.length_nil]; decide))
    | ((first | refine s1_id ?_ | refine swp_id ?_ | refine sops_id ?_ | refine s2_id ?_); simp only [decide_eq_false c, lendB, hCl, s1, s2, q2, hrem, dice, hca, Int.toNat_zero, Nat.sub_self, Nat.zero_mul, List.flatten_cons, List.flatten_nil, List.append_nil, List.cons_append, List.nil_append, List.set_cons_zero, List.set_cons_succ, List.take_succ_cons, List.take_zero, List.take_nil, List.length_cons, List.length_nil, go_sem, Nat.reduceEqDiff, Nat.reduceAdd, Nat.reduceSub, Nat.reduceMul, Nat.reduceLT, Nat.reduceLeDiff, ↓reduceIte, reduceCtorEq, List.reduceReplicate, Int.cast_ofNat_Int, Int.reduceEq, Int.reduceLT, Int.reduceLE, SV.ren, SV.renL, Cell.ren, Row.ren, renO, bk, back, outUpsFrom, Ints_ren]))
  (refine rgf_t _ (imp_frz _ _ 21 ⟨Cs M, 3⟩ (by simp only [St.hpF, lookR, Nat.reduceEqDiff, if_true, if_false, ↓reduceIte]) (by first | exact Ints_isG _ | exact Bools_isG _ | exact Cs_isG _ | (simp [Cell.isG]; done))) ?_; simp only [frzTm, SV.frz, SV.frzL, Cell.frz, frzHp, frzO, Ints_frz, Bools_frz, List.map_cons, List.map_nil, Nat.reduceEqDiff, if_true, if_false, ↓reduceIte])
  simp only [go_sem, Nat.reduceEqDiff, Nat.reduceAdd, Nat.reduceSub, Nat.reduceMul, Nat.reduceLT, Nat.reduceLeDiff, ↓reduceIte, reduceCtorEq, List.reduceReplicate, Int.cast_ofNat_Int, Int.reduceEq, Int.reduceLT, Int.reduceLE, decide_eq_false c, lendB, hCl, s1, s2, q2, hrem]
  repeat' (first
    | (apply cl_plain
       case hs => rfl
       case ha => (simp only [List.map_cons, List.map_nil, prepV, prepC, idx, hpL', lookR, Nat.reduceEqDiff, if_true, if_false]; rfl)
       case h => (first | exact v1 .. | exact v2 .. | exact nk .. | exact nv ..))
    | ((first | refine s1_id ?_ | refine swp_id ?_ | refine sops_id ?_ | refine s2_id ?_); simp only [decide_eq_false c, lendB, hCl, s1, s2, q2, hrem, dice, hca, Int.toNat_zero, Nat.sub_self, Nat.zero_mul, List.flatten_cons, List.flatten_nil, List.append_nil, List.cons_append, List.nil_append, List.set_cons_zero, List.set_cons_succ, List.take_succ_cons, List.take_zero, List.take_nil, List.length_cons, List.length_nil, go_sem, Nat.reduceEqDiff, Nat.reduceAdd, Nat.reduceSub, Nat.reduceMul, Nat.reduceLT, Nat.reduceLeDiff, ↓reduceIte, reduceCtorEq, List.reduceReplicate, Int.cast_ofNat_Int, Int.reduceEq, Int.reduceLT, Int.reduceLE, SV.ren, SV.renL, Cell.ren, Row.ren, renO, bk, back, outUpsFrom, Ints_ren]))
  refine w_loop (ι := Nat) (fun m => ⟨[(6, .one (.optr 0 0)), (7, .one (.gsl (Cs C) 0 l.length none)), (8, .one (.osl 1 0 l.length none)), (10, i1 u), (11, i1 U.length), (14, i1 W.length), (84, i1 l.length), (85, i1 m)], [(0, some ⟨[.gsl (Cs l) 0 l.length none, int n], 2⟩), (1, some ⟨Cs P, 3⟩)], 2⟩) (fun m => m ≤ l.length) (fun m => l.length - m) 0 ?_ (Nat.zero_le _) ?_
  · (refine imp_ren _ _ _ [(0, 1, ⟨[.gsl (Cs l) 0 l.length none, int n], 2⟩), (1, 2, ⟨Cs P, 3⟩)] (by simp) (by simp) (by simp) (Nat.le_of_ble_eq_true rfl) ?_ rfl (by simp only [List.forall_mem_cons, List.not_mem_nil, false_implies, implies_true, and_true, St.hpF, lookR, Nat.reduceEqDiff, if_true, if_false, ↓reduceIte, Cs_flat] <;> (repeat' apply And.intro) <;> (first | rfl | trivial)) (by simp only [List.forall_mem_cons, List.not_mem_nil, false_implies, implies_true, and_true, true_and, flat_cons, flat_nil, flat_ints, flat_bools, flat_app, Cell.refs, and_self, eq_self_iff_true, List.append_nil, Cs_flat]); simp only [List.map_cons, List.map_nil, List.forall_mem_cons, List.not_mem_nil, false_implies, implies_true, and_true, lk, slot, SV.ren, Cell.ren, toN, Nat.reduceEqDiff, if_true, if_false, ↓reduceIte, reduceCtorEq])
    all_goals ((repeat' apply And.intro) <;> (first | rfl | trivial))
  clear v1 v2 nk nv
  intro m hm
  simp only at hm ⊢
  rcases Nat.lt_or_ge m l.length with hlt | hge
  case inl =>
    have c : (m : Int) < (l.length : Int) := by omega
    have a1 := capply_spec l n P none (gN l m).i u (by omega) (by omega) hti.nr hV.ct
    rw [hop m hlt u hu0] at a1
    simp only [gr, hPl] at a1
    obtain ⟨g1, _⟩ := nd_f l m hlt (.sc (.int .i64 0))
    have cu : u = u := rfl
    simp only [go_sem, Nat.reduceEqDiff, Nat.reduceAdd, Nat.reduceSub, Nat.reduceMul, Nat.reduceLT, Nat.reduceLeDiff, ↓reduceIte, reduceCtorEq, List.reduceReplicate, Int.cast_ofNat_Int, Int.reduceEq, Int.reduceLT, Int.reduceLE, decide_eq_true c, lendB, g1, decide_eq_true cu]
    repeat' (first
    | with_reducible refine And.intro ?_ ?_
    | (intros; (try simp only [Bool.and_eq_true, Bool.or_eq_true, Bool.not_eq_true', Bool.not_eq_false', Bool.and_eq_false_iff, Bool.or_eq_false_iff, decide_eq_true_eq, decide_eq_false_iff_not] at *); omega)
    | (apply cl_show
       case ha => (simp only [List.map_cons, List.map_nil, prepV, prepC, idx, hpL', lookR, Nat.reduceEqDiff, if_true, if_false]; rfl)
       case hs => ((simp [snaps, SV.refs, Cell.refs, idx, hpL', lookR]) <;> (repeat' apply And.intro) <;> (first | exact Ints_isG _ | exact Cs_isG _))
       case h => (first | exact a1 ..)
       case hg => ((simp [SV.noG, SV.noGL, Cell.noG]) <;> (repeat' apply And.intro) <;> exact Ints_noG _))
    | ((first | refine s1_id ?_ | refine swp_id ?_ | refine sops_id ?_ | refine s2_id ?_); simp only [decide_eq_true c, lendB, g1, decide_eq_true cu, go_sem, Nat.reduceEqDiff, Nat.reduceAdd, Nat.reduceSub, Nat.reduceMul, Nat.reduceLT, Nat.reduceLeDiff, ↓reduceIte, reduceCtorEq, List.reduceReplicate, Int.cast_ofNat_Int, Int.reduceEq, Int.reduceLT, Int.reduceLE, SV.ren, SV.renL, Cell.ren, Row.ren, renO, bk, back, outUpsFrom, Ints_ren]))
    refine le_mk (m + 1) ?_ hlt (by omega)
    (refine imp_ren _ _ _ [(0, 0, ⟨[.gsl (Cs l) 0 l.length none, int n], 2⟩), (1, 1, ⟨Cs P, 3⟩)] (by simp) (by simp) (by simp) (Nat.le_of_ble_eq_true rfl) ?_ rfl (by simp only [List.forall_mem_cons, List.not_mem_nil, false_implies, implies_true, and_true, St.hpF, lookR, Nat.reduceEqDiff, if_true, if_false, ↓reduceIte, Cs_flat] <;> (repeat' apply And.intro) <;> (first | rfl | trivial)) (by simp only [List.forall_mem_cons, List.not_mem_nil, false_implies, implies_true, and_true, true_and, flat_cons, flat_nil, flat_ints, flat_bools, flat_app, Cell.refs, and_self, eq_self_iff_true, List.append_nil, Cs_flat]); simp only [List.map_cons, List.map_nil, List.forall_mem_cons, List.not_mem_nil, false_implies, implies_true, and_true, lk, slot, SV.ren, Cell.ren, toN, Nat.reduceEqDiff, if_true, if_false, ↓reduceIte, reduceCtorEq])
    all_goals ((repeat' apply And.intro) <;> (first | rfl | trivial | (simp only [Int.natCast_add]; done) | (simp only [Int.natCast_add]; rfl) | (simp only [Int.natCast_add]; trivial)))
  have c : ¬ (m : Int) < (l.length : Int) := by omega
  obtain rfl : m = l.length := by omega
  have hsh := fun i (hi : i < l.length) => ap_shut hC hi u hu0.1
  have h00 := (hC.ok 0 (by omega)).2
  have hSv := hC.set (k := 0) (gC C 0).mn 0 (by omega) (by decide)
  have s3 : (Cs C).set 2 (int 0) = Cs (C.set 0 ⟨(gC C 0).g, (gC C 0).mn, 0⟩) := Cs_setf C 0 2 _ _ (by omega) (by decide) rfl
  generalize C.set 0 ⟨(gC C 0).g, (gC C 0).mn, 0⟩ = S at *
  have hSl := hSv.len
  have c3 : (0 : Int) < (l.length : Int) := by omega
  simp only [go_sem, Nat.reduceEqDiff, Nat.reduceAdd, Nat.reduceSub, Nat.reduceMul, Nat.reduceLT, Nat.reduceLeDiff, ↓reduceIte, reduceCtorEq, List.reduceReplicate, Int.cast_ofNat_Int, Int.reduceEq, Int.reduceLT, Int.reduceLE, decide_eq_false c, lendB, s3]
  repeat' (first
    | with_reducible refine And.intro ?_ ?_
    | (intros; (try simp only [Bool.and_eq_true, Bool.or_eq_true, Bool.not_eq_true', Bool.not_eq_false', Bool.and_eq_false_iff, Bool.or_eq_false_iff, decide_eq_true_eq, decide_eq_false_iff_not] at *); omega)
    | ((first | refine s1_id ?_ | refine swp_id ?_ | refine sops_id ?_ | refine s2_id ?_); simp only [decide_eq_false c, lendB, s3, hca, Int.toNat_zero, Nat.sub_self, Nat.zero_mul, List.flatten_cons, List.flatten_nil, List.append_nil, List.cons_append, List.nil_append, List.set_cons_zero, List.set_cons_succ, List.take_succ_cons, List.take_zero, List.take_nil, List.length_cons, List.length_nil, go_sem, Nat.reduceEqDiff, Nat.reduceAdd, Nat.reduceSub, Nat.reduceMul, Nat.reduceLT, Nat.reduceLeDiff, ↓reduceIte, reduceCtorEq, List.reduceReplicate, Int.cast_ofNat_Int, Int.reduceEq, Int.reduceLT, Int.reduceLE, SV.ren, SV.renL, Cell.ren, Row.ren, renO, bk, back, outUpsFrom, Ints_ren]))
  refine w_loop (ι := Nat) (fun m => ⟨[(6, .one (.optr 0 0)), (10, i1 u), (11, i1 U.length), (14, i1 W.length), (17, .one (.osl 1 0 l.length none)), (111, i1 l.length), (112, i1 m)], [(0, some ⟨[.gsl (Cs l) 0 l.length none, int n], 2⟩), (1, some ⟨Cs S, 3⟩)], 2⟩) (fun m => m ≤ l.length) (fun m => l.length - m) 0 ?_ (Nat.zero_le _) ?_
  · (refine imp_ren _ _ _ [(0, 0, ⟨[.gsl (Cs l) 0 l.length none, int n], 2⟩), (1, 6, ⟨Cs S, 3⟩)] (by simp) (by simp) (by simp) (Nat.le_of_ble_eq_true rfl) ?_ rfl (by simp only [List.forall_mem_cons, List.not_mem_nil, false_implies, implies_true, and_true, St.hpF, lookR, Nat.reduceEqDiff, if_true, if_false, ↓reduceIte, Cs_flat] <;> (repeat' apply And.intro) <;> (first | rfl | trivial)) (by simp only [List.forall_mem_cons, List.not_mem_nil, false_implies, implies_true, and_true, true_and, flat_cons, flat_nil, flat_ints, flat_bools, flat_app, Cell.refs, and_self, eq_self_iff_true, List.append_nil, Cs_flat]); simp only [List.map_cons, List.map_nil, List.forall_mem_cons, List.not_mem_nil, false_implies, implies_true, and_true, lk, slot, SV.ren, Cell.ren, toN, Nat.reduceEqDiff, if_true, if_false, ↓reduceIte, reduceCtorEq])
    all_goals ((repeat' apply And.intro) <;> (first | rfl | trivial))
  intro m hm
  simp only at hm ⊢
  rcases Nat.lt_or_ge m l.length with hlt | hge
  case inl =>
    have c : (m : Int) < (l.length : Int) := by omega
    have a1 := capply_spec l n S none (gN l m).i u (by omega) (by omega) hti.nr hV.ct
    rw [hsh m hlt] at a1
    simp only [gr, hSl] at a1
    have a2 := ranc_spec l none n (gN l m).i (by omega) hti.nr
    have hap := anc_pos hV hlt
    generalize ancM l n (gN l m).i = Q at *
    obtain ⟨g1, _⟩ := nd_f l m hlt (.sc (.int .i64 0))
    have cq : ¬ (Q.length : Int) = 0 := by omega
    have cu : (0 : Int) = 0 := rfl
    simp only [go_sem, Nat.reduceEqDiff, Nat.reduceAdd, Nat.reduceSub, Nat.reduceMul, Nat.reduceLT, Nat.reduceLeDiff, ↓reduceIte, reduceCtorEq, List.reduceReplicate, Int.cast_ofNat_Int, Int.reduceEq, Int.reduceLT, Int.reduceLE, decide_eq_true c, lendB, g1, decide_eq_false cq, decide_eq_true cu]
    repeat' (first
    | with_reducible refine And.intro ?_ ?_
    | (unfold OKC; kernel_rfl)
    | (unfold EDG; kernel_rfl)
    | (intros; (try simp only [Bool.and_eq_true, Bool.or_eq_true, Bool.not_eq_true', Bool.not_eq_false', Bool.and_eq_false_iff, Bool.or_eq_false_iff, decide_eq_true_eq, decide_eq_false_iff_not] at *); omega)
    | (apply cg_tp
       case hl => rfl
       case ha => (simp only [List.map_cons, List.map_nil, prepV, prepC, idx, hpL', lookR, Nat.reduceEqDiff, if_true, if_false]; rfl)
       case hs => rfl
       case h => (first | exact a1 .. | exact a2 ..))
    | (apply cl_show
       case ha => (simp only [List.map_cons, List.map_nil, prepV, prepC, idx, hpL', lookR, Nat.reduceEqDiff, if_true, if_false]; rfl)
       case hs => ((simp [snaps, SV.refs, Cell.refs, idx, hpL', lookR]) <;> (repeat' apply And.intro) <;> (first | exact Ints_isG _ | exact Cs_isG _))
       case h => (first | exact a1 .. | exact a2 ..)
       case hg => ((simp [SV.noG, SV.noGL, Cell.noG]) <;> (repeat' apply And.intro) <;> exact Ints_noG _))
    | ((first | refine s1_id ?_ | refine swp_id ?_ | refine sops_id ?_ | refine s2_id ?_); simp only [decide_eq_true c, lendB, g1, decide_eq_false cq, decide_eq_true cu, go_sem, Nat.reduceEqDiff, Nat.reduceAdd, Nat.reduceSub, Nat.reduceMul, Nat.reduceLT, Nat.reduceLeDiff, ↓reduceIte, reduceCtorEq, List.reduceReplicate, Int.cast_ofNat_Int, Int.reduceEq, Int.reduceLT, Int.reduceLE, SV.ren, SV.renL, Cell.ren, Row.ren, renO, bk, back, outUpsFrom, Ints_ren]))
    refine le_mk (m + 1) ?_ hlt (by omega)
    (refine imp_ren _ _ _ [(0, 0, ⟨[.gsl (Cs l) 0 l.length none, int n], 2⟩), (1, 1, ⟨Cs S, 3⟩)] (by simp) (by simp) (by simp) (Nat.le_of_ble_eq_true rfl) ?_ rfl (by simp only [List.forall_mem_cons, List.not_mem_nil, false_implies, implies_true, and_true, St.hpF, lookR, Nat.reduceEqDiff, if_true, if_false, ↓reduceIte, Cs_flat] <;> (repeat' apply And.intro) <;> (first | rfl | trivial)) (by simp only [List.forall_mem_cons, List.not_mem_nil, false_implies, implies_true, and_true, true_and, flat_cons, flat_nil, flat_ints, flat_bools, flat_app, Cell.refs, and_self, eq_self_iff_true, List.append_nil, Cs_flat]); simp only [List.map_cons, List.map_nil, List.forall_mem_cons, List.not_mem_nil, false_implies, implies_true, and_true, lk, slot, SV.ren, Cell.ren, toN, Nat.reduceEqDiff, if_true, if_false, ↓reduceIte, reduceCtorEq])
    all_goals ((repeat' apply And.intro) <;> (first | rfl | trivial | (simp only [Int.natCast_add]; done) | (simp only [Int.natCast_add]; rfl) | (simp only [Int.natCast_add]; trivial)))
  have c : ¬ (m : Int) < (l.length : Int) := by omega
  by_cases hU0 : U.length = 0
  · have hW0 : (W.length : Int) = 0 := by have := hmore hU0; omega
    have cU : ¬ (0 : Int) < (U.length : Int) := by omega
    simp only [go_sem, Nat.reduceEqDiff, Nat.reduceAdd, Nat.reduceSub, Nat.reduceMul, Nat.reduceLT, Nat.reduceLeDiff, ↓reduceIte, reduceCtorEq, List.reduceReplicate, Int.cast_ofNat_Int, Int.reduceEq, Int.reduceLT, Int.reduceLE, decide_eq_false c, lendB, decide_eq_false cU, decide_eq_true hW0]
    repeat' (first
    | (apply cg_tp
       case hl => rfl
       case ha => (simp only [List.map_cons, List.map_nil, prepV, prepC, idx, hpL', lookR, Nat.reduceEqDiff, if_true, if_false]; rfl)
       case hs => rfl
       case h => (first | exact sane_spec ..))
    | ((first | refine s1_id ?_ | refine swp_id ?_ | refine sops_id ?_ | refine s2_id ?_); simp only [decide_eq_false c, lendB, decide_eq_false cU, decide_eq_true hW0, go_sem, Nat.reduceEqDiff, Nat.reduceAdd, Nat.reduceSub, Nat.reduceMul, Nat.reduceLT, Nat.reduceLeDiff, ↓reduceIte, reduceCtorEq, List.reduceReplicate, Int.cast_ofNat_Int, Int.reduceEq, Int.reduceLT, Int.reduceLE, SV.ren, SV.renL, Cell.ren, Row.ren, renO, bk, back, outUpsFrom, Ints_ren])
    | (apply fs_nil <;> (try simp only [go_sem, resV, resS, SV.ren, SV.renL, Cell.ren, St.tmF, St.hpF, idx, renO, Row.ren, evS, slot, lookR, Nat.reduceEqDiff, ↓reduceIte, reduceCtorEq, if_true, if_false, Option.getD_some, Option.getD_none, List.map_cons, List.map_nil, sLoad, readAt, readNeed, Ints_ren, Ints_length, Ints_getD, and_true, true_and, List.getD_cons_zero, List.getD_cons_succ]) <;> (try rfl)))
  · have cU : (0 : Int) < (U.length : Int) := by omega
    simp only [go_sem, Nat.reduceEqDiff, Nat.reduceAdd, Nat.reduceSub, Nat.reduceMul, Nat.reduceLT, Nat.reduceLeDiff, ↓reduceIte, reduceCtorEq, List.reduceReplicate, Int.cast_ofNat_Int, Int.reduceEq, Int.reduceLT, Int.reduceLE, decide_eq_false c, lendB, decide_eq_true cU]
    repeat' (first
    | (apply cg_tp
       case hl => rfl
       case ha => (simp only [List.map_cons, List.map_nil, prepV, prepC, idx, hpL', lookR, Nat.reduceEqDiff, if_true, if_false]; rfl)
       case hs => rfl
       case h => (first | exact sane_spec ..))
    | ((first | refine s1_id ?_ | refine swp_id ?_ | refine sops_id ?_ | refine s2_id ?_); simp only [decide_eq_false c, lendB, decide_eq_true cU, go_sem, Nat.reduceEqDiff, Nat.reduceAdd, Nat.reduceSub, Nat.reduceMul, Nat.reduceLT, Nat.reduceLeDiff, ↓reduceIte, reduceCtorEq, List.reduceReplicate, Int.cast_ofNat_Int, Int.reduceEq, Int.reduceLT, Int.reduceLE, SV.ren, SV.renL, Cell.ren, Row.ren, renO, bk, back, outUpsFrom, Ints_ren])
    | (apply fs_nil <;> (try simp only [go_sem, resV, resS, SV.ren, SV.renL, Cell.ren, St.tmF, St.hpF, idx, renO, Row.ren, evS, slot, lookR, Nat.reduceEqDiff, ↓reduceIte, reduceCtorEq, if_true, if_false, Option.getD_some, Option.getD_none, List.map_cons, List.map_nil, sLoad, readAt, readNeed, Ints_ren, Ints_length, Ints_getD, and_true, true_and, List.getD_cons_zero, List.getD_cons_succ]) <;> (try rfl)))
theorem open_main (g0 : List Cell) (s0 : GTy Try.prog 12 36 g0) (g1 : List Cell) (s1 : GTy Try.prog 12 37 g1) : FnSpec Try.prog 4 [svOf Try.prog 36 g0, svOf Try.prog 37 g1] [] (b1 true) [] := by
  obtain ⟨l, rfl, hl, hr⟩ := gty_ints (n := 10) Try.underlying36 Try.underlying3 s0
  obtain ⟨a, rfl, ha⟩ := gty_int (n := 11) Try.underlying37 s1
  simp only [svOf, Try.underlying36, Try.underlying37, List.headD_cons]
  simp only [Lit.wf, Bool.and_eq_true, decide_eq_true_eq] at ha
  exact open_spec l a ⟨ha.1, Int.lt_of_le_of_lt ha.2 (by decide)⟩ hr
end Go.Proofs.Ytnlgboiooabbiaa
