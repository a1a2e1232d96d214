/- Contracts of functions, told of values, on the way to WorkloadExact. -/
import Derived.Test.YtdpekegikbbeoaaTyDa
import Derived.Test.YtdpekegikbbeoaaDiceDa
import Derived.Test.YtdpekegikbbeoaaWk8Da
-- NEWGO
-- PRUNE: cl_lendx cg_tp cg_ts cg_any cg_show cl_show cl_use
namespace Go.Proofs.Ytdpekegikbbeoaa
set_option linter.unusedVariables false
set_option linter.unusedSimpArgs false
open Go.Proofs.Ytdpekegikbbeoaa.Sh
set_option maxRecDepth 20000
theorem Stps_mem {l : List Stp} {c : Cell} (h : c ∈ Stps l) : ∃ n, c = int n := by
  unfold Stps at h
  rw [List.mem_flatMap] at h
  obtain ⟨s, _, h⟩ := h
  simp only [stc, List.mem_cons, List.not_mem_nil, or_false] at h
  rcases h with h | h | h | h <;> exact ⟨_, h⟩
theorem Stps_map (f : Cell → Cell) (hf : ∀ n, f (int n) = int n) (l : List Stp) : (Stps l).map f = Stps l := by
  conv => rhs; rw [← List.map_id (Stps l)]
  exact List.map_congr_left (fun c hc => by obtain ⟨n, rfl⟩ := Stps_mem hc; exact hf n)
theorem Stps_ren (g : Nat → Option Nat) (l : List Stp) : (Stps l).map (Cell.ren g) = Stps l := Stps_map _ (fun _ => rfl) l
theorem Stps_frz (r : Nat) (cs : List Cell) (l : List Stp) : (Stps l).map (Cell.frz r cs) = Stps l := Stps_map _ (fun _ => rfl) l
theorem Stps_isG (l : List Stp) : ∀ c ∈ Stps l, c.isG = true := fun c hc => by obtain ⟨n, rfl⟩ := Stps_mem hc; rfl
theorem Stps_flat (l : List Stp) : flat (Stps l) := fun c hc => by obtain ⟨n, rfl⟩ := Stps_mem hc; rfl
theorem Stps_app (l : List Stp) (s : Stp) : Stps l ++ stc s = Stps (l ++ [s]) := by simp [Stps]
theorem Pgs_map (f : Cell → Cell) (hf : ∀ st, f (pgc st) = pgc st) (p : List (List Stp)) : (Pgs p).map f = Pgs p := by
  unfold Pgs
  rw [List.map_map]
  exact List.map_congr_left (fun c _ => hf c)
theorem Pgs_ren (g : Nat → Option Nat) (p : List (List Stp)) : (Pgs p).map (Cell.ren g) = Pgs p := Pgs_map _ (fun _ => rfl) p
theorem Pgs_frz (r : Nat) (cs : List Cell) (p : List (List Stp)) : (Pgs p).map (Cell.frz r cs) = Pgs p := Pgs_map _ (fun _ => rfl) p
theorem Pgs_isG (p : List (List Stp)) : ∀ c ∈ Pgs p, c.isG = true := fun c hc => by obtain ⟨x, _, rfl⟩ := List.mem_map.1 hc; rfl
theorem Pgs_flat (p : List (List Stp)) : flat (Pgs p) := fun c hc => by obtain ⟨x, _, rfl⟩ := List.mem_map.1 hc; rfl
theorem Pgs_app (p : List (List Stp)) (st : List Stp) : Pgs p ++ [pgc st] = Pgs (p ++ [st]) := by simp [Pgs]
def dPr (l : List Int) (n : Int) : Nat → List Stp → Nat → List Stp × Nat
  | 0, acc, i => (acc, i)
  | k + 1, acc, i => dPr l n k (acc ++ [(dStep l i n).1]) (dStep l i n).2
def dPg (l : List Int) (n : Int) : Nat → List (List Stp) → Nat → List (List Stp) × Nat
  | 0, out, i => (out, i)
  | k + 1, out, i => dPg l n k (out ++ [(dPr l n (1 + nxV l i 5).toNat [] (nxA l i 5)).1]) (dPr l n (1 + nxV l i 5).toNat [] (nxA l i 5)).2
def dPs (l : List Int) (i : Nat) : List (List Stp) × Nat := dPg l (1 + nxV l i 4) (1 + nxV l i 4).toNat [] (nxA l i 4)
def inH (l : List Int) (out : List (List Stp)) (s : Nat × List Stp × Nat) : List (Nat × Option Row) :=
  if s.1 = 0 then [(0, some (dice l s.2.2)), (1, some ⟨Pgs out, 1⟩), (2, some ⟨[pgc s.2.1], 1⟩)]
  else if s.2.1 = [] then [(0, some (dice l s.2.2)), (1, some ⟨Pgs out, 1⟩), (2, some ⟨[.sc (.slice none 0 0)], 1⟩)]
  else [(0, some (dice l s.2.2)), (1, some ⟨Pgs out, 1⟩), (2, some ⟨[.osl 3 0 s.2.1.length none], 1⟩), (3, some ⟨Stps s.2.1, 4⟩)]
set_option maxHeartbeats 4000000 in
theorem programs_spec (l : List Int) (i : Nat) (hl6 : l.length ≤ 600) (hl : ∀ x ∈ l, -9223372036854775808 ≤ x ∧ x ≤ 9223372036854775807) :
    FnSpec Try.prog 14 [dp] [dice l i] (gp (dPs l i).1 none) [some (dice l (dPs l i).2)] := by
  have h4 := nxV_rng l i 4 (by omega)
  have e0 : dPs l i = dPg l (1 + nxV l i 4) (1 + nxV l i 4).toNat [] (nxA l i 4) := rfl
  generalize dPs l i = T at *
  refine fnspec_of mixed TT_ok TT_cl ⟨fun _ => false, lends, 1, fun _ => false, fun _ => false⟩ Try.func14 rfl (by kernel_rfl) rfl 36 rfl [.tmp 2] rfl ?_
  simp only [go_sem, Nat.reduceEqDiff, Nat.reduceAdd, Nat.reduceSub, Nat.reduceMul, Nat.reduceLT, Nat.reduceLeDiff, ↓reduceIte, reduceCtorEq, List.reduceReplicate, Int.cast_ofNat_Int, Int.reduceEq, Int.reduceLT, Int.reduceLE, lends]
  repeat' (first
    | with_reducible refine And.intro ?_ ?_
    | (unfold OKC; kernel_rfl)
    | (apply okc_up <;> (first | ((repeat (first | exact Sub.nil | apply Sub.gfp | apply Sub.same)); done) | kernel_rfl))
    | (unfold EDG; kernel_rfl)
    | (intros; (try simp only [Bool.and_eq_true, Bool.or_eq_true, Bool.not_eq_true', Bool.not_eq_false', Bool.and_eq_false_iff, Bool.or_eq_false_iff, decide_eq_true_eq, decide_eq_false_iff_not] at *); omega)
    | (refine gt_if (fun h => ?_) (fun h => ?_) <;> (try simp only [h]))
    | (refine pt_if (fun h => ?_) (fun h => ?_) <;> (try simp only [h]))
    | (refine cd_if (fun h => ?_) (fun h => ?_) <;> (try simp only [h]))
    | (apply cl_plain
       case hs => rfl
       case ha => (simp only [List.map_cons, List.map_nil, prepV, prepC, idx, hpL', lookR, Nat.reduceEqDiff, if_true, if_false]; rfl)
       case h => (first | exact next_spec _ _ _ hl6 hl (by omega)))
    | (apply cl_lend
       case hr => (simp only [List.map_cons, List.map_nil, hpL', lookR, Nat.reduceEqDiff, if_true, if_false]; first | exact map1 _ | exact map2 _ _ | exact map3 _ _ _)
       case ha => (simp only [List.map_cons, List.map_nil, prepV, prepC, idx, hpL', lookR, Nat.reduceEqDiff, if_true, if_false]; rfl)
       case hs => rfl
       case hn => decide
       case h => (first | exact next_spec _ _ _ hl6 hl (by omega))
       case hf => (simp only [List.forall_mem_cons, List.not_mem_nil, false_implies, implies_true, and_true, true_and, flat_cons, flat_nil, flat_ints, flat_bools, flat_app, Cell.refs, and_self, eq_self_iff_true, List.append_nil])
       case hl => (simp only [List.length_cons, List.length_nil]; decide))
    | ((first | refine s1_id ?_ | refine swp_id ?_ | refine sops_id ?_ | refine s2_id ?_); simp only [lends, go_sem, Nat.reduceEqDiff, Nat.reduceAdd, Nat.reduceSub, Nat.reduceMul, Nat.reduceLT, Nat.reduceLeDiff, ↓reduceIte, reduceCtorEq, List.reduceReplicate, Int.cast_ofNat_Int, Int.reduceEq, Int.reduceLT, Int.reduceLE, SV.ren, SV.renL, Cell.ren, Row.ren, renO, bk, back, outUpsFrom, Ints_ren]))
  generalize nxA l i 4 = i0 at *
  generalize hn : 1 + nxV l i 4 = n at *
  refine w_loop (ι := Nat × List (List Stp) × Nat) (fun s => ⟨[(0, dp), (3, i1 n), (4, .one (.osl 1 0 s.2.1.length none)), (5, i1 s.1)], [(0, some (dice l s.2.2)), (1, some ⟨Pgs s.2.1, 1⟩)], 2⟩) (fun s => s.1 ≤ n.toNat ∧ s.2.1.length = s.1 ∧ dPg l n (n.toNat - s.1) s.2.1 s.2.2 = T) (fun s => n.toNat - s.1) (0, [], i0) ?_ ⟨Nat.zero_le _, rfl, e0.symm⟩ ?_
  · refine Imp.trans (imp_nil _ _ 4 1 rfl) ?_
    (refine imp_ren _ _ _ [(0, 0, dice l i0), (1, 8, ⟨[], 1⟩)] (by simp) (by simp) (by simp) (Nat.le_of_ble_eq_true rfl) ?_ rfl (by simp only [List.forall_mem_cons, List.not_mem_nil, false_implies, implies_true, and_true, St.hpF, lookR, Nat.reduceEqDiff, if_true, if_false, ↓reduceIte, dice, Pgs_flat] <;> (repeat' apply And.intro) <;> (first | rfl | trivial)) (by simp only [List.forall_mem_cons, List.not_mem_nil, false_implies, implies_true, and_true, true_and, flat_cons, flat_nil, flat_ints, flat_bools, flat_app, Cell.refs, and_self, eq_self_iff_true, List.append_nil, dice, Pgs_flat]); simp only [List.map_cons, List.map_nil, List.forall_mem_cons, List.not_mem_nil, false_implies, implies_true, and_true, lk, slot, SV.ren, Cell.ren, toN, Nat.reduceEqDiff, if_true, if_false, ↓reduceIte, reduceCtorEq])
    all_goals ((repeat' apply And.intro) <;> (first | rfl | trivial))
  rintro ⟨j, out, i1'⟩ ⟨hj, ho, hT⟩
  simp only at hj ho hT ⊢
  rcases Nat.lt_or_ge j n.toNat with hlt | hge
  case inr =>
    have hlt' : ¬ (j : Int) < n := by omega
    have e : n.toNat - j = 0 := by omega
    rw [e] at hT
    simp only [dPg] at hT
    simp only [go_sem, Nat.reduceEqDiff, Nat.reduceAdd, Nat.reduceSub, Nat.reduceMul, Nat.reduceLT, Nat.reduceLeDiff, ↓reduceIte, reduceCtorEq, List.reduceReplicate, Int.cast_ofNat_Int, Int.reduceEq, Int.reduceLT, Int.reduceLE, decide_eq_false hlt', ← hT]
    repeat' (first
    | with_reducible refine And.intro ?_ ?_
    | (unfold OKC; kernel_rfl)
    | (apply okc_up <;> (first | ((repeat (first | exact Sub.nil | apply Sub.gfp | apply Sub.same)); done) | kernel_rfl))
    | (unfold EDG; kernel_rfl)
    | (intros; (try simp only [Bool.and_eq_true, Bool.or_eq_true, Bool.not_eq_true', Bool.not_eq_false', Bool.and_eq_false_iff, Bool.or_eq_false_iff, decide_eq_true_eq, decide_eq_false_iff_not] at *); omega)
    | (refine gt_if (fun h => ?_) (fun h => ?_) <;> (try simp only [h]))
    | (refine pt_if (fun h => ?_) (fun h => ?_) <;> (try simp only [h]))
    | (refine cd_if (fun h => ?_) (fun h => ?_) <;> (try simp only [h]))
    | (apply cl_plain
       case hs => rfl
       case ha => (simp only [List.map_cons, List.map_nil, prepV, prepC, idx, hpL', lookR, Nat.reduceEqDiff, if_true, if_false]; rfl)
       case h => (first | fail))
    | (apply cl_lend
       case hr => (simp only [List.map_cons, List.map_nil, hpL', lookR, Nat.reduceEqDiff, if_true, if_false]; first | exact map1 _ | exact map2 _ _ | exact map3 _ _ _)
       case ha => (simp only [List.map_cons, List.map_nil, prepV, prepC, idx, hpL', lookR, Nat.reduceEqDiff, if_true, if_false]; rfl)
       case hs => rfl
       case hn => decide
       case h => (first | fail)
       case hf => (simp only [List.forall_mem_cons, List.not_mem_nil, false_implies, implies_true, and_true, true_and, flat_cons, flat_nil, flat_ints, flat_bools, flat_app, Cell.refs, and_self, eq_self_iff_true, List.append_nil])
       case hl => (simp only [List.length_cons, List.length_nil]; decide))
    | ((first | refine s1_id ?_ | refine swp_id ?_ | refine sops_id ?_ | refine s2_id ?_); simp only [decide_eq_false hlt', go_sem, Nat.reduceEqDiff, Nat.reduceAdd, Nat.reduceSub, Nat.reduceMul, Nat.reduceLT, Nat.reduceLeDiff, ↓reduceIte, reduceCtorEq, List.reduceReplicate, Int.cast_ofNat_Int, Int.reduceEq, Int.reduceLT, Int.reduceLE, SV.ren, SV.renL, Cell.ren, Row.ren, renO, bk, back, outUpsFrom, Ints_ren]))
    refine fs_frz 1 ⟨Pgs out, 1⟩ (by simp only [St.hpF, lookR, Nat.reduceEqDiff, if_true, if_false, ↓reduceIte]) (Pgs_isG out) ?_
    simp only [frzTm, SV.frz, SV.frzL, Cell.frz, frzHp, frzO, Ints_frz, Pgs_frz, dice, List.map_cons, List.map_nil, Nat.reduceEqDiff, if_true, if_false, ↓reduceIte]
    (refine fs_flat [(0, dice l i1')] (by simp) (by simp only [List.map_cons, List.map_nil]; decide) (by simp only [go_sem, resV, resS, SV.ren, SV.renL, Cell.ren, St.tmF, St.hpF, idx, renO, Row.ren, evS, slot, lookR, Nat.reduceEqDiff, ↓reduceIte, reduceCtorEq, if_true, if_false, Option.getD_some, Option.getD_none, List.map_cons, List.map_nil, sLoad, readAt, readNeed, Ints_ren, Ints_length, Ints_getD, and_true, true_and, List.getD_cons_zero, List.getD_cons_succ]; try decide) ?_ (by simp only [List.forall_mem_cons, List.not_mem_nil, false_implies, implies_true, and_true, St.hpF, lookR, Nat.reduceEqDiff, if_true, if_false, ↓reduceIte, dice] <;> (repeat' apply And.intro) <;> (first | rfl | trivial)) (by simp only [List.forall_mem_cons, List.not_mem_nil, false_implies, implies_true, and_true, true_and, flat_cons, flat_nil, flat_ints, flat_bools, flat_app, Cell.refs, and_self, eq_self_iff_true, List.append_nil, dice]) ?_ <;> (try simp only [go_sem, resV, resS, SV.ren, SV.renL, Cell.ren, St.tmF, St.hpF, idx, renO, Row.ren, evS, slot, lookR, Nat.reduceEqDiff, ↓reduceIte, reduceCtorEq, if_true, if_false, Option.getD_some, Option.getD_none, List.map_cons, List.map_nil, sLoad, readAt, readNeed, Ints_ren, Ints_length, Ints_getD, and_true, true_and, List.getD_cons_zero, List.getD_cons_succ]) <;> (try rfl))
  have hlt' : (j : Int) < n := by omega
  have h5 := nxV_rng l i1' 5 (by omega)
  obtain ⟨m, hm⟩ : ∃ m, n.toNat - j = m + 1 := ⟨n.toNat - j - 1, by omega⟩
  rw [hm] at hT
  simp only [dPg] at hT
  simp only [go_sem, Nat.reduceEqDiff, Nat.reduceAdd, Nat.reduceSub, Nat.reduceMul, Nat.reduceLT, Nat.reduceLeDiff, ↓reduceIte, reduceCtorEq, List.reduceReplicate, Int.cast_ofNat_Int, Int.reduceEq, Int.reduceLT, Int.reduceLE, decide_eq_true hlt', lends]
  repeat' (first
    | with_reducible refine And.intro ?_ ?_
    | (unfold OKC; kernel_rfl)
    | (apply okc_up <;> (first | ((repeat (first | exact Sub.nil | apply Sub.gfp | apply Sub.same)); done) | kernel_rfl))
    | (unfold EDG; kernel_rfl)
    | (intros; (try simp only [Bool.and_eq_true, Bool.or_eq_true, Bool.not_eq_true', Bool.not_eq_false', Bool.and_eq_false_iff, Bool.or_eq_false_iff, decide_eq_true_eq, decide_eq_false_iff_not] at *); omega)
    | (refine gt_if (fun h => ?_) (fun h => ?_) <;> (try simp only [h]))
    | (refine pt_if (fun h => ?_) (fun h => ?_) <;> (try simp only [h]))
    | (refine cd_if (fun h => ?_) (fun h => ?_) <;> (try simp only [h]))
    | (apply cl_plain
       case hs => rfl
       case ha => (simp only [List.map_cons, List.map_nil, prepV, prepC, idx, hpL', lookR, Nat.reduceEqDiff, if_true, if_false]; rfl)
       case h => (first | exact next_spec _ _ _ hl6 hl (by omega)))
    | (apply cl_lend
       case hr => (simp only [List.map_cons, List.map_nil, hpL', lookR, Nat.reduceEqDiff, if_true, if_false]; first | exact map1 _ | exact map2 _ _ | exact map3 _ _ _)
       case ha => (simp only [List.map_cons, List.map_nil, prepV, prepC, idx, hpL', lookR, Nat.reduceEqDiff, if_true, if_false]; rfl)
       case hs => rfl
       case hn => decide
       case h => (first | exact next_spec _ _ _ hl6 hl (by omega))
       case hf => (simp only [List.forall_mem_cons, List.not_mem_nil, false_implies, implies_true, and_true, true_and, flat_cons, flat_nil, flat_ints, flat_bools, flat_app, Cell.refs, and_self, eq_self_iff_true, List.append_nil])
       case hl => (simp only [List.length_cons, List.length_nil]; decide))
    | ((first | refine s1_id ?_ | refine swp_id ?_ | refine sops_id ?_ | refine s2_id ?_); simp only [decide_eq_true hlt', lends, go_sem, Nat.reduceEqDiff, Nat.reduceAdd, Nat.reduceSub, Nat.reduceMul, Nat.reduceLT, Nat.reduceLeDiff, ↓reduceIte, reduceCtorEq, List.reduceReplicate, Int.cast_ofNat_Int, Int.reduceEq, Int.reduceLT, Int.reduceLE, SV.ren, SV.renL, Cell.ren, Row.ren, renO, bk, back, outUpsFrom, Ints_ren]))
  generalize nxA l i1' 5 = i2 at *
  have hK : (1 : Int) + nxV l i1' 5 = ((1 + nxV l i1' 5).toNat : Nat) := by omega
  have hK5 : 1 ≤ (1 + nxV l i1' 5).toNat ∧ (1 + nxV l i1' 5).toNat ≤ 5 := by omega
  rw [hK]
  generalize (1 + nxV l i1' 5).toNat = K at *
  generalize hR : dPr l n K [] i2 = R at *
  refine w_loop (ι := Nat × List Stp × Nat) (fun s => ⟨[(0, dp), (3, i1 n), (4, .one (.osl 1 0 out.length none)), (5, i1 j), (6, .one (.optr 2 0)), (7, i1 s.1)], inH l out s, 4⟩) (fun s => s.1 ≤ 5 ∧ s.2.1.length + s.1 = K ∧ dPr l n s.1 s.2.1 s.2.2 = R) (fun s => s.1) (K, [], i2) ?_ ⟨hK5.2, by simp, hR⟩ ?_
  · have h0 : inH l out (K, [], i2) = [(0, some (dice l i2)), (1, some ⟨Pgs out, 1⟩), (2, some ⟨[.sc (.slice none 0 0)], 1⟩)] := by
      unfold inH; rw [if_neg (by show ¬ K = 0; omega), if_pos rfl]
    rw [h0]
    (refine imp_ren _ _ _ [(0, 0, dice l i2), (1, 1, ⟨Pgs out, 1⟩), (2, 5, ⟨[.sc (.slice none 0 0)], 1⟩)] (by simp) (by simp) (by simp) (Nat.le_of_ble_eq_true rfl) ?_ rfl (by simp only [List.forall_mem_cons, List.not_mem_nil, false_implies, implies_true, and_true, St.hpF, lookR, Nat.reduceEqDiff, if_true, if_false, ↓reduceIte, dice, Pgs_flat] <;> (repeat' apply And.intro) <;> (first | rfl | trivial)) (by simp only [List.forall_mem_cons, List.not_mem_nil, false_implies, implies_true, and_true, true_and, flat_cons, flat_nil, flat_ints, flat_bools, flat_app, Cell.refs, and_self, eq_self_iff_true, List.append_nil, dice, Pgs_flat]); simp only [List.map_cons, List.map_nil, List.forall_mem_cons, List.not_mem_nil, false_implies, implies_true, and_true, lk, slot, SV.ren, Cell.ren, toN, Nat.reduceEqDiff, if_true, if_false, ↓reduceIte, reduceCtorEq])
    all_goals ((repeat' apply And.intro) <;> (first | rfl | trivial))
  have hn4 : 1 ≤ n ∧ n ≤ 4 := by omega
  clear hK h5 h4
  rintro ⟨k, acc, i3⟩ ⟨hk, ha, hP⟩
  simp only at hk ha hP ⊢
  rcases Nat.eq_zero_or_pos k with hk0 | hk0
  · subst hk0
    have hlt2 : ¬ (0 : Int) < ((0 : Nat) : Int) := by omega
    have e : inH l out (0, acc, i3) = [(0, some (dice l i3)), (1, some ⟨Pgs out, 1⟩), (2, some ⟨[pgc acc], 1⟩)] := by unfold inH; rw [if_pos rfl]
    rw [e]
    simp only [dPr] at hP
    rw [← hP] at hT
    have hpl := Pgs_len out
    simp only [go_sem, Nat.reduceEqDiff, Nat.reduceAdd, Nat.reduceSub, Nat.reduceMul, Nat.reduceLT, Nat.reduceLeDiff, ↓reduceIte, reduceCtorEq, List.reduceReplicate, Int.cast_ofNat_Int, Int.reduceEq, Int.reduceLT, Int.reduceLE, decide_eq_false hlt2]
    have htp : List.take out.length (Pgs out) = Pgs out := List.take_of_length_le (by omega)
    repeat' (first
    | with_reducible refine And.intro ?_ ?_
    | (unfold OKC; kernel_rfl)
    | (apply okc_up <;> (first | ((repeat (first | exact Sub.nil | apply Sub.gfp | apply Sub.same)); done) | kernel_rfl))
    | (unfold EDG; kernel_rfl)
    | (intros; (try simp only [Bool.and_eq_true, Bool.or_eq_true, Bool.not_eq_true', Bool.not_eq_false', Bool.and_eq_false_iff, Bool.or_eq_false_iff, decide_eq_true_eq, decide_eq_false_iff_not] at *); omega)
    | (refine gt_if (fun h => ?_) (fun h => ?_) <;> (try simp only [h]))
    | (refine pt_if (fun h => ?_) (fun h => ?_) <;> (try simp only [h]))
    | (refine cd_if (fun h => ?_) (fun h => ?_) <;> (try simp only [h]))
    | (apply cl_plain
       case hs => rfl
       case ha => (simp only [List.map_cons, List.map_nil, prepV, prepC, idx, hpL', lookR, Nat.reduceEqDiff, if_true, if_false]; rfl)
       case h => (first | fail))
    | (apply cl_lend
       case hr => (simp only [List.map_cons, List.map_nil, hpL', lookR, Nat.reduceEqDiff, if_true, if_false]; first | exact map1 _ | exact map2 _ _ | exact map3 _ _ _)
       case ha => (simp only [List.map_cons, List.map_nil, prepV, prepC, idx, hpL', lookR, Nat.reduceEqDiff, if_true, if_false]; rfl)
       case hs => rfl
       case hn => decide
       case h => (first | fail)
       case hf => (simp only [List.forall_mem_cons, List.not_mem_nil, false_implies, implies_true, and_true, true_and, flat_cons, flat_nil, flat_ints, flat_bools, flat_app, Cell.refs, and_self, eq_self_iff_true, List.append_nil])
       case hl => (simp only [List.length_cons, List.length_nil]; decide))
    | ((first | refine s1_id ?_ | refine swp_id ?_ | refine sops_id ?_ | refine s2_id ?_); simp only [decide_eq_false hlt2, hpl, htp, List.flatten_cons, List.flatten_nil, List.cons_append, List.nil_append, List.append_nil, List.set_cons_zero, List.set_cons_succ, List.length_cons, List.length_nil, List.take_succ_cons, List.take_zero, go_sem, Nat.reduceEqDiff, Nat.reduceAdd, Nat.reduceSub, Nat.reduceMul, Nat.reduceLT, Nat.reduceLeDiff, ↓reduceIte, reduceCtorEq, List.reduceReplicate, Int.cast_ofNat_Int, Int.reduceEq, Int.reduceLT, Int.reduceLE, SV.ren, SV.renL, Cell.ren, Row.ren, renO, bk, back, outUpsFrom, Ints_ren]))
    refine le_mk (j + 1, out ++ [acc], i3) ?_ ⟨by show j + 1 ≤ n.toNat; omega, by simp [ho], by
      have e2 : n.toNat - (j + 1) = m := by omega
      show dPg l n (n.toNat - (j + 1)) (out ++ [acc]) i3 = T
      rw [e2]; exact hT⟩ (by show n.toNat - (j + 1) < n.toNat - j; omega)
    have hap := Pgs_app out acc
    (refine imp_ren _ _ _ [(0, 0, dice l i3), (1, 9, ⟨Pgs (out ++ [acc]), 1⟩)] (by simp) (by simp) (by simp) (Nat.le_of_ble_eq_true rfl) ?_ rfl (by simp only [List.forall_mem_cons, List.not_mem_nil, false_implies, implies_true, and_true, St.hpF, lookR, Nat.reduceEqDiff, if_true, if_false, ↓reduceIte, dice, Pgs_flat, htp, hap] <;> (repeat' apply And.intro) <;> (first | rfl | trivial)) (by simp only [List.forall_mem_cons, List.not_mem_nil, false_implies, implies_true, and_true, true_and, flat_cons, flat_nil, flat_ints, flat_bools, flat_app, Cell.refs, and_self, eq_self_iff_true, List.append_nil, dice, Pgs_flat, htp, hap]); simp only [List.map_cons, List.map_nil, List.forall_mem_cons, List.not_mem_nil, false_implies, implies_true, and_true, lk, slot, SV.ren, Cell.ren, toN, Nat.reduceEqDiff, if_true, if_false, ↓reduceIte, reduceCtorEq])
    all_goals ((repeat' apply And.intro) <;> (first | rfl | trivial | (simp only [List.length_append, List.length_cons, List.length_nil, Int.natCast_add]; done) | (simp only [List.length_append, List.length_cons, List.length_nil, Int.natCast_add]; rfl) | (simp only [List.length_append, List.length_cons, List.length_nil, Int.natCast_add]; trivial)))
  obtain ⟨k', rfl⟩ : ∃ k', k = k' + 1 := ⟨k - 1, by omega⟩
  have hlt2 : (0 : Int) < ((k' + 1 : Nat) : Int) := by omega
  have hst := step_spec l i3 n hl6 hl (by omega)
  simp only [dPr] at hP
  have hkk : ((k' + 1 : Nat) : Int) - 1 = (k' : Int) := by omega
  generalize hx : dStep l i3 n = x at *
  by_cases hac : acc = []
  · have e : inH l out (k' + 1, acc, i3) = [(0, some (dice l i3)), (1, some ⟨Pgs out, 1⟩), (2, some ⟨[.sc (.slice none 0 0)], 1⟩)] := by unfold inH; rw [if_neg (by show ¬ k' + 1 = 0; omega), if_pos hac]
    rw [e]
    subst hac
    simp only [go_sem, Nat.reduceEqDiff, Nat.reduceAdd, Nat.reduceSub, Nat.reduceMul, Nat.reduceLT, Nat.reduceLeDiff, ↓reduceIte, reduceCtorEq, List.reduceReplicate, Int.cast_ofNat_Int, Int.reduceEq, Int.reduceLT, Int.reduceLE, decide_eq_true hlt2, lends]
    repeat' (first
    | with_reducible refine And.intro ?_ ?_
    | (unfold OKC; kernel_rfl)
    | (apply okc_up <;> (first | ((repeat (first | exact Sub.nil | apply Sub.gfp | apply Sub.same)); done) | kernel_rfl))
    | (unfold EDG; kernel_rfl)
    | (intros; (try simp only [Bool.and_eq_true, Bool.or_eq_true, Bool.not_eq_true', Bool.not_eq_false', Bool.and_eq_false_iff, Bool.or_eq_false_iff, decide_eq_true_eq, decide_eq_false_iff_not] at *); omega)
    | (refine gt_if (fun h => ?_) (fun h => ?_) <;> (try simp only [h]))
    | (refine pt_if (fun h => ?_) (fun h => ?_) <;> (try simp only [h]))
    | (refine cd_if (fun h => ?_) (fun h => ?_) <;> (try simp only [h]))
    | (apply cl_plain
       case hs => rfl
       case ha => (simp only [List.map_cons, List.map_nil, prepV, prepC, idx, hpL', lookR, Nat.reduceEqDiff, if_true, if_false]; rfl)
       case h => (first | exact hst ..))
    | (apply cl_lend
       case hr => (simp only [List.map_cons, List.map_nil, hpL', lookR, Nat.reduceEqDiff, if_true, if_false]; first | exact map1 _ | exact map2 _ _ | exact map3 _ _ _)
       case ha => (simp only [List.map_cons, List.map_nil, prepV, prepC, idx, hpL', lookR, Nat.reduceEqDiff, if_true, if_false]; rfl)
       case hs => rfl
       case hn => decide
       case h => (first | exact hst ..)
       case hf => (simp only [List.forall_mem_cons, List.not_mem_nil, false_implies, implies_true, and_true, true_and, flat_cons, flat_nil, flat_ints, flat_bools, flat_app, Cell.refs, and_self, eq_self_iff_true, List.append_nil])
       case hl => (simp only [List.length_cons, List.length_nil]; decide))
    | ((first | refine s1_id ?_ | refine swp_id ?_ | refine sops_id ?_ | refine s2_id ?_); simp only [decide_eq_true hlt2, lends, List.flatten_cons, List.flatten_nil, List.cons_append, List.nil_append, List.append_nil, List.set_cons_zero, List.set_cons_succ, List.length_cons, List.length_nil, List.take_succ_cons, List.take_zero, go_sem, Nat.reduceEqDiff, Nat.reduceAdd, Nat.reduceSub, Nat.reduceMul, Nat.reduceLT, Nat.reduceLeDiff, ↓reduceIte, reduceCtorEq, List.reduceReplicate, Int.cast_ofNat_Int, Int.reduceEq, Int.reduceLT, Int.reduceLE, SV.ren, SV.renL, Cell.ren, Row.ren, renO, bk, back, outUpsFrom, Ints_ren]))
    refine le_mk (k', [] ++ [x.1], x.2) ?_ ⟨by show k' ≤ 5; omega, by show 1 + k' = K; simp only [List.length_nil] at ha; omega, hP⟩ (by show k' < k' + 1; omega)
    rcases Nat.eq_zero_or_pos k' with hk0' | hk0'
    · subst hk0'
      have e2 : inH l out (0, [] ++ [x.1], x.2) = [(0, some (dice l x.2)), (1, some ⟨Pgs out, 1⟩), (2, some ⟨[.gsl [int x.1.k, int x.1.n, int x.1.a, int x.1.t] 0 1 none], 1⟩)] := by unfold inH; rw [if_pos rfl]; rfl
      rw [e2]
      refine Imp.trans (imp_frz _ _ 12 ⟨[int x.1.k, int x.1.n, int x.1.a, int x.1.t], 4⟩ (by simp only [St.hpF, lookR, Nat.reduceEqDiff, if_true, if_false, ↓reduceIte]) (by simp [Cell.isG])) ?_
      simp only [frzTm, SV.frz, SV.frzL, Cell.frz, frzHp, frzO, Ints_frz, Pgs_frz, List.map_cons, List.map_nil, Nat.reduceEqDiff, if_true, if_false, ↓reduceIte, dice]
      (refine imp_ren _ _ _ [(0, 0, dice l x.2), (1, 1, ⟨Pgs out, 1⟩), (2, 2, ⟨[.gsl [int x.1.k, int x.1.n, int x.1.a, int x.1.t] 0 1 none], 1⟩)] (by simp) (by simp) (by simp) (Nat.le_of_ble_eq_true rfl) ?_ rfl (by simp only [List.forall_mem_cons, List.not_mem_nil, false_implies, implies_true, and_true, St.hpF, lookR, Nat.reduceEqDiff, if_true, if_false, ↓reduceIte, dice, Pgs_flat] <;> (repeat' apply And.intro) <;> (first | rfl | trivial)) (by simp only [List.forall_mem_cons, List.not_mem_nil, false_implies, implies_true, and_true, true_and, flat_cons, flat_nil, flat_ints, flat_bools, flat_app, Cell.refs, and_self, eq_self_iff_true, List.append_nil, dice, Pgs_flat]); simp only [List.map_cons, List.map_nil, List.forall_mem_cons, List.not_mem_nil, false_implies, implies_true, and_true, lk, slot, SV.ren, Cell.ren, toN, Nat.reduceEqDiff, if_true, if_false, ↓reduceIte, reduceCtorEq])
      all_goals ((repeat' apply And.intro) <;> (first | rfl | trivial | (simp only [hkk]; done) | (simp only [hkk]; rfl) | (simp only [hkk]; trivial)))
    · have e2 : inH l out (k', [] ++ [x.1], x.2) = [(0, some (dice l x.2)), (1, some ⟨Pgs out, 1⟩), (2, some ⟨[.osl 3 0 1 none], 1⟩), (3, some ⟨[int x.1.k, int x.1.n, int x.1.a, int x.1.t], 4⟩)] := by unfold inH; rw [if_neg (by show ¬ k' = 0; omega), if_neg (by simp)]; rfl
      rw [e2]
      (refine imp_sub _ _ _ [(0, 0), (1, 1), (2, 2), (3, 12)] (by simp) (by simp) (by simp) (Nat.le_of_ble_eq_true rfl) ?_ (by simp only [List.map_cons, List.map_nil, St.hpF, lookR, renO, Row.ren, Cell.ren, toN, Ints_ren, Bools_ren, Nat.reduceEqDiff, if_true, if_false, ↓reduceIte, dice, Pgs_ren, Pgs_flat] <;> (try rfl)) (by simp only [List.forall_mem_cons, List.not_mem_nil, false_implies, implies_true, and_true, St.hpF, lookR, Nat.reduceEqDiff, if_true, if_false, ↓reduceIte, Option.some.injEq, forall_eq'] <;> ((repeat' with_reducible apply And.intro) <;> (first | with_reducible trivial | exact fun c hc q hq => absurd hq (Ints_refs0 _ _ c hc) | exact fun c hc q hq => absurd hq (by rw [Pgs_flat _ c hc]; exact List.not_mem_nil) | (simp [Cell.refs, toN]; done)))); simp only [List.map_cons, List.map_nil, List.forall_mem_cons, List.not_mem_nil, false_implies, implies_true, and_true, lk, slot, SV.ren, Cell.ren, toN, Nat.reduceEqDiff, if_true, if_false, ↓reduceIte, reduceCtorEq])
      all_goals ((repeat' apply And.intro) <;> (first | rfl | trivial | (simp only [hkk]; done) | (simp only [hkk]; rfl) | (simp only [hkk]; trivial)))
  · have e : inH l out (k' + 1, acc, i3) = [(0, some (dice l i3)), (1, some ⟨Pgs out, 1⟩), (2, some ⟨[.osl 3 0 acc.length none], 1⟩), (3, some ⟨Stps acc, 4⟩)] := by unfold inH; rw [if_neg (by show ¬ k' + 1 = 0; omega), if_neg hac]
    rw [e]
    have hsl := Stps_len acc
    simp only [go_sem, Nat.reduceEqDiff, Nat.reduceAdd, Nat.reduceSub, Nat.reduceMul, Nat.reduceLT, Nat.reduceLeDiff, ↓reduceIte, reduceCtorEq, List.reduceReplicate, Int.cast_ofNat_Int, Int.reduceEq, Int.reduceLT, Int.reduceLE, decide_eq_true hlt2, lends]
    have hts : List.take (acc.length * 4) (Stps acc) = Stps acc := List.take_of_length_le (by omega)
    have hap : Stps acc ++ [int x.1.k, int x.1.n, int x.1.a, int x.1.t] = Stps (acc ++ [x.1]) := Stps_app acc x.1
    have hla : (acc ++ [x.1]).length = acc.length + 1 := by simp
    repeat' (first
    | with_reducible refine And.intro ?_ ?_
    | (unfold OKC; kernel_rfl)
    | (apply okc_up <;> (first | ((repeat (first | exact Sub.nil | apply Sub.gfp | apply Sub.same)); done) | kernel_rfl))
    | (unfold EDG; kernel_rfl)
    | (intros; (try simp only [Bool.and_eq_true, Bool.or_eq_true, Bool.not_eq_true', Bool.not_eq_false', Bool.and_eq_false_iff, Bool.or_eq_false_iff, decide_eq_true_eq, decide_eq_false_iff_not] at *); omega)
    | (refine gt_if (fun h => ?_) (fun h => ?_) <;> (try simp only [h]))
    | (refine pt_if (fun h => ?_) (fun h => ?_) <;> (try simp only [h]))
    | (refine cd_if (fun h => ?_) (fun h => ?_) <;> (try simp only [h]))
    | (apply cl_plain
       case hs => rfl
       case ha => (simp only [List.map_cons, List.map_nil, prepV, prepC, idx, hpL', lookR, Nat.reduceEqDiff, if_true, if_false]; rfl)
       case h => (first | exact hst ..))
    | (apply cl_lend
       case hr => (simp only [List.map_cons, List.map_nil, hpL', lookR, Nat.reduceEqDiff, if_true, if_false]; first | exact map1 _ | exact map2 _ _ | exact map3 _ _ _)
       case ha => (simp only [List.map_cons, List.map_nil, prepV, prepC, idx, hpL', lookR, Nat.reduceEqDiff, if_true, if_false]; rfl)
       case hs => rfl
       case hn => decide
       case h => (first | exact hst ..)
       case hf => (simp only [List.forall_mem_cons, List.not_mem_nil, false_implies, implies_true, and_true, true_and, flat_cons, flat_nil, flat_ints, flat_bools, flat_app, Cell.refs, and_self, eq_self_iff_true, List.append_nil])
       case hl => (simp only [List.length_cons, List.length_nil]; decide))
    | ((first | refine s1_id ?_ | refine swp_id ?_ | refine sops_id ?_ | refine s2_id ?_); simp only [decide_eq_true hlt2, lends, hsl, hts, List.flatten_cons, List.flatten_nil, List.cons_append, List.nil_append, List.append_nil, List.set_cons_zero, List.set_cons_succ, List.length_cons, List.length_nil, List.take_succ_cons, List.take_zero, hap, go_sem, Nat.reduceEqDiff, Nat.reduceAdd, Nat.reduceSub, Nat.reduceMul, Nat.reduceLT, Nat.reduceLeDiff, ↓reduceIte, reduceCtorEq, List.reduceReplicate, Int.cast_ofNat_Int, Int.reduceEq, Int.reduceLT, Int.reduceLE, SV.ren, SV.renL, Cell.ren, Row.ren, renO, bk, back, outUpsFrom, Ints_ren]))
    refine le_mk (k', acc ++ [x.1], x.2) ?_ ⟨by show k' ≤ 5; omega, by show (acc ++ [x.1]).length + k' = K; omega, hP⟩ (by show k' < k' + 1; omega)
    rcases Nat.eq_zero_or_pos k' with hk0' | hk0'
    · subst hk0'
      have e2 : inH l out (0, acc ++ [x.1], x.2) = [(0, some (dice l x.2)), (1, some ⟨Pgs out, 1⟩), (2, some ⟨[.gsl (Stps (acc ++ [x.1])) 0 (acc.length + 1) none], 1⟩)] := by unfold inH; rw [if_pos rfl, pgc, hla]
      rw [e2]
      refine Imp.trans (imp_frz _ _ 12 ⟨Stps (acc ++ [x.1]), 4⟩ (by simp only [St.hpF, lookR, Nat.reduceEqDiff, if_true, if_false, ↓reduceIte]) (Stps_isG _)) ?_
      simp only [frzTm, SV.frz, SV.frzL, Cell.frz, frzHp, frzO, Ints_frz, Pgs_frz, Stps_frz, List.map_cons, List.map_nil, Nat.reduceEqDiff, if_true, if_false, ↓reduceIte, dice]
      (refine imp_ren _ _ _ [(0, 0, dice l x.2), (1, 1, ⟨Pgs out, 1⟩), (2, 2, ⟨[.gsl (Stps (acc ++ [x.1])) 0 (acc.length + 1) none], 1⟩)] (by simp) (by simp) (by simp) (Nat.le_of_ble_eq_true rfl) ?_ rfl (by simp only [List.forall_mem_cons, List.not_mem_nil, false_implies, implies_true, and_true, St.hpF, lookR, Nat.reduceEqDiff, if_true, if_false, ↓reduceIte, dice, Pgs_flat] <;> (repeat' apply And.intro) <;> (first | rfl | trivial)) (by simp only [List.forall_mem_cons, List.not_mem_nil, false_implies, implies_true, and_true, true_and, flat_cons, flat_nil, flat_ints, flat_bools, flat_app, Cell.refs, and_self, eq_self_iff_true, List.append_nil, dice, Pgs_flat]); simp only [List.map_cons, List.map_nil, List.forall_mem_cons, List.not_mem_nil, false_implies, implies_true, and_true, lk, slot, SV.ren, Cell.ren, toN, Nat.reduceEqDiff, if_true, if_false, ↓reduceIte, reduceCtorEq])
      all_goals ((repeat' apply And.intro) <;> (first | rfl | trivial | (simp only [hkk]; done) | (simp only [hkk]; rfl) | (simp only [hkk]; trivial)))
    · have e2 : inH l out (k', acc ++ [x.1], x.2) = [(0, some (dice l x.2)), (1, some ⟨Pgs out, 1⟩), (2, some ⟨[.osl 3 0 (acc.length + 1) none], 1⟩), (3, some ⟨Stps (acc ++ [x.1]), 4⟩)] := by unfold inH; rw [if_neg (by show ¬ k' = 0; omega), if_neg (by simp), hla]
      rw [e2]
      (refine imp_sub _ _ _ [(0, 0), (1, 1), (2, 2), (3, 12)] (by simp) (by simp) (by simp) (Nat.le_of_ble_eq_true rfl) ?_ (by simp only [List.map_cons, List.map_nil, St.hpF, lookR, renO, Row.ren, Cell.ren, toN, Ints_ren, Bools_ren, Nat.reduceEqDiff, if_true, if_false, ↓reduceIte, dice, Pgs_ren, Stps_ren, Pgs_flat, Stps_flat] <;> (try rfl)) (by simp only [List.forall_mem_cons, List.not_mem_nil, false_implies, implies_true, and_true, St.hpF, lookR, Nat.reduceEqDiff, if_true, if_false, ↓reduceIte, Option.some.injEq, forall_eq'] <;> ((repeat' with_reducible apply And.intro) <;> (first | with_reducible trivial | exact fun c hc q hq => absurd hq (Ints_refs0 _ _ c hc) | exact fun c hc q hq => absurd hq (by rw [Pgs_flat _ c hc]; exact List.not_mem_nil) | exact fun c hc q hq => absurd hq (by rw [Stps_flat _ c hc]; exact List.not_mem_nil) | (simp [Cell.refs, toN]; done)))); simp only [List.map_cons, List.map_nil, List.forall_mem_cons, List.not_mem_nil, false_implies, implies_true, and_true, lk, slot, SV.ren, Cell.ren, toN, Nat.reduceEqDiff, if_true, if_false, ↓reduceIte, reduceCtorEq])
      all_goals ((repeat' apply And.intro) <;> (first | rfl | trivial | (simp only [hkk]; done) | (simp only [hkk]; rfl) | (simp only [hkk]; trivial)))
end Go.Proofs.Ytdpekegikbbeoaa
