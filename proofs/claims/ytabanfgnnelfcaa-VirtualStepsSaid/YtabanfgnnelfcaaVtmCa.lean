/- Contracts of functions, told of values, on the way to VirtualSteps. -/
import Derived.Test.YtabanfgnnelfcaaTyCa
import Derived.Test.YtabanfgnnelfcaaVteCa
-- NEWGO
-- PRUNE: cl_lendx
-- ISG: Its_isG
namespace Go.Proofs.Ytabanfgnnelfcaa
set_option linter.unusedVariables false
set_option linter.unusedSimpArgs false
open Go.Proofs.Ytabanfgnnelfcaa.Sh
set_option maxRecDepth 20000
def smL (l : List Int) : Nat → List Int → Nat → List Int × Nat
  | 0, acc, j => (acc, j)
  | n + 1, acc, j => smL l n (acc ++ [nxV l j 12 - 2]) (nxA l j 12)
theorem smL_len (l : List Int) : ∀ n acc j, (smL l n acc j).1.length = acc.length + n
  | 0, acc, j => rfl
  | n + 1, acc, j => by rw [smL, smL_len l n]; simp; omega
def smSt (l : List Int) (s : Nat × List Int × Nat) : St :=
  if s.2.1 = [] then ⟨[(0, dp), (3, .one (.sc (.slice none 0 0))), (4, i1 s.1)], [(0, some (dice l s.2.2))], 1⟩
  else ⟨[(0, dp), (3, .one (.osl 1 0 s.2.1.length none)), (4, i1 s.1)], [(0, some (dice l s.2.2)), (1, some ⟨Ints s.2.1, 1⟩)], 2⟩
set_option maxHeartbeats 4000000 in
theorem some_spec (l : List Int) (i : Nat) (hl6 : l.length ≤ 600) (hl : ∀ x ∈ l, -9223372036854775808 ≤ x ∧ x ≤ 9223372036854775807) :
    ∃ el j, el.length ≤ 5 ∧ FnSpec Try.prog 38 [dp] [dice l i] (gi el none) [some (dice l j)] := by
  have hk := nxV_rng l i 6 (by omega)
  have nk := next_spec l i 6 hl6 hl (by omega)
  obtain ⟨K, hK⟩ : ∃ K : Nat, nxV l i 6 = K := ⟨(nxV l i 6).toNat, by omega⟩
  rw [hK] at nk hk
  have hlen := smL_len l K [] (nxA l i 6)
  obtain ⟨T, hT⟩ : ∃ T, smL l K [] (nxA l i 6) = T := ⟨_, rfl⟩
  rw [hT] at hlen
  obtain ⟨el, j⟩ := T
  refine ⟨el, j, by simp only [List.length_nil] at hlen; omega, ?_⟩
  generalize nxA l i 6 = j0 at *
  refine fnspec_of mixed TT_ok TT_cl ⟨fun _ => false, fun f => if f = 24 then [0] else [], 1, fun _ => false, fun _ => false⟩ Try.func38 rfl (by kernel_rfl) rfl 18 rfl [.tmp 2] rfl ?_
  simp only [go_sem, Nat.reduceEqDiff, Nat.reduceAdd, Nat.reduceSub, Nat.reduceMul, Nat.reduceLT, Nat.reduceLeDiff, ↓reduceIte, reduceCtorEq, List.reduceReplicate, Int.cast_ofNat_Int, Int.reduceEq, Int.reduceLT, Int.reduceLE]
  repeat' (first
    | (apply cl_lend
       case hr => (simp only [List.map_cons, List.map_nil, hpL', lookR, Nat.reduceEqDiff, if_true, if_false]; first | exact map1 _ | exact map2 _ _ | exact map3 _ _ _)
       case ha => (simp only [List.map_cons, List.map_nil, prepV, prepC, idx, hpL', lookR, Nat.reduceEqDiff, if_true, if_false]; rfl)
       case hs => rfl
       case hn => decide
       case h => (first | exact nk ..)
       case hf => (simp only [List.forall_mem_cons, List.not_mem_nil, false_implies, implies_true, and_true, true_and, flat_cons, flat_nil, flat_ints, flat_bools, flat_app, Cell.refs, and_self, eq_self_iff_true, List.append_nil])
       case hl => (simp only [List.length_cons, List.length_nil]; decide))
    | ((first | refine s1_id ?_ | refine swp_id ?_ | refine sops_id ?_ | refine s2_id ?_); simp only [go_sem, Nat.reduceEqDiff, Nat.reduceAdd, Nat.reduceSub, Nat.reduceMul, Nat.reduceLT, Nat.reduceLeDiff, ↓reduceIte, reduceCtorEq, List.reduceReplicate, Int.cast_ofNat_Int, Int.reduceEq, Int.reduceLT, Int.reduceLE, SV.ren, SV.renL, Cell.ren, Row.ren, renO, bk, back, outUpsFrom, Ints_ren]))
  refine w_loop (ι := Nat × List Int × Nat) (smSt l) (fun s => s.1 ≤ 5 ∧ s.2.1.length + s.1 ≤ 5 ∧ smL l s.1 s.2.1 s.2.2 = (el, j)) (fun s => s.1) (K, [], j0) ?_ ⟨by show K ≤ 5; omega, by show 0 + K ≤ 5; omega, hT⟩ ?_
  · have e : smSt l (K, [], j0) = ⟨[(0, dp), (3, .one (.sc (.slice none 0 0))), (4, i1 K)], [(0, some (dice l j0))], 1⟩ := by unfold smSt; rw [if_pos rfl]
    rw [e]
    (refine imp_ren _ _ _ [(0, 0, dice l j0)] (by simp) (by simp) (by simp) (Nat.le_of_ble_eq_true rfl) ?_ rfl (by simp only [List.forall_mem_cons, List.not_mem_nil, false_implies, implies_true, and_true, St.hpF, lookR, Nat.reduceEqDiff, if_true, if_false, ↓reduceIte, dice] <;> (repeat' apply And.intro) <;> (first | rfl | trivial)) (by simp only [List.forall_mem_cons, List.not_mem_nil, false_implies, implies_true, and_true, true_and, flat_cons, flat_nil, flat_ints, flat_bools, flat_app, Cell.refs, and_self, eq_self_iff_true, List.append_nil, dice]); simp only [List.map_cons, List.map_nil, List.forall_mem_cons, List.not_mem_nil, false_implies, implies_true, and_true, lk, slot, SV.ren, Cell.ren, toN, Nat.reduceEqDiff, if_true, if_false, ↓reduceIte, reduceCtorEq])
    all_goals ((repeat' apply And.intro) <;> (first | rfl | trivial))
  clear hT hk nk
  rintro ⟨n, acc, i3⟩ ⟨hn, ha, hL⟩
  simp only at hn ha hL ⊢
  rcases Nat.eq_zero_or_pos n with h0 | h0
  · subst h0
    have hlt : ¬ (0 : Int) < ((0 : Nat) : Int) := by omega
    have hL' : (acc, i3) = (el, j) := hL
    obtain ⟨rfl, rfl⟩ := Prod.mk.inj hL'
    by_cases hac : acc = []
    · subst hac
      have e : smSt l (0, [], i3) = ⟨[(0, dp), (3, .one (.sc (.slice none 0 0))), (4, i1 (0 : Nat))], [(0, some (dice l i3))], 1⟩ := by unfold smSt; rw [if_pos rfl]
      rw [e]
      simp only [go_sem, Nat.reduceEqDiff, Nat.reduceAdd, Nat.reduceSub, Nat.reduceMul, Nat.reduceLT, Nat.reduceLeDiff, ↓reduceIte, reduceCtorEq, List.reduceReplicate, Int.cast_ofNat_Int, Int.reduceEq, Int.reduceLT, Int.reduceLE, decide_eq_false hlt]
      repeat' (first
    | ((first | refine s1_id ?_ | refine swp_id ?_ | refine sops_id ?_ | refine s2_id ?_); simp only [decide_eq_false hlt, go_sem, Nat.reduceEqDiff, Nat.reduceAdd, Nat.reduceSub, Nat.reduceMul, Nat.reduceLT, Nat.reduceLeDiff, ↓reduceIte, reduceCtorEq, List.reduceReplicate, Int.cast_ofNat_Int, Int.reduceEq, Int.reduceLT, Int.reduceLE, SV.ren, SV.renL, Cell.ren, Row.ren, renO, bk, back, outUpsFrom, Ints_ren]))
      refine fs_res (res0 := .one (.sc (.slice none 0 0))) (svw_of cw_gnil) ?_
      (refine fs_flat [(0, dice l i3)] (by simp) (by simp only [List.map_cons, List.map_nil]; decide) (by simp only [go_sem, resV, resS, SV.ren, SV.renL, Cell.ren, St.tmF, St.hpF, idx, renO, Row.ren, evS, slot, lookR, Nat.reduceEqDiff, ↓reduceIte, reduceCtorEq, if_true, if_false, Option.getD_some, Option.getD_none, List.map_cons, List.map_nil, sLoad, readAt, readNeed, Ints_ren, Ints_length, Ints_getD, and_true, true_and, List.getD_cons_zero, List.getD_cons_succ]; try decide) ?_ (by simp only [List.forall_mem_cons, List.not_mem_nil, false_implies, implies_true, and_true, St.hpF, lookR, Nat.reduceEqDiff, if_true, if_false, ↓reduceIte, dice] <;> (repeat' apply And.intro) <;> (first | rfl | trivial)) (by simp only [List.forall_mem_cons, List.not_mem_nil, false_implies, implies_true, and_true, true_and, flat_cons, flat_nil, flat_ints, flat_bools, flat_app, Cell.refs, and_self, eq_self_iff_true, List.append_nil, dice]) ?_ <;> (try simp only [go_sem, resV, resS, SV.ren, SV.renL, Cell.ren, St.tmF, St.hpF, idx, renO, Row.ren, evS, slot, lookR, Nat.reduceEqDiff, ↓reduceIte, reduceCtorEq, if_true, if_false, Option.getD_some, Option.getD_none, List.map_cons, List.map_nil, sLoad, readAt, readNeed, Ints_ren, Ints_length, Ints_getD, and_true, true_and, List.getD_cons_zero, List.getD_cons_succ]) <;> (try rfl))
    · have e : smSt l (0, acc, i3) = ⟨[(0, dp), (3, .one (.osl 1 0 acc.length none)), (4, i1 (0 : Nat))], [(0, some (dice l i3)), (1, some ⟨Ints acc, 1⟩)], 2⟩ := by unfold smSt; rw [if_neg hac]
      rw [e]
      simp only [go_sem, Nat.reduceEqDiff, Nat.reduceAdd, Nat.reduceSub, Nat.reduceMul, Nat.reduceLT, Nat.reduceLeDiff, ↓reduceIte, reduceCtorEq, List.reduceReplicate, Int.cast_ofNat_Int, Int.reduceEq, Int.reduceLT, Int.reduceLE, decide_eq_false hlt]
      repeat' (first
    | ((first | refine s1_id ?_ | refine swp_id ?_ | refine sops_id ?_ | refine s2_id ?_); simp only [decide_eq_false hlt, go_sem, Nat.reduceEqDiff, Nat.reduceAdd, Nat.reduceSub, Nat.reduceMul, Nat.reduceLT, Nat.reduceLeDiff, ↓reduceIte, reduceCtorEq, List.reduceReplicate, Int.cast_ofNat_Int, Int.reduceEq, Int.reduceLT, Int.reduceLE, SV.ren, SV.renL, Cell.ren, Row.ren, renO, bk, back, outUpsFrom, Ints_ren]))
      (refine fs_frz 1 ⟨Ints acc, 1⟩ (by simp only [St.hpF, lookR, Nat.reduceEqDiff, if_true, if_false, ↓reduceIte]) (by first | exact Ints_isG _ | exact Bools_isG _ | (simp [Cell.isG]; done)) ?_; simp only [frzTm, SV.frz, SV.frzL, Cell.frz, frzHp, frzO, Ints_frz, Bools_frz, List.map_cons, List.map_nil, Nat.reduceEqDiff, if_true, if_false, ↓reduceIte])
      (refine fs_flat [(0, dice l i3)] (by simp) (by simp only [List.map_cons, List.map_nil]; decide) (by simp only [go_sem, resV, resS, SV.ren, SV.renL, Cell.ren, St.tmF, St.hpF, idx, renO, Row.ren, evS, slot, lookR, Nat.reduceEqDiff, ↓reduceIte, reduceCtorEq, if_true, if_false, Option.getD_some, Option.getD_none, List.map_cons, List.map_nil, sLoad, readAt, readNeed, Ints_ren, Ints_length, Ints_getD, and_true, true_and, List.getD_cons_zero, List.getD_cons_succ]; try decide) ?_ (by simp only [List.forall_mem_cons, List.not_mem_nil, false_implies, implies_true, and_true, St.hpF, lookR, Nat.reduceEqDiff, if_true, if_false, ↓reduceIte, dice] <;> (repeat' apply And.intro) <;> (first | rfl | trivial)) (by simp only [List.forall_mem_cons, List.not_mem_nil, false_implies, implies_true, and_true, true_and, flat_cons, flat_nil, flat_ints, flat_bools, flat_app, Cell.refs, and_self, eq_self_iff_true, List.append_nil, dice]) ?_ <;> (try simp only [go_sem, resV, resS, SV.ren, SV.renL, Cell.ren, St.tmF, St.hpF, idx, renO, Row.ren, evS, slot, lookR, Nat.reduceEqDiff, ↓reduceIte, reduceCtorEq, if_true, if_false, Option.getD_some, Option.getD_none, List.map_cons, List.map_nil, sLoad, readAt, readNeed, Ints_ren, Ints_length, Ints_getD, and_true, true_and, List.getD_cons_zero, List.getD_cons_succ]) <;> (try rfl))
  obtain ⟨m, rfl⟩ : ∃ m', n = m' + 1 := ⟨n - 1, by omega⟩
  have hlt : (0 : Int) < ((m + 1 : Nat) : Int) := by omega
  have hmm : ((m + 1 : Nat) : Int) - 1 = (m : Int) := by omega
  have h12 := nxV_rng l i3 12 (by omega)
  have n12 := next_spec l i3 12 hl6 hl (by omega)
  replace hL : smL l m (acc ++ [nxV l i3 12 - 2]) (nxA l i3 12) = (el, j) := hL
  generalize nxV l i3 12 = v at *
  generalize nxA l i3 12 = j3 at *
  have hla : (acc ++ [v - 2]).length = acc.length + 1 := by simp
  have e2 : smSt l (m, acc ++ [v - 2], j3) = ⟨[(0, dp), (3, .one (.osl 1 0 (acc.length + 1) none)), (4, i1 m)], [(0, some (dice l j3)), (1, some ⟨Ints (acc ++ [v - 2]), 1⟩)], 2⟩ := by
    unfold smSt; rw [if_neg (by simp)]; simp only [hla]
  have hle : smSt l (m + 1, acc, i3) = if acc = [] then ⟨[(0, dp), (3, .one (.sc (.slice none 0 0))), (4, i1 ((m + 1 : Nat) : Int))], [(0, some (dice l i3))], 1⟩ else ⟨[(0, dp), (3, .one (.osl 1 0 acc.length none)), (4, i1 ((m + 1 : Nat) : Int))], [(0, some (dice l i3)), (1, some ⟨Ints acc, 1⟩)], 2⟩ := rfl
  rw [hle]
  by_cases hac : acc = []
  · rw [if_pos hac]
    subst hac
    simp only [go_sem, Nat.reduceEqDiff, Nat.reduceAdd, Nat.reduceSub, Nat.reduceMul, Nat.reduceLT, Nat.reduceLeDiff, ↓reduceIte, reduceCtorEq, List.reduceReplicate, Int.cast_ofNat_Int, Int.reduceEq, Int.reduceLT, Int.reduceLE, decide_eq_true hlt]
    repeat' (first
    | with_reducible refine And.intro ?_ ?_
    | (intros; (try simp only [Bool.and_eq_true, Bool.or_eq_true, Bool.not_eq_true', Bool.not_eq_false', Bool.and_eq_false_iff, Bool.or_eq_false_iff, decide_eq_true_eq, decide_eq_false_iff_not] at *); omega)
    | (apply cl_lend
       case hr => (simp only [List.map_cons, List.map_nil, hpL', lookR, Nat.reduceEqDiff, if_true, if_false]; first | exact map1 _ | exact map2 _ _ | exact map3 _ _ _)
       case ha => (simp only [List.map_cons, List.map_nil, prepV, prepC, idx, hpL', lookR, Nat.reduceEqDiff, if_true, if_false]; rfl)
       case hs => rfl
       case hn => decide
       case h => (first | exact n12 ..)
       case hf => (simp only [List.forall_mem_cons, List.not_mem_nil, false_implies, implies_true, and_true, true_and, flat_cons, flat_nil, flat_ints, flat_bools, flat_app, Cell.refs, and_self, eq_self_iff_true, List.append_nil])
       case hl => (simp only [List.length_cons, List.length_nil]; decide))
    | ((first | refine s1_id ?_ | refine swp_id ?_ | refine sops_id ?_ | refine s2_id ?_); simp only [decide_eq_true hlt, go_sem, Nat.reduceEqDiff, Nat.reduceAdd, Nat.reduceSub, Nat.reduceMul, Nat.reduceLT, Nat.reduceLeDiff, ↓reduceIte, reduceCtorEq, List.reduceReplicate, Int.cast_ofNat_Int, Int.reduceEq, Int.reduceLT, Int.reduceLE, SV.ren, SV.renL, Cell.ren, Row.ren, renO, bk, back, outUpsFrom, Ints_ren]))
    refine le_mk (m, [] ++ [v - 2], j3) ?_ ⟨by show m ≤ 5; omega, by show 1 + m ≤ 5; omega, hL⟩ (by show m < m + 1; omega)
    rw [e2]
    (refine imp_ren _ _ _ [(0, 0, dice l j3), (1, 8, ⟨Ints [v - 2], 1⟩)] (by simp) (by simp) (by simp) (Nat.le_of_ble_eq_true rfl) ?_ rfl (by simp only [List.forall_mem_cons, List.not_mem_nil, false_implies, implies_true, and_true, St.hpF, lookR, Nat.reduceEqDiff, if_true, if_false, ↓reduceIte, dice] <;> (repeat' apply And.intro) <;> (first | rfl | trivial)) (by simp only [List.forall_mem_cons, List.not_mem_nil, false_implies, implies_true, and_true, true_and, flat_cons, flat_nil, flat_ints, flat_bools, flat_app, Cell.refs, and_self, eq_self_iff_true, List.append_nil, dice]); simp only [List.map_cons, List.map_nil, List.forall_mem_cons, List.not_mem_nil, false_implies, implies_true, and_true, lk, slot, SV.ren, Cell.ren, toN, Nat.reduceEqDiff, if_true, if_false, ↓reduceIte, reduceCtorEq])
    · refine ⟨trivial, rfl, ?_⟩
      simp only [hmm]

  · rw [if_neg hac]
    have hpp : Ints acc ++ [int (v - 2)] = Ints (acc ++ [v - 2]) := by simp [Ints]
    have htk : List.take acc.length (Ints acc) = Ints acc := List.take_of_length_le (by rw [Ints_length]; exact Nat.le_refl _)
    simp only [go_sem, Nat.reduceEqDiff, Nat.reduceAdd, Nat.reduceSub, Nat.reduceMul, Nat.reduceLT, Nat.reduceLeDiff, ↓reduceIte, reduceCtorEq, List.reduceReplicate, Int.cast_ofNat_Int, Int.reduceEq, Int.reduceLT, Int.reduceLE, decide_eq_true hlt]
    repeat' (first
    | with_reducible refine And.intro ?_ ?_
    | (intros; (try simp only [Bool.and_eq_true, Bool.or_eq_true, Bool.not_eq_true', Bool.not_eq_false', Bool.and_eq_false_iff, Bool.or_eq_false_iff, decide_eq_true_eq, decide_eq_false_iff_not] at *); omega)
    | (apply cl_lend
       case hr => (simp only [List.map_cons, List.map_nil, hpL', lookR, Nat.reduceEqDiff, if_true, if_false]; first | exact map1 _ | exact map2 _ _ | exact map3 _ _ _)
       case ha => (simp only [List.map_cons, List.map_nil, prepV, prepC, idx, hpL', lookR, Nat.reduceEqDiff, if_true, if_false]; rfl)
       case hs => rfl
       case hn => decide
       case h => (first | exact n12 ..)
       case hf => (simp only [List.forall_mem_cons, List.not_mem_nil, false_implies, implies_true, and_true, true_and, flat_cons, flat_nil, flat_ints, flat_bools, flat_app, Cell.refs, and_self, eq_self_iff_true, List.append_nil])
       case hl => (simp only [List.length_cons, List.length_nil]; decide))
    | ((first | refine s1_id ?_ | refine swp_id ?_ | refine sops_id ?_ | refine s2_id ?_); simp only [decide_eq_true hlt, hpp, htk, go_sem, Nat.reduceEqDiff, Nat.reduceAdd, Nat.reduceSub, Nat.reduceMul, Nat.reduceLT, Nat.reduceLeDiff, ↓reduceIte, reduceCtorEq, List.reduceReplicate, Int.cast_ofNat_Int, Int.reduceEq, Int.reduceLT, Int.reduceLE, SV.ren, SV.renL, Cell.ren, Row.ren, renO, bk, back, outUpsFrom, Ints_ren]))
    refine le_mk (m, acc ++ [v - 2], j3) ?_ ⟨by show m ≤ 5; omega, by show (acc ++ [v - 2]).length + m ≤ 5; omega, hL⟩ (by show m < m + 1; omega)
    rw [e2]
    (refine imp_ren _ _ _ [(0, 0, dice l j3), (1, 9, ⟨Ints (acc ++ [v - 2]), 1⟩)] (by simp) (by simp) (by simp) (Nat.le_of_ble_eq_true rfl) ?_ rfl (by simp only [List.forall_mem_cons, List.not_mem_nil, false_implies, implies_true, and_true, St.hpF, lookR, Nat.reduceEqDiff, if_true, if_false, ↓reduceIte, dice] <;> (repeat' apply And.intro) <;> (first | rfl | trivial)) (by simp only [List.forall_mem_cons, List.not_mem_nil, false_implies, implies_true, and_true, true_and, flat_cons, flat_nil, flat_ints, flat_bools, flat_app, Cell.refs, and_self, eq_self_iff_true, List.append_nil, dice]); simp only [List.map_cons, List.map_nil, List.forall_mem_cons, List.not_mem_nil, false_implies, implies_true, and_true, lk, slot, SV.ren, Cell.ren, toN, Nat.reduceEqDiff, if_true, if_false, ↓reduceIte, reduceCtorEq])
    all_goals ((repeat' apply And.intro) <;> (first | rfl | trivial | (simp only [hmm]; done) | (simp only [hmm]; rfl) | (simp only [hmm]; trivial)))
end Go.Proofs.Ytabanfgnnelfcaa
