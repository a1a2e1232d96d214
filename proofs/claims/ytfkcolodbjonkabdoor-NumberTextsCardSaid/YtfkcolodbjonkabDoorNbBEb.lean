/- Contracts of functions, told of values, on the way to NumberTexts. -/
import Derived.Test.YtfkcolodbjonkabDoorTyEb
import Derived.Test.YtfkcolodbjonkabDoorDiceEb
import Derived.Test.YtfkcolodbjonkabDoorNbAEb
-- NEWGO
-- PRUNE: cl_lendx
-- ISG: Strs_isG
-- FLAT: Strs_flat
namespace Go.Proofs.YtfkcolodbjonkabDoor
set_option linter.unusedVariables false
set_option linter.unusedSimpArgs false
open Go.Proofs.YtfkcolodbjonkabDoor.Sh
set_option maxRecDepth 20000
def tW : List Str := [[48], [49], [57], [49, 50], [49, 48, 57, 57, 53, 49, 49, 54, 50, 55, 55, 55, 54], [49, 48, 57, 57, 53, 49, 49, 54, 50, 55, 55, 55, 55], [49, 48, 48], [46], [109, 97, 120], [45]]
def tX : List Str := [[], [], [75], [77], [71], [84], [107], [32]]
theorem nx_rng (l : List Int) (i : Nat) (n : Int) (hn : 0 < n) : 0 ≤ nxV l i n ∧ nxV l i n < n := by
  unfold nxV
  split
  · omega
  · exact ⟨Int.emod_nonneg _ (by omega), Int.emod_lt_of_pos _ hn⟩
theorem getD_len (L : List Str) (n : Nat) (h : ∀ s ∈ L, s.length ≤ n) (j : Nat) : (L.getD j []).length ≤ n := by
  rw [List.getD_eq_getElem?_getD]
  cases hx : L[j]? with
  | none => exact Nat.zero_le _
  | some s => exact h s (List.mem_of_getElem? hx)
def txS (l : List Int) (i : Nat) : Nat → Str × Nat
  | 0 => ([], i)
  | n + 1 => ((txS l i n).1 ++ tW.getD (nxV l (txS l i n).2 10).toNat [], nxA l (txS l i n).2 10)
theorem txS_len (l : List Int) (i : Nat) : ∀ n, (txS l i n).1.length ≤ 13 * n
  | 0 => Nat.zero_le _
  | n + 1 => by
    have h1 := txS_len l i n
    have h2 := getD_len tW 13 (by decide) (nxV l (txS l i n).2 10).toNat
    simp only [txS, List.length_append]; omega
def tpV (l : List Int) (i : Nat) : Str × Nat := txS l (nxA l i 4) (nxV l i 4).toNat
variable {l : List Int} (hl : l.length ≤ 600) (hr : ∀ x ∈ l, -9223372036854775808 ≤ x ∧ x ≤ 9223372036854775807)
include hl hr
theorem dtext_spec (i : Nat) (k : Option Nat) : FnSpec Tryd.prog 22 [dp, .one (.gsl (Strs tW) 0 10 k), i1 3] [dice l i] (s1 (tpV l i).1) [some (dice l (tpV l i).2)] := by
  have h1 := next_spec l i 4 hl hr (by omega)
  have h2 := nx_rng l i 4 (by omega)
  unfold tpV
  generalize nxV l i 4 = x at *
  generalize nxA l i 4 = j at *
  obtain ⟨c, rfl⟩ : ∃ k : Nat, x = k := ⟨x.toNat, by omega⟩
  rw [Int.toNat_natCast]
  have e4 : (3 : Int) + 1 = 4 := by decide
  refine fnspec_of mixed TT_ok TT_cl ⟨fun _ => false, fun f => if f = 16 then [0] else [], 1, fun _ => false, fun _ => false⟩ Tryd.func22 rfl (by kernel_rfl) rfl 27 rfl [.tmp 6] rfl ?_
  simp only [go_sem, Nat.reduceEqDiff, Nat.reduceAdd, Nat.reduceSub, Nat.reduceMul, Nat.reduceLT, Nat.reduceLeDiff, ↓reduceIte, reduceCtorEq, List.reduceReplicate, Int.cast_ofNat_Int, Int.reduceEq, Int.reduceLT, Int.reduceLE, e4]
  repeat' (first
    | (apply cl_lend
       case hr => (simp only [List.map_cons, List.map_nil, hpL', lookR, Nat.reduceEqDiff, if_true, if_false]; first | exact map1 _ | exact map2 _ _ | exact map3 _ _ _)
       case ha => (simp only [List.map_cons, List.map_nil, prepV, prepC, idx, hpL', lookR, Nat.reduceEqDiff, if_true, if_false]; rfl)
       case hs => rfl
       case hn => decide
       case h => (first | exact h1 ..)
       case hf => (simp only [List.forall_mem_cons, List.not_mem_nil, false_implies, implies_true, and_true, true_and, flat_cons, flat_nil, flat_ints, flat_bools, flat_app, Strs_flat, Cell.refs, and_self, eq_self_iff_true, List.append_nil])
       case hl => (simp only [List.length_cons, List.length_nil]; decide))
    | ((first | refine s1_id ?_ | refine swp_id ?_ | refine sops_id ?_ | refine s2_id ?_); simp only [dice, e4, go_sem, Nat.reduceEqDiff, Nat.reduceAdd, Nat.reduceSub, Nat.reduceMul, Nat.reduceLT, Nat.reduceLeDiff, ↓reduceIte, reduceCtorEq, List.reduceReplicate, Int.cast_ofNat_Int, Int.reduceEq, Int.reduceLT, Int.reduceLE, SV.ren, SV.renL, Cell.ren, Row.ren, renO, bk, back, outUpsFrom, Ints_ren]))
  refine w_loop (ι := Nat) (fun n => ⟨[(0, dp), (1, .one (.gsl (Strs tW) 0 10 k)), (7, s1 (txS l j n).1), (8, i1 ((c : Int) - n))], [(0, some (dice l (txS l j n).2))], 1⟩) (fun n => n ≤ c) (fun n => c - n) 0 ?_ (Nat.zero_le _) ?_
  · (refine imp_ren _ _ _ [(0, 0, dice l j)] (by simp) (by simp) (by simp) (Nat.le_of_ble_eq_true rfl) ?_ rfl (by simp only [List.forall_mem_cons, List.not_mem_nil, false_implies, implies_true, and_true, St.hpF, lookR, Nat.reduceEqDiff, if_true, if_false, ↓reduceIte, dice, txS] <;> (repeat' apply And.intro) <;> (first | rfl | trivial)) (by simp only [List.forall_mem_cons, List.not_mem_nil, false_implies, implies_true, and_true, true_and, flat_cons, flat_nil, flat_ints, flat_bools, flat_app, Cell.refs, and_self, eq_self_iff_true, List.append_nil, dice, txS]); simp only [List.map_cons, List.map_nil, List.forall_mem_cons, List.not_mem_nil, false_implies, implies_true, and_true, lk, slot, SV.ren, Cell.ren, toN, Nat.reduceEqDiff, if_true, if_false, ↓reduceIte, reduceCtorEq])
    all_goals ((repeat' apply And.intro) <;> (first | rfl | trivial | (simp only [txS, Int.sub_zero, Int.cast_ofNat_Int]; done) | (simp only [txS, Int.sub_zero, Int.cast_ofNat_Int]; rfl) | (simp only [txS, Int.sub_zero, Int.cast_ofNat_Int]; trivial)));;
  intro n hn
  simp only at hn ⊢
  rcases Nat.lt_or_ge n c with hlt | hge
  case inl =>
    have hW : tW.length = 10 := rfl
    have c1 : 0 < (c : Int) - n := by omega
    have h3 := next_spec l (txS l j n).2 10 hl hr (by omega)
    have h4 := nx_rng l (txS l j n).2 10 (by omega)
    have q1 := txS_len l j n
    have hat := Strs_getD' tW (nxV l (txS l j n).2 10).toNat (.sc (.string (bs []))) (by show _ < 10; omega)
    have q2 := getD_len tW 13 (by decide) (nxV l (txS l j n).2 10).toNat
    have e1 : (c : Int) - n - 1 = c - ((n + 1 : Nat) : Int) := by omega
    have et : txS l j (n + 1) = ((txS l j n).1 ++ tW.getD (nxV l (txS l j n).2 10).toNat [], nxA l (txS l j n).2 10) := rfl
    generalize tW.getD (nxV l (txS l j n).2 10).toNat [] = w at *
    generalize nxV l (txS l j n).2 10 = y at *
    generalize nxA l (txS l j n).2 10 = j2 at *
    simp only [go_sem, Nat.reduceEqDiff, Nat.reduceAdd, Nat.reduceSub, Nat.reduceMul, Nat.reduceLT, Nat.reduceLeDiff, ↓reduceIte, reduceCtorEq, List.reduceReplicate, Int.cast_ofNat_Int, Int.reduceEq, Int.reduceLT, Int.reduceLE, decide_eq_true c1, hat]
    repeat' (first
    | with_reducible refine And.intro ?_ ?_
    | (intros; (try simp only [Bool.and_eq_true, Bool.or_eq_true, Bool.not_eq_true', Bool.not_eq_false', Bool.and_eq_false_iff, Bool.or_eq_false_iff, decide_eq_true_eq, decide_eq_false_iff_not] at *); omega)
    | (apply cl_lend
       case hr => (simp only [List.map_cons, List.map_nil, hpL', lookR, Nat.reduceEqDiff, if_true, if_false]; first | exact map1 _ | exact map2 _ _ | exact map3 _ _ _)
       case ha => (simp only [List.map_cons, List.map_nil, prepV, prepC, idx, hpL', lookR, Nat.reduceEqDiff, if_true, if_false]; rfl)
       case hs => rfl
       case hn => decide
       case h => (first | exact h3 ..)
       case hf => (simp only [List.forall_mem_cons, List.not_mem_nil, false_implies, implies_true, and_true, true_and, flat_cons, flat_nil, flat_ints, flat_bools, flat_app, Strs_flat, Cell.refs, and_self, eq_self_iff_true, List.append_nil])
       case hl => (simp only [List.length_cons, List.length_nil]; decide))
    | ((first | refine s1_id ?_ | refine swp_id ?_ | refine sops_id ?_ | refine s2_id ?_); simp only [decide_eq_true c1, hat, dice, go_sem, Nat.reduceEqDiff, Nat.reduceAdd, Nat.reduceSub, Nat.reduceMul, Nat.reduceLT, Nat.reduceLeDiff, ↓reduceIte, reduceCtorEq, List.reduceReplicate, Int.cast_ofNat_Int, Int.reduceEq, Int.reduceLT, Int.reduceLE, SV.ren, SV.renL, Cell.ren, Row.ren, renO, bk, back, outUpsFrom, Ints_ren]))
    refine le_mk (n + 1) ?_ (by omega) (by omega)
    simp only [et]
    (refine imp_ren _ _ _ [(0, 0, dice l j2)] (by simp) (by simp) (by simp) (Nat.le_of_ble_eq_true rfl) ?_ rfl (by simp only [List.forall_mem_cons, List.not_mem_nil, false_implies, implies_true, and_true, St.hpF, lookR, Nat.reduceEqDiff, if_true, if_false, ↓reduceIte, dice] <;> (repeat' apply And.intro) <;> (first | rfl | trivial)) (by simp only [List.forall_mem_cons, List.not_mem_nil, false_implies, implies_true, and_true, true_and, flat_cons, flat_nil, flat_ints, flat_bools, flat_app, Cell.refs, and_self, eq_self_iff_true, List.append_nil, dice]); simp only [List.map_cons, List.map_nil, List.forall_mem_cons, List.not_mem_nil, false_implies, implies_true, and_true, lk, slot, SV.ren, Cell.ren, toN, Nat.reduceEqDiff, if_true, if_false, ↓reduceIte, reduceCtorEq])
    all_goals ((repeat' apply And.intro) <;> (first | rfl | trivial | (simp only [e1]; done) | (simp only [e1]; rfl) | (simp only [e1]; trivial)))
  have hnk : n = c := by omega
  subst hnk
  have c1 : ¬ 0 < (n : Int) - n := by omega
  generalize txS l j n = u at *
  obtain ⟨s, i2⟩ := u
  simp only [go_sem, Nat.reduceEqDiff, Nat.reduceAdd, Nat.reduceSub, Nat.reduceMul, Nat.reduceLT, Nat.reduceLeDiff, ↓reduceIte, reduceCtorEq, List.reduceReplicate, Int.cast_ofNat_Int, Int.reduceEq, Int.reduceLT, Int.reduceLE, decide_eq_false c1]
  repeat' (first
    | (apply fs_nil <;> (try simp only [go_sem, resV, resS, SV.ren, SV.renL, Cell.ren, St.tmF, St.hpF, idx, renO, Row.ren, evS, slot, lookR, Nat.reduceEqDiff, ↓reduceIte, reduceCtorEq, if_true, if_false, Option.getD_some, Option.getD_none, List.map_cons, List.map_nil, sLoad, readAt, readNeed, Ints_ren, Ints_length, Ints_getD, and_true, true_and, List.getD_cons_zero, List.getD_cons_succ]) <;> (try rfl)))
  (refine fs_flat [(0, dice l i2)] (by simp) (by simp only [List.map_cons, List.map_nil]; decide) (by simp only [go_sem, resV, resS, SV.ren, SV.renL, Cell.ren, St.tmF, St.hpF, idx, renO, Row.ren, evS, slot, lookR, Nat.reduceEqDiff, ↓reduceIte, reduceCtorEq, if_true, if_false, Option.getD_some, Option.getD_none, List.map_cons, List.map_nil, sLoad, readAt, readNeed, Ints_ren, Ints_length, Ints_getD, and_true, true_and, List.getD_cons_zero, List.getD_cons_succ]; try decide) ?_ (by simp only [List.forall_mem_cons, List.not_mem_nil, false_implies, implies_true, and_true, St.hpF, lookR, Nat.reduceEqDiff, if_true, if_false, ↓reduceIte] <;> (repeat' apply And.intro) <;> (first | rfl | trivial)) (by simp only [List.forall_mem_cons, List.not_mem_nil, false_implies, implies_true, and_true, true_and, flat_cons, flat_nil, flat_ints, flat_bools, flat_app, Cell.refs, and_self, eq_self_iff_true, List.append_nil]) ?_ <;> (try simp only [go_sem, resV, resS, SV.ren, SV.renL, Cell.ren, St.tmF, St.hpF, idx, renO, Row.ren, evS, slot, lookR, Nat.reduceEqDiff, ↓reduceIte, reduceCtorEq, if_true, if_false, Option.getD_some, Option.getD_none, List.map_cons, List.map_nil, sLoad, readAt, readNeed, Ints_ren, Ints_length, Ints_getD, and_true, true_and, List.getD_cons_zero, List.getD_cons_succ]) <;> (try rfl))
omit hl hr
def teV (l : List Int) (i : Nat) : Str × Nat := ((tpV l i).1 ++ tX.getD (nxV l (tpV l i).2 8).toNat [], nxA l (tpV l i).2 8)
theorem teV_len (l : List Int) (i : Nat) : (teV l i).1.length ≤ 100 := by
  have h1 := txS_len l (nxA l i 4) (nxV l i 4).toNat
  have h2 := nx_rng l i 4 (by omega)
  have h3 := getD_len tX 1 (by decide) (nxV l (tpV l i).2 8).toNat
  unfold teV
  rw [List.length_append]
  unfold tpV at h3 ⊢
  omega
include hl hr
theorem text_spec (i : Nat) : FnSpec Tryd.prog 12 [dp] [dice l i] (s1 (teV l i).1) [some (dice l (teV l i).2)] := by
  have h1 : FnSpec Tryd.prog 22 [dp, .one (.gsl [st [48], st [49], st [57], st [49, 50], st [49, 48, 57, 57, 53, 49, 49, 54, 50, 55, 55, 55, 54], st [49, 48, 57, 57, 53, 49, 49, 54, 50, 55, 55, 55, 55], st [49, 48, 48], st [46], st [109, 97, 120], st [45]] 0 10 (some 10)), i1 3] [dice l i] (s1 (tpV l i).1) [some (dice l (tpV l i).2)] := dtext_spec hl hr i (some 10)
  have q1 := txS_len l (nxA l i 4) (nxV l i 4).toNat
  have q2 := nx_rng l i 4 (by omega)
  have q3 : (tpV l i).1.length ≤ 39 := by unfold tpV; omega
  unfold teV
  generalize tpV l i = u at *
  obtain ⟨s, j⟩ := u
  simp only at h1 q3 ⊢
  have h3 := next_spec l j 8 hl hr (by omega)
  have h4 := nx_rng l j 8 (by omega)
  have hat := Strs_getD' tX (nxV l j 8).toNat (.sc (.string (bs []))) (by show _ < 8; omega)
  have q4 := getD_len tX 1 (by decide) (nxV l j 8).toNat
  simp only [Strs, tX, List.map_cons, List.map_nil] at hat
  unfold tX at q4 ⊢
  generalize nxV l j 8 = y at *
  generalize nxA l j 8 = j2 at *
  obtain ⟨w, hw⟩ : ∃ w, List.getD [[], [], [75], [77], [71], [84], [107], [32]] y.toNat ([] : Str) = w := ⟨_, rfl⟩
  rw [hw] at hat q4 ⊢
  refine fnspec_of mixed TT_ok TT_cl ⟨fun _ => false, fun f => if f = 16 then [0] else if f = 22 then [0] else [], 1, fun _ => false, fun _ => false⟩ Tryd.func12 rfl (by kernel_rfl) rfl 12 rfl [.tmp 2] rfl ?_
  simp only [go_sem, Nat.reduceEqDiff, Nat.reduceAdd, Nat.reduceSub, Nat.reduceMul, Nat.reduceLT, Nat.reduceLeDiff, ↓reduceIte, reduceCtorEq, List.reduceReplicate, Int.cast_ofNat_Int, Int.reduceEq, Int.reduceLT, Int.reduceLE]
  repeat' (first
    | with_reducible refine And.intro ?_ ?_
    | (intros; (try simp only [Bool.and_eq_true, Bool.or_eq_true, Bool.not_eq_true', Bool.not_eq_false', Bool.and_eq_false_iff, Bool.or_eq_false_iff, decide_eq_true_eq, decide_eq_false_iff_not] at *); omega)
    | (apply cl_lend
       case hr => (simp only [List.map_cons, List.map_nil, hpL', lookR, Nat.reduceEqDiff, if_true, if_false]; first | exact map1 _ | exact map2 _ _ | exact map3 _ _ _)
       case ha => (simp only [List.map_cons, List.map_nil, prepV, prepC, idx, hpL', lookR, Nat.reduceEqDiff, if_true, if_false]; rfl)
       case hs => rfl
       case hn => decide
       case h => (first | exact h1 .. | exact h3 ..)
       case hf => (simp only [List.forall_mem_cons, List.not_mem_nil, false_implies, implies_true, and_true, true_and, flat_cons, flat_nil, flat_ints, flat_bools, flat_app, Strs_flat, Cell.refs, and_self, eq_self_iff_true, List.append_nil])
       case hl => (simp only [List.length_cons, List.length_nil]; decide))
    | (apply cl_use
       case hr => (simp only [List.map_cons, List.map_nil, hpL', lookR, Nat.reduceEqDiff, if_true, if_false]; first | exact map0 | exact map1 _ | exact map2 _ _ | exact map3 _ _ _)
       case ha => (simp only [List.map_cons, List.map_nil, prepV, prepC, idx, hpL', lookR, Nat.reduceEqDiff, if_true, if_false]; rfl)
       case hs => (simp only [snaps, SV.refs, Cell.refs, idx, List.flatMap_cons, List.flatMap_nil, List.nil_append, List.cons_append, List.append_nil, List.filter_cons, List.filter_nil, Nat.reduceEqDiff, if_true, if_false, Option.isNone_none, Option.isNone_some, Bool.false_eq_true, reduceCtorEq, ↓reduceIte]; rfl)
       case hn => decide
       case h => (first | exact h1 .. | exact h3 ..)
       case hf => (simp only [List.forall_mem_cons, List.not_mem_nil, false_implies, implies_true, and_true, true_and, flat_cons, flat_nil, flat_ints, flat_bools, flat_app, Strs_flat, Cell.refs, and_self, eq_self_iff_true, List.append_nil])
       case hg => ((simp [hpL', lookR, Cell.isG]) <;> (repeat' apply And.intro) <;> (first | exact Ints_isG _ | exact Strs_isG _))
       case hl => (simp only [List.length_cons, List.length_nil]; decide))
    | ((first | refine s1_id ?_ | refine swp_id ?_ | refine sops_id ?_ | refine s2_id ?_); simp only [hat, dice, go_sem, Nat.reduceEqDiff, Nat.reduceAdd, Nat.reduceSub, Nat.reduceMul, Nat.reduceLT, Nat.reduceLeDiff, ↓reduceIte, reduceCtorEq, List.reduceReplicate, Int.cast_ofNat_Int, Int.reduceEq, Int.reduceLT, Int.reduceLE, SV.ren, SV.renL, Cell.ren, Row.ren, renO, bk, back, outUpsFrom, Ints_ren])
    | (apply fs_nil <;> (try simp only [go_sem, resV, resS, SV.ren, SV.renL, Cell.ren, St.tmF, St.hpF, idx, renO, Row.ren, evS, slot, lookR, Nat.reduceEqDiff, ↓reduceIte, reduceCtorEq, if_true, if_false, Option.getD_some, Option.getD_none, List.map_cons, List.map_nil, sLoad, readAt, readNeed, Ints_ren, Ints_length, Ints_getD, and_true, true_and, List.getD_cons_zero, List.getD_cons_succ]) <;> (try rfl)))
  (refine fs_flat [(0, dice l j2)] (by simp) (by simp only [List.map_cons, List.map_nil]; decide) (by simp only [go_sem, resV, resS, SV.ren, SV.renL, Cell.ren, St.tmF, St.hpF, idx, renO, Row.ren, evS, slot, lookR, Nat.reduceEqDiff, ↓reduceIte, reduceCtorEq, if_true, if_false, Option.getD_some, Option.getD_none, List.map_cons, List.map_nil, sLoad, readAt, readNeed, Ints_ren, Ints_length, Ints_getD, and_true, true_and, List.getD_cons_zero, List.getD_cons_succ]; try decide) ?_ (by simp only [List.forall_mem_cons, List.not_mem_nil, false_implies, implies_true, and_true, St.hpF, lookR, Nat.reduceEqDiff, if_true, if_false, ↓reduceIte] <;> (repeat' apply And.intro) <;> (first | rfl | trivial)) (by simp only [List.forall_mem_cons, List.not_mem_nil, false_implies, implies_true, and_true, true_and, flat_cons, flat_nil, flat_ints, flat_bools, flat_app, Cell.refs, and_self, eq_self_iff_true, List.append_nil]) ?_ <;> (try simp only [go_sem, resV, resS, SV.ren, SV.renL, Cell.ren, St.tmF, St.hpF, idx, renO, Row.ren, evS, slot, lookR, Nat.reduceEqDiff, ↓reduceIte, reduceCtorEq, if_true, if_false, Option.getD_some, Option.getD_none, List.map_cons, List.map_nil, sLoad, readAt, readNeed, Ints_ren, Ints_length, Ints_getD, and_true, true_and, List.getD_cons_zero, List.getD_cons_succ]) <;> (try rfl))
end Go.Proofs.YtfkcolodbjonkabDoor
