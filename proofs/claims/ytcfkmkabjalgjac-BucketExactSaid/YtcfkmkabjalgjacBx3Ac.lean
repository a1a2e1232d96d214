/- Contracts of functions, told of values, on the way to BucketExact. -/
import Derived.Test.YtcfkmkabjalgjacTyAc
import Derived.Test.YtcfkmkabjalgjacDiceAc
import Derived.Test.YtcfkmkabjalgjacBx2Ac
namespace Go.Proofs.Ytcfkmkabjalgjac
set_option linter.unusedVariables false
set_option linter.unusedSimpArgs false
open Go.Proofs.Ytcfkmkabjalgjac.Sh
theorem nxV_rng (l : List Int) (i : Nat) (n : Int) (h : 0 < n) : 0 ≤ nxV l i n ∧ nxV l i n < n := by
  unfold nxV
  split
  · omega
  · exact ⟨Int.emod_nonneg _ (by omega), Int.emod_lt_of_pos _ h⟩
def pkV (l : List Int) (i : Nat) (xs : List Int) : Int := xs.getD (nxV l i xs.length).toNat 0
theorem pick_spec (l : List Int) (i : Nat) (xs : List Int) (c : Option Nat) (h0 : 0 < xs.length) (h1 : xs.length ≤ 600) (hl : l.length ≤ 600) (hr : ∀ x ∈ l, -9223372036854775808 ≤ x ∧ x ≤ 9223372036854775807) : FnSpec Try.prog 12 [dp, gi xs c] [dice l i] (i1 (pkV l i xs)) [some (dice l (nxA l i xs.length))] := by
  have h2 := nxV_rng l i xs.length (by omega)
  refine fnspec_of mixed TT_ok TT_cl ⟨fun _ => false, fun f => if f = 14 then [0] else [], 1, fun _ => false, fun _ => false⟩ Try.func12 rfl (by kernel_rfl) rfl 12 rfl [.tmp 4] rfl ?_
  simp only [go_sem, Nat.reduceEqDiff, Nat.reduceAdd, Nat.reduceSub, Nat.reduceMul, Nat.reduceLT, Nat.reduceLeDiff, ↓reduceIte, reduceCtorEq, List.reduceReplicate, Int.cast_ofNat_Int]
  repeat' (first
    | with_reducible refine And.intro ?_ ?_
    | (unfold OKC; kernel_rfl)
    | (apply okc_up <;> (first | ((repeat (first | exact Sub.nil | apply Sub.gfp | apply Sub.same)); done) | kernel_rfl))
    | (unfold EDG; kernel_rfl)
    | (intros; (try simp only [Bool.and_eq_true, Bool.or_eq_true, Bool.not_eq_true', Bool.not_eq_false', Bool.and_eq_false_iff, Bool.or_eq_false_iff, decide_eq_true_eq, decide_eq_false_iff_not] at *); omega)
    | (refine cd_if (fun h => ?_) (fun h => ?_) <;> (first | (simp only [h, go_sem, Nat.reduceEqDiff, Nat.reduceAdd, Nat.reduceSub, Nat.reduceMul, Nat.reduceLT, Nat.reduceLeDiff, ↓reduceIte, reduceCtorEq, List.reduceReplicate, Int.cast_ofNat_Int]; done) | simp only [h, go_sem, Nat.reduceEqDiff, Nat.reduceAdd, Nat.reduceSub, Nat.reduceMul, Nat.reduceLT, Nat.reduceLeDiff, ↓reduceIte, reduceCtorEq, List.reduceReplicate, Int.cast_ofNat_Int] | skip))
    | (apply cg_tp
       case hl => rfl
       case ha => (simp only [List.map_cons, List.map_nil, prepV, prepC, idx, hpL', lookR, Nat.reduceEqDiff, if_true, if_false]; rfl)
       case hs => rfl
       case h => (first | exact next_spec _ _ _ hl hr (by omega))
       case' hk => simp only [go_sem, Nat.reduceEqDiff, Nat.reduceAdd, Nat.reduceSub, Nat.reduceMul, Nat.reduceLT, Nat.reduceLeDiff, ↓reduceIte, reduceCtorEq, List.reduceReplicate, Int.cast_ofNat_Int, SV.ren, SV.renL, Cell.ren])
    | (apply cg_ts
       case hl => rfl
       case ha => (simp only [List.map_cons, List.map_nil, prepV, prepC, idx, hpL', lookR, Nat.reduceEqDiff, if_true, if_false]; rfl)
       case hs => (simp only [snaps_nil, List.flatMap_cons, List.flatMap_nil, SV.refs, Cell.refs, List.nil_append, List.cons_append, List.append_nil]; rfl)
       case h => (first | exact next_spec _ _ _ hl hr (by omega))
       case hf => ((simp only [List.forall_mem_cons, List.not_mem_nil, false_implies, implies_true, and_true, hpL', lookR, Nat.reduceEqDiff, if_true, if_false]) <;> (repeat' apply And.intro) <;> exact ⟨_, rfl, Ints_isG _⟩)
       case hg => simp [SV.noG, SV.noGL, Cell.noG]
       case' hk => simp only [go_sem, Nat.reduceEqDiff, Nat.reduceAdd, Nat.reduceSub, Nat.reduceMul, Nat.reduceLT, Nat.reduceLeDiff, ↓reduceIte, reduceCtorEq, List.reduceReplicate, Int.cast_ofNat_Int, SV.ren, SV.renL, Cell.ren])
    | (apply cg_any
       case hl => rfl
       case ha => (intro hb; simp only [List.map_cons, List.map_nil, cnd, hb, if_true, prepV, prepC, idx, hpL', lookR, Nat.reduceEqDiff, if_false]; rfl)
       case hs => (intro hb; simp only [cnd, hb, if_true]; rfl)
       case h => (first | exact next_spec _ _ _ hl hr (by omega))
       case' hk => simp only [go_sem, Nat.reduceEqDiff, Nat.reduceAdd, Nat.reduceSub, Nat.reduceMul, Nat.reduceLT, Nat.reduceLeDiff, ↓reduceIte, reduceCtorEq, List.reduceReplicate, Int.cast_ofNat_Int, SV.ren, SV.renL, Cell.ren])
    | (apply cg_show
       case hl => rfl
       case ha => (intro hb; simp only [List.map_cons, List.map_nil, cnd, hb, if_true, prepV, prepC, idx, hpL', lookR, Nat.reduceEqDiff, if_false]; rfl)
       case hs => (intro hb; simp only [cnd, hb, if_true, snaps_nil, List.flatMap_cons, List.flatMap_nil, SV.refs, Cell.refs, List.nil_append, List.cons_append, List.append_nil]; rfl)
       case h => (first | exact next_spec _ _ _ hl hr (by omega))
       case hf => ((simp only [List.forall_mem_cons, List.not_mem_nil, false_implies, implies_true, and_true, hpL', lookR, Nat.reduceEqDiff, if_true, if_false]) <;> (repeat' apply And.intro) <;> exact ⟨_, rfl, Ints_isG _⟩)
       case hg => simp [SV.noG, SV.noGL, Cell.noG]
       case' hk => simp only [go_sem, Nat.reduceEqDiff, Nat.reduceAdd, Nat.reduceSub, Nat.reduceMul, Nat.reduceLT, Nat.reduceLeDiff, ↓reduceIte, reduceCtorEq, List.reduceReplicate, Int.cast_ofNat_Int, SV.ren, SV.renL, Cell.ren])
    | (apply cl_plain
       case hs => rfl
       case ha => (simp only [List.map_cons, List.map_nil, prepV, prepC, idx, hpL', lookR, Nat.reduceEqDiff, if_true, if_false]; rfl)
       case h => (first | exact next_spec _ _ _ hl hr (by omega))
       case' hk => simp only [go_sem, Nat.reduceEqDiff, Nat.reduceAdd, Nat.reduceSub, Nat.reduceMul, Nat.reduceLT, Nat.reduceLeDiff, ↓reduceIte, reduceCtorEq, List.reduceReplicate, Int.cast_ofNat_Int, SV.ren, SV.renL, Cell.ren, Row.ren, renO, bk, back, outUpsFrom, Ints_ren])
    | (apply cl_lend
       case hr => (simp only [List.map_cons, List.map_nil, hpL', lookR, Nat.reduceEqDiff, if_true, if_false]; first | exact map1 _ | exact map2 _ _ | exact map3 _ _ _)
       case ha => (simp only [List.map_cons, List.map_nil, prepV, prepC, idx, hpL', lookR, Nat.reduceEqDiff, if_true, if_false]; rfl)
       case hs => rfl
       case hn => decide
       case h => (first | exact next_spec _ _ _ hl hr (by omega))
       case hf => (simp only [List.forall_mem_cons, List.not_mem_nil, false_implies, implies_true, and_true, true_and, flat_cons, flat_nil, flat_ints, flat_app, Cell.refs, and_self, eq_self_iff_true, List.append_nil])
       case hl => (simp only [List.length_cons, List.length_nil]; decide)
       case' hk => simp only [go_sem, Nat.reduceEqDiff, Nat.reduceAdd, Nat.reduceSub, Nat.reduceMul, Nat.reduceLT, Nat.reduceLeDiff, ↓reduceIte, reduceCtorEq, List.reduceReplicate, Int.cast_ofNat_Int, SV.ren, SV.renL, Cell.ren, Row.ren, renO, bk, back, outUpsFrom, Ints_ren])
    | (apply cl_show
       case ha => (simp only [List.map_cons, List.map_nil, prepV, prepC, idx, hpL', lookR, Nat.reduceEqDiff, if_true, if_false]; rfl)
       case hs => ((simp [snaps, SV.refs, Cell.refs, idx, hpL', lookR]) <;> (repeat' apply And.intro) <;> exact Ints_isG _)
       case h => (first | exact next_spec _ _ _ hl hr (by omega))
       case hg => ((simp [SV.noG, SV.noGL, Cell.noG]) <;> (repeat' apply And.intro) <;> exact Ints_noG _)
       case' hk => simp only [go_sem, Nat.reduceEqDiff, Nat.reduceAdd, Nat.reduceSub, Nat.reduceMul, Nat.reduceLT, Nat.reduceLeDiff, ↓reduceIte, reduceCtorEq, List.reduceReplicate, Int.cast_ofNat_Int, SV.ren, SV.renL, Cell.ren, Row.ren, renO, bk, back, outUpsFrom, Ints_ren])
    | (apply cl_use
       case hr => (simp only [List.map_cons, List.map_nil, hpL', lookR, Nat.reduceEqDiff, if_true, if_false]; first | exact map0 | exact map1 _ | exact map2 _ _ | exact map3 _ _ _)
       case ha => (simp only [List.map_cons, List.map_nil, prepV, prepC, idx, hpL', lookR, Nat.reduceEqDiff, if_true, if_false]; rfl)
       case hs => (simp only [snaps, SV.refs, Cell.refs, idx, List.flatMap_cons, List.flatMap_nil, List.nil_append, List.cons_append, List.append_nil, List.filter_cons, List.filter_nil, Nat.reduceEqDiff, if_true, if_false, Option.isNone_none, Option.isNone_some, Bool.false_eq_true, reduceCtorEq, ↓reduceIte]; rfl)
       case hn => decide
       case h => (first | exact next_spec _ _ _ hl hr (by omega))
       case hf => (simp only [List.forall_mem_cons, List.not_mem_nil, false_implies, implies_true, and_true, true_and, flat_cons, flat_nil, flat_ints, flat_app, Cell.refs, and_self, eq_self_iff_true, List.append_nil])
       case hg => ((simp [hpL', lookR, Cell.isG]) <;> (repeat' apply And.intro) <;> exact Ints_isG _)
       case hl => (simp only [List.length_cons, List.length_nil]; decide)
       case' hk => simp only [go_sem, Nat.reduceEqDiff, Nat.reduceAdd, Nat.reduceSub, Nat.reduceMul, Nat.reduceLT, Nat.reduceLeDiff, ↓reduceIte, reduceCtorEq, List.reduceReplicate, Int.cast_ofNat_Int, SV.ren, SV.renL, Cell.ren, Row.ren, renO, bk, back, outUpsFrom, Ints_ren])
    | (apply fs_nil <;> (try simp only [go_sem, resV, resS, SV.ren, SV.renL, Cell.ren, St.tmF, St.hpF, idx, renO, Row.ren, evS, slot, lookR, Nat.reduceEqDiff, ↓reduceIte, reduceCtorEq, if_true, if_false, Option.getD_some, Option.getD_none, List.map_cons, List.map_nil, sLoad, readAt, readNeed, Ints_ren, Ints_length, Ints_getD, and_true, true_and, List.getD_cons_zero, List.getD_cons_succ]) <;> (try rfl)))
  (refine fs_flat [(0, dice l (nxA l i xs.length))] (by simp) (by simp only [List.map_cons, List.map_nil]; decide) (by simp only [go_sem, resV, resS, SV.ren, SV.renL, Cell.ren, St.tmF, St.hpF, idx, renO, Row.ren, evS, slot, lookR, Nat.reduceEqDiff, ↓reduceIte, reduceCtorEq, if_true, if_false, Option.getD_some, Option.getD_none, List.map_cons, List.map_nil, sLoad, readAt, readNeed, Ints_ren, Ints_length, Ints_getD, and_true, true_and, List.getD_cons_zero, List.getD_cons_succ]; try decide) ?_ (by simp only [List.forall_mem_cons, List.not_mem_nil, false_implies, implies_true, and_true, St.hpF, lookR, Nat.reduceEqDiff, if_true, if_false, ↓reduceIte] <;> (repeat' apply And.intro) <;> (first | rfl | trivial)) (by simp only [List.forall_mem_cons, List.not_mem_nil, false_implies, implies_true, and_true, true_and, flat_cons, flat_nil, flat_ints, flat_app, Cell.refs, and_self, eq_self_iff_true, List.append_nil]) ?_ <;> (try simp only [go_sem, resV, resS, SV.ren, SV.renL, Cell.ren, St.tmF, St.hpF, idx, renO, Row.ren, evS, slot, lookR, Nat.reduceEqDiff, ↓reduceIte, reduceCtorEq, if_true, if_false, Option.getD_some, Option.getD_none, List.map_cons, List.map_nil, sLoad, readAt, readNeed, Ints_ren, Ints_length, Ints_getD, and_true, true_and, List.getD_cons_zero, List.getD_cons_succ]) <;> (try rfl))
theorem pkV_rng (l : List Int) (i : Nat) (xs : List Int) {a b : Int} (h0 : 0 < xs.length) (h : ∀ x ∈ xs, a ≤ x ∧ x ≤ b) : a ≤ pkV l i xs ∧ pkV l i xs ≤ b := by
  have h2 := nxV_rng l i xs.length (by omega)
  have h3 : (nxV l i xs.length).toNat < xs.length := by omega
  unfold pkV
  rw [List.getD_eq_getElem?_getD, List.getElem?_eq_getElem h3]
  exact h _ (List.getElem_mem _)
theorem btok_le (b : Bk) : btok b ≤ 1125899906842624 := by
  unfold btok
  split
  · omega
  · rename_i h
    split
    · omega
    · rename_i h2
      have hv := bv_shut (b := b) (by simpa using h) (by simpa using h2)
      have h2 : b.l.tdiv b.p ≤ b.l := by
        rw [Int.tdiv_eq_ediv_of_nonneg (by omega)]
        exact Int.ediv_le_self _ (by omega)
      omega
theorem bnew_t (r p s t : Int) : 0 ≤ (bnew r p s t).1.t ∧ (bnew r p s t).1.t ≤ 1048576 := by
  unfold bnew
  split
  · simp [bz]
  · rename_i h
    have := bv_iff (b := bn0 r p s t) (by simpa using h)
    simp only [bn0] at this ⊢; omega
theorem btake_t (b : Bk) (now n : Int) : 0 ≤ (btake b now n).1.t ∧ (btake b now n).1.t ≤ 1048576 := by
  unfold btake
  split
  · simp [bz]
  · rename_i h
    have hv := bv_iff (badv_ok (b := b) (now := now) (by simpa using h)).1
    split
    · simp [bz]
    · split
      · exact ⟨hv.2.2.1, hv.2.2.2.1⟩
      · split
        · exact ⟨hv.2.2.1, hv.2.2.2.1⟩
        · exact ⟨hv.2.2.1, hv.2.2.2.1⟩
def mkS (l : List Int) (x : Bk × Nat) : Bk × Nat := ((btake x.1 (x.1.t + nxV l x.2 9) (nxV l (nxA l x.2 9) (1 + btok x.1))).1, nxA l (nxA l x.2 9) (1 + btok x.1))
def mkL (l : List Int) : Nat → Bk × Nat → Bk × Nat
  | 0, x => x
  | n + 1, x => mkL l n (mkS l x)
def mk0 (l : List Int) (i : Nat) : Bk × Nat := ((bnew (pkV l i [0, 1, 3, 7, 100, 1073741824, 4611686018427387904]) (pkV l (nxA l i 7) [1, 2, 3, 10, 100, 1048576]) (pkV l (nxA l (nxA l i 7) 6) [0, 1, 10, 100, 1073741824]) (nxV l (nxA l (nxA l (nxA l i 7) 6) 5) 5)).1, nxA l (nxA l (nxA l (nxA l (nxA l i 7) 6) 5) 5) 4)
def mkK (l : List Int) (i : Nat) : Nat := (nxV l (nxA l (nxA l (nxA l (nxA l i 7) 6) 5) 5) 4).toNat
def mk1 (l : List Int) (i : Nat) : Bk × Nat := mkL l (mkK l i) (mk0 l i)
def mkB (l : List Int) (i : Nat) : Bk × Nat := (if bvalid (mk1 l i).1 = true then (mk1 l i).1 else (bnew 3 2 10 0).1, (mk1 l i).2)
theorem mkB_ok (l : List Int) (i : Nat) : bvalid (mkB l i).1 = true := by
  unfold mkB
  simp only
  split
  · assumption
  · decide
theorem mkb_spec (l : List Int) (i : Nat) (hl : l.length ≤ 600) (hr : ∀ x ∈ l, -9223372036854775808 ≤ x ∧ x ≤ 9223372036854775807) : FnSpec Try.prog 11 [dp] [dice l i] (bkt (mkB l i).1) [some (dice l (mkB l i).2)] := by
  refine fnspec_of mixed TT_ok TT_cl ⟨fun _ => false, fun f => if f = 14 then [0] else if f = 12 then [0] else [], 1, fun _ => false, fun _ => false⟩ Try.func11 rfl (by kernel_rfl) rfl 50 rfl [.cell 2 24] rfl ?_
  simp only [go_sem, Nat.reduceEqDiff, Nat.reduceAdd, Nat.reduceSub, Nat.reduceMul, Nat.reduceLT, Nat.reduceLeDiff, ↓reduceIte, reduceCtorEq, List.reduceReplicate, Int.cast_ofNat_Int]
  repeat' (first
    | with_reducible refine And.intro ?_ ?_
    | (unfold OKC; kernel_rfl)
    | (apply okc_up <;> (first | ((repeat (first | exact Sub.nil | apply Sub.gfp | apply Sub.same)); done) | kernel_rfl))
    | (unfold EDG; kernel_rfl)
    | (intros; (try simp only [Bool.and_eq_true, Bool.or_eq_true, Bool.not_eq_true', Bool.not_eq_false', Bool.and_eq_false_iff, Bool.or_eq_false_iff, decide_eq_true_eq, decide_eq_false_iff_not] at *); omega)
    | (refine cd_if (fun h => ?_) (fun h => ?_) <;> (first | (simp only [h, bkc, go_sem, Nat.reduceEqDiff, Nat.reduceAdd, Nat.reduceSub, Nat.reduceMul, Nat.reduceLT, Nat.reduceLeDiff, ↓reduceIte, reduceCtorEq, List.reduceReplicate, Int.cast_ofNat_Int]; done) | simp only [h, bkc, go_sem, Nat.reduceEqDiff, Nat.reduceAdd, Nat.reduceSub, Nat.reduceMul, Nat.reduceLT, Nat.reduceLeDiff, ↓reduceIte, reduceCtorEq, List.reduceReplicate, Int.cast_ofNat_Int] | skip))
    | (apply cg_tp
       case hl => rfl
       case ha => (simp only [List.map_cons, List.map_nil, prepV, prepC, idx, hpL', lookR, Nat.reduceEqDiff, if_true, if_false]; rfl)
       case hs => rfl
       case h => (first | exact next_spec _ _ _ hl hr (by omega) | exact pick_spec _ _ _ _ (Nat.le_of_ble_eq_true rfl) (Nat.le_of_ble_eq_true rfl) hl hr | exact rnew_spec .. | exact rtake_spec (.mk _ _ _ _ _) _ _ | exact rtok_spec (.mk _ _ _ _ _) | exact rvalid_spec (.mk _ _ _ _ _))
       case' hk => simp only [bkc, go_sem, Nat.reduceEqDiff, Nat.reduceAdd, Nat.reduceSub, Nat.reduceMul, Nat.reduceLT, Nat.reduceLeDiff, ↓reduceIte, reduceCtorEq, List.reduceReplicate, Int.cast_ofNat_Int, SV.ren, SV.renL, Cell.ren])
    | (apply cg_ts
       case hl => rfl
       case ha => (simp only [List.map_cons, List.map_nil, prepV, prepC, idx, hpL', lookR, Nat.reduceEqDiff, if_true, if_false]; rfl)
       case hs => (simp only [snaps_nil, List.flatMap_cons, List.flatMap_nil, SV.refs, Cell.refs, List.nil_append, List.cons_append, List.append_nil]; rfl)
       case h => (first | exact next_spec _ _ _ hl hr (by omega) | exact pick_spec _ _ _ _ (Nat.le_of_ble_eq_true rfl) (Nat.le_of_ble_eq_true rfl) hl hr | exact rnew_spec .. | exact rtake_spec (.mk _ _ _ _ _) _ _ | exact rtok_spec (.mk _ _ _ _ _) | exact rvalid_spec (.mk _ _ _ _ _))
       case hf => ((simp only [List.forall_mem_cons, List.not_mem_nil, false_implies, implies_true, and_true, hpL', lookR, Nat.reduceEqDiff, if_true, if_false]) <;> (repeat' apply And.intro) <;> exact ⟨_, rfl, Ints_isG _⟩)
       case hg => simp [SV.noG, SV.noGL, Cell.noG]
       case' hk => simp only [bkc, go_sem, Nat.reduceEqDiff, Nat.reduceAdd, Nat.reduceSub, Nat.reduceMul, Nat.reduceLT, Nat.reduceLeDiff, ↓reduceIte, reduceCtorEq, List.reduceReplicate, Int.cast_ofNat_Int, SV.ren, SV.renL, Cell.ren])
    | (apply cg_any
       case hl => rfl
       case ha => (intro hb; simp only [List.map_cons, List.map_nil, cnd, hb, if_true, prepV, prepC, idx, hpL', lookR, Nat.reduceEqDiff, if_false]; rfl)
       case hs => (intro hb; simp only [cnd, hb, if_true]; rfl)
       case h => (first | exact next_spec _ _ _ hl hr (by omega) | exact pick_spec _ _ _ _ (Nat.le_of_ble_eq_true rfl) (Nat.le_of_ble_eq_true rfl) hl hr | exact rnew_spec .. | exact rtake_spec (.mk _ _ _ _ _) _ _ | exact rtok_spec (.mk _ _ _ _ _) | exact rvalid_spec (.mk _ _ _ _ _))
       case' hk => simp only [bkc, go_sem, Nat.reduceEqDiff, Nat.reduceAdd, Nat.reduceSub, Nat.reduceMul, Nat.reduceLT, Nat.reduceLeDiff, ↓reduceIte, reduceCtorEq, List.reduceReplicate, Int.cast_ofNat_Int, SV.ren, SV.renL, Cell.ren])
    | (apply cg_show
       case hl => rfl
       case ha => (intro hb; simp only [List.map_cons, List.map_nil, cnd, hb, if_true, prepV, prepC, idx, hpL', lookR, Nat.reduceEqDiff, if_false]; rfl)
       case hs => (intro hb; simp only [cnd, hb, if_true, snaps_nil, List.flatMap_cons, List.flatMap_nil, SV.refs, Cell.refs, List.nil_append, List.cons_append, List.append_nil]; rfl)
       case h => (first | exact next_spec _ _ _ hl hr (by omega) | exact pick_spec _ _ _ _ (Nat.le_of_ble_eq_true rfl) (Nat.le_of_ble_eq_true rfl) hl hr | exact rnew_spec .. | exact rtake_spec (.mk _ _ _ _ _) _ _ | exact rtok_spec (.mk _ _ _ _ _) | exact rvalid_spec (.mk _ _ _ _ _))
       case hf => ((simp only [List.forall_mem_cons, List.not_mem_nil, false_implies, implies_true, and_true, hpL', lookR, Nat.reduceEqDiff, if_true, if_false]) <;> (repeat' apply And.intro) <;> exact ⟨_, rfl, Ints_isG _⟩)
       case hg => simp [SV.noG, SV.noGL, Cell.noG]
       case' hk => simp only [bkc, go_sem, Nat.reduceEqDiff, Nat.reduceAdd, Nat.reduceSub, Nat.reduceMul, Nat.reduceLT, Nat.reduceLeDiff, ↓reduceIte, reduceCtorEq, List.reduceReplicate, Int.cast_ofNat_Int, SV.ren, SV.renL, Cell.ren])
    | (apply cl_plain
       case hs => rfl
       case ha => (simp only [List.map_cons, List.map_nil, prepV, prepC, idx, hpL', lookR, Nat.reduceEqDiff, if_true, if_false]; rfl)
       case h => (first | exact next_spec _ _ _ hl hr (by omega) | exact pick_spec _ _ _ _ (Nat.le_of_ble_eq_true rfl) (Nat.le_of_ble_eq_true rfl) hl hr | exact rnew_spec .. | exact rtake_spec (.mk _ _ _ _ _) _ _ | exact rtok_spec (.mk _ _ _ _ _) | exact rvalid_spec (.mk _ _ _ _ _))
       case' hk => simp only [bkc, go_sem, Nat.reduceEqDiff, Nat.reduceAdd, Nat.reduceSub, Nat.reduceMul, Nat.reduceLT, Nat.reduceLeDiff, ↓reduceIte, reduceCtorEq, List.reduceReplicate, Int.cast_ofNat_Int, SV.ren, SV.renL, Cell.ren, Row.ren, renO, bk, back, outUpsFrom, Ints_ren])
    | (apply cl_lend
       case hr => (simp only [List.map_cons, List.map_nil, hpL', lookR, Nat.reduceEqDiff, if_true, if_false]; first | exact map1 _ | exact map2 _ _ | exact map3 _ _ _)
       case ha => (simp only [List.map_cons, List.map_nil, prepV, prepC, idx, hpL', lookR, Nat.reduceEqDiff, if_true, if_false]; rfl)
       case hs => rfl
       case hn => decide
       case h => (first | exact next_spec _ _ _ hl hr (by omega) | exact pick_spec _ _ _ _ (Nat.le_of_ble_eq_true rfl) (Nat.le_of_ble_eq_true rfl) hl hr | exact rnew_spec .. | exact rtake_spec (.mk _ _ _ _ _) _ _ | exact rtok_spec (.mk _ _ _ _ _) | exact rvalid_spec (.mk _ _ _ _ _))
       case hf => (simp only [List.forall_mem_cons, List.not_mem_nil, false_implies, implies_true, and_true, true_and, flat_cons, flat_nil, flat_ints, flat_app, Cell.refs, and_self, eq_self_iff_true, List.append_nil])
       case hl => (simp only [List.length_cons, List.length_nil]; decide)
       case' hk => simp only [bkc, go_sem, Nat.reduceEqDiff, Nat.reduceAdd, Nat.reduceSub, Nat.reduceMul, Nat.reduceLT, Nat.reduceLeDiff, ↓reduceIte, reduceCtorEq, List.reduceReplicate, Int.cast_ofNat_Int, SV.ren, SV.renL, Cell.ren, Row.ren, renO, bk, back, outUpsFrom, Ints_ren])
    | (apply cl_show
       case ha => (simp only [List.map_cons, List.map_nil, prepV, prepC, idx, hpL', lookR, Nat.reduceEqDiff, if_true, if_false]; rfl)
       case hs => ((simp [snaps, SV.refs, Cell.refs, idx, hpL', lookR]) <;> (repeat' apply And.intro) <;> exact Ints_isG _)
       case h => (first | exact next_spec _ _ _ hl hr (by omega) | exact pick_spec _ _ _ _ (Nat.le_of_ble_eq_true rfl) (Nat.le_of_ble_eq_true rfl) hl hr | exact rnew_spec .. | exact rtake_spec (.mk _ _ _ _ _) _ _ | exact rtok_spec (.mk _ _ _ _ _) | exact rvalid_spec (.mk _ _ _ _ _))
       case hg => ((simp [SV.noG, SV.noGL, Cell.noG]) <;> (repeat' apply And.intro) <;> exact Ints_noG _)
       case' hk => simp only [bkc, go_sem, Nat.reduceEqDiff, Nat.reduceAdd, Nat.reduceSub, Nat.reduceMul, Nat.reduceLT, Nat.reduceLeDiff, ↓reduceIte, reduceCtorEq, List.reduceReplicate, Int.cast_ofNat_Int, SV.ren, SV.renL, Cell.ren, Row.ren, renO, bk, back, outUpsFrom, Ints_ren])
    | (apply cl_use
       case hr => (simp only [List.map_cons, List.map_nil, hpL', lookR, Nat.reduceEqDiff, if_true, if_false]; first | exact map0 | exact map1 _ | exact map2 _ _ | exact map3 _ _ _)
       case ha => (simp only [List.map_cons, List.map_nil, prepV, prepC, idx, hpL', lookR, Nat.reduceEqDiff, if_true, if_false]; rfl)
       case hs => (simp only [snaps, SV.refs, Cell.refs, idx, List.flatMap_cons, List.flatMap_nil, List.nil_append, List.cons_append, List.append_nil, List.filter_cons, List.filter_nil, Nat.reduceEqDiff, if_true, if_false, Option.isNone_none, Option.isNone_some, Bool.false_eq_true, reduceCtorEq, ↓reduceIte]; rfl)
       case hn => decide
       case h => (first | exact next_spec _ _ _ hl hr (by omega) | exact pick_spec _ _ _ _ (Nat.le_of_ble_eq_true rfl) (Nat.le_of_ble_eq_true rfl) hl hr | exact rnew_spec .. | exact rtake_spec (.mk _ _ _ _ _) _ _ | exact rtok_spec (.mk _ _ _ _ _) | exact rvalid_spec (.mk _ _ _ _ _))
       case hf => (simp only [List.forall_mem_cons, List.not_mem_nil, false_implies, implies_true, and_true, true_and, flat_cons, flat_nil, flat_ints, flat_app, Cell.refs, and_self, eq_self_iff_true, List.append_nil])
       case hg => ((simp [hpL', lookR, Cell.isG]) <;> (repeat' apply And.intro) <;> exact Ints_isG _)
       case hl => (simp only [List.length_cons, List.length_nil]; decide)
       case' hk => simp only [bkc, go_sem, Nat.reduceEqDiff, Nat.reduceAdd, Nat.reduceSub, Nat.reduceMul, Nat.reduceLT, Nat.reduceLeDiff, ↓reduceIte, reduceCtorEq, List.reduceReplicate, Int.cast_ofNat_Int, SV.ren, SV.renL, Cell.ren, Row.ren, renO, bk, back, outUpsFrom, Ints_ren])
    | (apply fs_nil <;> (try simp only [go_sem, resV, resS, SV.ren, SV.renL, Cell.ren, St.tmF, St.hpF, idx, renO, Row.ren, evS, slot, lookR, Nat.reduceEqDiff, ↓reduceIte, reduceCtorEq, if_true, if_false, Option.getD_some, Option.getD_none, List.map_cons, List.map_nil, sLoad, readAt, readNeed, Ints_ren, Ints_length, Ints_getD, and_true, true_and, List.getD_cons_zero, List.getD_cons_succ]) <;> (try rfl)))
  have hk := nxV_rng l (nxA l (nxA l (nxA l (nxA l i 7) 6) 5) 5) 4 (by omega)
  refine w_loop (ι := Nat × Bk × Nat) (fun x => ⟨[(5, i1 x.1), (0, dp), (2, .one (.optr 1 0)), (3, .one (.optr 2 0))], [(0, some (dice l x.2.2)), (1, some ⟨bkc bz, 5⟩), (2, some ⟨bkc x.2.1, 5⟩)], 3⟩) (fun x => x.1 ≤ 4 ∧ mkL l x.1 x.2 = mk1 l i ∧ 0 ≤ x.2.1.t ∧ x.2.1.t ≤ 1048576) (fun x => x.1) (mkK l i, mk0 l i) ?_ ?_ ?_
  · (refine imp_ren _ _ _ [(0, 0, dice l (mk0 l i).2), (1, 1, ⟨bkc bz, 5⟩), (2, 17, ⟨bkc (mk0 l i).1, 5⟩)] (by simp) (by simp) (by simp) (Nat.le_of_ble_eq_true rfl) ?_ rfl (by simp only [List.forall_mem_cons, List.not_mem_nil, false_implies, implies_true, and_true, St.hpF, lookR, Nat.reduceEqDiff, if_true, if_false, ↓reduceIte] <;> (repeat' apply And.intro) <;> (first | rfl | trivial)) (by simp only [List.forall_mem_cons, List.not_mem_nil, false_implies, implies_true, and_true, true_and, flat_cons, flat_nil, flat_ints, flat_app, Cell.refs, and_self, eq_self_iff_true, List.append_nil]); simp only [List.map_cons, List.map_nil, List.forall_mem_cons, List.not_mem_nil, false_implies, implies_true, and_true, lk, slot, SV.ren, Cell.ren, toN, Nat.reduceEqDiff, if_true, if_false, ↓reduceIte, reduceCtorEq])
    have e : ((mkK l i : Nat) : Int) = nxV l (nxA l (nxA l (nxA l (nxA l i 7) 6) 5) 5) 4 := by unfold mkK; omega
    all_goals try rw [e]
    all_goals ((repeat' apply And.intro) <;> (first | rfl | trivial))
  · have := bnew_t (pkV l i [0, 1, 3, 7, 100, 1073741824, 4611686018427387904]) (pkV l (nxA l i 7) [1, 2, 3, 10, 100, 1048576]) (pkV l (nxA l (nxA l i 7) 6) [0, 1, 10, 100, 1073741824]) (nxV l (nxA l (nxA l (nxA l i 7) 6) 5) 5)
    exact ⟨by unfold mkK; omega, rfl, this.1, this.2⟩
  rintro ⟨n, b, k⟩ ⟨h1, h2, h3, h4⟩
  simp only at h1 h2 h3 h4 ⊢
  have g1 := nxV_rng l k 9 (by omega)
  have g2 := btok_ge b
  have g3 := btok_le b
  cases n with
  | zero =>
    have h2' : mk1 l i = (b, k) := h2.symm
    obtain ⟨r, p, s, lv, t⟩ := b
    simp only [go_sem, Nat.reduceEqDiff, Nat.reduceAdd, Nat.reduceSub, Nat.reduceMul, Nat.reduceLT, Nat.reduceLeDiff, ↓reduceIte, reduceCtorEq, List.reduceReplicate, Int.cast_ofNat_Int, bkc]
    repeat' (first
    | with_reducible refine And.intro ?_ ?_
    | (unfold OKC; kernel_rfl)
    | (apply okc_up <;> (first | ((repeat (first | exact Sub.nil | apply Sub.gfp | apply Sub.same)); done) | kernel_rfl))
    | (unfold EDG; kernel_rfl)
    | (intros; (try simp only [Bool.and_eq_true, Bool.or_eq_true, Bool.not_eq_true', Bool.not_eq_false', Bool.and_eq_false_iff, Bool.or_eq_false_iff, decide_eq_true_eq, decide_eq_false_iff_not] at *); omega)
    | (refine cd_if (fun h => ?_) (fun h => ?_) <;> (first | (simp only [h, bkc, go_sem, Nat.reduceEqDiff, Nat.reduceAdd, Nat.reduceSub, Nat.reduceMul, Nat.reduceLT, Nat.reduceLeDiff, ↓reduceIte, reduceCtorEq, List.reduceReplicate, Int.cast_ofNat_Int]; done) | simp only [h, bkc, go_sem, Nat.reduceEqDiff, Nat.reduceAdd, Nat.reduceSub, Nat.reduceMul, Nat.reduceLT, Nat.reduceLeDiff, ↓reduceIte, reduceCtorEq, List.reduceReplicate, Int.cast_ofNat_Int] | skip))
    | (apply cg_tp
       case hl => rfl
       case ha => (simp only [List.map_cons, List.map_nil, prepV, prepC, idx, hpL', lookR, Nat.reduceEqDiff, if_true, if_false]; rfl)
       case hs => rfl
       case h => (first | exact next_spec _ _ _ hl hr (by omega) | exact rnew_spec .. | exact rtake_spec (.mk _ _ _ _ _) _ _ | exact rtok_spec (.mk _ _ _ _ _) | exact rvalid_spec (.mk _ _ _ _ _))
       case' hk => simp only [bkc, go_sem, Nat.reduceEqDiff, Nat.reduceAdd, Nat.reduceSub, Nat.reduceMul, Nat.reduceLT, Nat.reduceLeDiff, ↓reduceIte, reduceCtorEq, List.reduceReplicate, Int.cast_ofNat_Int, SV.ren, SV.renL, Cell.ren])
    | (apply cg_ts
       case hl => rfl
       case ha => (simp only [List.map_cons, List.map_nil, prepV, prepC, idx, hpL', lookR, Nat.reduceEqDiff, if_true, if_false]; rfl)
       case hs => (simp only [snaps_nil, List.flatMap_cons, List.flatMap_nil, SV.refs, Cell.refs, List.nil_append, List.cons_append, List.append_nil]; rfl)
       case h => (first | exact next_spec _ _ _ hl hr (by omega) | exact rnew_spec .. | exact rtake_spec (.mk _ _ _ _ _) _ _ | exact rtok_spec (.mk _ _ _ _ _) | exact rvalid_spec (.mk _ _ _ _ _))
       case hf => ((simp only [List.forall_mem_cons, List.not_mem_nil, false_implies, implies_true, and_true, hpL', lookR, Nat.reduceEqDiff, if_true, if_false]) <;> (repeat' apply And.intro) <;> exact ⟨_, rfl, Ints_isG _⟩)
       case hg => simp [SV.noG, SV.noGL, Cell.noG]
       case' hk => simp only [bkc, go_sem, Nat.reduceEqDiff, Nat.reduceAdd, Nat.reduceSub, Nat.reduceMul, Nat.reduceLT, Nat.reduceLeDiff, ↓reduceIte, reduceCtorEq, List.reduceReplicate, Int.cast_ofNat_Int, SV.ren, SV.renL, Cell.ren])
    | (apply cg_any
       case hl => rfl
       case ha => (intro hb; simp only [List.map_cons, List.map_nil, cnd, hb, if_true, prepV, prepC, idx, hpL', lookR, Nat.reduceEqDiff, if_false]; rfl)
       case hs => (intro hb; simp only [cnd, hb, if_true]; rfl)
       case h => (first | exact next_spec _ _ _ hl hr (by omega) | exact rnew_spec .. | exact rtake_spec (.mk _ _ _ _ _) _ _ | exact rtok_spec (.mk _ _ _ _ _) | exact rvalid_spec (.mk _ _ _ _ _))
       case' hk => simp only [bkc, go_sem, Nat.reduceEqDiff, Nat.reduceAdd, Nat.reduceSub, Nat.reduceMul, Nat.reduceLT, Nat.reduceLeDiff, ↓reduceIte, reduceCtorEq, List.reduceReplicate, Int.cast_ofNat_Int, SV.ren, SV.renL, Cell.ren])
    | (apply cg_show
       case hl => rfl
       case ha => (intro hb; simp only [List.map_cons, List.map_nil, cnd, hb, if_true, prepV, prepC, idx, hpL', lookR, Nat.reduceEqDiff, if_false]; rfl)
       case hs => (intro hb; simp only [cnd, hb, if_true, snaps_nil, List.flatMap_cons, List.flatMap_nil, SV.refs, Cell.refs, List.nil_append, List.cons_append, List.append_nil]; rfl)
       case h => (first | exact next_spec _ _ _ hl hr (by omega) | exact rnew_spec .. | exact rtake_spec (.mk _ _ _ _ _) _ _ | exact rtok_spec (.mk _ _ _ _ _) | exact rvalid_spec (.mk _ _ _ _ _))
       case hf => ((simp only [List.forall_mem_cons, List.not_mem_nil, false_implies, implies_true, and_true, hpL', lookR, Nat.reduceEqDiff, if_true, if_false]) <;> (repeat' apply And.intro) <;> exact ⟨_, rfl, Ints_isG _⟩)
       case hg => simp [SV.noG, SV.noGL, Cell.noG]
       case' hk => simp only [bkc, go_sem, Nat.reduceEqDiff, Nat.reduceAdd, Nat.reduceSub, Nat.reduceMul, Nat.reduceLT, Nat.reduceLeDiff, ↓reduceIte, reduceCtorEq, List.reduceReplicate, Int.cast_ofNat_Int, SV.ren, SV.renL, Cell.ren])
    | (apply cl_plain
       case hs => rfl
       case ha => (simp only [List.map_cons, List.map_nil, prepV, prepC, idx, hpL', lookR, Nat.reduceEqDiff, if_true, if_false]; rfl)
       case h => (first | exact next_spec _ _ _ hl hr (by omega) | exact rnew_spec .. | exact rtake_spec (.mk _ _ _ _ _) _ _ | exact rtok_spec (.mk _ _ _ _ _) | exact rvalid_spec (.mk _ _ _ _ _))
       case' hk => simp only [bkc, go_sem, Nat.reduceEqDiff, Nat.reduceAdd, Nat.reduceSub, Nat.reduceMul, Nat.reduceLT, Nat.reduceLeDiff, ↓reduceIte, reduceCtorEq, List.reduceReplicate, Int.cast_ofNat_Int, SV.ren, SV.renL, Cell.ren, Row.ren, renO, bk, back, outUpsFrom, Ints_ren])
    | (apply cl_lend
       case hr => (simp only [List.map_cons, List.map_nil, hpL', lookR, Nat.reduceEqDiff, if_true, if_false]; first | exact map1 _ | exact map2 _ _ | exact map3 _ _ _)
       case ha => (simp only [List.map_cons, List.map_nil, prepV, prepC, idx, hpL', lookR, Nat.reduceEqDiff, if_true, if_false]; rfl)
       case hs => rfl
       case hn => decide
       case h => (first | exact next_spec _ _ _ hl hr (by omega) | exact rnew_spec .. | exact rtake_spec (.mk _ _ _ _ _) _ _ | exact rtok_spec (.mk _ _ _ _ _) | exact rvalid_spec (.mk _ _ _ _ _))
       case hf => (simp only [List.forall_mem_cons, List.not_mem_nil, false_implies, implies_true, and_true, true_and, flat_cons, flat_nil, flat_ints, flat_app, Cell.refs, and_self, eq_self_iff_true, List.append_nil])
       case hl => (simp only [List.length_cons, List.length_nil]; decide)
       case' hk => simp only [bkc, go_sem, Nat.reduceEqDiff, Nat.reduceAdd, Nat.reduceSub, Nat.reduceMul, Nat.reduceLT, Nat.reduceLeDiff, ↓reduceIte, reduceCtorEq, List.reduceReplicate, Int.cast_ofNat_Int, SV.ren, SV.renL, Cell.ren, Row.ren, renO, bk, back, outUpsFrom, Ints_ren])
    | (apply cl_show
       case ha => (simp only [List.map_cons, List.map_nil, prepV, prepC, idx, hpL', lookR, Nat.reduceEqDiff, if_true, if_false]; rfl)
       case hs => ((simp [snaps, SV.refs, Cell.refs, idx, hpL', lookR]) <;> (repeat' apply And.intro) <;> exact Ints_isG _)
       case h => (first | exact next_spec _ _ _ hl hr (by omega) | exact rnew_spec .. | exact rtake_spec (.mk _ _ _ _ _) _ _ | exact rtok_spec (.mk _ _ _ _ _) | exact rvalid_spec (.mk _ _ _ _ _))
       case hg => ((simp [SV.noG, SV.noGL, Cell.noG]) <;> (repeat' apply And.intro) <;> exact Ints_noG _)
       case' hk => simp only [bkc, go_sem, Nat.reduceEqDiff, Nat.reduceAdd, Nat.reduceSub, Nat.reduceMul, Nat.reduceLT, Nat.reduceLeDiff, ↓reduceIte, reduceCtorEq, List.reduceReplicate, Int.cast_ofNat_Int, SV.ren, SV.renL, Cell.ren, Row.ren, renO, bk, back, outUpsFrom, Ints_ren])
    | (apply cl_use
       case hr => (simp only [List.map_cons, List.map_nil, hpL', lookR, Nat.reduceEqDiff, if_true, if_false]; first | exact map0 | exact map1 _ | exact map2 _ _ | exact map3 _ _ _)
       case ha => (simp only [List.map_cons, List.map_nil, prepV, prepC, idx, hpL', lookR, Nat.reduceEqDiff, if_true, if_false]; rfl)
       case hs => (simp only [snaps, SV.refs, Cell.refs, idx, List.flatMap_cons, List.flatMap_nil, List.nil_append, List.cons_append, List.append_nil, List.filter_cons, List.filter_nil, Nat.reduceEqDiff, if_true, if_false, Option.isNone_none, Option.isNone_some, Bool.false_eq_true, reduceCtorEq, ↓reduceIte]; rfl)
       case hn => decide
       case h => (first | exact next_spec _ _ _ hl hr (by omega) | exact rnew_spec .. | exact rtake_spec (.mk _ _ _ _ _) _ _ | exact rtok_spec (.mk _ _ _ _ _) | exact rvalid_spec (.mk _ _ _ _ _))
       case hf => (simp only [List.forall_mem_cons, List.not_mem_nil, false_implies, implies_true, and_true, true_and, flat_cons, flat_nil, flat_ints, flat_app, Cell.refs, and_self, eq_self_iff_true, List.append_nil])
       case hg => ((simp [hpL', lookR, Cell.isG]) <;> (repeat' apply And.intro) <;> exact Ints_isG _)
       case hl => (simp only [List.length_cons, List.length_nil]; decide)
       case' hk => simp only [bkc, go_sem, Nat.reduceEqDiff, Nat.reduceAdd, Nat.reduceSub, Nat.reduceMul, Nat.reduceLT, Nat.reduceLeDiff, ↓reduceIte, reduceCtorEq, List.reduceReplicate, Int.cast_ofNat_Int, SV.ren, SV.renL, Cell.ren, Row.ren, renO, bk, back, outUpsFrom, Ints_ren])
    | (apply fs_nil <;> (try simp only [go_sem, resV, resS, SV.ren, SV.renL, Cell.ren, St.tmF, St.hpF, idx, renO, Row.ren, evS, slot, lookR, Nat.reduceEqDiff, ↓reduceIte, reduceCtorEq, if_true, if_false, Option.getD_some, Option.getD_none, List.map_cons, List.map_nil, sLoad, readAt, readNeed, Ints_ren, Ints_length, Ints_getD, and_true, true_and, List.getD_cons_zero, List.getD_cons_succ]) <;> (try rfl)))
    all_goals simp only [Bool.not_eq_true', Bool.not_eq_false', decide_eq_true_eq, decide_eq_false_iff_not, Bool.or_eq_true, Bool.or_eq_false_iff, Bool.and_eq_true] at *
    · have e : mkB l i = ((bnew 3 2 10 0).1, k) := by
        unfold mkB; rw [h2']; simp only [h, Bool.false_eq_true, if_false]
      rw [e]
      (refine fs_flat [(0, dice l k)] (by simp) (by simp only [List.map_cons, List.map_nil]; decide) (by simp only [go_sem, resV, resS, SV.ren, SV.renL, Cell.ren, St.tmF, St.hpF, idx, renO, Row.ren, evS, slot, lookR, Nat.reduceEqDiff, ↓reduceIte, reduceCtorEq, if_true, if_false, Option.getD_some, Option.getD_none, List.map_cons, List.map_nil, sLoad, readAt, readNeed, Ints_ren, Ints_length, Ints_getD, and_true, true_and, List.getD_cons_zero, List.getD_cons_succ]; try decide) ?_ (by simp only [List.forall_mem_cons, List.not_mem_nil, false_implies, implies_true, and_true, St.hpF, lookR, Nat.reduceEqDiff, if_true, if_false, ↓reduceIte] <;> (repeat' apply And.intro) <;> (first | rfl | trivial)) (by simp only [List.forall_mem_cons, List.not_mem_nil, false_implies, implies_true, and_true, true_and, flat_cons, flat_nil, flat_ints, flat_app, Cell.refs, and_self, eq_self_iff_true, List.append_nil]) ?_ <;> (try simp only [go_sem, resV, resS, SV.ren, SV.renL, Cell.ren, St.tmF, St.hpF, idx, renO, Row.ren, evS, slot, lookR, Nat.reduceEqDiff, ↓reduceIte, reduceCtorEq, if_true, if_false, Option.getD_some, Option.getD_none, List.map_cons, List.map_nil, sLoad, readAt, readNeed, Ints_ren, Ints_length, Ints_getD, and_true, true_and, List.getD_cons_zero, List.getD_cons_succ]) <;> (try rfl))
    · have e : mkB l i = (⟨r, p, s, lv, t⟩, k) := by
        unfold mkB; rw [h2']; simp only [h, if_true]
      rw [e]
      (refine fs_flat [(0, dice l k)] (by simp) (by simp only [List.map_cons, List.map_nil]; decide) (by simp only [go_sem, resV, resS, SV.ren, SV.renL, Cell.ren, St.tmF, St.hpF, idx, renO, Row.ren, evS, slot, lookR, Nat.reduceEqDiff, ↓reduceIte, reduceCtorEq, if_true, if_false, Option.getD_some, Option.getD_none, List.map_cons, List.map_nil, sLoad, readAt, readNeed, Ints_ren, Ints_length, Ints_getD, and_true, true_and, List.getD_cons_zero, List.getD_cons_succ]; try decide) ?_ (by simp only [List.forall_mem_cons, List.not_mem_nil, false_implies, implies_true, and_true, St.hpF, lookR, Nat.reduceEqDiff, if_true, if_false, ↓reduceIte] <;> (repeat' apply And.intro) <;> (first | rfl | trivial)) (by simp only [List.forall_mem_cons, List.not_mem_nil, false_implies, implies_true, and_true, true_and, flat_cons, flat_nil, flat_ints, flat_app, Cell.refs, and_self, eq_self_iff_true, List.append_nil]) ?_ <;> (try simp only [go_sem, resV, resS, SV.ren, SV.renL, Cell.ren, St.tmF, St.hpF, idx, renO, Row.ren, evS, slot, lookR, Nat.reduceEqDiff, ↓reduceIte, reduceCtorEq, if_true, if_false, Option.getD_some, Option.getD_none, List.map_cons, List.map_nil, sLoad, readAt, readNeed, Ints_ren, Ints_length, Ints_getD, and_true, true_and, List.getD_cons_zero, List.getD_cons_succ]) <;> (try rfl))
  | succ n =>
    obtain ⟨r, p, s, lv, t⟩ := b
    simp only [go_sem, Nat.reduceEqDiff, Nat.reduceAdd, Nat.reduceSub, Nat.reduceMul, Nat.reduceLT, Nat.reduceLeDiff, ↓reduceIte, reduceCtorEq, List.reduceReplicate, Int.cast_ofNat_Int, bkc]
    repeat' (first
    | with_reducible refine And.intro ?_ ?_
    | (unfold OKC; kernel_rfl)
    | (apply okc_up <;> (first | ((repeat (first | exact Sub.nil | apply Sub.gfp | apply Sub.same)); done) | kernel_rfl))
    | (unfold EDG; kernel_rfl)
    | (intros; (try simp only [Bool.and_eq_true, Bool.or_eq_true, Bool.not_eq_true', Bool.not_eq_false', Bool.and_eq_false_iff, Bool.or_eq_false_iff, decide_eq_true_eq, decide_eq_false_iff_not] at *); omega)
    | (refine cd_if (fun h => ?_) (fun h => ?_) <;> (first | (simp only [h, bkc, go_sem, Nat.reduceEqDiff, Nat.reduceAdd, Nat.reduceSub, Nat.reduceMul, Nat.reduceLT, Nat.reduceLeDiff, ↓reduceIte, reduceCtorEq, List.reduceReplicate, Int.cast_ofNat_Int]; done) | simp only [h, bkc, go_sem, Nat.reduceEqDiff, Nat.reduceAdd, Nat.reduceSub, Nat.reduceMul, Nat.reduceLT, Nat.reduceLeDiff, ↓reduceIte, reduceCtorEq, List.reduceReplicate, Int.cast_ofNat_Int] | skip))
    | (apply cg_tp
       case hl => rfl
       case ha => (simp only [List.map_cons, List.map_nil, prepV, prepC, idx, hpL', lookR, Nat.reduceEqDiff, if_true, if_false]; rfl)
       case hs => rfl
       case h => (first | exact next_spec _ _ _ hl hr (by omega) | exact rnew_spec .. | exact rtake_spec (.mk _ _ _ _ _) _ _ | exact rtok_spec (.mk _ _ _ _ _) | exact rvalid_spec (.mk _ _ _ _ _))
       case' hk => simp only [bkc, go_sem, Nat.reduceEqDiff, Nat.reduceAdd, Nat.reduceSub, Nat.reduceMul, Nat.reduceLT, Nat.reduceLeDiff, ↓reduceIte, reduceCtorEq, List.reduceReplicate, Int.cast_ofNat_Int, SV.ren, SV.renL, Cell.ren])
    | (apply cg_ts
       case hl => rfl
       case ha => (simp only [List.map_cons, List.map_nil, prepV, prepC, idx, hpL', lookR, Nat.reduceEqDiff, if_true, if_false]; rfl)
       case hs => (simp only [snaps_nil, List.flatMap_cons, List.flatMap_nil, SV.refs, Cell.refs, List.nil_append, List.cons_append, List.append_nil]; rfl)
       case h => (first | exact next_spec _ _ _ hl hr (by omega) | exact rnew_spec .. | exact rtake_spec (.mk _ _ _ _ _) _ _ | exact rtok_spec (.mk _ _ _ _ _) | exact rvalid_spec (.mk _ _ _ _ _))
       case hf => ((simp only [List.forall_mem_cons, List.not_mem_nil, false_implies, implies_true, and_true, hpL', lookR, Nat.reduceEqDiff, if_true, if_false]) <;> (repeat' apply And.intro) <;> exact ⟨_, rfl, Ints_isG _⟩)
       case hg => simp [SV.noG, SV.noGL, Cell.noG]
       case' hk => simp only [bkc, go_sem, Nat.reduceEqDiff, Nat.reduceAdd, Nat.reduceSub, Nat.reduceMul, Nat.reduceLT, Nat.reduceLeDiff, ↓reduceIte, reduceCtorEq, List.reduceReplicate, Int.cast_ofNat_Int, SV.ren, SV.renL, Cell.ren])
    | (apply cg_any
       case hl => rfl
       case ha => (intro hb; simp only [List.map_cons, List.map_nil, cnd, hb, if_true, prepV, prepC, idx, hpL', lookR, Nat.reduceEqDiff, if_false]; rfl)
       case hs => (intro hb; simp only [cnd, hb, if_true]; rfl)
       case h => (first | exact next_spec _ _ _ hl hr (by omega) | exact rnew_spec .. | exact rtake_spec (.mk _ _ _ _ _) _ _ | exact rtok_spec (.mk _ _ _ _ _) | exact rvalid_spec (.mk _ _ _ _ _))
       case' hk => simp only [bkc, go_sem, Nat.reduceEqDiff, Nat.reduceAdd, Nat.reduceSub, Nat.reduceMul, Nat.reduceLT, Nat.reduceLeDiff, ↓reduceIte, reduceCtorEq, List.reduceReplicate, Int.cast_ofNat_Int, SV.ren, SV.renL, Cell.ren])
    | (apply cg_show
       case hl => rfl
       case ha => (intro hb; simp only [List.map_cons, List.map_nil, cnd, hb, if_true, prepV, prepC, idx, hpL', lookR, Nat.reduceEqDiff, if_false]; rfl)
       case hs => (intro hb; simp only [cnd, hb, if_true, snaps_nil, List.flatMap_cons, List.flatMap_nil, SV.refs, Cell.refs, List.nil_append, List.cons_append, List.append_nil]; rfl)
       case h => (first | exact next_spec _ _ _ hl hr (by omega) | exact rnew_spec .. | exact rtake_spec (.mk _ _ _ _ _) _ _ | exact rtok_spec (.mk _ _ _ _ _) | exact rvalid_spec (.mk _ _ _ _ _))
       case hf => ((simp only [List.forall_mem_cons, List.not_mem_nil, false_implies, implies_true, and_true, hpL', lookR, Nat.reduceEqDiff, if_true, if_false]) <;> (repeat' apply And.intro) <;> exact ⟨_, rfl, Ints_isG _⟩)
       case hg => simp [SV.noG, SV.noGL, Cell.noG]
       case' hk => simp only [bkc, go_sem, Nat.reduceEqDiff, Nat.reduceAdd, Nat.reduceSub, Nat.reduceMul, Nat.reduceLT, Nat.reduceLeDiff, ↓reduceIte, reduceCtorEq, List.reduceReplicate, Int.cast_ofNat_Int, SV.ren, SV.renL, Cell.ren])
    | (apply cl_plain
       case hs => rfl
       case ha => (simp only [List.map_cons, List.map_nil, prepV, prepC, idx, hpL', lookR, Nat.reduceEqDiff, if_true, if_false]; rfl)
       case h => (first | exact next_spec _ _ _ hl hr (by omega) | exact rnew_spec .. | exact rtake_spec (.mk _ _ _ _ _) _ _ | exact rtok_spec (.mk _ _ _ _ _) | exact rvalid_spec (.mk _ _ _ _ _))
       case' hk => simp only [bkc, go_sem, Nat.reduceEqDiff, Nat.reduceAdd, Nat.reduceSub, Nat.reduceMul, Nat.reduceLT, Nat.reduceLeDiff, ↓reduceIte, reduceCtorEq, List.reduceReplicate, Int.cast_ofNat_Int, SV.ren, SV.renL, Cell.ren, Row.ren, renO, bk, back, outUpsFrom, Ints_ren])
    | (apply cl_lend
       case hr => (simp only [List.map_cons, List.map_nil, hpL', lookR, Nat.reduceEqDiff, if_true, if_false]; first | exact map1 _ | exact map2 _ _ | exact map3 _ _ _)
       case ha => (simp only [List.map_cons, List.map_nil, prepV, prepC, idx, hpL', lookR, Nat.reduceEqDiff, if_true, if_false]; rfl)
       case hs => rfl
       case hn => decide
       case h => (first | exact next_spec _ _ _ hl hr (by omega) | exact rnew_spec .. | exact rtake_spec (.mk _ _ _ _ _) _ _ | exact rtok_spec (.mk _ _ _ _ _) | exact rvalid_spec (.mk _ _ _ _ _))
       case hf => (simp only [List.forall_mem_cons, List.not_mem_nil, false_implies, implies_true, and_true, true_and, flat_cons, flat_nil, flat_ints, flat_app, Cell.refs, and_self, eq_self_iff_true, List.append_nil])
       case hl => (simp only [List.length_cons, List.length_nil]; decide)
       case' hk => simp only [bkc, go_sem, Nat.reduceEqDiff, Nat.reduceAdd, Nat.reduceSub, Nat.reduceMul, Nat.reduceLT, Nat.reduceLeDiff, ↓reduceIte, reduceCtorEq, List.reduceReplicate, Int.cast_ofNat_Int, SV.ren, SV.renL, Cell.ren, Row.ren, renO, bk, back, outUpsFrom, Ints_ren])
    | (apply cl_show
       case ha => (simp only [List.map_cons, List.map_nil, prepV, prepC, idx, hpL', lookR, Nat.reduceEqDiff, if_true, if_false]; rfl)
       case hs => ((simp [snaps, SV.refs, Cell.refs, idx, hpL', lookR]) <;> (repeat' apply And.intro) <;> exact Ints_isG _)
       case h => (first | exact next_spec _ _ _ hl hr (by omega) | exact rnew_spec .. | exact rtake_spec (.mk _ _ _ _ _) _ _ | exact rtok_spec (.mk _ _ _ _ _) | exact rvalid_spec (.mk _ _ _ _ _))
       case hg => ((simp [SV.noG, SV.noGL, Cell.noG]) <;> (repeat' apply And.intro) <;> exact Ints_noG _)
       case' hk => simp only [bkc, go_sem, Nat.reduceEqDiff, Nat.reduceAdd, Nat.reduceSub, Nat.reduceMul, Nat.reduceLT, Nat.reduceLeDiff, ↓reduceIte, reduceCtorEq, List.reduceReplicate, Int.cast_ofNat_Int, SV.ren, SV.renL, Cell.ren, Row.ren, renO, bk, back, outUpsFrom, Ints_ren])
    | (apply cl_use
       case hr => (simp only [List.map_cons, List.map_nil, hpL', lookR, Nat.reduceEqDiff, if_true, if_false]; first | exact map0 | exact map1 _ | exact map2 _ _ | exact map3 _ _ _)
       case ha => (simp only [List.map_cons, List.map_nil, prepV, prepC, idx, hpL', lookR, Nat.reduceEqDiff, if_true, if_false]; rfl)
       case hs => (simp only [snaps, SV.refs, Cell.refs, idx, List.flatMap_cons, List.flatMap_nil, List.nil_append, List.cons_append, List.append_nil, List.filter_cons, List.filter_nil, Nat.reduceEqDiff, if_true, if_false, Option.isNone_none, Option.isNone_some, Bool.false_eq_true, reduceCtorEq, ↓reduceIte]; rfl)
       case hn => decide
       case h => (first | exact next_spec _ _ _ hl hr (by omega) | exact rnew_spec .. | exact rtake_spec (.mk _ _ _ _ _) _ _ | exact rtok_spec (.mk _ _ _ _ _) | exact rvalid_spec (.mk _ _ _ _ _))
       case hf => (simp only [List.forall_mem_cons, List.not_mem_nil, false_implies, implies_true, and_true, true_and, flat_cons, flat_nil, flat_ints, flat_app, Cell.refs, and_self, eq_self_iff_true, List.append_nil])
       case hg => ((simp [hpL', lookR, Cell.isG]) <;> (repeat' apply And.intro) <;> exact Ints_isG _)
       case hl => (simp only [List.length_cons, List.length_nil]; decide)
       case' hk => simp only [bkc, go_sem, Nat.reduceEqDiff, Nat.reduceAdd, Nat.reduceSub, Nat.reduceMul, Nat.reduceLT, Nat.reduceLeDiff, ↓reduceIte, reduceCtorEq, List.reduceReplicate, Int.cast_ofNat_Int, SV.ren, SV.renL, Cell.ren, Row.ren, renO, bk, back, outUpsFrom, Ints_ren])
    | (apply fs_nil <;> (try simp only [go_sem, resV, resS, SV.ren, SV.renL, Cell.ren, St.tmF, St.hpF, idx, renO, Row.ren, evS, slot, lookR, Nat.reduceEqDiff, ↓reduceIte, reduceCtorEq, if_true, if_false, Option.getD_some, Option.getD_none, List.map_cons, List.map_nil, sLoad, readAt, readNeed, Ints_ren, Ints_length, Ints_getD, and_true, true_and, List.getD_cons_zero, List.getD_cons_succ]) <;> (try rfl)))
    all_goals simp only [Bool.not_eq_true', Bool.not_eq_false', decide_eq_true_eq, decide_eq_false_iff_not, Bool.or_eq_true, Bool.or_eq_false_iff, Bool.and_eq_true] at *
    all_goals skip
    all_goals try omega
    all_goals
      have e : mkL l n (mkS l (⟨r, p, s, lv, t⟩, k)) = mk1 l i := h2
      have g4 := btake_t ⟨r, p, s, lv, t⟩ (t + nxV l k 9) (nxV l (nxA l k 9) (1 + btok ⟨r, p, s, lv, t⟩))
      refine le_mk (n, mkS l (⟨r, p, s, lv, t⟩, k)) ?_ ⟨by simp only; omega, e, g4.1, g4.2⟩ (by simp only; omega)
      (refine imp_ren _ _ _ [(0, 0, dice l (mkS l (⟨r, p, s, lv, t⟩, k)).2), (1, 1, ⟨bkc bz, 5⟩), (2, 2, ⟨bkc (mkS l (⟨r, p, s, lv, t⟩, k)).1, 5⟩)] (by simp) (by simp) (by simp) (Nat.le_of_ble_eq_true rfl) ?_ rfl (by simp only [List.forall_mem_cons, List.not_mem_nil, false_implies, implies_true, and_true, St.hpF, lookR, Nat.reduceEqDiff, if_true, if_false, ↓reduceIte, mkS] <;> (repeat' apply And.intro) <;> (first | rfl | trivial)) (by simp only [List.forall_mem_cons, List.not_mem_nil, false_implies, implies_true, and_true, true_and, flat_cons, flat_nil, flat_ints, flat_app, Cell.refs, and_self, eq_self_iff_true, List.append_nil, mkS]); simp only [List.map_cons, List.map_nil, List.forall_mem_cons, List.not_mem_nil, false_implies, implies_true, and_true, lk, slot, SV.ren, Cell.ren, toN, Nat.reduceEqDiff, if_true, if_false, ↓reduceIte, reduceCtorEq])
      rw [show ((n + 1 : Nat) : Int) - 1 = n by omega]
      all_goals ((repeat' apply And.intro) <;> (first | rfl | trivial))
end Go.Proofs.Ytcfkmkabjalgjac
