/- Contracts of functions, told of values, on the way to DivideTrees. -/
import Derived.Test.YtcfkmkabjalgjabTyAb
import Derived.Test.YtcfkmkabjalgjabDvSharesAb
import Derived.Test.YtcfkmkabjalgjabDvTmAb
namespace Go.Proofs.Ytcfkmkabjalgjab
set_option linter.unusedVariables false
set_option linter.unusedSimpArgs false
open Go.Proofs.Ytcfkmkabjalgjab.Sh
def parN (l : List Int) (i0 n : Nat) : Nat → List Int × Nat
  | 0 => (List.replicate n 0, i0)
  | j + 1 => ((parN l i0 n j).1.set j (nxV l (parN l i0 n j).2 ((j : Int) + 1) - 1), nxA l (parN l i0 n j).2 ((j : Int) + 1))
theorem parN_len (l : List Int) (i0 n : Nat) : ∀ j, (parN l i0 n j).1.length = n
  | 0 => by simp [parN]
  | j + 1 => by simp [parN, parN_len l i0 n j]
theorem parN_par (l : List Int) (i0 n : Nat) : ∀ j, j ≤ n → par (parN l i0 n j).1 j
  | 0, _ => fun i hi => by omega
  | j + 1, hj => fun i hi => by
    have h := nxV_rng l (parN l i0 n j).2 ((j : Int) + 1) (by omega)
    rw [parN, getD_setI _ _ _ _ (by rw [parN_len]; omega)]
    by_cases e : i = j
    · rw [if_pos e]; omega
    · rw [if_neg e]; exact parN_par l i0 n j (by omega) i (by omega)
def one (ps : List Int) (p : Int) (j : Nat) : Int := if ps.getD j 0 = p then 1 else 0
theorem one_pos (ps : List Int) (p : Int) : ∀ n, 0 ≤ sm (one ps p) n ∧ sm (one ps p) n ≤ n ∧ (0 < sm (one ps p) n ↔ ∃ j, j < n ∧ ps.getD j 0 = p)
  | 0 => by simp [sm]
  | n + 1 => by
    obtain ⟨h1, h2, h3⟩ := one_pos ps p n
    simp only [sm]
    by_cases e : ps.getD n 0 = p
    · have : one ps p n = 1 := by unfold one; rw [if_pos e]
      rw [this]
      exact ⟨by omega, by omega, fun _ => ⟨n, by omega, e⟩, fun _ => by omega⟩
    · have : one ps p n = 0 := by unfold one; rw [if_neg e]
      rw [this, Int.add_zero]
      refine ⟨h1, by omega, fun h => ?_, fun ⟨j, h4, h5⟩ => ?_⟩
      · obtain ⟨j, h4, h5⟩ := h3.1 h
        exact ⟨j, by omega, h5⟩
      · refine h3.2 ⟨j, ?_, h5⟩
        rcases Nat.lt_or_ge j n with h | h
        · exact h
        · have : j = n := by omega
          subst this; exact absurd h5 e
theorem trees_spec (l : List Int) (t : Int) (hl : ∀ x ∈ l, -9223372036854775808 ≤ x ∧ x ≤ 9223372036854775807) (ht : 0 ≤ t ∧ t ≤ 65535) : FnSpec Try.prog 7 [gi l none, .one (.sc (.int .u16 t))] [] (b1 true) [] := by
  by_cases hlen : (l.length : Int) ≤ 600
  case neg =>
    refine fnspec_of mixed TT_ok TT_cl ⟨fun _ => false, fun f => if f = 12 then [0] else if f = 17 then [0] else [], 0, fun _ => false, fun _ => false⟩ Try.func7 rfl (by kernel_rfl) rfl 126 rfl [.tmp 4] rfl ?_
    simp only [go_sem, Nat.reduceEqDiff, Nat.reduceAdd, Nat.reduceSub, Nat.reduceMul, Nat.reduceLT, Nat.reduceLeDiff, ↓reduceIte, reduceCtorEq, List.reduceReplicate, Int.cast_ofNat_Int]
    repeat' (first
    | with_reducible refine And.intro ?_ ?_
    | (unfold OKC; kernel_rfl)
    | (apply okc_up <;> (first | ((repeat (first | exact Sub.nil | apply Sub.gfp | apply Sub.same)); done) | kernel_rfl))
    | (unfold EDG; kernel_rfl)
    | (intros; (try simp only [Bool.and_eq_true, Bool.or_eq_true, Bool.not_eq_true', Bool.not_eq_false', Bool.and_eq_false_iff, Bool.or_eq_false_iff, decide_eq_true_eq, decide_eq_false_iff_not] at *); omega)
    | (refine cd_if (fun h => ?_) (fun h => ?_) <;> (first | (simp only [h, decide_eq_false hlen, go_sem, Nat.reduceEqDiff, Nat.reduceAdd, Nat.reduceSub, Nat.reduceMul, Nat.reduceLT, Nat.reduceLeDiff, ↓reduceIte, reduceCtorEq, List.reduceReplicate, Int.cast_ofNat_Int]; done) | simp only [h, decide_eq_false hlen, go_sem, Nat.reduceEqDiff, Nat.reduceAdd, Nat.reduceSub, Nat.reduceMul, Nat.reduceLT, Nat.reduceLeDiff, ↓reduceIte, reduceCtorEq, List.reduceReplicate, Int.cast_ofNat_Int] | skip))
    | (apply cg_tp
       case hl => rfl
       case ha => (simp only [List.map_cons, List.map_nil, prepV, prepC, idx, hpL', lookR, Nat.reduceEqDiff, if_true, if_false]; rfl)
       case hs => rfl
       case h => (first | exact light_spec .. | exact sane_spec ..)
       case' hk => simp only [decide_eq_false hlen, go_sem, Nat.reduceEqDiff, Nat.reduceAdd, Nat.reduceSub, Nat.reduceMul, Nat.reduceLT, Nat.reduceLeDiff, ↓reduceIte, reduceCtorEq, List.reduceReplicate, Int.cast_ofNat_Int, SV.ren, SV.renL, Cell.ren])
    | (apply cg_ts
       case hl => rfl
       case ha => (simp only [List.map_cons, List.map_nil, prepV, prepC, idx, hpL', lookR, Nat.reduceEqDiff, if_true, if_false]; rfl)
       case hs => (simp only [snaps_nil, List.flatMap_cons, List.flatMap_nil, SV.refs, Cell.refs, List.nil_append, List.cons_append, List.append_nil]; rfl)
       case h => (first | exact light_spec .. | exact sane_spec ..)
       case hf => ((simp only [List.forall_mem_cons, List.not_mem_nil, false_implies, implies_true, and_true, hpL', lookR, Nat.reduceEqDiff, if_true, if_false]) <;> (repeat' apply And.intro) <;> exact ⟨_, rfl, Ints_isG _⟩)
       case hg => simp [SV.noG, SV.noGL, Cell.noG]
       case' hk => simp only [decide_eq_false hlen, go_sem, Nat.reduceEqDiff, Nat.reduceAdd, Nat.reduceSub, Nat.reduceMul, Nat.reduceLT, Nat.reduceLeDiff, ↓reduceIte, reduceCtorEq, List.reduceReplicate, Int.cast_ofNat_Int, SV.ren, SV.renL, Cell.ren])
    | (apply cg_any
       case hl => rfl
       case ha => (intro hb; simp only [List.map_cons, List.map_nil, cnd, hb, if_true, prepV, prepC, idx, hpL', lookR, Nat.reduceEqDiff, if_false]; rfl)
       case hs => (intro hb; simp only [cnd, hb, if_true]; rfl)
       case h => (first | exact light_spec .. | exact sane_spec ..)
       case' hk => simp only [decide_eq_false hlen, go_sem, Nat.reduceEqDiff, Nat.reduceAdd, Nat.reduceSub, Nat.reduceMul, Nat.reduceLT, Nat.reduceLeDiff, ↓reduceIte, reduceCtorEq, List.reduceReplicate, Int.cast_ofNat_Int, SV.ren, SV.renL, Cell.ren])
    | (apply cg_show
       case hl => rfl
       case ha => (intro hb; simp only [List.map_cons, List.map_nil, cnd, hb, if_true, prepV, prepC, idx, hpL', lookR, Nat.reduceEqDiff, if_false]; rfl)
       case hs => (intro hb; simp only [cnd, hb, if_true, snaps_nil, List.flatMap_cons, List.flatMap_nil, SV.refs, Cell.refs, List.nil_append, List.cons_append, List.append_nil]; rfl)
       case h => (first | exact light_spec .. | exact sane_spec ..)
       case hf => ((simp only [List.forall_mem_cons, List.not_mem_nil, false_implies, implies_true, and_true, hpL', lookR, Nat.reduceEqDiff, if_true, if_false]) <;> (repeat' apply And.intro) <;> exact ⟨_, rfl, Ints_isG _⟩)
       case hg => simp [SV.noG, SV.noGL, Cell.noG]
       case' hk => simp only [decide_eq_false hlen, go_sem, Nat.reduceEqDiff, Nat.reduceAdd, Nat.reduceSub, Nat.reduceMul, Nat.reduceLT, Nat.reduceLeDiff, ↓reduceIte, reduceCtorEq, List.reduceReplicate, Int.cast_ofNat_Int, SV.ren, SV.renL, Cell.ren])
    | (apply cl_plain
       case hs => rfl
       case ha => (simp only [List.map_cons, List.map_nil, prepV, prepC, idx, hpL', lookR, Nat.reduceEqDiff, if_true, if_false]; rfl)
       case h => (first | exact light_spec .. | exact sane_spec ..)
       case' hk => simp only [decide_eq_false hlen, go_sem, Nat.reduceEqDiff, Nat.reduceAdd, Nat.reduceSub, Nat.reduceMul, Nat.reduceLT, Nat.reduceLeDiff, ↓reduceIte, reduceCtorEq, List.reduceReplicate, Int.cast_ofNat_Int, SV.ren, SV.renL, Cell.ren, Row.ren, renO, bk, back, outUpsFrom, Ints_ren])
    | (apply cl_lend
       case hr => (simp only [List.map_cons, List.map_nil, hpL', lookR, Nat.reduceEqDiff, if_true, if_false]; first | exact map1 _ | exact map2 _ _ | exact map3 _ _ _)
       case ha => (simp only [List.map_cons, List.map_nil, prepV, prepC, idx, hpL', lookR, Nat.reduceEqDiff, if_true, if_false]; rfl)
       case hs => rfl
       case hn => decide
       case h => (first | exact light_spec .. | exact sane_spec ..)
       case hf => (simp only [List.forall_mem_cons, List.not_mem_nil, false_implies, implies_true, and_true, true_and, flat_cons, flat_nil, flat_ints, flat_bools, flat_app, Cell.refs, and_self, eq_self_iff_true, List.append_nil])
       case hl => (simp only [List.length_cons, List.length_nil]; decide)
       case' hk => simp only [decide_eq_false hlen, go_sem, Nat.reduceEqDiff, Nat.reduceAdd, Nat.reduceSub, Nat.reduceMul, Nat.reduceLT, Nat.reduceLeDiff, ↓reduceIte, reduceCtorEq, List.reduceReplicate, Int.cast_ofNat_Int, SV.ren, SV.renL, Cell.ren, Row.ren, renO, bk, back, outUpsFrom, Ints_ren])
    | (apply cl_show
       case ha => (simp only [List.map_cons, List.map_nil, prepV, prepC, idx, hpL', lookR, Nat.reduceEqDiff, if_true, if_false]; rfl)
       case hs => ((simp [snaps, SV.refs, Cell.refs, idx, hpL', lookR]) <;> (repeat' apply And.intro) <;> exact Ints_isG _)
       case h => (first | exact light_spec .. | exact sane_spec ..)
       case hg => ((simp [SV.noG, SV.noGL, Cell.noG]) <;> (repeat' apply And.intro) <;> exact Ints_noG _)
       case' hk => simp only [decide_eq_false hlen, go_sem, Nat.reduceEqDiff, Nat.reduceAdd, Nat.reduceSub, Nat.reduceMul, Nat.reduceLT, Nat.reduceLeDiff, ↓reduceIte, reduceCtorEq, List.reduceReplicate, Int.cast_ofNat_Int, SV.ren, SV.renL, Cell.ren, Row.ren, renO, bk, back, outUpsFrom, Ints_ren])
    | (apply cl_use
       case hr => (simp only [List.map_cons, List.map_nil, hpL', lookR, Nat.reduceEqDiff, if_true, if_false]; first | exact map0 | exact map1 _ | exact map2 _ _ | exact map3 _ _ _)
       case ha => (simp only [List.map_cons, List.map_nil, prepV, prepC, idx, hpL', lookR, Nat.reduceEqDiff, if_true, if_false]; rfl)
       case hs => (simp only [snaps, SV.refs, Cell.refs, idx, List.flatMap_cons, List.flatMap_nil, List.nil_append, List.cons_append, List.append_nil, List.filter_cons, List.filter_nil, Nat.reduceEqDiff, if_true, if_false, Option.isNone_none, Option.isNone_some, Bool.false_eq_true, reduceCtorEq, ↓reduceIte]; rfl)
       case hn => decide
       case h => (first | exact light_spec .. | exact sane_spec ..)
       case hf => (simp only [List.forall_mem_cons, List.not_mem_nil, false_implies, implies_true, and_true, true_and, flat_cons, flat_nil, flat_ints, flat_bools, flat_app, Cell.refs, and_self, eq_self_iff_true, List.append_nil])
       case hg => ((simp [hpL', lookR, Cell.isG]) <;> (repeat' apply And.intro) <;> exact Ints_isG _)
       case hl => (simp only [List.length_cons, List.length_nil]; decide)
       case' hk => simp only [decide_eq_false hlen, go_sem, Nat.reduceEqDiff, Nat.reduceAdd, Nat.reduceSub, Nat.reduceMul, Nat.reduceLT, Nat.reduceLeDiff, ↓reduceIte, reduceCtorEq, List.reduceReplicate, Int.cast_ofNat_Int, SV.ren, SV.renL, Cell.ren, Row.ren, renO, bk, back, outUpsFrom, Ints_ren])
    | (apply fs_nil <;> (try simp only [go_sem, resV, resS, SV.ren, SV.renL, Cell.ren, St.tmF, St.hpF, idx, renO, Row.ren, evS, slot, lookR, Nat.reduceEqDiff, ↓reduceIte, reduceCtorEq, if_true, if_false, Option.getD_some, Option.getD_none, List.map_cons, List.map_nil, sLoad, readAt, readNeed, Ints_ren, Ints_length, Ints_getD, and_true, true_and, List.getD_cons_zero, List.getD_cons_succ]) <;> (try rfl)))
  have hl6 : l.length ≤ 600 := by omega
  have hk1 := Int.tmod_nonneg (a := t) 2000 ht.1
  have hk2 := Int.tmod_lt_of_pos t (b := 2000) (by omega)
  have hv0 := drValid l 0 (t.tmod 2000) (by omega)
  have hK := drK_le l 0
  have hWl := drW_len l 0
  have hDl := drD_len l 0
  refine fnspec_of mixed TT_ok TT_cl ⟨fun _ => false, fun f => if f = 12 then [0] else if f = 17 then [0] else [], 0, fun _ => false, fun _ => false⟩ Try.func7 rfl (by kernel_rfl) rfl 126 rfl [.tmp 4] rfl ?_
  simp only [go_sem, Nat.reduceEqDiff, Nat.reduceAdd, Nat.reduceSub, Nat.reduceMul, Nat.reduceLT, Nat.reduceLeDiff, ↓reduceIte, reduceCtorEq, List.reduceReplicate, Int.cast_ofNat_Int]
  repeat' (first
    | with_reducible refine And.intro ?_ ?_
    | (unfold OKC; kernel_rfl)
    | (apply okc_up <;> (first | ((repeat (first | exact Sub.nil | apply Sub.gfp | apply Sub.same)); done) | kernel_rfl))
    | (unfold EDG; kernel_rfl)
    | (intros; (try simp only [Bool.and_eq_true, Bool.or_eq_true, Bool.not_eq_true', Bool.not_eq_false', Bool.and_eq_false_iff, Bool.or_eq_false_iff, decide_eq_true_eq, decide_eq_false_iff_not] at *); omega)
    | (refine cd_if (fun h => ?_) (fun h => ?_) <;> (first | (simp only [h, decide_eq_true hlen, go_sem, Nat.reduceEqDiff, Nat.reduceAdd, Nat.reduceSub, Nat.reduceMul, Nat.reduceLT, Nat.reduceLeDiff, ↓reduceIte, reduceCtorEq, List.reduceReplicate, Int.cast_ofNat_Int]; done) | simp only [h, decide_eq_true hlen, go_sem, Nat.reduceEqDiff, Nat.reduceAdd, Nat.reduceSub, Nat.reduceMul, Nat.reduceLT, Nat.reduceLeDiff, ↓reduceIte, reduceCtorEq, List.reduceReplicate, Int.cast_ofNat_Int] | skip))
    | (apply cg_tp
       case hl => rfl
       case ha => (simp only [List.map_cons, List.map_nil, prepV, prepC, idx, hpL', lookR, Nat.reduceEqDiff, if_true, if_false]; rfl)
       case hs => rfl
       case h => (first | exact light_spec .. | exact sane_spec .. | exact roll_spec .. | exact draw_spec _ _ (by omega) hl)
       case' hk => simp only [decide_eq_true hlen, go_sem, Nat.reduceEqDiff, Nat.reduceAdd, Nat.reduceSub, Nat.reduceMul, Nat.reduceLT, Nat.reduceLeDiff, ↓reduceIte, reduceCtorEq, List.reduceReplicate, Int.cast_ofNat_Int, SV.ren, SV.renL, Cell.ren])
    | (apply cg_ts
       case hl => rfl
       case ha => (simp only [List.map_cons, List.map_nil, prepV, prepC, idx, hpL', lookR, Nat.reduceEqDiff, if_true, if_false]; rfl)
       case hs => (simp only [snaps_nil, List.flatMap_cons, List.flatMap_nil, SV.refs, Cell.refs, List.nil_append, List.cons_append, List.append_nil]; rfl)
       case h => (first | exact light_spec .. | exact sane_spec .. | exact roll_spec .. | exact draw_spec _ _ (by omega) hl)
       case hf => ((simp only [List.forall_mem_cons, List.not_mem_nil, false_implies, implies_true, and_true, hpL', lookR, Nat.reduceEqDiff, if_true, if_false]) <;> (repeat' apply And.intro) <;> exact ⟨_, rfl, Ints_isG _⟩)
       case hg => simp [SV.noG, SV.noGL, Cell.noG]
       case' hk => simp only [decide_eq_true hlen, go_sem, Nat.reduceEqDiff, Nat.reduceAdd, Nat.reduceSub, Nat.reduceMul, Nat.reduceLT, Nat.reduceLeDiff, ↓reduceIte, reduceCtorEq, List.reduceReplicate, Int.cast_ofNat_Int, SV.ren, SV.renL, Cell.ren])
    | (apply cg_any
       case hl => rfl
       case ha => (intro hb; simp only [List.map_cons, List.map_nil, cnd, hb, if_true, prepV, prepC, idx, hpL', lookR, Nat.reduceEqDiff, if_false]; rfl)
       case hs => (intro hb; simp only [cnd, hb, if_true]; rfl)
       case h => (first | exact light_spec .. | exact sane_spec .. | exact roll_spec .. | exact draw_spec _ _ (by omega) hl)
       case' hk => simp only [decide_eq_true hlen, go_sem, Nat.reduceEqDiff, Nat.reduceAdd, Nat.reduceSub, Nat.reduceMul, Nat.reduceLT, Nat.reduceLeDiff, ↓reduceIte, reduceCtorEq, List.reduceReplicate, Int.cast_ofNat_Int, SV.ren, SV.renL, Cell.ren])
    | (apply cg_show
       case hl => rfl
       case ha => (intro hb; simp only [List.map_cons, List.map_nil, cnd, hb, if_true, prepV, prepC, idx, hpL', lookR, Nat.reduceEqDiff, if_false]; rfl)
       case hs => (intro hb; simp only [cnd, hb, if_true, snaps_nil, List.flatMap_cons, List.flatMap_nil, SV.refs, Cell.refs, List.nil_append, List.cons_append, List.append_nil]; rfl)
       case h => (first | exact light_spec .. | exact sane_spec .. | exact roll_spec .. | exact draw_spec _ _ (by omega) hl)
       case hf => ((simp only [List.forall_mem_cons, List.not_mem_nil, false_implies, implies_true, and_true, hpL', lookR, Nat.reduceEqDiff, if_true, if_false]) <;> (repeat' apply And.intro) <;> exact ⟨_, rfl, Ints_isG _⟩)
       case hg => simp [SV.noG, SV.noGL, Cell.noG]
       case' hk => simp only [decide_eq_true hlen, go_sem, Nat.reduceEqDiff, Nat.reduceAdd, Nat.reduceSub, Nat.reduceMul, Nat.reduceLT, Nat.reduceLeDiff, ↓reduceIte, reduceCtorEq, List.reduceReplicate, Int.cast_ofNat_Int, SV.ren, SV.renL, Cell.ren])
    | (apply cl_plain
       case hs => rfl
       case ha => (simp only [List.map_cons, List.map_nil, prepV, prepC, idx, hpL', lookR, Nat.reduceEqDiff, if_true, if_false]; rfl)
       case h => (first | exact light_spec .. | exact sane_spec .. | exact roll_spec .. | exact draw_spec _ _ (by omega) hl)
       case' hk => simp only [decide_eq_true hlen, go_sem, Nat.reduceEqDiff, Nat.reduceAdd, Nat.reduceSub, Nat.reduceMul, Nat.reduceLT, Nat.reduceLeDiff, ↓reduceIte, reduceCtorEq, List.reduceReplicate, Int.cast_ofNat_Int, SV.ren, SV.renL, Cell.ren, Row.ren, renO, bk, back, outUpsFrom, Ints_ren])
    | (apply cl_lend
       case hr => (simp only [List.map_cons, List.map_nil, hpL', lookR, Nat.reduceEqDiff, if_true, if_false]; first | exact map1 _ | exact map2 _ _ | exact map3 _ _ _)
       case ha => (simp only [List.map_cons, List.map_nil, prepV, prepC, idx, hpL', lookR, Nat.reduceEqDiff, if_true, if_false]; rfl)
       case hs => rfl
       case hn => decide
       case h => (first | exact light_spec .. | exact sane_spec .. | exact roll_spec .. | exact draw_spec _ _ (by omega) hl)
       case hf => (simp only [List.forall_mem_cons, List.not_mem_nil, false_implies, implies_true, and_true, true_and, flat_cons, flat_nil, flat_ints, flat_bools, flat_app, Cell.refs, and_self, eq_self_iff_true, List.append_nil])
       case hl => (simp only [List.length_cons, List.length_nil]; decide)
       case' hk => simp only [decide_eq_true hlen, go_sem, Nat.reduceEqDiff, Nat.reduceAdd, Nat.reduceSub, Nat.reduceMul, Nat.reduceLT, Nat.reduceLeDiff, ↓reduceIte, reduceCtorEq, List.reduceReplicate, Int.cast_ofNat_Int, SV.ren, SV.renL, Cell.ren, Row.ren, renO, bk, back, outUpsFrom, Ints_ren])
    | (apply cl_show
       case ha => (simp only [List.map_cons, List.map_nil, prepV, prepC, idx, hpL', lookR, Nat.reduceEqDiff, if_true, if_false]; rfl)
       case hs => ((simp [snaps, SV.refs, Cell.refs, idx, hpL', lookR]) <;> (repeat' apply And.intro) <;> exact Ints_isG _)
       case h => (first | exact light_spec .. | exact sane_spec .. | exact roll_spec .. | exact draw_spec _ _ (by omega) hl)
       case hg => ((simp [SV.noG, SV.noGL, Cell.noG]) <;> (repeat' apply And.intro) <;> exact Ints_noG _)
       case' hk => simp only [decide_eq_true hlen, go_sem, Nat.reduceEqDiff, Nat.reduceAdd, Nat.reduceSub, Nat.reduceMul, Nat.reduceLT, Nat.reduceLeDiff, ↓reduceIte, reduceCtorEq, List.reduceReplicate, Int.cast_ofNat_Int, SV.ren, SV.renL, Cell.ren, Row.ren, renO, bk, back, outUpsFrom, Ints_ren])
    | (apply cl_use
       case hr => (simp only [List.map_cons, List.map_nil, hpL', lookR, Nat.reduceEqDiff, if_true, if_false]; first | exact map0 | exact map1 _ | exact map2 _ _ | exact map3 _ _ _)
       case ha => (simp only [List.map_cons, List.map_nil, prepV, prepC, idx, hpL', lookR, Nat.reduceEqDiff, if_true, if_false]; rfl)
       case hs => (simp only [snaps, SV.refs, Cell.refs, idx, List.flatMap_cons, List.flatMap_nil, List.nil_append, List.cons_append, List.append_nil, List.filter_cons, List.filter_nil, Nat.reduceEqDiff, if_true, if_false, Option.isNone_none, Option.isNone_some, Bool.false_eq_true, reduceCtorEq, ↓reduceIte]; rfl)
       case hn => decide
       case h => (first | exact light_spec .. | exact sane_spec .. | exact roll_spec .. | exact draw_spec _ _ (by omega) hl)
       case hf => (simp only [List.forall_mem_cons, List.not_mem_nil, false_implies, implies_true, and_true, true_and, flat_cons, flat_nil, flat_ints, flat_bools, flat_app, Cell.refs, and_self, eq_self_iff_true, List.append_nil])
       case hg => ((simp [hpL', lookR, Cell.isG]) <;> (repeat' apply And.intro) <;> exact Ints_isG _)
       case hl => (simp only [List.length_cons, List.length_nil]; decide)
       case' hk => simp only [decide_eq_true hlen, go_sem, Nat.reduceEqDiff, Nat.reduceAdd, Nat.reduceSub, Nat.reduceMul, Nat.reduceLT, Nat.reduceLeDiff, ↓reduceIte, reduceCtorEq, List.reduceReplicate, Int.cast_ofNat_Int, SV.ren, SV.renL, Cell.ren, Row.ren, renO, bk, back, outUpsFrom, Ints_ren])
    | (apply fs_nil <;> (try simp only [go_sem, resV, resS, SV.ren, SV.renL, Cell.ren, St.tmF, St.hpF, idx, renO, Row.ren, evS, slot, lookR, Nat.reduceEqDiff, ↓reduceIte, reduceCtorEq, if_true, if_false, Option.getD_some, Option.getD_none, List.map_cons, List.map_nil, sLoad, readAt, readNeed, Ints_ren, Ints_length, Ints_getD, and_true, true_and, List.getD_cons_zero, List.getD_cons_succ]) <;> (try rfl)))
  generalize (drW l 0).1 = W at *
  generalize (drD l 0).1 = D at *
  generalize (drD l 0).2 = i0 at *
  generalize drK l 0 = M at *
  refine w_loop (ι := Nat) (fun j => ⟨[(33, i1 j), (32, i1 M), (1, .one (.sc (.int .u16 t))), (5, .one (.optr 0 0)), (6, .one (.osl 1 0 M none)), (7, .one (.osl 2 0 M none)), (8, .one (.osl 3 0 M (some M)))], [(0, some (dice l (parN l i0 M j).2)), (1, some ⟨Ints W, 1⟩), (2, some ⟨Ints D, 1⟩), (3, some ⟨Ints (parN l i0 M j).1, 1⟩)], 4⟩) (fun j => j ≤ M) (fun j => M - j) 0 ?_ (Nat.zero_le _) ?_
  · (refine imp_ren _ _ _ [(0, 5, dice l i0), (1, 8, ⟨Ints W, 1⟩), (2, 9, ⟨Ints D, 1⟩), (3, 17, ⟨Ints (List.replicate M 0), 1⟩)] (by simp) (by simp) (by simp) (Nat.le_of_ble_eq_true rfl) ?_ rfl (by simp only [List.forall_mem_cons, List.not_mem_nil, false_implies, implies_true, and_true, St.hpF, lookR, Nat.reduceEqDiff, if_true, if_false, ↓reduceIte] <;> (repeat' apply And.intro) <;> (first | rfl | trivial)) (by simp only [List.forall_mem_cons, List.not_mem_nil, false_implies, implies_true, and_true, true_and, flat_cons, flat_nil, flat_ints, flat_bools, flat_app, Cell.refs, and_self, eq_self_iff_true, List.append_nil]); simp only [List.map_cons, List.map_nil, List.forall_mem_cons, List.not_mem_nil, false_implies, implies_true, and_true, lk, slot, SV.ren, Cell.ren, toN, Nat.reduceEqDiff, if_true, if_false, ↓reduceIte, reduceCtorEq])
    all_goals ((repeat' apply And.intro) <;> (first | rfl | trivial))
  intro j hj
  have hpl := parN_len l i0 M j
  rcases Nat.lt_or_ge j M with hlt | hge
  · have hlt2 : (j : Int) < M := by omega
    have hnx := nxV_rng l (parN l i0 M j).2 ((j : Int) + 1) (by omega)
    simp only [go_sem, Nat.reduceEqDiff, Nat.reduceAdd, Nat.reduceSub, Nat.reduceMul, Nat.reduceLT, Nat.reduceLeDiff, ↓reduceIte, reduceCtorEq, List.reduceReplicate, Int.cast_ofNat_Int, decide_eq_true hlt2]
    repeat' (first
    | with_reducible refine And.intro ?_ ?_
    | (unfold OKC; kernel_rfl)
    | (apply okc_up <;> (first | ((repeat (first | exact Sub.nil | apply Sub.gfp | apply Sub.same)); done) | kernel_rfl))
    | (unfold EDG; kernel_rfl)
    | (intros; (try simp only [Bool.and_eq_true, Bool.or_eq_true, Bool.not_eq_true', Bool.not_eq_false', Bool.and_eq_false_iff, Bool.or_eq_false_iff, decide_eq_true_eq, decide_eq_false_iff_not] at *); omega)
    | (refine cd_if (fun h => ?_) (fun h => ?_) <;> (first | (simp only [h, go_sem, Nat.reduceEqDiff, Nat.reduceAdd, Nat.reduceSub, Nat.reduceMul, Nat.reduceLT, Nat.reduceLeDiff, ↓reduceIte, reduceCtorEq, List.reduceReplicate, Int.cast_ofNat_Int]; done) | simp only [h, go_sem, Nat.reduceEqDiff, Nat.reduceAdd, Nat.reduceSub, Nat.reduceMul, Nat.reduceLT, Nat.reduceLeDiff, ↓reduceIte, reduceCtorEq, List.reduceReplicate, Int.cast_ofNat_Int] | skip))
    | (apply cg_tp
       case hl => rfl
       case ha => (simp only [List.map_cons, List.map_nil, prepV, prepC, idx, hpL', lookR, Nat.reduceEqDiff, if_true, if_false]; rfl)
       case hs => rfl
       case h => (first | exact next_spec _ _ _ hl6 hl (by omega))
       case' hk => simp only [go_sem, Nat.reduceEqDiff, Nat.reduceAdd, Nat.reduceSub, Nat.reduceMul, Nat.reduceLT, Nat.reduceLeDiff, ↓reduceIte, reduceCtorEq, List.reduceReplicate, Int.cast_ofNat_Int, SV.ren, SV.renL, Cell.ren])
    | (apply cg_ts
       case hl => rfl
       case ha => (simp only [List.map_cons, List.map_nil, prepV, prepC, idx, hpL', lookR, Nat.reduceEqDiff, if_true, if_false]; rfl)
       case hs => (simp only [snaps_nil, List.flatMap_cons, List.flatMap_nil, SV.refs, Cell.refs, List.nil_append, List.cons_append, List.append_nil]; rfl)
       case h => (first | exact next_spec _ _ _ hl6 hl (by omega))
       case hf => ((simp only [List.forall_mem_cons, List.not_mem_nil, false_implies, implies_true, and_true, hpL', lookR, Nat.reduceEqDiff, if_true, if_false]) <;> (repeat' apply And.intro) <;> exact ⟨_, rfl, Ints_isG _⟩)
       case hg => simp [SV.noG, SV.noGL, Cell.noG]
       case' hk => simp only [go_sem, Nat.reduceEqDiff, Nat.reduceAdd, Nat.reduceSub, Nat.reduceMul, Nat.reduceLT, Nat.reduceLeDiff, ↓reduceIte, reduceCtorEq, List.reduceReplicate, Int.cast_ofNat_Int, SV.ren, SV.renL, Cell.ren])
    | (apply cg_any
       case hl => rfl
       case ha => (intro hb; simp only [List.map_cons, List.map_nil, cnd, hb, if_true, prepV, prepC, idx, hpL', lookR, Nat.reduceEqDiff, if_false]; rfl)
       case hs => (intro hb; simp only [cnd, hb, if_true]; rfl)
       case h => (first | exact next_spec _ _ _ hl6 hl (by omega))
       case' hk => simp only [go_sem, Nat.reduceEqDiff, Nat.reduceAdd, Nat.reduceSub, Nat.reduceMul, Nat.reduceLT, Nat.reduceLeDiff, ↓reduceIte, reduceCtorEq, List.reduceReplicate, Int.cast_ofNat_Int, SV.ren, SV.renL, Cell.ren])
    | (apply cg_show
       case hl => rfl
       case ha => (intro hb; simp only [List.map_cons, List.map_nil, cnd, hb, if_true, prepV, prepC, idx, hpL', lookR, Nat.reduceEqDiff, if_false]; rfl)
       case hs => (intro hb; simp only [cnd, hb, if_true, snaps_nil, List.flatMap_cons, List.flatMap_nil, SV.refs, Cell.refs, List.nil_append, List.cons_append, List.append_nil]; rfl)
       case h => (first | exact next_spec _ _ _ hl6 hl (by omega))
       case hf => ((simp only [List.forall_mem_cons, List.not_mem_nil, false_implies, implies_true, and_true, hpL', lookR, Nat.reduceEqDiff, if_true, if_false]) <;> (repeat' apply And.intro) <;> exact ⟨_, rfl, Ints_isG _⟩)
       case hg => simp [SV.noG, SV.noGL, Cell.noG]
       case' hk => simp only [go_sem, Nat.reduceEqDiff, Nat.reduceAdd, Nat.reduceSub, Nat.reduceMul, Nat.reduceLT, Nat.reduceLeDiff, ↓reduceIte, reduceCtorEq, List.reduceReplicate, Int.cast_ofNat_Int, SV.ren, SV.renL, Cell.ren])
    | (apply cl_plain
       case hs => rfl
       case ha => (simp only [List.map_cons, List.map_nil, prepV, prepC, idx, hpL', lookR, Nat.reduceEqDiff, if_true, if_false]; rfl)
       case h => (first | exact next_spec _ _ _ hl6 hl (by omega))
       case' hk => simp only [go_sem, Nat.reduceEqDiff, Nat.reduceAdd, Nat.reduceSub, Nat.reduceMul, Nat.reduceLT, Nat.reduceLeDiff, ↓reduceIte, reduceCtorEq, List.reduceReplicate, Int.cast_ofNat_Int, SV.ren, SV.renL, Cell.ren, Row.ren, renO, bk, back, outUpsFrom, Ints_ren])
    | (apply cl_lend
       case hr => (simp only [List.map_cons, List.map_nil, hpL', lookR, Nat.reduceEqDiff, if_true, if_false]; first | exact map1 _ | exact map2 _ _ | exact map3 _ _ _)
       case ha => (simp only [List.map_cons, List.map_nil, prepV, prepC, idx, hpL', lookR, Nat.reduceEqDiff, if_true, if_false]; rfl)
       case hs => rfl
       case hn => decide
       case h => (first | exact next_spec _ _ _ hl6 hl (by omega))
       case hf => (simp only [List.forall_mem_cons, List.not_mem_nil, false_implies, implies_true, and_true, true_and, flat_cons, flat_nil, flat_ints, flat_bools, flat_app, Cell.refs, and_self, eq_self_iff_true, List.append_nil])
       case hl => (simp only [List.length_cons, List.length_nil]; decide)
       case' hk => simp only [go_sem, Nat.reduceEqDiff, Nat.reduceAdd, Nat.reduceSub, Nat.reduceMul, Nat.reduceLT, Nat.reduceLeDiff, ↓reduceIte, reduceCtorEq, List.reduceReplicate, Int.cast_ofNat_Int, SV.ren, SV.renL, Cell.ren, Row.ren, renO, bk, back, outUpsFrom, Ints_ren])
    | (apply cl_show
       case ha => (simp only [List.map_cons, List.map_nil, prepV, prepC, idx, hpL', lookR, Nat.reduceEqDiff, if_true, if_false]; rfl)
       case hs => ((simp [snaps, SV.refs, Cell.refs, idx, hpL', lookR]) <;> (repeat' apply And.intro) <;> exact Ints_isG _)
       case h => (first | exact next_spec _ _ _ hl6 hl (by omega))
       case hg => ((simp [SV.noG, SV.noGL, Cell.noG]) <;> (repeat' apply And.intro) <;> exact Ints_noG _)
       case' hk => simp only [go_sem, Nat.reduceEqDiff, Nat.reduceAdd, Nat.reduceSub, Nat.reduceMul, Nat.reduceLT, Nat.reduceLeDiff, ↓reduceIte, reduceCtorEq, List.reduceReplicate, Int.cast_ofNat_Int, SV.ren, SV.renL, Cell.ren, Row.ren, renO, bk, back, outUpsFrom, Ints_ren])
    | (apply cl_use
       case hr => (simp only [List.map_cons, List.map_nil, hpL', lookR, Nat.reduceEqDiff, if_true, if_false]; first | exact map0 | exact map1 _ | exact map2 _ _ | exact map3 _ _ _)
       case ha => (simp only [List.map_cons, List.map_nil, prepV, prepC, idx, hpL', lookR, Nat.reduceEqDiff, if_true, if_false]; rfl)
       case hs => (simp only [snaps, SV.refs, Cell.refs, idx, List.flatMap_cons, List.flatMap_nil, List.nil_append, List.cons_append, List.append_nil, List.filter_cons, List.filter_nil, Nat.reduceEqDiff, if_true, if_false, Option.isNone_none, Option.isNone_some, Bool.false_eq_true, reduceCtorEq, ↓reduceIte]; rfl)
       case hn => decide
       case h => (first | exact next_spec _ _ _ hl6 hl (by omega))
       case hf => (simp only [List.forall_mem_cons, List.not_mem_nil, false_implies, implies_true, and_true, true_and, flat_cons, flat_nil, flat_ints, flat_bools, flat_app, Cell.refs, and_self, eq_self_iff_true, List.append_nil])
       case hg => ((simp [hpL', lookR, Cell.isG]) <;> (repeat' apply And.intro) <;> exact Ints_isG _)
       case hl => (simp only [List.length_cons, List.length_nil]; decide)
       case' hk => simp only [go_sem, Nat.reduceEqDiff, Nat.reduceAdd, Nat.reduceSub, Nat.reduceMul, Nat.reduceLT, Nat.reduceLeDiff, ↓reduceIte, reduceCtorEq, List.reduceReplicate, Int.cast_ofNat_Int, SV.ren, SV.renL, Cell.ren, Row.ren, renO, bk, back, outUpsFrom, Ints_ren]))
    all_goals try omega
    refine le_mk (j + 1) ?_ (by omega) (by omega)
    (refine imp_ren _ _ _ [(0, 0, dice l (parN l i0 M (j + 1)).2), (1, 1, ⟨Ints W, 1⟩), (2, 2, ⟨Ints D, 1⟩), (3, 3, ⟨Ints (parN l i0 M (j + 1)).1, 1⟩)] (by simp) (by simp) (by simp) (Nat.le_of_ble_eq_true rfl) ?_ rfl (by simp only [List.forall_mem_cons, List.not_mem_nil, false_implies, implies_true, and_true, St.hpF, lookR, Nat.reduceEqDiff, if_true, if_false, ↓reduceIte, parN] <;> (repeat' apply And.intro) <;> (first | rfl | trivial)) (by simp only [List.forall_mem_cons, List.not_mem_nil, false_implies, implies_true, and_true, true_and, flat_cons, flat_nil, flat_ints, flat_bools, flat_app, Cell.refs, and_self, eq_self_iff_true, List.append_nil, parN]); simp only [List.map_cons, List.map_nil, List.forall_mem_cons, List.not_mem_nil, false_implies, implies_true, and_true, lk, slot, SV.ren, Cell.ren, toN, Nat.reduceEqDiff, if_true, if_false, ↓reduceIte, reduceCtorEq])
    all_goals ((repeat' apply And.intro) <;> (first | rfl | trivial))
  have hlt2 : ¬ (j : Int) < M := by omega
  have ej : j = M := by omega
  subst ej
  have hpar := parN_par l i0 j j (Nat.le_refl _)
  generalize (parN l i0 j j).1 = P at *
  generalize hkk : t.tmod 2000 = k at *
  have htree := tree_spec k P W D (some j) none none hv0 (by omega) (by rw [hpl]; exact hpar)
  obtain ⟨o1, o2, o3, o4, o5⟩ := trees_ok (ps := P) hv0 (by omega) (by rw [hpl]; exact hpar)
  rw [hpl] at o1 o2 o3 o5
  have hone := fun i => one_pos P i j
  generalize treeV P W D k = X at *
  simp only [gi, hpl, hWl, hDl] at htree
  have hs : ∀ p m, m ≤ j → 0 ≤ sm (chI P X p) m ∧ sm (chI P X p) m ≤ 65536 * m := fun p m hm => sm_rng (B := 65536) (n := j) (fun i hi => by unfold chI; have := o4 i; split <;> omega) m hm
  simp only [go_sem, Nat.reduceEqDiff, Nat.reduceAdd, Nat.reduceSub, Nat.reduceMul, Nat.reduceLT, Nat.reduceLeDiff, ↓reduceIte, reduceCtorEq, List.reduceReplicate, Int.cast_ofNat_Int, decide_eq_false hlt2, hkk]
  repeat' (first
    | with_reducible refine And.intro ?_ ?_
    | (unfold OKC; kernel_rfl)
    | (apply okc_up <;> (first | ((repeat (first | exact Sub.nil | apply Sub.gfp | apply Sub.same)); done) | kernel_rfl))
    | (unfold EDG; kernel_rfl)
    | (intros; (try simp only [Bool.and_eq_true, Bool.or_eq_true, Bool.not_eq_true', Bool.not_eq_false', Bool.and_eq_false_iff, Bool.or_eq_false_iff, decide_eq_true_eq, decide_eq_false_iff_not] at *); omega)
    | (refine cd_if (fun h => ?_) (fun h => ?_) <;> (first | (simp only [h, hkk, go_sem, Nat.reduceEqDiff, Nat.reduceAdd, Nat.reduceSub, Nat.reduceMul, Nat.reduceLT, Nat.reduceLeDiff, ↓reduceIte, reduceCtorEq, List.reduceReplicate, Int.cast_ofNat_Int]; done) | simp only [h, hkk, go_sem, Nat.reduceEqDiff, Nat.reduceAdd, Nat.reduceSub, Nat.reduceMul, Nat.reduceLT, Nat.reduceLeDiff, ↓reduceIte, reduceCtorEq, List.reduceReplicate, Int.cast_ofNat_Int] | skip))
    | (apply cg_tp
       case hl => rfl
       case ha => (simp only [List.map_cons, List.map_nil, prepV, prepC, idx, hpL', lookR, Nat.reduceEqDiff, if_true, if_false]; rfl)
       case hs => rfl
       case h => (first | exact htree ..)
       case' hk => simp only [hkk, go_sem, Nat.reduceEqDiff, Nat.reduceAdd, Nat.reduceSub, Nat.reduceMul, Nat.reduceLT, Nat.reduceLeDiff, ↓reduceIte, reduceCtorEq, List.reduceReplicate, Int.cast_ofNat_Int, SV.ren, SV.renL, Cell.ren])
    | (apply cg_ts
       case hl => rfl
       case ha => (simp only [List.map_cons, List.map_nil, prepV, prepC, idx, hpL', lookR, Nat.reduceEqDiff, if_true, if_false]; rfl)
       case hs => (simp only [snaps_nil, List.flatMap_cons, List.flatMap_nil, SV.refs, Cell.refs, List.nil_append, List.cons_append, List.append_nil]; rfl)
       case h => (first | exact htree ..)
       case hf => ((simp only [List.forall_mem_cons, List.not_mem_nil, false_implies, implies_true, and_true, hpL', lookR, Nat.reduceEqDiff, if_true, if_false]) <;> (repeat' apply And.intro) <;> exact ⟨_, rfl, Ints_isG _⟩)
       case hg => simp [SV.noG, SV.noGL, Cell.noG]
       case' hk => simp only [hkk, go_sem, Nat.reduceEqDiff, Nat.reduceAdd, Nat.reduceSub, Nat.reduceMul, Nat.reduceLT, Nat.reduceLeDiff, ↓reduceIte, reduceCtorEq, List.reduceReplicate, Int.cast_ofNat_Int, SV.ren, SV.renL, Cell.ren])
    | (apply cg_any
       case hl => rfl
       case ha => (intro hb; simp only [List.map_cons, List.map_nil, cnd, hb, if_true, prepV, prepC, idx, hpL', lookR, Nat.reduceEqDiff, if_false]; rfl)
       case hs => (intro hb; simp only [cnd, hb, if_true]; rfl)
       case h => (first | exact htree ..)
       case' hk => simp only [hkk, go_sem, Nat.reduceEqDiff, Nat.reduceAdd, Nat.reduceSub, Nat.reduceMul, Nat.reduceLT, Nat.reduceLeDiff, ↓reduceIte, reduceCtorEq, List.reduceReplicate, Int.cast_ofNat_Int, SV.ren, SV.renL, Cell.ren])
    | (apply cg_show
       case hl => rfl
       case ha => (intro hb; simp only [List.map_cons, List.map_nil, cnd, hb, if_true, prepV, prepC, idx, hpL', lookR, Nat.reduceEqDiff, if_false]; rfl)
       case hs => (intro hb; simp only [cnd, hb, if_true, snaps_nil, List.flatMap_cons, List.flatMap_nil, SV.refs, Cell.refs, List.nil_append, List.cons_append, List.append_nil]; rfl)
       case h => (first | exact htree ..)
       case hf => ((simp only [List.forall_mem_cons, List.not_mem_nil, false_implies, implies_true, and_true, hpL', lookR, Nat.reduceEqDiff, if_true, if_false]) <;> (repeat' apply And.intro) <;> exact ⟨_, rfl, Ints_isG _⟩)
       case hg => simp [SV.noG, SV.noGL, Cell.noG]
       case' hk => simp only [hkk, go_sem, Nat.reduceEqDiff, Nat.reduceAdd, Nat.reduceSub, Nat.reduceMul, Nat.reduceLT, Nat.reduceLeDiff, ↓reduceIte, reduceCtorEq, List.reduceReplicate, Int.cast_ofNat_Int, SV.ren, SV.renL, Cell.ren])
    | (apply cl_plain
       case hs => rfl
       case ha => (simp only [List.map_cons, List.map_nil, prepV, prepC, idx, hpL', lookR, Nat.reduceEqDiff, if_true, if_false]; rfl)
       case h => (first | exact htree ..)
       case' hk => simp only [hkk, go_sem, Nat.reduceEqDiff, Nat.reduceAdd, Nat.reduceSub, Nat.reduceMul, Nat.reduceLT, Nat.reduceLeDiff, ↓reduceIte, reduceCtorEq, List.reduceReplicate, Int.cast_ofNat_Int, SV.ren, SV.renL, Cell.ren, Row.ren, renO, bk, back, outUpsFrom, Ints_ren])
    | (apply cl_lend
       case hr => (simp only [List.map_cons, List.map_nil, hpL', lookR, Nat.reduceEqDiff, if_true, if_false]; first | exact map1 _ | exact map2 _ _ | exact map3 _ _ _)
       case ha => (simp only [List.map_cons, List.map_nil, prepV, prepC, idx, hpL', lookR, Nat.reduceEqDiff, if_true, if_false]; rfl)
       case hs => rfl
       case hn => decide
       case h => (first | exact htree ..)
       case hf => (simp only [List.forall_mem_cons, List.not_mem_nil, false_implies, implies_true, and_true, true_and, flat_cons, flat_nil, flat_ints, flat_bools, flat_app, Cell.refs, and_self, eq_self_iff_true, List.append_nil])
       case hl => (simp only [List.length_cons, List.length_nil]; decide)
       case' hk => simp only [hkk, go_sem, Nat.reduceEqDiff, Nat.reduceAdd, Nat.reduceSub, Nat.reduceMul, Nat.reduceLT, Nat.reduceLeDiff, ↓reduceIte, reduceCtorEq, List.reduceReplicate, Int.cast_ofNat_Int, SV.ren, SV.renL, Cell.ren, Row.ren, renO, bk, back, outUpsFrom, Ints_ren])
    | (apply cl_show
       case ha => (simp only [List.map_cons, List.map_nil, prepV, prepC, idx, hpL', lookR, Nat.reduceEqDiff, if_true, if_false]; rfl)
       case hs => ((simp [snaps, SV.refs, Cell.refs, idx, hpL', lookR]) <;> (repeat' apply And.intro) <;> exact Ints_isG _)
       case h => (first | exact htree ..)
       case hg => ((simp [SV.noG, SV.noGL, Cell.noG]) <;> (repeat' apply And.intro) <;> exact Ints_noG _)
       case' hk => simp only [hkk, go_sem, Nat.reduceEqDiff, Nat.reduceAdd, Nat.reduceSub, Nat.reduceMul, Nat.reduceLT, Nat.reduceLeDiff, ↓reduceIte, reduceCtorEq, List.reduceReplicate, Int.cast_ofNat_Int, SV.ren, SV.renL, Cell.ren, Row.ren, renO, bk, back, outUpsFrom, Ints_ren])
    | (apply cl_use
       case hr => (simp only [List.map_cons, List.map_nil, hpL', lookR, Nat.reduceEqDiff, if_true, if_false]; first | exact map0 | exact map1 _ | exact map2 _ _ | exact map3 _ _ _)
       case ha => (simp only [List.map_cons, List.map_nil, prepV, prepC, idx, hpL', lookR, Nat.reduceEqDiff, if_true, if_false]; rfl)
       case hs => (simp only [snaps, SV.refs, Cell.refs, idx, List.flatMap_cons, List.flatMap_nil, List.nil_append, List.cons_append, List.append_nil, List.filter_cons, List.filter_nil, Nat.reduceEqDiff, if_true, if_false, Option.isNone_none, Option.isNone_some, Bool.false_eq_true, reduceCtorEq, ↓reduceIte]; rfl)
       case hn => decide
       case h => (first | exact htree ..)
       case hf => (simp only [List.forall_mem_cons, List.not_mem_nil, false_implies, implies_true, and_true, true_and, flat_cons, flat_nil, flat_ints, flat_bools, flat_app, Cell.refs, and_self, eq_self_iff_true, List.append_nil])
       case hg => ((simp [hpL', lookR, Cell.isG]) <;> (repeat' apply And.intro) <;> exact Ints_isG _)
       case hl => (simp only [List.length_cons, List.length_nil]; decide)
       case' hk => simp only [hkk, go_sem, Nat.reduceEqDiff, Nat.reduceAdd, Nat.reduceSub, Nat.reduceMul, Nat.reduceLT, Nat.reduceLeDiff, ↓reduceIte, reduceCtorEq, List.reduceReplicate, Int.cast_ofNat_Int, SV.ren, SV.renL, Cell.ren, Row.ren, renO, bk, back, outUpsFrom, Ints_ren]))
  refine w_loop (ι := Nat) (fun i => ⟨[(60, i1 i), (59, i1 j), (7, .one (.osl 0 0 j none)), (8, .one (.osl 1 0 j (some j))), (10, i1 k), (11, .one (.osl 2 0 j (some j))), (12, i1 (sm (chI P X (-1)) i))], [(0, some ⟨Ints D, 1⟩), (1, some ⟨Ints P, 1⟩), (2, some ⟨Ints X, 1⟩)], 3⟩) (fun i => i ≤ j) (fun i => j - i) 0 ?_ (Nat.zero_le _) ?_
  · (refine imp_ren _ _ _ [(0, 2, ⟨Ints D, 1⟩), (1, 3, ⟨Ints P, 1⟩), (2, 13, ⟨Ints X, 1⟩)] (by simp) (by simp) (by simp) (Nat.le_of_ble_eq_true rfl) ?_ rfl (by simp only [List.forall_mem_cons, List.not_mem_nil, false_implies, implies_true, and_true, St.hpF, lookR, Nat.reduceEqDiff, if_true, if_false, ↓reduceIte] <;> (repeat' apply And.intro) <;> (first | rfl | trivial)) (by simp only [List.forall_mem_cons, List.not_mem_nil, false_implies, implies_true, and_true, true_and, flat_cons, flat_nil, flat_ints, flat_bools, flat_app, Cell.refs, and_self, eq_self_iff_true, List.append_nil]); simp only [List.map_cons, List.map_nil, List.forall_mem_cons, List.not_mem_nil, false_implies, implies_true, and_true, lk, slot, SV.ren, Cell.ren, toN, Nat.reduceEqDiff, if_true, if_false, ↓reduceIte, reduceCtorEq])
    all_goals ((repeat' apply And.intro) <;> (first | rfl | trivial))
  intro i hi
  rcases Nat.lt_or_ge i j with hij | hij
  case inr =>
    have hij2 : ¬ (i : Int) < j := by omega
    have hle : sm (chI P X (-1)) i ≤ k := by rw [show i = j by omega]; exact o3
    simp only [go_sem, Nat.reduceEqDiff, Nat.reduceAdd, Nat.reduceSub, Nat.reduceMul, Nat.reduceLT, Nat.reduceLeDiff, ↓reduceIte, reduceCtorEq, List.reduceReplicate, Int.cast_ofNat_Int, decide_eq_false hij2]
    repeat' (first
    | with_reducible refine And.intro ?_ ?_
    | (unfold OKC; kernel_rfl)
    | (apply okc_up <;> (first | ((repeat (first | exact Sub.nil | apply Sub.gfp | apply Sub.same)); done) | kernel_rfl))
    | (unfold EDG; kernel_rfl)
    | (intros; (try simp only [Bool.and_eq_true, Bool.or_eq_true, Bool.not_eq_true', Bool.not_eq_false', Bool.and_eq_false_iff, Bool.or_eq_false_iff, decide_eq_true_eq, decide_eq_false_iff_not] at *); omega)
    | (refine cd_if (fun h => ?_) (fun h => ?_) <;> (first | (simp only [h, decide_eq_true hle, go_sem, Nat.reduceEqDiff, Nat.reduceAdd, Nat.reduceSub, Nat.reduceMul, Nat.reduceLT, Nat.reduceLeDiff, ↓reduceIte, reduceCtorEq, List.reduceReplicate, Int.cast_ofNat_Int]; done) | simp only [h, decide_eq_true hle, go_sem, Nat.reduceEqDiff, Nat.reduceAdd, Nat.reduceSub, Nat.reduceMul, Nat.reduceLT, Nat.reduceLeDiff, ↓reduceIte, reduceCtorEq, List.reduceReplicate, Int.cast_ofNat_Int] | skip))
    | (apply cg_tp
       case hl => rfl
       case ha => (simp only [List.map_cons, List.map_nil, prepV, prepC, idx, hpL', lookR, Nat.reduceEqDiff, if_true, if_false]; rfl)
       case hs => rfl
       case h => (first | exact sane_spec ..)
       case' hk => simp only [decide_eq_true hle, go_sem, Nat.reduceEqDiff, Nat.reduceAdd, Nat.reduceSub, Nat.reduceMul, Nat.reduceLT, Nat.reduceLeDiff, ↓reduceIte, reduceCtorEq, List.reduceReplicate, Int.cast_ofNat_Int, SV.ren, SV.renL, Cell.ren])
    | (apply cg_ts
       case hl => rfl
       case ha => (simp only [List.map_cons, List.map_nil, prepV, prepC, idx, hpL', lookR, Nat.reduceEqDiff, if_true, if_false]; rfl)
       case hs => (simp only [snaps_nil, List.flatMap_cons, List.flatMap_nil, SV.refs, Cell.refs, List.nil_append, List.cons_append, List.append_nil]; rfl)
       case h => (first | exact sane_spec ..)
       case hf => ((simp only [List.forall_mem_cons, List.not_mem_nil, false_implies, implies_true, and_true, hpL', lookR, Nat.reduceEqDiff, if_true, if_false]) <;> (repeat' apply And.intro) <;> exact ⟨_, rfl, Ints_isG _⟩)
       case hg => simp [SV.noG, SV.noGL, Cell.noG]
       case' hk => simp only [decide_eq_true hle, go_sem, Nat.reduceEqDiff, Nat.reduceAdd, Nat.reduceSub, Nat.reduceMul, Nat.reduceLT, Nat.reduceLeDiff, ↓reduceIte, reduceCtorEq, List.reduceReplicate, Int.cast_ofNat_Int, SV.ren, SV.renL, Cell.ren])
    | (apply cg_any
       case hl => rfl
       case ha => (intro hb; simp only [List.map_cons, List.map_nil, cnd, hb, if_true, prepV, prepC, idx, hpL', lookR, Nat.reduceEqDiff, if_false]; rfl)
       case hs => (intro hb; simp only [cnd, hb, if_true]; rfl)
       case h => (first | exact sane_spec ..)
       case' hk => simp only [decide_eq_true hle, go_sem, Nat.reduceEqDiff, Nat.reduceAdd, Nat.reduceSub, Nat.reduceMul, Nat.reduceLT, Nat.reduceLeDiff, ↓reduceIte, reduceCtorEq, List.reduceReplicate, Int.cast_ofNat_Int, SV.ren, SV.renL, Cell.ren])
    | (apply cg_show
       case hl => rfl
       case ha => (intro hb; simp only [List.map_cons, List.map_nil, cnd, hb, if_true, prepV, prepC, idx, hpL', lookR, Nat.reduceEqDiff, if_false]; rfl)
       case hs => (intro hb; simp only [cnd, hb, if_true, snaps_nil, List.flatMap_cons, List.flatMap_nil, SV.refs, Cell.refs, List.nil_append, List.cons_append, List.append_nil]; rfl)
       case h => (first | exact sane_spec ..)
       case hf => ((simp only [List.forall_mem_cons, List.not_mem_nil, false_implies, implies_true, and_true, hpL', lookR, Nat.reduceEqDiff, if_true, if_false]) <;> (repeat' apply And.intro) <;> exact ⟨_, rfl, Ints_isG _⟩)
       case hg => simp [SV.noG, SV.noGL, Cell.noG]
       case' hk => simp only [decide_eq_true hle, go_sem, Nat.reduceEqDiff, Nat.reduceAdd, Nat.reduceSub, Nat.reduceMul, Nat.reduceLT, Nat.reduceLeDiff, ↓reduceIte, reduceCtorEq, List.reduceReplicate, Int.cast_ofNat_Int, SV.ren, SV.renL, Cell.ren])
    | (apply cl_plain
       case hs => rfl
       case ha => (simp only [List.map_cons, List.map_nil, prepV, prepC, idx, hpL', lookR, Nat.reduceEqDiff, if_true, if_false]; rfl)
       case h => (first | exact sane_spec ..)
       case' hk => simp only [decide_eq_true hle, go_sem, Nat.reduceEqDiff, Nat.reduceAdd, Nat.reduceSub, Nat.reduceMul, Nat.reduceLT, Nat.reduceLeDiff, ↓reduceIte, reduceCtorEq, List.reduceReplicate, Int.cast_ofNat_Int, SV.ren, SV.renL, Cell.ren, Row.ren, renO, bk, back, outUpsFrom, Ints_ren])
    | (apply cl_lend
       case hr => (simp only [List.map_cons, List.map_nil, hpL', lookR, Nat.reduceEqDiff, if_true, if_false]; first | exact map1 _ | exact map2 _ _ | exact map3 _ _ _)
       case ha => (simp only [List.map_cons, List.map_nil, prepV, prepC, idx, hpL', lookR, Nat.reduceEqDiff, if_true, if_false]; rfl)
       case hs => rfl
       case hn => decide
       case h => (first | exact sane_spec ..)
       case hf => (simp only [List.forall_mem_cons, List.not_mem_nil, false_implies, implies_true, and_true, true_and, flat_cons, flat_nil, flat_ints, flat_bools, flat_app, Cell.refs, and_self, eq_self_iff_true, List.append_nil])
       case hl => (simp only [List.length_cons, List.length_nil]; decide)
       case' hk => simp only [decide_eq_true hle, go_sem, Nat.reduceEqDiff, Nat.reduceAdd, Nat.reduceSub, Nat.reduceMul, Nat.reduceLT, Nat.reduceLeDiff, ↓reduceIte, reduceCtorEq, List.reduceReplicate, Int.cast_ofNat_Int, SV.ren, SV.renL, Cell.ren, Row.ren, renO, bk, back, outUpsFrom, Ints_ren])
    | (apply cl_show
       case ha => (simp only [List.map_cons, List.map_nil, prepV, prepC, idx, hpL', lookR, Nat.reduceEqDiff, if_true, if_false]; rfl)
       case hs => ((simp [snaps, SV.refs, Cell.refs, idx, hpL', lookR]) <;> (repeat' apply And.intro) <;> exact Ints_isG _)
       case h => (first | exact sane_spec ..)
       case hg => ((simp [SV.noG, SV.noGL, Cell.noG]) <;> (repeat' apply And.intro) <;> exact Ints_noG _)
       case' hk => simp only [decide_eq_true hle, go_sem, Nat.reduceEqDiff, Nat.reduceAdd, Nat.reduceSub, Nat.reduceMul, Nat.reduceLT, Nat.reduceLeDiff, ↓reduceIte, reduceCtorEq, List.reduceReplicate, Int.cast_ofNat_Int, SV.ren, SV.renL, Cell.ren, Row.ren, renO, bk, back, outUpsFrom, Ints_ren])
    | (apply cl_use
       case hr => (simp only [List.map_cons, List.map_nil, hpL', lookR, Nat.reduceEqDiff, if_true, if_false]; first | exact map0 | exact map1 _ | exact map2 _ _ | exact map3 _ _ _)
       case ha => (simp only [List.map_cons, List.map_nil, prepV, prepC, idx, hpL', lookR, Nat.reduceEqDiff, if_true, if_false]; rfl)
       case hs => (simp only [snaps, SV.refs, Cell.refs, idx, List.flatMap_cons, List.flatMap_nil, List.nil_append, List.cons_append, List.append_nil, List.filter_cons, List.filter_nil, Nat.reduceEqDiff, if_true, if_false, Option.isNone_none, Option.isNone_some, Bool.false_eq_true, reduceCtorEq, ↓reduceIte]; rfl)
       case hn => decide
       case h => (first | exact sane_spec ..)
       case hf => (simp only [List.forall_mem_cons, List.not_mem_nil, false_implies, implies_true, and_true, true_and, flat_cons, flat_nil, flat_ints, flat_bools, flat_app, Cell.refs, and_self, eq_self_iff_true, List.append_nil])
       case hg => ((simp [hpL', lookR, Cell.isG]) <;> (repeat' apply And.intro) <;> exact Ints_isG _)
       case hl => (simp only [List.length_cons, List.length_nil]; decide)
       case' hk => simp only [decide_eq_true hle, go_sem, Nat.reduceEqDiff, Nat.reduceAdd, Nat.reduceSub, Nat.reduceMul, Nat.reduceLT, Nat.reduceLeDiff, ↓reduceIte, reduceCtorEq, List.reduceReplicate, Int.cast_ofNat_Int, SV.ren, SV.renL, Cell.ren, Row.ren, renO, bk, back, outUpsFrom, Ints_ren])
    | (apply fs_nil <;> (try simp only [go_sem, resV, resS, SV.ren, SV.renL, Cell.ren, St.tmF, St.hpF, idx, renO, Row.ren, evS, slot, lookR, Nat.reduceEqDiff, ↓reduceIte, reduceCtorEq, if_true, if_false, Option.getD_some, Option.getD_none, List.map_cons, List.map_nil, sLoad, readAt, readNeed, Ints_ren, Ints_length, Ints_getD, and_true, true_and, List.getD_cons_zero, List.getD_cons_succ]) <;> (try rfl)))
  have hij2 : (i : Int) < j := by omega
  simp only [go_sem, Nat.reduceEqDiff, Nat.reduceAdd, Nat.reduceSub, Nat.reduceMul, Nat.reduceLT, Nat.reduceLeDiff, ↓reduceIte, reduceCtorEq, List.reduceReplicate, Int.cast_ofNat_Int, decide_eq_true hij2]
  repeat' (first
    | with_reducible refine And.intro ?_ ?_
    | (unfold OKC; kernel_rfl)
    | (apply okc_up <;> (first | ((repeat (first | exact Sub.nil | apply Sub.gfp | apply Sub.same)); done) | kernel_rfl))
    | (unfold EDG; kernel_rfl)
    | (intros; (try simp only [Bool.and_eq_true, Bool.or_eq_true, Bool.not_eq_true', Bool.not_eq_false', Bool.and_eq_false_iff, Bool.or_eq_false_iff, decide_eq_true_eq, decide_eq_false_iff_not] at *); omega)
    | (refine cd_if (fun h => ?_) (fun h => ?_) <;> (first | (simp only [h, go_sem, Nat.reduceEqDiff, Nat.reduceAdd, Nat.reduceSub, Nat.reduceMul, Nat.reduceLT, Nat.reduceLeDiff, ↓reduceIte, reduceCtorEq, List.reduceReplicate, Int.cast_ofNat_Int]; done) | simp only [h, go_sem, Nat.reduceEqDiff, Nat.reduceAdd, Nat.reduceSub, Nat.reduceMul, Nat.reduceLT, Nat.reduceLeDiff, ↓reduceIte, reduceCtorEq, List.reduceReplicate, Int.cast_ofNat_Int] | skip))
    | (apply cg_tp
       case hl => rfl
       case ha => (simp only [List.map_cons, List.map_nil, prepV, prepC, idx, hpL', lookR, Nat.reduceEqDiff, if_true, if_false]; rfl)
       case hs => rfl
       case h => (first | exact sane_spec ..)
       case' hk => simp only [go_sem, Nat.reduceEqDiff, Nat.reduceAdd, Nat.reduceSub, Nat.reduceMul, Nat.reduceLT, Nat.reduceLeDiff, ↓reduceIte, reduceCtorEq, List.reduceReplicate, Int.cast_ofNat_Int, SV.ren, SV.renL, Cell.ren])
    | (apply cg_ts
       case hl => rfl
       case ha => (simp only [List.map_cons, List.map_nil, prepV, prepC, idx, hpL', lookR, Nat.reduceEqDiff, if_true, if_false]; rfl)
       case hs => (simp only [snaps_nil, List.flatMap_cons, List.flatMap_nil, SV.refs, Cell.refs, List.nil_append, List.cons_append, List.append_nil]; rfl)
       case h => (first | exact sane_spec ..)
       case hf => ((simp only [List.forall_mem_cons, List.not_mem_nil, false_implies, implies_true, and_true, hpL', lookR, Nat.reduceEqDiff, if_true, if_false]) <;> (repeat' apply And.intro) <;> exact ⟨_, rfl, Ints_isG _⟩)
       case hg => simp [SV.noG, SV.noGL, Cell.noG]
       case' hk => simp only [go_sem, Nat.reduceEqDiff, Nat.reduceAdd, Nat.reduceSub, Nat.reduceMul, Nat.reduceLT, Nat.reduceLeDiff, ↓reduceIte, reduceCtorEq, List.reduceReplicate, Int.cast_ofNat_Int, SV.ren, SV.renL, Cell.ren])
    | (apply cg_any
       case hl => rfl
       case ha => (intro hb; simp only [List.map_cons, List.map_nil, cnd, hb, if_true, prepV, prepC, idx, hpL', lookR, Nat.reduceEqDiff, if_false]; rfl)
       case hs => (intro hb; simp only [cnd, hb, if_true]; rfl)
       case h => (first | exact sane_spec ..)
       case' hk => simp only [go_sem, Nat.reduceEqDiff, Nat.reduceAdd, Nat.reduceSub, Nat.reduceMul, Nat.reduceLT, Nat.reduceLeDiff, ↓reduceIte, reduceCtorEq, List.reduceReplicate, Int.cast_ofNat_Int, SV.ren, SV.renL, Cell.ren])
    | (apply cg_show
       case hl => rfl
       case ha => (intro hb; simp only [List.map_cons, List.map_nil, cnd, hb, if_true, prepV, prepC, idx, hpL', lookR, Nat.reduceEqDiff, if_false]; rfl)
       case hs => (intro hb; simp only [cnd, hb, if_true, snaps_nil, List.flatMap_cons, List.flatMap_nil, SV.refs, Cell.refs, List.nil_append, List.cons_append, List.append_nil]; rfl)
       case h => (first | exact sane_spec ..)
       case hf => ((simp only [List.forall_mem_cons, List.not_mem_nil, false_implies, implies_true, and_true, hpL', lookR, Nat.reduceEqDiff, if_true, if_false]) <;> (repeat' apply And.intro) <;> exact ⟨_, rfl, Ints_isG _⟩)
       case hg => simp [SV.noG, SV.noGL, Cell.noG]
       case' hk => simp only [go_sem, Nat.reduceEqDiff, Nat.reduceAdd, Nat.reduceSub, Nat.reduceMul, Nat.reduceLT, Nat.reduceLeDiff, ↓reduceIte, reduceCtorEq, List.reduceReplicate, Int.cast_ofNat_Int, SV.ren, SV.renL, Cell.ren])
    | (apply cl_plain
       case hs => rfl
       case ha => (simp only [List.map_cons, List.map_nil, prepV, prepC, idx, hpL', lookR, Nat.reduceEqDiff, if_true, if_false]; rfl)
       case h => (first | exact sane_spec ..)
       case' hk => simp only [go_sem, Nat.reduceEqDiff, Nat.reduceAdd, Nat.reduceSub, Nat.reduceMul, Nat.reduceLT, Nat.reduceLeDiff, ↓reduceIte, reduceCtorEq, List.reduceReplicate, Int.cast_ofNat_Int, SV.ren, SV.renL, Cell.ren, Row.ren, renO, bk, back, outUpsFrom, Ints_ren])
    | (apply cl_lend
       case hr => (simp only [List.map_cons, List.map_nil, hpL', lookR, Nat.reduceEqDiff, if_true, if_false]; first | exact map1 _ | exact map2 _ _ | exact map3 _ _ _)
       case ha => (simp only [List.map_cons, List.map_nil, prepV, prepC, idx, hpL', lookR, Nat.reduceEqDiff, if_true, if_false]; rfl)
       case hs => rfl
       case hn => decide
       case h => (first | exact sane_spec ..)
       case hf => (simp only [List.forall_mem_cons, List.not_mem_nil, false_implies, implies_true, and_true, true_and, flat_cons, flat_nil, flat_ints, flat_bools, flat_app, Cell.refs, and_self, eq_self_iff_true, List.append_nil])
       case hl => (simp only [List.length_cons, List.length_nil]; decide)
       case' hk => simp only [go_sem, Nat.reduceEqDiff, Nat.reduceAdd, Nat.reduceSub, Nat.reduceMul, Nat.reduceLT, Nat.reduceLeDiff, ↓reduceIte, reduceCtorEq, List.reduceReplicate, Int.cast_ofNat_Int, SV.ren, SV.renL, Cell.ren, Row.ren, renO, bk, back, outUpsFrom, Ints_ren])
    | (apply cl_show
       case ha => (simp only [List.map_cons, List.map_nil, prepV, prepC, idx, hpL', lookR, Nat.reduceEqDiff, if_true, if_false]; rfl)
       case hs => ((simp [snaps, SV.refs, Cell.refs, idx, hpL', lookR]) <;> (repeat' apply And.intro) <;> exact Ints_isG _)
       case h => (first | exact sane_spec ..)
       case hg => ((simp [SV.noG, SV.noGL, Cell.noG]) <;> (repeat' apply And.intro) <;> exact Ints_noG _)
       case' hk => simp only [go_sem, Nat.reduceEqDiff, Nat.reduceAdd, Nat.reduceSub, Nat.reduceMul, Nat.reduceLT, Nat.reduceLeDiff, ↓reduceIte, reduceCtorEq, List.reduceReplicate, Int.cast_ofNat_Int, SV.ren, SV.renL, Cell.ren, Row.ren, renO, bk, back, outUpsFrom, Ints_ren])
    | (apply cl_use
       case hr => (simp only [List.map_cons, List.map_nil, hpL', lookR, Nat.reduceEqDiff, if_true, if_false]; first | exact map0 | exact map1 _ | exact map2 _ _ | exact map3 _ _ _)
       case ha => (simp only [List.map_cons, List.map_nil, prepV, prepC, idx, hpL', lookR, Nat.reduceEqDiff, if_true, if_false]; rfl)
       case hs => (simp only [snaps, SV.refs, Cell.refs, idx, List.flatMap_cons, List.flatMap_nil, List.nil_append, List.cons_append, List.append_nil, List.filter_cons, List.filter_nil, Nat.reduceEqDiff, if_true, if_false, Option.isNone_none, Option.isNone_some, Bool.false_eq_true, reduceCtorEq, ↓reduceIte]; rfl)
       case hn => decide
       case h => (first | exact sane_spec ..)
       case hf => (simp only [List.forall_mem_cons, List.not_mem_nil, false_implies, implies_true, and_true, true_and, flat_cons, flat_nil, flat_ints, flat_bools, flat_app, Cell.refs, and_self, eq_self_iff_true, List.append_nil])
       case hg => ((simp [hpL', lookR, Cell.isG]) <;> (repeat' apply And.intro) <;> exact Ints_isG _)
       case hl => (simp only [List.length_cons, List.length_nil]; decide)
       case' hk => simp only [go_sem, Nat.reduceEqDiff, Nat.reduceAdd, Nat.reduceSub, Nat.reduceMul, Nat.reduceLT, Nat.reduceLeDiff, ↓reduceIte, reduceCtorEq, List.reduceReplicate, Int.cast_ofNat_Int, SV.ren, SV.renL, Cell.ren, Row.ren, renO, bk, back, outUpsFrom, Ints_ren]))
  refine w_loop (ι := Nat) (fun m => ⟨[(65, i1 m), (64, i1 j), (60, i1 i), (59, i1 j), (7, .one (.osl 0 0 j none)), (8, .one (.osl 1 0 j (some j))), (10, i1 k), (11, .one (.osl 2 0 j (some j))), (12, i1 (sm (chI P X (-1)) i)), (13, i1 i), (14, i1 (sm (one P i) m)), (15, i1 (sm (chI P X i) m))], [(0, some ⟨Ints D, 1⟩), (1, some ⟨Ints P, 1⟩), (2, some ⟨Ints X, 1⟩)], 3⟩) (fun m => m ≤ j) (fun m => j - m) 0 ?_ (Nat.zero_le _) ?_
  · (refine imp_ren _ _ _ [(0, 0, ⟨Ints D, 1⟩), (1, 1, ⟨Ints P, 1⟩), (2, 2, ⟨Ints X, 1⟩)] (by simp) (by simp) (by simp) (Nat.le_of_ble_eq_true rfl) ?_ rfl (by simp only [List.forall_mem_cons, List.not_mem_nil, false_implies, implies_true, and_true, St.hpF, lookR, Nat.reduceEqDiff, if_true, if_false, ↓reduceIte] <;> (repeat' apply And.intro) <;> (first | rfl | trivial)) (by simp only [List.forall_mem_cons, List.not_mem_nil, false_implies, implies_true, and_true, true_and, flat_cons, flat_nil, flat_ints, flat_bools, flat_app, Cell.refs, and_self, eq_self_iff_true, List.append_nil]); simp only [List.map_cons, List.map_nil, List.forall_mem_cons, List.not_mem_nil, false_implies, implies_true, and_true, lk, slot, SV.ren, Cell.ren, toN, Nat.reduceEqDiff, if_true, if_false, ↓reduceIte, reduceCtorEq])
    all_goals ((repeat' apply And.intro) <;> (first | rfl | trivial))
  intro m hm
  rcases Nat.lt_or_ge m j with hmj | hmj
  · have hmj2 : (m : Int) < j := by omega
    have h1 := one_pos P i m
    have h2 := hs i m (by omega)
    have h3 := o4 m
    by_cases hp : P.getD m 0 = (i : Int)
    · have e1 : sm (one P i) (m + 1) = sm (one P i) m + 1 := by simp only [sm]; unfold one; rw [if_pos hp]
      have e2 : sm (chI P X i) (m + 1) = sm (chI P X i) m + X.getD m 0 := by simp only [sm]; congr 1; unfold chI; rw [if_pos hp]
      simp only [go_sem, Nat.reduceEqDiff, Nat.reduceAdd, Nat.reduceSub, Nat.reduceMul, Nat.reduceLT, Nat.reduceLeDiff, ↓reduceIte, reduceCtorEq, List.reduceReplicate, Int.cast_ofNat_Int, decide_eq_true hmj2]
      repeat' (first
    | with_reducible refine And.intro ?_ ?_
    | (unfold OKC; kernel_rfl)
    | (apply okc_up <;> (first | ((repeat (first | exact Sub.nil | apply Sub.gfp | apply Sub.same)); done) | kernel_rfl))
    | (unfold EDG; kernel_rfl)
    | (intros; (try simp only [Bool.and_eq_true, Bool.or_eq_true, Bool.not_eq_true', Bool.not_eq_false', Bool.and_eq_false_iff, Bool.or_eq_false_iff, decide_eq_true_eq, decide_eq_false_iff_not] at *); omega)
    | (refine cd_if (fun h => ?_) (fun h => ?_) <;> (first | (simp only [h, decide_eq_true hp, go_sem, Nat.reduceEqDiff, Nat.reduceAdd, Nat.reduceSub, Nat.reduceMul, Nat.reduceLT, Nat.reduceLeDiff, ↓reduceIte, reduceCtorEq, List.reduceReplicate, Int.cast_ofNat_Int]; done) | simp only [h, decide_eq_true hp, go_sem, Nat.reduceEqDiff, Nat.reduceAdd, Nat.reduceSub, Nat.reduceMul, Nat.reduceLT, Nat.reduceLeDiff, ↓reduceIte, reduceCtorEq, List.reduceReplicate, Int.cast_ofNat_Int] | skip))
    | (apply cg_tp
       case hl => rfl
       case ha => (simp only [List.map_cons, List.map_nil, prepV, prepC, idx, hpL', lookR, Nat.reduceEqDiff, if_true, if_false]; rfl)
       case hs => rfl
       case h => (first | fail)
       case' hk => simp only [decide_eq_true hp, go_sem, Nat.reduceEqDiff, Nat.reduceAdd, Nat.reduceSub, Nat.reduceMul, Nat.reduceLT, Nat.reduceLeDiff, ↓reduceIte, reduceCtorEq, List.reduceReplicate, Int.cast_ofNat_Int, SV.ren, SV.renL, Cell.ren])
    | (apply cg_ts
       case hl => rfl
       case ha => (simp only [List.map_cons, List.map_nil, prepV, prepC, idx, hpL', lookR, Nat.reduceEqDiff, if_true, if_false]; rfl)
       case hs => (simp only [snaps_nil, List.flatMap_cons, List.flatMap_nil, SV.refs, Cell.refs, List.nil_append, List.cons_append, List.append_nil]; rfl)
       case h => (first | fail)
       case hf => ((simp only [List.forall_mem_cons, List.not_mem_nil, false_implies, implies_true, and_true, hpL', lookR, Nat.reduceEqDiff, if_true, if_false]) <;> (repeat' apply And.intro) <;> exact ⟨_, rfl, Ints_isG _⟩)
       case hg => simp [SV.noG, SV.noGL, Cell.noG]
       case' hk => simp only [decide_eq_true hp, go_sem, Nat.reduceEqDiff, Nat.reduceAdd, Nat.reduceSub, Nat.reduceMul, Nat.reduceLT, Nat.reduceLeDiff, ↓reduceIte, reduceCtorEq, List.reduceReplicate, Int.cast_ofNat_Int, SV.ren, SV.renL, Cell.ren])
    | (apply cg_any
       case hl => rfl
       case ha => (intro hb; simp only [List.map_cons, List.map_nil, cnd, hb, if_true, prepV, prepC, idx, hpL', lookR, Nat.reduceEqDiff, if_false]; rfl)
       case hs => (intro hb; simp only [cnd, hb, if_true]; rfl)
       case h => (first | fail)
       case' hk => simp only [decide_eq_true hp, go_sem, Nat.reduceEqDiff, Nat.reduceAdd, Nat.reduceSub, Nat.reduceMul, Nat.reduceLT, Nat.reduceLeDiff, ↓reduceIte, reduceCtorEq, List.reduceReplicate, Int.cast_ofNat_Int, SV.ren, SV.renL, Cell.ren])
    | (apply cg_show
       case hl => rfl
       case ha => (intro hb; simp only [List.map_cons, List.map_nil, cnd, hb, if_true, prepV, prepC, idx, hpL', lookR, Nat.reduceEqDiff, if_false]; rfl)
       case hs => (intro hb; simp only [cnd, hb, if_true, snaps_nil, List.flatMap_cons, List.flatMap_nil, SV.refs, Cell.refs, List.nil_append, List.cons_append, List.append_nil]; rfl)
       case h => (first | fail)
       case hf => ((simp only [List.forall_mem_cons, List.not_mem_nil, false_implies, implies_true, and_true, hpL', lookR, Nat.reduceEqDiff, if_true, if_false]) <;> (repeat' apply And.intro) <;> exact ⟨_, rfl, Ints_isG _⟩)
       case hg => simp [SV.noG, SV.noGL, Cell.noG]
       case' hk => simp only [decide_eq_true hp, go_sem, Nat.reduceEqDiff, Nat.reduceAdd, Nat.reduceSub, Nat.reduceMul, Nat.reduceLT, Nat.reduceLeDiff, ↓reduceIte, reduceCtorEq, List.reduceReplicate, Int.cast_ofNat_Int, SV.ren, SV.renL, Cell.ren])
    | (apply cl_plain
       case hs => rfl
       case ha => (simp only [List.map_cons, List.map_nil, prepV, prepC, idx, hpL', lookR, Nat.reduceEqDiff, if_true, if_false]; rfl)
       case h => (first | fail)
       case' hk => simp only [decide_eq_true hp, go_sem, Nat.reduceEqDiff, Nat.reduceAdd, Nat.reduceSub, Nat.reduceMul, Nat.reduceLT, Nat.reduceLeDiff, ↓reduceIte, reduceCtorEq, List.reduceReplicate, Int.cast_ofNat_Int, SV.ren, SV.renL, Cell.ren, Row.ren, renO, bk, back, outUpsFrom, Ints_ren])
    | (apply cl_lend
       case hr => (simp only [List.map_cons, List.map_nil, hpL', lookR, Nat.reduceEqDiff, if_true, if_false]; first | exact map1 _ | exact map2 _ _ | exact map3 _ _ _)
       case ha => (simp only [List.map_cons, List.map_nil, prepV, prepC, idx, hpL', lookR, Nat.reduceEqDiff, if_true, if_false]; rfl)
       case hs => rfl
       case hn => decide
       case h => (first | fail)
       case hf => (simp only [List.forall_mem_cons, List.not_mem_nil, false_implies, implies_true, and_true, true_and, flat_cons, flat_nil, flat_ints, flat_bools, flat_app, Cell.refs, and_self, eq_self_iff_true, List.append_nil])
       case hl => (simp only [List.length_cons, List.length_nil]; decide)
       case' hk => simp only [decide_eq_true hp, go_sem, Nat.reduceEqDiff, Nat.reduceAdd, Nat.reduceSub, Nat.reduceMul, Nat.reduceLT, Nat.reduceLeDiff, ↓reduceIte, reduceCtorEq, List.reduceReplicate, Int.cast_ofNat_Int, SV.ren, SV.renL, Cell.ren, Row.ren, renO, bk, back, outUpsFrom, Ints_ren])
    | (apply cl_show
       case ha => (simp only [List.map_cons, List.map_nil, prepV, prepC, idx, hpL', lookR, Nat.reduceEqDiff, if_true, if_false]; rfl)
       case hs => ((simp [snaps, SV.refs, Cell.refs, idx, hpL', lookR]) <;> (repeat' apply And.intro) <;> exact Ints_isG _)
       case h => (first | fail)
       case hg => ((simp [SV.noG, SV.noGL, Cell.noG]) <;> (repeat' apply And.intro) <;> exact Ints_noG _)
       case' hk => simp only [decide_eq_true hp, go_sem, Nat.reduceEqDiff, Nat.reduceAdd, Nat.reduceSub, Nat.reduceMul, Nat.reduceLT, Nat.reduceLeDiff, ↓reduceIte, reduceCtorEq, List.reduceReplicate, Int.cast_ofNat_Int, SV.ren, SV.renL, Cell.ren, Row.ren, renO, bk, back, outUpsFrom, Ints_ren])
    | (apply cl_use
       case hr => (simp only [List.map_cons, List.map_nil, hpL', lookR, Nat.reduceEqDiff, if_true, if_false]; first | exact map0 | exact map1 _ | exact map2 _ _ | exact map3 _ _ _)
       case ha => (simp only [List.map_cons, List.map_nil, prepV, prepC, idx, hpL', lookR, Nat.reduceEqDiff, if_true, if_false]; rfl)
       case hs => (simp only [snaps, SV.refs, Cell.refs, idx, List.flatMap_cons, List.flatMap_nil, List.nil_append, List.cons_append, List.append_nil, List.filter_cons, List.filter_nil, Nat.reduceEqDiff, if_true, if_false, Option.isNone_none, Option.isNone_some, Bool.false_eq_true, reduceCtorEq, ↓reduceIte]; rfl)
       case hn => decide
       case h => (first | fail)
       case hf => (simp only [List.forall_mem_cons, List.not_mem_nil, false_implies, implies_true, and_true, true_and, flat_cons, flat_nil, flat_ints, flat_bools, flat_app, Cell.refs, and_self, eq_self_iff_true, List.append_nil])
       case hg => ((simp [hpL', lookR, Cell.isG]) <;> (repeat' apply And.intro) <;> exact Ints_isG _)
       case hl => (simp only [List.length_cons, List.length_nil]; decide)
       case' hk => simp only [decide_eq_true hp, go_sem, Nat.reduceEqDiff, Nat.reduceAdd, Nat.reduceSub, Nat.reduceMul, Nat.reduceLT, Nat.reduceLeDiff, ↓reduceIte, reduceCtorEq, List.reduceReplicate, Int.cast_ofNat_Int, SV.ren, SV.renL, Cell.ren, Row.ren, renO, bk, back, outUpsFrom, Ints_ren]))
      all_goals try omega
      refine le_mk (m + 1) ?_ (by omega) (by omega)
      rw [e1, e2]
      (refine imp_ren _ _ _ [(0, 0, ⟨Ints D, 1⟩), (1, 1, ⟨Ints P, 1⟩), (2, 2, ⟨Ints X, 1⟩)] (by simp) (by simp) (by simp) (Nat.le_of_ble_eq_true rfl) ?_ rfl (by simp only [List.forall_mem_cons, List.not_mem_nil, false_implies, implies_true, and_true, St.hpF, lookR, Nat.reduceEqDiff, if_true, if_false, ↓reduceIte] <;> (repeat' apply And.intro) <;> (first | rfl | trivial)) (by simp only [List.forall_mem_cons, List.not_mem_nil, false_implies, implies_true, and_true, true_and, flat_cons, flat_nil, flat_ints, flat_bools, flat_app, Cell.refs, and_self, eq_self_iff_true, List.append_nil]); simp only [List.map_cons, List.map_nil, List.forall_mem_cons, List.not_mem_nil, false_implies, implies_true, and_true, lk, slot, SV.ren, Cell.ren, toN, Nat.reduceEqDiff, if_true, if_false, ↓reduceIte, reduceCtorEq])
      all_goals ((repeat' apply And.intro) <;> (first | rfl | trivial))
    · have e1 : sm (one P i) (m + 1) = sm (one P i) m := by simp only [sm]; unfold one; rw [if_neg hp]; omega
      have e2 : sm (chI P X i) (m + 1) = sm (chI P X i) m := by simp only [sm]; unfold chI; rw [if_neg hp]; omega
      simp only [go_sem, Nat.reduceEqDiff, Nat.reduceAdd, Nat.reduceSub, Nat.reduceMul, Nat.reduceLT, Nat.reduceLeDiff, ↓reduceIte, reduceCtorEq, List.reduceReplicate, Int.cast_ofNat_Int, decide_eq_true hmj2]
      repeat' (first
    | with_reducible refine And.intro ?_ ?_
    | (unfold OKC; kernel_rfl)
    | (apply okc_up <;> (first | ((repeat (first | exact Sub.nil | apply Sub.gfp | apply Sub.same)); done) | kernel_rfl))
    | (unfold EDG; kernel_rfl)
    | (intros; (try simp only [Bool.and_eq_true, Bool.or_eq_true, Bool.not_eq_true', Bool.not_eq_false', Bool.and_eq_false_iff, Bool.or_eq_false_iff, decide_eq_true_eq, decide_eq_false_iff_not] at *); omega)
    | (refine cd_if (fun h => ?_) (fun h => ?_) <;> (first | (simp only [h, decide_eq_false hp, go_sem, Nat.reduceEqDiff, Nat.reduceAdd, Nat.reduceSub, Nat.reduceMul, Nat.reduceLT, Nat.reduceLeDiff, ↓reduceIte, reduceCtorEq, List.reduceReplicate, Int.cast_ofNat_Int]; done) | simp only [h, decide_eq_false hp, go_sem, Nat.reduceEqDiff, Nat.reduceAdd, Nat.reduceSub, Nat.reduceMul, Nat.reduceLT, Nat.reduceLeDiff, ↓reduceIte, reduceCtorEq, List.reduceReplicate, Int.cast_ofNat_Int] | skip))
    | (apply cg_tp
       case hl => rfl
       case ha => (simp only [List.map_cons, List.map_nil, prepV, prepC, idx, hpL', lookR, Nat.reduceEqDiff, if_true, if_false]; rfl)
       case hs => rfl
       case h => (first | fail)
       case' hk => simp only [decide_eq_false hp, go_sem, Nat.reduceEqDiff, Nat.reduceAdd, Nat.reduceSub, Nat.reduceMul, Nat.reduceLT, Nat.reduceLeDiff, ↓reduceIte, reduceCtorEq, List.reduceReplicate, Int.cast_ofNat_Int, SV.ren, SV.renL, Cell.ren])
    | (apply cg_ts
       case hl => rfl
       case ha => (simp only [List.map_cons, List.map_nil, prepV, prepC, idx, hpL', lookR, Nat.reduceEqDiff, if_true, if_false]; rfl)
       case hs => (simp only [snaps_nil, List.flatMap_cons, List.flatMap_nil, SV.refs, Cell.refs, List.nil_append, List.cons_append, List.append_nil]; rfl)
       case h => (first | fail)
       case hf => ((simp only [List.forall_mem_cons, List.not_mem_nil, false_implies, implies_true, and_true, hpL', lookR, Nat.reduceEqDiff, if_true, if_false]) <;> (repeat' apply And.intro) <;> exact ⟨_, rfl, Ints_isG _⟩)
       case hg => simp [SV.noG, SV.noGL, Cell.noG]
       case' hk => simp only [decide_eq_false hp, go_sem, Nat.reduceEqDiff, Nat.reduceAdd, Nat.reduceSub, Nat.reduceMul, Nat.reduceLT, Nat.reduceLeDiff, ↓reduceIte, reduceCtorEq, List.reduceReplicate, Int.cast_ofNat_Int, SV.ren, SV.renL, Cell.ren])
    | (apply cg_any
       case hl => rfl
       case ha => (intro hb; simp only [List.map_cons, List.map_nil, cnd, hb, if_true, prepV, prepC, idx, hpL', lookR, Nat.reduceEqDiff, if_false]; rfl)
       case hs => (intro hb; simp only [cnd, hb, if_true]; rfl)
       case h => (first | fail)
       case' hk => simp only [decide_eq_false hp, go_sem, Nat.reduceEqDiff, Nat.reduceAdd, Nat.reduceSub, Nat.reduceMul, Nat.reduceLT, Nat.reduceLeDiff, ↓reduceIte, reduceCtorEq, List.reduceReplicate, Int.cast_ofNat_Int, SV.ren, SV.renL, Cell.ren])
    | (apply cg_show
       case hl => rfl
       case ha => (intro hb; simp only [List.map_cons, List.map_nil, cnd, hb, if_true, prepV, prepC, idx, hpL', lookR, Nat.reduceEqDiff, if_false]; rfl)
       case hs => (intro hb; simp only [cnd, hb, if_true, snaps_nil, List.flatMap_cons, List.flatMap_nil, SV.refs, Cell.refs, List.nil_append, List.cons_append, List.append_nil]; rfl)
       case h => (first | fail)
       case hf => ((simp only [List.forall_mem_cons, List.not_mem_nil, false_implies, implies_true, and_true, hpL', lookR, Nat.reduceEqDiff, if_true, if_false]) <;> (repeat' apply And.intro) <;> exact ⟨_, rfl, Ints_isG _⟩)
       case hg => simp [SV.noG, SV.noGL, Cell.noG]
       case' hk => simp only [decide_eq_false hp, go_sem, Nat.reduceEqDiff, Nat.reduceAdd, Nat.reduceSub, Nat.reduceMul, Nat.reduceLT, Nat.reduceLeDiff, ↓reduceIte, reduceCtorEq, List.reduceReplicate, Int.cast_ofNat_Int, SV.ren, SV.renL, Cell.ren])
    | (apply cl_plain
       case hs => rfl
       case ha => (simp only [List.map_cons, List.map_nil, prepV, prepC, idx, hpL', lookR, Nat.reduceEqDiff, if_true, if_false]; rfl)
       case h => (first | fail)
       case' hk => simp only [decide_eq_false hp, go_sem, Nat.reduceEqDiff, Nat.reduceAdd, Nat.reduceSub, Nat.reduceMul, Nat.reduceLT, Nat.reduceLeDiff, ↓reduceIte, reduceCtorEq, List.reduceReplicate, Int.cast_ofNat_Int, SV.ren, SV.renL, Cell.ren, Row.ren, renO, bk, back, outUpsFrom, Ints_ren])
    | (apply cl_lend
       case hr => (simp only [List.map_cons, List.map_nil, hpL', lookR, Nat.reduceEqDiff, if_true, if_false]; first | exact map1 _ | exact map2 _ _ | exact map3 _ _ _)
       case ha => (simp only [List.map_cons, List.map_nil, prepV, prepC, idx, hpL', lookR, Nat.reduceEqDiff, if_true, if_false]; rfl)
       case hs => rfl
       case hn => decide
       case h => (first | fail)
       case hf => (simp only [List.forall_mem_cons, List.not_mem_nil, false_implies, implies_true, and_true, true_and, flat_cons, flat_nil, flat_ints, flat_bools, flat_app, Cell.refs, and_self, eq_self_iff_true, List.append_nil])
       case hl => (simp only [List.length_cons, List.length_nil]; decide)
       case' hk => simp only [decide_eq_false hp, go_sem, Nat.reduceEqDiff, Nat.reduceAdd, Nat.reduceSub, Nat.reduceMul, Nat.reduceLT, Nat.reduceLeDiff, ↓reduceIte, reduceCtorEq, List.reduceReplicate, Int.cast_ofNat_Int, SV.ren, SV.renL, Cell.ren, Row.ren, renO, bk, back, outUpsFrom, Ints_ren])
    | (apply cl_show
       case ha => (simp only [List.map_cons, List.map_nil, prepV, prepC, idx, hpL', lookR, Nat.reduceEqDiff, if_true, if_false]; rfl)
       case hs => ((simp [snaps, SV.refs, Cell.refs, idx, hpL', lookR]) <;> (repeat' apply And.intro) <;> exact Ints_isG _)
       case h => (first | fail)
       case hg => ((simp [SV.noG, SV.noGL, Cell.noG]) <;> (repeat' apply And.intro) <;> exact Ints_noG _)
       case' hk => simp only [decide_eq_false hp, go_sem, Nat.reduceEqDiff, Nat.reduceAdd, Nat.reduceSub, Nat.reduceMul, Nat.reduceLT, Nat.reduceLeDiff, ↓reduceIte, reduceCtorEq, List.reduceReplicate, Int.cast_ofNat_Int, SV.ren, SV.renL, Cell.ren, Row.ren, renO, bk, back, outUpsFrom, Ints_ren])
    | (apply cl_use
       case hr => (simp only [List.map_cons, List.map_nil, hpL', lookR, Nat.reduceEqDiff, if_true, if_false]; first | exact map0 | exact map1 _ | exact map2 _ _ | exact map3 _ _ _)
       case ha => (simp only [List.map_cons, List.map_nil, prepV, prepC, idx, hpL', lookR, Nat.reduceEqDiff, if_true, if_false]; rfl)
       case hs => (simp only [snaps, SV.refs, Cell.refs, idx, List.flatMap_cons, List.flatMap_nil, List.nil_append, List.cons_append, List.append_nil, List.filter_cons, List.filter_nil, Nat.reduceEqDiff, if_true, if_false, Option.isNone_none, Option.isNone_some, Bool.false_eq_true, reduceCtorEq, ↓reduceIte]; rfl)
       case hn => decide
       case h => (first | fail)
       case hf => (simp only [List.forall_mem_cons, List.not_mem_nil, false_implies, implies_true, and_true, true_and, flat_cons, flat_nil, flat_ints, flat_bools, flat_app, Cell.refs, and_self, eq_self_iff_true, List.append_nil])
       case hg => ((simp [hpL', lookR, Cell.isG]) <;> (repeat' apply And.intro) <;> exact Ints_isG _)
       case hl => (simp only [List.length_cons, List.length_nil]; decide)
       case' hk => simp only [decide_eq_false hp, go_sem, Nat.reduceEqDiff, Nat.reduceAdd, Nat.reduceSub, Nat.reduceMul, Nat.reduceLT, Nat.reduceLeDiff, ↓reduceIte, reduceCtorEq, List.reduceReplicate, Int.cast_ofNat_Int, SV.ren, SV.renL, Cell.ren, Row.ren, renO, bk, back, outUpsFrom, Ints_ren]))
      refine le_mk (m + 1) ?_ (by omega) (by omega)
      rw [e1, e2]
      (refine imp_ren _ _ _ [(0, 0, ⟨Ints D, 1⟩), (1, 1, ⟨Ints P, 1⟩), (2, 2, ⟨Ints X, 1⟩)] (by simp) (by simp) (by simp) (Nat.le_of_ble_eq_true rfl) ?_ rfl (by simp only [List.forall_mem_cons, List.not_mem_nil, false_implies, implies_true, and_true, St.hpF, lookR, Nat.reduceEqDiff, if_true, if_false, ↓reduceIte] <;> (repeat' apply And.intro) <;> (first | rfl | trivial)) (by simp only [List.forall_mem_cons, List.not_mem_nil, false_implies, implies_true, and_true, true_and, flat_cons, flat_nil, flat_ints, flat_bools, flat_app, Cell.refs, and_self, eq_self_iff_true, List.append_nil]); simp only [List.map_cons, List.map_nil, List.forall_mem_cons, List.not_mem_nil, false_implies, implies_true, and_true, lk, slot, SV.ren, Cell.ren, toN, Nat.reduceEqDiff, if_true, if_false, ↓reduceIte, reduceCtorEq])
      all_goals ((repeat' apply And.intro) <;> (first | rfl | trivial))
  · have hmj2 : ¬ (m : Int) < j := by omega
    rw [show m = j by omega]
    have h1 := one_pos P i j
    have h2 := hs (-1) i (by omega)
    have h3 := o4 i
    have hcond : ((decide (0 < sm (one P i) j) && !decide (sm (chI P X i) j = X.getD i 0)) || (decide (sm (one P i) j = 0) && decide (D.getD i 0 < X.getD i 0))) = false := by
      by_cases hc : ∃ q, q < j ∧ P.getD q 0 = (i : Int)
      · have := o1 i hij hc
        have h4 := h1.2.2.2 hc
        simp only [this, decide_true, Bool.not_true, Bool.and_false, Bool.false_or, Bool.and_eq_false_iff, decide_eq_false_iff_not]
        exact .inl (by omega)
      · have := o2 i hij hc
        have h4 : ¬ 0 < sm (one P i) j := fun h => hc (h1.2.2.1 h)
        simp only [decide_eq_false h4, Bool.false_and, Bool.false_or, Bool.and_eq_false_iff, decide_eq_false_iff_not]
        exact .inr (by omega)
    by_cases hp : P.getD i 0 = -1
    · have e1 : sm (chI P X (-1)) (i + 1) = sm (chI P X (-1)) i + X.getD i 0 := by simp only [sm]; congr 1; unfold chI; rw [if_pos hp]
      simp only [go_sem, Nat.reduceEqDiff, Nat.reduceAdd, Nat.reduceSub, Nat.reduceMul, Nat.reduceLT, Nat.reduceLeDiff, ↓reduceIte, reduceCtorEq, List.reduceReplicate, Int.cast_ofNat_Int, decide_eq_false hmj2]
      repeat' (first
    | with_reducible refine And.intro ?_ ?_
    | (unfold OKC; kernel_rfl)
    | (apply okc_up <;> (first | ((repeat (first | exact Sub.nil | apply Sub.gfp | apply Sub.same)); done) | kernel_rfl))
    | (unfold EDG; kernel_rfl)
    | (intros; (try simp only [Bool.and_eq_true, Bool.or_eq_true, Bool.not_eq_true', Bool.not_eq_false', Bool.and_eq_false_iff, Bool.or_eq_false_iff, decide_eq_true_eq, decide_eq_false_iff_not] at *); omega)
    | (refine cd_if (fun h => ?_) (fun h => ?_) <;> (first | (simp only [h, decide_eq_true hp, hcond, go_sem, Nat.reduceEqDiff, Nat.reduceAdd, Nat.reduceSub, Nat.reduceMul, Nat.reduceLT, Nat.reduceLeDiff, ↓reduceIte, reduceCtorEq, List.reduceReplicate, Int.cast_ofNat_Int]; done) | simp only [h, decide_eq_true hp, hcond, go_sem, Nat.reduceEqDiff, Nat.reduceAdd, Nat.reduceSub, Nat.reduceMul, Nat.reduceLT, Nat.reduceLeDiff, ↓reduceIte, reduceCtorEq, List.reduceReplicate, Int.cast_ofNat_Int] | skip))
    | (apply cg_tp
       case hl => rfl
       case ha => (simp only [List.map_cons, List.map_nil, prepV, prepC, idx, hpL', lookR, Nat.reduceEqDiff, if_true, if_false]; rfl)
       case hs => rfl
       case h => (first | fail)
       case' hk => simp only [decide_eq_true hp, hcond, go_sem, Nat.reduceEqDiff, Nat.reduceAdd, Nat.reduceSub, Nat.reduceMul, Nat.reduceLT, Nat.reduceLeDiff, ↓reduceIte, reduceCtorEq, List.reduceReplicate, Int.cast_ofNat_Int, SV.ren, SV.renL, Cell.ren])
    | (apply cg_ts
       case hl => rfl
       case ha => (simp only [List.map_cons, List.map_nil, prepV, prepC, idx, hpL', lookR, Nat.reduceEqDiff, if_true, if_false]; rfl)
       case hs => (simp only [snaps_nil, List.flatMap_cons, List.flatMap_nil, SV.refs, Cell.refs, List.nil_append, List.cons_append, List.append_nil]; rfl)
       case h => (first | fail)
       case hf => ((simp only [List.forall_mem_cons, List.not_mem_nil, false_implies, implies_true, and_true, hpL', lookR, Nat.reduceEqDiff, if_true, if_false]) <;> (repeat' apply And.intro) <;> exact ⟨_, rfl, Ints_isG _⟩)
       case hg => simp [SV.noG, SV.noGL, Cell.noG]
       case' hk => simp only [decide_eq_true hp, hcond, go_sem, Nat.reduceEqDiff, Nat.reduceAdd, Nat.reduceSub, Nat.reduceMul, Nat.reduceLT, Nat.reduceLeDiff, ↓reduceIte, reduceCtorEq, List.reduceReplicate, Int.cast_ofNat_Int, SV.ren, SV.renL, Cell.ren])
    | (apply cg_any
       case hl => rfl
       case ha => (intro hb; simp only [List.map_cons, List.map_nil, cnd, hb, if_true, prepV, prepC, idx, hpL', lookR, Nat.reduceEqDiff, if_false]; rfl)
       case hs => (intro hb; simp only [cnd, hb, if_true]; rfl)
       case h => (first | fail)
       case' hk => simp only [decide_eq_true hp, hcond, go_sem, Nat.reduceEqDiff, Nat.reduceAdd, Nat.reduceSub, Nat.reduceMul, Nat.reduceLT, Nat.reduceLeDiff, ↓reduceIte, reduceCtorEq, List.reduceReplicate, Int.cast_ofNat_Int, SV.ren, SV.renL, Cell.ren])
    | (apply cg_show
       case hl => rfl
       case ha => (intro hb; simp only [List.map_cons, List.map_nil, cnd, hb, if_true, prepV, prepC, idx, hpL', lookR, Nat.reduceEqDiff, if_false]; rfl)
       case hs => (intro hb; simp only [cnd, hb, if_true, snaps_nil, List.flatMap_cons, List.flatMap_nil, SV.refs, Cell.refs, List.nil_append, List.cons_append, List.append_nil]; rfl)
       case h => (first | fail)
       case hf => ((simp only [List.forall_mem_cons, List.not_mem_nil, false_implies, implies_true, and_true, hpL', lookR, Nat.reduceEqDiff, if_true, if_false]) <;> (repeat' apply And.intro) <;> exact ⟨_, rfl, Ints_isG _⟩)
       case hg => simp [SV.noG, SV.noGL, Cell.noG]
       case' hk => simp only [decide_eq_true hp, hcond, go_sem, Nat.reduceEqDiff, Nat.reduceAdd, Nat.reduceSub, Nat.reduceMul, Nat.reduceLT, Nat.reduceLeDiff, ↓reduceIte, reduceCtorEq, List.reduceReplicate, Int.cast_ofNat_Int, SV.ren, SV.renL, Cell.ren])
    | (apply cl_plain
       case hs => rfl
       case ha => (simp only [List.map_cons, List.map_nil, prepV, prepC, idx, hpL', lookR, Nat.reduceEqDiff, if_true, if_false]; rfl)
       case h => (first | fail)
       case' hk => simp only [decide_eq_true hp, hcond, go_sem, Nat.reduceEqDiff, Nat.reduceAdd, Nat.reduceSub, Nat.reduceMul, Nat.reduceLT, Nat.reduceLeDiff, ↓reduceIte, reduceCtorEq, List.reduceReplicate, Int.cast_ofNat_Int, SV.ren, SV.renL, Cell.ren, Row.ren, renO, bk, back, outUpsFrom, Ints_ren])
    | (apply cl_lend
       case hr => (simp only [List.map_cons, List.map_nil, hpL', lookR, Nat.reduceEqDiff, if_true, if_false]; first | exact map1 _ | exact map2 _ _ | exact map3 _ _ _)
       case ha => (simp only [List.map_cons, List.map_nil, prepV, prepC, idx, hpL', lookR, Nat.reduceEqDiff, if_true, if_false]; rfl)
       case hs => rfl
       case hn => decide
       case h => (first | fail)
       case hf => (simp only [List.forall_mem_cons, List.not_mem_nil, false_implies, implies_true, and_true, true_and, flat_cons, flat_nil, flat_ints, flat_bools, flat_app, Cell.refs, and_self, eq_self_iff_true, List.append_nil])
       case hl => (simp only [List.length_cons, List.length_nil]; decide)
       case' hk => simp only [decide_eq_true hp, hcond, go_sem, Nat.reduceEqDiff, Nat.reduceAdd, Nat.reduceSub, Nat.reduceMul, Nat.reduceLT, Nat.reduceLeDiff, ↓reduceIte, reduceCtorEq, List.reduceReplicate, Int.cast_ofNat_Int, SV.ren, SV.renL, Cell.ren, Row.ren, renO, bk, back, outUpsFrom, Ints_ren])
    | (apply cl_show
       case ha => (simp only [List.map_cons, List.map_nil, prepV, prepC, idx, hpL', lookR, Nat.reduceEqDiff, if_true, if_false]; rfl)
       case hs => ((simp [snaps, SV.refs, Cell.refs, idx, hpL', lookR]) <;> (repeat' apply And.intro) <;> exact Ints_isG _)
       case h => (first | fail)
       case hg => ((simp [SV.noG, SV.noGL, Cell.noG]) <;> (repeat' apply And.intro) <;> exact Ints_noG _)
       case' hk => simp only [decide_eq_true hp, hcond, go_sem, Nat.reduceEqDiff, Nat.reduceAdd, Nat.reduceSub, Nat.reduceMul, Nat.reduceLT, Nat.reduceLeDiff, ↓reduceIte, reduceCtorEq, List.reduceReplicate, Int.cast_ofNat_Int, SV.ren, SV.renL, Cell.ren, Row.ren, renO, bk, back, outUpsFrom, Ints_ren])
    | (apply cl_use
       case hr => (simp only [List.map_cons, List.map_nil, hpL', lookR, Nat.reduceEqDiff, if_true, if_false]; first | exact map0 | exact map1 _ | exact map2 _ _ | exact map3 _ _ _)
       case ha => (simp only [List.map_cons, List.map_nil, prepV, prepC, idx, hpL', lookR, Nat.reduceEqDiff, if_true, if_false]; rfl)
       case hs => (simp only [snaps, SV.refs, Cell.refs, idx, List.flatMap_cons, List.flatMap_nil, List.nil_append, List.cons_append, List.append_nil, List.filter_cons, List.filter_nil, Nat.reduceEqDiff, if_true, if_false, Option.isNone_none, Option.isNone_some, Bool.false_eq_true, reduceCtorEq, ↓reduceIte]; rfl)
       case hn => decide
       case h => (first | fail)
       case hf => (simp only [List.forall_mem_cons, List.not_mem_nil, false_implies, implies_true, and_true, true_and, flat_cons, flat_nil, flat_ints, flat_bools, flat_app, Cell.refs, and_self, eq_self_iff_true, List.append_nil])
       case hg => ((simp [hpL', lookR, Cell.isG]) <;> (repeat' apply And.intro) <;> exact Ints_isG _)
       case hl => (simp only [List.length_cons, List.length_nil]; decide)
       case' hk => simp only [decide_eq_true hp, hcond, go_sem, Nat.reduceEqDiff, Nat.reduceAdd, Nat.reduceSub, Nat.reduceMul, Nat.reduceLT, Nat.reduceLeDiff, ↓reduceIte, reduceCtorEq, List.reduceReplicate, Int.cast_ofNat_Int, SV.ren, SV.renL, Cell.ren, Row.ren, renO, bk, back, outUpsFrom, Ints_ren]))
      all_goals try omega
      refine le_mk (i + 1) ?_ (by omega) (by omega)
      rw [e1]
      (refine imp_ren _ _ _ [(0, 0, ⟨Ints D, 1⟩), (1, 1, ⟨Ints P, 1⟩), (2, 2, ⟨Ints X, 1⟩)] (by simp) (by simp) (by simp) (Nat.le_of_ble_eq_true rfl) ?_ rfl (by simp only [List.forall_mem_cons, List.not_mem_nil, false_implies, implies_true, and_true, St.hpF, lookR, Nat.reduceEqDiff, if_true, if_false, ↓reduceIte] <;> (repeat' apply And.intro) <;> (first | rfl | trivial)) (by simp only [List.forall_mem_cons, List.not_mem_nil, false_implies, implies_true, and_true, true_and, flat_cons, flat_nil, flat_ints, flat_bools, flat_app, Cell.refs, and_self, eq_self_iff_true, List.append_nil]); simp only [List.map_cons, List.map_nil, List.forall_mem_cons, List.not_mem_nil, false_implies, implies_true, and_true, lk, slot, SV.ren, Cell.ren, toN, Nat.reduceEqDiff, if_true, if_false, ↓reduceIte, reduceCtorEq])
      all_goals ((repeat' apply And.intro) <;> (first | rfl | trivial))
    · have e1 : sm (chI P X (-1)) (i + 1) = sm (chI P X (-1)) i := by simp only [sm]; unfold chI; rw [if_neg hp]; omega
      simp only [go_sem, Nat.reduceEqDiff, Nat.reduceAdd, Nat.reduceSub, Nat.reduceMul, Nat.reduceLT, Nat.reduceLeDiff, ↓reduceIte, reduceCtorEq, List.reduceReplicate, Int.cast_ofNat_Int, decide_eq_false hmj2]
      repeat' (first
    | with_reducible refine And.intro ?_ ?_
    | (unfold OKC; kernel_rfl)
    | (apply okc_up <;> (first | ((repeat (first | exact Sub.nil | apply Sub.gfp | apply Sub.same)); done) | kernel_rfl))
    | (unfold EDG; kernel_rfl)
    | (intros; (try simp only [Bool.and_eq_true, Bool.or_eq_true, Bool.not_eq_true', Bool.not_eq_false', Bool.and_eq_false_iff, Bool.or_eq_false_iff, decide_eq_true_eq, decide_eq_false_iff_not] at *); omega)
    | (refine cd_if (fun h => ?_) (fun h => ?_) <;> (first | (simp only [h, decide_eq_false hp, hcond, go_sem, Nat.reduceEqDiff, Nat.reduceAdd, Nat.reduceSub, Nat.reduceMul, Nat.reduceLT, Nat.reduceLeDiff, ↓reduceIte, reduceCtorEq, List.reduceReplicate, Int.cast_ofNat_Int]; done) | simp only [h, decide_eq_false hp, hcond, go_sem, Nat.reduceEqDiff, Nat.reduceAdd, Nat.reduceSub, Nat.reduceMul, Nat.reduceLT, Nat.reduceLeDiff, ↓reduceIte, reduceCtorEq, List.reduceReplicate, Int.cast_ofNat_Int] | skip))
    | (apply cg_tp
       case hl => rfl
       case ha => (simp only [List.map_cons, List.map_nil, prepV, prepC, idx, hpL', lookR, Nat.reduceEqDiff, if_true, if_false]; rfl)
       case hs => rfl
       case h => (first | fail)
       case' hk => simp only [decide_eq_false hp, hcond, go_sem, Nat.reduceEqDiff, Nat.reduceAdd, Nat.reduceSub, Nat.reduceMul, Nat.reduceLT, Nat.reduceLeDiff, ↓reduceIte, reduceCtorEq, List.reduceReplicate, Int.cast_ofNat_Int, SV.ren, SV.renL, Cell.ren])
    | (apply cg_ts
       case hl => rfl
       case ha => (simp only [List.map_cons, List.map_nil, prepV, prepC, idx, hpL', lookR, Nat.reduceEqDiff, if_true, if_false]; rfl)
       case hs => (simp only [snaps_nil, List.flatMap_cons, List.flatMap_nil, SV.refs, Cell.refs, List.nil_append, List.cons_append, List.append_nil]; rfl)
       case h => (first | fail)
       case hf => ((simp only [List.forall_mem_cons, List.not_mem_nil, false_implies, implies_true, and_true, hpL', lookR, Nat.reduceEqDiff, if_true, if_false]) <;> (repeat' apply And.intro) <;> exact ⟨_, rfl, Ints_isG _⟩)
       case hg => simp [SV.noG, SV.noGL, Cell.noG]
       case' hk => simp only [decide_eq_false hp, hcond, go_sem, Nat.reduceEqDiff, Nat.reduceAdd, Nat.reduceSub, Nat.reduceMul, Nat.reduceLT, Nat.reduceLeDiff, ↓reduceIte, reduceCtorEq, List.reduceReplicate, Int.cast_ofNat_Int, SV.ren, SV.renL, Cell.ren])
    | (apply cg_any
       case hl => rfl
       case ha => (intro hb; simp only [List.map_cons, List.map_nil, cnd, hb, if_true, prepV, prepC, idx, hpL', lookR, Nat.reduceEqDiff, if_false]; rfl)
       case hs => (intro hb; simp only [cnd, hb, if_true]; rfl)
       case h => (first | fail)
       case' hk => simp only [decide_eq_false hp, hcond, go_sem, Nat.reduceEqDiff, Nat.reduceAdd, Nat.reduceSub, Nat.reduceMul, Nat.reduceLT, Nat.reduceLeDiff, ↓reduceIte, reduceCtorEq, List.reduceReplicate, Int.cast_ofNat_Int, SV.ren, SV.renL, Cell.ren])
    | (apply cg_show
       case hl => rfl
       case ha => (intro hb; simp only [List.map_cons, List.map_nil, cnd, hb, if_true, prepV, prepC, idx, hpL', lookR, Nat.reduceEqDiff, if_false]; rfl)
       case hs => (intro hb; simp only [cnd, hb, if_true, snaps_nil, List.flatMap_cons, List.flatMap_nil, SV.refs, Cell.refs, List.nil_append, List.cons_append, List.append_nil]; rfl)
       case h => (first | fail)
       case hf => ((simp only [List.forall_mem_cons, List.not_mem_nil, false_implies, implies_true, and_true, hpL', lookR, Nat.reduceEqDiff, if_true, if_false]) <;> (repeat' apply And.intro) <;> exact ⟨_, rfl, Ints_isG _⟩)
       case hg => simp [SV.noG, SV.noGL, Cell.noG]
       case' hk => simp only [decide_eq_false hp, hcond, go_sem, Nat.reduceEqDiff, Nat.reduceAdd, Nat.reduceSub, Nat.reduceMul, Nat.reduceLT, Nat.reduceLeDiff, ↓reduceIte, reduceCtorEq, List.reduceReplicate, Int.cast_ofNat_Int, SV.ren, SV.renL, Cell.ren])
    | (apply cl_plain
       case hs => rfl
       case ha => (simp only [List.map_cons, List.map_nil, prepV, prepC, idx, hpL', lookR, Nat.reduceEqDiff, if_true, if_false]; rfl)
       case h => (first | fail)
       case' hk => simp only [decide_eq_false hp, hcond, go_sem, Nat.reduceEqDiff, Nat.reduceAdd, Nat.reduceSub, Nat.reduceMul, Nat.reduceLT, Nat.reduceLeDiff, ↓reduceIte, reduceCtorEq, List.reduceReplicate, Int.cast_ofNat_Int, SV.ren, SV.renL, Cell.ren, Row.ren, renO, bk, back, outUpsFrom, Ints_ren])
    | (apply cl_lend
       case hr => (simp only [List.map_cons, List.map_nil, hpL', lookR, Nat.reduceEqDiff, if_true, if_false]; first | exact map1 _ | exact map2 _ _ | exact map3 _ _ _)
       case ha => (simp only [List.map_cons, List.map_nil, prepV, prepC, idx, hpL', lookR, Nat.reduceEqDiff, if_true, if_false]; rfl)
       case hs => rfl
       case hn => decide
       case h => (first | fail)
       case hf => (simp only [List.forall_mem_cons, List.not_mem_nil, false_implies, implies_true, and_true, true_and, flat_cons, flat_nil, flat_ints, flat_bools, flat_app, Cell.refs, and_self, eq_self_iff_true, List.append_nil])
       case hl => (simp only [List.length_cons, List.length_nil]; decide)
       case' hk => simp only [decide_eq_false hp, hcond, go_sem, Nat.reduceEqDiff, Nat.reduceAdd, Nat.reduceSub, Nat.reduceMul, Nat.reduceLT, Nat.reduceLeDiff, ↓reduceIte, reduceCtorEq, List.reduceReplicate, Int.cast_ofNat_Int, SV.ren, SV.renL, Cell.ren, Row.ren, renO, bk, back, outUpsFrom, Ints_ren])
    | (apply cl_show
       case ha => (simp only [List.map_cons, List.map_nil, prepV, prepC, idx, hpL', lookR, Nat.reduceEqDiff, if_true, if_false]; rfl)
       case hs => ((simp [snaps, SV.refs, Cell.refs, idx, hpL', lookR]) <;> (repeat' apply And.intro) <;> exact Ints_isG _)
       case h => (first | fail)
       case hg => ((simp [SV.noG, SV.noGL, Cell.noG]) <;> (repeat' apply And.intro) <;> exact Ints_noG _)
       case' hk => simp only [decide_eq_false hp, hcond, go_sem, Nat.reduceEqDiff, Nat.reduceAdd, Nat.reduceSub, Nat.reduceMul, Nat.reduceLT, Nat.reduceLeDiff, ↓reduceIte, reduceCtorEq, List.reduceReplicate, Int.cast_ofNat_Int, SV.ren, SV.renL, Cell.ren, Row.ren, renO, bk, back, outUpsFrom, Ints_ren])
    | (apply cl_use
       case hr => (simp only [List.map_cons, List.map_nil, hpL', lookR, Nat.reduceEqDiff, if_true, if_false]; first | exact map0 | exact map1 _ | exact map2 _ _ | exact map3 _ _ _)
       case ha => (simp only [List.map_cons, List.map_nil, prepV, prepC, idx, hpL', lookR, Nat.reduceEqDiff, if_true, if_false]; rfl)
       case hs => (simp only [snaps, SV.refs, Cell.refs, idx, List.flatMap_cons, List.flatMap_nil, List.nil_append, List.cons_append, List.append_nil, List.filter_cons, List.filter_nil, Nat.reduceEqDiff, if_true, if_false, Option.isNone_none, Option.isNone_some, Bool.false_eq_true, reduceCtorEq, ↓reduceIte]; rfl)
       case hn => decide
       case h => (first | fail)
       case hf => (simp only [List.forall_mem_cons, List.not_mem_nil, false_implies, implies_true, and_true, true_and, flat_cons, flat_nil, flat_ints, flat_bools, flat_app, Cell.refs, and_self, eq_self_iff_true, List.append_nil])
       case hg => ((simp [hpL', lookR, Cell.isG]) <;> (repeat' apply And.intro) <;> exact Ints_isG _)
       case hl => (simp only [List.length_cons, List.length_nil]; decide)
       case' hk => simp only [decide_eq_false hp, hcond, go_sem, Nat.reduceEqDiff, Nat.reduceAdd, Nat.reduceSub, Nat.reduceMul, Nat.reduceLT, Nat.reduceLeDiff, ↓reduceIte, reduceCtorEq, List.reduceReplicate, Int.cast_ofNat_Int, SV.ren, SV.renL, Cell.ren, Row.ren, renO, bk, back, outUpsFrom, Ints_ren]))
      refine le_mk (i + 1) ?_ (by omega) (by omega)
      rw [e1]
      (refine imp_ren _ _ _ [(0, 0, ⟨Ints D, 1⟩), (1, 1, ⟨Ints P, 1⟩), (2, 2, ⟨Ints X, 1⟩)] (by simp) (by simp) (by simp) (Nat.le_of_ble_eq_true rfl) ?_ rfl (by simp only [List.forall_mem_cons, List.not_mem_nil, false_implies, implies_true, and_true, St.hpF, lookR, Nat.reduceEqDiff, if_true, if_false, ↓reduceIte] <;> (repeat' apply And.intro) <;> (first | rfl | trivial)) (by simp only [List.forall_mem_cons, List.not_mem_nil, false_implies, implies_true, and_true, true_and, flat_cons, flat_nil, flat_ints, flat_bools, flat_app, Cell.refs, and_self, eq_self_iff_true, List.append_nil]); simp only [List.map_cons, List.map_nil, List.forall_mem_cons, List.not_mem_nil, false_implies, implies_true, and_true, lk, slot, SV.ren, Cell.ren, toN, Nat.reduceEqDiff, if_true, if_false, ↓reduceIte, reduceCtorEq])
      all_goals ((repeat' apply And.intro) <;> (first | rfl | trivial))
theorem trees_main (g0 : List Cell) (s0 : GTy Try.prog 12 22 g0) (g1 : List Cell) (s1 : GTy Try.prog 12 44 g1) :
    FnSpec Try.prog 7 [svOf Try.prog 22 g0, svOf Try.prog 44 g1] [] (b1 true) [] := by
  obtain ⟨l, rfl, hl, hr⟩ := gty_ints (n := 10) Try.underlying22 Try.underlying3 s0
  obtain ⟨m1, rfl, w1⟩ := gty_int (n := 11) Try.underlying44 s1
  simp only [svOf, Try.underlying22, Try.underlying44, List.headD_cons]
  exact trees_spec l m1 hr (wf_u16 w1)
end Go.Proofs.Ytcfkmkabjalgjab
