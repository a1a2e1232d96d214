/- Contracts of functions, told of values, on the way to BandwidthTokens. -/
import Derived.Test.YtlaplcjenndigaaTyBa
import Derived.Test.YtlaplcjenndigaaBwcBa
-- NEWGO
-- PRUNE: cg_ts cg_show cl_use cl_show cl_lendx
namespace Go.Proofs.Ytlaplcjenndigaa
set_option linter.unusedVariables false
set_option linter.unusedSimpArgs false
open Go.Proofs.Ytlaplcjenndigaa.Sh Go.RowKit
set_option maxRecDepth 20000
set_option maxHeartbeats 4000000 in
theorem tokens_spec_l (l : List Int) (hl : ∀ x ∈ l, -9223372036854775808 ≤ x ∧ x ≤ 9223372036854775807) : FnSpec Try.prog 7 [gi l none] [] (b1 true) [] := by
  by_cases hlen : (l.length : Int) ≤ 600
  case neg =>
    refine fnspec_of mixed TT_ok TT_cl ⟨fun _ => false, fun _ => [], 0, fun _ => false, fun _ => false⟩ Try.func7 rfl (by kernel_rfl) rfl 143 rfl [.tmp 2] rfl ?_
    simp only [go_sem, Nat.reduceEqDiff, Nat.reduceAdd, Nat.reduceSub, Nat.reduceMul, Nat.reduceLT, Nat.reduceLeDiff, ↓reduceIte, reduceCtorEq, List.reduceReplicate, Int.cast_ofNat_Int, Int.reduceEq, Int.reduceLT, Int.reduceLE]
    repeat' (first
    | with_reducible refine And.intro ?_ ?_
    | (unfold OKC; kernel_rfl)
    | (apply okc_up <;> (first | ((repeat (first | exact Sub.nil | apply Sub.gfp | apply Sub.same)); done) | kernel_rfl))
    | (unfold EDG; kernel_rfl)
    | (intros; (try simp only [Bool.and_eq_true, Bool.or_eq_true, Bool.not_eq_true', Bool.not_eq_false', Bool.and_eq_false_iff, Bool.or_eq_false_iff, decide_eq_true_eq, decide_eq_false_iff_not] at *); omega)
    | (refine gt_if (fun h => ?_) (fun h => ?_) <;> (try simp only [h]))
    | (refine pt_if (fun h => ?_) (fun h => ?_) <;> (try simp only [h]))
    | (refine cd_if (fun h => ?_) (fun h => ?_) <;> (try simp only [h]))
    | (apply cg_tp
       case hl => rfl
       case ha => (simp only [List.map_cons, List.map_nil, prepV, prepC, idx, hpL', lookR, Nat.reduceEqDiff, if_true, if_false]; rfl)
       case hs => rfl
       case h => (first | exact light_spec .. | exact sane_spec ..))
    | (apply cg_any
       case hl => rfl
       case ha => (intro hb; simp only [List.map_cons, List.map_nil, cnd, hb, if_true, prepV, prepC, idx, hpL', lookR, Nat.reduceEqDiff, if_false]; rfl)
       case hs => (intro hb; simp only [cnd, hb, if_true]; rfl)
       case h => (first | exact light_spec .. | exact sane_spec ..))
    | (apply cl_plain
       case hs => rfl
       case ha => (simp only [List.map_cons, List.map_nil, prepV, prepC, idx, hpL', lookR, Nat.reduceEqDiff, if_true, if_false]; rfl)
       case h => (first | exact light_spec .. | exact sane_spec ..))
    | (apply cl_lend
       case hr => (simp only [List.map_cons, List.map_nil, hpL', lookR, Nat.reduceEqDiff, if_true, if_false]; first | exact map1 _ | exact map2 _ _ | exact map3 _ _ _)
       case ha => (simp only [List.map_cons, List.map_nil, prepV, prepC, idx, hpL', lookR, Nat.reduceEqDiff, if_true, if_false]; rfl)
       case hs => rfl
       case hn => decide
       case h => (first | exact light_spec .. | exact sane_spec ..)
       case hf => (simp only [List.forall_mem_cons, List.not_mem_nil, false_implies, implies_true, and_true, true_and, flat_cons, flat_nil, flat_ints, flat_bools, flat_app, Cell.refs, and_self, eq_self_iff_true, List.append_nil])
       case hl => (simp only [List.length_cons, List.length_nil]; decide))
    | ((first | refine s1_id ?_ | refine swp_id ?_ | refine sops_id ?_ | refine s2_id ?_); simp only [decide_eq_false hlen, go_sem, Nat.reduceEqDiff, Nat.reduceAdd, Nat.reduceSub, Nat.reduceMul, Nat.reduceLT, Nat.reduceLeDiff, ↓reduceIte, reduceCtorEq, List.reduceReplicate, Int.cast_ofNat_Int, Int.reduceEq, Int.reduceLT, Int.reduceLE, SV.ren, SV.renL, Cell.ren, Row.ren, renO, bk, back, outUpsFrom, Ints_ren])
    | (apply fs_nil <;> (try simp only [go_sem, resV, resS, SV.ren, SV.renL, Cell.ren, St.tmF, St.hpF, idx, renO, Row.ren, evS, slot, lookR, Nat.reduceEqDiff, ↓reduceIte, reduceCtorEq, if_true, if_false, Option.getD_some, Option.getD_none, List.map_cons, List.map_nil, sLoad, readAt, readNeed, Ints_ren, Ints_length, Ints_getD, and_true, true_and, List.getD_cons_zero, List.getD_cons_succ]) <;> (try rfl)))
  have hl6 : l.length ≤ 600 := by omega
  have hx := mkP_ok l 0 14 (by omega)
  have hpo := pool_spec l 0 14 hl6 hl (by omega)
  generalize hX : (mkP l 0 14).1 = x at *
  generalize (mkP l 0 14).2 = j at *
  have hN := nums hx.ok
  have hcl := hN.len
  have hc := nxV_rng l j x.c.length (by omega)
  have hk := pchk_in hx.ok hc
  have hro := room_spec x none (nxV l j x.c.length) (by omega)
  have hta := take_spec x none (nxV l j x.c.length) (by omega)
  have hre := return_spec x none (nxV l j x.c.length) (by omega)
  have hsp := spend_spec x none (nxV l j x.c.length) (by omega)
  rw [preturn_ok hx.ok hc] at hre
  rw [ptake_ok hx.ok hc] at hta
  have oret := pret_ok hx.ok hc
  have otk := ptk_ok hx.ok hc
  have osp := pspend_ok hx.ok hc
  have hh := hld_ge hx.ok
  have hp1 := held_spec x none (sml_pck hx.ok)
  have hp2 := rheld_spec x none (sml_pck hx.ok)
  have hp3 := held_spec _ none (sml_pck oret.1)
  have hp4 := rheld_spec _ none (sml_pck osp.1)
  have hli := rlimited_spec x none
  have hpe := hx.pe
  have hxsp := hx.sp
  have hsp0 := hN.sp
  rw [oret.2.1] at hp3
  have er : proom x (nxV l j x.c.length) = if lim x = false then 1099511627776 else x.l + x.c.getD (nxV l j x.c.length).toNat 0 := by unfold proom; rw [if_neg (by simp [hk])]
  rw [er] at hro
  have hMx := hN.m
  have hHx := hN.h
  have hLx := hN.l
  have hCx := pck_all hx.ok (nxV l j x.c.length).toNat
  generalize hC : nxV l j x.c.length = c at *
  -- the pool that was taken from
  have hatk : takes x = true → FnSpec Try.prog 15 [plt (ptk x c) none] [] (i1 (hld x)) [] ∧ FnSpec Try.prog 19 [plt (ptk x c) none, i1 c] [] (i1 (if lim x = false then 1099511627776 else x.l + x.c.getD c.toNat 0)) [] := fun ht => by
    have hl2 : (ptk x c).c.length = x.c.length := by simp [ptk, pmv]
    have h1 := held_spec _ none (sml_pck otk.1)
    rw [otk.2.1] at h1
    have h2 := room_spec (ptk x c) none c (by omega)
    have e : proom (ptk x c) c = if lim x = false then 1099511627776 else x.l + x.c.getD c.toNat 0 := by
      have hk2 := pchk_in otk.1 (cpu := c) (by omega)
      have hlim : lim (ptk x c) = lim x := rfl
      unfold proom
      rw [if_neg (by simp [hk2]), hlim]
      split
      · rfl
      · have : (ptk x c).c.getD c.toNat 0 = x.c.getD c.toNat 0 + mn x.s x.l := getD_set_self (by omega)
        rw [this]
        show x.l - mn x.s x.l + _ = _
        omega
    rw [e] at h2
    exact ⟨h1, h2⟩
  rcases osp.2.2 with ⟨o1, o2, o3, o4⟩ | ⟨o1, o2, o3, o4, o5⟩
  · -- a unit is spent
    have emsp : msp x = x.sp + 1 := by unfold msp mn; split <;> omega
    rw [emsp] at o3
    generalize hY : pspend x c = y at *
    obtain ⟨y, e⟩ := y
    simp only at o1 o2 o3 osp
    subst o1
    have hz : ¬ (if lim x = false then 1099511627776 else x.l + x.c.getD c.toNat 0) = (0 : Int) := by
      split
      · omega
      · rename_i h9; rcases o4 with o4 | o4
        · exact absurd o4 h9
        · exact o4
    rw [o2] at hp4
    cases hlx : lim x with
    | true =>
      rw [hlx] at hli hp4
      cases ht : takes x with
      | true =>
        obtain ⟨a1, a2⟩ := hatk ht
        rw [ht] at hta
        simp only [hlx, Bool.true_eq_false, if_false, if_true, pre, plt, plc] at *
        refine fnspec_of mixed TT_ok TT_cl ⟨fun _ => false, lends, 0, fun _ => false, fun _ => false⟩ Try.func7 rfl (by kernel_rfl) rfl 143 rfl [.tmp 2] rfl ?_
        simp only [go_sem, Nat.reduceEqDiff, Nat.reduceAdd, Nat.reduceSub, Nat.reduceMul, Nat.reduceLT, Nat.reduceLeDiff, ↓reduceIte, reduceCtorEq, List.reduceReplicate, Int.cast_ofNat_Int, Int.reduceEq, Int.reduceLT, Int.reduceLE, lends]
        repeat' (first
    | with_reducible refine And.intro ?_ ?_
    | (unfold OKC; kernel_rfl)
    | (apply okc_up <;> (first | ((repeat (first | exact Sub.nil | apply Sub.gfp | apply Sub.same)); done) | kernel_rfl))
    | (unfold EDG; kernel_rfl)
    | (intros; (try simp only [Bool.and_eq_true, Bool.or_eq_true, Bool.not_eq_true', Bool.not_eq_false', Bool.and_eq_false_iff, Bool.or_eq_false_iff, decide_eq_true_eq, decide_eq_false_iff_not] at *); omega)
    | (refine gt_if (fun h => ?_) (fun h => ?_) <;> (try simp only [h]))
    | (refine pt_if (fun h => ?_) (fun h => ?_) <;> (try simp only [h]))
    | (refine cd_if (fun h => ?_) (fun h => ?_) <;> (try simp only [h]))
    | (apply cg_tp
       case hl => rfl
       case ha => (simp only [List.map_cons, List.map_nil, prepV, prepC, idx, hpL', lookR, Nat.reduceEqDiff, if_true, if_false]; rfl)
       case hs => rfl
       case h => (first | exact light_spec .. | exact roll_spec .. | exact next_spec _ _ _ hl6 hl (by omega) | exact hpo .. | exact hro .. | exact hta .. | exact hre .. | exact hsp .. | exact a1 .. | exact a2 .. | exact hp1 .. | exact hp2 .. | exact hp3 .. | exact hp4 .. | exact hli .. | exact sane_spec ..))
    | (apply cg_any
       case hl => rfl
       case ha => (intro hb; simp only [List.map_cons, List.map_nil, cnd, hb, if_true, prepV, prepC, idx, hpL', lookR, Nat.reduceEqDiff, if_false]; rfl)
       case hs => (intro hb; simp only [cnd, hb, if_true]; rfl)
       case h => (first | exact light_spec .. | exact roll_spec .. | exact next_spec _ _ _ hl6 hl (by omega) | exact hpo .. | exact hro .. | exact hta .. | exact hre .. | exact hsp .. | exact a1 .. | exact a2 .. | exact hp1 .. | exact hp2 .. | exact hp3 .. | exact hp4 .. | exact hli .. | exact sane_spec ..))
    | (apply cl_plain
       case hs => rfl
       case ha => (simp only [List.map_cons, List.map_nil, prepV, prepC, idx, hpL', lookR, Nat.reduceEqDiff, if_true, if_false]; rfl)
       case h => (first | exact light_spec .. | exact roll_spec .. | exact next_spec _ _ _ hl6 hl (by omega) | exact hpo .. | exact hro .. | exact hta .. | exact hre .. | exact hsp .. | exact a1 .. | exact a2 .. | exact hp1 .. | exact hp2 .. | exact hp3 .. | exact hp4 .. | exact hli .. | exact sane_spec ..))
    | (apply cl_lend
       case hr => (simp only [List.map_cons, List.map_nil, hpL', lookR, Nat.reduceEqDiff, if_true, if_false]; first | exact map1 _ | exact map2 _ _ | exact map3 _ _ _)
       case ha => (simp only [List.map_cons, List.map_nil, prepV, prepC, idx, hpL', lookR, Nat.reduceEqDiff, if_true, if_false]; rfl)
       case hs => rfl
       case hn => decide
       case h => (first | exact light_spec .. | exact roll_spec .. | exact next_spec _ _ _ hl6 hl (by omega) | exact hpo .. | exact hro .. | exact hta .. | exact hre .. | exact hsp .. | exact a1 .. | exact a2 .. | exact hp1 .. | exact hp2 .. | exact hp3 .. | exact hp4 .. | exact hli .. | exact sane_spec ..)
       case hf => (simp only [List.forall_mem_cons, List.not_mem_nil, false_implies, implies_true, and_true, true_and, flat_cons, flat_nil, flat_ints, flat_bools, flat_app, Cell.refs, and_self, eq_self_iff_true, List.append_nil])
       case hl => (simp only [List.length_cons, List.length_nil]; decide))
    | ((first | refine s1_id ?_ | refine swp_id ?_ | refine sops_id ?_ | refine s2_id ?_); simp only [decide_eq_true hlen, lends, plt, plc, hC, decide_eq_false hz, decide_eq_true o3, go_sem, Nat.reduceEqDiff, Nat.reduceAdd, Nat.reduceSub, Nat.reduceMul, Nat.reduceLT, Nat.reduceLeDiff, ↓reduceIte, reduceCtorEq, List.reduceReplicate, Int.cast_ofNat_Int, Int.reduceEq, Int.reduceLT, Int.reduceLE, SV.ren, SV.renL, Cell.ren, Row.ren, renO, bk, back, outUpsFrom, Ints_ren])
    | (apply fs_nil <;> (try simp only [go_sem, resV, resS, SV.ren, SV.renL, Cell.ren, St.tmF, St.hpF, idx, renO, Row.ren, evS, slot, lookR, Nat.reduceEqDiff, ↓reduceIte, reduceCtorEq, if_true, if_false, Option.getD_some, Option.getD_none, List.map_cons, List.map_nil, sLoad, readAt, readNeed, Ints_ren, Ints_length, Ints_getD, and_true, true_and, List.getD_cons_zero, List.getD_cons_succ]) <;> (try rfl)))
      | false =>
        rw [ht] at hta
        simp only [hlx, Bool.true_eq_false, Bool.false_eq_true, if_false, if_true, pre, plt, plc] at *
        refine fnspec_of mixed TT_ok TT_cl ⟨fun _ => false, lends, 0, fun _ => false, fun _ => false⟩ Try.func7 rfl (by kernel_rfl) rfl 143 rfl [.tmp 2] rfl ?_
        simp only [go_sem, Nat.reduceEqDiff, Nat.reduceAdd, Nat.reduceSub, Nat.reduceMul, Nat.reduceLT, Nat.reduceLeDiff, ↓reduceIte, reduceCtorEq, List.reduceReplicate, Int.cast_ofNat_Int, Int.reduceEq, Int.reduceLT, Int.reduceLE, lends]
        repeat' (first
    | with_reducible refine And.intro ?_ ?_
    | (unfold OKC; kernel_rfl)
    | (apply okc_up <;> (first | ((repeat (first | exact Sub.nil | apply Sub.gfp | apply Sub.same)); done) | kernel_rfl))
    | (unfold EDG; kernel_rfl)
    | (intros; (try simp only [Bool.and_eq_true, Bool.or_eq_true, Bool.not_eq_true', Bool.not_eq_false', Bool.and_eq_false_iff, Bool.or_eq_false_iff, decide_eq_true_eq, decide_eq_false_iff_not] at *); omega)
    | (refine gt_if (fun h => ?_) (fun h => ?_) <;> (try simp only [h]))
    | (refine pt_if (fun h => ?_) (fun h => ?_) <;> (try simp only [h]))
    | (refine cd_if (fun h => ?_) (fun h => ?_) <;> (try simp only [h]))
    | (apply cg_tp
       case hl => rfl
       case ha => (simp only [List.map_cons, List.map_nil, prepV, prepC, idx, hpL', lookR, Nat.reduceEqDiff, if_true, if_false]; rfl)
       case hs => rfl
       case h => (first | exact light_spec .. | exact roll_spec .. | exact next_spec _ _ _ hl6 hl (by omega) | exact hpo .. | exact hro .. | exact hta .. | exact hre .. | exact hsp .. | exact hp1 .. | exact hp2 .. | exact hp3 .. | exact hp4 .. | exact hli .. | exact sane_spec ..))
    | (apply cg_any
       case hl => rfl
       case ha => (intro hb; simp only [List.map_cons, List.map_nil, cnd, hb, if_true, prepV, prepC, idx, hpL', lookR, Nat.reduceEqDiff, if_false]; rfl)
       case hs => (intro hb; simp only [cnd, hb, if_true]; rfl)
       case h => (first | exact light_spec .. | exact roll_spec .. | exact next_spec _ _ _ hl6 hl (by omega) | exact hpo .. | exact hro .. | exact hta .. | exact hre .. | exact hsp .. | exact hp1 .. | exact hp2 .. | exact hp3 .. | exact hp4 .. | exact hli .. | exact sane_spec ..))
    | (apply cl_plain
       case hs => rfl
       case ha => (simp only [List.map_cons, List.map_nil, prepV, prepC, idx, hpL', lookR, Nat.reduceEqDiff, if_true, if_false]; rfl)
       case h => (first | exact light_spec .. | exact roll_spec .. | exact next_spec _ _ _ hl6 hl (by omega) | exact hpo .. | exact hro .. | exact hta .. | exact hre .. | exact hsp .. | exact hp1 .. | exact hp2 .. | exact hp3 .. | exact hp4 .. | exact hli .. | exact sane_spec ..))
    | (apply cl_lend
       case hr => (simp only [List.map_cons, List.map_nil, hpL', lookR, Nat.reduceEqDiff, if_true, if_false]; first | exact map1 _ | exact map2 _ _ | exact map3 _ _ _)
       case ha => (simp only [List.map_cons, List.map_nil, prepV, prepC, idx, hpL', lookR, Nat.reduceEqDiff, if_true, if_false]; rfl)
       case hs => rfl
       case hn => decide
       case h => (first | exact light_spec .. | exact roll_spec .. | exact next_spec _ _ _ hl6 hl (by omega) | exact hpo .. | exact hro .. | exact hta .. | exact hre .. | exact hsp .. | exact hp1 .. | exact hp2 .. | exact hp3 .. | exact hp4 .. | exact hli .. | exact sane_spec ..)
       case hf => (simp only [List.forall_mem_cons, List.not_mem_nil, false_implies, implies_true, and_true, true_and, flat_cons, flat_nil, flat_ints, flat_bools, flat_app, Cell.refs, and_self, eq_self_iff_true, List.append_nil])
       case hl => (simp only [List.length_cons, List.length_nil]; decide))
    | ((first | refine s1_id ?_ | refine swp_id ?_ | refine sops_id ?_ | refine s2_id ?_); simp only [decide_eq_true hlen, lends, plt, plc, hC, decide_eq_false hz, decide_eq_true o3, go_sem, Nat.reduceEqDiff, Nat.reduceAdd, Nat.reduceSub, Nat.reduceMul, Nat.reduceLT, Nat.reduceLeDiff, ↓reduceIte, reduceCtorEq, List.reduceReplicate, Int.cast_ofNat_Int, Int.reduceEq, Int.reduceLT, Int.reduceLE, SV.ren, SV.renL, Cell.ren, Row.ren, renO, bk, back, outUpsFrom, Ints_ren])
    | (apply fs_nil <;> (try simp only [go_sem, resV, resS, SV.ren, SV.renL, Cell.ren, St.tmF, St.hpF, idx, renO, Row.ren, evS, slot, lookR, Nat.reduceEqDiff, ↓reduceIte, reduceCtorEq, if_true, if_false, Option.getD_some, Option.getD_none, List.map_cons, List.map_nil, sLoad, readAt, readNeed, Ints_ren, Ints_length, Ints_getD, and_true, true_and, List.getD_cons_zero, List.getD_cons_succ]) <;> (try rfl)))
    | false =>
      rw [hlx] at hli hp4
      have ht : takes x = true := by simp [takes, hlx]
      obtain ⟨a1, a2⟩ := hatk ht
      rw [ht] at hta
      simp only [hlx, if_true, Bool.false_eq_true, if_false, Int.sub_zero, pre, plt, plc] at *
      refine fnspec_of mixed TT_ok TT_cl ⟨fun _ => false, lends, 0, fun _ => false, fun _ => false⟩ Try.func7 rfl (by kernel_rfl) rfl 143 rfl [.tmp 2] rfl ?_
      simp only [go_sem, Nat.reduceEqDiff, Nat.reduceAdd, Nat.reduceSub, Nat.reduceMul, Nat.reduceLT, Nat.reduceLeDiff, ↓reduceIte, reduceCtorEq, List.reduceReplicate, Int.cast_ofNat_Int, Int.reduceEq, Int.reduceLT, Int.reduceLE, lends]
      repeat' (first
    | with_reducible refine And.intro ?_ ?_
    | (unfold OKC; kernel_rfl)
    | (apply okc_up <;> (first | ((repeat (first | exact Sub.nil | apply Sub.gfp | apply Sub.same)); done) | kernel_rfl))
    | (unfold EDG; kernel_rfl)
    | (intros; (try simp only [Bool.and_eq_true, Bool.or_eq_true, Bool.not_eq_true', Bool.not_eq_false', Bool.and_eq_false_iff, Bool.or_eq_false_iff, decide_eq_true_eq, decide_eq_false_iff_not] at *); omega)
    | (refine gt_if (fun h => ?_) (fun h => ?_) <;> (try simp only [h]))
    | (refine pt_if (fun h => ?_) (fun h => ?_) <;> (try simp only [h]))
    | (refine cd_if (fun h => ?_) (fun h => ?_) <;> (try simp only [h]))
    | (apply cg_tp
       case hl => rfl
       case ha => (simp only [List.map_cons, List.map_nil, prepV, prepC, idx, hpL', lookR, Nat.reduceEqDiff, if_true, if_false]; rfl)
       case hs => rfl
       case h => (first | exact light_spec .. | exact roll_spec .. | exact next_spec _ _ _ hl6 hl (by omega) | exact hpo .. | exact hro .. | exact hta .. | exact hre .. | exact hsp .. | exact a1 .. | exact a2 .. | exact hp1 .. | exact hp2 .. | exact hp3 .. | exact hp4 .. | exact hli .. | exact sane_spec ..))
    | (apply cg_any
       case hl => rfl
       case ha => (intro hb; simp only [List.map_cons, List.map_nil, cnd, hb, if_true, prepV, prepC, idx, hpL', lookR, Nat.reduceEqDiff, if_false]; rfl)
       case hs => (intro hb; simp only [cnd, hb, if_true]; rfl)
       case h => (first | exact light_spec .. | exact roll_spec .. | exact next_spec _ _ _ hl6 hl (by omega) | exact hpo .. | exact hro .. | exact hta .. | exact hre .. | exact hsp .. | exact a1 .. | exact a2 .. | exact hp1 .. | exact hp2 .. | exact hp3 .. | exact hp4 .. | exact hli .. | exact sane_spec ..))
    | (apply cl_plain
       case hs => rfl
       case ha => (simp only [List.map_cons, List.map_nil, prepV, prepC, idx, hpL', lookR, Nat.reduceEqDiff, if_true, if_false]; rfl)
       case h => (first | exact light_spec .. | exact roll_spec .. | exact next_spec _ _ _ hl6 hl (by omega) | exact hpo .. | exact hro .. | exact hta .. | exact hre .. | exact hsp .. | exact a1 .. | exact a2 .. | exact hp1 .. | exact hp2 .. | exact hp3 .. | exact hp4 .. | exact hli .. | exact sane_spec ..))
    | (apply cl_lend
       case hr => (simp only [List.map_cons, List.map_nil, hpL', lookR, Nat.reduceEqDiff, if_true, if_false]; first | exact map1 _ | exact map2 _ _ | exact map3 _ _ _)
       case ha => (simp only [List.map_cons, List.map_nil, prepV, prepC, idx, hpL', lookR, Nat.reduceEqDiff, if_true, if_false]; rfl)
       case hs => rfl
       case hn => decide
       case h => (first | exact light_spec .. | exact roll_spec .. | exact next_spec _ _ _ hl6 hl (by omega) | exact hpo .. | exact hro .. | exact hta .. | exact hre .. | exact hsp .. | exact a1 .. | exact a2 .. | exact hp1 .. | exact hp2 .. | exact hp3 .. | exact hp4 .. | exact hli .. | exact sane_spec ..)
       case hf => (simp only [List.forall_mem_cons, List.not_mem_nil, false_implies, implies_true, and_true, true_and, flat_cons, flat_nil, flat_ints, flat_bools, flat_app, Cell.refs, and_self, eq_self_iff_true, List.append_nil])
       case hl => (simp only [List.length_cons, List.length_nil]; decide))
    | ((first | refine s1_id ?_ | refine swp_id ?_ | refine sops_id ?_ | refine s2_id ?_); simp only [decide_eq_true hlen, lends, plt, plc, hC, decide_eq_false hz, decide_eq_true o3, Int.sub_zero, go_sem, Nat.reduceEqDiff, Nat.reduceAdd, Nat.reduceSub, Nat.reduceMul, Nat.reduceLT, Nat.reduceLeDiff, ↓reduceIte, reduceCtorEq, List.reduceReplicate, Int.cast_ofNat_Int, Int.reduceEq, Int.reduceLT, Int.reduceLE, SV.ren, SV.renL, Cell.ren, Row.ren, renO, bk, back, outUpsFrom, Ints_ren])
    | (apply fs_nil <;> (try simp only [go_sem, resV, resS, SV.ren, SV.renL, Cell.ren, St.tmF, St.hpF, idx, renO, Row.ren, evS, slot, lookR, Nat.reduceEqDiff, ↓reduceIte, reduceCtorEq, if_true, if_false, Option.getD_some, Option.getD_none, List.map_cons, List.map_nil, sLoad, readAt, readNeed, Ints_ren, Ints_length, Ints_getD, and_true, true_and, List.getD_cons_zero, List.getD_cons_succ]) <;> (try rfl)))
  · -- refused
    have hse := spend_spec (pemp x) none c (by show x.c.length ≤ 1000; omega)
    have oe := pemp_ok hx.ok
    have ose := pspend_ok oe.1 (cpu := c) hc
    rcases ose.2.2 with ⟨q1, q2, q3, q4⟩ | ⟨q1, q2, q3, q4, q5⟩
    · exfalso
      rcases q4 with q4 | q4
      · have : lim (pemp x) = lim x := rfl
        rw [this, o3] at q4; cases q4
      · exact q4 o4
    have eps : pspend (pemp x) c = (pemp (pemp x), 11) := by
      rw [← q5, ← q1]
    rw [eps] at hse
    have epx : pspend x c = (pemp x, 11) := by rw [← o5, ← o1]
    rw [epx] at hsp hp4
    rw [oe.2.1] at hp4
    have hth : (pemp (pemp x)).th = (pemp x).th := rfl
    have hem : (pemp x).em = true := rfl
    have hs2 : (pemp x).sp = x.sp := rfl
    have hl0 : x.l = 0 := by omega
    have ht : takes x = false := by simp [takes, o3, hl0]
    rw [ht] at hta
    generalize pemp (pemp x) = z at *
    generalize pemp x = y at *
    simp only [o3, o4, Bool.true_eq_false, Bool.false_eq_true, if_false, if_true, pre, plt, plc] at *
    simp only [hem] at hse hsp hp4
    refine fnspec_of mixed TT_ok TT_cl ⟨fun _ => false, lends, 0, fun _ => false, fun _ => false⟩ Try.func7 rfl (by kernel_rfl) rfl 143 rfl [.tmp 2] rfl ?_
    simp only [go_sem, Nat.reduceEqDiff, Nat.reduceAdd, Nat.reduceSub, Nat.reduceMul, Nat.reduceLT, Nat.reduceLeDiff, ↓reduceIte, reduceCtorEq, List.reduceReplicate, Int.cast_ofNat_Int, Int.reduceEq, Int.reduceLT, Int.reduceLE, lends]
    repeat' (first
    | with_reducible refine And.intro ?_ ?_
    | (unfold OKC; kernel_rfl)
    | (apply okc_up <;> (first | ((repeat (first | exact Sub.nil | apply Sub.gfp | apply Sub.same)); done) | kernel_rfl))
    | (unfold EDG; kernel_rfl)
    | (intros; (try simp only [Bool.and_eq_true, Bool.or_eq_true, Bool.not_eq_true', Bool.not_eq_false', Bool.and_eq_false_iff, Bool.or_eq_false_iff, decide_eq_true_eq, decide_eq_false_iff_not] at *); omega)
    | (refine gt_if (fun h => ?_) (fun h => ?_) <;> (try simp only [h]))
    | (refine pt_if (fun h => ?_) (fun h => ?_) <;> (try simp only [h]))
    | (refine cd_if (fun h => ?_) (fun h => ?_) <;> (try simp only [h]))
    | (apply cg_tp
       case hl => rfl
       case ha => (simp only [List.map_cons, List.map_nil, prepV, prepC, idx, hpL', lookR, Nat.reduceEqDiff, if_true, if_false]; rfl)
       case hs => rfl
       case h => (first | exact light_spec .. | exact roll_spec .. | exact next_spec _ _ _ hl6 hl (by omega) | exact hpo .. | exact hro .. | exact hta .. | exact hre .. | exact hsp .. | exact hse .. | exact hp1 .. | exact hp2 .. | exact hp3 .. | exact hp4 .. | exact hli .. | exact sane_spec ..))
    | (apply cg_any
       case hl => rfl
       case ha => (intro hb; simp only [List.map_cons, List.map_nil, cnd, hb, if_true, prepV, prepC, idx, hpL', lookR, Nat.reduceEqDiff, if_false]; rfl)
       case hs => (intro hb; simp only [cnd, hb, if_true]; rfl)
       case h => (first | exact light_spec .. | exact roll_spec .. | exact next_spec _ _ _ hl6 hl (by omega) | exact hpo .. | exact hro .. | exact hta .. | exact hre .. | exact hsp .. | exact hse .. | exact hp1 .. | exact hp2 .. | exact hp3 .. | exact hp4 .. | exact hli .. | exact sane_spec ..))
    | (apply cl_plain
       case hs => rfl
       case ha => (simp only [List.map_cons, List.map_nil, prepV, prepC, idx, hpL', lookR, Nat.reduceEqDiff, if_true, if_false]; rfl)
       case h => (first | exact light_spec .. | exact roll_spec .. | exact next_spec _ _ _ hl6 hl (by omega) | exact hpo .. | exact hro .. | exact hta .. | exact hre .. | exact hsp .. | exact hse .. | exact hp1 .. | exact hp2 .. | exact hp3 .. | exact hp4 .. | exact hli .. | exact sane_spec ..))
    | (apply cl_lend
       case hr => (simp only [List.map_cons, List.map_nil, hpL', lookR, Nat.reduceEqDiff, if_true, if_false]; first | exact map1 _ | exact map2 _ _ | exact map3 _ _ _)
       case ha => (simp only [List.map_cons, List.map_nil, prepV, prepC, idx, hpL', lookR, Nat.reduceEqDiff, if_true, if_false]; rfl)
       case hs => rfl
       case hn => decide
       case h => (first | exact light_spec .. | exact roll_spec .. | exact next_spec _ _ _ hl6 hl (by omega) | exact hpo .. | exact hro .. | exact hta .. | exact hre .. | exact hsp .. | exact hse .. | exact hp1 .. | exact hp2 .. | exact hp3 .. | exact hp4 .. | exact hli .. | exact sane_spec ..)
       case hf => (simp only [List.forall_mem_cons, List.not_mem_nil, false_implies, implies_true, and_true, true_and, flat_cons, flat_nil, flat_ints, flat_bools, flat_app, Cell.refs, and_self, eq_self_iff_true, List.append_nil])
       case hl => (simp only [List.length_cons, List.length_nil]; decide))
    | ((first | refine s1_id ?_ | refine swp_id ?_ | refine sops_id ?_ | refine s2_id ?_); simp only [decide_eq_true hlen, lends, plt, plc, hC, hem, decide_eq_true hth, decide_eq_true hs2, go_sem, Nat.reduceEqDiff, Nat.reduceAdd, Nat.reduceSub, Nat.reduceMul, Nat.reduceLT, Nat.reduceLeDiff, ↓reduceIte, reduceCtorEq, List.reduceReplicate, Int.cast_ofNat_Int, Int.reduceEq, Int.reduceLT, Int.reduceLE, SV.ren, SV.renL, Cell.ren, Row.ren, renO, bk, back, outUpsFrom, Ints_ren])
    | (apply fs_nil <;> (try simp only [go_sem, resV, resS, SV.ren, SV.renL, Cell.ren, St.tmF, St.hpF, idx, renO, Row.ren, evS, slot, lookR, Nat.reduceEqDiff, ↓reduceIte, reduceCtorEq, if_true, if_false, Option.getD_some, Option.getD_none, List.map_cons, List.map_nil, sLoad, readAt, readNeed, Ints_ren, Ints_length, Ints_getD, and_true, true_and, List.getD_cons_zero, List.getD_cons_succ]) <;> (try rfl)))
theorem tokens_main (g0 : List Cell) (s0 : GTy Try.prog 12 22 g0) : FnSpec Try.prog 7 [svOf Try.prog 22 g0] [] (b1 true) [] := by
  obtain ⟨l, rfl, hl, hr⟩ := gty_ints (n := 10) Try.underlying22 Try.underlying3 s0
  simp only [svOf, Try.underlying22, List.headD_cons]
  exact tokens_spec_l l hr
end Go.Proofs.Ytlaplcjenndigaa
