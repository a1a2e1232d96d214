/- Contracts of functions, told of values, on the way to WorkloadExact. -/
import Derived.Test.YtdpekegikbbeoaaTyDa
import Derived.Test.YtdpekegikbbeoaaWk5Da
-- NEWGO
-- PRUNE: cl_use cl_lendx cl_lend
namespace Go.Proofs.Ytdpekegikbbeoaa
set_option linter.unusedVariables false
set_option linter.unusedSimpArgs false
open Go.Proofs.Ytdpekegikbbeoaa.Sh
set_option maxRecDepth 20000
theorem rcurrent_spec (p : List (List Stp)) (c : Option Nat) (r : Rr) (hp : p.length ≤ 9223372036854775807) : FnSpec Try.prog 34 [gp p c, rrt r] [] (stb (pcur p r)) [] := by
  have hso := rsound_spec p c r hp
  unfold pcur
  by_cases h : snd p r = true ∧ r.s ≠ 4
  · rw [if_pos h]
    obtain ⟨h1, h4⟩ := h
    rw [h1] at hso
    have hi := snd_iff h1
    have hi2 : r.p.toNat < p.length := by omega
    have hpa := fun d => Pgs_at p r.p.toNat d hi2
    have hp1 := Pgs_at1 p r.p.toNat hi2
    have hpl := Pgs_len p
    have est : stl p r = p.getD r.p.toNat [] := rfl
    have esp : stp p r = (stl p r).getD r.a.toNat sz := rfl
    rw [← est] at hpa hp1
    have hsl := Stps_len (stl p r)
    have hsa := Stps_at (stl p r) r.a.toNat (by omega)
    rw [← esp] at hsa
    generalize stp p r = x at *
    generalize stl p r = st at *
    clear h1
    obtain ⟨t, q, a, l, s, u⟩ := r
    simp only at *
    refine fnspec_of mixed TT_ok TT_cl ⟨fun _ => false, fun _ => [], 0, fun _ => false, fun _ => false⟩ Try.func34 rfl (by kernel_rfl) rfl 26 rfl [.cell 4 28, .tmp 5] rfl ?_
    simp only [go_sem, Nat.reduceEqDiff, Nat.reduceAdd, Nat.reduceSub, Nat.reduceMul, Nat.reduceLT, Nat.reduceLeDiff, ↓reduceIte, reduceCtorEq, List.reduceReplicate, Int.cast_ofNat_Int, Int.reduceEq, Int.reduceLT, Int.reduceLE, rrc]
    repeat' (first
    | with_reducible refine And.intro ?_ ?_
    | (unfold OKC; kernel_rfl)
    | (apply okc_up <;> (first | ((repeat (first | exact Sub.nil | apply Sub.gfp | apply Sub.same)); done) | kernel_rfl))
    | (unfold EDG; kernel_rfl)
    | (intros; (try simp only [Bool.and_eq_true, Bool.or_eq_true, Bool.not_eq_true', Bool.not_eq_false', Bool.and_eq_false_iff, Bool.or_eq_false_iff, decide_eq_true_eq, decide_eq_false_iff_not] at *); omega)
    | (refine gt_if (fun h => ?_) (fun h => ?_) <;> (try simp only [h]))
    | (refine pt_if (fun h => ?_) (fun h => ?_) <;> (try simp only [h]))
    | (refine cd_if (fun h => ?_) (fun h => ?_) <;> (try simp only [h]))
    | (apply cg_tp
       case hl => rfl
       case ha => (simp only [List.map_cons, List.map_nil, prepV, prepC, idx, hpL', lookR, Nat.reduceEqDiff, if_true, if_false]; rfl)
       case hs => rfl
       case h => (first | exact hso ..))
    | (apply cg_ts
       case hl => rfl
       case ha => (simp only [List.map_cons, List.map_nil, prepV, prepC, idx, hpL', lookR, Nat.reduceEqDiff, if_true, if_false]; rfl)
       case hs => (simp only [snaps_nil, List.flatMap_cons, List.flatMap_nil, SV.refs, Cell.refs, List.nil_append, List.cons_append, List.append_nil]; rfl)
       case h => (first | exact hso ..)
       case hf => ((simp only [List.forall_mem_cons, List.not_mem_nil, false_implies, implies_true, and_true, hpL', lookR, Nat.reduceEqDiff, if_true, if_false]) <;> (repeat' apply And.intro) <;> (first | exact ⟨_, rfl, Ints_isG _⟩ | exact ⟨_, rfl, by simp [Cell.isG]⟩))
       case hg => simp [SV.noG, SV.noGL, Cell.noG])
    | (apply cg_any
       case hl => rfl
       case ha => (intro hb; simp only [List.map_cons, List.map_nil, cnd, hb, if_true, prepV, prepC, idx, hpL', lookR, Nat.reduceEqDiff, if_false]; rfl)
       case hs => (intro hb; simp only [cnd, hb, if_true]; rfl)
       case h => (first | exact hso ..))
    | (apply cg_show
       case hl => rfl
       case ha => (intro hb; simp only [List.map_cons, List.map_nil, cnd, hb, if_true, prepV, prepC, idx, hpL', lookR, Nat.reduceEqDiff, if_false]; rfl)
       case hs => (intro hb; simp only [cnd, hb, if_true, snaps_nil, List.flatMap_cons, List.flatMap_nil, SV.refs, Cell.refs, List.nil_append, List.cons_append, List.append_nil]; rfl)
       case h => (first | exact hso ..)
       case hf => ((simp only [List.forall_mem_cons, List.not_mem_nil, false_implies, implies_true, and_true, hpL', lookR, Nat.reduceEqDiff, if_true, if_false]) <;> (repeat' apply And.intro) <;> (first | exact ⟨_, rfl, Ints_isG _⟩ | exact ⟨_, rfl, by simp [Cell.isG]⟩))
       case hg => simp [SV.noG, SV.noGL, Cell.noG])
    | (apply cl_plain
       case hs => rfl
       case ha => (simp only [List.map_cons, List.map_nil, prepV, prepC, idx, hpL', lookR, Nat.reduceEqDiff, if_true, if_false]; rfl)
       case h => (first | exact hso ..))
    | (apply cl_show
       case ha => (simp only [List.map_cons, List.map_nil, prepV, prepC, idx, hpL', lookR, Nat.reduceEqDiff, if_true, if_false]; rfl)
       case hs => ((simp [snaps, SV.refs, Cell.refs, idx, hpL', lookR]) <;> (repeat' apply And.intro) <;> exact Ints_isG _)
       case h => (first | exact hso ..)
       case hg => ((simp [SV.noG, SV.noGL, Cell.noG]) <;> (repeat' apply And.intro) <;> exact Ints_noG _))
    | ((first | refine s1_id ?_ | refine swp_id ?_ | refine sops_id ?_ | refine s2_id ?_); simp only [rrc, hpl, hpa, hp1, hsl, hsa, decide_eq_false h4, go_sem, Nat.reduceEqDiff, Nat.reduceAdd, Nat.reduceSub, Nat.reduceMul, Nat.reduceLT, Nat.reduceLeDiff, ↓reduceIte, reduceCtorEq, List.reduceReplicate, Int.cast_ofNat_Int, Int.reduceEq, Int.reduceLT, Int.reduceLE, SV.ren, SV.renL, Cell.ren, Row.ren, renO, bk, back, outUpsFrom, Ints_ren])
    | (apply fs_nil <;> (try simp only [go_sem, resV, resS, SV.ren, SV.renL, Cell.ren, St.tmF, St.hpF, idx, renO, Row.ren, evS, slot, lookR, Nat.reduceEqDiff, ↓reduceIte, reduceCtorEq, if_true, if_false, Option.getD_some, Option.getD_none, List.map_cons, List.map_nil, sLoad, readAt, readNeed, Ints_ren, Ints_length, Ints_getD, and_true, true_and, List.getD_cons_zero, List.getD_cons_succ]) <;> (try rfl)))
  · rw [if_neg h]
    cases h1 : snd p r with
    | false =>
      rw [h1] at hso
      clear h h1
      obtain ⟨t, q, a, l, s, u⟩ := r
      refine fnspec_of mixed TT_ok TT_cl ⟨fun _ => false, fun _ => [], 0, fun _ => false, fun _ => false⟩ Try.func34 rfl (by kernel_rfl) rfl 26 rfl [.cell 4 28, .tmp 5] rfl ?_
      simp only [go_sem, Nat.reduceEqDiff, Nat.reduceAdd, Nat.reduceSub, Nat.reduceMul, Nat.reduceLT, Nat.reduceLeDiff, ↓reduceIte, reduceCtorEq, List.reduceReplicate, Int.cast_ofNat_Int, Int.reduceEq, Int.reduceLT, Int.reduceLE, rrc]
      repeat' (first
    | with_reducible refine And.intro ?_ ?_
    | (unfold OKC; kernel_rfl)
    | (apply okc_up <;> (first | ((repeat (first | exact Sub.nil | apply Sub.gfp | apply Sub.same)); done) | kernel_rfl))
    | (unfold EDG; kernel_rfl)
    | (intros; (try simp only [Bool.and_eq_true, Bool.or_eq_true, Bool.not_eq_true', Bool.not_eq_false', Bool.and_eq_false_iff, Bool.or_eq_false_iff, decide_eq_true_eq, decide_eq_false_iff_not] at *); omega)
    | (refine gt_if (fun h => ?_) (fun h => ?_) <;> (try simp only [h]))
    | (refine pt_if (fun h => ?_) (fun h => ?_) <;> (try simp only [h]))
    | (refine cd_if (fun h => ?_) (fun h => ?_) <;> (try simp only [h]))
    | (apply cg_tp
       case hl => rfl
       case ha => (simp only [List.map_cons, List.map_nil, prepV, prepC, idx, hpL', lookR, Nat.reduceEqDiff, if_true, if_false]; rfl)
       case hs => rfl
       case h => (first | exact hso ..))
    | (apply cg_ts
       case hl => rfl
       case ha => (simp only [List.map_cons, List.map_nil, prepV, prepC, idx, hpL', lookR, Nat.reduceEqDiff, if_true, if_false]; rfl)
       case hs => (simp only [snaps_nil, List.flatMap_cons, List.flatMap_nil, SV.refs, Cell.refs, List.nil_append, List.cons_append, List.append_nil]; rfl)
       case h => (first | exact hso ..)
       case hf => ((simp only [List.forall_mem_cons, List.not_mem_nil, false_implies, implies_true, and_true, hpL', lookR, Nat.reduceEqDiff, if_true, if_false]) <;> (repeat' apply And.intro) <;> (first | exact ⟨_, rfl, Ints_isG _⟩ | exact ⟨_, rfl, by simp [Cell.isG]⟩))
       case hg => simp [SV.noG, SV.noGL, Cell.noG])
    | (apply cg_any
       case hl => rfl
       case ha => (intro hb; simp only [List.map_cons, List.map_nil, cnd, hb, if_true, prepV, prepC, idx, hpL', lookR, Nat.reduceEqDiff, if_false]; rfl)
       case hs => (intro hb; simp only [cnd, hb, if_true]; rfl)
       case h => (first | exact hso ..))
    | (apply cg_show
       case hl => rfl
       case ha => (intro hb; simp only [List.map_cons, List.map_nil, cnd, hb, if_true, prepV, prepC, idx, hpL', lookR, Nat.reduceEqDiff, if_false]; rfl)
       case hs => (intro hb; simp only [cnd, hb, if_true, snaps_nil, List.flatMap_cons, List.flatMap_nil, SV.refs, Cell.refs, List.nil_append, List.cons_append, List.append_nil]; rfl)
       case h => (first | exact hso ..)
       case hf => ((simp only [List.forall_mem_cons, List.not_mem_nil, false_implies, implies_true, and_true, hpL', lookR, Nat.reduceEqDiff, if_true, if_false]) <;> (repeat' apply And.intro) <;> (first | exact ⟨_, rfl, Ints_isG _⟩ | exact ⟨_, rfl, by simp [Cell.isG]⟩))
       case hg => simp [SV.noG, SV.noGL, Cell.noG])
    | (apply cl_plain
       case hs => rfl
       case ha => (simp only [List.map_cons, List.map_nil, prepV, prepC, idx, hpL', lookR, Nat.reduceEqDiff, if_true, if_false]; rfl)
       case h => (first | exact hso ..))
    | (apply cl_show
       case ha => (simp only [List.map_cons, List.map_nil, prepV, prepC, idx, hpL', lookR, Nat.reduceEqDiff, if_true, if_false]; rfl)
       case hs => ((simp [snaps, SV.refs, Cell.refs, idx, hpL', lookR]) <;> (repeat' apply And.intro) <;> exact Ints_isG _)
       case h => (first | exact hso ..)
       case hg => ((simp [SV.noG, SV.noGL, Cell.noG]) <;> (repeat' apply And.intro) <;> exact Ints_noG _))
    | ((first | refine s1_id ?_ | refine swp_id ?_ | refine sops_id ?_ | refine s2_id ?_); simp only [rrc, sz, stb, stt, stc, go_sem, Nat.reduceEqDiff, Nat.reduceAdd, Nat.reduceSub, Nat.reduceMul, Nat.reduceLT, Nat.reduceLeDiff, ↓reduceIte, reduceCtorEq, List.reduceReplicate, Int.cast_ofNat_Int, Int.reduceEq, Int.reduceLT, Int.reduceLE, SV.ren, SV.renL, Cell.ren, Row.ren, renO, bk, back, outUpsFrom, Ints_ren])
    | (apply fs_nil <;> (try simp only [go_sem, resV, resS, SV.ren, SV.renL, Cell.ren, St.tmF, St.hpF, idx, renO, Row.ren, evS, slot, lookR, Nat.reduceEqDiff, ↓reduceIte, reduceCtorEq, if_true, if_false, Option.getD_some, Option.getD_none, List.map_cons, List.map_nil, sLoad, readAt, readNeed, Ints_ren, Ints_length, Ints_getD, and_true, true_and, List.getD_cons_zero, List.getD_cons_succ]) <;> (try rfl)))
    | true =>
      have h4 : r.s = 4 := Classical.byContradiction fun hc => h ⟨h1, hc⟩
      rw [h1] at hso
      clear h h1
      obtain ⟨t, q, a, l, s, u⟩ := r
      simp only at h4
      refine fnspec_of mixed TT_ok TT_cl ⟨fun _ => false, fun _ => [], 0, fun _ => false, fun _ => false⟩ Try.func34 rfl (by kernel_rfl) rfl 26 rfl [.cell 4 28, .tmp 5] rfl ?_
      simp only [go_sem, Nat.reduceEqDiff, Nat.reduceAdd, Nat.reduceSub, Nat.reduceMul, Nat.reduceLT, Nat.reduceLeDiff, ↓reduceIte, reduceCtorEq, List.reduceReplicate, Int.cast_ofNat_Int, Int.reduceEq, Int.reduceLT, Int.reduceLE, rrc]
      repeat' (first
    | with_reducible refine And.intro ?_ ?_
    | (unfold OKC; kernel_rfl)
    | (apply okc_up <;> (first | ((repeat (first | exact Sub.nil | apply Sub.gfp | apply Sub.same)); done) | kernel_rfl))
    | (unfold EDG; kernel_rfl)
    | (intros; (try simp only [Bool.and_eq_true, Bool.or_eq_true, Bool.not_eq_true', Bool.not_eq_false', Bool.and_eq_false_iff, Bool.or_eq_false_iff, decide_eq_true_eq, decide_eq_false_iff_not] at *); omega)
    | (refine gt_if (fun h => ?_) (fun h => ?_) <;> (try simp only [h]))
    | (refine pt_if (fun h => ?_) (fun h => ?_) <;> (try simp only [h]))
    | (refine cd_if (fun h => ?_) (fun h => ?_) <;> (try simp only [h]))
    | (apply cg_tp
       case hl => rfl
       case ha => (simp only [List.map_cons, List.map_nil, prepV, prepC, idx, hpL', lookR, Nat.reduceEqDiff, if_true, if_false]; rfl)
       case hs => rfl
       case h => (first | exact hso ..))
    | (apply cg_ts
       case hl => rfl
       case ha => (simp only [List.map_cons, List.map_nil, prepV, prepC, idx, hpL', lookR, Nat.reduceEqDiff, if_true, if_false]; rfl)
       case hs => (simp only [snaps_nil, List.flatMap_cons, List.flatMap_nil, SV.refs, Cell.refs, List.nil_append, List.cons_append, List.append_nil]; rfl)
       case h => (first | exact hso ..)
       case hf => ((simp only [List.forall_mem_cons, List.not_mem_nil, false_implies, implies_true, and_true, hpL', lookR, Nat.reduceEqDiff, if_true, if_false]) <;> (repeat' apply And.intro) <;> (first | exact ⟨_, rfl, Ints_isG _⟩ | exact ⟨_, rfl, by simp [Cell.isG]⟩))
       case hg => simp [SV.noG, SV.noGL, Cell.noG])
    | (apply cg_any
       case hl => rfl
       case ha => (intro hb; simp only [List.map_cons, List.map_nil, cnd, hb, if_true, prepV, prepC, idx, hpL', lookR, Nat.reduceEqDiff, if_false]; rfl)
       case hs => (intro hb; simp only [cnd, hb, if_true]; rfl)
       case h => (first | exact hso ..))
    | (apply cg_show
       case hl => rfl
       case ha => (intro hb; simp only [List.map_cons, List.map_nil, cnd, hb, if_true, prepV, prepC, idx, hpL', lookR, Nat.reduceEqDiff, if_false]; rfl)
       case hs => (intro hb; simp only [cnd, hb, if_true, snaps_nil, List.flatMap_cons, List.flatMap_nil, SV.refs, Cell.refs, List.nil_append, List.cons_append, List.append_nil]; rfl)
       case h => (first | exact hso ..)
       case hf => ((simp only [List.forall_mem_cons, List.not_mem_nil, false_implies, implies_true, and_true, hpL', lookR, Nat.reduceEqDiff, if_true, if_false]) <;> (repeat' apply And.intro) <;> (first | exact ⟨_, rfl, Ints_isG _⟩ | exact ⟨_, rfl, by simp [Cell.isG]⟩))
       case hg => simp [SV.noG, SV.noGL, Cell.noG])
    | (apply cl_plain
       case hs => rfl
       case ha => (simp only [List.map_cons, List.map_nil, prepV, prepC, idx, hpL', lookR, Nat.reduceEqDiff, if_true, if_false]; rfl)
       case h => (first | exact hso ..))
    | (apply cl_show
       case ha => (simp only [List.map_cons, List.map_nil, prepV, prepC, idx, hpL', lookR, Nat.reduceEqDiff, if_true, if_false]; rfl)
       case hs => ((simp [snaps, SV.refs, Cell.refs, idx, hpL', lookR]) <;> (repeat' apply And.intro) <;> exact Ints_isG _)
       case h => (first | exact hso ..)
       case hg => ((simp [SV.noG, SV.noGL, Cell.noG]) <;> (repeat' apply And.intro) <;> exact Ints_noG _))
    | ((first | refine s1_id ?_ | refine swp_id ?_ | refine sops_id ?_ | refine s2_id ?_); simp only [rrc, sz, stb, stt, stc, decide_eq_true h4, go_sem, Nat.reduceEqDiff, Nat.reduceAdd, Nat.reduceSub, Nat.reduceMul, Nat.reduceLT, Nat.reduceLeDiff, ↓reduceIte, reduceCtorEq, List.reduceReplicate, Int.cast_ofNat_Int, Int.reduceEq, Int.reduceLT, Int.reduceLE, SV.ren, SV.renL, Cell.ren, Row.ren, renO, bk, back, outUpsFrom, Ints_ren])
    | (apply fs_nil <;> (try simp only [go_sem, resV, resS, SV.ren, SV.renL, Cell.ren, St.tmF, St.hpF, idx, renO, Row.ren, evS, slot, lookR, Nat.reduceEqDiff, ↓reduceIte, reduceCtorEq, if_true, if_false, Option.getD_some, Option.getD_none, List.map_cons, List.map_nil, sLoad, readAt, readNeed, Ints_ren, Ints_length, Ints_getD, and_true, true_and, List.getD_cons_zero, List.getD_cons_succ]) <;> (try rfl)))
theorem eager_spec (p : List (List Stp)) (c : Option Nat) (r : Rr) (hp : p.length ≤ 9223372036854775807) : FnSpec Try.prog 19 [gp p c, rrt r] [] (b1 (snd p r && (decide (r.s = 0) || decide (r.s = 3)))) [] := by
  have hso := sound_spec p c r hp
  generalize snd p r = b at *
  obtain ⟨t, q, a, l, s, u⟩ := r
  cases b with
  | false =>
    refine fnspec_of mixed TT_ok TT_cl ⟨fun _ => false, fun _ => [], 0, fun _ => false, fun _ => false⟩ Try.func19 rfl (by kernel_rfl) rfl 18 rfl [.tmp 4] rfl ?_
    simp only [go_sem, Nat.reduceEqDiff, Nat.reduceAdd, Nat.reduceSub, Nat.reduceMul, Nat.reduceLT, Nat.reduceLeDiff, ↓reduceIte, reduceCtorEq, List.reduceReplicate, Int.cast_ofNat_Int, Int.reduceEq, Int.reduceLT, Int.reduceLE, rrc]
    repeat' (first
    | with_reducible refine And.intro ?_ ?_
    | (unfold OKC; kernel_rfl)
    | (apply okc_up <;> (first | ((repeat (first | exact Sub.nil | apply Sub.gfp | apply Sub.same)); done) | kernel_rfl))
    | (unfold EDG; kernel_rfl)
    | (intros; (try simp only [Bool.and_eq_true, Bool.or_eq_true, Bool.not_eq_true', Bool.not_eq_false', Bool.and_eq_false_iff, Bool.or_eq_false_iff, decide_eq_true_eq, decide_eq_false_iff_not] at *); omega)
    | (refine gt_if (fun h => ?_) (fun h => ?_) <;> (try simp only [h]))
    | (refine pt_if (fun h => ?_) (fun h => ?_) <;> (try simp only [h]))
    | (refine cd_if (fun h => ?_) (fun h => ?_) <;> (try simp only [h]))
    | (apply cg_tp
       case hl => rfl
       case ha => (simp only [List.map_cons, List.map_nil, prepV, prepC, idx, hpL', lookR, Nat.reduceEqDiff, if_true, if_false]; rfl)
       case hs => rfl
       case h => (first | exact hso ..))
    | (apply cg_ts
       case hl => rfl
       case ha => (simp only [List.map_cons, List.map_nil, prepV, prepC, idx, hpL', lookR, Nat.reduceEqDiff, if_true, if_false]; rfl)
       case hs => (simp only [snaps_nil, List.flatMap_cons, List.flatMap_nil, SV.refs, Cell.refs, List.nil_append, List.cons_append, List.append_nil]; rfl)
       case h => (first | exact hso ..)
       case hf => ((simp only [List.forall_mem_cons, List.not_mem_nil, false_implies, implies_true, and_true, hpL', lookR, Nat.reduceEqDiff, if_true, if_false]) <;> (repeat' apply And.intro) <;> (first | exact ⟨_, rfl, Ints_isG _⟩ | exact ⟨_, rfl, by simp [Cell.isG]⟩))
       case hg => simp [SV.noG, SV.noGL, Cell.noG])
    | (apply cg_any
       case hl => rfl
       case ha => (intro hb; simp only [List.map_cons, List.map_nil, cnd, hb, if_true, prepV, prepC, idx, hpL', lookR, Nat.reduceEqDiff, if_false]; rfl)
       case hs => (intro hb; simp only [cnd, hb, if_true]; rfl)
       case h => (first | exact hso ..))
    | (apply cg_show
       case hl => rfl
       case ha => (intro hb; simp only [List.map_cons, List.map_nil, cnd, hb, if_true, prepV, prepC, idx, hpL', lookR, Nat.reduceEqDiff, if_false]; rfl)
       case hs => (intro hb; simp only [cnd, hb, if_true, snaps_nil, List.flatMap_cons, List.flatMap_nil, SV.refs, Cell.refs, List.nil_append, List.cons_append, List.append_nil]; rfl)
       case h => (first | exact hso ..)
       case hf => ((simp only [List.forall_mem_cons, List.not_mem_nil, false_implies, implies_true, and_true, hpL', lookR, Nat.reduceEqDiff, if_true, if_false]) <;> (repeat' apply And.intro) <;> (first | exact ⟨_, rfl, Ints_isG _⟩ | exact ⟨_, rfl, by simp [Cell.isG]⟩))
       case hg => simp [SV.noG, SV.noGL, Cell.noG])
    | (apply cl_plain
       case hs => rfl
       case ha => (simp only [List.map_cons, List.map_nil, prepV, prepC, idx, hpL', lookR, Nat.reduceEqDiff, if_true, if_false]; rfl)
       case h => (first | exact hso ..))
    | (apply cl_show
       case ha => (simp only [List.map_cons, List.map_nil, prepV, prepC, idx, hpL', lookR, Nat.reduceEqDiff, if_true, if_false]; rfl)
       case hs => ((simp [snaps, SV.refs, Cell.refs, idx, hpL', lookR]) <;> (repeat' apply And.intro) <;> exact Ints_isG _)
       case h => (first | exact hso ..)
       case hg => ((simp [SV.noG, SV.noGL, Cell.noG]) <;> (repeat' apply And.intro) <;> exact Ints_noG _))
    | ((first | refine s1_id ?_ | refine swp_id ?_ | refine sops_id ?_ | refine s2_id ?_); simp only [rrc, Bool.false_and, go_sem, Nat.reduceEqDiff, Nat.reduceAdd, Nat.reduceSub, Nat.reduceMul, Nat.reduceLT, Nat.reduceLeDiff, ↓reduceIte, reduceCtorEq, List.reduceReplicate, Int.cast_ofNat_Int, Int.reduceEq, Int.reduceLT, Int.reduceLE, SV.ren, SV.renL, Cell.ren, Row.ren, renO, bk, back, outUpsFrom, Ints_ren])
    | (apply fs_nil <;> (try simp only [go_sem, resV, resS, SV.ren, SV.renL, Cell.ren, St.tmF, St.hpF, idx, renO, Row.ren, evS, slot, lookR, Nat.reduceEqDiff, ↓reduceIte, reduceCtorEq, if_true, if_false, Option.getD_some, Option.getD_none, List.map_cons, List.map_nil, sLoad, readAt, readNeed, Ints_ren, Ints_length, Ints_getD, and_true, true_and, List.getD_cons_zero, List.getD_cons_succ]) <;> (try rfl)))
  | true =>
    refine fnspec_of mixed TT_ok TT_cl ⟨fun _ => false, fun _ => [], 0, fun _ => false, fun _ => false⟩ Try.func19 rfl (by kernel_rfl) rfl 18 rfl [.tmp 4] rfl ?_
    simp only [go_sem, Nat.reduceEqDiff, Nat.reduceAdd, Nat.reduceSub, Nat.reduceMul, Nat.reduceLT, Nat.reduceLeDiff, ↓reduceIte, reduceCtorEq, List.reduceReplicate, Int.cast_ofNat_Int, Int.reduceEq, Int.reduceLT, Int.reduceLE, rrc]
    repeat' (first
    | with_reducible refine And.intro ?_ ?_
    | (unfold OKC; kernel_rfl)
    | (apply okc_up <;> (first | ((repeat (first | exact Sub.nil | apply Sub.gfp | apply Sub.same)); done) | kernel_rfl))
    | (unfold EDG; kernel_rfl)
    | (intros; (try simp only [Bool.and_eq_true, Bool.or_eq_true, Bool.not_eq_true', Bool.not_eq_false', Bool.and_eq_false_iff, Bool.or_eq_false_iff, decide_eq_true_eq, decide_eq_false_iff_not] at *); omega)
    | (refine gt_if (fun h => ?_) (fun h => ?_) <;> (try simp only [h]))
    | (refine pt_if (fun h => ?_) (fun h => ?_) <;> (try simp only [h]))
    | (refine cd_if (fun h => ?_) (fun h => ?_) <;> (try simp only [h]))
    | (apply cg_tp
       case hl => rfl
       case ha => (simp only [List.map_cons, List.map_nil, prepV, prepC, idx, hpL', lookR, Nat.reduceEqDiff, if_true, if_false]; rfl)
       case hs => rfl
       case h => (first | exact hso ..))
    | (apply cg_ts
       case hl => rfl
       case ha => (simp only [List.map_cons, List.map_nil, prepV, prepC, idx, hpL', lookR, Nat.reduceEqDiff, if_true, if_false]; rfl)
       case hs => (simp only [snaps_nil, List.flatMap_cons, List.flatMap_nil, SV.refs, Cell.refs, List.nil_append, List.cons_append, List.append_nil]; rfl)
       case h => (first | exact hso ..)
       case hf => ((simp only [List.forall_mem_cons, List.not_mem_nil, false_implies, implies_true, and_true, hpL', lookR, Nat.reduceEqDiff, if_true, if_false]) <;> (repeat' apply And.intro) <;> (first | exact ⟨_, rfl, Ints_isG _⟩ | exact ⟨_, rfl, by simp [Cell.isG]⟩))
       case hg => simp [SV.noG, SV.noGL, Cell.noG])
    | (apply cg_any
       case hl => rfl
       case ha => (intro hb; simp only [List.map_cons, List.map_nil, cnd, hb, if_true, prepV, prepC, idx, hpL', lookR, Nat.reduceEqDiff, if_false]; rfl)
       case hs => (intro hb; simp only [cnd, hb, if_true]; rfl)
       case h => (first | exact hso ..))
    | (apply cg_show
       case hl => rfl
       case ha => (intro hb; simp only [List.map_cons, List.map_nil, cnd, hb, if_true, prepV, prepC, idx, hpL', lookR, Nat.reduceEqDiff, if_false]; rfl)
       case hs => (intro hb; simp only [cnd, hb, if_true, snaps_nil, List.flatMap_cons, List.flatMap_nil, SV.refs, Cell.refs, List.nil_append, List.cons_append, List.append_nil]; rfl)
       case h => (first | exact hso ..)
       case hf => ((simp only [List.forall_mem_cons, List.not_mem_nil, false_implies, implies_true, and_true, hpL', lookR, Nat.reduceEqDiff, if_true, if_false]) <;> (repeat' apply And.intro) <;> (first | exact ⟨_, rfl, Ints_isG _⟩ | exact ⟨_, rfl, by simp [Cell.isG]⟩))
       case hg => simp [SV.noG, SV.noGL, Cell.noG])
    | (apply cl_plain
       case hs => rfl
       case ha => (simp only [List.map_cons, List.map_nil, prepV, prepC, idx, hpL', lookR, Nat.reduceEqDiff, if_true, if_false]; rfl)
       case h => (first | exact hso ..))
    | (apply cl_show
       case ha => (simp only [List.map_cons, List.map_nil, prepV, prepC, idx, hpL', lookR, Nat.reduceEqDiff, if_true, if_false]; rfl)
       case hs => ((simp [snaps, SV.refs, Cell.refs, idx, hpL', lookR]) <;> (repeat' apply And.intro) <;> exact Ints_isG _)
       case h => (first | exact hso ..)
       case hg => ((simp [SV.noG, SV.noGL, Cell.noG]) <;> (repeat' apply And.intro) <;> exact Ints_noG _))
    | ((first | refine s1_id ?_ | refine swp_id ?_ | refine sops_id ?_ | refine s2_id ?_); simp only [rrc, Bool.true_and, go_sem, Nat.reduceEqDiff, Nat.reduceAdd, Nat.reduceSub, Nat.reduceMul, Nat.reduceLT, Nat.reduceLeDiff, ↓reduceIte, reduceCtorEq, List.reduceReplicate, Int.cast_ofNat_Int, Int.reduceEq, Int.reduceLT, Int.reduceLE, SV.ren, SV.renL, Cell.ren, Row.ren, renO, bk, back, outUpsFrom, Ints_ren])
    | (apply fs_nil <;> (try simp only [go_sem, resV, resS, SV.ren, SV.renL, Cell.ren, St.tmF, St.hpF, idx, renO, Row.ren, evS, slot, lookR, Nat.reduceEqDiff, ↓reduceIte, reduceCtorEq, if_true, if_false, Option.getD_some, Option.getD_none, List.map_cons, List.map_nil, sLoad, readAt, readNeed, Ints_ren, Ints_length, Ints_getD, and_true, true_and, List.getD_cons_zero, List.getD_cons_succ]) <;> (try rfl)))
theorem reager_spec (p : List (List Stp)) (c : Option Nat) (r : Rr) (hp : p.length ≤ 9223372036854775807) : FnSpec Try.prog 37 [gp p c, rrt r] [] (b1 (snd p r && (decide (r.s = 0) || decide (r.s = 3)))) [] := by
  have hso := rsound_spec p c r hp
  generalize snd p r = b at *
  obtain ⟨t, q, a, l, s, u⟩ := r
  cases b with
  | false =>
    refine fnspec_of mixed TT_ok TT_cl ⟨fun _ => false, fun _ => [], 0, fun _ => false, fun _ => false⟩ Try.func37 rfl (by kernel_rfl) rfl 18 rfl [.tmp 4] rfl ?_
    simp only [go_sem, Nat.reduceEqDiff, Nat.reduceAdd, Nat.reduceSub, Nat.reduceMul, Nat.reduceLT, Nat.reduceLeDiff, ↓reduceIte, reduceCtorEq, List.reduceReplicate, Int.cast_ofNat_Int, Int.reduceEq, Int.reduceLT, Int.reduceLE, rrc]
    repeat' (first
    | with_reducible refine And.intro ?_ ?_
    | (unfold OKC; kernel_rfl)
    | (apply okc_up <;> (first | ((repeat (first | exact Sub.nil | apply Sub.gfp | apply Sub.same)); done) | kernel_rfl))
    | (unfold EDG; kernel_rfl)
    | (intros; (try simp only [Bool.and_eq_true, Bool.or_eq_true, Bool.not_eq_true', Bool.not_eq_false', Bool.and_eq_false_iff, Bool.or_eq_false_iff, decide_eq_true_eq, decide_eq_false_iff_not] at *); omega)
    | (refine gt_if (fun h => ?_) (fun h => ?_) <;> (try simp only [h]))
    | (refine pt_if (fun h => ?_) (fun h => ?_) <;> (try simp only [h]))
    | (refine cd_if (fun h => ?_) (fun h => ?_) <;> (try simp only [h]))
    | (apply cg_tp
       case hl => rfl
       case ha => (simp only [List.map_cons, List.map_nil, prepV, prepC, idx, hpL', lookR, Nat.reduceEqDiff, if_true, if_false]; rfl)
       case hs => rfl
       case h => (first | exact hso ..))
    | (apply cg_ts
       case hl => rfl
       case ha => (simp only [List.map_cons, List.map_nil, prepV, prepC, idx, hpL', lookR, Nat.reduceEqDiff, if_true, if_false]; rfl)
       case hs => (simp only [snaps_nil, List.flatMap_cons, List.flatMap_nil, SV.refs, Cell.refs, List.nil_append, List.cons_append, List.append_nil]; rfl)
       case h => (first | exact hso ..)
       case hf => ((simp only [List.forall_mem_cons, List.not_mem_nil, false_implies, implies_true, and_true, hpL', lookR, Nat.reduceEqDiff, if_true, if_false]) <;> (repeat' apply And.intro) <;> (first | exact ⟨_, rfl, Ints_isG _⟩ | exact ⟨_, rfl, by simp [Cell.isG]⟩))
       case hg => simp [SV.noG, SV.noGL, Cell.noG])
    | (apply cg_any
       case hl => rfl
       case ha => (intro hb; simp only [List.map_cons, List.map_nil, cnd, hb, if_true, prepV, prepC, idx, hpL', lookR, Nat.reduceEqDiff, if_false]; rfl)
       case hs => (intro hb; simp only [cnd, hb, if_true]; rfl)
       case h => (first | exact hso ..))
    | (apply cg_show
       case hl => rfl
       case ha => (intro hb; simp only [List.map_cons, List.map_nil, cnd, hb, if_true, prepV, prepC, idx, hpL', lookR, Nat.reduceEqDiff, if_false]; rfl)
       case hs => (intro hb; simp only [cnd, hb, if_true, snaps_nil, List.flatMap_cons, List.flatMap_nil, SV.refs, Cell.refs, List.nil_append, List.cons_append, List.append_nil]; rfl)
       case h => (first | exact hso ..)
       case hf => ((simp only [List.forall_mem_cons, List.not_mem_nil, false_implies, implies_true, and_true, hpL', lookR, Nat.reduceEqDiff, if_true, if_false]) <;> (repeat' apply And.intro) <;> (first | exact ⟨_, rfl, Ints_isG _⟩ | exact ⟨_, rfl, by simp [Cell.isG]⟩))
       case hg => simp [SV.noG, SV.noGL, Cell.noG])
    | (apply cl_plain
       case hs => rfl
       case ha => (simp only [List.map_cons, List.map_nil, prepV, prepC, idx, hpL', lookR, Nat.reduceEqDiff, if_true, if_false]; rfl)
       case h => (first | exact hso ..))
    | (apply cl_show
       case ha => (simp only [List.map_cons, List.map_nil, prepV, prepC, idx, hpL', lookR, Nat.reduceEqDiff, if_true, if_false]; rfl)
       case hs => ((simp [snaps, SV.refs, Cell.refs, idx, hpL', lookR]) <;> (repeat' apply And.intro) <;> exact Ints_isG _)
       case h => (first | exact hso ..)
       case hg => ((simp [SV.noG, SV.noGL, Cell.noG]) <;> (repeat' apply And.intro) <;> exact Ints_noG _))
    | ((first | refine s1_id ?_ | refine swp_id ?_ | refine sops_id ?_ | refine s2_id ?_); simp only [rrc, Bool.false_and, go_sem, Nat.reduceEqDiff, Nat.reduceAdd, Nat.reduceSub, Nat.reduceMul, Nat.reduceLT, Nat.reduceLeDiff, ↓reduceIte, reduceCtorEq, List.reduceReplicate, Int.cast_ofNat_Int, Int.reduceEq, Int.reduceLT, Int.reduceLE, SV.ren, SV.renL, Cell.ren, Row.ren, renO, bk, back, outUpsFrom, Ints_ren])
    | (apply fs_nil <;> (try simp only [go_sem, resV, resS, SV.ren, SV.renL, Cell.ren, St.tmF, St.hpF, idx, renO, Row.ren, evS, slot, lookR, Nat.reduceEqDiff, ↓reduceIte, reduceCtorEq, if_true, if_false, Option.getD_some, Option.getD_none, List.map_cons, List.map_nil, sLoad, readAt, readNeed, Ints_ren, Ints_length, Ints_getD, and_true, true_and, List.getD_cons_zero, List.getD_cons_succ]) <;> (try rfl)))
  | true =>
    refine fnspec_of mixed TT_ok TT_cl ⟨fun _ => false, fun _ => [], 0, fun _ => false, fun _ => false⟩ Try.func37 rfl (by kernel_rfl) rfl 18 rfl [.tmp 4] rfl ?_
    simp only [go_sem, Nat.reduceEqDiff, Nat.reduceAdd, Nat.reduceSub, Nat.reduceMul, Nat.reduceLT, Nat.reduceLeDiff, ↓reduceIte, reduceCtorEq, List.reduceReplicate, Int.cast_ofNat_Int, Int.reduceEq, Int.reduceLT, Int.reduceLE, rrc]
    repeat' (first
    | with_reducible refine And.intro ?_ ?_
    | (unfold OKC; kernel_rfl)
    | (apply okc_up <;> (first | ((repeat (first | exact Sub.nil | apply Sub.gfp | apply Sub.same)); done) | kernel_rfl))
    | (unfold EDG; kernel_rfl)
    | (intros; (try simp only [Bool.and_eq_true, Bool.or_eq_true, Bool.not_eq_true', Bool.not_eq_false', Bool.and_eq_false_iff, Bool.or_eq_false_iff, decide_eq_true_eq, decide_eq_false_iff_not] at *); omega)
    | (refine gt_if (fun h => ?_) (fun h => ?_) <;> (try simp only [h]))
    | (refine pt_if (fun h => ?_) (fun h => ?_) <;> (try simp only [h]))
    | (refine cd_if (fun h => ?_) (fun h => ?_) <;> (try simp only [h]))
    | (apply cg_tp
       case hl => rfl
       case ha => (simp only [List.map_cons, List.map_nil, prepV, prepC, idx, hpL', lookR, Nat.reduceEqDiff, if_true, if_false]; rfl)
       case hs => rfl
       case h => (first | exact hso ..))
    | (apply cg_ts
       case hl => rfl
       case ha => (simp only [List.map_cons, List.map_nil, prepV, prepC, idx, hpL', lookR, Nat.reduceEqDiff, if_true, if_false]; rfl)
       case hs => (simp only [snaps_nil, List.flatMap_cons, List.flatMap_nil, SV.refs, Cell.refs, List.nil_append, List.cons_append, List.append_nil]; rfl)
       case h => (first | exact hso ..)
       case hf => ((simp only [List.forall_mem_cons, List.not_mem_nil, false_implies, implies_true, and_true, hpL', lookR, Nat.reduceEqDiff, if_true, if_false]) <;> (repeat' apply And.intro) <;> (first | exact ⟨_, rfl, Ints_isG _⟩ | exact ⟨_, rfl, by simp [Cell.isG]⟩))
       case hg => simp [SV.noG, SV.noGL, Cell.noG])
    | (apply cg_any
       case hl => rfl
       case ha => (intro hb; simp only [List.map_cons, List.map_nil, cnd, hb, if_true, prepV, prepC, idx, hpL', lookR, Nat.reduceEqDiff, if_false]; rfl)
       case hs => (intro hb; simp only [cnd, hb, if_true]; rfl)
       case h => (first | exact hso ..))
    | (apply cg_show
       case hl => rfl
       case ha => (intro hb; simp only [List.map_cons, List.map_nil, cnd, hb, if_true, prepV, prepC, idx, hpL', lookR, Nat.reduceEqDiff, if_false]; rfl)
       case hs => (intro hb; simp only [cnd, hb, if_true, snaps_nil, List.flatMap_cons, List.flatMap_nil, SV.refs, Cell.refs, List.nil_append, List.cons_append, List.append_nil]; rfl)
       case h => (first | exact hso ..)
       case hf => ((simp only [List.forall_mem_cons, List.not_mem_nil, false_implies, implies_true, and_true, hpL', lookR, Nat.reduceEqDiff, if_true, if_false]) <;> (repeat' apply And.intro) <;> (first | exact ⟨_, rfl, Ints_isG _⟩ | exact ⟨_, rfl, by simp [Cell.isG]⟩))
       case hg => simp [SV.noG, SV.noGL, Cell.noG])
    | (apply cl_plain
       case hs => rfl
       case ha => (simp only [List.map_cons, List.map_nil, prepV, prepC, idx, hpL', lookR, Nat.reduceEqDiff, if_true, if_false]; rfl)
       case h => (first | exact hso ..))
    | (apply cl_show
       case ha => (simp only [List.map_cons, List.map_nil, prepV, prepC, idx, hpL', lookR, Nat.reduceEqDiff, if_true, if_false]; rfl)
       case hs => ((simp [snaps, SV.refs, Cell.refs, idx, hpL', lookR]) <;> (repeat' apply And.intro) <;> exact Ints_isG _)
       case h => (first | exact hso ..)
       case hg => ((simp [SV.noG, SV.noGL, Cell.noG]) <;> (repeat' apply And.intro) <;> exact Ints_noG _))
    | ((first | refine s1_id ?_ | refine swp_id ?_ | refine sops_id ?_ | refine s2_id ?_); simp only [rrc, Bool.true_and, go_sem, Nat.reduceEqDiff, Nat.reduceAdd, Nat.reduceSub, Nat.reduceMul, Nat.reduceLT, Nat.reduceLeDiff, ↓reduceIte, reduceCtorEq, List.reduceReplicate, Int.cast_ofNat_Int, Int.reduceEq, Int.reduceLT, Int.reduceLE, SV.ren, SV.renL, Cell.ren, Row.ren, renO, bk, back, outUpsFrom, Ints_ren])
    | (apply fs_nil <;> (try simp only [go_sem, resV, resS, SV.ren, SV.renL, Cell.ren, St.tmF, St.hpF, idx, renO, Row.ren, evS, slot, lookR, Nat.reduceEqDiff, ↓reduceIte, reduceCtorEq, if_true, if_false, Option.getD_some, Option.getD_none, List.map_cons, List.map_nil, sLoad, readAt, readNeed, Ints_ren, Ints_length, Ints_getD, and_true, true_and, List.getD_cons_zero, List.getD_cons_succ]) <;> (try rfl)))
def pck (p : List (List Stp)) (r : Rr) : Stp × Int := if snd p r = false then (sz, 1) else if r.s = 4 then (sz, 9) else (stp p r, 0)
abbrev sti (x : Stp × Int) : SV := .tup [stt x.1, i1 x.2]
theorem check_spec (p : List (List Stp)) (c : Option Nat) (r : Rr) (hp : p.length ≤ 9223372036854775807) : FnSpec Try.prog 39 [gp p c, rrt r] [] (sti (pck p r)) [] := by
  have hso := sound_spec p c r hp
  have hcu := current_spec p c r hp
  unfold pck
  cases h1 : snd p r with
  | false =>
    rw [if_pos rfl]
    rw [h1] at hso
    clear hcu h1
    obtain ⟨t, q, a, l, s, u⟩ := r
    refine fnspec_of mixed TT_ok TT_cl ⟨fun _ => false, fun _ => [], 0, fun _ => false, fun _ => false⟩ Try.func39 rfl (by kernel_rfl) rfl 23 rfl [.cell 4 28, .tmp 5] rfl ?_
    simp only [go_sem, Nat.reduceEqDiff, Nat.reduceAdd, Nat.reduceSub, Nat.reduceMul, Nat.reduceLT, Nat.reduceLeDiff, ↓reduceIte, reduceCtorEq, List.reduceReplicate, Int.cast_ofNat_Int, Int.reduceEq, Int.reduceLT, Int.reduceLE, rrc]
    repeat' (first
    | with_reducible refine And.intro ?_ ?_
    | (unfold OKC; kernel_rfl)
    | (apply okc_up <;> (first | ((repeat (first | exact Sub.nil | apply Sub.gfp | apply Sub.same)); done) | kernel_rfl))
    | (unfold EDG; kernel_rfl)
    | (intros; (try simp only [Bool.and_eq_true, Bool.or_eq_true, Bool.not_eq_true', Bool.not_eq_false', Bool.and_eq_false_iff, Bool.or_eq_false_iff, decide_eq_true_eq, decide_eq_false_iff_not] at *); omega)
    | (refine gt_if (fun h => ?_) (fun h => ?_) <;> (try simp only [h]))
    | (refine pt_if (fun h => ?_) (fun h => ?_) <;> (try simp only [h]))
    | (refine cd_if (fun h => ?_) (fun h => ?_) <;> (try simp only [h]))
    | (apply cg_tp
       case hl => rfl
       case ha => (simp only [List.map_cons, List.map_nil, prepV, prepC, idx, hpL', lookR, Nat.reduceEqDiff, if_true, if_false]; rfl)
       case hs => rfl
       case h => (first | exact hso ..))
    | (apply cg_ts
       case hl => rfl
       case ha => (simp only [List.map_cons, List.map_nil, prepV, prepC, idx, hpL', lookR, Nat.reduceEqDiff, if_true, if_false]; rfl)
       case hs => (simp only [snaps_nil, List.flatMap_cons, List.flatMap_nil, SV.refs, Cell.refs, List.nil_append, List.cons_append, List.append_nil]; rfl)
       case h => (first | exact hso ..)
       case hf => ((simp only [List.forall_mem_cons, List.not_mem_nil, false_implies, implies_true, and_true, hpL', lookR, Nat.reduceEqDiff, if_true, if_false]) <;> (repeat' apply And.intro) <;> (first | exact ⟨_, rfl, Ints_isG _⟩ | exact ⟨_, rfl, by simp [Cell.isG]⟩))
       case hg => simp [SV.noG, SV.noGL, Cell.noG])
    | (apply cg_any
       case hl => rfl
       case ha => (intro hb; simp only [List.map_cons, List.map_nil, cnd, hb, if_true, prepV, prepC, idx, hpL', lookR, Nat.reduceEqDiff, if_false]; rfl)
       case hs => (intro hb; simp only [cnd, hb, if_true]; rfl)
       case h => (first | exact hso ..))
    | (apply cg_show
       case hl => rfl
       case ha => (intro hb; simp only [List.map_cons, List.map_nil, cnd, hb, if_true, prepV, prepC, idx, hpL', lookR, Nat.reduceEqDiff, if_false]; rfl)
       case hs => (intro hb; simp only [cnd, hb, if_true, snaps_nil, List.flatMap_cons, List.flatMap_nil, SV.refs, Cell.refs, List.nil_append, List.cons_append, List.append_nil]; rfl)
       case h => (first | exact hso ..)
       case hf => ((simp only [List.forall_mem_cons, List.not_mem_nil, false_implies, implies_true, and_true, hpL', lookR, Nat.reduceEqDiff, if_true, if_false]) <;> (repeat' apply And.intro) <;> (first | exact ⟨_, rfl, Ints_isG _⟩ | exact ⟨_, rfl, by simp [Cell.isG]⟩))
       case hg => simp [SV.noG, SV.noGL, Cell.noG])
    | (apply cl_plain
       case hs => rfl
       case ha => (simp only [List.map_cons, List.map_nil, prepV, prepC, idx, hpL', lookR, Nat.reduceEqDiff, if_true, if_false]; rfl)
       case h => (first | exact hso ..))
    | (apply cl_show
       case ha => (simp only [List.map_cons, List.map_nil, prepV, prepC, idx, hpL', lookR, Nat.reduceEqDiff, if_true, if_false]; rfl)
       case hs => ((simp [snaps, SV.refs, Cell.refs, idx, hpL', lookR]) <;> (repeat' apply And.intro) <;> exact Ints_isG _)
       case h => (first | exact hso ..)
       case hg => ((simp [SV.noG, SV.noGL, Cell.noG]) <;> (repeat' apply And.intro) <;> exact Ints_noG _))
    | ((first | refine s1_id ?_ | refine swp_id ?_ | refine sops_id ?_ | refine s2_id ?_); simp only [rrc, sz, sti, stt, stc, go_sem, Nat.reduceEqDiff, Nat.reduceAdd, Nat.reduceSub, Nat.reduceMul, Nat.reduceLT, Nat.reduceLeDiff, ↓reduceIte, reduceCtorEq, List.reduceReplicate, Int.cast_ofNat_Int, Int.reduceEq, Int.reduceLT, Int.reduceLE, SV.ren, SV.renL, Cell.ren, Row.ren, renO, bk, back, outUpsFrom, Ints_ren])
    | (apply fs_nil <;> (try simp only [go_sem, resV, resS, SV.ren, SV.renL, Cell.ren, St.tmF, St.hpF, idx, renO, Row.ren, evS, slot, lookR, Nat.reduceEqDiff, ↓reduceIte, reduceCtorEq, if_true, if_false, Option.getD_some, Option.getD_none, List.map_cons, List.map_nil, sLoad, readAt, readNeed, Ints_ren, Ints_length, Ints_getD, and_true, true_and, List.getD_cons_zero, List.getD_cons_succ]) <;> (try rfl)))
  | true =>
    rw [if_neg (by simp)]
    rw [h1] at hso
    by_cases h4 : r.s = 4
    · rw [if_pos h4]
      have e : pcur p r = (sz, false) := by unfold pcur; rw [if_neg (fun h => h.2 h4)]
      rw [e] at hcu
      clear h1 e
      obtain ⟨t, q, a, l, s, u⟩ := r
      refine fnspec_of mixed TT_ok TT_cl ⟨fun _ => false, fun _ => [], 0, fun _ => false, fun _ => false⟩ Try.func39 rfl (by kernel_rfl) rfl 23 rfl [.cell 4 28, .tmp 5] rfl ?_
      simp only [go_sem, Nat.reduceEqDiff, Nat.reduceAdd, Nat.reduceSub, Nat.reduceMul, Nat.reduceLT, Nat.reduceLeDiff, ↓reduceIte, reduceCtorEq, List.reduceReplicate, Int.cast_ofNat_Int, Int.reduceEq, Int.reduceLT, Int.reduceLE, rrc]
      repeat' (first
    | with_reducible refine And.intro ?_ ?_
    | (unfold OKC; kernel_rfl)
    | (apply okc_up <;> (first | ((repeat (first | exact Sub.nil | apply Sub.gfp | apply Sub.same)); done) | kernel_rfl))
    | (unfold EDG; kernel_rfl)
    | (intros; (try simp only [Bool.and_eq_true, Bool.or_eq_true, Bool.not_eq_true', Bool.not_eq_false', Bool.and_eq_false_iff, Bool.or_eq_false_iff, decide_eq_true_eq, decide_eq_false_iff_not] at *); omega)
    | (refine gt_if (fun h => ?_) (fun h => ?_) <;> (try simp only [h]))
    | (refine pt_if (fun h => ?_) (fun h => ?_) <;> (try simp only [h]))
    | (refine cd_if (fun h => ?_) (fun h => ?_) <;> (try simp only [h]))
    | (apply cg_tp
       case hl => rfl
       case ha => (simp only [List.map_cons, List.map_nil, prepV, prepC, idx, hpL', lookR, Nat.reduceEqDiff, if_true, if_false]; rfl)
       case hs => rfl
       case h => (first | exact hso .. | exact hcu ..))
    | (apply cg_ts
       case hl => rfl
       case ha => (simp only [List.map_cons, List.map_nil, prepV, prepC, idx, hpL', lookR, Nat.reduceEqDiff, if_true, if_false]; rfl)
       case hs => (simp only [snaps_nil, List.flatMap_cons, List.flatMap_nil, SV.refs, Cell.refs, List.nil_append, List.cons_append, List.append_nil]; rfl)
       case h => (first | exact hso .. | exact hcu ..)
       case hf => ((simp only [List.forall_mem_cons, List.not_mem_nil, false_implies, implies_true, and_true, hpL', lookR, Nat.reduceEqDiff, if_true, if_false]) <;> (repeat' apply And.intro) <;> (first | exact ⟨_, rfl, Ints_isG _⟩ | exact ⟨_, rfl, by simp [Cell.isG]⟩))
       case hg => simp [SV.noG, SV.noGL, Cell.noG])
    | (apply cg_any
       case hl => rfl
       case ha => (intro hb; simp only [List.map_cons, List.map_nil, cnd, hb, if_true, prepV, prepC, idx, hpL', lookR, Nat.reduceEqDiff, if_false]; rfl)
       case hs => (intro hb; simp only [cnd, hb, if_true]; rfl)
       case h => (first | exact hso .. | exact hcu ..))
    | (apply cg_show
       case hl => rfl
       case ha => (intro hb; simp only [List.map_cons, List.map_nil, cnd, hb, if_true, prepV, prepC, idx, hpL', lookR, Nat.reduceEqDiff, if_false]; rfl)
       case hs => (intro hb; simp only [cnd, hb, if_true, snaps_nil, List.flatMap_cons, List.flatMap_nil, SV.refs, Cell.refs, List.nil_append, List.cons_append, List.append_nil]; rfl)
       case h => (first | exact hso .. | exact hcu ..)
       case hf => ((simp only [List.forall_mem_cons, List.not_mem_nil, false_implies, implies_true, and_true, hpL', lookR, Nat.reduceEqDiff, if_true, if_false]) <;> (repeat' apply And.intro) <;> (first | exact ⟨_, rfl, Ints_isG _⟩ | exact ⟨_, rfl, by simp [Cell.isG]⟩))
       case hg => simp [SV.noG, SV.noGL, Cell.noG])
    | (apply cl_plain
       case hs => rfl
       case ha => (simp only [List.map_cons, List.map_nil, prepV, prepC, idx, hpL', lookR, Nat.reduceEqDiff, if_true, if_false]; rfl)
       case h => (first | exact hso .. | exact hcu ..))
    | (apply cl_show
       case ha => (simp only [List.map_cons, List.map_nil, prepV, prepC, idx, hpL', lookR, Nat.reduceEqDiff, if_true, if_false]; rfl)
       case hs => ((simp [snaps, SV.refs, Cell.refs, idx, hpL', lookR]) <;> (repeat' apply And.intro) <;> exact Ints_isG _)
       case h => (first | exact hso .. | exact hcu ..)
       case hg => ((simp [SV.noG, SV.noGL, Cell.noG]) <;> (repeat' apply And.intro) <;> exact Ints_noG _))
    | ((first | refine s1_id ?_ | refine swp_id ?_ | refine sops_id ?_ | refine s2_id ?_); simp only [rrc, sz, sti, stt, stc, go_sem, Nat.reduceEqDiff, Nat.reduceAdd, Nat.reduceSub, Nat.reduceMul, Nat.reduceLT, Nat.reduceLeDiff, ↓reduceIte, reduceCtorEq, List.reduceReplicate, Int.cast_ofNat_Int, Int.reduceEq, Int.reduceLT, Int.reduceLE, SV.ren, SV.renL, Cell.ren, Row.ren, renO, bk, back, outUpsFrom, Ints_ren])
    | (apply fs_nil <;> (try simp only [go_sem, resV, resS, SV.ren, SV.renL, Cell.ren, St.tmF, St.hpF, idx, renO, Row.ren, evS, slot, lookR, Nat.reduceEqDiff, ↓reduceIte, reduceCtorEq, if_true, if_false, Option.getD_some, Option.getD_none, List.map_cons, List.map_nil, sLoad, readAt, readNeed, Ints_ren, Ints_length, Ints_getD, and_true, true_and, List.getD_cons_zero, List.getD_cons_succ]) <;> (try rfl)))
    · rw [if_neg h4]
      have e : pcur p r = (stp p r, true) := by unfold pcur; rw [if_pos ⟨h1, h4⟩]
      rw [e] at hcu
      clear h1 e
      generalize stp p r = x at *
      obtain ⟨t, q, a, l, s, u⟩ := r
      refine fnspec_of mixed TT_ok TT_cl ⟨fun _ => false, fun _ => [], 0, fun _ => false, fun _ => false⟩ Try.func39 rfl (by kernel_rfl) rfl 23 rfl [.cell 4 28, .tmp 5] rfl ?_
      simp only [go_sem, Nat.reduceEqDiff, Nat.reduceAdd, Nat.reduceSub, Nat.reduceMul, Nat.reduceLT, Nat.reduceLeDiff, ↓reduceIte, reduceCtorEq, List.reduceReplicate, Int.cast_ofNat_Int, Int.reduceEq, Int.reduceLT, Int.reduceLE, rrc]
      repeat' (first
    | with_reducible refine And.intro ?_ ?_
    | (unfold OKC; kernel_rfl)
    | (apply okc_up <;> (first | ((repeat (first | exact Sub.nil | apply Sub.gfp | apply Sub.same)); done) | kernel_rfl))
    | (unfold EDG; kernel_rfl)
    | (intros; (try simp only [Bool.and_eq_true, Bool.or_eq_true, Bool.not_eq_true', Bool.not_eq_false', Bool.and_eq_false_iff, Bool.or_eq_false_iff, decide_eq_true_eq, decide_eq_false_iff_not] at *); omega)
    | (refine gt_if (fun h => ?_) (fun h => ?_) <;> (try simp only [h]))
    | (refine pt_if (fun h => ?_) (fun h => ?_) <;> (try simp only [h]))
    | (refine cd_if (fun h => ?_) (fun h => ?_) <;> (try simp only [h]))
    | (apply cg_tp
       case hl => rfl
       case ha => (simp only [List.map_cons, List.map_nil, prepV, prepC, idx, hpL', lookR, Nat.reduceEqDiff, if_true, if_false]; rfl)
       case hs => rfl
       case h => (first | exact hso .. | exact hcu ..))
    | (apply cg_ts
       case hl => rfl
       case ha => (simp only [List.map_cons, List.map_nil, prepV, prepC, idx, hpL', lookR, Nat.reduceEqDiff, if_true, if_false]; rfl)
       case hs => (simp only [snaps_nil, List.flatMap_cons, List.flatMap_nil, SV.refs, Cell.refs, List.nil_append, List.cons_append, List.append_nil]; rfl)
       case h => (first | exact hso .. | exact hcu ..)
       case hf => ((simp only [List.forall_mem_cons, List.not_mem_nil, false_implies, implies_true, and_true, hpL', lookR, Nat.reduceEqDiff, if_true, if_false]) <;> (repeat' apply And.intro) <;> (first | exact ⟨_, rfl, Ints_isG _⟩ | exact ⟨_, rfl, by simp [Cell.isG]⟩))
       case hg => simp [SV.noG, SV.noGL, Cell.noG])
    | (apply cg_any
       case hl => rfl
       case ha => (intro hb; simp only [List.map_cons, List.map_nil, cnd, hb, if_true, prepV, prepC, idx, hpL', lookR, Nat.reduceEqDiff, if_false]; rfl)
       case hs => (intro hb; simp only [cnd, hb, if_true]; rfl)
       case h => (first | exact hso .. | exact hcu ..))
    | (apply cg_show
       case hl => rfl
       case ha => (intro hb; simp only [List.map_cons, List.map_nil, cnd, hb, if_true, prepV, prepC, idx, hpL', lookR, Nat.reduceEqDiff, if_false]; rfl)
       case hs => (intro hb; simp only [cnd, hb, if_true, snaps_nil, List.flatMap_cons, List.flatMap_nil, SV.refs, Cell.refs, List.nil_append, List.cons_append, List.append_nil]; rfl)
       case h => (first | exact hso .. | exact hcu ..)
       case hf => ((simp only [List.forall_mem_cons, List.not_mem_nil, false_implies, implies_true, and_true, hpL', lookR, Nat.reduceEqDiff, if_true, if_false]) <;> (repeat' apply And.intro) <;> (first | exact ⟨_, rfl, Ints_isG _⟩ | exact ⟨_, rfl, by simp [Cell.isG]⟩))
       case hg => simp [SV.noG, SV.noGL, Cell.noG])
    | (apply cl_plain
       case hs => rfl
       case ha => (simp only [List.map_cons, List.map_nil, prepV, prepC, idx, hpL', lookR, Nat.reduceEqDiff, if_true, if_false]; rfl)
       case h => (first | exact hso .. | exact hcu ..))
    | (apply cl_show
       case ha => (simp only [List.map_cons, List.map_nil, prepV, prepC, idx, hpL', lookR, Nat.reduceEqDiff, if_true, if_false]; rfl)
       case hs => ((simp [snaps, SV.refs, Cell.refs, idx, hpL', lookR]) <;> (repeat' apply And.intro) <;> exact Ints_isG _)
       case h => (first | exact hso .. | exact hcu ..)
       case hg => ((simp [SV.noG, SV.noGL, Cell.noG]) <;> (repeat' apply And.intro) <;> exact Ints_noG _))
    | ((first | refine s1_id ?_ | refine swp_id ?_ | refine sops_id ?_ | refine s2_id ?_); simp only [rrc, sz, sti, stt, stc, go_sem, Nat.reduceEqDiff, Nat.reduceAdd, Nat.reduceSub, Nat.reduceMul, Nat.reduceLT, Nat.reduceLeDiff, ↓reduceIte, reduceCtorEq, List.reduceReplicate, Int.cast_ofNat_Int, Int.reduceEq, Int.reduceLT, Int.reduceLE, SV.ren, SV.renL, Cell.ren, Row.ren, renO, bk, back, outUpsFrom, Ints_ren])
    | (apply fs_nil <;> (try simp only [go_sem, resV, resS, SV.ren, SV.renL, Cell.ren, St.tmF, St.hpF, idx, renO, Row.ren, evS, slot, lookR, Nat.reduceEqDiff, ↓reduceIte, reduceCtorEq, if_true, if_false, Option.getD_some, Option.getD_none, List.map_cons, List.map_nil, sLoad, readAt, readNeed, Ints_ren, Ints_length, Ints_getD, and_true, true_and, List.getD_cons_zero, List.getD_cons_succ]) <;> (try rfl)))
def pnext (p : List (List Stp)) (r : Rr) : Rr × Int := if snd p r = false then (rz, 1) else if r.s = 4 then (rz, 9) else if (stp p r).k = 11 then (gTo p r 0, 0) else (gTo p r (r.a + 1), 0)
theorem next_spec' (p : List (List Stp)) (c : Option Nat) (r : Rr) (hp : p.length ≤ 9223372036854775807) : FnSpec Try.prog 20 [gp p c, rrt r] [] (rre (pnext p r)) [] := by
  have hck := check_spec p c r hp
  unfold pck at hck
  unfold pnext
  cases h1 : snd p r with
  | false =>
    rw [h1, if_pos rfl] at hck
    rw [if_pos rfl]
    clear h1
    obtain ⟨t, q, a, l, s, u⟩ := r
    refine fnspec_of mixed TT_ok TT_cl ⟨fun _ => false, fun _ => [], 0, fun _ => false, fun _ => false⟩ Try.func20 rfl (by kernel_rfl) rfl 30 rfl [.cell 4 34, .tmp 5] rfl ?_
    simp only [go_sem, Nat.reduceEqDiff, Nat.reduceAdd, Nat.reduceSub, Nat.reduceMul, Nat.reduceLT, Nat.reduceLeDiff, ↓reduceIte, reduceCtorEq, List.reduceReplicate, Int.cast_ofNat_Int, Int.reduceEq, Int.reduceLT, Int.reduceLE, rrc]
    repeat' (first
    | with_reducible refine And.intro ?_ ?_
    | (unfold OKC; kernel_rfl)
    | (apply okc_up <;> (first | ((repeat (first | exact Sub.nil | apply Sub.gfp | apply Sub.same)); done) | kernel_rfl))
    | (unfold EDG; kernel_rfl)
    | (intros; (try simp only [Bool.and_eq_true, Bool.or_eq_true, Bool.not_eq_true', Bool.not_eq_false', Bool.and_eq_false_iff, Bool.or_eq_false_iff, decide_eq_true_eq, decide_eq_false_iff_not] at *); omega)
    | (refine gt_if (fun h => ?_) (fun h => ?_) <;> (try simp only [h]))
    | (refine pt_if (fun h => ?_) (fun h => ?_) <;> (try simp only [h]))
    | (refine cd_if (fun h => ?_) (fun h => ?_) <;> (try simp only [h]))
    | (apply cg_tp
       case hl => rfl
       case ha => (simp only [List.map_cons, List.map_nil, prepV, prepC, idx, hpL', lookR, Nat.reduceEqDiff, if_true, if_false]; rfl)
       case hs => rfl
       case h => (first | exact hck ..))
    | (apply cg_ts
       case hl => rfl
       case ha => (simp only [List.map_cons, List.map_nil, prepV, prepC, idx, hpL', lookR, Nat.reduceEqDiff, if_true, if_false]; rfl)
       case hs => (simp only [snaps_nil, List.flatMap_cons, List.flatMap_nil, SV.refs, Cell.refs, List.nil_append, List.cons_append, List.append_nil]; rfl)
       case h => (first | exact hck ..)
       case hf => ((simp only [List.forall_mem_cons, List.not_mem_nil, false_implies, implies_true, and_true, hpL', lookR, Nat.reduceEqDiff, if_true, if_false]) <;> (repeat' apply And.intro) <;> (first | exact ⟨_, rfl, Ints_isG _⟩ | exact ⟨_, rfl, by simp [Cell.isG]⟩))
       case hg => simp [SV.noG, SV.noGL, Cell.noG])
    | (apply cg_any
       case hl => rfl
       case ha => (intro hb; simp only [List.map_cons, List.map_nil, cnd, hb, if_true, prepV, prepC, idx, hpL', lookR, Nat.reduceEqDiff, if_false]; rfl)
       case hs => (intro hb; simp only [cnd, hb, if_true]; rfl)
       case h => (first | exact hck ..))
    | (apply cg_show
       case hl => rfl
       case ha => (intro hb; simp only [List.map_cons, List.map_nil, cnd, hb, if_true, prepV, prepC, idx, hpL', lookR, Nat.reduceEqDiff, if_false]; rfl)
       case hs => (intro hb; simp only [cnd, hb, if_true, snaps_nil, List.flatMap_cons, List.flatMap_nil, SV.refs, Cell.refs, List.nil_append, List.cons_append, List.append_nil]; rfl)
       case h => (first | exact hck ..)
       case hf => ((simp only [List.forall_mem_cons, List.not_mem_nil, false_implies, implies_true, and_true, hpL', lookR, Nat.reduceEqDiff, if_true, if_false]) <;> (repeat' apply And.intro) <;> (first | exact ⟨_, rfl, Ints_isG _⟩ | exact ⟨_, rfl, by simp [Cell.isG]⟩))
       case hg => simp [SV.noG, SV.noGL, Cell.noG])
    | (apply cl_plain
       case hs => rfl
       case ha => (simp only [List.map_cons, List.map_nil, prepV, prepC, idx, hpL', lookR, Nat.reduceEqDiff, if_true, if_false]; rfl)
       case h => (first | exact hck ..))
    | (apply cl_show
       case ha => (simp only [List.map_cons, List.map_nil, prepV, prepC, idx, hpL', lookR, Nat.reduceEqDiff, if_true, if_false]; rfl)
       case hs => ((simp [snaps, SV.refs, Cell.refs, idx, hpL', lookR]) <;> (repeat' apply And.intro) <;> exact Ints_isG _)
       case h => (first | exact hck ..)
       case hg => ((simp [SV.noG, SV.noGL, Cell.noG]) <;> (repeat' apply And.intro) <;> exact Ints_noG _))
    | ((first | refine s1_id ?_ | refine swp_id ?_ | refine sops_id ?_ | refine s2_id ?_); simp only [rrc, rz, rrt, sz, stt, stc, go_sem, Nat.reduceEqDiff, Nat.reduceAdd, Nat.reduceSub, Nat.reduceMul, Nat.reduceLT, Nat.reduceLeDiff, ↓reduceIte, reduceCtorEq, List.reduceReplicate, Int.cast_ofNat_Int, Int.reduceEq, Int.reduceLT, Int.reduceLE, SV.ren, SV.renL, Cell.ren, Row.ren, renO, bk, back, outUpsFrom, Ints_ren])
    | (apply fs_nil <;> (try simp only [go_sem, resV, resS, SV.ren, SV.renL, Cell.ren, St.tmF, St.hpF, idx, renO, Row.ren, evS, slot, lookR, Nat.reduceEqDiff, ↓reduceIte, reduceCtorEq, if_true, if_false, Option.getD_some, Option.getD_none, List.map_cons, List.map_nil, sLoad, readAt, readNeed, Ints_ren, Ints_length, Ints_getD, and_true, true_and, List.getD_cons_zero, List.getD_cons_succ]) <;> (try rfl)))
  | true =>
    have hi := snd_iff h1
    rw [h1, if_neg (by simp)] at hck
    rw [if_neg (by simp)]
    by_cases h4 : r.s = 4
    · rw [if_pos h4] at hck ⊢
      clear h1 hi
      obtain ⟨t, q, a, l, s, u⟩ := r
      refine fnspec_of mixed TT_ok TT_cl ⟨fun _ => false, fun _ => [], 0, fun _ => false, fun _ => false⟩ Try.func20 rfl (by kernel_rfl) rfl 30 rfl [.cell 4 34, .tmp 5] rfl ?_
      simp only [go_sem, Nat.reduceEqDiff, Nat.reduceAdd, Nat.reduceSub, Nat.reduceMul, Nat.reduceLT, Nat.reduceLeDiff, ↓reduceIte, reduceCtorEq, List.reduceReplicate, Int.cast_ofNat_Int, Int.reduceEq, Int.reduceLT, Int.reduceLE, rrc]
      repeat' (first
    | with_reducible refine And.intro ?_ ?_
    | (unfold OKC; kernel_rfl)
    | (apply okc_up <;> (first | ((repeat (first | exact Sub.nil | apply Sub.gfp | apply Sub.same)); done) | kernel_rfl))
    | (unfold EDG; kernel_rfl)
    | (intros; (try simp only [Bool.and_eq_true, Bool.or_eq_true, Bool.not_eq_true', Bool.not_eq_false', Bool.and_eq_false_iff, Bool.or_eq_false_iff, decide_eq_true_eq, decide_eq_false_iff_not] at *); omega)
    | (refine gt_if (fun h => ?_) (fun h => ?_) <;> (try simp only [h]))
    | (refine pt_if (fun h => ?_) (fun h => ?_) <;> (try simp only [h]))
    | (refine cd_if (fun h => ?_) (fun h => ?_) <;> (try simp only [h]))
    | (apply cg_tp
       case hl => rfl
       case ha => (simp only [List.map_cons, List.map_nil, prepV, prepC, idx, hpL', lookR, Nat.reduceEqDiff, if_true, if_false]; rfl)
       case hs => rfl
       case h => (first | exact hck ..))
    | (apply cg_ts
       case hl => rfl
       case ha => (simp only [List.map_cons, List.map_nil, prepV, prepC, idx, hpL', lookR, Nat.reduceEqDiff, if_true, if_false]; rfl)
       case hs => (simp only [snaps_nil, List.flatMap_cons, List.flatMap_nil, SV.refs, Cell.refs, List.nil_append, List.cons_append, List.append_nil]; rfl)
       case h => (first | exact hck ..)
       case hf => ((simp only [List.forall_mem_cons, List.not_mem_nil, false_implies, implies_true, and_true, hpL', lookR, Nat.reduceEqDiff, if_true, if_false]) <;> (repeat' apply And.intro) <;> (first | exact ⟨_, rfl, Ints_isG _⟩ | exact ⟨_, rfl, by simp [Cell.isG]⟩))
       case hg => simp [SV.noG, SV.noGL, Cell.noG])
    | (apply cg_any
       case hl => rfl
       case ha => (intro hb; simp only [List.map_cons, List.map_nil, cnd, hb, if_true, prepV, prepC, idx, hpL', lookR, Nat.reduceEqDiff, if_false]; rfl)
       case hs => (intro hb; simp only [cnd, hb, if_true]; rfl)
       case h => (first | exact hck ..))
    | (apply cg_show
       case hl => rfl
       case ha => (intro hb; simp only [List.map_cons, List.map_nil, cnd, hb, if_true, prepV, prepC, idx, hpL', lookR, Nat.reduceEqDiff, if_false]; rfl)
       case hs => (intro hb; simp only [cnd, hb, if_true, snaps_nil, List.flatMap_cons, List.flatMap_nil, SV.refs, Cell.refs, List.nil_append, List.cons_append, List.append_nil]; rfl)
       case h => (first | exact hck ..)
       case hf => ((simp only [List.forall_mem_cons, List.not_mem_nil, false_implies, implies_true, and_true, hpL', lookR, Nat.reduceEqDiff, if_true, if_false]) <;> (repeat' apply And.intro) <;> (first | exact ⟨_, rfl, Ints_isG _⟩ | exact ⟨_, rfl, by simp [Cell.isG]⟩))
       case hg => simp [SV.noG, SV.noGL, Cell.noG])
    | (apply cl_plain
       case hs => rfl
       case ha => (simp only [List.map_cons, List.map_nil, prepV, prepC, idx, hpL', lookR, Nat.reduceEqDiff, if_true, if_false]; rfl)
       case h => (first | exact hck ..))
    | (apply cl_show
       case ha => (simp only [List.map_cons, List.map_nil, prepV, prepC, idx, hpL', lookR, Nat.reduceEqDiff, if_true, if_false]; rfl)
       case hs => ((simp [snaps, SV.refs, Cell.refs, idx, hpL', lookR]) <;> (repeat' apply And.intro) <;> exact Ints_isG _)
       case h => (first | exact hck ..)
       case hg => ((simp [SV.noG, SV.noGL, Cell.noG]) <;> (repeat' apply And.intro) <;> exact Ints_noG _))
    | ((first | refine s1_id ?_ | refine swp_id ?_ | refine sops_id ?_ | refine s2_id ?_); simp only [rrc, rz, rrt, sz, stt, stc, go_sem, Nat.reduceEqDiff, Nat.reduceAdd, Nat.reduceSub, Nat.reduceMul, Nat.reduceLT, Nat.reduceLeDiff, ↓reduceIte, reduceCtorEq, List.reduceReplicate, Int.cast_ofNat_Int, Int.reduceEq, Int.reduceLT, Int.reduceLE, SV.ren, SV.renL, Cell.ren, Row.ren, renO, bk, back, outUpsFrom, Ints_ren])
    | (apply fs_nil <;> (try simp only [go_sem, resV, resS, SV.ren, SV.renL, Cell.ren, St.tmF, St.hpF, idx, renO, Row.ren, evS, slot, lookR, Nat.reduceEqDiff, ↓reduceIte, reduceCtorEq, if_true, if_false, Option.getD_some, Option.getD_none, List.map_cons, List.map_nil, sLoad, readAt, readNeed, Ints_ren, Ints_length, Ints_getD, and_true, true_and, List.getD_cons_zero, List.getD_cons_succ]) <;> (try rfl)))
    · rw [if_neg h4] at hck ⊢
      have hg0 := goTo_spec p c r 0 hi.2.2.1 hi.1 (by omega)
      have hg1 := goTo_spec p c r (r.a + 1) hi.2.2.1 hi.1 (by omega)
      generalize stp p r = x at *
      generalize gTo p r 0 = y0 at *
      generalize gTo p r (r.a + 1) = y1 at *
      generalize stl p r = st at *
      clear h1
      obtain ⟨k, n, aa, tt⟩ := x
      obtain ⟨t, q, a, l, s, u⟩ := r
      simp only [rrt, rrc, stt, stc] at *
      by_cases hk : k = 11
      · rw [if_pos hk]
        refine fnspec_of mixed TT_ok TT_cl ⟨fun _ => false, fun _ => [], 0, fun _ => false, fun _ => false⟩ Try.func20 rfl (by kernel_rfl) rfl 30 rfl [.cell 4 34, .tmp 5] rfl ?_
        simp only [go_sem, Nat.reduceEqDiff, Nat.reduceAdd, Nat.reduceSub, Nat.reduceMul, Nat.reduceLT, Nat.reduceLeDiff, ↓reduceIte, reduceCtorEq, List.reduceReplicate, Int.cast_ofNat_Int, Int.reduceEq, Int.reduceLT, Int.reduceLE, rrc]
        repeat' (first
    | with_reducible refine And.intro ?_ ?_
    | (unfold OKC; kernel_rfl)
    | (apply okc_up <;> (first | ((repeat (first | exact Sub.nil | apply Sub.gfp | apply Sub.same)); done) | kernel_rfl))
    | (unfold EDG; kernel_rfl)
    | (intros; (try simp only [Bool.and_eq_true, Bool.or_eq_true, Bool.not_eq_true', Bool.not_eq_false', Bool.and_eq_false_iff, Bool.or_eq_false_iff, decide_eq_true_eq, decide_eq_false_iff_not] at *); omega)
    | (refine gt_if (fun h => ?_) (fun h => ?_) <;> (try simp only [h]))
    | (refine pt_if (fun h => ?_) (fun h => ?_) <;> (try simp only [h]))
    | (refine cd_if (fun h => ?_) (fun h => ?_) <;> (try simp only [h]))
    | (apply cg_tp
       case hl => rfl
       case ha => (simp only [List.map_cons, List.map_nil, prepV, prepC, idx, hpL', lookR, Nat.reduceEqDiff, if_true, if_false]; rfl)
       case hs => rfl
       case h => (first | exact hck .. | exact hg0 .. | exact hg1 ..))
    | (apply cg_ts
       case hl => rfl
       case ha => (simp only [List.map_cons, List.map_nil, prepV, prepC, idx, hpL', lookR, Nat.reduceEqDiff, if_true, if_false]; rfl)
       case hs => (simp only [snaps_nil, List.flatMap_cons, List.flatMap_nil, SV.refs, Cell.refs, List.nil_append, List.cons_append, List.append_nil]; rfl)
       case h => (first | exact hck .. | exact hg0 .. | exact hg1 ..)
       case hf => ((simp only [List.forall_mem_cons, List.not_mem_nil, false_implies, implies_true, and_true, hpL', lookR, Nat.reduceEqDiff, if_true, if_false]) <;> (repeat' apply And.intro) <;> (first | exact ⟨_, rfl, Ints_isG _⟩ | exact ⟨_, rfl, by simp [Cell.isG]⟩))
       case hg => simp [SV.noG, SV.noGL, Cell.noG])
    | (apply cg_any
       case hl => rfl
       case ha => (intro hb; simp only [List.map_cons, List.map_nil, cnd, hb, if_true, prepV, prepC, idx, hpL', lookR, Nat.reduceEqDiff, if_false]; rfl)
       case hs => (intro hb; simp only [cnd, hb, if_true]; rfl)
       case h => (first | exact hck .. | exact hg0 .. | exact hg1 ..))
    | (apply cg_show
       case hl => rfl
       case ha => (intro hb; simp only [List.map_cons, List.map_nil, cnd, hb, if_true, prepV, prepC, idx, hpL', lookR, Nat.reduceEqDiff, if_false]; rfl)
       case hs => (intro hb; simp only [cnd, hb, if_true, snaps_nil, List.flatMap_cons, List.flatMap_nil, SV.refs, Cell.refs, List.nil_append, List.cons_append, List.append_nil]; rfl)
       case h => (first | exact hck .. | exact hg0 .. | exact hg1 ..)
       case hf => ((simp only [List.forall_mem_cons, List.not_mem_nil, false_implies, implies_true, and_true, hpL', lookR, Nat.reduceEqDiff, if_true, if_false]) <;> (repeat' apply And.intro) <;> (first | exact ⟨_, rfl, Ints_isG _⟩ | exact ⟨_, rfl, by simp [Cell.isG]⟩))
       case hg => simp [SV.noG, SV.noGL, Cell.noG])
    | (apply cl_plain
       case hs => rfl
       case ha => (simp only [List.map_cons, List.map_nil, prepV, prepC, idx, hpL', lookR, Nat.reduceEqDiff, if_true, if_false]; rfl)
       case h => (first | exact hck .. | exact hg0 .. | exact hg1 ..))
    | (apply cl_show
       case ha => (simp only [List.map_cons, List.map_nil, prepV, prepC, idx, hpL', lookR, Nat.reduceEqDiff, if_true, if_false]; rfl)
       case hs => ((simp [snaps, SV.refs, Cell.refs, idx, hpL', lookR]) <;> (repeat' apply And.intro) <;> exact Ints_isG _)
       case h => (first | exact hck .. | exact hg0 .. | exact hg1 ..)
       case hg => ((simp [SV.noG, SV.noGL, Cell.noG]) <;> (repeat' apply And.intro) <;> exact Ints_noG _))
    | ((first | refine s1_id ?_ | refine swp_id ?_ | refine sops_id ?_ | refine s2_id ?_); simp only [rrc, rrt, stt, stc, decide_eq_true hk, go_sem, Nat.reduceEqDiff, Nat.reduceAdd, Nat.reduceSub, Nat.reduceMul, Nat.reduceLT, Nat.reduceLeDiff, ↓reduceIte, reduceCtorEq, List.reduceReplicate, Int.cast_ofNat_Int, Int.reduceEq, Int.reduceLT, Int.reduceLE, SV.ren, SV.renL, Cell.ren, Row.ren, renO, bk, back, outUpsFrom, Ints_ren])
    | (apply fs_nil <;> (try simp only [go_sem, resV, resS, SV.ren, SV.renL, Cell.ren, St.tmF, St.hpF, idx, renO, Row.ren, evS, slot, lookR, Nat.reduceEqDiff, ↓reduceIte, reduceCtorEq, if_true, if_false, Option.getD_some, Option.getD_none, List.map_cons, List.map_nil, sLoad, readAt, readNeed, Ints_ren, Ints_length, Ints_getD, and_true, true_and, List.getD_cons_zero, List.getD_cons_succ]) <;> (try rfl)))
      · rw [if_neg hk]
        refine fnspec_of mixed TT_ok TT_cl ⟨fun _ => false, fun _ => [], 0, fun _ => false, fun _ => false⟩ Try.func20 rfl (by kernel_rfl) rfl 30 rfl [.cell 4 34, .tmp 5] rfl ?_
        simp only [go_sem, Nat.reduceEqDiff, Nat.reduceAdd, Nat.reduceSub, Nat.reduceMul, Nat.reduceLT, Nat.reduceLeDiff, ↓reduceIte, reduceCtorEq, List.reduceReplicate, Int.cast_ofNat_Int, Int.reduceEq, Int.reduceLT, Int.reduceLE, rrc]
        repeat' (first
    | with_reducible refine And.intro ?_ ?_
    | (unfold OKC; kernel_rfl)
    | (apply okc_up <;> (first | ((repeat (first | exact Sub.nil | apply Sub.gfp | apply Sub.same)); done) | kernel_rfl))
    | (unfold EDG; kernel_rfl)
    | (intros; (try simp only [Bool.and_eq_true, Bool.or_eq_true, Bool.not_eq_true', Bool.not_eq_false', Bool.and_eq_false_iff, Bool.or_eq_false_iff, decide_eq_true_eq, decide_eq_false_iff_not] at *); omega)
    | (refine gt_if (fun h => ?_) (fun h => ?_) <;> (try simp only [h]))
    | (refine pt_if (fun h => ?_) (fun h => ?_) <;> (try simp only [h]))
    | (refine cd_if (fun h => ?_) (fun h => ?_) <;> (try simp only [h]))
    | (apply cg_tp
       case hl => rfl
       case ha => (simp only [List.map_cons, List.map_nil, prepV, prepC, idx, hpL', lookR, Nat.reduceEqDiff, if_true, if_false]; rfl)
       case hs => rfl
       case h => (first | exact hck .. | exact hg0 .. | exact hg1 ..))
    | (apply cg_ts
       case hl => rfl
       case ha => (simp only [List.map_cons, List.map_nil, prepV, prepC, idx, hpL', lookR, Nat.reduceEqDiff, if_true, if_false]; rfl)
       case hs => (simp only [snaps_nil, List.flatMap_cons, List.flatMap_nil, SV.refs, Cell.refs, List.nil_append, List.cons_append, List.append_nil]; rfl)
       case h => (first | exact hck .. | exact hg0 .. | exact hg1 ..)
       case hf => ((simp only [List.forall_mem_cons, List.not_mem_nil, false_implies, implies_true, and_true, hpL', lookR, Nat.reduceEqDiff, if_true, if_false]) <;> (repeat' apply And.intro) <;> (first | exact ⟨_, rfl, Ints_isG _⟩ | exact ⟨_, rfl, by simp [Cell.isG]⟩))
       case hg => simp [SV.noG, SV.noGL, Cell.noG])
    | (apply cg_any
       case hl => rfl
       case ha => (intro hb; simp only [List.map_cons, List.map_nil, cnd, hb, if_true, prepV, prepC, idx, hpL', lookR, Nat.reduceEqDiff, if_false]; rfl)
       case hs => (intro hb; simp only [cnd, hb, if_true]; rfl)
       case h => (first | exact hck .. | exact hg0 .. | exact hg1 ..))
    | (apply cg_show
       case hl => rfl
       case ha => (intro hb; simp only [List.map_cons, List.map_nil, cnd, hb, if_true, prepV, prepC, idx, hpL', lookR, Nat.reduceEqDiff, if_false]; rfl)
       case hs => (intro hb; simp only [cnd, hb, if_true, snaps_nil, List.flatMap_cons, List.flatMap_nil, SV.refs, Cell.refs, List.nil_append, List.cons_append, List.append_nil]; rfl)
       case h => (first | exact hck .. | exact hg0 .. | exact hg1 ..)
       case hf => ((simp only [List.forall_mem_cons, List.not_mem_nil, false_implies, implies_true, and_true, hpL', lookR, Nat.reduceEqDiff, if_true, if_false]) <;> (repeat' apply And.intro) <;> (first | exact ⟨_, rfl, Ints_isG _⟩ | exact ⟨_, rfl, by simp [Cell.isG]⟩))
       case hg => simp [SV.noG, SV.noGL, Cell.noG])
    | (apply cl_plain
       case hs => rfl
       case ha => (simp only [List.map_cons, List.map_nil, prepV, prepC, idx, hpL', lookR, Nat.reduceEqDiff, if_true, if_false]; rfl)
       case h => (first | exact hck .. | exact hg0 .. | exact hg1 ..))
    | (apply cl_show
       case ha => (simp only [List.map_cons, List.map_nil, prepV, prepC, idx, hpL', lookR, Nat.reduceEqDiff, if_true, if_false]; rfl)
       case hs => ((simp [snaps, SV.refs, Cell.refs, idx, hpL', lookR]) <;> (repeat' apply And.intro) <;> exact Ints_isG _)
       case h => (first | exact hck .. | exact hg0 .. | exact hg1 ..)
       case hg => ((simp [SV.noG, SV.noGL, Cell.noG]) <;> (repeat' apply And.intro) <;> exact Ints_noG _))
    | ((first | refine s1_id ?_ | refine swp_id ?_ | refine sops_id ?_ | refine s2_id ?_); simp only [rrc, rrt, stt, stc, decide_eq_false hk, go_sem, Nat.reduceEqDiff, Nat.reduceAdd, Nat.reduceSub, Nat.reduceMul, Nat.reduceLT, Nat.reduceLeDiff, ↓reduceIte, reduceCtorEq, List.reduceReplicate, Int.cast_ofNat_Int, Int.reduceEq, Int.reduceLT, Int.reduceLE, SV.ren, SV.renL, Cell.ren, Row.ren, renO, bk, back, outUpsFrom, Ints_ren])
    | (apply fs_nil <;> (try simp only [go_sem, resV, resS, SV.ren, SV.renL, Cell.ren, St.tmF, St.hpF, idx, renO, Row.ren, evS, slot, lookR, Nat.reduceEqDiff, ↓reduceIte, reduceCtorEq, if_true, if_false, Option.getD_some, Option.getD_none, List.map_cons, List.map_nil, sLoad, readAt, readNeed, Ints_ren, Ints_length, Ints_getD, and_true, true_and, List.getD_cons_zero, List.getD_cons_succ]) <;> (try rfl)))
theorem rnext_spec (p : List (List Stp)) (c : Option Nat) (r : Rr) (hp : p.length ≤ 9223372036854775807) : FnSpec Try.prog 30 [gp p c, rrt r] [] (rre (pnext p r)) [] := by
  have hso := rsound_spec p c r hp
  have hcu := rcurrent_spec p c r hp
  unfold pnext
  cases h1 : snd p r with
  | false =>
    rw [h1] at hso
    rw [if_pos rfl]
    clear h1 hcu
    obtain ⟨t, q, a, l, s, u⟩ := r
    refine fnspec_of mixed TT_ok TT_cl ⟨fun _ => false, fun _ => [], 0, fun _ => false, fun _ => false⟩ Try.func30 rfl (by kernel_rfl) rfl 34 rfl [.cell 4 34, .tmp 5] rfl ?_
    simp only [go_sem, Nat.reduceEqDiff, Nat.reduceAdd, Nat.reduceSub, Nat.reduceMul, Nat.reduceLT, Nat.reduceLeDiff, ↓reduceIte, reduceCtorEq, List.reduceReplicate, Int.cast_ofNat_Int, Int.reduceEq, Int.reduceLT, Int.reduceLE, rrc]
    repeat' (first
    | with_reducible refine And.intro ?_ ?_
    | (unfold OKC; kernel_rfl)
    | (apply okc_up <;> (first | ((repeat (first | exact Sub.nil | apply Sub.gfp | apply Sub.same)); done) | kernel_rfl))
    | (unfold EDG; kernel_rfl)
    | (intros; (try simp only [Bool.and_eq_true, Bool.or_eq_true, Bool.not_eq_true', Bool.not_eq_false', Bool.and_eq_false_iff, Bool.or_eq_false_iff, decide_eq_true_eq, decide_eq_false_iff_not] at *); omega)
    | (refine gt_if (fun h => ?_) (fun h => ?_) <;> (try simp only [h]))
    | (refine pt_if (fun h => ?_) (fun h => ?_) <;> (try simp only [h]))
    | (refine cd_if (fun h => ?_) (fun h => ?_) <;> (try simp only [h]))
    | (apply cg_tp
       case hl => rfl
       case ha => (simp only [List.map_cons, List.map_nil, prepV, prepC, idx, hpL', lookR, Nat.reduceEqDiff, if_true, if_false]; rfl)
       case hs => rfl
       case h => (first | exact hso ..))
    | (apply cg_ts
       case hl => rfl
       case ha => (simp only [List.map_cons, List.map_nil, prepV, prepC, idx, hpL', lookR, Nat.reduceEqDiff, if_true, if_false]; rfl)
       case hs => (simp only [snaps_nil, List.flatMap_cons, List.flatMap_nil, SV.refs, Cell.refs, List.nil_append, List.cons_append, List.append_nil]; rfl)
       case h => (first | exact hso ..)
       case hf => ((simp only [List.forall_mem_cons, List.not_mem_nil, false_implies, implies_true, and_true, hpL', lookR, Nat.reduceEqDiff, if_true, if_false]) <;> (repeat' apply And.intro) <;> (first | exact ⟨_, rfl, Ints_isG _⟩ | exact ⟨_, rfl, by simp [Cell.isG]⟩))
       case hg => simp [SV.noG, SV.noGL, Cell.noG])
    | (apply cg_any
       case hl => rfl
       case ha => (intro hb; simp only [List.map_cons, List.map_nil, cnd, hb, if_true, prepV, prepC, idx, hpL', lookR, Nat.reduceEqDiff, if_false]; rfl)
       case hs => (intro hb; simp only [cnd, hb, if_true]; rfl)
       case h => (first | exact hso ..))
    | (apply cg_show
       case hl => rfl
       case ha => (intro hb; simp only [List.map_cons, List.map_nil, cnd, hb, if_true, prepV, prepC, idx, hpL', lookR, Nat.reduceEqDiff, if_false]; rfl)
       case hs => (intro hb; simp only [cnd, hb, if_true, snaps_nil, List.flatMap_cons, List.flatMap_nil, SV.refs, Cell.refs, List.nil_append, List.cons_append, List.append_nil]; rfl)
       case h => (first | exact hso ..)
       case hf => ((simp only [List.forall_mem_cons, List.not_mem_nil, false_implies, implies_true, and_true, hpL', lookR, Nat.reduceEqDiff, if_true, if_false]) <;> (repeat' apply And.intro) <;> (first | exact ⟨_, rfl, Ints_isG _⟩ | exact ⟨_, rfl, by simp [Cell.isG]⟩))
       case hg => simp [SV.noG, SV.noGL, Cell.noG])
    | (apply cl_plain
       case hs => rfl
       case ha => (simp only [List.map_cons, List.map_nil, prepV, prepC, idx, hpL', lookR, Nat.reduceEqDiff, if_true, if_false]; rfl)
       case h => (first | exact hso ..))
    | (apply cl_show
       case ha => (simp only [List.map_cons, List.map_nil, prepV, prepC, idx, hpL', lookR, Nat.reduceEqDiff, if_true, if_false]; rfl)
       case hs => ((simp [snaps, SV.refs, Cell.refs, idx, hpL', lookR]) <;> (repeat' apply And.intro) <;> exact Ints_isG _)
       case h => (first | exact hso ..)
       case hg => ((simp [SV.noG, SV.noGL, Cell.noG]) <;> (repeat' apply And.intro) <;> exact Ints_noG _))
    | ((first | refine s1_id ?_ | refine swp_id ?_ | refine sops_id ?_ | refine s2_id ?_); simp only [rrc, rz, rrt, sz, stt, stc, go_sem, Nat.reduceEqDiff, Nat.reduceAdd, Nat.reduceSub, Nat.reduceMul, Nat.reduceLT, Nat.reduceLeDiff, ↓reduceIte, reduceCtorEq, List.reduceReplicate, Int.cast_ofNat_Int, Int.reduceEq, Int.reduceLT, Int.reduceLE, SV.ren, SV.renL, Cell.ren, Row.ren, renO, bk, back, outUpsFrom, Ints_ren])
    | (apply fs_nil <;> (try simp only [go_sem, resV, resS, SV.ren, SV.renL, Cell.ren, St.tmF, St.hpF, idx, renO, Row.ren, evS, slot, lookR, Nat.reduceEqDiff, ↓reduceIte, reduceCtorEq, if_true, if_false, Option.getD_some, Option.getD_none, List.map_cons, List.map_nil, sLoad, readAt, readNeed, Ints_ren, Ints_length, Ints_getD, and_true, true_and, List.getD_cons_zero, List.getD_cons_succ]) <;> (try rfl)))
  | true =>
    have hi := snd_iff h1
    rw [h1] at hso
    rw [if_neg (by simp)]
    by_cases h4 : r.s = 4
    · have e : pcur p r = (sz, false) := by unfold pcur; rw [if_neg (fun h => h.2 h4)]
      rw [e] at hcu
      rw [if_pos h4]
      clear h1 hi e
      obtain ⟨t, q, a, l, s, u⟩ := r
      refine fnspec_of mixed TT_ok TT_cl ⟨fun _ => false, fun _ => [], 0, fun _ => false, fun _ => false⟩ Try.func30 rfl (by kernel_rfl) rfl 34 rfl [.cell 4 34, .tmp 5] rfl ?_
      simp only [go_sem, Nat.reduceEqDiff, Nat.reduceAdd, Nat.reduceSub, Nat.reduceMul, Nat.reduceLT, Nat.reduceLeDiff, ↓reduceIte, reduceCtorEq, List.reduceReplicate, Int.cast_ofNat_Int, Int.reduceEq, Int.reduceLT, Int.reduceLE, rrc]
      repeat' (first
    | with_reducible refine And.intro ?_ ?_
    | (unfold OKC; kernel_rfl)
    | (apply okc_up <;> (first | ((repeat (first | exact Sub.nil | apply Sub.gfp | apply Sub.same)); done) | kernel_rfl))
    | (unfold EDG; kernel_rfl)
    | (intros; (try simp only [Bool.and_eq_true, Bool.or_eq_true, Bool.not_eq_true', Bool.not_eq_false', Bool.and_eq_false_iff, Bool.or_eq_false_iff, decide_eq_true_eq, decide_eq_false_iff_not] at *); omega)
    | (refine gt_if (fun h => ?_) (fun h => ?_) <;> (try simp only [h]))
    | (refine pt_if (fun h => ?_) (fun h => ?_) <;> (try simp only [h]))
    | (refine cd_if (fun h => ?_) (fun h => ?_) <;> (try simp only [h]))
    | (apply cg_tp
       case hl => rfl
       case ha => (simp only [List.map_cons, List.map_nil, prepV, prepC, idx, hpL', lookR, Nat.reduceEqDiff, if_true, if_false]; rfl)
       case hs => rfl
       case h => (first | exact hso .. | exact hcu ..))
    | (apply cg_ts
       case hl => rfl
       case ha => (simp only [List.map_cons, List.map_nil, prepV, prepC, idx, hpL', lookR, Nat.reduceEqDiff, if_true, if_false]; rfl)
       case hs => (simp only [snaps_nil, List.flatMap_cons, List.flatMap_nil, SV.refs, Cell.refs, List.nil_append, List.cons_append, List.append_nil]; rfl)
       case h => (first | exact hso .. | exact hcu ..)
       case hf => ((simp only [List.forall_mem_cons, List.not_mem_nil, false_implies, implies_true, and_true, hpL', lookR, Nat.reduceEqDiff, if_true, if_false]) <;> (repeat' apply And.intro) <;> (first | exact ⟨_, rfl, Ints_isG _⟩ | exact ⟨_, rfl, by simp [Cell.isG]⟩))
       case hg => simp [SV.noG, SV.noGL, Cell.noG])
    | (apply cg_any
       case hl => rfl
       case ha => (intro hb; simp only [List.map_cons, List.map_nil, cnd, hb, if_true, prepV, prepC, idx, hpL', lookR, Nat.reduceEqDiff, if_false]; rfl)
       case hs => (intro hb; simp only [cnd, hb, if_true]; rfl)
       case h => (first | exact hso .. | exact hcu ..))
    | (apply cg_show
       case hl => rfl
       case ha => (intro hb; simp only [List.map_cons, List.map_nil, cnd, hb, if_true, prepV, prepC, idx, hpL', lookR, Nat.reduceEqDiff, if_false]; rfl)
       case hs => (intro hb; simp only [cnd, hb, if_true, snaps_nil, List.flatMap_cons, List.flatMap_nil, SV.refs, Cell.refs, List.nil_append, List.cons_append, List.append_nil]; rfl)
       case h => (first | exact hso .. | exact hcu ..)
       case hf => ((simp only [List.forall_mem_cons, List.not_mem_nil, false_implies, implies_true, and_true, hpL', lookR, Nat.reduceEqDiff, if_true, if_false]) <;> (repeat' apply And.intro) <;> (first | exact ⟨_, rfl, Ints_isG _⟩ | exact ⟨_, rfl, by simp [Cell.isG]⟩))
       case hg => simp [SV.noG, SV.noGL, Cell.noG])
    | (apply cl_plain
       case hs => rfl
       case ha => (simp only [List.map_cons, List.map_nil, prepV, prepC, idx, hpL', lookR, Nat.reduceEqDiff, if_true, if_false]; rfl)
       case h => (first | exact hso .. | exact hcu ..))
    | (apply cl_show
       case ha => (simp only [List.map_cons, List.map_nil, prepV, prepC, idx, hpL', lookR, Nat.reduceEqDiff, if_true, if_false]; rfl)
       case hs => ((simp [snaps, SV.refs, Cell.refs, idx, hpL', lookR]) <;> (repeat' apply And.intro) <;> exact Ints_isG _)
       case h => (first | exact hso .. | exact hcu ..)
       case hg => ((simp [SV.noG, SV.noGL, Cell.noG]) <;> (repeat' apply And.intro) <;> exact Ints_noG _))
    | ((first | refine s1_id ?_ | refine swp_id ?_ | refine sops_id ?_ | refine s2_id ?_); simp only [rrc, rz, rrt, sz, stt, stc, go_sem, Nat.reduceEqDiff, Nat.reduceAdd, Nat.reduceSub, Nat.reduceMul, Nat.reduceLT, Nat.reduceLeDiff, ↓reduceIte, reduceCtorEq, List.reduceReplicate, Int.cast_ofNat_Int, Int.reduceEq, Int.reduceLT, Int.reduceLE, SV.ren, SV.renL, Cell.ren, Row.ren, renO, bk, back, outUpsFrom, Ints_ren])
    | (apply fs_nil <;> (try simp only [go_sem, resV, resS, SV.ren, SV.renL, Cell.ren, St.tmF, St.hpF, idx, renO, Row.ren, evS, slot, lookR, Nat.reduceEqDiff, ↓reduceIte, reduceCtorEq, if_true, if_false, Option.getD_some, Option.getD_none, List.map_cons, List.map_nil, sLoad, readAt, readNeed, Ints_ren, Ints_length, Ints_getD, and_true, true_and, List.getD_cons_zero, List.getD_cons_succ]) <;> (try rfl)))
    · have e : pcur p r = (stp p r, true) := by unfold pcur; rw [if_pos ⟨h1, h4⟩]
      rw [e] at hcu
      rw [if_neg h4]
      have hg0 := rat_spec p c r 0 hi.2.2.1 hi.1 (by omega)
      have hg1 := rat_spec p c r (r.a + 1) hi.2.2.1 hi.1 (by omega)
      generalize stp p r = x at *
      generalize gTo p r 0 = y0 at *
      generalize gTo p r (r.a + 1) = y1 at *
      generalize stl p r = st at *
      clear h1 e
      obtain ⟨k, n, aa, tt⟩ := x
      obtain ⟨t, q, a, l, s, u⟩ := r
      simp only [rrt, rrc, stt, stc] at *
      by_cases hk : k = 11
      · rw [if_pos hk]
        refine fnspec_of mixed TT_ok TT_cl ⟨fun _ => false, fun _ => [], 0, fun _ => false, fun _ => false⟩ Try.func30 rfl (by kernel_rfl) rfl 34 rfl [.cell 4 34, .tmp 5] rfl ?_
        simp only [go_sem, Nat.reduceEqDiff, Nat.reduceAdd, Nat.reduceSub, Nat.reduceMul, Nat.reduceLT, Nat.reduceLeDiff, ↓reduceIte, reduceCtorEq, List.reduceReplicate, Int.cast_ofNat_Int, Int.reduceEq, Int.reduceLT, Int.reduceLE, rrc]
        repeat' (first
    | with_reducible refine And.intro ?_ ?_
    | (unfold OKC; kernel_rfl)
    | (apply okc_up <;> (first | ((repeat (first | exact Sub.nil | apply Sub.gfp | apply Sub.same)); done) | kernel_rfl))
    | (unfold EDG; kernel_rfl)
    | (intros; (try simp only [Bool.and_eq_true, Bool.or_eq_true, Bool.not_eq_true', Bool.not_eq_false', Bool.and_eq_false_iff, Bool.or_eq_false_iff, decide_eq_true_eq, decide_eq_false_iff_not] at *); omega)
    | (refine gt_if (fun h => ?_) (fun h => ?_) <;> (try simp only [h]))
    | (refine pt_if (fun h => ?_) (fun h => ?_) <;> (try simp only [h]))
    | (refine cd_if (fun h => ?_) (fun h => ?_) <;> (try simp only [h]))
    | (apply cg_tp
       case hl => rfl
       case ha => (simp only [List.map_cons, List.map_nil, prepV, prepC, idx, hpL', lookR, Nat.reduceEqDiff, if_true, if_false]; rfl)
       case hs => rfl
       case h => (first | exact hso .. | exact hcu .. | exact hg0 .. | exact hg1 ..))
    | (apply cg_ts
       case hl => rfl
       case ha => (simp only [List.map_cons, List.map_nil, prepV, prepC, idx, hpL', lookR, Nat.reduceEqDiff, if_true, if_false]; rfl)
       case hs => (simp only [snaps_nil, List.flatMap_cons, List.flatMap_nil, SV.refs, Cell.refs, List.nil_append, List.cons_append, List.append_nil]; rfl)
       case h => (first | exact hso .. | exact hcu .. | exact hg0 .. | exact hg1 ..)
       case hf => ((simp only [List.forall_mem_cons, List.not_mem_nil, false_implies, implies_true, and_true, hpL', lookR, Nat.reduceEqDiff, if_true, if_false]) <;> (repeat' apply And.intro) <;> (first | exact ⟨_, rfl, Ints_isG _⟩ | exact ⟨_, rfl, by simp [Cell.isG]⟩))
       case hg => simp [SV.noG, SV.noGL, Cell.noG])
    | (apply cg_any
       case hl => rfl
       case ha => (intro hb; simp only [List.map_cons, List.map_nil, cnd, hb, if_true, prepV, prepC, idx, hpL', lookR, Nat.reduceEqDiff, if_false]; rfl)
       case hs => (intro hb; simp only [cnd, hb, if_true]; rfl)
       case h => (first | exact hso .. | exact hcu .. | exact hg0 .. | exact hg1 ..))
    | (apply cg_show
       case hl => rfl
       case ha => (intro hb; simp only [List.map_cons, List.map_nil, cnd, hb, if_true, prepV, prepC, idx, hpL', lookR, Nat.reduceEqDiff, if_false]; rfl)
       case hs => (intro hb; simp only [cnd, hb, if_true, snaps_nil, List.flatMap_cons, List.flatMap_nil, SV.refs, Cell.refs, List.nil_append, List.cons_append, List.append_nil]; rfl)
       case h => (first | exact hso .. | exact hcu .. | exact hg0 .. | exact hg1 ..)
       case hf => ((simp only [List.forall_mem_cons, List.not_mem_nil, false_implies, implies_true, and_true, hpL', lookR, Nat.reduceEqDiff, if_true, if_false]) <;> (repeat' apply And.intro) <;> (first | exact ⟨_, rfl, Ints_isG _⟩ | exact ⟨_, rfl, by simp [Cell.isG]⟩))
       case hg => simp [SV.noG, SV.noGL, Cell.noG])
    | (apply cl_plain
       case hs => rfl
       case ha => (simp only [List.map_cons, List.map_nil, prepV, prepC, idx, hpL', lookR, Nat.reduceEqDiff, if_true, if_false]; rfl)
       case h => (first | exact hso .. | exact hcu .. | exact hg0 .. | exact hg1 ..))
    | (apply cl_show
       case ha => (simp only [List.map_cons, List.map_nil, prepV, prepC, idx, hpL', lookR, Nat.reduceEqDiff, if_true, if_false]; rfl)
       case hs => ((simp [snaps, SV.refs, Cell.refs, idx, hpL', lookR]) <;> (repeat' apply And.intro) <;> exact Ints_isG _)
       case h => (first | exact hso .. | exact hcu .. | exact hg0 .. | exact hg1 ..)
       case hg => ((simp [SV.noG, SV.noGL, Cell.noG]) <;> (repeat' apply And.intro) <;> exact Ints_noG _))
    | ((first | refine s1_id ?_ | refine swp_id ?_ | refine sops_id ?_ | refine s2_id ?_); simp only [rrc, rrt, stt, stc, decide_eq_true hk, go_sem, Nat.reduceEqDiff, Nat.reduceAdd, Nat.reduceSub, Nat.reduceMul, Nat.reduceLT, Nat.reduceLeDiff, ↓reduceIte, reduceCtorEq, List.reduceReplicate, Int.cast_ofNat_Int, Int.reduceEq, Int.reduceLT, Int.reduceLE, SV.ren, SV.renL, Cell.ren, Row.ren, renO, bk, back, outUpsFrom, Ints_ren])
    | (apply fs_nil <;> (try simp only [go_sem, resV, resS, SV.ren, SV.renL, Cell.ren, St.tmF, St.hpF, idx, renO, Row.ren, evS, slot, lookR, Nat.reduceEqDiff, ↓reduceIte, reduceCtorEq, if_true, if_false, Option.getD_some, Option.getD_none, List.map_cons, List.map_nil, sLoad, readAt, readNeed, Ints_ren, Ints_length, Ints_getD, and_true, true_and, List.getD_cons_zero, List.getD_cons_succ]) <;> (try rfl)))
      · rw [if_neg hk]
        refine fnspec_of mixed TT_ok TT_cl ⟨fun _ => false, fun _ => [], 0, fun _ => false, fun _ => false⟩ Try.func30 rfl (by kernel_rfl) rfl 34 rfl [.cell 4 34, .tmp 5] rfl ?_
        simp only [go_sem, Nat.reduceEqDiff, Nat.reduceAdd, Nat.reduceSub, Nat.reduceMul, Nat.reduceLT, Nat.reduceLeDiff, ↓reduceIte, reduceCtorEq, List.reduceReplicate, Int.cast_ofNat_Int, Int.reduceEq, Int.reduceLT, Int.reduceLE, rrc]
        repeat' (first
    | with_reducible refine And.intro ?_ ?_
    | (unfold OKC; kernel_rfl)
    | (apply okc_up <;> (first | ((repeat (first | exact Sub.nil | apply Sub.gfp | apply Sub.same)); done) | kernel_rfl))
    | (unfold EDG; kernel_rfl)
    | (intros; (try simp only [Bool.and_eq_true, Bool.or_eq_true, Bool.not_eq_true', Bool.not_eq_false', Bool.and_eq_false_iff, Bool.or_eq_false_iff, decide_eq_true_eq, decide_eq_false_iff_not] at *); omega)
    | (refine gt_if (fun h => ?_) (fun h => ?_) <;> (try simp only [h]))
    | (refine pt_if (fun h => ?_) (fun h => ?_) <;> (try simp only [h]))
    | (refine cd_if (fun h => ?_) (fun h => ?_) <;> (try simp only [h]))
    | (apply cg_tp
       case hl => rfl
       case ha => (simp only [List.map_cons, List.map_nil, prepV, prepC, idx, hpL', lookR, Nat.reduceEqDiff, if_true, if_false]; rfl)
       case hs => rfl
       case h => (first | exact hso .. | exact hcu .. | exact hg0 .. | exact hg1 ..))
    | (apply cg_ts
       case hl => rfl
       case ha => (simp only [List.map_cons, List.map_nil, prepV, prepC, idx, hpL', lookR, Nat.reduceEqDiff, if_true, if_false]; rfl)
       case hs => (simp only [snaps_nil, List.flatMap_cons, List.flatMap_nil, SV.refs, Cell.refs, List.nil_append, List.cons_append, List.append_nil]; rfl)
       case h => (first | exact hso .. | exact hcu .. | exact hg0 .. | exact hg1 ..)
       case hf => ((simp only [List.forall_mem_cons, List.not_mem_nil, false_implies, implies_true, and_true, hpL', lookR, Nat.reduceEqDiff, if_true, if_false]) <;> (repeat' apply And.intro) <;> (first | exact ⟨_, rfl, Ints_isG _⟩ | exact ⟨_, rfl, by simp [Cell.isG]⟩))
       case hg => simp [SV.noG, SV.noGL, Cell.noG])
    | (apply cg_any
       case hl => rfl
       case ha => (intro hb; simp only [List.map_cons, List.map_nil, cnd, hb, if_true, prepV, prepC, idx, hpL', lookR, Nat.reduceEqDiff, if_false]; rfl)
       case hs => (intro hb; simp only [cnd, hb, if_true]; rfl)
       case h => (first | exact hso .. | exact hcu .. | exact hg0 .. | exact hg1 ..))
    | (apply cg_show
       case hl => rfl
       case ha => (intro hb; simp only [List.map_cons, List.map_nil, cnd, hb, if_true, prepV, prepC, idx, hpL', lookR, Nat.reduceEqDiff, if_false]; rfl)
       case hs => (intro hb; simp only [cnd, hb, if_true, snaps_nil, List.flatMap_cons, List.flatMap_nil, SV.refs, Cell.refs, List.nil_append, List.cons_append, List.append_nil]; rfl)
       case h => (first | exact hso .. | exact hcu .. | exact hg0 .. | exact hg1 ..)
       case hf => ((simp only [List.forall_mem_cons, List.not_mem_nil, false_implies, implies_true, and_true, hpL', lookR, Nat.reduceEqDiff, if_true, if_false]) <;> (repeat' apply And.intro) <;> (first | exact ⟨_, rfl, Ints_isG _⟩ | exact ⟨_, rfl, by simp [Cell.isG]⟩))
       case hg => simp [SV.noG, SV.noGL, Cell.noG])
    | (apply cl_plain
       case hs => rfl
       case ha => (simp only [List.map_cons, List.map_nil, prepV, prepC, idx, hpL', lookR, Nat.reduceEqDiff, if_true, if_false]; rfl)
       case h => (first | exact hso .. | exact hcu .. | exact hg0 .. | exact hg1 ..))
    | (apply cl_show
       case ha => (simp only [List.map_cons, List.map_nil, prepV, prepC, idx, hpL', lookR, Nat.reduceEqDiff, if_true, if_false]; rfl)
       case hs => ((simp [snaps, SV.refs, Cell.refs, idx, hpL', lookR]) <;> (repeat' apply And.intro) <;> exact Ints_isG _)
       case h => (first | exact hso .. | exact hcu .. | exact hg0 .. | exact hg1 ..)
       case hg => ((simp [SV.noG, SV.noGL, Cell.noG]) <;> (repeat' apply And.intro) <;> exact Ints_noG _))
    | ((first | refine s1_id ?_ | refine swp_id ?_ | refine sops_id ?_ | refine s2_id ?_); simp only [rrc, rrt, stt, stc, decide_eq_false hk, go_sem, Nat.reduceEqDiff, Nat.reduceAdd, Nat.reduceSub, Nat.reduceMul, Nat.reduceLT, Nat.reduceLeDiff, ↓reduceIte, reduceCtorEq, List.reduceReplicate, Int.cast_ofNat_Int, Int.reduceEq, Int.reduceLT, Int.reduceLE, SV.ren, SV.renL, Cell.ren, Row.ren, renO, bk, back, outUpsFrom, Ints_ren])
    | (apply fs_nil <;> (try simp only [go_sem, resV, resS, SV.ren, SV.renL, Cell.ren, St.tmF, St.hpF, idx, renO, Row.ren, evS, slot, lookR, Nat.reduceEqDiff, ↓reduceIte, reduceCtorEq, if_true, if_false, Option.getD_some, Option.getD_none, List.map_cons, List.map_nil, sLoad, readAt, readNeed, Ints_ren, Ints_length, Ints_getD, and_true, true_and, List.getD_cons_zero, List.getD_cons_succ]) <;> (try rfl)))
def punit (p : List (List Stp)) (r : Rr) : Rr × Int := if snd p r = false then (rz, 1) else if ¬ (r.s = 0 ∧ (stp p r).k = 1) then (rz, 9) else if r.l = 1 then pnext p r else ({ r with l := r.l - 1 }, 0)
end Go.Proofs.Ytdpekegikbbeoaa
