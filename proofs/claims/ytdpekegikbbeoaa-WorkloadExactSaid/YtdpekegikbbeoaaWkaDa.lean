/- Contracts of functions, told of values, on the way to WorkloadExact. -/
import Derived.Test.YtdpekegikbbeoaaTyDa
import Derived.Test.YtdpekegikbbeoaaWk7Da
-- NEWGO
-- PRUNE: cl_lendx cg_tp cg_ts cg_any cg_show cl_show cl_use
namespace Go.Proofs.Ytdpekegikbbeoaa
set_option linter.unusedVariables false
set_option linter.unusedSimpArgs false
open Go.Proofs.Ytdpekegikbbeoaa.Sh
set_option maxRecDepth 20000
theorem cw_list {cs ds : List Cell} (off len : Nat) (cap : Option Nat) (hw : ∀ (i : Nat) y, ds[i]? = some y → ∃ x, cs[i]? = some x ∧ ∀ m v, VG m x v → VG m y v) : CW (.gsl cs off len cap) (.gsl ds off len none) := by
  refine ⟨fun m π v hv => ?_, fun _ _ => trivial⟩
  cases hv with
  | gsl _ _ _ _ b o c ad vals hc hlc hm hv ha =>
    exact VG.gsl ds off len none b o c ad vals (fun k h => by cases h) hlc (fun i y hi => by obtain ⟨x, hx, _⟩ := hw i y hi; exact hm i x hx) (fun i y hi => by obtain ⟨x, hx, hxy⟩ := hw i y hi; exact hxy m _ (hv i x hx)) ha
  | gnil _ _ _ hc => exact VG.gnil ds off none (fun k h => by cases h)
theorem vg_cap (cs : List Cell) (off len : Nat) (cap : Option Nat) (m : Mem) (v : Value) (hv : VG m (.gsl cs off len cap) v) : VG m (.gsl cs off len none) v := (cw_cap cs off len cap).1 m (fun _ => none) v hv
abbrev A0 : List Cell := [int 1, int 2, int 0, int 0, int 12, int 0, int 0, int 0]
abbrev B0 : List Cell := [int 8, int 5, int 0, int 0, int 11, int 0, int 0, int 0]
def P0 : List (List Stp) := [[⟨1, 2, 0, 0⟩, ⟨12, 0, 0, 0⟩], [⟨8, 5, 0, 0⟩, ⟨11, 0, 0, 0⟩]]
theorem e1 : pstart P0 1 0 = (⟨1, 0, 0, 2, 0, 0⟩, 0) := by rfl
theorem e2 : punit P0 ⟨1, 0, 0, 2, 0, 0⟩ = (⟨1, 0, 0, 1, 0, 0⟩, 0) := by rfl
theorem e3 : punit P0 ⟨1, 0, 0, 1, 0, 0⟩ = (⟨1, 0, 1, 0, 0, 0⟩, 0) := by rfl
theorem e4 : pstart P0 2 1 = (⟨2, 1, 0, 0, 0, 0⟩, 0) := by rfl
theorem e5 : pwait P0 ⟨2, 1, 0, 0, 0, 0⟩ 1 5 = (⟨2, 1, 0, 0, 1, 5⟩, 0) := by rfl
theorem e6 : pwake P0 ⟨2, 1, 0, 0, 1, 5⟩ 4 = (⟨2, 1, 0, 0, 1, 5⟩, false) := by
  unfold pwake; rw [if_neg (fun h => by have := h.2.2; simp at this)]
theorem e7 : pwake P0 ⟨2, 1, 0, 0, 1, 5⟩ 5 = (⟨2, 1, 1, 0, 0, 0⟩, true) := by
  unfold pwake; rw [if_pos ⟨by rfl, rfl, by decide⟩]; rfl
theorem e8 : pnext P0 ⟨2, 1, 1, 0, 0, 0⟩ = (⟨2, 1, 0, 0, 0, 0⟩, 0) := by rfl
set_option maxHeartbeats 4000000 in
theorem sane_spec : FnSpec Try.prog 12 [] [] (b1 true) [] := by
  have h1 := start_spec P0 none 1 0 (by decide)
  have h2 := unit_spec P0 none ⟨1, 0, 0, 2, 0, 0⟩ (by decide)
  have h3 := unit_spec P0 none ⟨1, 0, 0, 1, 0, 0⟩ (by decide)
  have h4 := start_spec P0 none 2 1 (by decide)
  have h5 := wait_spec P0 none ⟨2, 1, 0, 0, 0, 0⟩ 1 5 (by decide)
  have h6 := wake_spec P0 none ⟨2, 1, 0, 0, 1, 5⟩ 4 (by decide)
  have h7 := wake_spec P0 none ⟨2, 1, 0, 0, 1, 5⟩ 5 (by decide)
  have h8 := next_spec' P0 none ⟨2, 1, 1, 0, 0, 0⟩ (by decide)
  rw [e1] at h1
  rw [e2] at h2
  rw [e3] at h3
  rw [e4] at h4
  rw [e5] at h5
  rw [e6] at h6
  rw [e7] at h7
  rw [e8] at h8
  refine fnspec_of mixed TT_ok TT_cl ⟨fun _ => false, fun _ => [], 0 , fun _ => false, fun i => if i = 2 then true else false⟩ Try.func12 rfl (by kernel_rfl) rfl 113 rfl [.tmp 0] rfl ?_
  simp only [go_sem, Nat.reduceEqDiff, Nat.reduceAdd, Nat.reduceSub, Nat.reduceMul, Nat.reduceLT, Nat.reduceLeDiff, ↓reduceIte, reduceCtorEq, List.reduceReplicate, Int.cast_ofNat_Int, Int.reduceEq, Int.reduceLT, Int.reduceLE, List.flatten_cons, List.flatten_nil, List.cons_append, List.nil_append, List.append_nil, List.set_cons_zero, List.set_cons_succ, List.length_cons, List.length_nil, List.take_succ_cons, List.take_zero, List.drop_succ_cons, List.drop_zero]
  repeat' (first
    | with_reducible refine And.intro ?_ ?_
    | (unfold OKC; kernel_rfl)
    | (apply okc_up <;> (first | ((repeat (first | exact Sub.nil | apply Sub.gfp | apply Sub.same)); done) | kernel_rfl))
    | (unfold EDG; kernel_rfl)
    | (intros; (try simp only [Bool.and_eq_true, Bool.or_eq_true, Bool.not_eq_true', Bool.not_eq_false', Bool.and_eq_false_iff, Bool.or_eq_false_iff, decide_eq_true_eq, decide_eq_false_iff_not] at *); omega)
    | (refine gt_if (fun h => ?_) (fun h => ?_) <;> (try simp only [h]))
    | (refine pt_if (fun h => ?_) (fun h => ?_) <;> (try simp only [h]))
    | (refine cd_if (fun h => ?_) (fun h => ?_) <;> (try simp only [h]))
    | (apply cl_plain
       case hs => rfl
       case ha => (simp only [List.map_cons, List.map_nil, prepV, prepC, idx, hpL', lookR, Nat.reduceEqDiff, if_true, if_false]; rfl)
       case h => (first | fail))
    | (apply cl_lend
       case hr => (simp only [List.map_cons, List.map_nil, hpL', lookR, Nat.reduceEqDiff, if_true, if_false]; first | exact map1 _ | exact map2 _ _ | exact map3 _ _ _)
       case ha => (simp only [List.map_cons, List.map_nil, prepV, prepC, idx, hpL', lookR, Nat.reduceEqDiff, if_true, if_false]; rfl)
       case hs => rfl
       case hn => decide
       case h => (first | fail)
       case hf => (simp only [List.forall_mem_cons, List.not_mem_nil, false_implies, implies_true, and_true, true_and, flat_cons, flat_nil, flat_ints, flat_bools, flat_app, Cell.refs, and_self, eq_self_iff_true, List.append_nil])
       case hl => (simp only [List.length_cons, List.length_nil]; decide))
    | ((first | refine s1_id ?_ | refine swp_id ?_ | refine sops_id ?_ | refine s2_id ?_); simp only [List.flatten_cons, List.flatten_nil, List.cons_append, List.nil_append, List.append_nil, List.set_cons_zero, List.set_cons_succ, List.length_cons, List.length_nil, List.take_succ_cons, List.take_zero, List.drop_succ_cons, List.drop_zero, go_sem, Nat.reduceEqDiff, Nat.reduceAdd, Nat.reduceSub, Nat.reduceMul, Nat.reduceLT, Nat.reduceLeDiff, ↓reduceIte, reduceCtorEq, List.reduceReplicate, Int.cast_ofNat_Int, Int.reduceEq, Int.reduceLT, Int.reduceLE, SV.ren, SV.renL, Cell.ren, Row.ren, renO, bk, back, outUpsFrom, Ints_ren]))
  refine rgf_t ⟨[(1, gp P0 none)], [], 0⟩ ?_ ?_
  · skip
    refine Imp.trans (imp_frz _ _ 3 ⟨A0, 4⟩ (by simp only [St.hpF, lookR, Nat.reduceEqDiff, if_true, if_false, ↓reduceIte]) (by simp [Cell.isG])) ?_
    simp only [frzTm, SV.frz, SV.frzL, Cell.frz, frzHp, frzO, List.map_cons, List.map_nil, Nat.reduceEqDiff, if_true, if_false, ↓reduceIte]
    refine Imp.trans (imp_frz _ _ 7 ⟨B0, 4⟩ (by simp only [St.hpF, lookR, Nat.reduceEqDiff, if_true, if_false, ↓reduceIte]) (by simp [Cell.isG])) ?_
    simp only [frzTm, SV.frz, SV.frzL, Cell.frz, frzHp, frzO, List.map_cons, List.map_nil, Nat.reduceEqDiff, if_true, if_false, ↓reduceIte]
    refine Imp.trans (imp_frz _ _ 9 ⟨[.gsl A0 0 2 (some 2), .gsl B0 0 2 (some 2)], 1⟩ (by simp only [St.hpF, lookR, Nat.reduceEqDiff, if_true, if_false, ↓reduceIte]) (by simp [Cell.isG])) ?_
    simp only [frzTm, SV.frz, SV.frzL, Cell.frz, frzHp, frzO, List.map_cons, List.map_nil, Nat.reduceEqDiff, if_true, if_false, ↓reduceIte]
    refine Imp.trans (t := ⟨[(1, .one (.gsl [.gsl A0 0 2 (some 2), .gsl B0 0 2 (some 2)] 0 2 (some 2)))], [], 0⟩) ?_ (imp_w _ _ _ ?_ rfl (Nat.le_refl _))
    · (refine imp_sub _ _ _ [] (by simp) (by simp) (by simp) (Nat.zero_le _) ?_ rfl (by simp); simp only [List.forall_mem_cons, List.not_mem_nil, false_implies, implies_true, and_true, lk, slot, SV.ren, Cell.ren, Nat.reduceEqDiff, if_true, if_false, ↓reduceIte, reduceCtorEq])
      all_goals ((repeat' apply And.intro) <;> (first | rfl | trivial))
    · intro x hx
      simp only [List.mem_cons, List.not_mem_nil, or_false] at hx
      subst hx
      refine ⟨_, rfl, svw_of ?_⟩
      refine cw_list 0 2 (some 2) ?_
      intro i y hi
      match i with
      | 0 => cases hi; exact ⟨_, rfl, vg_cap _ _ _ _⟩
      | 1 => cases hi; exact ⟨_, rfl, vg_cap _ _ _ _⟩
      | n + 2 => cases hi
  · generalize P0 = P at *
    simp only [go_sem, Nat.reduceEqDiff, Nat.reduceAdd, Nat.reduceSub, Nat.reduceMul, Nat.reduceLT, Nat.reduceLeDiff, ↓reduceIte, reduceCtorEq, List.reduceReplicate, Int.cast_ofNat_Int, Int.reduceEq, Int.reduceLT, Int.reduceLE]
    repeat' (first
    | with_reducible refine And.intro ?_ ?_
    | (unfold OKC; kernel_rfl)
    | (apply okc_up <;> (first | ((repeat (first | exact Sub.nil | apply Sub.gfp | apply Sub.same)); done) | kernel_rfl))
    | (unfold EDG; kernel_rfl)
    | (intros; (try simp only [Bool.and_eq_true, Bool.or_eq_true, Bool.not_eq_true', Bool.not_eq_false', Bool.and_eq_false_iff, Bool.or_eq_false_iff, decide_eq_true_eq, decide_eq_false_iff_not] at *); omega)
    | (refine gt_if (fun h => ?_) (fun h => ?_) <;> (try simp only [h]))
    | (refine pt_if (fun h => ?_) (fun h => ?_) <;> (try simp only [h]))
    | (refine cd_if (fun h => ?_) (fun h => ?_) <;> (try simp only [h]))
    | (apply cl_plain
       case hs => rfl
       case ha => (simp only [List.map_cons, List.map_nil, prepV, prepC, idx, hpL', lookR, Nat.reduceEqDiff, if_true, if_false]; rfl)
       case h => (first | exact h1 .. | exact h2 .. | exact h3 .. | exact h4 .. | exact h5 .. | exact h6 .. | exact h7 .. | exact h8 ..))
    | (apply cl_lend
       case hr => (simp only [List.map_cons, List.map_nil, hpL', lookR, Nat.reduceEqDiff, if_true, if_false]; first | exact map1 _ | exact map2 _ _ | exact map3 _ _ _)
       case ha => (simp only [List.map_cons, List.map_nil, prepV, prepC, idx, hpL', lookR, Nat.reduceEqDiff, if_true, if_false]; rfl)
       case hs => rfl
       case hn => decide
       case h => (first | exact h1 .. | exact h2 .. | exact h3 .. | exact h4 .. | exact h5 .. | exact h6 .. | exact h7 .. | exact h8 ..)
       case hf => (simp only [List.forall_mem_cons, List.not_mem_nil, false_implies, implies_true, and_true, true_and, flat_cons, flat_nil, flat_ints, flat_bools, flat_app, Cell.refs, and_self, eq_self_iff_true, List.append_nil])
       case hl => (simp only [List.length_cons, List.length_nil]; decide))
    | ((first | refine s1_id ?_ | refine swp_id ?_ | refine sops_id ?_ | refine s2_id ?_); simp only [rrc, rrt, go_sem, Nat.reduceEqDiff, Nat.reduceAdd, Nat.reduceSub, Nat.reduceMul, Nat.reduceLT, Nat.reduceLeDiff, ↓reduceIte, reduceCtorEq, List.reduceReplicate, Int.cast_ofNat_Int, Int.reduceEq, Int.reduceLT, Int.reduceLE, SV.ren, SV.renL, Cell.ren, Row.ren, renO, bk, back, outUpsFrom, Ints_ren])
    | (apply fs_nil <;> (try simp only [go_sem, resV, resS, SV.ren, SV.renL, Cell.ren, St.tmF, St.hpF, idx, renO, Row.ren, evS, slot, lookR, Nat.reduceEqDiff, ↓reduceIte, reduceCtorEq, if_true, if_false, Option.getD_some, Option.getD_none, List.map_cons, List.map_nil, sLoad, readAt, readNeed, Ints_ren, Ints_length, Ints_getD, and_true, true_and, List.getD_cons_zero, List.getD_cons_succ]) <;> (try rfl)))
end Go.Proofs.Ytdpekegikbbeoaa
