/- Contracts of functions, told of values, on the way to DivideAll. -/
import Derived.Test.YtcfkmkabjalgjabTyAb
import Derived.Test.YtcfkmkabjalgjabDvsAb
-- PRUNE: cg_tp cg_ts cg_any cg_show cl_lend cl_use
namespace Go.Proofs.Ytcfkmkabjalgjab
set_option linter.unusedVariables false
set_option linter.unusedSimpArgs false
open Go.Proofs.Ytcfkmkabjalgjab.Sh
def refS (ps : List Int) (m : Nat) (s : List Int × List Int × List Bool) : List Int × List Int × List Bool :=
  let w1 := if s.2.2.getD m false = true then s.1 else s.1.set m (mn (s.2.1.getD m 0))
  if 0 ≤ ps.getD m 0 then (w1, s.2.1.set (ps.getD m 0).toNat (s.2.1.getD (ps.getD m 0).toNat 0 + w1.getD m 0), s.2.2.set (ps.getD m 0).toNat false) else (w1, s.2.1, s.2.2)
structure Rel (ds : List Int) (n m : Nat) (a : List Int × List Bool) (b : List Int × List Int × List Bool) : Prop where
  l1 : a.1.length = n
  l2 : a.2.length = n
  l3 : b.1.length = n
  l4 : b.2.1.length = n
  l5 : b.2.2.length = n
  fl : ∀ i, i < n → b.2.2.getD i false = !a.2.getD i false
  hi : ∀ i, m ≤ i → i < n → a.1.getD i 0 = b.1.getD i 0
  lo : ∀ i, i < m → b.1.getD i 0 = ds.getD i 0
  sm : ∀ i, i < m → a.1.getD i 0 = mn (b.2.1.getD i 0)
  sr : ∀ i, i < n → 0 ≤ b.2.1.getD i 0 ∧ b.2.1.getD i 0 ≤ 65536 * ((n : Int) - m)
  rg : rng a.1
theorem mn_mn {x y : Int} (hx : 0 ≤ x) (hy : 0 ≤ y) : mn (mn x + y) = mn (x + y) := by unfold mn; split <;> split <;> (try split) <;> omega
theorem rel_step {ps ds : List Int} {n m : Nat} {a : List Int × List Bool} {b : List Int × List Int × List Bool} (hd : rng ds) (hpm : -1 ≤ ps.getD m 0 ∧ ps.getD m 0 < (m : Int)) (hm : m < n) (h : Rel ds n (m + 1) a b) : Rel ds n m (riseS ps ds m a) (refS ps m b) := by
  obtain ⟨w, f⟩ := a
  obtain ⟨u, s, g⟩ := b
  obtain ⟨l1, l2, l3, l4, l5, fl, hi, lo, sm, sr, rg⟩ := h
  have hrg := riseS_ok (ps := ps) (i := m) hd (s := (w, f)) rg
  have hln := riseS_len ps ds m (w, f)
  simp only at l1 l2 l3 l4 l5 fl hi lo sm sr rg
  have hfm := fl m hm
  have hsm := sm m (by omega)
  have hlm := lo m (by omega)
  -- the value at m
  have hw1 : ∃ w1 : List Int, w1 = (if f.getD m false = true then w else w.set m (ds.getD m 0)) := ⟨_, rfl⟩
  obtain ⟨w1, hw1⟩ := hw1
  have hu1 : ∃ u1 : List Int, u1 = (if g.getD m false = true then u else u.set m (mn (s.getD m 0))) := ⟨_, rfl⟩
  obtain ⟨u1, hu1⟩ := hu1
  have lw1 : w1.length = n := by rw [hw1]; split <;> simp [l1]
  have lu1 : u1.length = n := by rw [hu1]; split <;> simp [l3]
  have gw : ∀ i, i ≠ m → w1.getD i 0 = w.getD i 0 := fun i hne => by
    rw [hw1]; split
    · rfl
    · rw [getD_setI _ _ _ _ (by omega), if_neg hne]
  have gu : ∀ i, i ≠ m → u1.getD i 0 = u.getD i 0 := fun i hne => by
    rw [hu1]; split
    · rfl
    · rw [getD_setI _ _ _ _ (by omega), if_neg hne]
  have gm : w1.getD m 0 = u1.getD m 0 := by
    rw [hw1, hu1, hfm]
    cases hf : f.getD m false with
    | true =>
      rw [if_pos rfl, if_neg (show ¬ (!true) = true by decide), getD_setI _ _ _ _ (by omega), if_pos rfl]; exact hsm
    | false =>
      rw [if_neg (show ¬ false = true by decide), if_pos (show (!false) = true from rfl), getD_setI _ _ _ _ (by omega), if_pos rfl]; exact hlm.symm
  have r1 : rng w1 := by
    rw [hw1]; split
    · exact rg
    · exact rng_set rg m (hd m)
  have r1m := r1 m
  have e1 : riseS ps ds m (w, f) = if 0 ≤ ps.getD m 0 then (w1.set (ps.getD m 0).toNat (mn (w1.getD (ps.getD m 0).toNat 0 + w1.getD m 0)), f.set (ps.getD m 0).toNat true) else (w1, f) := by
    rw [hw1]; rfl
  have e2 : refS ps m (u, s, g) = if 0 ≤ ps.getD m 0 then (u1, s.set (ps.getD m 0).toNat (s.getD (ps.getD m 0).toNat 0 + u1.getD m 0), g.set (ps.getD m 0).toNat false) else (u1, s, g) := by
    rw [hu1]; rfl
  rw [e1] at hrg
  rw [e1, e2]
  by_cases h0 : 0 ≤ ps.getD m 0
  · rw [if_pos h0] at hrg
    rw [if_pos h0, if_pos h0]
    generalize hq : (ps.getD m 0).toNat = q at *
    have hqm : q < m := by omega
    have hsq := sr q (by omega)
    refine ⟨by simp [lw1], by simp [l2], lu1, by simp [l4], by simp [l5], fun i hi' => ?_, fun i h1 h2 => ?_, fun i h1 => ?_, fun i h1 => ?_, fun i h1 => ?_, hrg⟩
    · simp only
      rw [getD_setB _ _ _ _ (by omega), getD_setB _ _ _ _ (by omega)]
      split
      · rfl
      · exact fl i hi'
    · simp only
      rw [getD_setI _ _ _ _ (by omega), if_neg (by omega)]
      by_cases e : i = m
      · subst e; exact gm
      · rw [gw i e, gu i e]; exact hi i (by omega) h2
    · simp only
      rw [gu i (by omega)]; exact lo i (by omega)
    · simp only
      rw [getD_setI _ _ _ _ (by omega), getD_setI _ _ _ _ (by omega)]
      by_cases e : i = q
      · rw [if_pos e, if_pos e, gw q (by omega), sm q (by omega), ← gm]
        exact mn_mn hsq.1 r1m.1
      · rw [if_neg e, if_neg e, gw i (by omega)]; exact sm i (by omega)
    · simp only
      rw [getD_setI _ _ _ _ (by omega), ← gm]
      have := sr i h1
      split <;> omega
  · rw [if_neg h0] at hrg
    rw [if_neg h0, if_neg h0]
    refine ⟨lw1, l2, lu1, l4, l5, fl, fun i h1 h2 => ?_, fun i h1 => ?_, fun i h1 => ?_, fun i h1 => ?_, hrg⟩
    · simp only
      by_cases e : i = m
      · subst e; exact gm
      · rw [gw i e, gu i e]; exact hi i (by omega) h2
    · simp only
      rw [gu i (by omega)]; exact lo i (by omega)
    · simp only
      rw [gw i (by omega)]; exact sm i (by omega)
    · have := sr i h1
      simp only; omega
def lfN (n : Nat) : Nat → List Bool
  | 0 => List.replicate n false
  | i + 1 => (lfN n i).set i true
theorem lfN_len (n : Nat) : ∀ i, (lfN n i).length = n
  | 0 => by simp [lfN]
  | i + 1 => by simp [lfN, lfN_len n i]
theorem lfN_get (n : Nat) : ∀ i, i ≤ n → ∀ j, j < i → (lfN n i).getD j false = true
  | 0, _, j, h => by omega
  | i + 1, hi, j, h => by
    rw [lfN, getD_setB _ _ _ _ (by rw [lfN_len]; omega)]
    split
    · rfl
    · exact lfN_get n i (by omega) j (by omega)
theorem rel_init {ds : List Int} {n : Nat} (hl : ds.length = n) : Rel ds n n (List.replicate n 0, List.replicate n false) (ds, List.replicate n 0, lfN n n) := by
  have z : ∀ i, (List.replicate n (0 : Int)).getD i 0 = 0 := fun i => by
    simp only [List.getD_eq_getElem?_getD, List.getElem?_replicate]; split <;> rfl
  have zb : ∀ i, (List.replicate n false).getD i false = false := fun i => by
    simp only [List.getD_eq_getElem?_getD, List.getElem?_replicate]; split <;> rfl
  refine ⟨by simp, by simp, hl, by simp, by rw [lfN_len], fun i hi => ?_, fun i h1 h2 => by omega, fun i _ => rfl, fun i _ => ?_, fun i _ => ?_, rng_rep n⟩
  · simp only; rw [zb, lfN_get n n (Nat.le_refl _) i hi]; rfl
  · simp only; rw [z]; rfl
  · simp only; rw [z]; omega
def stN (ps ws wt : List Int) (u : Int) : Nat → List Int
  | 0 => List.replicate ps.length 0
  | j + 1 => treeN ps ws wt u j
set_option maxHeartbeats 4000000 in
theorem rtree_spec (u : Int) (ps ws ds : List Int) (c d e : Option Nat) (hv : valid u ws ds = true) (hl : ps.length = ws.length) (hp : par ps ps.length) :
    FnSpec Try.prog 23 [i1 u, gi ps c, gi ws d, gi ds e] [] (.one (.osl 0 0 ps.length (some ps.length))) [some ⟨Ints (treeV ps ws ds u), 1⟩] := by
  have hV := valid_iff hv
  have hu : 0 ≤ u ∧ u ≤ 65536 := by have := hV.1; simpa only [isU, Bool.and_eq_true, decide_eq_true_eq] using this
  have hw : ∀ i, i < ps.length → 1 ≤ ws.getD i 0 ∧ ws.getD i 0 ≤ 10000 := fun i hi => by
    have := (hV.2.2.2 i (by omega)).1; simpa only [isW, Bool.and_eq_true, decide_eq_true_eq] using this
  have hr : rng ds := rng_of fun i hi => by
    have := (hV.2.2.2 i (by omega)).2; simpa only [isU, Bool.and_eq_true, decide_eq_true_eq] using this
  have hn : ps.length ≤ 64 := by omega
  have hld : ds.length = ps.length := by omega
  have hWr := riseW_rng (ps := ps) hr
  have hWl := riseW_len ps ds
  have hte : treeV ps ws ds u = stN ps ws (riseW ps ds) u (ps.length + 1) := rfl
  rw [hte]
  have hlp : decide ((ps.length : Int) = ws.length) = true := decide_eq_true (by omega)
  refine fnspec_of mixed TT_ok TT_cl ⟨fun _ => false, fun _ => [], 0, fun _ => false, fun _ => false⟩ Try.func23 rfl (by kernel_rfl) rfl 168 rfl [.tmp 8] rfl ?_
  simp only [go_sem, Nat.reduceEqDiff, Nat.reduceAdd, Nat.reduceSub, Nat.reduceMul, Nat.reduceLT, Nat.reduceLeDiff, ↓reduceIte, reduceCtorEq, List.reduceReplicate, Int.cast_ofNat_Int]
  have htk : List.take ps.length ds = ds := List.take_of_length_le (by omega)
  repeat' (first
    | with_reducible refine And.intro ?_ ?_
    | (unfold OKC; kernel_rfl)
    | (apply okc_up <;> (first | ((repeat (first | exact Sub.nil | apply Sub.gfp | apply Sub.same)); done) | kernel_rfl))
    | (unfold EDG; kernel_rfl)
    | (intros; (try simp only [Bool.and_eq_true, Bool.or_eq_true, Bool.not_eq_true', Bool.not_eq_false', Bool.and_eq_false_iff, Bool.or_eq_false_iff, decide_eq_true_eq, decide_eq_false_iff_not] at *); omega)
    | (refine gt_if (fun h => ?_) (fun h => ?_) <;> (first | (simp only [h, hv, hlp, htk, hld, go_sem, Nat.reduceEqDiff, Nat.reduceAdd, Nat.reduceSub, Nat.reduceMul, Nat.reduceLT, Nat.reduceLeDiff, ↓reduceIte, reduceCtorEq, List.reduceReplicate, Int.cast_ofNat_Int]; done) | simp only [h, hv, hlp, htk, hld, go_sem, Nat.reduceEqDiff, Nat.reduceAdd, Nat.reduceSub, Nat.reduceMul, Nat.reduceLT, Nat.reduceLeDiff, ↓reduceIte, reduceCtorEq, List.reduceReplicate, Int.cast_ofNat_Int] | skip))
    | (refine pt_if (fun h => ?_) (fun h => ?_) <;> (first | (simp only [h, hv, hlp, htk, hld, go_sem, Nat.reduceEqDiff, Nat.reduceAdd, Nat.reduceSub, Nat.reduceMul, Nat.reduceLT, Nat.reduceLeDiff, ↓reduceIte, reduceCtorEq, List.reduceReplicate, Int.cast_ofNat_Int]; done) | simp only [h, hv, hlp, htk, hld, go_sem, Nat.reduceEqDiff, Nat.reduceAdd, Nat.reduceSub, Nat.reduceMul, Nat.reduceLT, Nat.reduceLeDiff, ↓reduceIte, reduceCtorEq, List.reduceReplicate, Int.cast_ofNat_Int] | skip))
    | (refine cd_if (fun h => ?_) (fun h => ?_) <;> (first | (simp only [h, hv, hlp, htk, hld, go_sem, Nat.reduceEqDiff, Nat.reduceAdd, Nat.reduceSub, Nat.reduceMul, Nat.reduceLT, Nat.reduceLeDiff, ↓reduceIte, reduceCtorEq, List.reduceReplicate, Int.cast_ofNat_Int]; done) | simp only [h, hv, hlp, htk, hld, go_sem, Nat.reduceEqDiff, Nat.reduceAdd, Nat.reduceSub, Nat.reduceMul, Nat.reduceLT, Nat.reduceLeDiff, ↓reduceIte, reduceCtorEq, List.reduceReplicate, Int.cast_ofNat_Int] | skip))
    | (apply cl_plain
       case hs => rfl
       case ha => (simp only [List.map_cons, List.map_nil, prepV, prepC, idx, hpL', lookR, Nat.reduceEqDiff, if_true, if_false]; rfl)
       case h => (first | exact rvalid_spec _ _ _ _ _ (by omega) (by omega))
       case' hk => simp only [hv, hlp, htk, hld, go_sem, Nat.reduceEqDiff, Nat.reduceAdd, Nat.reduceSub, Nat.reduceMul, Nat.reduceLT, Nat.reduceLeDiff, ↓reduceIte, reduceCtorEq, List.reduceReplicate, Int.cast_ofNat_Int, SV.ren, SV.renL, Cell.ren, Row.ren, renO, bk, back, outUpsFrom, Ints_ren])
    | (apply cl_show
       case ha => (simp only [List.map_cons, List.map_nil, prepV, prepC, idx, hpL', lookR, Nat.reduceEqDiff, if_true, if_false]; rfl)
       case hs => ((simp [snaps, SV.refs, Cell.refs, idx, hpL', lookR]) <;> (repeat' apply And.intro) <;> exact Ints_isG _)
       case h => (first | exact rvalid_spec _ _ _ _ _ (by omega) (by omega))
       case hg => ((simp [SV.noG, SV.noGL, Cell.noG]) <;> (repeat' apply And.intro) <;> exact Ints_noG _)
       case' hk => simp only [hv, hlp, htk, hld, go_sem, Nat.reduceEqDiff, Nat.reduceAdd, Nat.reduceSub, Nat.reduceMul, Nat.reduceLT, Nat.reduceLeDiff, ↓reduceIte, reduceCtorEq, List.reduceReplicate, Int.cast_ofNat_Int, SV.ren, SV.renL, Cell.ren, Row.ren, renO, bk, back, outUpsFrom, Ints_ren])
    | (apply fs_nil <;> (try simp only [go_sem, resV, resS, SV.ren, SV.renL, Cell.ren, St.tmF, St.hpF, idx, renO, Row.ren, evS, slot, lookR, Nat.reduceEqDiff, ↓reduceIte, reduceCtorEq, if_true, if_false, Option.getD_some, Option.getD_none, List.map_cons, List.map_nil, sLoad, readAt, readNeed, Ints_ren, Ints_length, Ints_getD, and_true, true_and, List.getD_cons_zero, List.getD_cons_succ]) <;> (try rfl)))
  generalize hN : ps.length = n at *
  refine w_loop (ι := Nat) (fun i => ⟨[(13, i1 i), (12, .one (.osl 2 0 n (some n))), (11, .one (.osl 1 0 n (some n))), (10, .one (.osl 0 0 n none)), (9, i1 n), (0, i1 u), (1, gi ps c), (2, gi ws d)], [(0, some ⟨Ints ds, 1⟩), (1, some ⟨Ints (List.replicate n 0), 1⟩), (2, some ⟨Bools (lfN n i), 1⟩)], 3⟩) (fun i => i ≤ n) (fun i => n - i) 0 ?_ (Nat.zero_le _) ?_
  · (refine imp_ren _ _ _ [(0, 17, ⟨Ints ds, 1⟩), (1, 20, ⟨Ints (List.replicate n 0), 1⟩), (2, 23, ⟨Bools (List.replicate n false), 1⟩)] (by simp) (by simp) (by simp) (Nat.le_of_ble_eq_true rfl) ?_ rfl (by simp only [List.forall_mem_cons, List.not_mem_nil, false_implies, implies_true, and_true, St.hpF, lookR, Nat.reduceEqDiff, if_true, if_false, ↓reduceIte, htk] <;> (repeat' apply And.intro) <;> (first | rfl | trivial)) (by simp only [List.forall_mem_cons, List.not_mem_nil, false_implies, implies_true, and_true, true_and, flat_cons, flat_nil, flat_ints, flat_bools, flat_app, Cell.refs, and_self, eq_self_iff_true, List.append_nil, htk]); simp only [List.map_cons, List.map_nil, List.forall_mem_cons, List.not_mem_nil, false_implies, implies_true, and_true, lk, slot, SV.ren, Cell.ren, toN, Nat.reduceEqDiff, if_true, if_false, ↓reduceIte, reduceCtorEq])
    all_goals ((repeat' apply And.intro) <;> (first | rfl | trivial))
  intro i hi
  have hlf := lfN_len n i
  rcases Nat.lt_or_ge i n with hlt | hge
  · have hlt2 : (i : Int) < n := by omega
    have hpi := hp i hlt
    have hb : (decide (ps.getD i 0 < -1) || decide ((i : Int) ≤ ps.getD i 0)) = false := by simp only [Bool.or_eq_false_iff, decide_eq_false_iff_not]; omega
    simp only [go_sem, Nat.reduceEqDiff, Nat.reduceAdd, Nat.reduceSub, Nat.reduceMul, Nat.reduceLT, Nat.reduceLeDiff, ↓reduceIte, reduceCtorEq, List.reduceReplicate, Int.cast_ofNat_Int, decide_eq_true hlt2]
    repeat' (first
    | with_reducible refine And.intro ?_ ?_
    | (unfold OKC; kernel_rfl)
    | (apply okc_up <;> (first | ((repeat (first | exact Sub.nil | apply Sub.gfp | apply Sub.same)); done) | kernel_rfl))
    | (unfold EDG; kernel_rfl)
    | (intros; (try simp only [Bool.and_eq_true, Bool.or_eq_true, Bool.not_eq_true', Bool.not_eq_false', Bool.and_eq_false_iff, Bool.or_eq_false_iff, decide_eq_true_eq, decide_eq_false_iff_not] at *); omega)
    | (refine gt_if (fun h => ?_) (fun h => ?_) <;> (first | (simp only [h, hb, hN, go_sem, Nat.reduceEqDiff, Nat.reduceAdd, Nat.reduceSub, Nat.reduceMul, Nat.reduceLT, Nat.reduceLeDiff, ↓reduceIte, reduceCtorEq, List.reduceReplicate, Int.cast_ofNat_Int]; done) | simp only [h, hb, hN, go_sem, Nat.reduceEqDiff, Nat.reduceAdd, Nat.reduceSub, Nat.reduceMul, Nat.reduceLT, Nat.reduceLeDiff, ↓reduceIte, reduceCtorEq, List.reduceReplicate, Int.cast_ofNat_Int] | skip))
    | (refine pt_if (fun h => ?_) (fun h => ?_) <;> (first | (simp only [h, hb, hN, go_sem, Nat.reduceEqDiff, Nat.reduceAdd, Nat.reduceSub, Nat.reduceMul, Nat.reduceLT, Nat.reduceLeDiff, ↓reduceIte, reduceCtorEq, List.reduceReplicate, Int.cast_ofNat_Int]; done) | simp only [h, hb, hN, go_sem, Nat.reduceEqDiff, Nat.reduceAdd, Nat.reduceSub, Nat.reduceMul, Nat.reduceLT, Nat.reduceLeDiff, ↓reduceIte, reduceCtorEq, List.reduceReplicate, Int.cast_ofNat_Int] | skip))
    | (refine cd_if (fun h => ?_) (fun h => ?_) <;> (first | (simp only [h, hb, hN, go_sem, Nat.reduceEqDiff, Nat.reduceAdd, Nat.reduceSub, Nat.reduceMul, Nat.reduceLT, Nat.reduceLeDiff, ↓reduceIte, reduceCtorEq, List.reduceReplicate, Int.cast_ofNat_Int]; done) | simp only [h, hb, hN, go_sem, Nat.reduceEqDiff, Nat.reduceAdd, Nat.reduceSub, Nat.reduceMul, Nat.reduceLT, Nat.reduceLeDiff, ↓reduceIte, reduceCtorEq, List.reduceReplicate, Int.cast_ofNat_Int] | skip))
    | (apply cl_plain
       case hs => rfl
       case ha => (simp only [List.map_cons, List.map_nil, prepV, prepC, idx, hpL', lookR, Nat.reduceEqDiff, if_true, if_false]; rfl)
       case h => (first | fail)
       case' hk => simp only [hb, hN, go_sem, Nat.reduceEqDiff, Nat.reduceAdd, Nat.reduceSub, Nat.reduceMul, Nat.reduceLT, Nat.reduceLeDiff, ↓reduceIte, reduceCtorEq, List.reduceReplicate, Int.cast_ofNat_Int, SV.ren, SV.renL, Cell.ren, Row.ren, renO, bk, back, outUpsFrom, Ints_ren])
    | (apply cl_show
       case ha => (simp only [List.map_cons, List.map_nil, prepV, prepC, idx, hpL', lookR, Nat.reduceEqDiff, if_true, if_false]; rfl)
       case hs => ((simp [snaps, SV.refs, Cell.refs, idx, hpL', lookR]) <;> (repeat' apply And.intro) <;> exact Ints_isG _)
       case h => (first | fail)
       case hg => ((simp [SV.noG, SV.noGL, Cell.noG]) <;> (repeat' apply And.intro) <;> exact Ints_noG _)
       case' hk => simp only [hb, hN, go_sem, Nat.reduceEqDiff, Nat.reduceAdd, Nat.reduceSub, Nat.reduceMul, Nat.reduceLT, Nat.reduceLeDiff, ↓reduceIte, reduceCtorEq, List.reduceReplicate, Int.cast_ofNat_Int, SV.ren, SV.renL, Cell.ren, Row.ren, renO, bk, back, outUpsFrom, Ints_ren]))
    all_goals try omega
    refine le_mk (i + 1) ?_ (by omega) (by omega)
    (refine imp_ren _ _ _ [(0, 0, ⟨Ints ds, 1⟩), (1, 1, ⟨Ints (List.replicate n 0), 1⟩), (2, 2, ⟨Bools (lfN n (i + 1)), 1⟩)] (by simp) (by simp) (by simp) (Nat.le_of_ble_eq_true rfl) ?_ rfl (by simp only [List.forall_mem_cons, List.not_mem_nil, false_implies, implies_true, and_true, St.hpF, lookR, Nat.reduceEqDiff, if_true, if_false, ↓reduceIte, lfN] <;> (repeat' apply And.intro) <;> (first | rfl | trivial)) (by simp only [List.forall_mem_cons, List.not_mem_nil, false_implies, implies_true, and_true, true_and, flat_cons, flat_nil, flat_ints, flat_bools, flat_app, Cell.refs, and_self, eq_self_iff_true, List.append_nil, lfN]); simp only [List.map_cons, List.map_nil, List.forall_mem_cons, List.not_mem_nil, false_implies, implies_true, and_true, lk, slot, SV.ren, Cell.ren, toN, Nat.reduceEqDiff, if_true, if_false, ↓reduceIte, reduceCtorEq])
    all_goals ((repeat' apply And.intro) <;> (first | rfl | trivial))
  have hlt2 : ¬ (i : Int) < n := by omega
  have ei : i = n := by omega
  subst ei
  simp only [go_sem, Nat.reduceEqDiff, Nat.reduceAdd, Nat.reduceSub, Nat.reduceMul, Nat.reduceLT, Nat.reduceLeDiff, ↓reduceIte, reduceCtorEq, List.reduceReplicate, Int.cast_ofNat_Int, decide_eq_false hlt2]
  repeat' (first
    | with_reducible refine And.intro ?_ ?_
    | (unfold OKC; kernel_rfl)
    | (apply okc_up <;> (first | ((repeat (first | exact Sub.nil | apply Sub.gfp | apply Sub.same)); done) | kernel_rfl))
    | (unfold EDG; kernel_rfl)
    | (intros; (try simp only [Bool.and_eq_true, Bool.or_eq_true, Bool.not_eq_true', Bool.not_eq_false', Bool.and_eq_false_iff, Bool.or_eq_false_iff, decide_eq_true_eq, decide_eq_false_iff_not] at *); omega)
    | (refine gt_if (fun h => ?_) (fun h => ?_) <;> (first | (simp only [h, go_sem, Nat.reduceEqDiff, Nat.reduceAdd, Nat.reduceSub, Nat.reduceMul, Nat.reduceLT, Nat.reduceLeDiff, ↓reduceIte, reduceCtorEq, List.reduceReplicate, Int.cast_ofNat_Int]; done) | simp only [h, go_sem, Nat.reduceEqDiff, Nat.reduceAdd, Nat.reduceSub, Nat.reduceMul, Nat.reduceLT, Nat.reduceLeDiff, ↓reduceIte, reduceCtorEq, List.reduceReplicate, Int.cast_ofNat_Int] | skip))
    | (refine pt_if (fun h => ?_) (fun h => ?_) <;> (first | (simp only [h, go_sem, Nat.reduceEqDiff, Nat.reduceAdd, Nat.reduceSub, Nat.reduceMul, Nat.reduceLT, Nat.reduceLeDiff, ↓reduceIte, reduceCtorEq, List.reduceReplicate, Int.cast_ofNat_Int]; done) | simp only [h, go_sem, Nat.reduceEqDiff, Nat.reduceAdd, Nat.reduceSub, Nat.reduceMul, Nat.reduceLT, Nat.reduceLeDiff, ↓reduceIte, reduceCtorEq, List.reduceReplicate, Int.cast_ofNat_Int] | skip))
    | (refine cd_if (fun h => ?_) (fun h => ?_) <;> (first | (simp only [h, go_sem, Nat.reduceEqDiff, Nat.reduceAdd, Nat.reduceSub, Nat.reduceMul, Nat.reduceLT, Nat.reduceLeDiff, ↓reduceIte, reduceCtorEq, List.reduceReplicate, Int.cast_ofNat_Int]; done) | simp only [h, go_sem, Nat.reduceEqDiff, Nat.reduceAdd, Nat.reduceSub, Nat.reduceMul, Nat.reduceLT, Nat.reduceLeDiff, ↓reduceIte, reduceCtorEq, List.reduceReplicate, Int.cast_ofNat_Int] | skip))
    | (apply cl_plain
       case hs => rfl
       case ha => (simp only [List.map_cons, List.map_nil, prepV, prepC, idx, hpL', lookR, Nat.reduceEqDiff, if_true, if_false]; rfl)
       case h => (first | fail)
       case' hk => simp only [go_sem, Nat.reduceEqDiff, Nat.reduceAdd, Nat.reduceSub, Nat.reduceMul, Nat.reduceLT, Nat.reduceLeDiff, ↓reduceIte, reduceCtorEq, List.reduceReplicate, Int.cast_ofNat_Int, SV.ren, SV.renL, Cell.ren, Row.ren, renO, bk, back, outUpsFrom, Ints_ren])
    | (apply cl_show
       case ha => (simp only [List.map_cons, List.map_nil, prepV, prepC, idx, hpL', lookR, Nat.reduceEqDiff, if_true, if_false]; rfl)
       case hs => ((simp [snaps, SV.refs, Cell.refs, idx, hpL', lookR]) <;> (repeat' apply And.intro) <;> exact Ints_isG _)
       case h => (first | fail)
       case hg => ((simp [SV.noG, SV.noGL, Cell.noG]) <;> (repeat' apply And.intro) <;> exact Ints_noG _)
       case' hk => simp only [go_sem, Nat.reduceEqDiff, Nat.reduceAdd, Nat.reduceSub, Nat.reduceMul, Nat.reduceLT, Nat.reduceLeDiff, ↓reduceIte, reduceCtorEq, List.reduceReplicate, Int.cast_ofNat_Int, SV.ren, SV.renL, Cell.ren, Row.ren, renO, bk, back, outUpsFrom, Ints_ren]))
  refine w_loop (ι := Nat × (List Int × List Bool) × (List Int × List Int × List Bool)) (fun x => ⟨[(14, i1 ((x.1 : Int) - 1)), (12, .one (.osl 2 0 i (some i))), (11, .one (.osl 1 0 i (some i))), (10, .one (.osl 0 0 i none)), (9, i1 i), (0, i1 u), (1, gi ps c), (2, gi ws d)], [(0, some ⟨Ints x.2.2.1, 1⟩), (1, some ⟨Ints x.2.2.2.1, 1⟩), (2, some ⟨Bools x.2.2.2.2, 1⟩)], 3⟩)
    (fun x => x.1 ≤ i ∧ Rel ds i x.1 x.2.1 x.2.2 ∧ riseL ps ds x.1 x.2.1 = riseL ps ds i (List.replicate i 0, List.replicate i false)) (fun x => x.1) (i, (List.replicate i 0, List.replicate i false), (ds, List.replicate i 0, lfN i i)) ?_ ⟨Nat.le_refl _, rel_init hld, rfl⟩ ?_
  · (refine imp_ren _ _ _ [(0, 0, ⟨Ints ds, 1⟩), (1, 1, ⟨Ints (List.replicate i 0), 1⟩), (2, 2, ⟨Bools (lfN i i), 1⟩)] (by simp) (by simp) (by simp) (Nat.le_of_ble_eq_true rfl) ?_ rfl (by simp only [List.forall_mem_cons, List.not_mem_nil, false_implies, implies_true, and_true, St.hpF, lookR, Nat.reduceEqDiff, if_true, if_false, ↓reduceIte] <;> (repeat' apply And.intro) <;> (first | rfl | trivial)) (by simp only [List.forall_mem_cons, List.not_mem_nil, false_implies, implies_true, and_true, true_and, flat_cons, flat_nil, flat_ints, flat_bools, flat_app, Cell.refs, and_self, eq_self_iff_true, List.append_nil]); simp only [List.map_cons, List.map_nil, List.forall_mem_cons, List.not_mem_nil, false_implies, implies_true, and_true, lk, slot, SV.ren, Cell.ren, toN, Nat.reduceEqDiff, if_true, if_false, ↓reduceIte, reduceCtorEq])
    all_goals ((repeat' apply And.intro) <;> (first | rfl | trivial))
  rintro ⟨m, a, want, sm', leaf⟩ ⟨q1, q2, q3⟩
  simp only at q1 q2 q3 ⊢
  cases m with
  | succ m =>
    have e0 : ((m + 1 : Nat) : Int) - 1 = m := by omega
    have hpm := hp m (by omega)
    have hst := rel_step (ps := ps) hr hpm (by omega) q2
    have hsr := q2.sr
    have hrel := hst.hi m (Nat.le_refl _) (by omega)
    have hrg := hst.rg m
    have g3 : want.length = i := q2.l3
    have g4 : sm'.length = i := q2.l4
    have g5 : leaf.length = i := q2.l5
    have hq3 : riseL ps ds m (riseS ps ds m a) = riseL ps ds i (List.replicate i 0, List.replicate i false) := q3
    have hsp := fun h : 0 ≤ ps.getD m 0 => hsr (ps.getD m 0).toNat (by omega)
    have hsm := hsr m (by omega)
    simp only at hsm hsp hrel
    cases hlm : leaf.getD m false with
    | true =>
      have ew : (refS ps m (want, sm', leaf)).1.getD m 0 = want.getD m 0 := by unfold refS; simp only [hlm, if_true]; split <;> rfl
      rw [ew] at hrel
      by_cases h0 : 0 ≤ ps.getD m 0
      · have hsp := hsp h0
        have er : refS ps m (want, sm', leaf) = (want, sm'.set (ps.getD m 0).toNat (sm'.getD (ps.getD m 0).toNat 0 + want.getD m 0), leaf.set (ps.getD m 0).toNat false) := by unfold refS; simp only [hlm, if_true, if_pos h0]
        simp only [go_sem, Nat.reduceEqDiff, Nat.reduceAdd, Nat.reduceSub, Nat.reduceMul, Nat.reduceLT, Nat.reduceLeDiff, ↓reduceIte, reduceCtorEq, List.reduceReplicate, Int.cast_ofNat_Int, e0]
        repeat' (first
    | with_reducible refine And.intro ?_ ?_
    | (unfold OKC; kernel_rfl)
    | (apply okc_up <;> (first | ((repeat (first | exact Sub.nil | apply Sub.gfp | apply Sub.same)); done) | kernel_rfl))
    | (unfold EDG; kernel_rfl)
    | (intros; (try simp only [Bool.and_eq_true, Bool.or_eq_true, Bool.not_eq_true', Bool.not_eq_false', Bool.and_eq_false_iff, Bool.or_eq_false_iff, decide_eq_true_eq, decide_eq_false_iff_not] at *); omega)
    | (refine gt_if (fun h => ?_) (fun h => ?_) <;> (first | (simp only [h, e0, hlm, decide_eq_true h0, hld, hN, go_sem, Nat.reduceEqDiff, Nat.reduceAdd, Nat.reduceSub, Nat.reduceMul, Nat.reduceLT, Nat.reduceLeDiff, ↓reduceIte, reduceCtorEq, List.reduceReplicate, Int.cast_ofNat_Int]; done) | simp only [h, e0, hlm, decide_eq_true h0, hld, hN, go_sem, Nat.reduceEqDiff, Nat.reduceAdd, Nat.reduceSub, Nat.reduceMul, Nat.reduceLT, Nat.reduceLeDiff, ↓reduceIte, reduceCtorEq, List.reduceReplicate, Int.cast_ofNat_Int] | skip))
    | (refine pt_if (fun h => ?_) (fun h => ?_) <;> (first | (simp only [h, e0, hlm, decide_eq_true h0, hld, hN, go_sem, Nat.reduceEqDiff, Nat.reduceAdd, Nat.reduceSub, Nat.reduceMul, Nat.reduceLT, Nat.reduceLeDiff, ↓reduceIte, reduceCtorEq, List.reduceReplicate, Int.cast_ofNat_Int]; done) | simp only [h, e0, hlm, decide_eq_true h0, hld, hN, go_sem, Nat.reduceEqDiff, Nat.reduceAdd, Nat.reduceSub, Nat.reduceMul, Nat.reduceLT, Nat.reduceLeDiff, ↓reduceIte, reduceCtorEq, List.reduceReplicate, Int.cast_ofNat_Int] | skip))
    | (refine cd_if (fun h => ?_) (fun h => ?_) <;> (first | (simp only [h, e0, hlm, decide_eq_true h0, hld, hN, go_sem, Nat.reduceEqDiff, Nat.reduceAdd, Nat.reduceSub, Nat.reduceMul, Nat.reduceLT, Nat.reduceLeDiff, ↓reduceIte, reduceCtorEq, List.reduceReplicate, Int.cast_ofNat_Int]; done) | simp only [h, e0, hlm, decide_eq_true h0, hld, hN, go_sem, Nat.reduceEqDiff, Nat.reduceAdd, Nat.reduceSub, Nat.reduceMul, Nat.reduceLT, Nat.reduceLeDiff, ↓reduceIte, reduceCtorEq, List.reduceReplicate, Int.cast_ofNat_Int] | skip))
    | (apply cl_plain
       case hs => rfl
       case ha => (simp only [List.map_cons, List.map_nil, prepV, prepC, idx, hpL', lookR, Nat.reduceEqDiff, if_true, if_false]; rfl)
       case h => (first | fail)
       case' hk => simp only [e0, hlm, decide_eq_true h0, hld, hN, go_sem, Nat.reduceEqDiff, Nat.reduceAdd, Nat.reduceSub, Nat.reduceMul, Nat.reduceLT, Nat.reduceLeDiff, ↓reduceIte, reduceCtorEq, List.reduceReplicate, Int.cast_ofNat_Int, SV.ren, SV.renL, Cell.ren, Row.ren, renO, bk, back, outUpsFrom, Ints_ren])
    | (apply cl_show
       case ha => (simp only [List.map_cons, List.map_nil, prepV, prepC, idx, hpL', lookR, Nat.reduceEqDiff, if_true, if_false]; rfl)
       case hs => ((simp [snaps, SV.refs, Cell.refs, idx, hpL', lookR]) <;> (repeat' apply And.intro) <;> exact Ints_isG _)
       case h => (first | fail)
       case hg => ((simp [SV.noG, SV.noGL, Cell.noG]) <;> (repeat' apply And.intro) <;> exact Ints_noG _)
       case' hk => simp only [e0, hlm, decide_eq_true h0, hld, hN, go_sem, Nat.reduceEqDiff, Nat.reduceAdd, Nat.reduceSub, Nat.reduceMul, Nat.reduceLT, Nat.reduceLeDiff, ↓reduceIte, reduceCtorEq, List.reduceReplicate, Int.cast_ofNat_Int, SV.ren, SV.renL, Cell.ren, Row.ren, renO, bk, back, outUpsFrom, Ints_ren]))
        all_goals try omega
        refine le_mk (m, riseS ps ds m a, refS ps m (want, sm', leaf)) ?_ ⟨by simp only; omega, hst, hq3⟩ (by simp only; omega)
        rw [er]
        (refine imp_ren _ _ _ [(0, 0, ⟨Ints want, 1⟩), (1, 1, ⟨Ints (sm'.set (ps.getD m 0).toNat (sm'.getD (ps.getD m 0).toNat 0 + want.getD m 0)), 1⟩), (2, 2, ⟨Bools (leaf.set (ps.getD m 0).toNat false), 1⟩)] (by simp) (by simp) (by simp) (Nat.le_of_ble_eq_true rfl) ?_ rfl (by simp only [List.forall_mem_cons, List.not_mem_nil, false_implies, implies_true, and_true, St.hpF, lookR, Nat.reduceEqDiff, if_true, if_false, ↓reduceIte] <;> (repeat' apply And.intro) <;> (first | rfl | trivial)) (by simp only [List.forall_mem_cons, List.not_mem_nil, false_implies, implies_true, and_true, true_and, flat_cons, flat_nil, flat_ints, flat_bools, flat_app, Cell.refs, and_self, eq_self_iff_true, List.append_nil]); simp only [List.map_cons, List.map_nil, List.forall_mem_cons, List.not_mem_nil, false_implies, implies_true, and_true, lk, slot, SV.ren, Cell.ren, toN, Nat.reduceEqDiff, if_true, if_false, ↓reduceIte, reduceCtorEq])
        all_goals ((repeat' apply And.intro) <;> (first | rfl | trivial))
      · have er : refS ps m (want, sm', leaf) = (want, sm', leaf) := by unfold refS; simp only [hlm, if_true, if_neg h0]
        simp only [go_sem, Nat.reduceEqDiff, Nat.reduceAdd, Nat.reduceSub, Nat.reduceMul, Nat.reduceLT, Nat.reduceLeDiff, ↓reduceIte, reduceCtorEq, List.reduceReplicate, Int.cast_ofNat_Int, e0]
        repeat' (first
    | with_reducible refine And.intro ?_ ?_
    | (unfold OKC; kernel_rfl)
    | (apply okc_up <;> (first | ((repeat (first | exact Sub.nil | apply Sub.gfp | apply Sub.same)); done) | kernel_rfl))
    | (unfold EDG; kernel_rfl)
    | (intros; (try simp only [Bool.and_eq_true, Bool.or_eq_true, Bool.not_eq_true', Bool.not_eq_false', Bool.and_eq_false_iff, Bool.or_eq_false_iff, decide_eq_true_eq, decide_eq_false_iff_not] at *); omega)
    | (refine gt_if (fun h => ?_) (fun h => ?_) <;> (first | (simp only [h, e0, hlm, decide_eq_false h0, hld, hN, go_sem, Nat.reduceEqDiff, Nat.reduceAdd, Nat.reduceSub, Nat.reduceMul, Nat.reduceLT, Nat.reduceLeDiff, ↓reduceIte, reduceCtorEq, List.reduceReplicate, Int.cast_ofNat_Int]; done) | simp only [h, e0, hlm, decide_eq_false h0, hld, hN, go_sem, Nat.reduceEqDiff, Nat.reduceAdd, Nat.reduceSub, Nat.reduceMul, Nat.reduceLT, Nat.reduceLeDiff, ↓reduceIte, reduceCtorEq, List.reduceReplicate, Int.cast_ofNat_Int] | skip))
    | (refine pt_if (fun h => ?_) (fun h => ?_) <;> (first | (simp only [h, e0, hlm, decide_eq_false h0, hld, hN, go_sem, Nat.reduceEqDiff, Nat.reduceAdd, Nat.reduceSub, Nat.reduceMul, Nat.reduceLT, Nat.reduceLeDiff, ↓reduceIte, reduceCtorEq, List.reduceReplicate, Int.cast_ofNat_Int]; done) | simp only [h, e0, hlm, decide_eq_false h0, hld, hN, go_sem, Nat.reduceEqDiff, Nat.reduceAdd, Nat.reduceSub, Nat.reduceMul, Nat.reduceLT, Nat.reduceLeDiff, ↓reduceIte, reduceCtorEq, List.reduceReplicate, Int.cast_ofNat_Int] | skip))
    | (refine cd_if (fun h => ?_) (fun h => ?_) <;> (first | (simp only [h, e0, hlm, decide_eq_false h0, hld, hN, go_sem, Nat.reduceEqDiff, Nat.reduceAdd, Nat.reduceSub, Nat.reduceMul, Nat.reduceLT, Nat.reduceLeDiff, ↓reduceIte, reduceCtorEq, List.reduceReplicate, Int.cast_ofNat_Int]; done) | simp only [h, e0, hlm, decide_eq_false h0, hld, hN, go_sem, Nat.reduceEqDiff, Nat.reduceAdd, Nat.reduceSub, Nat.reduceMul, Nat.reduceLT, Nat.reduceLeDiff, ↓reduceIte, reduceCtorEq, List.reduceReplicate, Int.cast_ofNat_Int] | skip))
    | (apply cl_plain
       case hs => rfl
       case ha => (simp only [List.map_cons, List.map_nil, prepV, prepC, idx, hpL', lookR, Nat.reduceEqDiff, if_true, if_false]; rfl)
       case h => (first | fail)
       case' hk => simp only [e0, hlm, decide_eq_false h0, hld, hN, go_sem, Nat.reduceEqDiff, Nat.reduceAdd, Nat.reduceSub, Nat.reduceMul, Nat.reduceLT, Nat.reduceLeDiff, ↓reduceIte, reduceCtorEq, List.reduceReplicate, Int.cast_ofNat_Int, SV.ren, SV.renL, Cell.ren, Row.ren, renO, bk, back, outUpsFrom, Ints_ren])
    | (apply cl_show
       case ha => (simp only [List.map_cons, List.map_nil, prepV, prepC, idx, hpL', lookR, Nat.reduceEqDiff, if_true, if_false]; rfl)
       case hs => ((simp [snaps, SV.refs, Cell.refs, idx, hpL', lookR]) <;> (repeat' apply And.intro) <;> exact Ints_isG _)
       case h => (first | fail)
       case hg => ((simp [SV.noG, SV.noGL, Cell.noG]) <;> (repeat' apply And.intro) <;> exact Ints_noG _)
       case' hk => simp only [e0, hlm, decide_eq_false h0, hld, hN, go_sem, Nat.reduceEqDiff, Nat.reduceAdd, Nat.reduceSub, Nat.reduceMul, Nat.reduceLT, Nat.reduceLeDiff, ↓reduceIte, reduceCtorEq, List.reduceReplicate, Int.cast_ofNat_Int, SV.ren, SV.renL, Cell.ren, Row.ren, renO, bk, back, outUpsFrom, Ints_ren]))
        all_goals try omega
        refine le_mk (m, riseS ps ds m a, refS ps m (want, sm', leaf)) ?_ ⟨by simp only; omega, hst, hq3⟩ (by simp only; omega)
        rw [er]
        (refine imp_ren _ _ _ [(0, 0, ⟨Ints want, 1⟩), (1, 1, ⟨Ints sm', 1⟩), (2, 2, ⟨Bools leaf, 1⟩)] (by simp) (by simp) (by simp) (Nat.le_of_ble_eq_true rfl) ?_ rfl (by simp only [List.forall_mem_cons, List.not_mem_nil, false_implies, implies_true, and_true, St.hpF, lookR, Nat.reduceEqDiff, if_true, if_false, ↓reduceIte] <;> (repeat' apply And.intro) <;> (first | rfl | trivial)) (by simp only [List.forall_mem_cons, List.not_mem_nil, false_implies, implies_true, and_true, true_and, flat_cons, flat_nil, flat_ints, flat_bools, flat_app, Cell.refs, and_self, eq_self_iff_true, List.append_nil]); simp only [List.map_cons, List.map_nil, List.forall_mem_cons, List.not_mem_nil, false_implies, implies_true, and_true, lk, slot, SV.ren, Cell.ren, toN, Nat.reduceEqDiff, if_true, if_false, ↓reduceIte, reduceCtorEq])
        all_goals ((repeat' apply And.intro) <;> (first | rfl | trivial))
    | false =>
      have hmn : (if 65536 < sm'.getD m 0 then (65536 : Int) else sm'.getD m 0) = mn (sm'.getD m 0) := rfl
      have ew : (refS ps m (want, sm', leaf)).1.getD m 0 = (want.set m (mn (sm'.getD m 0))).getD m 0 := by unfold refS; simp only [hlm, Bool.false_eq_true, if_false]; split <;> rfl
      rw [ew] at hrel
      by_cases h0 : 0 ≤ ps.getD m 0
      · have hsp := hsp h0
        have er : refS ps m (want, sm', leaf) = (want.set m (mn (sm'.getD m 0)), sm'.set (ps.getD m 0).toNat (sm'.getD (ps.getD m 0).toNat 0 + (want.set m (mn (sm'.getD m 0))).getD m 0), leaf.set (ps.getD m 0).toNat false) := by unfold refS; simp only [hlm, Bool.false_eq_true, if_false, if_pos h0]
        simp only [go_sem, Nat.reduceEqDiff, Nat.reduceAdd, Nat.reduceSub, Nat.reduceMul, Nat.reduceLT, Nat.reduceLeDiff, ↓reduceIte, reduceCtorEq, List.reduceReplicate, Int.cast_ofNat_Int, e0]
        repeat' (first
    | with_reducible refine And.intro ?_ ?_
    | (unfold OKC; kernel_rfl)
    | (apply okc_up <;> (first | ((repeat (first | exact Sub.nil | apply Sub.gfp | apply Sub.same)); done) | kernel_rfl))
    | (unfold EDG; kernel_rfl)
    | (intros; (try simp only [Bool.and_eq_true, Bool.or_eq_true, Bool.not_eq_true', Bool.not_eq_false', Bool.and_eq_false_iff, Bool.or_eq_false_iff, decide_eq_true_eq, decide_eq_false_iff_not] at *); omega)
    | (refine gt_if (fun h => ?_) (fun h => ?_) <;> (first | (simp only [h, e0, hlm, decide_eq_true h0, hld, hN, hmn, go_sem, Nat.reduceEqDiff, Nat.reduceAdd, Nat.reduceSub, Nat.reduceMul, Nat.reduceLT, Nat.reduceLeDiff, ↓reduceIte, reduceCtorEq, List.reduceReplicate, Int.cast_ofNat_Int]; done) | simp only [h, e0, hlm, decide_eq_true h0, hld, hN, hmn, go_sem, Nat.reduceEqDiff, Nat.reduceAdd, Nat.reduceSub, Nat.reduceMul, Nat.reduceLT, Nat.reduceLeDiff, ↓reduceIte, reduceCtorEq, List.reduceReplicate, Int.cast_ofNat_Int] | skip))
    | (refine pt_if (fun h => ?_) (fun h => ?_) <;> (first | (simp only [h, e0, hlm, decide_eq_true h0, hld, hN, hmn, go_sem, Nat.reduceEqDiff, Nat.reduceAdd, Nat.reduceSub, Nat.reduceMul, Nat.reduceLT, Nat.reduceLeDiff, ↓reduceIte, reduceCtorEq, List.reduceReplicate, Int.cast_ofNat_Int]; done) | simp only [h, e0, hlm, decide_eq_true h0, hld, hN, hmn, go_sem, Nat.reduceEqDiff, Nat.reduceAdd, Nat.reduceSub, Nat.reduceMul, Nat.reduceLT, Nat.reduceLeDiff, ↓reduceIte, reduceCtorEq, List.reduceReplicate, Int.cast_ofNat_Int] | skip))
    | (refine cd_if (fun h => ?_) (fun h => ?_) <;> (first | (simp only [h, e0, hlm, decide_eq_true h0, hld, hN, hmn, go_sem, Nat.reduceEqDiff, Nat.reduceAdd, Nat.reduceSub, Nat.reduceMul, Nat.reduceLT, Nat.reduceLeDiff, ↓reduceIte, reduceCtorEq, List.reduceReplicate, Int.cast_ofNat_Int]; done) | simp only [h, e0, hlm, decide_eq_true h0, hld, hN, hmn, go_sem, Nat.reduceEqDiff, Nat.reduceAdd, Nat.reduceSub, Nat.reduceMul, Nat.reduceLT, Nat.reduceLeDiff, ↓reduceIte, reduceCtorEq, List.reduceReplicate, Int.cast_ofNat_Int] | skip))
    | (apply cl_plain
       case hs => rfl
       case ha => (simp only [List.map_cons, List.map_nil, prepV, prepC, idx, hpL', lookR, Nat.reduceEqDiff, if_true, if_false]; rfl)
       case h => (first | fail)
       case' hk => simp only [e0, hlm, decide_eq_true h0, hld, hN, hmn, go_sem, Nat.reduceEqDiff, Nat.reduceAdd, Nat.reduceSub, Nat.reduceMul, Nat.reduceLT, Nat.reduceLeDiff, ↓reduceIte, reduceCtorEq, List.reduceReplicate, Int.cast_ofNat_Int, SV.ren, SV.renL, Cell.ren, Row.ren, renO, bk, back, outUpsFrom, Ints_ren])
    | (apply cl_show
       case ha => (simp only [List.map_cons, List.map_nil, prepV, prepC, idx, hpL', lookR, Nat.reduceEqDiff, if_true, if_false]; rfl)
       case hs => ((simp [snaps, SV.refs, Cell.refs, idx, hpL', lookR]) <;> (repeat' apply And.intro) <;> exact Ints_isG _)
       case h => (first | fail)
       case hg => ((simp [SV.noG, SV.noGL, Cell.noG]) <;> (repeat' apply And.intro) <;> exact Ints_noG _)
       case' hk => simp only [e0, hlm, decide_eq_true h0, hld, hN, hmn, go_sem, Nat.reduceEqDiff, Nat.reduceAdd, Nat.reduceSub, Nat.reduceMul, Nat.reduceLT, Nat.reduceLeDiff, ↓reduceIte, reduceCtorEq, List.reduceReplicate, Int.cast_ofNat_Int, SV.ren, SV.renL, Cell.ren, Row.ren, renO, bk, back, outUpsFrom, Ints_ren]))
        all_goals try omega
        refine le_mk (m, riseS ps ds m a, refS ps m (want, sm', leaf)) ?_ ⟨by simp only; omega, hst, hq3⟩ (by simp only; omega)
        rw [er]
        (refine imp_ren _ _ _ [(0, 0, ⟨Ints (want.set m (mn (sm'.getD m 0))), 1⟩), (1, 1, ⟨Ints (sm'.set (ps.getD m 0).toNat (sm'.getD (ps.getD m 0).toNat 0 + (want.set m (mn (sm'.getD m 0))).getD m 0)), 1⟩), (2, 2, ⟨Bools (leaf.set (ps.getD m 0).toNat false), 1⟩)] (by simp) (by simp) (by simp) (Nat.le_of_ble_eq_true rfl) ?_ rfl (by simp only [List.forall_mem_cons, List.not_mem_nil, false_implies, implies_true, and_true, St.hpF, lookR, Nat.reduceEqDiff, if_true, if_false, ↓reduceIte] <;> (repeat' apply And.intro) <;> (first | rfl | trivial)) (by simp only [List.forall_mem_cons, List.not_mem_nil, false_implies, implies_true, and_true, true_and, flat_cons, flat_nil, flat_ints, flat_bools, flat_app, Cell.refs, and_self, eq_self_iff_true, List.append_nil]); simp only [List.map_cons, List.map_nil, List.forall_mem_cons, List.not_mem_nil, false_implies, implies_true, and_true, lk, slot, SV.ren, Cell.ren, toN, Nat.reduceEqDiff, if_true, if_false, ↓reduceIte, reduceCtorEq])
        all_goals ((repeat' apply And.intro) <;> (first | rfl | trivial))
      · have er : refS ps m (want, sm', leaf) = (want.set m (mn (sm'.getD m 0)), sm', leaf) := by unfold refS; simp only [hlm, Bool.false_eq_true, if_false, if_neg h0]
        simp only [go_sem, Nat.reduceEqDiff, Nat.reduceAdd, Nat.reduceSub, Nat.reduceMul, Nat.reduceLT, Nat.reduceLeDiff, ↓reduceIte, reduceCtorEq, List.reduceReplicate, Int.cast_ofNat_Int, e0]
        repeat' (first
    | with_reducible refine And.intro ?_ ?_
    | (unfold OKC; kernel_rfl)
    | (apply okc_up <;> (first | ((repeat (first | exact Sub.nil | apply Sub.gfp | apply Sub.same)); done) | kernel_rfl))
    | (unfold EDG; kernel_rfl)
    | (intros; (try simp only [Bool.and_eq_true, Bool.or_eq_true, Bool.not_eq_true', Bool.not_eq_false', Bool.and_eq_false_iff, Bool.or_eq_false_iff, decide_eq_true_eq, decide_eq_false_iff_not] at *); omega)
    | (refine gt_if (fun h => ?_) (fun h => ?_) <;> (first | (simp only [h, e0, hlm, decide_eq_false h0, hld, hN, hmn, go_sem, Nat.reduceEqDiff, Nat.reduceAdd, Nat.reduceSub, Nat.reduceMul, Nat.reduceLT, Nat.reduceLeDiff, ↓reduceIte, reduceCtorEq, List.reduceReplicate, Int.cast_ofNat_Int]; done) | simp only [h, e0, hlm, decide_eq_false h0, hld, hN, hmn, go_sem, Nat.reduceEqDiff, Nat.reduceAdd, Nat.reduceSub, Nat.reduceMul, Nat.reduceLT, Nat.reduceLeDiff, ↓reduceIte, reduceCtorEq, List.reduceReplicate, Int.cast_ofNat_Int] | skip))
    | (refine pt_if (fun h => ?_) (fun h => ?_) <;> (first | (simp only [h, e0, hlm, decide_eq_false h0, hld, hN, hmn, go_sem, Nat.reduceEqDiff, Nat.reduceAdd, Nat.reduceSub, Nat.reduceMul, Nat.reduceLT, Nat.reduceLeDiff, ↓reduceIte, reduceCtorEq, List.reduceReplicate, Int.cast_ofNat_Int]; done) | simp only [h, e0, hlm, decide_eq_false h0, hld, hN, hmn, go_sem, Nat.reduceEqDiff, Nat.reduceAdd, Nat.reduceSub, Nat.reduceMul, Nat.reduceLT, Nat.reduceLeDiff, ↓reduceIte, reduceCtorEq, List.reduceReplicate, Int.cast_ofNat_Int] | skip))
    | (refine cd_if (fun h => ?_) (fun h => ?_) <;> (first | (simp only [h, e0, hlm, decide_eq_false h0, hld, hN, hmn, go_sem, Nat.reduceEqDiff, Nat.reduceAdd, Nat.reduceSub, Nat.reduceMul, Nat.reduceLT, Nat.reduceLeDiff, ↓reduceIte, reduceCtorEq, List.reduceReplicate, Int.cast_ofNat_Int]; done) | simp only [h, e0, hlm, decide_eq_false h0, hld, hN, hmn, go_sem, Nat.reduceEqDiff, Nat.reduceAdd, Nat.reduceSub, Nat.reduceMul, Nat.reduceLT, Nat.reduceLeDiff, ↓reduceIte, reduceCtorEq, List.reduceReplicate, Int.cast_ofNat_Int] | skip))
    | (apply cl_plain
       case hs => rfl
       case ha => (simp only [List.map_cons, List.map_nil, prepV, prepC, idx, hpL', lookR, Nat.reduceEqDiff, if_true, if_false]; rfl)
       case h => (first | fail)
       case' hk => simp only [e0, hlm, decide_eq_false h0, hld, hN, hmn, go_sem, Nat.reduceEqDiff, Nat.reduceAdd, Nat.reduceSub, Nat.reduceMul, Nat.reduceLT, Nat.reduceLeDiff, ↓reduceIte, reduceCtorEq, List.reduceReplicate, Int.cast_ofNat_Int, SV.ren, SV.renL, Cell.ren, Row.ren, renO, bk, back, outUpsFrom, Ints_ren])
    | (apply cl_show
       case ha => (simp only [List.map_cons, List.map_nil, prepV, prepC, idx, hpL', lookR, Nat.reduceEqDiff, if_true, if_false]; rfl)
       case hs => ((simp [snaps, SV.refs, Cell.refs, idx, hpL', lookR]) <;> (repeat' apply And.intro) <;> exact Ints_isG _)
       case h => (first | fail)
       case hg => ((simp [SV.noG, SV.noGL, Cell.noG]) <;> (repeat' apply And.intro) <;> exact Ints_noG _)
       case' hk => simp only [e0, hlm, decide_eq_false h0, hld, hN, hmn, go_sem, Nat.reduceEqDiff, Nat.reduceAdd, Nat.reduceSub, Nat.reduceMul, Nat.reduceLT, Nat.reduceLeDiff, ↓reduceIte, reduceCtorEq, List.reduceReplicate, Int.cast_ofNat_Int, SV.ren, SV.renL, Cell.ren, Row.ren, renO, bk, back, outUpsFrom, Ints_ren]))
        all_goals try omega
        refine le_mk (m, riseS ps ds m a, refS ps m (want, sm', leaf)) ?_ ⟨by simp only; omega, hst, hq3⟩ (by simp only; omega)
        rw [er]
        (refine imp_ren _ _ _ [(0, 0, ⟨Ints (want.set m (mn (sm'.getD m 0))), 1⟩), (1, 1, ⟨Ints sm', 1⟩), (2, 2, ⟨Bools leaf, 1⟩)] (by simp) (by simp) (by simp) (Nat.le_of_ble_eq_true rfl) ?_ rfl (by simp only [List.forall_mem_cons, List.not_mem_nil, false_implies, implies_true, and_true, St.hpF, lookR, Nat.reduceEqDiff, if_true, if_false, ↓reduceIte] <;> (repeat' apply And.intro) <;> (first | rfl | trivial)) (by simp only [List.forall_mem_cons, List.not_mem_nil, false_implies, implies_true, and_true, true_and, flat_cons, flat_nil, flat_ints, flat_bools, flat_app, Cell.refs, and_self, eq_self_iff_true, List.append_nil]); simp only [List.map_cons, List.map_nil, List.forall_mem_cons, List.not_mem_nil, false_implies, implies_true, and_true, lk, slot, SV.ren, Cell.ren, toN, Nat.reduceEqDiff, if_true, if_false, ↓reduceIte, reduceCtorEq])
        all_goals ((repeat' apply And.intro) <;> (first | rfl | trivial))
  | zero =>
    have ew : want = riseW ps ds := by
      have e1 : a = riseL ps ds i (List.replicate i 0, List.replicate i false) := q3
      have e2 : riseW ps ds = a.1 := by rw [e1]; unfold riseW; rw [hld]
      rw [e2]
      refine ext_getD (by rw [q2.l1]; exact q2.l3) fun j hj => ?_
      exact (q2.hi j (Nat.zero_le _) (by rw [← q2.l3]; exact hj)).symm
    subst ew
    simp only [go_sem, Nat.reduceEqDiff, Nat.reduceAdd, Nat.reduceSub, Nat.reduceMul, Nat.reduceLT, Nat.reduceLeDiff, ↓reduceIte, reduceCtorEq, List.reduceReplicate, Int.cast_ofNat_Int]
    repeat' (first
    | with_reducible refine And.intro ?_ ?_
    | (unfold OKC; kernel_rfl)
    | (apply okc_up <;> (first | ((repeat (first | exact Sub.nil | apply Sub.gfp | apply Sub.same)); done) | kernel_rfl))
    | (unfold EDG; kernel_rfl)
    | (intros; (try simp only [Bool.and_eq_true, Bool.or_eq_true, Bool.not_eq_true', Bool.not_eq_false', Bool.and_eq_false_iff, Bool.or_eq_false_iff, decide_eq_true_eq, decide_eq_false_iff_not] at *); omega)
    | (refine gt_if (fun h => ?_) (fun h => ?_) <;> (first | (simp only [h, go_sem, Nat.reduceEqDiff, Nat.reduceAdd, Nat.reduceSub, Nat.reduceMul, Nat.reduceLT, Nat.reduceLeDiff, ↓reduceIte, reduceCtorEq, List.reduceReplicate, Int.cast_ofNat_Int]; done) | simp only [h, go_sem, Nat.reduceEqDiff, Nat.reduceAdd, Nat.reduceSub, Nat.reduceMul, Nat.reduceLT, Nat.reduceLeDiff, ↓reduceIte, reduceCtorEq, List.reduceReplicate, Int.cast_ofNat_Int] | skip))
    | (refine pt_if (fun h => ?_) (fun h => ?_) <;> (first | (simp only [h, go_sem, Nat.reduceEqDiff, Nat.reduceAdd, Nat.reduceSub, Nat.reduceMul, Nat.reduceLT, Nat.reduceLeDiff, ↓reduceIte, reduceCtorEq, List.reduceReplicate, Int.cast_ofNat_Int]; done) | simp only [h, go_sem, Nat.reduceEqDiff, Nat.reduceAdd, Nat.reduceSub, Nat.reduceMul, Nat.reduceLT, Nat.reduceLeDiff, ↓reduceIte, reduceCtorEq, List.reduceReplicate, Int.cast_ofNat_Int] | skip))
    | (refine cd_if (fun h => ?_) (fun h => ?_) <;> (first | (simp only [h, go_sem, Nat.reduceEqDiff, Nat.reduceAdd, Nat.reduceSub, Nat.reduceMul, Nat.reduceLT, Nat.reduceLeDiff, ↓reduceIte, reduceCtorEq, List.reduceReplicate, Int.cast_ofNat_Int]; done) | simp only [h, go_sem, Nat.reduceEqDiff, Nat.reduceAdd, Nat.reduceSub, Nat.reduceMul, Nat.reduceLT, Nat.reduceLeDiff, ↓reduceIte, reduceCtorEq, List.reduceReplicate, Int.cast_ofNat_Int] | skip))
    | (apply cl_plain
       case hs => rfl
       case ha => (simp only [List.map_cons, List.map_nil, prepV, prepC, idx, hpL', lookR, Nat.reduceEqDiff, if_true, if_false]; rfl)
       case h => (first | fail)
       case' hk => simp only [go_sem, Nat.reduceEqDiff, Nat.reduceAdd, Nat.reduceSub, Nat.reduceMul, Nat.reduceLT, Nat.reduceLeDiff, ↓reduceIte, reduceCtorEq, List.reduceReplicate, Int.cast_ofNat_Int, SV.ren, SV.renL, Cell.ren, Row.ren, renO, bk, back, outUpsFrom, Ints_ren])
    | (apply cl_show
       case ha => (simp only [List.map_cons, List.map_nil, prepV, prepC, idx, hpL', lookR, Nat.reduceEqDiff, if_true, if_false]; rfl)
       case hs => ((simp [snaps, SV.refs, Cell.refs, idx, hpL', lookR]) <;> (repeat' apply And.intro) <;> exact Ints_isG _)
       case h => (first | fail)
       case hg => ((simp [SV.noG, SV.noGL, Cell.noG]) <;> (repeat' apply And.intro) <;> exact Ints_noG _)
       case' hk => simp only [go_sem, Nat.reduceEqDiff, Nat.reduceAdd, Nat.reduceSub, Nat.reduceMul, Nat.reduceLT, Nat.reduceLeDiff, ↓reduceIte, reduceCtorEq, List.reduceReplicate, Int.cast_ofNat_Int, SV.ren, SV.renL, Cell.ren, Row.ren, renO, bk, back, outUpsFrom, Ints_ren]))
    generalize riseW ps ds = wt at *
    have hps := fun (p v : Int) (h : 0 ≤ v ∧ v ≤ 65536) => pass_valid (ps := ps) (ws := ws) (wt := wt) (p := p) h (by omega) (by rw [hN]; exact hw) hWr
    have htl := treeN_len ps ws wt u
    have htr := treeN_rng (ps := ps) (ws := ws) (wt := wt) hu (by omega) (by rw [hN]; exact hw) hWr
    have hsl : ∀ j, (stN ps ws wt u j).length = i := fun j => by
      cases j with
      | zero => simp [stN, hN]
      | succ j => rw [stN, htl, hN]
    refine w_loop (ι := Nat) (fun j => ⟨[(17, i1 ((j : Int) - 1)), (16, .one (.osl 1 0 i (some i))), (10, .one (.osl 0 0 i none)), (9, i1 i), (0, i1 u), (1, gi ps c), (2, gi ws d)], [(0, some ⟨Ints wt, 1⟩), (1, some ⟨Ints (stN ps ws wt u j), 1⟩)], 2⟩) (fun j => j ≤ i + 1) (fun j => i + 1 - j) 0 ?_ (Nat.zero_le _) ?_
    · (refine imp_ren _ _ _ [(0, 0, ⟨Ints wt, 1⟩), (1, 6, ⟨Ints (stN ps ws wt u 0), 1⟩)] (by simp) (by simp) (by simp) (Nat.le_of_ble_eq_true rfl) ?_ rfl (by simp only [List.forall_mem_cons, List.not_mem_nil, false_implies, implies_true, and_true, St.hpF, lookR, Nat.reduceEqDiff, if_true, if_false, ↓reduceIte, stN, hN] <;> (repeat' apply And.intro) <;> (first | rfl | trivial)) (by simp only [List.forall_mem_cons, List.not_mem_nil, false_implies, implies_true, and_true, true_and, flat_cons, flat_nil, flat_ints, flat_bools, flat_app, Cell.refs, and_self, eq_self_iff_true, List.append_nil, stN, hN]); simp only [List.map_cons, List.map_nil, List.forall_mem_cons, List.not_mem_nil, false_implies, implies_true, and_true, lk, slot, SV.ren, Cell.ren, toN, Nat.reduceEqDiff, if_true, if_false, ↓reduceIte, reduceCtorEq])
      all_goals ((repeat' apply And.intro) <;> (first | rfl | trivial))
    intro j hj
    have hj1 := hsl j
    rcases Nat.lt_or_ge j (i + 1) with hlt | hge
    case inr =>
      have hjn : ¬ (j : Int) - 1 < i := by omega
      rw [show i + 1 = j by omega]
      simp only [go_sem, Nat.reduceEqDiff, Nat.reduceAdd, Nat.reduceSub, Nat.reduceMul, Nat.reduceLT, Nat.reduceLeDiff, ↓reduceIte, reduceCtorEq, List.reduceReplicate, Int.cast_ofNat_Int, decide_eq_false hjn]
      repeat' (first
    | with_reducible refine And.intro ?_ ?_
    | (unfold OKC; kernel_rfl)
    | (apply okc_up <;> (first | ((repeat (first | exact Sub.nil | apply Sub.gfp | apply Sub.same)); done) | kernel_rfl))
    | (unfold EDG; kernel_rfl)
    | (intros; (try simp only [Bool.and_eq_true, Bool.or_eq_true, Bool.not_eq_true', Bool.not_eq_false', Bool.and_eq_false_iff, Bool.or_eq_false_iff, decide_eq_true_eq, decide_eq_false_iff_not] at *); omega)
    | (refine gt_if (fun h => ?_) (fun h => ?_) <;> (first | (simp only [h, go_sem, Nat.reduceEqDiff, Nat.reduceAdd, Nat.reduceSub, Nat.reduceMul, Nat.reduceLT, Nat.reduceLeDiff, ↓reduceIte, reduceCtorEq, List.reduceReplicate, Int.cast_ofNat_Int]; done) | simp only [h, go_sem, Nat.reduceEqDiff, Nat.reduceAdd, Nat.reduceSub, Nat.reduceMul, Nat.reduceLT, Nat.reduceLeDiff, ↓reduceIte, reduceCtorEq, List.reduceReplicate, Int.cast_ofNat_Int] | skip))
    | (refine pt_if (fun h => ?_) (fun h => ?_) <;> (first | (simp only [h, go_sem, Nat.reduceEqDiff, Nat.reduceAdd, Nat.reduceSub, Nat.reduceMul, Nat.reduceLT, Nat.reduceLeDiff, ↓reduceIte, reduceCtorEq, List.reduceReplicate, Int.cast_ofNat_Int]; done) | simp only [h, go_sem, Nat.reduceEqDiff, Nat.reduceAdd, Nat.reduceSub, Nat.reduceMul, Nat.reduceLT, Nat.reduceLeDiff, ↓reduceIte, reduceCtorEq, List.reduceReplicate, Int.cast_ofNat_Int] | skip))
    | (refine cd_if (fun h => ?_) (fun h => ?_) <;> (first | (simp only [h, go_sem, Nat.reduceEqDiff, Nat.reduceAdd, Nat.reduceSub, Nat.reduceMul, Nat.reduceLT, Nat.reduceLeDiff, ↓reduceIte, reduceCtorEq, List.reduceReplicate, Int.cast_ofNat_Int]; done) | simp only [h, go_sem, Nat.reduceEqDiff, Nat.reduceAdd, Nat.reduceSub, Nat.reduceMul, Nat.reduceLT, Nat.reduceLeDiff, ↓reduceIte, reduceCtorEq, List.reduceReplicate, Int.cast_ofNat_Int] | skip))
    | (apply cl_plain
       case hs => rfl
       case ha => (simp only [List.map_cons, List.map_nil, prepV, prepC, idx, hpL', lookR, Nat.reduceEqDiff, if_true, if_false]; rfl)
       case h => (first | fail)
       case' hk => simp only [go_sem, Nat.reduceEqDiff, Nat.reduceAdd, Nat.reduceSub, Nat.reduceMul, Nat.reduceLT, Nat.reduceLeDiff, ↓reduceIte, reduceCtorEq, List.reduceReplicate, Int.cast_ofNat_Int, SV.ren, SV.renL, Cell.ren, Row.ren, renO, bk, back, outUpsFrom, Ints_ren])
    | (apply cl_show
       case ha => (simp only [List.map_cons, List.map_nil, prepV, prepC, idx, hpL', lookR, Nat.reduceEqDiff, if_true, if_false]; rfl)
       case hs => ((simp [snaps, SV.refs, Cell.refs, idx, hpL', lookR]) <;> (repeat' apply And.intro) <;> exact Ints_isG _)
       case h => (first | fail)
       case hg => ((simp [SV.noG, SV.noGL, Cell.noG]) <;> (repeat' apply And.intro) <;> exact Ints_noG _)
       case' hk => simp only [go_sem, Nat.reduceEqDiff, Nat.reduceAdd, Nat.reduceSub, Nat.reduceMul, Nat.reduceLT, Nat.reduceLeDiff, ↓reduceIte, reduceCtorEq, List.reduceReplicate, Int.cast_ofNat_Int, SV.ren, SV.renL, Cell.ren, Row.ren, renO, bk, back, outUpsFrom, Ints_ren]))
      (refine fs_ints [(1, stN ps ws wt u j)] (by simp) (by simp) (by simp only [go_sem, resV, resS, SV.ren, SV.renL, Cell.ren, St.tmF, St.hpF, idx, renO, Row.ren, evS, slot, lookR, Nat.reduceEqDiff, ↓reduceIte, reduceCtorEq, if_true, if_false, Option.getD_some, Option.getD_none, List.map_cons, List.map_nil, sLoad, readAt, readNeed, Ints_ren, Ints_length, Ints_getD, and_true, true_and, List.getD_cons_zero, List.getD_cons_succ]) ?_ (by simp only [List.forall_mem_cons, List.not_mem_nil, false_implies, implies_true, and_true, St.hpF, lookR, Nat.reduceEqDiff, if_true, if_false, ↓reduceIte]) ?_ <;> (try simp only [go_sem, resV, resS, SV.ren, SV.renL, Cell.ren, St.tmF, St.hpF, idx, renO, Row.ren, evS, slot, lookR, Nat.reduceEqDiff, ↓reduceIte, reduceCtorEq, if_true, if_false, Option.getD_some, Option.getD_none, List.map_cons, List.map_nil, sLoad, readAt, readNeed, Ints_ren, Ints_length, Ints_getD, and_true, true_and, List.getD_cons_zero, List.getD_cons_succ]) <;> (try rfl))
    have hjn : (j : Int) - 1 < i := by omega
    obtain ⟨v, hv0, hvr, hst⟩ : ∃ v : Int, (v = if 0 ≤ (j : Int) - 1 then (stN ps ws wt u j).getD ((j : Int) - 1).toNat 0 else u) ∧ (0 ≤ v ∧ v ≤ 65536) ∧ stN ps ws wt u (j + 1) = passF ps ws wt ((j : Int) - 1) v (stN ps ws wt u j) := by
      cases j with
      | zero => refine ⟨u, by rw [if_neg (by omega)], hu, ?_⟩; simp only [stN, treeN, hN]; rfl
      | succ k =>
        have e : ((k + 1 : Nat) : Int) - 1 = k := by omega
        rw [e]
        refine ⟨(treeN ps ws wt u k).getD k 0, ?_, htr k k, rfl⟩
        rw [if_pos (by omega)]; rfl
    have hkp : kids ps ((j : Int) - 1) i = kids ps ((j : Int) - 1) ps.length := by rw [hN]
    have hPF : passF ps ws wt ((j : Int) - 1) v (stN ps ws wt u j) = putN (kids ps ((j : Int) - 1) i) (passD ps ws wt ((j : Int) - 1) v) (stN ps ws wt u j) (kids ps ((j : Int) - 1) i).length := by rw [hkp]; rfl
    have hdv := rdivide_spec v (kV ws (kids ps ((j : Int) - 1) i)) (kV wt (kids ps ((j : Int) - 1) i)) none none (by rw [hkp]; exact hps _ v hvr)
    have hXe : divN (kV ws (kids ps ((j : Int) - 1) i)) (kV wt (kids ps ((j : Int) - 1) i)) v.toNat = passD ps ws wt ((j : Int) - 1) v := by rw [hkp]; rfl
    rw [hXe] at hdv
    have hXl := passD_len ps ws wt ((j : Int) - 1) v
    rw [← hkp] at hXl
    generalize passD ps ws wt ((j : Int) - 1) v = X at *
    generalize hO : stN ps ws wt u j = O at *
    have hv1 : 0 ≤ (j : Int) - 1 → v = O.getD ((j : Int) - 1).toNat 0 := fun h => by rw [hv0, if_pos h]
    have hv2 : ¬ 0 ≤ (j : Int) - 1 → v = u := fun h => by rw [hv0, if_neg h]
    have hpr : -1 ≤ (j : Int) - 1 := by omega
    generalize hp' : (j : Int) - 1 = p at *
    clear hv0
    rcases Int.lt_or_le p 0 with hp0 | hp0
    · have hp1 : ¬ 0 ≤ p := by omega
      have hvu := hv2 hp1
      subst hvu
      simp only [go_sem, Nat.reduceEqDiff, Nat.reduceAdd, Nat.reduceSub, Nat.reduceMul, Nat.reduceLT, Nat.reduceLeDiff, ↓reduceIte, reduceCtorEq, List.reduceReplicate, Int.cast_ofNat_Int, decide_eq_true hjn, decide_eq_false hp1]
      repeat' (first
    | with_reducible refine And.intro ?_ ?_
    | (unfold OKC; kernel_rfl)
    | (apply okc_up <;> (first | ((repeat (first | exact Sub.nil | apply Sub.gfp | apply Sub.same)); done) | kernel_rfl))
    | (unfold EDG; kernel_rfl)
    | (intros; (try simp only [Bool.and_eq_true, Bool.or_eq_true, Bool.not_eq_true', Bool.not_eq_false', Bool.and_eq_false_iff, Bool.or_eq_false_iff, decide_eq_true_eq, decide_eq_false_iff_not] at *); omega)
    | (refine gt_if (fun h => ?_) (fun h => ?_) <;> (first | (simp only [h, decide_eq_false hp1, hO, go_sem, Nat.reduceEqDiff, Nat.reduceAdd, Nat.reduceSub, Nat.reduceMul, Nat.reduceLT, Nat.reduceLeDiff, ↓reduceIte, reduceCtorEq, List.reduceReplicate, Int.cast_ofNat_Int]; done) | simp only [h, decide_eq_false hp1, hO, go_sem, Nat.reduceEqDiff, Nat.reduceAdd, Nat.reduceSub, Nat.reduceMul, Nat.reduceLT, Nat.reduceLeDiff, ↓reduceIte, reduceCtorEq, List.reduceReplicate, Int.cast_ofNat_Int] | skip))
    | (refine pt_if (fun h => ?_) (fun h => ?_) <;> (first | (simp only [h, decide_eq_false hp1, hO, go_sem, Nat.reduceEqDiff, Nat.reduceAdd, Nat.reduceSub, Nat.reduceMul, Nat.reduceLT, Nat.reduceLeDiff, ↓reduceIte, reduceCtorEq, List.reduceReplicate, Int.cast_ofNat_Int]; done) | simp only [h, decide_eq_false hp1, hO, go_sem, Nat.reduceEqDiff, Nat.reduceAdd, Nat.reduceSub, Nat.reduceMul, Nat.reduceLT, Nat.reduceLeDiff, ↓reduceIte, reduceCtorEq, List.reduceReplicate, Int.cast_ofNat_Int] | skip))
    | (refine cd_if (fun h => ?_) (fun h => ?_) <;> (first | (simp only [h, decide_eq_false hp1, hO, go_sem, Nat.reduceEqDiff, Nat.reduceAdd, Nat.reduceSub, Nat.reduceMul, Nat.reduceLT, Nat.reduceLeDiff, ↓reduceIte, reduceCtorEq, List.reduceReplicate, Int.cast_ofNat_Int]; done) | simp only [h, decide_eq_false hp1, hO, go_sem, Nat.reduceEqDiff, Nat.reduceAdd, Nat.reduceSub, Nat.reduceMul, Nat.reduceLT, Nat.reduceLeDiff, ↓reduceIte, reduceCtorEq, List.reduceReplicate, Int.cast_ofNat_Int] | skip))
    | (apply cl_plain
       case hs => rfl
       case ha => (simp only [List.map_cons, List.map_nil, prepV, prepC, idx, hpL', lookR, Nat.reduceEqDiff, if_true, if_false]; rfl)
       case h => (first | fail)
       case' hk => simp only [decide_eq_false hp1, hO, go_sem, Nat.reduceEqDiff, Nat.reduceAdd, Nat.reduceSub, Nat.reduceMul, Nat.reduceLT, Nat.reduceLeDiff, ↓reduceIte, reduceCtorEq, List.reduceReplicate, Int.cast_ofNat_Int, SV.ren, SV.renL, Cell.ren, Row.ren, renO, bk, back, outUpsFrom, Ints_ren])
    | (apply cl_show
       case ha => (simp only [List.map_cons, List.map_nil, prepV, prepC, idx, hpL', lookR, Nat.reduceEqDiff, if_true, if_false]; rfl)
       case hs => ((simp [snaps, SV.refs, Cell.refs, idx, hpL', lookR]) <;> (repeat' apply And.intro) <;> exact Ints_isG _)
       case h => (first | fail)
       case hg => ((simp [SV.noG, SV.noGL, Cell.noG]) <;> (repeat' apply And.intro) <;> exact Ints_noG _)
       case' hk => simp only [decide_eq_false hp1, hO, go_sem, Nat.reduceEqDiff, Nat.reduceAdd, Nat.reduceSub, Nat.reduceMul, Nat.reduceLT, Nat.reduceLeDiff, ↓reduceIte, reduceCtorEq, List.reduceReplicate, Int.cast_ofNat_Int, SV.ren, SV.renL, Cell.ren, Row.ren, renO, bk, back, outUpsFrom, Ints_ren]))
      refine w_loop (ι := Nat) (fun q => ⟨[(22, i1 q), (21, .one (.osl 4 0 (kids ps p q).length none)), (20, .one (.osl 3 0 (kids ps p q).length none)), (19, .one (.osl 2 0 (kids ps p q).length none)), (18, i1 v), (17, i1 p), (16, .one (.osl 1 0 i (some i))), (10, .one (.osl 0 0 i none)), (9, i1 i), (0, i1 v), (1, gi ps c), (2, gi ws d)], [(0, some ⟨Ints wt, 1⟩), (1, some ⟨Ints O, 1⟩), (2, some ⟨Ints (kI (kids ps p q)), 1⟩), (3, some ⟨Ints (kV ws (kids ps p q)), 1⟩), (4, some ⟨Ints (kV wt (kids ps p q)), 1⟩)], 5⟩) (fun q => q ≤ i) (fun q => i - q) 0 ?_ (Nat.zero_le _) ?_
      · refine Imp.trans (imp_nil _ _ 19 1 rfl) (Imp.trans (imp_nil _ _ 20 1 rfl) (Imp.trans (imp_nil _ _ 21 1 rfl) ?_))
        (refine imp_ren _ _ _ [(0, 0, ⟨Ints wt, 1⟩), (1, 1, ⟨Ints O, 1⟩), (2, 13, ⟨Ints [], 1⟩), (3, 14, ⟨Ints [], 1⟩), (4, 15, ⟨Ints [], 1⟩)] (by simp) (by simp) (by simp) (Nat.le_of_ble_eq_true rfl) ?_ rfl (by simp only [List.forall_mem_cons, List.not_mem_nil, false_implies, implies_true, and_true, St.hpF, lookR, Nat.reduceEqDiff, if_true, if_false, ↓reduceIte] <;> (repeat' apply And.intro) <;> (first | rfl | trivial)) (by simp only [List.forall_mem_cons, List.not_mem_nil, false_implies, implies_true, and_true, true_and, flat_cons, flat_nil, flat_ints, flat_bools, flat_app, Cell.refs, and_self, eq_self_iff_true, List.append_nil]); simp only [List.map_cons, List.map_nil, List.forall_mem_cons, List.not_mem_nil, false_implies, implies_true, and_true, lk, slot, SV.ren, Cell.ren, toN, Nat.reduceEqDiff, if_true, if_false, ↓reduceIte, reduceCtorEq])
        all_goals ((repeat' apply And.intro) <;> (first | rfl | trivial))
      intro q hq
      have hk := kids_len ps p q
      have l1 : (kI (kids ps p q)).length = (kids ps p q).length := by simp [kI]
      have l2 : (kV ws (kids ps p q)).length = (kids ps p q).length := by simp [kV]
      have l3 : (kV wt (kids ps p q)).length = (kids ps p q).length := by simp [kV]
      have t1 : List.take (kids ps p q).length (kI (kids ps p q)) = kI (kids ps p q) := List.take_of_length_le (by omega)
      have t2 : List.take (kids ps p q).length (kV ws (kids ps p q)) = kV ws (kids ps p q) := List.take_of_length_le (by omega)
      have t3 : List.take (kids ps p q).length (kV wt (kids ps p q)) = kV wt (kids ps p q) := List.take_of_length_le (by omega)
      rcases Nat.lt_or_ge q i with hlt' | hge
      · have hlt2 : (q : Int) < i := by omega
        by_cases hpq : ps.getD q 0 = p
        · have ek : kids ps p (q + 1) = kids ps p q ++ [q] := by rw [kids, if_pos hpq]
          have f1 : kI (kids ps p (q + 1)) = kI (kids ps p q) ++ [(q : Int)] := by rw [ek]; simp [kI]
          have f2 : kV ws (kids ps p (q + 1)) = kV ws (kids ps p q) ++ [ws.getD q 0] := by rw [ek]; simp [kV]
          have f3 : kV wt (kids ps p (q + 1)) = kV wt (kids ps p q) ++ [wt.getD q 0] := by rw [ek]; simp [kV]
          simp only [go_sem, Nat.reduceEqDiff, Nat.reduceAdd, Nat.reduceSub, Nat.reduceMul, Nat.reduceLT, Nat.reduceLeDiff, ↓reduceIte, reduceCtorEq, List.reduceReplicate, Int.cast_ofNat_Int, decide_eq_true hlt2, decide_eq_true hpq]
          repeat' (first
    | with_reducible refine And.intro ?_ ?_
    | (unfold OKC; kernel_rfl)
    | (apply okc_up <;> (first | ((repeat (first | exact Sub.nil | apply Sub.gfp | apply Sub.same)); done) | kernel_rfl))
    | (unfold EDG; kernel_rfl)
    | (intros; (try simp only [Bool.and_eq_true, Bool.or_eq_true, Bool.not_eq_true', Bool.not_eq_false', Bool.and_eq_false_iff, Bool.or_eq_false_iff, decide_eq_true_eq, decide_eq_false_iff_not] at *); omega)
    | (refine gt_if (fun h => ?_) (fun h => ?_) <;> (first | (simp only [h, decide_eq_true hpq, t1, t2, t3, l1, l2, l3, hN, go_sem, Nat.reduceEqDiff, Nat.reduceAdd, Nat.reduceSub, Nat.reduceMul, Nat.reduceLT, Nat.reduceLeDiff, ↓reduceIte, reduceCtorEq, List.reduceReplicate, Int.cast_ofNat_Int]; done) | simp only [h, decide_eq_true hpq, t1, t2, t3, l1, l2, l3, hN, go_sem, Nat.reduceEqDiff, Nat.reduceAdd, Nat.reduceSub, Nat.reduceMul, Nat.reduceLT, Nat.reduceLeDiff, ↓reduceIte, reduceCtorEq, List.reduceReplicate, Int.cast_ofNat_Int] | skip))
    | (refine pt_if (fun h => ?_) (fun h => ?_) <;> (first | (simp only [h, decide_eq_true hpq, t1, t2, t3, l1, l2, l3, hN, go_sem, Nat.reduceEqDiff, Nat.reduceAdd, Nat.reduceSub, Nat.reduceMul, Nat.reduceLT, Nat.reduceLeDiff, ↓reduceIte, reduceCtorEq, List.reduceReplicate, Int.cast_ofNat_Int]; done) | simp only [h, decide_eq_true hpq, t1, t2, t3, l1, l2, l3, hN, go_sem, Nat.reduceEqDiff, Nat.reduceAdd, Nat.reduceSub, Nat.reduceMul, Nat.reduceLT, Nat.reduceLeDiff, ↓reduceIte, reduceCtorEq, List.reduceReplicate, Int.cast_ofNat_Int] | skip))
    | (refine cd_if (fun h => ?_) (fun h => ?_) <;> (first | (simp only [h, decide_eq_true hpq, t1, t2, t3, l1, l2, l3, hN, go_sem, Nat.reduceEqDiff, Nat.reduceAdd, Nat.reduceSub, Nat.reduceMul, Nat.reduceLT, Nat.reduceLeDiff, ↓reduceIte, reduceCtorEq, List.reduceReplicate, Int.cast_ofNat_Int]; done) | simp only [h, decide_eq_true hpq, t1, t2, t3, l1, l2, l3, hN, go_sem, Nat.reduceEqDiff, Nat.reduceAdd, Nat.reduceSub, Nat.reduceMul, Nat.reduceLT, Nat.reduceLeDiff, ↓reduceIte, reduceCtorEq, List.reduceReplicate, Int.cast_ofNat_Int] | skip))
    | (apply cl_plain
       case hs => rfl
       case ha => (simp only [List.map_cons, List.map_nil, prepV, prepC, idx, hpL', lookR, Nat.reduceEqDiff, if_true, if_false]; rfl)
       case h => (first | fail)
       case' hk => simp only [decide_eq_true hpq, t1, t2, t3, l1, l2, l3, hN, go_sem, Nat.reduceEqDiff, Nat.reduceAdd, Nat.reduceSub, Nat.reduceMul, Nat.reduceLT, Nat.reduceLeDiff, ↓reduceIte, reduceCtorEq, List.reduceReplicate, Int.cast_ofNat_Int, SV.ren, SV.renL, Cell.ren, Row.ren, renO, bk, back, outUpsFrom, Ints_ren])
    | (apply cl_show
       case ha => (simp only [List.map_cons, List.map_nil, prepV, prepC, idx, hpL', lookR, Nat.reduceEqDiff, if_true, if_false]; rfl)
       case hs => ((simp [snaps, SV.refs, Cell.refs, idx, hpL', lookR]) <;> (repeat' apply And.intro) <;> exact Ints_isG _)
       case h => (first | fail)
       case hg => ((simp [SV.noG, SV.noGL, Cell.noG]) <;> (repeat' apply And.intro) <;> exact Ints_noG _)
       case' hk => simp only [decide_eq_true hpq, t1, t2, t3, l1, l2, l3, hN, go_sem, Nat.reduceEqDiff, Nat.reduceAdd, Nat.reduceSub, Nat.reduceMul, Nat.reduceLT, Nat.reduceLeDiff, ↓reduceIte, reduceCtorEq, List.reduceReplicate, Int.cast_ofNat_Int, SV.ren, SV.renL, Cell.ren, Row.ren, renO, bk, back, outUpsFrom, Ints_ren]))
          all_goals try omega
          refine le_mk (q + 1) ?_ (by omega) (by omega)
          (refine imp_ren _ _ _ [(0, 0, ⟨Ints wt, 1⟩), (1, 1, ⟨Ints O, 1⟩), (2, 17, ⟨Ints (kI (kids ps p (q + 1))), 1⟩), (3, 24, ⟨Ints (kV ws (kids ps p (q + 1))), 1⟩), (4, 31, ⟨Ints (kV wt (kids ps p (q + 1))), 1⟩)] (by simp) (by simp) (by simp) (Nat.le_of_ble_eq_true rfl) ?_ rfl (by simp only [List.forall_mem_cons, List.not_mem_nil, false_implies, implies_true, and_true, St.hpF, lookR, Nat.reduceEqDiff, if_true, if_false, ↓reduceIte, f1, f2, f3, t1, t2, t3] <;> (repeat' apply And.intro) <;> (first | rfl | trivial)) (by simp only [List.forall_mem_cons, List.not_mem_nil, false_implies, implies_true, and_true, true_and, flat_cons, flat_nil, flat_ints, flat_bools, flat_app, Cell.refs, and_self, eq_self_iff_true, List.append_nil, f1, f2, f3, t1, t2, t3]); simp only [List.map_cons, List.map_nil, List.forall_mem_cons, List.not_mem_nil, false_implies, implies_true, and_true, lk, slot, SV.ren, Cell.ren, toN, Nat.reduceEqDiff, if_true, if_false, ↓reduceIte, reduceCtorEq])
          all_goals first | (rw [ek]; simp only [List.length_append, List.length_cons, List.length_nil]; (repeat' apply And.intro) <;> (first | rfl | trivial)) | ((repeat' apply And.intro) <;> (first | rfl | trivial))
        · have ek : kids ps p (q + 1) = kids ps p q := by rw [kids, if_neg hpq]
          simp only [go_sem, Nat.reduceEqDiff, Nat.reduceAdd, Nat.reduceSub, Nat.reduceMul, Nat.reduceLT, Nat.reduceLeDiff, ↓reduceIte, reduceCtorEq, List.reduceReplicate, Int.cast_ofNat_Int, decide_eq_true hlt2, decide_eq_false hpq]
          repeat' (first
    | with_reducible refine And.intro ?_ ?_
    | (unfold OKC; kernel_rfl)
    | (apply okc_up <;> (first | ((repeat (first | exact Sub.nil | apply Sub.gfp | apply Sub.same)); done) | kernel_rfl))
    | (unfold EDG; kernel_rfl)
    | (intros; (try simp only [Bool.and_eq_true, Bool.or_eq_true, Bool.not_eq_true', Bool.not_eq_false', Bool.and_eq_false_iff, Bool.or_eq_false_iff, decide_eq_true_eq, decide_eq_false_iff_not] at *); omega)
    | (refine gt_if (fun h => ?_) (fun h => ?_) <;> (first | (simp only [h, decide_eq_false hpq, t1, t2, t3, l1, l2, l3, hN, go_sem, Nat.reduceEqDiff, Nat.reduceAdd, Nat.reduceSub, Nat.reduceMul, Nat.reduceLT, Nat.reduceLeDiff, ↓reduceIte, reduceCtorEq, List.reduceReplicate, Int.cast_ofNat_Int]; done) | simp only [h, decide_eq_false hpq, t1, t2, t3, l1, l2, l3, hN, go_sem, Nat.reduceEqDiff, Nat.reduceAdd, Nat.reduceSub, Nat.reduceMul, Nat.reduceLT, Nat.reduceLeDiff, ↓reduceIte, reduceCtorEq, List.reduceReplicate, Int.cast_ofNat_Int] | skip))
    | (refine pt_if (fun h => ?_) (fun h => ?_) <;> (first | (simp only [h, decide_eq_false hpq, t1, t2, t3, l1, l2, l3, hN, go_sem, Nat.reduceEqDiff, Nat.reduceAdd, Nat.reduceSub, Nat.reduceMul, Nat.reduceLT, Nat.reduceLeDiff, ↓reduceIte, reduceCtorEq, List.reduceReplicate, Int.cast_ofNat_Int]; done) | simp only [h, decide_eq_false hpq, t1, t2, t3, l1, l2, l3, hN, go_sem, Nat.reduceEqDiff, Nat.reduceAdd, Nat.reduceSub, Nat.reduceMul, Nat.reduceLT, Nat.reduceLeDiff, ↓reduceIte, reduceCtorEq, List.reduceReplicate, Int.cast_ofNat_Int] | skip))
    | (refine cd_if (fun h => ?_) (fun h => ?_) <;> (first | (simp only [h, decide_eq_false hpq, t1, t2, t3, l1, l2, l3, hN, go_sem, Nat.reduceEqDiff, Nat.reduceAdd, Nat.reduceSub, Nat.reduceMul, Nat.reduceLT, Nat.reduceLeDiff, ↓reduceIte, reduceCtorEq, List.reduceReplicate, Int.cast_ofNat_Int]; done) | simp only [h, decide_eq_false hpq, t1, t2, t3, l1, l2, l3, hN, go_sem, Nat.reduceEqDiff, Nat.reduceAdd, Nat.reduceSub, Nat.reduceMul, Nat.reduceLT, Nat.reduceLeDiff, ↓reduceIte, reduceCtorEq, List.reduceReplicate, Int.cast_ofNat_Int] | skip))
    | (apply cl_plain
       case hs => rfl
       case ha => (simp only [List.map_cons, List.map_nil, prepV, prepC, idx, hpL', lookR, Nat.reduceEqDiff, if_true, if_false]; rfl)
       case h => (first | fail)
       case' hk => simp only [decide_eq_false hpq, t1, t2, t3, l1, l2, l3, hN, go_sem, Nat.reduceEqDiff, Nat.reduceAdd, Nat.reduceSub, Nat.reduceMul, Nat.reduceLT, Nat.reduceLeDiff, ↓reduceIte, reduceCtorEq, List.reduceReplicate, Int.cast_ofNat_Int, SV.ren, SV.renL, Cell.ren, Row.ren, renO, bk, back, outUpsFrom, Ints_ren])
    | (apply cl_show
       case ha => (simp only [List.map_cons, List.map_nil, prepV, prepC, idx, hpL', lookR, Nat.reduceEqDiff, if_true, if_false]; rfl)
       case hs => ((simp [snaps, SV.refs, Cell.refs, idx, hpL', lookR]) <;> (repeat' apply And.intro) <;> exact Ints_isG _)
       case h => (first | fail)
       case hg => ((simp [SV.noG, SV.noGL, Cell.noG]) <;> (repeat' apply And.intro) <;> exact Ints_noG _)
       case' hk => simp only [decide_eq_false hpq, t1, t2, t3, l1, l2, l3, hN, go_sem, Nat.reduceEqDiff, Nat.reduceAdd, Nat.reduceSub, Nat.reduceMul, Nat.reduceLT, Nat.reduceLeDiff, ↓reduceIte, reduceCtorEq, List.reduceReplicate, Int.cast_ofNat_Int, SV.ren, SV.renL, Cell.ren, Row.ren, renO, bk, back, outUpsFrom, Ints_ren]))
          all_goals try omega
          refine le_mk (q + 1) ?_ (by omega) (by omega)
          (refine imp_ren _ _ _ [(0, 0, ⟨Ints wt, 1⟩), (1, 1, ⟨Ints O, 1⟩), (2, 2, ⟨Ints (kI (kids ps p (q + 1))), 1⟩), (3, 3, ⟨Ints (kV ws (kids ps p (q + 1))), 1⟩), (4, 4, ⟨Ints (kV wt (kids ps p (q + 1))), 1⟩)] (by simp) (by simp) (by simp) (Nat.le_of_ble_eq_true rfl) ?_ rfl (by simp only [List.forall_mem_cons, List.not_mem_nil, false_implies, implies_true, and_true, St.hpF, lookR, Nat.reduceEqDiff, if_true, if_false, ↓reduceIte, ek] <;> (repeat' apply And.intro) <;> (first | rfl | trivial)) (by simp only [List.forall_mem_cons, List.not_mem_nil, false_implies, implies_true, and_true, true_and, flat_cons, flat_nil, flat_ints, flat_bools, flat_app, Cell.refs, and_self, eq_self_iff_true, List.append_nil, ek]); simp only [List.map_cons, List.map_nil, List.forall_mem_cons, List.not_mem_nil, false_implies, implies_true, and_true, lk, slot, SV.ren, Cell.ren, toN, Nat.reduceEqDiff, if_true, if_false, ↓reduceIte, reduceCtorEq])
          all_goals first | (rw [ek]; (repeat' apply And.intro) <;> (first | rfl | trivial)) | ((repeat' apply And.intro) <;> (first | rfl | trivial))
      · have hlt2 : ¬ (q : Int) < i := by omega
        have eq' : q = i := by omega
        subst eq'
        simp only [gi, l2, l3] at hdv
        have hlk := kids_lt ps p q
        simp only [go_sem, Nat.reduceEqDiff, Nat.reduceAdd, Nat.reduceSub, Nat.reduceMul, Nat.reduceLT, Nat.reduceLeDiff, ↓reduceIte, reduceCtorEq, List.reduceReplicate, Int.cast_ofNat_Int, decide_eq_false hlt2]
        repeat' (first
    | with_reducible refine And.intro ?_ ?_
    | (unfold OKC; kernel_rfl)
    | (apply okc_up <;> (first | ((repeat (first | exact Sub.nil | apply Sub.gfp | apply Sub.same)); done) | kernel_rfl))
    | (unfold EDG; kernel_rfl)
    | (intros; (try simp only [Bool.and_eq_true, Bool.or_eq_true, Bool.not_eq_true', Bool.not_eq_false', Bool.and_eq_false_iff, Bool.or_eq_false_iff, decide_eq_true_eq, decide_eq_false_iff_not] at *); omega)
    | (refine gt_if (fun h => ?_) (fun h => ?_) <;> (first | (simp only [h, t1, t2, t3, l1, l2, l3, go_sem, Nat.reduceEqDiff, Nat.reduceAdd, Nat.reduceSub, Nat.reduceMul, Nat.reduceLT, Nat.reduceLeDiff, ↓reduceIte, reduceCtorEq, List.reduceReplicate, Int.cast_ofNat_Int]; done) | simp only [h, t1, t2, t3, l1, l2, l3, go_sem, Nat.reduceEqDiff, Nat.reduceAdd, Nat.reduceSub, Nat.reduceMul, Nat.reduceLT, Nat.reduceLeDiff, ↓reduceIte, reduceCtorEq, List.reduceReplicate, Int.cast_ofNat_Int] | skip))
    | (refine pt_if (fun h => ?_) (fun h => ?_) <;> (first | (simp only [h, t1, t2, t3, l1, l2, l3, go_sem, Nat.reduceEqDiff, Nat.reduceAdd, Nat.reduceSub, Nat.reduceMul, Nat.reduceLT, Nat.reduceLeDiff, ↓reduceIte, reduceCtorEq, List.reduceReplicate, Int.cast_ofNat_Int]; done) | simp only [h, t1, t2, t3, l1, l2, l3, go_sem, Nat.reduceEqDiff, Nat.reduceAdd, Nat.reduceSub, Nat.reduceMul, Nat.reduceLT, Nat.reduceLeDiff, ↓reduceIte, reduceCtorEq, List.reduceReplicate, Int.cast_ofNat_Int] | skip))
    | (refine cd_if (fun h => ?_) (fun h => ?_) <;> (first | (simp only [h, t1, t2, t3, l1, l2, l3, go_sem, Nat.reduceEqDiff, Nat.reduceAdd, Nat.reduceSub, Nat.reduceMul, Nat.reduceLT, Nat.reduceLeDiff, ↓reduceIte, reduceCtorEq, List.reduceReplicate, Int.cast_ofNat_Int]; done) | simp only [h, t1, t2, t3, l1, l2, l3, go_sem, Nat.reduceEqDiff, Nat.reduceAdd, Nat.reduceSub, Nat.reduceMul, Nat.reduceLT, Nat.reduceLeDiff, ↓reduceIte, reduceCtorEq, List.reduceReplicate, Int.cast_ofNat_Int] | skip))
    | (apply cl_plain
       case hs => rfl
       case ha => (simp only [List.map_cons, List.map_nil, prepV, prepC, idx, hpL', lookR, Nat.reduceEqDiff, if_true, if_false]; rfl)
       case h => (first | exact hdv ..)
       case' hk => simp only [t1, t2, t3, l1, l2, l3, go_sem, Nat.reduceEqDiff, Nat.reduceAdd, Nat.reduceSub, Nat.reduceMul, Nat.reduceLT, Nat.reduceLeDiff, ↓reduceIte, reduceCtorEq, List.reduceReplicate, Int.cast_ofNat_Int, SV.ren, SV.renL, Cell.ren, Row.ren, renO, bk, back, outUpsFrom, Ints_ren])
    | (apply cl_show
       case ha => (simp only [List.map_cons, List.map_nil, prepV, prepC, idx, hpL', lookR, Nat.reduceEqDiff, if_true, if_false]; rfl)
       case hs => ((simp [snaps, SV.refs, Cell.refs, idx, hpL', lookR]) <;> (repeat' apply And.intro) <;> exact Ints_isG _)
       case h => (first | exact hdv ..)
       case hg => ((simp [SV.noG, SV.noGL, Cell.noG]) <;> (repeat' apply And.intro) <;> exact Ints_noG _)
       case' hk => simp only [t1, t2, t3, l1, l2, l3, go_sem, Nat.reduceEqDiff, Nat.reduceAdd, Nat.reduceSub, Nat.reduceMul, Nat.reduceLT, Nat.reduceLeDiff, ↓reduceIte, reduceCtorEq, List.reduceReplicate, Int.cast_ofNat_Int, SV.ren, SV.renL, Cell.ren, Row.ren, renO, bk, back, outUpsFrom, Ints_ren]))
        refine w_loop (ι := Nat) (fun z => ⟨[(24, i1 z), (23, .one (.osl 3 0 (kids ps p q).length (some (kids ps p q).length))), (19, .one (.osl 2 0 (kids ps p q).length none)), (17, i1 p), (16, .one (.osl 1 0 q (some q))), (10, .one (.osl 0 0 q none)), (9, i1 q), (0, i1 v), (1, gi ps c), (2, gi ws d)], [(0, some ⟨Ints wt, 1⟩), (1, some ⟨Ints (putN (kids ps p q) X O z), 1⟩), (2, some ⟨Ints (kI (kids ps p q)), 1⟩), (3, some ⟨Ints X, 1⟩)], 4⟩) (fun z => z ≤ (kids ps p q).length) (fun z => (kids ps p q).length - z) 0 ?_ (Nat.zero_le _) ?_
        · (refine imp_ren _ _ _ [(0, 0, ⟨Ints wt, 1⟩), (1, 1, ⟨Ints O, 1⟩), (2, 2, ⟨Ints (kI (kids ps p q)), 1⟩), (3, 11, ⟨Ints X, 1⟩)] (by simp) (by simp) (by simp) (Nat.le_of_ble_eq_true rfl) ?_ rfl (by simp only [List.forall_mem_cons, List.not_mem_nil, false_implies, implies_true, and_true, St.hpF, lookR, Nat.reduceEqDiff, if_true, if_false, ↓reduceIte] <;> (repeat' apply And.intro) <;> (first | rfl | trivial)) (by simp only [List.forall_mem_cons, List.not_mem_nil, false_implies, implies_true, and_true, true_and, flat_cons, flat_nil, flat_ints, flat_bools, flat_app, Cell.refs, and_self, eq_self_iff_true, List.append_nil]); simp only [List.map_cons, List.map_nil, List.forall_mem_cons, List.not_mem_nil, false_implies, implies_true, and_true, lk, slot, SV.ren, Cell.ren, toN, Nat.reduceEqDiff, if_true, if_false, ↓reduceIte, reduceCtorEq])
          all_goals ((repeat' apply And.intro) <;> (first | rfl | trivial))
        intro z hz
        have hpl := putN_len (kids ps p q) X O z
        rcases Nat.lt_or_ge z (kids ps p q).length with hlz | hgz
        · have hlz2 : (z : Int) < (kids ps p q).length := by omega
          have hks := hlk ((kids ps p q).getD z 0) (by rw [List.getD_eq_getElem?_getD, List.getElem?_eq_getElem hlz]; exact List.getElem_mem _)
          have eI : (kI (kids ps p q)).getD z 0 = (((kids ps p q).getD z 0 : Nat) : Int) := by
            simp [kI, List.getD_eq_getElem?_getD, hlz]
          simp only [go_sem, Nat.reduceEqDiff, Nat.reduceAdd, Nat.reduceSub, Nat.reduceMul, Nat.reduceLT, Nat.reduceLeDiff, ↓reduceIte, reduceCtorEq, List.reduceReplicate, Int.cast_ofNat_Int, decide_eq_true hlz2]
          repeat' (first
    | with_reducible refine And.intro ?_ ?_
    | (unfold OKC; kernel_rfl)
    | (apply okc_up <;> (first | ((repeat (first | exact Sub.nil | apply Sub.gfp | apply Sub.same)); done) | kernel_rfl))
    | (unfold EDG; kernel_rfl)
    | (intros; (try simp only [Bool.and_eq_true, Bool.or_eq_true, Bool.not_eq_true', Bool.not_eq_false', Bool.and_eq_false_iff, Bool.or_eq_false_iff, decide_eq_true_eq, decide_eq_false_iff_not] at *); omega)
    | (refine gt_if (fun h => ?_) (fun h => ?_) <;> (first | (simp only [h, eI, l1, l2, l3, go_sem, Nat.reduceEqDiff, Nat.reduceAdd, Nat.reduceSub, Nat.reduceMul, Nat.reduceLT, Nat.reduceLeDiff, ↓reduceIte, reduceCtorEq, List.reduceReplicate, Int.cast_ofNat_Int]; done) | simp only [h, eI, l1, l2, l3, go_sem, Nat.reduceEqDiff, Nat.reduceAdd, Nat.reduceSub, Nat.reduceMul, Nat.reduceLT, Nat.reduceLeDiff, ↓reduceIte, reduceCtorEq, List.reduceReplicate, Int.cast_ofNat_Int] | skip))
    | (refine pt_if (fun h => ?_) (fun h => ?_) <;> (first | (simp only [h, eI, l1, l2, l3, go_sem, Nat.reduceEqDiff, Nat.reduceAdd, Nat.reduceSub, Nat.reduceMul, Nat.reduceLT, Nat.reduceLeDiff, ↓reduceIte, reduceCtorEq, List.reduceReplicate, Int.cast_ofNat_Int]; done) | simp only [h, eI, l1, l2, l3, go_sem, Nat.reduceEqDiff, Nat.reduceAdd, Nat.reduceSub, Nat.reduceMul, Nat.reduceLT, Nat.reduceLeDiff, ↓reduceIte, reduceCtorEq, List.reduceReplicate, Int.cast_ofNat_Int] | skip))
    | (refine cd_if (fun h => ?_) (fun h => ?_) <;> (first | (simp only [h, eI, l1, l2, l3, go_sem, Nat.reduceEqDiff, Nat.reduceAdd, Nat.reduceSub, Nat.reduceMul, Nat.reduceLT, Nat.reduceLeDiff, ↓reduceIte, reduceCtorEq, List.reduceReplicate, Int.cast_ofNat_Int]; done) | simp only [h, eI, l1, l2, l3, go_sem, Nat.reduceEqDiff, Nat.reduceAdd, Nat.reduceSub, Nat.reduceMul, Nat.reduceLT, Nat.reduceLeDiff, ↓reduceIte, reduceCtorEq, List.reduceReplicate, Int.cast_ofNat_Int] | skip))
    | (apply cl_plain
       case hs => rfl
       case ha => (simp only [List.map_cons, List.map_nil, prepV, prepC, idx, hpL', lookR, Nat.reduceEqDiff, if_true, if_false]; rfl)
       case h => (first | fail)
       case' hk => simp only [eI, l1, l2, l3, go_sem, Nat.reduceEqDiff, Nat.reduceAdd, Nat.reduceSub, Nat.reduceMul, Nat.reduceLT, Nat.reduceLeDiff, ↓reduceIte, reduceCtorEq, List.reduceReplicate, Int.cast_ofNat_Int, SV.ren, SV.renL, Cell.ren, Row.ren, renO, bk, back, outUpsFrom, Ints_ren])
    | (apply cl_show
       case ha => (simp only [List.map_cons, List.map_nil, prepV, prepC, idx, hpL', lookR, Nat.reduceEqDiff, if_true, if_false]; rfl)
       case hs => ((simp [snaps, SV.refs, Cell.refs, idx, hpL', lookR]) <;> (repeat' apply And.intro) <;> exact Ints_isG _)
       case h => (first | fail)
       case hg => ((simp [SV.noG, SV.noGL, Cell.noG]) <;> (repeat' apply And.intro) <;> exact Ints_noG _)
       case' hk => simp only [eI, l1, l2, l3, go_sem, Nat.reduceEqDiff, Nat.reduceAdd, Nat.reduceSub, Nat.reduceMul, Nat.reduceLT, Nat.reduceLeDiff, ↓reduceIte, reduceCtorEq, List.reduceReplicate, Int.cast_ofNat_Int, SV.ren, SV.renL, Cell.ren, Row.ren, renO, bk, back, outUpsFrom, Ints_ren]))
          all_goals try omega
          refine le_mk (z + 1) ?_ (by omega) (by omega)
          (refine imp_ren _ _ _ [(0, 0, ⟨Ints wt, 1⟩), (1, 1, ⟨Ints (putN (kids ps p q) X O (z + 1)), 1⟩), (2, 2, ⟨Ints (kI (kids ps p q)), 1⟩), (3, 3, ⟨Ints X, 1⟩)] (by simp) (by simp) (by simp) (Nat.le_of_ble_eq_true rfl) ?_ rfl (by simp only [List.forall_mem_cons, List.not_mem_nil, false_implies, implies_true, and_true, St.hpF, lookR, Nat.reduceEqDiff, if_true, if_false, ↓reduceIte, putN, eI, Int.toNat_natCast] <;> (repeat' apply And.intro) <;> (first | rfl | trivial)) (by simp only [List.forall_mem_cons, List.not_mem_nil, false_implies, implies_true, and_true, true_and, flat_cons, flat_nil, flat_ints, flat_bools, flat_app, Cell.refs, and_self, eq_self_iff_true, List.append_nil, putN, eI, Int.toNat_natCast]); simp only [List.map_cons, List.map_nil, List.forall_mem_cons, List.not_mem_nil, false_implies, implies_true, and_true, lk, slot, SV.ren, Cell.ren, toN, Nat.reduceEqDiff, if_true, if_false, ↓reduceIte, reduceCtorEq])
          all_goals ((repeat' apply And.intro) <;> (first | rfl | trivial))
        · have hlz2 : ¬ (z : Int) < (kids ps p q).length := by omega
          have ez : z = (kids ps p q).length := by omega
          subst ez
          rw [← hPF, ← hst]
          simp only [go_sem, Nat.reduceEqDiff, Nat.reduceAdd, Nat.reduceSub, Nat.reduceMul, Nat.reduceLT, Nat.reduceLeDiff, ↓reduceIte, reduceCtorEq, List.reduceReplicate, Int.cast_ofNat_Int, decide_eq_false hlz2]
          repeat' (first
    | with_reducible refine And.intro ?_ ?_
    | (unfold OKC; kernel_rfl)
    | (apply okc_up <;> (first | ((repeat (first | exact Sub.nil | apply Sub.gfp | apply Sub.same)); done) | kernel_rfl))
    | (unfold EDG; kernel_rfl)
    | (intros; (try simp only [Bool.and_eq_true, Bool.or_eq_true, Bool.not_eq_true', Bool.not_eq_false', Bool.and_eq_false_iff, Bool.or_eq_false_iff, decide_eq_true_eq, decide_eq_false_iff_not] at *); omega)
    | (refine gt_if (fun h => ?_) (fun h => ?_) <;> (first | (simp only [h, go_sem, Nat.reduceEqDiff, Nat.reduceAdd, Nat.reduceSub, Nat.reduceMul, Nat.reduceLT, Nat.reduceLeDiff, ↓reduceIte, reduceCtorEq, List.reduceReplicate, Int.cast_ofNat_Int]; done) | simp only [h, go_sem, Nat.reduceEqDiff, Nat.reduceAdd, Nat.reduceSub, Nat.reduceMul, Nat.reduceLT, Nat.reduceLeDiff, ↓reduceIte, reduceCtorEq, List.reduceReplicate, Int.cast_ofNat_Int] | skip))
    | (refine pt_if (fun h => ?_) (fun h => ?_) <;> (first | (simp only [h, go_sem, Nat.reduceEqDiff, Nat.reduceAdd, Nat.reduceSub, Nat.reduceMul, Nat.reduceLT, Nat.reduceLeDiff, ↓reduceIte, reduceCtorEq, List.reduceReplicate, Int.cast_ofNat_Int]; done) | simp only [h, go_sem, Nat.reduceEqDiff, Nat.reduceAdd, Nat.reduceSub, Nat.reduceMul, Nat.reduceLT, Nat.reduceLeDiff, ↓reduceIte, reduceCtorEq, List.reduceReplicate, Int.cast_ofNat_Int] | skip))
    | (refine cd_if (fun h => ?_) (fun h => ?_) <;> (first | (simp only [h, go_sem, Nat.reduceEqDiff, Nat.reduceAdd, Nat.reduceSub, Nat.reduceMul, Nat.reduceLT, Nat.reduceLeDiff, ↓reduceIte, reduceCtorEq, List.reduceReplicate, Int.cast_ofNat_Int]; done) | simp only [h, go_sem, Nat.reduceEqDiff, Nat.reduceAdd, Nat.reduceSub, Nat.reduceMul, Nat.reduceLT, Nat.reduceLeDiff, ↓reduceIte, reduceCtorEq, List.reduceReplicate, Int.cast_ofNat_Int] | skip))
    | (apply cl_plain
       case hs => rfl
       case ha => (simp only [List.map_cons, List.map_nil, prepV, prepC, idx, hpL', lookR, Nat.reduceEqDiff, if_true, if_false]; rfl)
       case h => (first | fail)
       case' hk => simp only [go_sem, Nat.reduceEqDiff, Nat.reduceAdd, Nat.reduceSub, Nat.reduceMul, Nat.reduceLT, Nat.reduceLeDiff, ↓reduceIte, reduceCtorEq, List.reduceReplicate, Int.cast_ofNat_Int, SV.ren, SV.renL, Cell.ren, Row.ren, renO, bk, back, outUpsFrom, Ints_ren])
    | (apply cl_show
       case ha => (simp only [List.map_cons, List.map_nil, prepV, prepC, idx, hpL', lookR, Nat.reduceEqDiff, if_true, if_false]; rfl)
       case hs => ((simp [snaps, SV.refs, Cell.refs, idx, hpL', lookR]) <;> (repeat' apply And.intro) <;> exact Ints_isG _)
       case h => (first | fail)
       case hg => ((simp [SV.noG, SV.noGL, Cell.noG]) <;> (repeat' apply And.intro) <;> exact Ints_noG _)
       case' hk => simp only [go_sem, Nat.reduceEqDiff, Nat.reduceAdd, Nat.reduceSub, Nat.reduceMul, Nat.reduceLT, Nat.reduceLeDiff, ↓reduceIte, reduceCtorEq, List.reduceReplicate, Int.cast_ofNat_Int, SV.ren, SV.renL, Cell.ren, Row.ren, renO, bk, back, outUpsFrom, Ints_ren]))
          refine le_mk (j + 1) ?_ (by omega) (by omega)
          (refine imp_ren _ _ _ [(0, 0, ⟨Ints wt, 1⟩), (1, 1, ⟨Ints (stN ps ws wt v (j + 1)), 1⟩)] (by simp) (by simp) (by simp) (Nat.le_of_ble_eq_true rfl) ?_ rfl (by simp only [List.forall_mem_cons, List.not_mem_nil, false_implies, implies_true, and_true, St.hpF, lookR, Nat.reduceEqDiff, if_true, if_false, ↓reduceIte] <;> (repeat' apply And.intro) <;> (first | rfl | trivial)) (by simp only [List.forall_mem_cons, List.not_mem_nil, false_implies, implies_true, and_true, true_and, flat_cons, flat_nil, flat_ints, flat_bools, flat_app, Cell.refs, and_self, eq_self_iff_true, List.append_nil]); simp only [List.map_cons, List.map_nil, List.forall_mem_cons, List.not_mem_nil, false_implies, implies_true, and_true, lk, slot, SV.ren, Cell.ren, toN, Nat.reduceEqDiff, if_true, if_false, ↓reduceIte, reduceCtorEq])
          rw [show p + 1 = ((j + 1 : Nat) : Int) - 1 by omega]
          all_goals ((repeat' apply And.intro) <;> (first | rfl | trivial))
    · have hvu := hv1 hp0
      simp only [go_sem, Nat.reduceEqDiff, Nat.reduceAdd, Nat.reduceSub, Nat.reduceMul, Nat.reduceLT, Nat.reduceLeDiff, ↓reduceIte, reduceCtorEq, List.reduceReplicate, Int.cast_ofNat_Int, decide_eq_true hjn, decide_eq_true hp0]
      repeat' (first
    | with_reducible refine And.intro ?_ ?_
    | (unfold OKC; kernel_rfl)
    | (apply okc_up <;> (first | ((repeat (first | exact Sub.nil | apply Sub.gfp | apply Sub.same)); done) | kernel_rfl))
    | (unfold EDG; kernel_rfl)
    | (intros; (try simp only [Bool.and_eq_true, Bool.or_eq_true, Bool.not_eq_true', Bool.not_eq_false', Bool.and_eq_false_iff, Bool.or_eq_false_iff, decide_eq_true_eq, decide_eq_false_iff_not] at *); omega)
    | (refine gt_if (fun h => ?_) (fun h => ?_) <;> (first | (simp only [h, decide_eq_true hp0, hO, go_sem, Nat.reduceEqDiff, Nat.reduceAdd, Nat.reduceSub, Nat.reduceMul, Nat.reduceLT, Nat.reduceLeDiff, ↓reduceIte, reduceCtorEq, List.reduceReplicate, Int.cast_ofNat_Int]; done) | simp only [h, decide_eq_true hp0, hO, go_sem, Nat.reduceEqDiff, Nat.reduceAdd, Nat.reduceSub, Nat.reduceMul, Nat.reduceLT, Nat.reduceLeDiff, ↓reduceIte, reduceCtorEq, List.reduceReplicate, Int.cast_ofNat_Int] | skip))
    | (refine pt_if (fun h => ?_) (fun h => ?_) <;> (first | (simp only [h, decide_eq_true hp0, hO, go_sem, Nat.reduceEqDiff, Nat.reduceAdd, Nat.reduceSub, Nat.reduceMul, Nat.reduceLT, Nat.reduceLeDiff, ↓reduceIte, reduceCtorEq, List.reduceReplicate, Int.cast_ofNat_Int]; done) | simp only [h, decide_eq_true hp0, hO, go_sem, Nat.reduceEqDiff, Nat.reduceAdd, Nat.reduceSub, Nat.reduceMul, Nat.reduceLT, Nat.reduceLeDiff, ↓reduceIte, reduceCtorEq, List.reduceReplicate, Int.cast_ofNat_Int] | skip))
    | (refine cd_if (fun h => ?_) (fun h => ?_) <;> (first | (simp only [h, decide_eq_true hp0, hO, go_sem, Nat.reduceEqDiff, Nat.reduceAdd, Nat.reduceSub, Nat.reduceMul, Nat.reduceLT, Nat.reduceLeDiff, ↓reduceIte, reduceCtorEq, List.reduceReplicate, Int.cast_ofNat_Int]; done) | simp only [h, decide_eq_true hp0, hO, go_sem, Nat.reduceEqDiff, Nat.reduceAdd, Nat.reduceSub, Nat.reduceMul, Nat.reduceLT, Nat.reduceLeDiff, ↓reduceIte, reduceCtorEq, List.reduceReplicate, Int.cast_ofNat_Int] | skip))
    | (apply cl_plain
       case hs => rfl
       case ha => (simp only [List.map_cons, List.map_nil, prepV, prepC, idx, hpL', lookR, Nat.reduceEqDiff, if_true, if_false]; rfl)
       case h => (first | fail)
       case' hk => simp only [decide_eq_true hp0, hO, go_sem, Nat.reduceEqDiff, Nat.reduceAdd, Nat.reduceSub, Nat.reduceMul, Nat.reduceLT, Nat.reduceLeDiff, ↓reduceIte, reduceCtorEq, List.reduceReplicate, Int.cast_ofNat_Int, SV.ren, SV.renL, Cell.ren, Row.ren, renO, bk, back, outUpsFrom, Ints_ren])
    | (apply cl_show
       case ha => (simp only [List.map_cons, List.map_nil, prepV, prepC, idx, hpL', lookR, Nat.reduceEqDiff, if_true, if_false]; rfl)
       case hs => ((simp [snaps, SV.refs, Cell.refs, idx, hpL', lookR]) <;> (repeat' apply And.intro) <;> exact Ints_isG _)
       case h => (first | fail)
       case hg => ((simp [SV.noG, SV.noGL, Cell.noG]) <;> (repeat' apply And.intro) <;> exact Ints_noG _)
       case' hk => simp only [decide_eq_true hp0, hO, go_sem, Nat.reduceEqDiff, Nat.reduceAdd, Nat.reduceSub, Nat.reduceMul, Nat.reduceLT, Nat.reduceLeDiff, ↓reduceIte, reduceCtorEq, List.reduceReplicate, Int.cast_ofNat_Int, SV.ren, SV.renL, Cell.ren, Row.ren, renO, bk, back, outUpsFrom, Ints_ren]))
      rw [← hvu]
      refine w_loop (ι := Nat) (fun q => ⟨[(22, i1 q), (21, .one (.osl 4 0 (kids ps p q).length none)), (20, .one (.osl 3 0 (kids ps p q).length none)), (19, .one (.osl 2 0 (kids ps p q).length none)), (18, i1 v), (17, i1 p), (16, .one (.osl 1 0 i (some i))), (10, .one (.osl 0 0 i none)), (9, i1 i), (0, i1 u), (1, gi ps c), (2, gi ws d)], [(0, some ⟨Ints wt, 1⟩), (1, some ⟨Ints O, 1⟩), (2, some ⟨Ints (kI (kids ps p q)), 1⟩), (3, some ⟨Ints (kV ws (kids ps p q)), 1⟩), (4, some ⟨Ints (kV wt (kids ps p q)), 1⟩)], 5⟩) (fun q => q ≤ i) (fun q => i - q) 0 ?_ (Nat.zero_le _) ?_
      · refine Imp.trans (imp_nil _ _ 19 1 rfl) (Imp.trans (imp_nil _ _ 20 1 rfl) (Imp.trans (imp_nil _ _ 21 1 rfl) ?_))
        (refine imp_ren _ _ _ [(0, 0, ⟨Ints wt, 1⟩), (1, 1, ⟨Ints O, 1⟩), (2, 18, ⟨Ints [], 1⟩), (3, 19, ⟨Ints [], 1⟩), (4, 20, ⟨Ints [], 1⟩)] (by simp) (by simp) (by simp) (Nat.le_of_ble_eq_true rfl) ?_ rfl (by simp only [List.forall_mem_cons, List.not_mem_nil, false_implies, implies_true, and_true, St.hpF, lookR, Nat.reduceEqDiff, if_true, if_false, ↓reduceIte] <;> (repeat' apply And.intro) <;> (first | rfl | trivial)) (by simp only [List.forall_mem_cons, List.not_mem_nil, false_implies, implies_true, and_true, true_and, flat_cons, flat_nil, flat_ints, flat_bools, flat_app, Cell.refs, and_self, eq_self_iff_true, List.append_nil]); simp only [List.map_cons, List.map_nil, List.forall_mem_cons, List.not_mem_nil, false_implies, implies_true, and_true, lk, slot, SV.ren, Cell.ren, toN, Nat.reduceEqDiff, if_true, if_false, ↓reduceIte, reduceCtorEq])
        all_goals ((repeat' apply And.intro) <;> (first | rfl | trivial))
      intro q hq
      have hk := kids_len ps p q
      have l1 : (kI (kids ps p q)).length = (kids ps p q).length := by simp [kI]
      have l2 : (kV ws (kids ps p q)).length = (kids ps p q).length := by simp [kV]
      have l3 : (kV wt (kids ps p q)).length = (kids ps p q).length := by simp [kV]
      have t1 : List.take (kids ps p q).length (kI (kids ps p q)) = kI (kids ps p q) := List.take_of_length_le (by omega)
      have t2 : List.take (kids ps p q).length (kV ws (kids ps p q)) = kV ws (kids ps p q) := List.take_of_length_le (by omega)
      have t3 : List.take (kids ps p q).length (kV wt (kids ps p q)) = kV wt (kids ps p q) := List.take_of_length_le (by omega)
      rcases Nat.lt_or_ge q i with hlt' | hge
      · have hlt2 : (q : Int) < i := by omega
        by_cases hpq : ps.getD q 0 = p
        · have ek : kids ps p (q + 1) = kids ps p q ++ [q] := by rw [kids, if_pos hpq]
          have f1 : kI (kids ps p (q + 1)) = kI (kids ps p q) ++ [(q : Int)] := by rw [ek]; simp [kI]
          have f2 : kV ws (kids ps p (q + 1)) = kV ws (kids ps p q) ++ [ws.getD q 0] := by rw [ek]; simp [kV]
          have f3 : kV wt (kids ps p (q + 1)) = kV wt (kids ps p q) ++ [wt.getD q 0] := by rw [ek]; simp [kV]
          simp only [go_sem, Nat.reduceEqDiff, Nat.reduceAdd, Nat.reduceSub, Nat.reduceMul, Nat.reduceLT, Nat.reduceLeDiff, ↓reduceIte, reduceCtorEq, List.reduceReplicate, Int.cast_ofNat_Int, decide_eq_true hlt2, decide_eq_true hpq]
          repeat' (first
    | with_reducible refine And.intro ?_ ?_
    | (unfold OKC; kernel_rfl)
    | (apply okc_up <;> (first | ((repeat (first | exact Sub.nil | apply Sub.gfp | apply Sub.same)); done) | kernel_rfl))
    | (unfold EDG; kernel_rfl)
    | (intros; (try simp only [Bool.and_eq_true, Bool.or_eq_true, Bool.not_eq_true', Bool.not_eq_false', Bool.and_eq_false_iff, Bool.or_eq_false_iff, decide_eq_true_eq, decide_eq_false_iff_not] at *); omega)
    | (refine gt_if (fun h => ?_) (fun h => ?_) <;> (first | (simp only [h, decide_eq_true hpq, t1, t2, t3, l1, l2, l3, hN, go_sem, Nat.reduceEqDiff, Nat.reduceAdd, Nat.reduceSub, Nat.reduceMul, Nat.reduceLT, Nat.reduceLeDiff, ↓reduceIte, reduceCtorEq, List.reduceReplicate, Int.cast_ofNat_Int]; done) | simp only [h, decide_eq_true hpq, t1, t2, t3, l1, l2, l3, hN, go_sem, Nat.reduceEqDiff, Nat.reduceAdd, Nat.reduceSub, Nat.reduceMul, Nat.reduceLT, Nat.reduceLeDiff, ↓reduceIte, reduceCtorEq, List.reduceReplicate, Int.cast_ofNat_Int] | skip))
    | (refine pt_if (fun h => ?_) (fun h => ?_) <;> (first | (simp only [h, decide_eq_true hpq, t1, t2, t3, l1, l2, l3, hN, go_sem, Nat.reduceEqDiff, Nat.reduceAdd, Nat.reduceSub, Nat.reduceMul, Nat.reduceLT, Nat.reduceLeDiff, ↓reduceIte, reduceCtorEq, List.reduceReplicate, Int.cast_ofNat_Int]; done) | simp only [h, decide_eq_true hpq, t1, t2, t3, l1, l2, l3, hN, go_sem, Nat.reduceEqDiff, Nat.reduceAdd, Nat.reduceSub, Nat.reduceMul, Nat.reduceLT, Nat.reduceLeDiff, ↓reduceIte, reduceCtorEq, List.reduceReplicate, Int.cast_ofNat_Int] | skip))
    | (refine cd_if (fun h => ?_) (fun h => ?_) <;> (first | (simp only [h, decide_eq_true hpq, t1, t2, t3, l1, l2, l3, hN, go_sem, Nat.reduceEqDiff, Nat.reduceAdd, Nat.reduceSub, Nat.reduceMul, Nat.reduceLT, Nat.reduceLeDiff, ↓reduceIte, reduceCtorEq, List.reduceReplicate, Int.cast_ofNat_Int]; done) | simp only [h, decide_eq_true hpq, t1, t2, t3, l1, l2, l3, hN, go_sem, Nat.reduceEqDiff, Nat.reduceAdd, Nat.reduceSub, Nat.reduceMul, Nat.reduceLT, Nat.reduceLeDiff, ↓reduceIte, reduceCtorEq, List.reduceReplicate, Int.cast_ofNat_Int] | skip))
    | (apply cl_plain
       case hs => rfl
       case ha => (simp only [List.map_cons, List.map_nil, prepV, prepC, idx, hpL', lookR, Nat.reduceEqDiff, if_true, if_false]; rfl)
       case h => (first | fail)
       case' hk => simp only [decide_eq_true hpq, t1, t2, t3, l1, l2, l3, hN, go_sem, Nat.reduceEqDiff, Nat.reduceAdd, Nat.reduceSub, Nat.reduceMul, Nat.reduceLT, Nat.reduceLeDiff, ↓reduceIte, reduceCtorEq, List.reduceReplicate, Int.cast_ofNat_Int, SV.ren, SV.renL, Cell.ren, Row.ren, renO, bk, back, outUpsFrom, Ints_ren])
    | (apply cl_show
       case ha => (simp only [List.map_cons, List.map_nil, prepV, prepC, idx, hpL', lookR, Nat.reduceEqDiff, if_true, if_false]; rfl)
       case hs => ((simp [snaps, SV.refs, Cell.refs, idx, hpL', lookR]) <;> (repeat' apply And.intro) <;> exact Ints_isG _)
       case h => (first | fail)
       case hg => ((simp [SV.noG, SV.noGL, Cell.noG]) <;> (repeat' apply And.intro) <;> exact Ints_noG _)
       case' hk => simp only [decide_eq_true hpq, t1, t2, t3, l1, l2, l3, hN, go_sem, Nat.reduceEqDiff, Nat.reduceAdd, Nat.reduceSub, Nat.reduceMul, Nat.reduceLT, Nat.reduceLeDiff, ↓reduceIte, reduceCtorEq, List.reduceReplicate, Int.cast_ofNat_Int, SV.ren, SV.renL, Cell.ren, Row.ren, renO, bk, back, outUpsFrom, Ints_ren]))
          all_goals try omega
          refine le_mk (q + 1) ?_ (by omega) (by omega)
          (refine imp_ren _ _ _ [(0, 0, ⟨Ints wt, 1⟩), (1, 1, ⟨Ints O, 1⟩), (2, 17, ⟨Ints (kI (kids ps p (q + 1))), 1⟩), (3, 24, ⟨Ints (kV ws (kids ps p (q + 1))), 1⟩), (4, 31, ⟨Ints (kV wt (kids ps p (q + 1))), 1⟩)] (by simp) (by simp) (by simp) (Nat.le_of_ble_eq_true rfl) ?_ rfl (by simp only [List.forall_mem_cons, List.not_mem_nil, false_implies, implies_true, and_true, St.hpF, lookR, Nat.reduceEqDiff, if_true, if_false, ↓reduceIte, f1, f2, f3, t1, t2, t3] <;> (repeat' apply And.intro) <;> (first | rfl | trivial)) (by simp only [List.forall_mem_cons, List.not_mem_nil, false_implies, implies_true, and_true, true_and, flat_cons, flat_nil, flat_ints, flat_bools, flat_app, Cell.refs, and_self, eq_self_iff_true, List.append_nil, f1, f2, f3, t1, t2, t3]); simp only [List.map_cons, List.map_nil, List.forall_mem_cons, List.not_mem_nil, false_implies, implies_true, and_true, lk, slot, SV.ren, Cell.ren, toN, Nat.reduceEqDiff, if_true, if_false, ↓reduceIte, reduceCtorEq])
          all_goals first | (rw [ek]; simp only [List.length_append, List.length_cons, List.length_nil]; (repeat' apply And.intro) <;> (first | rfl | trivial)) | ((repeat' apply And.intro) <;> (first | rfl | trivial))
        · have ek : kids ps p (q + 1) = kids ps p q := by rw [kids, if_neg hpq]
          simp only [go_sem, Nat.reduceEqDiff, Nat.reduceAdd, Nat.reduceSub, Nat.reduceMul, Nat.reduceLT, Nat.reduceLeDiff, ↓reduceIte, reduceCtorEq, List.reduceReplicate, Int.cast_ofNat_Int, decide_eq_true hlt2, decide_eq_false hpq]
          repeat' (first
    | with_reducible refine And.intro ?_ ?_
    | (unfold OKC; kernel_rfl)
    | (apply okc_up <;> (first | ((repeat (first | exact Sub.nil | apply Sub.gfp | apply Sub.same)); done) | kernel_rfl))
    | (unfold EDG; kernel_rfl)
    | (intros; (try simp only [Bool.and_eq_true, Bool.or_eq_true, Bool.not_eq_true', Bool.not_eq_false', Bool.and_eq_false_iff, Bool.or_eq_false_iff, decide_eq_true_eq, decide_eq_false_iff_not] at *); omega)
    | (refine gt_if (fun h => ?_) (fun h => ?_) <;> (first | (simp only [h, decide_eq_false hpq, t1, t2, t3, l1, l2, l3, hN, go_sem, Nat.reduceEqDiff, Nat.reduceAdd, Nat.reduceSub, Nat.reduceMul, Nat.reduceLT, Nat.reduceLeDiff, ↓reduceIte, reduceCtorEq, List.reduceReplicate, Int.cast_ofNat_Int]; done) | simp only [h, decide_eq_false hpq, t1, t2, t3, l1, l2, l3, hN, go_sem, Nat.reduceEqDiff, Nat.reduceAdd, Nat.reduceSub, Nat.reduceMul, Nat.reduceLT, Nat.reduceLeDiff, ↓reduceIte, reduceCtorEq, List.reduceReplicate, Int.cast_ofNat_Int] | skip))
    | (refine pt_if (fun h => ?_) (fun h => ?_) <;> (first | (simp only [h, decide_eq_false hpq, t1, t2, t3, l1, l2, l3, hN, go_sem, Nat.reduceEqDiff, Nat.reduceAdd, Nat.reduceSub, Nat.reduceMul, Nat.reduceLT, Nat.reduceLeDiff, ↓reduceIte, reduceCtorEq, List.reduceReplicate, Int.cast_ofNat_Int]; done) | simp only [h, decide_eq_false hpq, t1, t2, t3, l1, l2, l3, hN, go_sem, Nat.reduceEqDiff, Nat.reduceAdd, Nat.reduceSub, Nat.reduceMul, Nat.reduceLT, Nat.reduceLeDiff, ↓reduceIte, reduceCtorEq, List.reduceReplicate, Int.cast_ofNat_Int] | skip))
    | (refine cd_if (fun h => ?_) (fun h => ?_) <;> (first | (simp only [h, decide_eq_false hpq, t1, t2, t3, l1, l2, l3, hN, go_sem, Nat.reduceEqDiff, Nat.reduceAdd, Nat.reduceSub, Nat.reduceMul, Nat.reduceLT, Nat.reduceLeDiff, ↓reduceIte, reduceCtorEq, List.reduceReplicate, Int.cast_ofNat_Int]; done) | simp only [h, decide_eq_false hpq, t1, t2, t3, l1, l2, l3, hN, go_sem, Nat.reduceEqDiff, Nat.reduceAdd, Nat.reduceSub, Nat.reduceMul, Nat.reduceLT, Nat.reduceLeDiff, ↓reduceIte, reduceCtorEq, List.reduceReplicate, Int.cast_ofNat_Int] | skip))
    | (apply cl_plain
       case hs => rfl
       case ha => (simp only [List.map_cons, List.map_nil, prepV, prepC, idx, hpL', lookR, Nat.reduceEqDiff, if_true, if_false]; rfl)
       case h => (first | fail)
       case' hk => simp only [decide_eq_false hpq, t1, t2, t3, l1, l2, l3, hN, go_sem, Nat.reduceEqDiff, Nat.reduceAdd, Nat.reduceSub, Nat.reduceMul, Nat.reduceLT, Nat.reduceLeDiff, ↓reduceIte, reduceCtorEq, List.reduceReplicate, Int.cast_ofNat_Int, SV.ren, SV.renL, Cell.ren, Row.ren, renO, bk, back, outUpsFrom, Ints_ren])
    | (apply cl_show
       case ha => (simp only [List.map_cons, List.map_nil, prepV, prepC, idx, hpL', lookR, Nat.reduceEqDiff, if_true, if_false]; rfl)
       case hs => ((simp [snaps, SV.refs, Cell.refs, idx, hpL', lookR]) <;> (repeat' apply And.intro) <;> exact Ints_isG _)
       case h => (first | fail)
       case hg => ((simp [SV.noG, SV.noGL, Cell.noG]) <;> (repeat' apply And.intro) <;> exact Ints_noG _)
       case' hk => simp only [decide_eq_false hpq, t1, t2, t3, l1, l2, l3, hN, go_sem, Nat.reduceEqDiff, Nat.reduceAdd, Nat.reduceSub, Nat.reduceMul, Nat.reduceLT, Nat.reduceLeDiff, ↓reduceIte, reduceCtorEq, List.reduceReplicate, Int.cast_ofNat_Int, SV.ren, SV.renL, Cell.ren, Row.ren, renO, bk, back, outUpsFrom, Ints_ren]))
          all_goals try omega
          refine le_mk (q + 1) ?_ (by omega) (by omega)
          (refine imp_ren _ _ _ [(0, 0, ⟨Ints wt, 1⟩), (1, 1, ⟨Ints O, 1⟩), (2, 2, ⟨Ints (kI (kids ps p (q + 1))), 1⟩), (3, 3, ⟨Ints (kV ws (kids ps p (q + 1))), 1⟩), (4, 4, ⟨Ints (kV wt (kids ps p (q + 1))), 1⟩)] (by simp) (by simp) (by simp) (Nat.le_of_ble_eq_true rfl) ?_ rfl (by simp only [List.forall_mem_cons, List.not_mem_nil, false_implies, implies_true, and_true, St.hpF, lookR, Nat.reduceEqDiff, if_true, if_false, ↓reduceIte, ek] <;> (repeat' apply And.intro) <;> (first | rfl | trivial)) (by simp only [List.forall_mem_cons, List.not_mem_nil, false_implies, implies_true, and_true, true_and, flat_cons, flat_nil, flat_ints, flat_bools, flat_app, Cell.refs, and_self, eq_self_iff_true, List.append_nil, ek]); simp only [List.map_cons, List.map_nil, List.forall_mem_cons, List.not_mem_nil, false_implies, implies_true, and_true, lk, slot, SV.ren, Cell.ren, toN, Nat.reduceEqDiff, if_true, if_false, ↓reduceIte, reduceCtorEq])
          all_goals first | (rw [ek]; (repeat' apply And.intro) <;> (first | rfl | trivial)) | ((repeat' apply And.intro) <;> (first | rfl | trivial))
      · have hlt2 : ¬ (q : Int) < i := by omega
        have eq' : q = i := by omega
        subst eq'
        simp only [gi, l2, l3] at hdv
        have hlk := kids_lt ps p q
        simp only [go_sem, Nat.reduceEqDiff, Nat.reduceAdd, Nat.reduceSub, Nat.reduceMul, Nat.reduceLT, Nat.reduceLeDiff, ↓reduceIte, reduceCtorEq, List.reduceReplicate, Int.cast_ofNat_Int, decide_eq_false hlt2]
        repeat' (first
    | with_reducible refine And.intro ?_ ?_
    | (unfold OKC; kernel_rfl)
    | (apply okc_up <;> (first | ((repeat (first | exact Sub.nil | apply Sub.gfp | apply Sub.same)); done) | kernel_rfl))
    | (unfold EDG; kernel_rfl)
    | (intros; (try simp only [Bool.and_eq_true, Bool.or_eq_true, Bool.not_eq_true', Bool.not_eq_false', Bool.and_eq_false_iff, Bool.or_eq_false_iff, decide_eq_true_eq, decide_eq_false_iff_not] at *); omega)
    | (refine gt_if (fun h => ?_) (fun h => ?_) <;> (first | (simp only [h, t1, t2, t3, l1, l2, l3, go_sem, Nat.reduceEqDiff, Nat.reduceAdd, Nat.reduceSub, Nat.reduceMul, Nat.reduceLT, Nat.reduceLeDiff, ↓reduceIte, reduceCtorEq, List.reduceReplicate, Int.cast_ofNat_Int]; done) | simp only [h, t1, t2, t3, l1, l2, l3, go_sem, Nat.reduceEqDiff, Nat.reduceAdd, Nat.reduceSub, Nat.reduceMul, Nat.reduceLT, Nat.reduceLeDiff, ↓reduceIte, reduceCtorEq, List.reduceReplicate, Int.cast_ofNat_Int] | skip))
    | (refine pt_if (fun h => ?_) (fun h => ?_) <;> (first | (simp only [h, t1, t2, t3, l1, l2, l3, go_sem, Nat.reduceEqDiff, Nat.reduceAdd, Nat.reduceSub, Nat.reduceMul, Nat.reduceLT, Nat.reduceLeDiff, ↓reduceIte, reduceCtorEq, List.reduceReplicate, Int.cast_ofNat_Int]; done) | simp only [h, t1, t2, t3, l1, l2, l3, go_sem, Nat.reduceEqDiff, Nat.reduceAdd, Nat.reduceSub, Nat.reduceMul, Nat.reduceLT, Nat.reduceLeDiff, ↓reduceIte, reduceCtorEq, List.reduceReplicate, Int.cast_ofNat_Int] | skip))
    | (refine cd_if (fun h => ?_) (fun h => ?_) <;> (first | (simp only [h, t1, t2, t3, l1, l2, l3, go_sem, Nat.reduceEqDiff, Nat.reduceAdd, Nat.reduceSub, Nat.reduceMul, Nat.reduceLT, Nat.reduceLeDiff, ↓reduceIte, reduceCtorEq, List.reduceReplicate, Int.cast_ofNat_Int]; done) | simp only [h, t1, t2, t3, l1, l2, l3, go_sem, Nat.reduceEqDiff, Nat.reduceAdd, Nat.reduceSub, Nat.reduceMul, Nat.reduceLT, Nat.reduceLeDiff, ↓reduceIte, reduceCtorEq, List.reduceReplicate, Int.cast_ofNat_Int] | skip))
    | (apply cl_plain
       case hs => rfl
       case ha => (simp only [List.map_cons, List.map_nil, prepV, prepC, idx, hpL', lookR, Nat.reduceEqDiff, if_true, if_false]; rfl)
       case h => (first | exact hdv ..)
       case' hk => simp only [t1, t2, t3, l1, l2, l3, go_sem, Nat.reduceEqDiff, Nat.reduceAdd, Nat.reduceSub, Nat.reduceMul, Nat.reduceLT, Nat.reduceLeDiff, ↓reduceIte, reduceCtorEq, List.reduceReplicate, Int.cast_ofNat_Int, SV.ren, SV.renL, Cell.ren, Row.ren, renO, bk, back, outUpsFrom, Ints_ren])
    | (apply cl_show
       case ha => (simp only [List.map_cons, List.map_nil, prepV, prepC, idx, hpL', lookR, Nat.reduceEqDiff, if_true, if_false]; rfl)
       case hs => ((simp [snaps, SV.refs, Cell.refs, idx, hpL', lookR]) <;> (repeat' apply And.intro) <;> exact Ints_isG _)
       case h => (first | exact hdv ..)
       case hg => ((simp [SV.noG, SV.noGL, Cell.noG]) <;> (repeat' apply And.intro) <;> exact Ints_noG _)
       case' hk => simp only [t1, t2, t3, l1, l2, l3, go_sem, Nat.reduceEqDiff, Nat.reduceAdd, Nat.reduceSub, Nat.reduceMul, Nat.reduceLT, Nat.reduceLeDiff, ↓reduceIte, reduceCtorEq, List.reduceReplicate, Int.cast_ofNat_Int, SV.ren, SV.renL, Cell.ren, Row.ren, renO, bk, back, outUpsFrom, Ints_ren]))
        refine w_loop (ι := Nat) (fun z => ⟨[(24, i1 z), (23, .one (.osl 3 0 (kids ps p q).length (some (kids ps p q).length))), (19, .one (.osl 2 0 (kids ps p q).length none)), (17, i1 p), (16, .one (.osl 1 0 q (some q))), (10, .one (.osl 0 0 q none)), (9, i1 q), (0, i1 u), (1, gi ps c), (2, gi ws d)], [(0, some ⟨Ints wt, 1⟩), (1, some ⟨Ints (putN (kids ps p q) X O z), 1⟩), (2, some ⟨Ints (kI (kids ps p q)), 1⟩), (3, some ⟨Ints X, 1⟩)], 4⟩) (fun z => z ≤ (kids ps p q).length) (fun z => (kids ps p q).length - z) 0 ?_ (Nat.zero_le _) ?_
        · (refine imp_ren _ _ _ [(0, 0, ⟨Ints wt, 1⟩), (1, 1, ⟨Ints O, 1⟩), (2, 2, ⟨Ints (kI (kids ps p q)), 1⟩), (3, 11, ⟨Ints X, 1⟩)] (by simp) (by simp) (by simp) (Nat.le_of_ble_eq_true rfl) ?_ rfl (by simp only [List.forall_mem_cons, List.not_mem_nil, false_implies, implies_true, and_true, St.hpF, lookR, Nat.reduceEqDiff, if_true, if_false, ↓reduceIte] <;> (repeat' apply And.intro) <;> (first | rfl | trivial)) (by simp only [List.forall_mem_cons, List.not_mem_nil, false_implies, implies_true, and_true, true_and, flat_cons, flat_nil, flat_ints, flat_bools, flat_app, Cell.refs, and_self, eq_self_iff_true, List.append_nil]); simp only [List.map_cons, List.map_nil, List.forall_mem_cons, List.not_mem_nil, false_implies, implies_true, and_true, lk, slot, SV.ren, Cell.ren, toN, Nat.reduceEqDiff, if_true, if_false, ↓reduceIte, reduceCtorEq])
          all_goals ((repeat' apply And.intro) <;> (first | rfl | trivial))
        intro z hz
        have hpl := putN_len (kids ps p q) X O z
        rcases Nat.lt_or_ge z (kids ps p q).length with hlz | hgz
        · have hlz2 : (z : Int) < (kids ps p q).length := by omega
          have hks := hlk ((kids ps p q).getD z 0) (by rw [List.getD_eq_getElem?_getD, List.getElem?_eq_getElem hlz]; exact List.getElem_mem _)
          have eI : (kI (kids ps p q)).getD z 0 = (((kids ps p q).getD z 0 : Nat) : Int) := by
            simp [kI, List.getD_eq_getElem?_getD, hlz]
          simp only [go_sem, Nat.reduceEqDiff, Nat.reduceAdd, Nat.reduceSub, Nat.reduceMul, Nat.reduceLT, Nat.reduceLeDiff, ↓reduceIte, reduceCtorEq, List.reduceReplicate, Int.cast_ofNat_Int, decide_eq_true hlz2]
          repeat' (first
    | with_reducible refine And.intro ?_ ?_
    | (unfold OKC; kernel_rfl)
    | (apply okc_up <;> (first | ((repeat (first | exact Sub.nil | apply Sub.gfp | apply Sub.same)); done) | kernel_rfl))
    | (unfold EDG; kernel_rfl)
    | (intros; (try simp only [Bool.and_eq_true, Bool.or_eq_true, Bool.not_eq_true', Bool.not_eq_false', Bool.and_eq_false_iff, Bool.or_eq_false_iff, decide_eq_true_eq, decide_eq_false_iff_not] at *); omega)
    | (refine gt_if (fun h => ?_) (fun h => ?_) <;> (first | (simp only [h, eI, l1, l2, l3, go_sem, Nat.reduceEqDiff, Nat.reduceAdd, Nat.reduceSub, Nat.reduceMul, Nat.reduceLT, Nat.reduceLeDiff, ↓reduceIte, reduceCtorEq, List.reduceReplicate, Int.cast_ofNat_Int]; done) | simp only [h, eI, l1, l2, l3, go_sem, Nat.reduceEqDiff, Nat.reduceAdd, Nat.reduceSub, Nat.reduceMul, Nat.reduceLT, Nat.reduceLeDiff, ↓reduceIte, reduceCtorEq, List.reduceReplicate, Int.cast_ofNat_Int] | skip))
    | (refine pt_if (fun h => ?_) (fun h => ?_) <;> (first | (simp only [h, eI, l1, l2, l3, go_sem, Nat.reduceEqDiff, Nat.reduceAdd, Nat.reduceSub, Nat.reduceMul, Nat.reduceLT, Nat.reduceLeDiff, ↓reduceIte, reduceCtorEq, List.reduceReplicate, Int.cast_ofNat_Int]; done) | simp only [h, eI, l1, l2, l3, go_sem, Nat.reduceEqDiff, Nat.reduceAdd, Nat.reduceSub, Nat.reduceMul, Nat.reduceLT, Nat.reduceLeDiff, ↓reduceIte, reduceCtorEq, List.reduceReplicate, Int.cast_ofNat_Int] | skip))
    | (refine cd_if (fun h => ?_) (fun h => ?_) <;> (first | (simp only [h, eI, l1, l2, l3, go_sem, Nat.reduceEqDiff, Nat.reduceAdd, Nat.reduceSub, Nat.reduceMul, Nat.reduceLT, Nat.reduceLeDiff, ↓reduceIte, reduceCtorEq, List.reduceReplicate, Int.cast_ofNat_Int]; done) | simp only [h, eI, l1, l2, l3, go_sem, Nat.reduceEqDiff, Nat.reduceAdd, Nat.reduceSub, Nat.reduceMul, Nat.reduceLT, Nat.reduceLeDiff, ↓reduceIte, reduceCtorEq, List.reduceReplicate, Int.cast_ofNat_Int] | skip))
    | (apply cl_plain
       case hs => rfl
       case ha => (simp only [List.map_cons, List.map_nil, prepV, prepC, idx, hpL', lookR, Nat.reduceEqDiff, if_true, if_false]; rfl)
       case h => (first | fail)
       case' hk => simp only [eI, l1, l2, l3, go_sem, Nat.reduceEqDiff, Nat.reduceAdd, Nat.reduceSub, Nat.reduceMul, Nat.reduceLT, Nat.reduceLeDiff, ↓reduceIte, reduceCtorEq, List.reduceReplicate, Int.cast_ofNat_Int, SV.ren, SV.renL, Cell.ren, Row.ren, renO, bk, back, outUpsFrom, Ints_ren])
    | (apply cl_show
       case ha => (simp only [List.map_cons, List.map_nil, prepV, prepC, idx, hpL', lookR, Nat.reduceEqDiff, if_true, if_false]; rfl)
       case hs => ((simp [snaps, SV.refs, Cell.refs, idx, hpL', lookR]) <;> (repeat' apply And.intro) <;> exact Ints_isG _)
       case h => (first | fail)
       case hg => ((simp [SV.noG, SV.noGL, Cell.noG]) <;> (repeat' apply And.intro) <;> exact Ints_noG _)
       case' hk => simp only [eI, l1, l2, l3, go_sem, Nat.reduceEqDiff, Nat.reduceAdd, Nat.reduceSub, Nat.reduceMul, Nat.reduceLT, Nat.reduceLeDiff, ↓reduceIte, reduceCtorEq, List.reduceReplicate, Int.cast_ofNat_Int, SV.ren, SV.renL, Cell.ren, Row.ren, renO, bk, back, outUpsFrom, Ints_ren]))
          all_goals try omega
          refine le_mk (z + 1) ?_ (by omega) (by omega)
          (refine imp_ren _ _ _ [(0, 0, ⟨Ints wt, 1⟩), (1, 1, ⟨Ints (putN (kids ps p q) X O (z + 1)), 1⟩), (2, 2, ⟨Ints (kI (kids ps p q)), 1⟩), (3, 3, ⟨Ints X, 1⟩)] (by simp) (by simp) (by simp) (Nat.le_of_ble_eq_true rfl) ?_ rfl (by simp only [List.forall_mem_cons, List.not_mem_nil, false_implies, implies_true, and_true, St.hpF, lookR, Nat.reduceEqDiff, if_true, if_false, ↓reduceIte, putN, eI, Int.toNat_natCast] <;> (repeat' apply And.intro) <;> (first | rfl | trivial)) (by simp only [List.forall_mem_cons, List.not_mem_nil, false_implies, implies_true, and_true, true_and, flat_cons, flat_nil, flat_ints, flat_bools, flat_app, Cell.refs, and_self, eq_self_iff_true, List.append_nil, putN, eI, Int.toNat_natCast]); simp only [List.map_cons, List.map_nil, List.forall_mem_cons, List.not_mem_nil, false_implies, implies_true, and_true, lk, slot, SV.ren, Cell.ren, toN, Nat.reduceEqDiff, if_true, if_false, ↓reduceIte, reduceCtorEq])
          all_goals ((repeat' apply And.intro) <;> (first | rfl | trivial))
        · have hlz2 : ¬ (z : Int) < (kids ps p q).length := by omega
          have ez : z = (kids ps p q).length := by omega
          subst ez
          rw [← hPF, ← hst]
          simp only [go_sem, Nat.reduceEqDiff, Nat.reduceAdd, Nat.reduceSub, Nat.reduceMul, Nat.reduceLT, Nat.reduceLeDiff, ↓reduceIte, reduceCtorEq, List.reduceReplicate, Int.cast_ofNat_Int, decide_eq_false hlz2]
          repeat' (first
    | with_reducible refine And.intro ?_ ?_
    | (unfold OKC; kernel_rfl)
    | (apply okc_up <;> (first | ((repeat (first | exact Sub.nil | apply Sub.gfp | apply Sub.same)); done) | kernel_rfl))
    | (unfold EDG; kernel_rfl)
    | (intros; (try simp only [Bool.and_eq_true, Bool.or_eq_true, Bool.not_eq_true', Bool.not_eq_false', Bool.and_eq_false_iff, Bool.or_eq_false_iff, decide_eq_true_eq, decide_eq_false_iff_not] at *); omega)
    | (refine gt_if (fun h => ?_) (fun h => ?_) <;> (first | (simp only [h, go_sem, Nat.reduceEqDiff, Nat.reduceAdd, Nat.reduceSub, Nat.reduceMul, Nat.reduceLT, Nat.reduceLeDiff, ↓reduceIte, reduceCtorEq, List.reduceReplicate, Int.cast_ofNat_Int]; done) | simp only [h, go_sem, Nat.reduceEqDiff, Nat.reduceAdd, Nat.reduceSub, Nat.reduceMul, Nat.reduceLT, Nat.reduceLeDiff, ↓reduceIte, reduceCtorEq, List.reduceReplicate, Int.cast_ofNat_Int] | skip))
    | (refine pt_if (fun h => ?_) (fun h => ?_) <;> (first | (simp only [h, go_sem, Nat.reduceEqDiff, Nat.reduceAdd, Nat.reduceSub, Nat.reduceMul, Nat.reduceLT, Nat.reduceLeDiff, ↓reduceIte, reduceCtorEq, List.reduceReplicate, Int.cast_ofNat_Int]; done) | simp only [h, go_sem, Nat.reduceEqDiff, Nat.reduceAdd, Nat.reduceSub, Nat.reduceMul, Nat.reduceLT, Nat.reduceLeDiff, ↓reduceIte, reduceCtorEq, List.reduceReplicate, Int.cast_ofNat_Int] | skip))
    | (refine cd_if (fun h => ?_) (fun h => ?_) <;> (first | (simp only [h, go_sem, Nat.reduceEqDiff, Nat.reduceAdd, Nat.reduceSub, Nat.reduceMul, Nat.reduceLT, Nat.reduceLeDiff, ↓reduceIte, reduceCtorEq, List.reduceReplicate, Int.cast_ofNat_Int]; done) | simp only [h, go_sem, Nat.reduceEqDiff, Nat.reduceAdd, Nat.reduceSub, Nat.reduceMul, Nat.reduceLT, Nat.reduceLeDiff, ↓reduceIte, reduceCtorEq, List.reduceReplicate, Int.cast_ofNat_Int] | skip))
    | (apply cl_plain
       case hs => rfl
       case ha => (simp only [List.map_cons, List.map_nil, prepV, prepC, idx, hpL', lookR, Nat.reduceEqDiff, if_true, if_false]; rfl)
       case h => (first | fail)
       case' hk => simp only [go_sem, Nat.reduceEqDiff, Nat.reduceAdd, Nat.reduceSub, Nat.reduceMul, Nat.reduceLT, Nat.reduceLeDiff, ↓reduceIte, reduceCtorEq, List.reduceReplicate, Int.cast_ofNat_Int, SV.ren, SV.renL, Cell.ren, Row.ren, renO, bk, back, outUpsFrom, Ints_ren])
    | (apply cl_show
       case ha => (simp only [List.map_cons, List.map_nil, prepV, prepC, idx, hpL', lookR, Nat.reduceEqDiff, if_true, if_false]; rfl)
       case hs => ((simp [snaps, SV.refs, Cell.refs, idx, hpL', lookR]) <;> (repeat' apply And.intro) <;> exact Ints_isG _)
       case h => (first | fail)
       case hg => ((simp [SV.noG, SV.noGL, Cell.noG]) <;> (repeat' apply And.intro) <;> exact Ints_noG _)
       case' hk => simp only [go_sem, Nat.reduceEqDiff, Nat.reduceAdd, Nat.reduceSub, Nat.reduceMul, Nat.reduceLT, Nat.reduceLeDiff, ↓reduceIte, reduceCtorEq, List.reduceReplicate, Int.cast_ofNat_Int, SV.ren, SV.renL, Cell.ren, Row.ren, renO, bk, back, outUpsFrom, Ints_ren]))
          refine le_mk (j + 1) ?_ (by omega) (by omega)
          (refine imp_ren _ _ _ [(0, 0, ⟨Ints wt, 1⟩), (1, 1, ⟨Ints (stN ps ws wt u (j + 1)), 1⟩)] (by simp) (by simp) (by simp) (Nat.le_of_ble_eq_true rfl) ?_ rfl (by simp only [List.forall_mem_cons, List.not_mem_nil, false_implies, implies_true, and_true, St.hpF, lookR, Nat.reduceEqDiff, if_true, if_false, ↓reduceIte] <;> (repeat' apply And.intro) <;> (first | rfl | trivial)) (by simp only [List.forall_mem_cons, List.not_mem_nil, false_implies, implies_true, and_true, true_and, flat_cons, flat_nil, flat_ints, flat_bools, flat_app, Cell.refs, and_self, eq_self_iff_true, List.append_nil]); simp only [List.map_cons, List.map_nil, List.forall_mem_cons, List.not_mem_nil, false_implies, implies_true, and_true, lk, slot, SV.ren, Cell.ren, toN, Nat.reduceEqDiff, if_true, if_false, ↓reduceIte, reduceCtorEq])
          rw [show p + 1 = ((j + 1 : Nat) : Int) - 1 by omega]
          all_goals ((repeat' apply And.intro) <;> (first | rfl | trivial))
end Go.Proofs.Ytcfkmkabjalgjab
