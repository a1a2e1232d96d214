/- Contracts of functions, told of values, on the way to BandwidthDrains. -/
import Derived.Test.YtlaplcjenndigaaTyBa
import Derived.Test.YtlaplcjenndigaaBw7Ba
-- NEWGO
-- PRUNE: cg_ts cg_show cl_use cl_lend cl_lendx
namespace Go.Proofs.Ytlaplcjenndigaa
set_option linter.unusedVariables false
set_option linter.unusedSimpArgs false
open Go.Proofs.Ytlaplcjenndigaa.Sh
set_option maxRecDepth 20000
theorem getD_set_self {c : List Int} {i : Nat} {v : Int} (h : i < c.length) : (c.set i v).getD i 0 = v := by
  rw [List.getD_eq_getElem?_getD, List.getElem?_set_self h]; rfl
theorem getD_set_ne {c : List Int} {i j : Nat} {v : Int} (h : i ≠ j) : (c.set i v).getD j 0 = c.getD j 0 := by
  rw [List.getD_eq_getElem?_getD, List.getElem?_set_ne h, List.getD_eq_getElem?_getD]
theorem sumN_set {c : List Int} {i : Nat} {v : Int} (h : i < c.length) : ∀ n, sumN (c.set i v) n = sumN c n + (if i < n then v - c.getD i 0 else 0)
  | 0 => by simp [sumN]
  | n + 1 => by
    simp only [sumN, sumN_set h n]
    by_cases e : i = n
    · subst e
      rw [getD_set_self h, if_neg (by omega), if_pos (by omega)]; omega
    · rw [getD_set_ne e]
      by_cases h2 : i < n
      · rw [if_pos h2, if_pos (by omega)]; omega
      · rw [if_neg h2, if_neg (by omega)]; omega
theorem tot_set {c : List Int} {i : Nat} {v : Int} (h : i < c.length) : tot (c.set i v) = tot c + (v - c.getD i 0) := by
  simp only [tot, List.length_set, sumN_set h, if_pos h]
theorem sumN_ge {c : List Int} (h : ∀ i, 0 ≤ c.getD i 0) : ∀ n, 0 ≤ sumN c n ∧ ∀ i, i < n → c.getD i 0 ≤ sumN c n
  | 0 => ⟨Int.le_refl _, fun i hi => by omega⟩
  | n + 1 => by
    have h1 := sumN_ge h n
    have h2 := h n
    refine ⟨by simp only [sumN]; omega, fun i hi => ?_⟩
    simp only [sumN]
    rcases Nat.lt_or_ge i n with hl | hl
    · have := h1.2 i hl; omega
    · have : i = n := by omega
      subst this; omega
theorem mn_comm (a b : Int) : mn a b = mn b a := by unfold mn; split <;> split <;> omega
/-- numbers of a list made less, from its end on -/
def lsN (c : List Int) (ex : Int) : Nat → List Int × Int
  | 0 => (c, ex)
  | n + 1 => ((lsN c ex n).1.set (c.length - 1 - n) ((lsN c ex n).1.getD (c.length - 1 - n) 0 - mn ((lsN c ex n).1.getD (c.length - 1 - n) 0) (lsN c ex n).2), (lsN c ex n).2 - mn ((lsN c ex n).1.getD (c.length - 1 - n) 0) (lsN c ex n).2)
theorem lsN_len (c : List Int) (ex : Int) : ∀ n, (lsN c ex n).1.length = c.length
  | 0 => rfl
  | n + 1 => by simp [lsN, lsN_len c ex n]
theorem lsN_ok {c : List Int} {ex B : Int} (hc : ∀ i, 0 ≤ c.getD i 0 ∧ c.getD i 0 ≤ B) (he : 0 ≤ ex) : ∀ n, n ≤ c.length → (∀ i, 0 ≤ (lsN c ex n).1.getD i 0 ∧ (lsN c ex n).1.getD i 0 ≤ B) ∧ (0 ≤ (lsN c ex n).2 ∧ (lsN c ex n).2 ≤ ex) ∧ tot (lsN c ex n).1 - (lsN c ex n).2 = tot c - ex ∧
    (0 < (lsN c ex n).2 → ∀ i, c.length - n ≤ i → (lsN c ex n).1.getD i 0 = 0)
  | 0, _ => ⟨hc, ⟨he, Int.le_refl _⟩, rfl, fun _ i hi => by
    show c.getD i 0 = 0
    rw [List.getD_eq_getElem?_getD, List.getElem?_eq_none (by omega)]; rfl⟩
  | n + 1, hn => by
    obtain ⟨h1, h2, h3, h4⟩ := lsN_ok hc he n (by omega)
    have hl := lsN_len c ex n
    have hi : c.length - 1 - n < (lsN c ex n).1.length := by omega
    have h5 := h1 (c.length - 1 - n)
    have hm := mn_le ((lsN c ex n).1.getD (c.length - 1 - n) 0) (lsN c ex n).2
    simp only [lsN]
    generalize (lsN c ex n).2 = e at *
    generalize (lsN c ex n).1 = d at *
    generalize hmm : mn (d.getD (c.length - 1 - n) 0) e = m at *
    refine ⟨fun i => ?_, ⟨by omega, by omega⟩, ?_, fun he2 i hi2 => ?_⟩
    · by_cases e1 : c.length - 1 - n = i
      · subst e1; rw [getD_set_self hi]; omega
      · rw [getD_set_ne e1]; exact h1 i
    · rw [tot_set hi]; omega
    · by_cases e1 : c.length - 1 - n = i
      · subst e1; rw [getD_set_self hi]; omega
      · rw [getD_set_ne e1]; exact h4 (by omega) i (by omega)
theorem lsN_end {c : List Int} {ex B : Int} (hc : ∀ i, 0 ≤ c.getD i 0 ∧ c.getD i 0 ≤ B) (he : 0 ≤ ex) (hs : ex ≤ tot c) : (lsN c ex c.length).2 = 0 ∧ tot (lsN c ex c.length).1 = tot c - ex ∧ ∀ i, 0 ≤ (lsN c ex c.length).1.getD i 0 := by
  obtain ⟨h1, h2, h3, h4⟩ := lsN_ok hc he c.length (Nat.le_refl _)
  have hz : (lsN c ex c.length).2 = 0 := by
    rcases Int.lt_or_le 0 (lsN c ex c.length).2 with h | h
    · have h5 := h4 h
      have : ∀ n, sumN (lsN c ex c.length).1 n = 0 := by
        intro n
        induction n with
        | zero => rfl
        | succ n ih => simp only [sumN, ih, h5 n (by omega)]; rfl
      have := this (lsN c ex c.length).1.length
      simp only [tot] at h3 hs ⊢; omega
    · omega
  exact ⟨hz, by omega, fun i => (h1 i).1⟩
def pov (x : Pl) (q b : Int) : Int := if 0 < hld x - mst { x with q := q, b := b } then hld x - mst { x with q := q, b := b } else 0
def pchg (x : Pl) (q b : Int) : Pl := { x with q := q, b := b, l := x.l - mn x.l (pov x q b), c := (lsN x.c (pov x q b - mn x.l (pov x q b)) x.c.length).1 }
def pchange (x : Pl) (q b : Int) : Pl × Int := if pck x = false then (pz, 1) else if stl q b = false then (pz, 3) else (pchg x q b, 0)
theorem pov_rng {x : Pl} {q b : Int} (h : pck x = true) (hs : 0 ≤ mst { x with q := q, b := b }) : 0 ≤ pov x q b ∧ pov x q b ≤ hld x ∧ hld x - pov x q b ≤ mst { x with q := q, b := b } ∧ (pov x q b = 0 ∨ hld x - pov x q b = mst { x with q := q, b := b }) := by
  have h1 := hld_ge h
  unfold pov
  split <;> omega
theorem call_of {x : Pl} (h0 : ∀ i, 0 ≤ x.c.getD i 0) (hl : 0 ≤ x.l) (hh : hld x ≤ mst x) : call x = true ∧ x.l ≤ mst x := by
  have h1 := sumN_ge h0 x.c.length
  simp only [hld, tot] at hh
  refine ⟨List.all_eq_true.2 fun y hy => ?_, by omega⟩
  obtain ⟨i, hi, rfl⟩ := List.mem_iff_getElem.1 hy
  have h2 := h1.2 i hi
  have h3 := h0 i
  rw [List.getD_eq_getElem?_getD, List.getElem?_eq_getElem hi, Option.getD_some] at h2 h3
  rw [wi_iff]; omega
theorem pchg_ok {x : Pl} {q b : Int} (h : pck x = true) (hs : stl q b = true) : pck (pchg x q b) = true ∧ hld (pchg x q b) = hld x - pov x q b := by
  have hp := pov_rng h (mst_rng (x := { x with q := q, b := b }) hs).1
  have hn := nums h
  have hm := mn_le x.l (pov x q b)
  have hl := hn.l
  have h0 := pck_all h
  have hH : hld x = x.l + tot x.c := rfl
  have ht : 0 ≤ tot x.c := (sumN_ge (fun i => (h0 i).1) x.c.length).1
  have he := lsN_end (c := x.c) (ex := pov x q b - mn x.l (pov x q b)) h0 (by omega) (by omega)
  have hlen : (pchg x q b).c.length = x.c.length := lsN_len _ _ _
  have hh : hld (pchg x q b) = hld x - pov x q b := by
    have : hld (pchg x q b) = (x.l - mn x.l (pov x q b)) + tot (lsN x.c (pov x q b - mn x.l (pov x q b)) x.c.length).1 := rfl
    rw [this, he.2.1]; omega
  have hmst : mst (pchg x q b) = mst { x with q := q, b := b } := rfl
  have hc := call_of (x := pchg x q b) he.2.2 (by show 0 ≤ x.l - mn x.l (pov x q b); omega) (by rw [hh, hmst]; omega)
  refine ⟨?_, hh⟩
  rw [pck_iff]
  exact ⟨hn.g, hs, hn.s, by rw [hlen]; exact hn.len, ⟨hc.1, ⟨by show 0 ≤ x.l - mn x.l (pov x q b); omega, hc.2⟩, by rw [hh, hmst]; omega⟩, hn.sp, hn.pe, hn.th⟩
theorem i1_eq {a b : Int} (h : a = b) : some (SV.one (.sc (.int .i64 a))) = some (i1 b) := by rw [h]
theorem lessen_spec (n ex : Int) (h1 : 0 ≤ n ∧ n ≤ 1000000000000) (h2 : 0 ≤ ex ∧ ex ≤ 1000000000000) : FnSpec Try.prog 50 [i1 n, i1 ex] [] (.tup [i1 (n - mn n ex), i1 (ex - mn n ex)]) [] := by
  have hm := mn_le n ex
  have e : mn n ex = if ex < n then ex else n := rfl
  rw [e] at hm ⊢
  refine fnspec_of mixed TT_ok TT_cl ⟨fun _ => false, fun _ => [], 0, fun _ => false, fun _ => false⟩ Try.func50 rfl (by kernel_rfl) rfl 16 rfl [.tmp 4, .tmp 5] rfl ?_
  simp only [go_sem, Nat.reduceEqDiff, Nat.reduceAdd, Nat.reduceSub, Nat.reduceMul, Nat.reduceLT, Nat.reduceLeDiff, ↓reduceIte, reduceCtorEq, List.reduceReplicate, Int.cast_ofNat_Int, Int.reduceEq, Int.reduceLT, Int.reduceLE]
  repeat' (first
    | with_reducible refine And.intro ?_ ?_
    | (unfold OKC; kernel_rfl)
    | (apply okc_up <;> (first | ((repeat (first | exact Sub.nil | apply Sub.gfp | apply Sub.same)); done) | kernel_rfl))
    | (unfold EDG; kernel_rfl)
    | (intros; (try simp only [Bool.and_eq_true, Bool.or_eq_true, Bool.not_eq_true', Bool.not_eq_false', Bool.and_eq_false_iff, Bool.or_eq_false_iff, decide_eq_true_eq, decide_eq_false_iff_not] at *); omega)
    | (refine gt_if (fun h => ?_) (fun h => ?_) <;> (try simp only [h]))
    | (refine pt_if (fun h => ?_) (fun h => ?_) <;> (try simp only [h]))
    | (refine cd_if (fun h => ?_) (fun h => ?_) <;> (try simp only [h]))
    | (apply cg_tp
       case hl => rfl
       case ha => (simp only [List.map_cons, List.map_nil, prepV, prepC, idx, hpL', lookR, Nat.reduceEqDiff, if_true, if_false]; rfl)
       case hs => rfl
       case h => (first | fail))
    | (apply cg_any
       case hl => rfl
       case ha => (intro hb; simp only [List.map_cons, List.map_nil, cnd, hb, if_true, prepV, prepC, idx, hpL', lookR, Nat.reduceEqDiff, if_false]; rfl)
       case hs => (intro hb; simp only [cnd, hb, if_true]; rfl)
       case h => (first | fail))
    | (apply cl_plain
       case hs => rfl
       case ha => (simp only [List.map_cons, List.map_nil, prepV, prepC, idx, hpL', lookR, Nat.reduceEqDiff, if_true, if_false]; rfl)
       case h => (first | fail))
    | (apply cl_show
       case ha => (simp only [List.map_cons, List.map_nil, prepV, prepC, idx, hpL', lookR, Nat.reduceEqDiff, if_true, if_false]; rfl)
       case hs => ((simp [snaps, SV.refs, Cell.refs, idx, hpL', lookR]) <;> (repeat' apply And.intro) <;> exact Ints_isG _)
       case h => (first | fail)
       case hg => ((simp [SV.noG, SV.noGL, Cell.noG]) <;> (repeat' apply And.intro) <;> exact Ints_noG _))
    | ((first | refine s1_id ?_ | refine swp_id ?_ | refine sops_id ?_ | refine s2_id ?_); simp only [go_sem, Nat.reduceEqDiff, Nat.reduceAdd, Nat.reduceSub, Nat.reduceMul, Nat.reduceLT, Nat.reduceLeDiff, ↓reduceIte, reduceCtorEq, List.reduceReplicate, Int.cast_ofNat_Int, Int.reduceEq, Int.reduceLT, Int.reduceLE, SV.ren, SV.renL, Cell.ren, Row.ren, renO, bk, back, outUpsFrom, Ints_ren])
    | (apply fs_nil <;> (try simp only [go_sem, resV, resS, SV.ren, SV.renL, Cell.ren, St.tmF, St.hpF, idx, renO, Row.ren, evS, slot, lookR, Nat.reduceEqDiff, ↓reduceIte, reduceCtorEq, if_true, if_false, Option.getD_some, Option.getD_none, List.map_cons, List.map_nil, sLoad, readAt, readNeed, Ints_ren, Ints_length, Ints_getD, and_true, true_and, List.getD_cons_zero, List.getD_cons_succ]) <;> (try rfl)))
theorem change_spec (x : Pl) (k : Option Nat) (q' b' : Int) : FnSpec Try.prog 32 [plt x k, i1 q', i1 b'] [] (pre (pchange x q' b')) [] := by
  have h1 := check_spec x k
  unfold pchange
  split
  · rename_i h0
    rw [h0] at h1
    clear h0
    obtain ⟨g, q, b, s, l, c, sp, pe, th, em⟩ := x
    simp only [plt, plc, pz, pre] at *
    refine fnspec_of mixed TT_ok TT_cl ⟨fun _ => false, fun _ => [], 0, fun _ => false, fun _ => false⟩ Try.func32 rfl (by kernel_rfl) rfl 63 rfl [.cell 6 26, .tmp 7] rfl ?_
    simp only [go_sem, Nat.reduceEqDiff, Nat.reduceAdd, Nat.reduceSub, Nat.reduceMul, Nat.reduceLT, Nat.reduceLeDiff, ↓reduceIte, reduceCtorEq, List.reduceReplicate, Int.cast_ofNat_Int, Int.reduceEq, Int.reduceLT, Int.reduceLE, plc]
    repeat' (first
    | with_reducible refine And.intro ?_ ?_
    | (unfold OKC; kernel_rfl)
    | (apply okc_up <;> (first | ((repeat (first | exact Sub.nil | apply Sub.gfp | apply Sub.same)); done) | kernel_rfl))
    | (unfold EDG; kernel_rfl)
    | (intros; (try simp only [Bool.and_eq_true, Bool.or_eq_true, Bool.not_eq_true', Bool.not_eq_false', Bool.and_eq_false_iff, Bool.or_eq_false_iff, decide_eq_true_eq, decide_eq_false_iff_not] at *); omega)
    | (refine gt_if (fun h => ?_) (fun h => ?_) <;> (try simp only [h]))
    | (refine pt_if (fun h => ?_) (fun h => ?_) <;> (try simp only [h]))
    | (refine cd_if (fun h => ?_) (fun h => ?_) <;> (try simp only [h]))
    | (apply cg_tp
       case hl => rfl
       case ha => (simp only [List.map_cons, List.map_nil, prepV, prepC, idx, hpL', lookR, Nat.reduceEqDiff, if_true, if_false]; rfl)
       case hs => rfl
       case h => (first | exact h1 ..))
    | (apply cg_any
       case hl => rfl
       case ha => (intro hb; simp only [List.map_cons, List.map_nil, cnd, hb, if_true, prepV, prepC, idx, hpL', lookR, Nat.reduceEqDiff, if_false]; rfl)
       case hs => (intro hb; simp only [cnd, hb, if_true]; rfl)
       case h => (first | exact h1 ..))
    | (apply cl_plain
       case hs => rfl
       case ha => (simp only [List.map_cons, List.map_nil, prepV, prepC, idx, hpL', lookR, Nat.reduceEqDiff, if_true, if_false]; rfl)
       case h => (first | exact h1 ..))
    | (apply cl_show
       case ha => (simp only [List.map_cons, List.map_nil, prepV, prepC, idx, hpL', lookR, Nat.reduceEqDiff, if_true, if_false]; rfl)
       case hs => ((simp [snaps, SV.refs, Cell.refs, idx, hpL', lookR]) <;> (repeat' apply And.intro) <;> exact Ints_isG _)
       case h => (first | exact h1 ..)
       case hg => ((simp [SV.noG, SV.noGL, Cell.noG]) <;> (repeat' apply And.intro) <;> exact Ints_noG _))
    | ((first | refine s1_id ?_ | refine swp_id ?_ | refine sops_id ?_ | refine s2_id ?_); simp only [plc, go_sem, Nat.reduceEqDiff, Nat.reduceAdd, Nat.reduceSub, Nat.reduceMul, Nat.reduceLT, Nat.reduceLeDiff, ↓reduceIte, reduceCtorEq, List.reduceReplicate, Int.cast_ofNat_Int, Int.reduceEq, Int.reduceLT, Int.reduceLE, SV.ren, SV.renL, Cell.ren, Row.ren, renO, bk, back, outUpsFrom, Ints_ren]))
    (refine fs_w (by simp only [go_sem, resV, resS, SV.ren, SV.renL, Cell.ren, St.tmF, St.hpF, idx, renO, Row.ren, evS, slot, lookR, Nat.reduceEqDiff, ↓reduceIte, reduceCtorEq, if_true, if_false, Option.getD_some, Option.getD_none, List.map_cons, List.map_nil, sLoad, readAt, readNeed, Ints_ren, Ints_length, Ints_getD, and_true, true_and, List.getD_cons_zero, List.getD_cons_succ]; try trivial) ?_; simp only [go_sem, resV, resS, SV.ren, SV.renL, Cell.ren, St.tmF, St.hpF, idx, renO, Row.ren, evS, slot, lookR, Nat.reduceEqDiff, ↓reduceIte, reduceCtorEq, if_true, if_false, Option.getD_some, Option.getD_none, List.map_cons, List.map_nil, sLoad, readAt, readNeed, Ints_ren, Ints_length, Ints_getD, and_true, true_and, List.getD_cons_zero, List.getD_cons_succ]; refine svw_of ?_; simp only [sw_tup, swl_cons, swl_nil, sw_one, sw_agg, cwl_cons, cwl_nil, cw_id, cw_nil0, cw_cap0, List.length_nil, and_true, true_and, and_self] <;> (try ((repeat' with_reducible apply And.intro) <;> (first | with_reducible trivial | exact cw_rfl _ | exact cw_gnil | exact cw_niln _ _ | exact cw_cap _ _ _ _ | (refine cw_eq ?_; congr; done)))))
  · rename_i h0
    rw [Bool.not_eq_false] at h0
    rw [h0] at h1
    split
    · rename_i hs
      clear h0
      obtain ⟨g, q, b, s, l, c, sp, pe, th, em⟩ := x
      simp only [plt, plc, pz, pre] at *
      refine fnspec_of mixed TT_ok TT_cl ⟨fun _ => false, fun _ => [], 0, fun _ => false, fun _ => false⟩ Try.func32 rfl (by kernel_rfl) rfl 63 rfl [.cell 6 26, .tmp 7] rfl ?_
      simp only [go_sem, Nat.reduceEqDiff, Nat.reduceAdd, Nat.reduceSub, Nat.reduceMul, Nat.reduceLT, Nat.reduceLeDiff, ↓reduceIte, reduceCtorEq, List.reduceReplicate, Int.cast_ofNat_Int, Int.reduceEq, Int.reduceLT, Int.reduceLE, plc]
      repeat' (first
    | with_reducible refine And.intro ?_ ?_
    | (unfold OKC; kernel_rfl)
    | (apply okc_up <;> (first | ((repeat (first | exact Sub.nil | apply Sub.gfp | apply Sub.same)); done) | kernel_rfl))
    | (unfold EDG; kernel_rfl)
    | (intros; (try simp only [Bool.and_eq_true, Bool.or_eq_true, Bool.not_eq_true', Bool.not_eq_false', Bool.and_eq_false_iff, Bool.or_eq_false_iff, decide_eq_true_eq, decide_eq_false_iff_not] at *); omega)
    | (refine gt_if (fun h => ?_) (fun h => ?_) <;> (try simp only [h]))
    | (refine pt_if (fun h => ?_) (fun h => ?_) <;> (try simp only [h]))
    | (refine cd_if (fun h => ?_) (fun h => ?_) <;> (try simp only [h]))
    | (apply cg_tp
       case hl => rfl
       case ha => (simp only [List.map_cons, List.map_nil, prepV, prepC, idx, hpL', lookR, Nat.reduceEqDiff, if_true, if_false]; rfl)
       case hs => rfl
       case h => (first | exact h1 .. | exact settable_spec ..))
    | (apply cg_any
       case hl => rfl
       case ha => (intro hb; simp only [List.map_cons, List.map_nil, cnd, hb, if_true, prepV, prepC, idx, hpL', lookR, Nat.reduceEqDiff, if_false]; rfl)
       case hs => (intro hb; simp only [cnd, hb, if_true]; rfl)
       case h => (first | exact h1 .. | exact settable_spec ..))
    | (apply cl_plain
       case hs => rfl
       case ha => (simp only [List.map_cons, List.map_nil, prepV, prepC, idx, hpL', lookR, Nat.reduceEqDiff, if_true, if_false]; rfl)
       case h => (first | exact h1 .. | exact settable_spec ..))
    | (apply cl_show
       case ha => (simp only [List.map_cons, List.map_nil, prepV, prepC, idx, hpL', lookR, Nat.reduceEqDiff, if_true, if_false]; rfl)
       case hs => ((simp [snaps, SV.refs, Cell.refs, idx, hpL', lookR]) <;> (repeat' apply And.intro) <;> exact Ints_isG _)
       case h => (first | exact h1 .. | exact settable_spec ..)
       case hg => ((simp [SV.noG, SV.noGL, Cell.noG]) <;> (repeat' apply And.intro) <;> exact Ints_noG _))
    | ((first | refine s1_id ?_ | refine swp_id ?_ | refine sops_id ?_ | refine s2_id ?_); simp only [plc, hs, go_sem, Nat.reduceEqDiff, Nat.reduceAdd, Nat.reduceSub, Nat.reduceMul, Nat.reduceLT, Nat.reduceLeDiff, ↓reduceIte, reduceCtorEq, List.reduceReplicate, Int.cast_ofNat_Int, Int.reduceEq, Int.reduceLT, Int.reduceLE, SV.ren, SV.renL, Cell.ren, Row.ren, renO, bk, back, outUpsFrom, Ints_ren]))
      (refine fs_w (by simp only [go_sem, resV, resS, SV.ren, SV.renL, Cell.ren, St.tmF, St.hpF, idx, renO, Row.ren, evS, slot, lookR, Nat.reduceEqDiff, ↓reduceIte, reduceCtorEq, if_true, if_false, Option.getD_some, Option.getD_none, List.map_cons, List.map_nil, sLoad, readAt, readNeed, Ints_ren, Ints_length, Ints_getD, and_true, true_and, List.getD_cons_zero, List.getD_cons_succ]; try trivial) ?_; simp only [go_sem, resV, resS, SV.ren, SV.renL, Cell.ren, St.tmF, St.hpF, idx, renO, Row.ren, evS, slot, lookR, Nat.reduceEqDiff, ↓reduceIte, reduceCtorEq, if_true, if_false, Option.getD_some, Option.getD_none, List.map_cons, List.map_nil, sLoad, readAt, readNeed, Ints_ren, Ints_length, Ints_getD, and_true, true_and, List.getD_cons_zero, List.getD_cons_succ]; refine svw_of ?_; simp only [sw_tup, swl_cons, swl_nil, sw_one, sw_agg, cwl_cons, cwl_nil, cw_id, cw_nil0, cw_cap0, List.length_nil, and_true, true_and, and_self] <;> (try ((repeat' with_reducible apply And.intro) <;> (first | with_reducible trivial | exact cw_rfl _ | exact cw_gnil | exact cw_niln _ _ | exact cw_cap _ _ _ _ | (refine cw_eq ?_; congr; done)))))
    · rename_i hs
      rw [Bool.not_eq_false] at hs
      have hn := nums h0
      have hp := pov_rng h0 (mst_rng (x := { x with q := q', b := b' }) hs).1
      have hall := pck_all h0
      have hlen := hn.len
      have hL := hn.l
      have hM := hn.m
      have hH := hn.h
      have h2 := held_spec x k (sml_pck h0)
      have h3 := copy_spec x k (by omega) (by omega)
      have h4 := most_spec { x with q := q', b := b' } none hs
      have hm2 := mst_rng (x := { x with q := q', b := b' }) hs
      have hh := hld_ge h0
      have hmn := mn_le x.l (pov x q' b')
      have hok := lsN_ok (c := x.c) (ex := pov x q' b' - mn x.l (pov x q' b')) hall (by omega)
      have hln := lsN_len x.c (pov x q' b' - mn x.l (pov x q' b'))
      have hl1 := lessen_spec x.l (pov x q' b') (by omega) (by omega)
      have epov : pov x q' b' = if 0 < hld x - mst { x with q := q', b := b' } then hld x - mst { x with q := q', b := b' } else 0 := rfl
      simp only [pre, plt, plc, pchg, hln]
      generalize mn x.l (pov x q' b') = n0 at *
      generalize pov x q' b' = ov at *
      generalize hld x = H at *
      generalize mst x = M at *
      generalize mst { x with q := q', b := b' } = M2 at *
      clear h0 hn
      obtain ⟨g, q, b, s, l, c, sp, pe, th, em⟩ := x
      simp only [plt, plc, plo] at *
      refine fnspec_of mixed TT_ok TT_cl ⟨fun _ => false, fun _ => [], 0, fun _ => false, fun _ => false⟩ Try.func32 rfl (by kernel_rfl) rfl 63 rfl [.cell 6 26, .tmp 7] rfl ?_
      simp only [go_sem, Nat.reduceEqDiff, Nat.reduceAdd, Nat.reduceSub, Nat.reduceMul, Nat.reduceLT, Nat.reduceLeDiff, ↓reduceIte, reduceCtorEq, List.reduceReplicate, Int.cast_ofNat_Int, Int.reduceEq, Int.reduceLT, Int.reduceLE, plc, plo]
      repeat' (first
    | with_reducible refine And.intro ?_ ?_
    | (unfold OKC; kernel_rfl)
    | (apply okc_up <;> (first | ((repeat (first | exact Sub.nil | apply Sub.gfp | apply Sub.same)); done) | kernel_rfl))
    | (unfold EDG; kernel_rfl)
    | (intros; (try simp only [Bool.and_eq_true, Bool.or_eq_true, Bool.not_eq_true', Bool.not_eq_false', Bool.and_eq_false_iff, Bool.or_eq_false_iff, decide_eq_true_eq, decide_eq_false_iff_not] at *); omega)
    | (refine gt_if (fun h => ?_) (fun h => ?_) <;> (try simp only [h]))
    | (refine pt_if (fun h => ?_) (fun h => ?_) <;> (try simp only [h]))
    | (refine cd_if (fun h => ?_) (fun h => ?_) <;> (try simp only [h]))
    | (apply cg_tp
       case hl => rfl
       case ha => (simp only [List.map_cons, List.map_nil, prepV, prepC, idx, hpL', lookR, Nat.reduceEqDiff, if_true, if_false]; rfl)
       case hs => rfl
       case h => (first | exact h1 .. | exact settable_spec .. | exact h2 .. | exact h3 .. | exact h4 .. | exact hl1 ..))
    | (apply cg_any
       case hl => rfl
       case ha => (intro hb; simp only [List.map_cons, List.map_nil, cnd, hb, if_true, prepV, prepC, idx, hpL', lookR, Nat.reduceEqDiff, if_false]; rfl)
       case hs => (intro hb; simp only [cnd, hb, if_true]; rfl)
       case h => (first | exact h1 .. | exact settable_spec .. | exact h2 .. | exact h3 .. | exact h4 .. | exact hl1 ..))
    | (apply cl_plain
       case hs => rfl
       case ha => (simp only [List.map_cons, List.map_nil, prepV, prepC, idx, hpL', lookR, Nat.reduceEqDiff, if_true, if_false]; rfl)
       case h => (first | exact h1 .. | exact settable_spec .. | exact h2 .. | exact h3 .. | exact h4 .. | exact hl1 ..))
    | (apply cl_show
       case ha => (simp only [List.map_cons, List.map_nil, prepV, prepC, idx, hpL', lookR, Nat.reduceEqDiff, if_true, if_false]; rfl)
       case hs => ((simp [snaps, SV.refs, Cell.refs, idx, hpL', lookR]) <;> (repeat' apply And.intro) <;> exact Ints_isG _)
       case h => (first | exact h1 .. | exact settable_spec .. | exact h2 .. | exact h3 .. | exact h4 .. | exact hl1 ..)
       case hg => ((simp [SV.noG, SV.noGL, Cell.noG]) <;> (repeat' apply And.intro) <;> exact Ints_noG _))
    | ((first | refine s1_id ?_ | refine swp_id ?_ | refine sops_id ?_ | refine s2_id ?_); simp only [plc, plo, hs, ← epov, go_sem, Nat.reduceEqDiff, Nat.reduceAdd, Nat.reduceSub, Nat.reduceMul, Nat.reduceLT, Nat.reduceLeDiff, ↓reduceIte, reduceCtorEq, List.reduceReplicate, Int.cast_ofNat_Int, Int.reduceEq, Int.reduceLT, Int.reduceLE, SV.ren, SV.renL, Cell.ren, Row.ren, renO, bk, back, outUpsFrom, Ints_ren]))
      refine w_loop (ι := Nat) (fun i => ⟨[(6, .one (.optr 1 0)), (8, .one (.optr 12 0)), (9, i1 (lsN c (ov - n0) i).2), (10, i1 (c.length - 1 - i))],
        [(1, some ⟨[int 0, int 0, int 0, int 0, int 0, .sc (.slice none 0 0), int 0, int 0, int 0, bool false], 10⟩), (11, some ⟨Ints (lsN c (ov - n0) i).1, 1⟩), (12, some ⟨[int g, int q', int b', int s, int (l - n0), .osl 11 0 c.length none, int sp, int pe, int th, bool em], 10⟩)], 13⟩)
        (fun i => i ≤ c.length) (fun i => c.length - i) 0 ?_ (Nat.zero_le _) ?_
      · (refine imp_sub _ _ _ [(1, 1), (11, 11), (12, 12)] (by simp) (by simp) (by simp) (Nat.le_of_ble_eq_true rfl) ?_ (by simp only [List.map_cons, List.map_nil, St.hpF, lookR, renO, Row.ren, Cell.ren, toN, Ints_ren, Bools_ren, Nat.reduceEqDiff, if_true, if_false, ↓reduceIte] <;> (try rfl)) (by simp only [List.forall_mem_cons, List.not_mem_nil, false_implies, implies_true, and_true, St.hpF, lookR, Nat.reduceEqDiff, if_true, if_false, ↓reduceIte, Option.some.injEq, forall_eq'] <;> ((repeat' with_reducible apply And.intro) <;> (first | with_reducible trivial | exact fun c hc q hq => absurd hq (Ints_refs0 _ _ c hc) | (simp [Cell.refs, toN]; done)))); simp only [List.map_cons, List.map_nil, List.forall_mem_cons, List.not_mem_nil, false_implies, implies_true, and_true, lk, slot, SV.ren, Cell.ren, toN, Nat.reduceEqDiff, if_true, if_false, ↓reduceIte, reduceCtorEq])
        all_goals ((repeat' apply And.intro) <;> (first | rfl | trivial | (simp only [lsN, Int.sub_zero, Int.ofNat_zero]; done) | (simp only [lsN, Int.sub_zero, Int.ofNat_zero]; rfl) | (simp only [lsN, Int.sub_zero, Int.ofNat_zero]; trivial)))
      intro i hi
      rcases Nat.lt_or_ge i c.length with hlt | hge
      · have hlt' : (0 : Int) ≤ c.length - 1 - i := by omega
        have hoi := hok i hi
        have hln' : (lsN c (ov - n0) i).1.length = c.length := lsN_len _ _ _
        have hix : ((c.length : Int) - 1 - i).toNat = c.length - 1 - i := by omega
        have hgi := hoi.1 (c.length - 1 - i)
        have hl2 := lessen_spec ((lsN c (ov - n0) i).1.getD (c.length - 1 - i) 0) (lsN c (ov - n0) i).2 (by omega) (by omega)
        have est : lsN c (ov - n0) (i + 1) = ((lsN c (ov - n0) i).1.set (c.length - 1 - i) ((lsN c (ov - n0) i).1.getD (c.length - 1 - i) 0 - mn ((lsN c (ov - n0) i).1.getD (c.length - 1 - i) 0) (lsN c (ov - n0) i).2), (lsN c (ov - n0) i).2 - mn ((lsN c (ov - n0) i).1.getD (c.length - 1 - i) 0) (lsN c (ov - n0) i).2) := rfl
        generalize hS : lsN c (ov - n0) i = S at *
        generalize hS2 : lsN c (ov - n0) (i + 1) = S2 at *
        obtain ⟨d, e⟩ := S
        simp only at hl2 est hln' hoi
        generalize mn (d.getD (c.length - 1 - i) 0) e = m at *
        simp only [go_sem, Nat.reduceEqDiff, Nat.reduceAdd, Nat.reduceSub, Nat.reduceMul, Nat.reduceLT, Nat.reduceLeDiff, ↓reduceIte, reduceCtorEq, List.reduceReplicate, Int.cast_ofNat_Int, Int.reduceEq, Int.reduceLT, Int.reduceLE, decide_eq_true hlt', hS, hix]
        repeat' (first
    | with_reducible refine And.intro ?_ ?_
    | (unfold OKC; kernel_rfl)
    | (apply okc_up <;> (first | ((repeat (first | exact Sub.nil | apply Sub.gfp | apply Sub.same)); done) | kernel_rfl))
    | (unfold EDG; kernel_rfl)
    | (intros; (try simp only [Bool.and_eq_true, Bool.or_eq_true, Bool.not_eq_true', Bool.not_eq_false', Bool.and_eq_false_iff, Bool.or_eq_false_iff, decide_eq_true_eq, decide_eq_false_iff_not] at *); omega)
    | (refine gt_if (fun h => ?_) (fun h => ?_) <;> (try simp only [h]))
    | (refine pt_if (fun h => ?_) (fun h => ?_) <;> (try simp only [h]))
    | (refine cd_if (fun h => ?_) (fun h => ?_) <;> (try simp only [h]))
    | (apply cg_tp
       case hl => rfl
       case ha => (simp only [List.map_cons, List.map_nil, prepV, prepC, idx, hpL', lookR, Nat.reduceEqDiff, if_true, if_false]; rfl)
       case hs => rfl
       case h => (first | exact hl2 ..))
    | (apply cg_any
       case hl => rfl
       case ha => (intro hb; simp only [List.map_cons, List.map_nil, cnd, hb, if_true, prepV, prepC, idx, hpL', lookR, Nat.reduceEqDiff, if_false]; rfl)
       case hs => (intro hb; simp only [cnd, hb, if_true]; rfl)
       case h => (first | exact hl2 ..))
    | (apply cl_plain
       case hs => rfl
       case ha => (simp only [List.map_cons, List.map_nil, prepV, prepC, idx, hpL', lookR, Nat.reduceEqDiff, if_true, if_false]; rfl)
       case h => (first | exact hl2 ..))
    | (apply cl_show
       case ha => (simp only [List.map_cons, List.map_nil, prepV, prepC, idx, hpL', lookR, Nat.reduceEqDiff, if_true, if_false]; rfl)
       case hs => ((simp [snaps, SV.refs, Cell.refs, idx, hpL', lookR]) <;> (repeat' apply And.intro) <;> exact Ints_isG _)
       case h => (first | exact hl2 ..)
       case hg => ((simp [SV.noG, SV.noGL, Cell.noG]) <;> (repeat' apply And.intro) <;> exact Ints_noG _))
    | ((first | refine s1_id ?_ | refine swp_id ?_ | refine sops_id ?_ | refine s2_id ?_); simp only [hix, go_sem, Nat.reduceEqDiff, Nat.reduceAdd, Nat.reduceSub, Nat.reduceMul, Nat.reduceLT, Nat.reduceLeDiff, ↓reduceIte, reduceCtorEq, List.reduceReplicate, Int.cast_ofNat_Int, Int.reduceEq, Int.reduceLT, Int.reduceLE, SV.ren, SV.renL, Cell.ren, Row.ren, renO, bk, back, outUpsFrom, Ints_ren]))
        refine le_mk (i + 1) ?_ (by omega) (by omega)
        rw [hS2, est]
        (refine imp_sub _ _ _ [(1, 1), (11, 11), (12, 12)] (by simp) (by simp) (by simp) (Nat.le_of_ble_eq_true rfl) ?_ (by simp only [List.map_cons, List.map_nil, St.hpF, lookR, renO, Row.ren, Cell.ren, toN, Ints_ren, Bools_ren, Nat.reduceEqDiff, if_true, if_false, ↓reduceIte] <;> (try rfl)) (by simp only [List.forall_mem_cons, List.not_mem_nil, false_implies, implies_true, and_true, St.hpF, lookR, Nat.reduceEqDiff, if_true, if_false, ↓reduceIte, Option.some.injEq, forall_eq'] <;> ((repeat' with_reducible apply And.intro) <;> (first | with_reducible trivial | exact fun c hc q hq => absurd hq (Ints_refs0 _ _ c hc) | (simp [Cell.refs, toN]; done)))); simp only [List.map_cons, List.map_nil, List.forall_mem_cons, List.not_mem_nil, false_implies, implies_true, and_true, lk, slot, SV.ren, Cell.ren, toN, Nat.reduceEqDiff, if_true, if_false, ↓reduceIte, reduceCtorEq])
        all_goals ((repeat' apply And.intro) <;> (first | rfl | trivial | (refine i1_eq ?_; omega)))
      · have hlt' : ¬ (0 : Int) ≤ c.length - 1 - i := by omega
        have ei : i = c.length := by omega
        subst ei
        simp only [go_sem, Nat.reduceEqDiff, Nat.reduceAdd, Nat.reduceSub, Nat.reduceMul, Nat.reduceLT, Nat.reduceLeDiff, ↓reduceIte, reduceCtorEq, List.reduceReplicate, Int.cast_ofNat_Int, Int.reduceEq, Int.reduceLT, Int.reduceLE, decide_eq_false hlt']
        repeat' (first
    | with_reducible refine And.intro ?_ ?_
    | (unfold OKC; kernel_rfl)
    | (apply okc_up <;> (first | ((repeat (first | exact Sub.nil | apply Sub.gfp | apply Sub.same)); done) | kernel_rfl))
    | (unfold EDG; kernel_rfl)
    | (intros; (try simp only [Bool.and_eq_true, Bool.or_eq_true, Bool.not_eq_true', Bool.not_eq_false', Bool.and_eq_false_iff, Bool.or_eq_false_iff, decide_eq_true_eq, decide_eq_false_iff_not] at *); omega)
    | (refine gt_if (fun h => ?_) (fun h => ?_) <;> (try simp only [h]))
    | (refine pt_if (fun h => ?_) (fun h => ?_) <;> (try simp only [h]))
    | (refine cd_if (fun h => ?_) (fun h => ?_) <;> (try simp only [h]))
    | (apply cg_tp
       case hl => rfl
       case ha => (simp only [List.map_cons, List.map_nil, prepV, prepC, idx, hpL', lookR, Nat.reduceEqDiff, if_true, if_false]; rfl)
       case hs => rfl
       case h => (first | fail))
    | (apply cg_any
       case hl => rfl
       case ha => (intro hb; simp only [List.map_cons, List.map_nil, cnd, hb, if_true, prepV, prepC, idx, hpL', lookR, Nat.reduceEqDiff, if_false]; rfl)
       case hs => (intro hb; simp only [cnd, hb, if_true]; rfl)
       case h => (first | fail))
    | (apply cl_plain
       case hs => rfl
       case ha => (simp only [List.map_cons, List.map_nil, prepV, prepC, idx, hpL', lookR, Nat.reduceEqDiff, if_true, if_false]; rfl)
       case h => (first | fail))
    | (apply cl_show
       case ha => (simp only [List.map_cons, List.map_nil, prepV, prepC, idx, hpL', lookR, Nat.reduceEqDiff, if_true, if_false]; rfl)
       case hs => ((simp [snaps, SV.refs, Cell.refs, idx, hpL', lookR]) <;> (repeat' apply And.intro) <;> exact Ints_isG _)
       case h => (first | fail)
       case hg => ((simp [SV.noG, SV.noGL, Cell.noG]) <;> (repeat' apply And.intro) <;> exact Ints_noG _))
    | ((first | refine s1_id ?_ | refine swp_id ?_ | refine sops_id ?_ | refine s2_id ?_); simp only [go_sem, Nat.reduceEqDiff, Nat.reduceAdd, Nat.reduceSub, Nat.reduceMul, Nat.reduceLT, Nat.reduceLeDiff, ↓reduceIte, reduceCtorEq, List.reduceReplicate, Int.cast_ofNat_Int, Int.reduceEq, Int.reduceLT, Int.reduceLE, SV.ren, SV.renL, Cell.ren, Row.ren, renO, bk, back, outUpsFrom, Ints_ren]))
        (refine fs_frz 11 ⟨Ints (lsN c (ov - n0) c.length).1, 1⟩ (by simp only [St.hpF, lookR, Nat.reduceEqDiff, if_true, if_false, ↓reduceIte]) (by first | exact Ints_isG _ | exact Bools_isG _ | (simp [Cell.isG]; done)) ?_; simp only [frzTm, SV.frz, SV.frzL, Cell.frz, frzHp, frzO, Ints_frz, Bools_frz, List.map_cons, List.map_nil, Nat.reduceEqDiff, if_true, if_false, ↓reduceIte])
        (refine fs_w (by simp only [go_sem, resV, resS, SV.ren, SV.renL, Cell.ren, St.tmF, St.hpF, idx, renO, Row.ren, evS, slot, lookR, Nat.reduceEqDiff, ↓reduceIte, reduceCtorEq, if_true, if_false, Option.getD_some, Option.getD_none, List.map_cons, List.map_nil, sLoad, readAt, readNeed, Ints_ren, Ints_length, Ints_getD, and_true, true_and, List.getD_cons_zero, List.getD_cons_succ]; try trivial) ?_; simp only [go_sem, resV, resS, SV.ren, SV.renL, Cell.ren, St.tmF, St.hpF, idx, renO, Row.ren, evS, slot, lookR, Nat.reduceEqDiff, ↓reduceIte, reduceCtorEq, if_true, if_false, Option.getD_some, Option.getD_none, List.map_cons, List.map_nil, sLoad, readAt, readNeed, Ints_ren, Ints_length, Ints_getD, and_true, true_and, List.getD_cons_zero, List.getD_cons_succ]; refine svw_of ?_; simp only [sw_tup, swl_cons, swl_nil, sw_one, sw_agg, cwl_cons, cwl_nil, cw_id, cw_nil0, cw_cap0, List.length_nil, and_true, true_and, and_self] <;> (try ((repeat' with_reducible apply And.intro) <;> (first | with_reducible trivial | exact cw_rfl _ | exact cw_gnil | exact cw_niln _ _ | exact cw_cap _ _ _ _ | (refine cw_eq ?_; congr; done)))))
theorem rchange_spec (x : Pl) (k : Option Nat) (q' b' : Int) (hw : Wk x) (hb' : -9223372036854775808 ≤ b' ∧ b' ≤ 9223372036854775807) : FnSpec Try.prog 33 [plt x k, i1 q', i1 b'] [] (pre (pchange x q' b')) [] := by
  have h1 := rchk_spec x k hw
  unfold pchange
  split
  · rename_i h0
    rw [h0] at h1
    clear h0 hw
    obtain ⟨g, q, b, s, l, c, sp, pe, th, em⟩ := x
    simp only [plt, plc, pz, pre] at *
    refine fnspec_of mixed TT_ok TT_cl ⟨fun _ => false, fun _ => [], 0, fun _ => false, fun _ => false⟩ Try.func33 rfl (by kernel_rfl) rfl 86 rfl [.cell 6 26, .tmp 7] rfl ?_
    simp only [go_sem, Nat.reduceEqDiff, Nat.reduceAdd, Nat.reduceSub, Nat.reduceMul, Nat.reduceLT, Nat.reduceLeDiff, ↓reduceIte, reduceCtorEq, List.reduceReplicate, Int.cast_ofNat_Int, Int.reduceEq, Int.reduceLT, Int.reduceLE, plc]
    repeat' (first
    | with_reducible refine And.intro ?_ ?_
    | (unfold OKC; kernel_rfl)
    | (apply okc_up <;> (first | ((repeat (first | exact Sub.nil | apply Sub.gfp | apply Sub.same)); done) | kernel_rfl))
    | (unfold EDG; kernel_rfl)
    | (intros; (try simp only [Bool.and_eq_true, Bool.or_eq_true, Bool.not_eq_true', Bool.not_eq_false', Bool.and_eq_false_iff, Bool.or_eq_false_iff, decide_eq_true_eq, decide_eq_false_iff_not] at *); omega)
    | (refine gt_if (fun h => ?_) (fun h => ?_) <;> (try simp only [h]))
    | (refine pt_if (fun h => ?_) (fun h => ?_) <;> (try simp only [h]))
    | (refine cd_if (fun h => ?_) (fun h => ?_) <;> (try simp only [h]))
    | (apply cg_tp
       case hl => rfl
       case ha => (simp only [List.map_cons, List.map_nil, prepV, prepC, idx, hpL', lookR, Nat.reduceEqDiff, if_true, if_false]; rfl)
       case hs => rfl
       case h => (first | exact h1 ..))
    | (apply cg_any
       case hl => rfl
       case ha => (intro hb; simp only [List.map_cons, List.map_nil, cnd, hb, if_true, prepV, prepC, idx, hpL', lookR, Nat.reduceEqDiff, if_false]; rfl)
       case hs => (intro hb; simp only [cnd, hb, if_true]; rfl)
       case h => (first | exact h1 ..))
    | (apply cl_plain
       case hs => rfl
       case ha => (simp only [List.map_cons, List.map_nil, prepV, prepC, idx, hpL', lookR, Nat.reduceEqDiff, if_true, if_false]; rfl)
       case h => (first | exact h1 ..))
    | (apply cl_show
       case ha => (simp only [List.map_cons, List.map_nil, prepV, prepC, idx, hpL', lookR, Nat.reduceEqDiff, if_true, if_false]; rfl)
       case hs => ((simp [snaps, SV.refs, Cell.refs, idx, hpL', lookR]) <;> (repeat' apply And.intro) <;> exact Ints_isG _)
       case h => (first | exact h1 ..)
       case hg => ((simp [SV.noG, SV.noGL, Cell.noG]) <;> (repeat' apply And.intro) <;> exact Ints_noG _))
    | ((first | refine s1_id ?_ | refine swp_id ?_ | refine sops_id ?_ | refine s2_id ?_); simp only [plc, go_sem, Nat.reduceEqDiff, Nat.reduceAdd, Nat.reduceSub, Nat.reduceMul, Nat.reduceLT, Nat.reduceLeDiff, ↓reduceIte, reduceCtorEq, List.reduceReplicate, Int.cast_ofNat_Int, Int.reduceEq, Int.reduceLT, Int.reduceLE, SV.ren, SV.renL, Cell.ren, Row.ren, renO, bk, back, outUpsFrom, Ints_ren]))
    (refine fs_w (by simp only [go_sem, resV, resS, SV.ren, SV.renL, Cell.ren, St.tmF, St.hpF, idx, renO, Row.ren, evS, slot, lookR, Nat.reduceEqDiff, ↓reduceIte, reduceCtorEq, if_true, if_false, Option.getD_some, Option.getD_none, List.map_cons, List.map_nil, sLoad, readAt, readNeed, Ints_ren, Ints_length, Ints_getD, and_true, true_and, List.getD_cons_zero, List.getD_cons_succ]; try trivial) ?_; simp only [go_sem, resV, resS, SV.ren, SV.renL, Cell.ren, St.tmF, St.hpF, idx, renO, Row.ren, evS, slot, lookR, Nat.reduceEqDiff, ↓reduceIte, reduceCtorEq, if_true, if_false, Option.getD_some, Option.getD_none, List.map_cons, List.map_nil, sLoad, readAt, readNeed, Ints_ren, Ints_length, Ints_getD, and_true, true_and, List.getD_cons_zero, List.getD_cons_succ]; refine svw_of ?_; simp only [sw_tup, swl_cons, swl_nil, sw_one, sw_agg, cwl_cons, cwl_nil, cw_id, cw_nil0, cw_cap0, List.length_nil, and_true, true_and, and_self] <;> (try ((repeat' with_reducible apply And.intro) <;> (first | with_reducible trivial | exact cw_rfl _ | exact cw_gnil | exact cw_niln _ _ | exact cw_cap _ _ _ _ | (refine cw_eq ?_; congr; done)))))
  · rename_i h0
    rw [Bool.not_eq_false] at h0
    rw [h0] at h1
    have hn := nums h0
    have hall := pck_all h0
    have hlen := hn.len
    have hL := hn.l
    have hM := hn.m
    have hH := hn.h
    have hh := hld_ge h0
    have h3 := rcopy_spec x k (by omega)
    have hsml := sml_pck h0
    have h2 := rheld_spec { x with q := q', b := b' } none ⟨hsml.len, hsml.all, hsml.left⟩
    have h4 := rlimited_spec { x with q := q', b := b' } none
    have hlq : lim { x with q := q', b := b' } = !decide (q' = 4611686018427387904) := rfl
    rw [show hld { x with q := q', b := b' } = hld x from rfl] at h2
    by_cases hq : q' = 4611686018427387904
    · subst hq
      have hl0 : lim { x with q := 4611686018427387904, b := b' } = false := by rw [hlq]; simp
      have hmA : mst { x with q := 4611686018427387904, b := b' } = 0 := by unfold mst; rw [hl0]; simp
      rw [hl0] at h4
      cases hs : stl 4611686018427387904 b' with
      | true =>
        have hm2 : 0 ≤ mst { x with q := 4611686018427387904, b := b' } ∧ mst { x with q := 4611686018427387904, b := b' } ≤ 2000000 := by rw [hmA]; omega
        have hp := pov_rng h0 hm2.1
        have hmn := mn_le x.l (pov x 4611686018427387904 b')
        have hok := lsN_ok (c := x.c) (ex := pov x 4611686018427387904 b' - mn x.l (pov x 4611686018427387904 b')) hall (by omega)
        have hln := lsN_len x.c (pov x 4611686018427387904 b' - mn x.l (pov x 4611686018427387904 b'))
        have epov : pov x 4611686018427387904 b' = if hld x - mst { x with q := 4611686018427387904, b := b' } < 0 then 0 else hld x - mst { x with q := 4611686018427387904, b := b' } := by unfold pov; split <;> split <;> omega
        have en0 : mn x.l (pov x 4611686018427387904 b') = if x.l < pov x 4611686018427387904 b' then x.l else pov x 4611686018427387904 b' := by rw [mn_comm]; rfl
        rw [hmA] at hm2 epov
        have hr5 : pck (pchg x 4611686018427387904 b') = true := (pchg_ok h0 hs).1
        have h5 := rchk_spec (pchg x 4611686018427387904 b') none ⟨hb', by have := hn.pe; simp only [pchg]; omega, by simp only [pchg, hln]; omega⟩
        rw [hr5] at h5
        simp only [plt, plc, pchg, hln] at h5

        simp only [Bool.true_eq_false, if_true, if_false, pre, plt, plc, pchg, hln, pz]
        clear hr5
        generalize mn x.l (pov x 4611686018427387904 b') = n0 at *
        generalize pov x 4611686018427387904 b' = ov at *
        generalize hld x = H at *
        generalize mst x = M at *
        clear h0 hn hsml hlq hw
        obtain ⟨g, q, b, s, l, c, sp, pe, th, em⟩ := x
        simp only [plt, plc, plo] at *
        refine fnspec_of mixed TT_ok TT_cl ⟨fun _ => false, fun _ => [], 0, fun _ => false, fun _ => false⟩ Try.func33 rfl (by kernel_rfl) rfl 86 rfl [.cell 6 26, .tmp 7] rfl ?_
        simp only [go_sem, Nat.reduceEqDiff, Nat.reduceAdd, Nat.reduceSub, Nat.reduceMul, Nat.reduceLT, Nat.reduceLeDiff, ↓reduceIte, reduceCtorEq, List.reduceReplicate, Int.cast_ofNat_Int, Int.reduceEq, Int.reduceLT, Int.reduceLE, plc, plo]
        repeat' (first
    | with_reducible refine And.intro ?_ ?_
    | (unfold OKC; kernel_rfl)
    | (apply okc_up <;> (first | ((repeat (first | exact Sub.nil | apply Sub.gfp | apply Sub.same)); done) | kernel_rfl))
    | (unfold EDG; kernel_rfl)
    | (intros; (try simp only [Bool.and_eq_true, Bool.or_eq_true, Bool.not_eq_true', Bool.not_eq_false', Bool.and_eq_false_iff, Bool.or_eq_false_iff, decide_eq_true_eq, decide_eq_false_iff_not] at *); omega)
    | (refine gt_if (fun h => ?_) (fun h => ?_) <;> (try simp only [h]))
    | (refine pt_if (fun h => ?_) (fun h => ?_) <;> (try simp only [h]))
    | (refine cd_if (fun h => ?_) (fun h => ?_) <;> (try simp only [h]))
    | (apply cg_tp
       case hl => rfl
       case ha => (simp only [List.map_cons, List.map_nil, prepV, prepC, idx, hpL', lookR, Nat.reduceEqDiff, if_true, if_false]; rfl)
       case hs => rfl
       case h => (first | exact h1 .. | exact rin_spec .. | exact h2 .. | exact h3 .. | exact h4 ..))
    | (apply cg_any
       case hl => rfl
       case ha => (intro hb; simp only [List.map_cons, List.map_nil, cnd, hb, if_true, prepV, prepC, idx, hpL', lookR, Nat.reduceEqDiff, if_false]; rfl)
       case hs => (intro hb; simp only [cnd, hb, if_true]; rfl)
       case h => (first | exact h1 .. | exact rin_spec .. | exact h2 .. | exact h3 .. | exact h4 ..))
    | (apply cl_plain
       case hs => rfl
       case ha => (simp only [List.map_cons, List.map_nil, prepV, prepC, idx, hpL', lookR, Nat.reduceEqDiff, if_true, if_false]; rfl)
       case h => (first | exact h1 .. | exact rin_spec .. | exact h2 .. | exact h3 .. | exact h4 ..))
    | (apply cl_show
       case ha => (simp only [List.map_cons, List.map_nil, prepV, prepC, idx, hpL', lookR, Nat.reduceEqDiff, if_true, if_false]; rfl)
       case hs => ((simp [snaps, SV.refs, Cell.refs, idx, hpL', lookR]) <;> (repeat' apply And.intro) <;> exact Ints_isG _)
       case h => (first | exact h1 .. | exact rin_spec .. | exact h2 .. | exact h3 .. | exact h4 ..)
       case hg => ((simp [SV.noG, SV.noGL, Cell.noG]) <;> (repeat' apply And.intro) <;> exact Ints_noG _))
    | ((first | refine s1_id ?_ | refine swp_id ?_ | refine sops_id ?_ | refine s2_id ?_); simp only [plc, plo, ← epov, ← en0, go_sem, Nat.reduceEqDiff, Nat.reduceAdd, Nat.reduceSub, Nat.reduceMul, Nat.reduceLT, Nat.reduceLeDiff, ↓reduceIte, reduceCtorEq, List.reduceReplicate, Int.cast_ofNat_Int, Int.reduceEq, Int.reduceLT, Int.reduceLE, SV.ren, SV.renL, Cell.ren, Row.ren, renO, bk, back, outUpsFrom, Ints_ren]))
        refine w_loop (ι := Nat) (fun i => ⟨[(6, .one (.optr 1 0)), (8, .one (.optr 8 0)), (10, i1 (lsN c (ov - n0) i).2), (12, i1 (c.length - 1 - i))],
          [(1, some ⟨[int 0, int 0, int 0, int 0, int 0, .sc (.slice none 0 0), int 0, int 0, int 0, bool false], 10⟩), (7, some ⟨Ints (lsN c (ov - n0) i).1, 1⟩), (8, some ⟨[int g, int 4611686018427387904, int b', int s, int (l - n0), .osl 7 0 c.length none, int sp, int pe, int th, bool em], 10⟩)], 9⟩)
          (fun i => i ≤ c.length) (fun i => c.length - i) 0 ?_ (Nat.zero_le _) ?_
        · (refine imp_sub _ _ _ [(1, 1), (7, 7), (8, 8)] (by simp) (by simp) (by simp) (Nat.le_of_ble_eq_true rfl) ?_ (by simp only [List.map_cons, List.map_nil, St.hpF, lookR, renO, Row.ren, Cell.ren, toN, Ints_ren, Bools_ren, Nat.reduceEqDiff, if_true, if_false, ↓reduceIte] <;> (try rfl)) (by simp only [List.forall_mem_cons, List.not_mem_nil, false_implies, implies_true, and_true, St.hpF, lookR, Nat.reduceEqDiff, if_true, if_false, ↓reduceIte, Option.some.injEq, forall_eq'] <;> ((repeat' with_reducible apply And.intro) <;> (first | with_reducible trivial | exact fun c hc q hq => absurd hq (Ints_refs0 _ _ c hc) | (simp [Cell.refs, toN]; done)))); simp only [List.map_cons, List.map_nil, List.forall_mem_cons, List.not_mem_nil, false_implies, implies_true, and_true, lk, slot, SV.ren, Cell.ren, toN, Nat.reduceEqDiff, if_true, if_false, ↓reduceIte, reduceCtorEq])
          all_goals ((repeat' apply And.intro) <;> (first | rfl | trivial | (simp only [lsN, Int.sub_zero, Int.ofNat_zero]; done) | (simp only [lsN, Int.sub_zero, Int.ofNat_zero]; rfl) | (simp only [lsN, Int.sub_zero, Int.ofNat_zero]; trivial)))
        intro i hi
        rcases Nat.lt_or_ge i c.length with hlt | hge
        · have hlt' : (0 : Int) ≤ c.length - 1 - i := by omega
          have hoi := hok i hi
          have hln' : (lsN c (ov - n0) i).1.length = c.length := lsN_len _ _ _
          have hix : ((c.length : Int) - 1 - i).toNat = c.length - 1 - i := by omega
          have hgi := hoi.1 (c.length - 1 - i)
          have hmm := mn_le ((lsN c (ov - n0) i).1.getD (c.length - 1 - i) 0) (lsN c (ov - n0) i).2
          have emm : mn ((lsN c (ov - n0) i).1.getD (c.length - 1 - i) 0) (lsN c (ov - n0) i).2 = if (lsN c (ov - n0) i).1.getD (c.length - 1 - i) 0 < (lsN c (ov - n0) i).2 then (lsN c (ov - n0) i).1.getD (c.length - 1 - i) 0 else (lsN c (ov - n0) i).2 := by rw [mn_comm]; rfl
          have est : lsN c (ov - n0) (i + 1) = ((lsN c (ov - n0) i).1.set (c.length - 1 - i) ((lsN c (ov - n0) i).1.getD (c.length - 1 - i) 0 - mn ((lsN c (ov - n0) i).1.getD (c.length - 1 - i) 0) (lsN c (ov - n0) i).2), (lsN c (ov - n0) i).2 - mn ((lsN c (ov - n0) i).1.getD (c.length - 1 - i) 0) (lsN c (ov - n0) i).2) := rfl
          generalize hS : lsN c (ov - n0) i = S at *
          generalize hS2 : lsN c (ov - n0) (i + 1) = S2 at *
          obtain ⟨d, e⟩ := S
          simp only at est hln' hoi hmm emm hgi
          generalize mn (d.getD (c.length - 1 - i) 0) e = m at *
          simp only [go_sem, Nat.reduceEqDiff, Nat.reduceAdd, Nat.reduceSub, Nat.reduceMul, Nat.reduceLT, Nat.reduceLeDiff, ↓reduceIte, reduceCtorEq, List.reduceReplicate, Int.cast_ofNat_Int, Int.reduceEq, Int.reduceLT, Int.reduceLE, decide_eq_true hlt', hS, hix, ← emm]
          repeat' (first
    | with_reducible refine And.intro ?_ ?_
    | (unfold OKC; kernel_rfl)
    | (apply okc_up <;> (first | ((repeat (first | exact Sub.nil | apply Sub.gfp | apply Sub.same)); done) | kernel_rfl))
    | (unfold EDG; kernel_rfl)
    | (intros; (try simp only [Bool.and_eq_true, Bool.or_eq_true, Bool.not_eq_true', Bool.not_eq_false', Bool.and_eq_false_iff, Bool.or_eq_false_iff, decide_eq_true_eq, decide_eq_false_iff_not] at *); omega)
    | (refine gt_if (fun h => ?_) (fun h => ?_) <;> (try simp only [h]))
    | (refine pt_if (fun h => ?_) (fun h => ?_) <;> (try simp only [h]))
    | (refine cd_if (fun h => ?_) (fun h => ?_) <;> (try simp only [h]))
    | (apply cg_tp
       case hl => rfl
       case ha => (simp only [List.map_cons, List.map_nil, prepV, prepC, idx, hpL', lookR, Nat.reduceEqDiff, if_true, if_false]; rfl)
       case hs => rfl
       case h => (first | fail))
    | (apply cg_any
       case hl => rfl
       case ha => (intro hb; simp only [List.map_cons, List.map_nil, cnd, hb, if_true, prepV, prepC, idx, hpL', lookR, Nat.reduceEqDiff, if_false]; rfl)
       case hs => (intro hb; simp only [cnd, hb, if_true]; rfl)
       case h => (first | fail))
    | (apply cl_plain
       case hs => rfl
       case ha => (simp only [List.map_cons, List.map_nil, prepV, prepC, idx, hpL', lookR, Nat.reduceEqDiff, if_true, if_false]; rfl)
       case h => (first | fail))
    | (apply cl_show
       case ha => (simp only [List.map_cons, List.map_nil, prepV, prepC, idx, hpL', lookR, Nat.reduceEqDiff, if_true, if_false]; rfl)
       case hs => ((simp [snaps, SV.refs, Cell.refs, idx, hpL', lookR]) <;> (repeat' apply And.intro) <;> exact Ints_isG _)
       case h => (first | fail)
       case hg => ((simp [SV.noG, SV.noGL, Cell.noG]) <;> (repeat' apply And.intro) <;> exact Ints_noG _))
    | ((first | refine s1_id ?_ | refine swp_id ?_ | refine sops_id ?_ | refine s2_id ?_); simp only [hix, ← emm, go_sem, Nat.reduceEqDiff, Nat.reduceAdd, Nat.reduceSub, Nat.reduceMul, Nat.reduceLT, Nat.reduceLeDiff, ↓reduceIte, reduceCtorEq, List.reduceReplicate, Int.cast_ofNat_Int, Int.reduceEq, Int.reduceLT, Int.reduceLE, SV.ren, SV.renL, Cell.ren, Row.ren, renO, bk, back, outUpsFrom, Ints_ren]))
          refine le_mk (i + 1) ?_ (by omega) (by omega)
          rw [hS2, est]
          (refine imp_sub _ _ _ [(1, 1), (7, 7), (8, 8)] (by simp) (by simp) (by simp) (Nat.le_of_ble_eq_true rfl) ?_ (by simp only [List.map_cons, List.map_nil, St.hpF, lookR, renO, Row.ren, Cell.ren, toN, Ints_ren, Bools_ren, Nat.reduceEqDiff, if_true, if_false, ↓reduceIte] <;> (try rfl)) (by simp only [List.forall_mem_cons, List.not_mem_nil, false_implies, implies_true, and_true, St.hpF, lookR, Nat.reduceEqDiff, if_true, if_false, ↓reduceIte, Option.some.injEq, forall_eq'] <;> ((repeat' with_reducible apply And.intro) <;> (first | with_reducible trivial | exact fun c hc q hq => absurd hq (Ints_refs0 _ _ c hc) | (simp [Cell.refs, toN]; done)))); simp only [List.map_cons, List.map_nil, List.forall_mem_cons, List.not_mem_nil, false_implies, implies_true, and_true, lk, slot, SV.ren, Cell.ren, toN, Nat.reduceEqDiff, if_true, if_false, ↓reduceIte, reduceCtorEq])
          all_goals ((repeat' apply And.intro) <;> (first | rfl | trivial | (refine i1_eq ?_; omega)))
        · have hlt' : ¬ (0 : Int) ≤ c.length - 1 - i := by omega
          have ei : i = c.length := by omega
          subst ei
          simp only [go_sem, Nat.reduceEqDiff, Nat.reduceAdd, Nat.reduceSub, Nat.reduceMul, Nat.reduceLT, Nat.reduceLeDiff, ↓reduceIte, reduceCtorEq, List.reduceReplicate, Int.cast_ofNat_Int, Int.reduceEq, Int.reduceLT, Int.reduceLE, decide_eq_false hlt']
          repeat' (first
    | with_reducible refine And.intro ?_ ?_
    | (unfold OKC; kernel_rfl)
    | (apply okc_up <;> (first | ((repeat (first | exact Sub.nil | apply Sub.gfp | apply Sub.same)); done) | kernel_rfl))
    | (unfold EDG; kernel_rfl)
    | (intros; (try simp only [Bool.and_eq_true, Bool.or_eq_true, Bool.not_eq_true', Bool.not_eq_false', Bool.and_eq_false_iff, Bool.or_eq_false_iff, decide_eq_true_eq, decide_eq_false_iff_not] at *); omega)
    | (refine gt_if (fun h => ?_) (fun h => ?_) <;> (try simp only [h]))
    | (refine pt_if (fun h => ?_) (fun h => ?_) <;> (try simp only [h]))
    | (refine cd_if (fun h => ?_) (fun h => ?_) <;> (try simp only [h]))
    | (apply cg_tp
       case hl => rfl
       case ha => (simp only [List.map_cons, List.map_nil, prepV, prepC, idx, hpL', lookR, Nat.reduceEqDiff, if_true, if_false]; rfl)
       case hs => rfl
       case h => (first | exact h5 ..))
    | (apply cg_any
       case hl => rfl
       case ha => (intro hb; simp only [List.map_cons, List.map_nil, cnd, hb, if_true, prepV, prepC, idx, hpL', lookR, Nat.reduceEqDiff, if_false]; rfl)
       case hs => (intro hb; simp only [cnd, hb, if_true]; rfl)
       case h => (first | exact h5 ..))
    | (apply cl_plain
       case hs => rfl
       case ha => (simp only [List.map_cons, List.map_nil, prepV, prepC, idx, hpL', lookR, Nat.reduceEqDiff, if_true, if_false]; rfl)
       case h => (first | exact h5 ..))
    | (apply cl_show
       case ha => (simp only [List.map_cons, List.map_nil, prepV, prepC, idx, hpL', lookR, Nat.reduceEqDiff, if_true, if_false]; rfl)
       case hs => ((simp [snaps, SV.refs, Cell.refs, idx, hpL', lookR]) <;> (repeat' apply And.intro) <;> exact Ints_isG _)
       case h => (first | exact h5 ..)
       case hg => ((simp [SV.noG, SV.noGL, Cell.noG]) <;> (repeat' apply And.intro) <;> exact Ints_noG _))
    | ((first | refine s1_id ?_ | refine swp_id ?_ | refine sops_id ?_ | refine s2_id ?_); simp only [go_sem, Nat.reduceEqDiff, Nat.reduceAdd, Nat.reduceSub, Nat.reduceMul, Nat.reduceLT, Nat.reduceLeDiff, ↓reduceIte, reduceCtorEq, List.reduceReplicate, Int.cast_ofNat_Int, Int.reduceEq, Int.reduceLT, Int.reduceLE, SV.ren, SV.renL, Cell.ren, Row.ren, renO, bk, back, outUpsFrom, Ints_ren]))
          (refine fs_frz 7 ⟨Ints (lsN c (ov - n0) c.length).1, 1⟩ (by simp only [St.hpF, lookR, Nat.reduceEqDiff, if_true, if_false, ↓reduceIte]) (by first | exact Ints_isG _ | exact Bools_isG _ | (simp [Cell.isG]; done)) ?_; simp only [frzTm, SV.frz, SV.frzL, Cell.frz, frzHp, frzO, Ints_frz, Bools_frz, List.map_cons, List.map_nil, Nat.reduceEqDiff, if_true, if_false, ↓reduceIte])
          (refine fs_w (by simp only [go_sem, resV, resS, SV.ren, SV.renL, Cell.ren, St.tmF, St.hpF, idx, renO, Row.ren, evS, slot, lookR, Nat.reduceEqDiff, ↓reduceIte, reduceCtorEq, if_true, if_false, Option.getD_some, Option.getD_none, List.map_cons, List.map_nil, sLoad, readAt, readNeed, Ints_ren, Ints_length, Ints_getD, and_true, true_and, List.getD_cons_zero, List.getD_cons_succ]; try trivial) ?_; simp only [go_sem, resV, resS, SV.ren, SV.renL, Cell.ren, St.tmF, St.hpF, idx, renO, Row.ren, evS, slot, lookR, Nat.reduceEqDiff, ↓reduceIte, reduceCtorEq, if_true, if_false, Option.getD_some, Option.getD_none, List.map_cons, List.map_nil, sLoad, readAt, readNeed, Ints_ren, Ints_length, Ints_getD, and_true, true_and, List.getD_cons_zero, List.getD_cons_succ]; refine svw_of ?_; simp only [sw_tup, swl_cons, swl_nil, sw_one, sw_agg, cwl_cons, cwl_nil, cw_id, cw_nil0, cw_cap0, List.length_nil, and_true, true_and, and_self] <;> (try ((repeat' with_reducible apply And.intro) <;> (first | with_reducible trivial | exact cw_rfl _ | exact cw_gnil | exact cw_niln _ _ | exact cw_cap _ _ _ _ | (refine cw_eq ?_; congr; done)))))
      | false =>
        have hm2 : 0 ≤ mst { x with q := 4611686018427387904, b := b' } ∧ mst { x with q := 4611686018427387904, b := b' } ≤ 2000000 := by rw [hmA]; omega
        have hp := pov_rng h0 hm2.1
        have hmn := mn_le x.l (pov x 4611686018427387904 b')
        have hok := lsN_ok (c := x.c) (ex := pov x 4611686018427387904 b' - mn x.l (pov x 4611686018427387904 b')) hall (by omega)
        have hln := lsN_len x.c (pov x 4611686018427387904 b' - mn x.l (pov x 4611686018427387904 b'))
        have epov : pov x 4611686018427387904 b' = if hld x - mst { x with q := 4611686018427387904, b := b' } < 0 then 0 else hld x - mst { x with q := 4611686018427387904, b := b' } := by unfold pov; split <;> split <;> omega
        have en0 : mn x.l (pov x 4611686018427387904 b') = if x.l < pov x 4611686018427387904 b' then x.l else pov x 4611686018427387904 b' := by rw [mn_comm]; rfl
        rw [hmA] at hm2 epov
        have hr5 : pck (pchg x 4611686018427387904 b') = false := by
          refine pck_no fun hc => ?_
          have h6 : stl 4611686018427387904 b' = true := hc.2.1
          rw [hs] at h6; cases h6
        have h5 := rchk_spec (pchg x 4611686018427387904 b') none ⟨hb', by have := hn.pe; simp only [pchg]; omega, by simp only [pchg, hln]; omega⟩
        rw [hr5] at h5
        simp only [plt, plc, pchg, hln] at h5

        simp only [Bool.true_eq_false, if_true, if_false, pre, plt, plc, pchg, hln, pz]
        clear hr5
        generalize mn x.l (pov x 4611686018427387904 b') = n0 at *
        generalize pov x 4611686018427387904 b' = ov at *
        generalize hld x = H at *
        generalize mst x = M at *
        clear h0 hn hsml hlq hw
        obtain ⟨g, q, b, s, l, c, sp, pe, th, em⟩ := x
        simp only [plt, plc, plo] at *
        refine fnspec_of mixed TT_ok TT_cl ⟨fun _ => false, fun _ => [], 0, fun _ => false, fun _ => false⟩ Try.func33 rfl (by kernel_rfl) rfl 86 rfl [.cell 6 26, .tmp 7] rfl ?_
        simp only [go_sem, Nat.reduceEqDiff, Nat.reduceAdd, Nat.reduceSub, Nat.reduceMul, Nat.reduceLT, Nat.reduceLeDiff, ↓reduceIte, reduceCtorEq, List.reduceReplicate, Int.cast_ofNat_Int, Int.reduceEq, Int.reduceLT, Int.reduceLE, plc, plo]
        repeat' (first
    | with_reducible refine And.intro ?_ ?_
    | (unfold OKC; kernel_rfl)
    | (apply okc_up <;> (first | ((repeat (first | exact Sub.nil | apply Sub.gfp | apply Sub.same)); done) | kernel_rfl))
    | (unfold EDG; kernel_rfl)
    | (intros; (try simp only [Bool.and_eq_true, Bool.or_eq_true, Bool.not_eq_true', Bool.not_eq_false', Bool.and_eq_false_iff, Bool.or_eq_false_iff, decide_eq_true_eq, decide_eq_false_iff_not] at *); omega)
    | (refine gt_if (fun h => ?_) (fun h => ?_) <;> (try simp only [h]))
    | (refine pt_if (fun h => ?_) (fun h => ?_) <;> (try simp only [h]))
    | (refine cd_if (fun h => ?_) (fun h => ?_) <;> (try simp only [h]))
    | (apply cg_tp
       case hl => rfl
       case ha => (simp only [List.map_cons, List.map_nil, prepV, prepC, idx, hpL', lookR, Nat.reduceEqDiff, if_true, if_false]; rfl)
       case hs => rfl
       case h => (first | exact h1 .. | exact rin_spec .. | exact h2 .. | exact h3 .. | exact h4 ..))
    | (apply cg_any
       case hl => rfl
       case ha => (intro hb; simp only [List.map_cons, List.map_nil, cnd, hb, if_true, prepV, prepC, idx, hpL', lookR, Nat.reduceEqDiff, if_false]; rfl)
       case hs => (intro hb; simp only [cnd, hb, if_true]; rfl)
       case h => (first | exact h1 .. | exact rin_spec .. | exact h2 .. | exact h3 .. | exact h4 ..))
    | (apply cl_plain
       case hs => rfl
       case ha => (simp only [List.map_cons, List.map_nil, prepV, prepC, idx, hpL', lookR, Nat.reduceEqDiff, if_true, if_false]; rfl)
       case h => (first | exact h1 .. | exact rin_spec .. | exact h2 .. | exact h3 .. | exact h4 ..))
    | (apply cl_show
       case ha => (simp only [List.map_cons, List.map_nil, prepV, prepC, idx, hpL', lookR, Nat.reduceEqDiff, if_true, if_false]; rfl)
       case hs => ((simp [snaps, SV.refs, Cell.refs, idx, hpL', lookR]) <;> (repeat' apply And.intro) <;> exact Ints_isG _)
       case h => (first | exact h1 .. | exact rin_spec .. | exact h2 .. | exact h3 .. | exact h4 ..)
       case hg => ((simp [SV.noG, SV.noGL, Cell.noG]) <;> (repeat' apply And.intro) <;> exact Ints_noG _))
    | ((first | refine s1_id ?_ | refine swp_id ?_ | refine sops_id ?_ | refine s2_id ?_); simp only [plc, plo, ← epov, ← en0, go_sem, Nat.reduceEqDiff, Nat.reduceAdd, Nat.reduceSub, Nat.reduceMul, Nat.reduceLT, Nat.reduceLeDiff, ↓reduceIte, reduceCtorEq, List.reduceReplicate, Int.cast_ofNat_Int, Int.reduceEq, Int.reduceLT, Int.reduceLE, SV.ren, SV.renL, Cell.ren, Row.ren, renO, bk, back, outUpsFrom, Ints_ren]))
        refine w_loop (ι := Nat) (fun i => ⟨[(6, .one (.optr 1 0)), (8, .one (.optr 8 0)), (10, i1 (lsN c (ov - n0) i).2), (12, i1 (c.length - 1 - i))],
          [(1, some ⟨[int 0, int 0, int 0, int 0, int 0, .sc (.slice none 0 0), int 0, int 0, int 0, bool false], 10⟩), (7, some ⟨Ints (lsN c (ov - n0) i).1, 1⟩), (8, some ⟨[int g, int 4611686018427387904, int b', int s, int (l - n0), .osl 7 0 c.length none, int sp, int pe, int th, bool em], 10⟩)], 9⟩)
          (fun i => i ≤ c.length) (fun i => c.length - i) 0 ?_ (Nat.zero_le _) ?_
        · (refine imp_sub _ _ _ [(1, 1), (7, 7), (8, 8)] (by simp) (by simp) (by simp) (Nat.le_of_ble_eq_true rfl) ?_ (by simp only [List.map_cons, List.map_nil, St.hpF, lookR, renO, Row.ren, Cell.ren, toN, Ints_ren, Bools_ren, Nat.reduceEqDiff, if_true, if_false, ↓reduceIte] <;> (try rfl)) (by simp only [List.forall_mem_cons, List.not_mem_nil, false_implies, implies_true, and_true, St.hpF, lookR, Nat.reduceEqDiff, if_true, if_false, ↓reduceIte, Option.some.injEq, forall_eq'] <;> ((repeat' with_reducible apply And.intro) <;> (first | with_reducible trivial | exact fun c hc q hq => absurd hq (Ints_refs0 _ _ c hc) | (simp [Cell.refs, toN]; done)))); simp only [List.map_cons, List.map_nil, List.forall_mem_cons, List.not_mem_nil, false_implies, implies_true, and_true, lk, slot, SV.ren, Cell.ren, toN, Nat.reduceEqDiff, if_true, if_false, ↓reduceIte, reduceCtorEq])
          all_goals ((repeat' apply And.intro) <;> (first | rfl | trivial | (simp only [lsN, Int.sub_zero, Int.ofNat_zero]; done) | (simp only [lsN, Int.sub_zero, Int.ofNat_zero]; rfl) | (simp only [lsN, Int.sub_zero, Int.ofNat_zero]; trivial)))
        intro i hi
        rcases Nat.lt_or_ge i c.length with hlt | hge
        · have hlt' : (0 : Int) ≤ c.length - 1 - i := by omega
          have hoi := hok i hi
          have hln' : (lsN c (ov - n0) i).1.length = c.length := lsN_len _ _ _
          have hix : ((c.length : Int) - 1 - i).toNat = c.length - 1 - i := by omega
          have hgi := hoi.1 (c.length - 1 - i)
          have hmm := mn_le ((lsN c (ov - n0) i).1.getD (c.length - 1 - i) 0) (lsN c (ov - n0) i).2
          have emm : mn ((lsN c (ov - n0) i).1.getD (c.length - 1 - i) 0) (lsN c (ov - n0) i).2 = if (lsN c (ov - n0) i).1.getD (c.length - 1 - i) 0 < (lsN c (ov - n0) i).2 then (lsN c (ov - n0) i).1.getD (c.length - 1 - i) 0 else (lsN c (ov - n0) i).2 := by rw [mn_comm]; rfl
          have est : lsN c (ov - n0) (i + 1) = ((lsN c (ov - n0) i).1.set (c.length - 1 - i) ((lsN c (ov - n0) i).1.getD (c.length - 1 - i) 0 - mn ((lsN c (ov - n0) i).1.getD (c.length - 1 - i) 0) (lsN c (ov - n0) i).2), (lsN c (ov - n0) i).2 - mn ((lsN c (ov - n0) i).1.getD (c.length - 1 - i) 0) (lsN c (ov - n0) i).2) := rfl
          generalize hS : lsN c (ov - n0) i = S at *
          generalize hS2 : lsN c (ov - n0) (i + 1) = S2 at *
          obtain ⟨d, e⟩ := S
          simp only at est hln' hoi hmm emm hgi
          generalize mn (d.getD (c.length - 1 - i) 0) e = m at *
          simp only [go_sem, Nat.reduceEqDiff, Nat.reduceAdd, Nat.reduceSub, Nat.reduceMul, Nat.reduceLT, Nat.reduceLeDiff, ↓reduceIte, reduceCtorEq, List.reduceReplicate, Int.cast_ofNat_Int, Int.reduceEq, Int.reduceLT, Int.reduceLE, decide_eq_true hlt', hS, hix, ← emm]
          repeat' (first
    | with_reducible refine And.intro ?_ ?_
    | (unfold OKC; kernel_rfl)
    | (apply okc_up <;> (first | ((repeat (first | exact Sub.nil | apply Sub.gfp | apply Sub.same)); done) | kernel_rfl))
    | (unfold EDG; kernel_rfl)
    | (intros; (try simp only [Bool.and_eq_true, Bool.or_eq_true, Bool.not_eq_true', Bool.not_eq_false', Bool.and_eq_false_iff, Bool.or_eq_false_iff, decide_eq_true_eq, decide_eq_false_iff_not] at *); omega)
    | (refine gt_if (fun h => ?_) (fun h => ?_) <;> (try simp only [h]))
    | (refine pt_if (fun h => ?_) (fun h => ?_) <;> (try simp only [h]))
    | (refine cd_if (fun h => ?_) (fun h => ?_) <;> (try simp only [h]))
    | (apply cg_tp
       case hl => rfl
       case ha => (simp only [List.map_cons, List.map_nil, prepV, prepC, idx, hpL', lookR, Nat.reduceEqDiff, if_true, if_false]; rfl)
       case hs => rfl
       case h => (first | fail))
    | (apply cg_any
       case hl => rfl
       case ha => (intro hb; simp only [List.map_cons, List.map_nil, cnd, hb, if_true, prepV, prepC, idx, hpL', lookR, Nat.reduceEqDiff, if_false]; rfl)
       case hs => (intro hb; simp only [cnd, hb, if_true]; rfl)
       case h => (first | fail))
    | (apply cl_plain
       case hs => rfl
       case ha => (simp only [List.map_cons, List.map_nil, prepV, prepC, idx, hpL', lookR, Nat.reduceEqDiff, if_true, if_false]; rfl)
       case h => (first | fail))
    | (apply cl_show
       case ha => (simp only [List.map_cons, List.map_nil, prepV, prepC, idx, hpL', lookR, Nat.reduceEqDiff, if_true, if_false]; rfl)
       case hs => ((simp [snaps, SV.refs, Cell.refs, idx, hpL', lookR]) <;> (repeat' apply And.intro) <;> exact Ints_isG _)
       case h => (first | fail)
       case hg => ((simp [SV.noG, SV.noGL, Cell.noG]) <;> (repeat' apply And.intro) <;> exact Ints_noG _))
    | ((first | refine s1_id ?_ | refine swp_id ?_ | refine sops_id ?_ | refine s2_id ?_); simp only [hix, ← emm, go_sem, Nat.reduceEqDiff, Nat.reduceAdd, Nat.reduceSub, Nat.reduceMul, Nat.reduceLT, Nat.reduceLeDiff, ↓reduceIte, reduceCtorEq, List.reduceReplicate, Int.cast_ofNat_Int, Int.reduceEq, Int.reduceLT, Int.reduceLE, SV.ren, SV.renL, Cell.ren, Row.ren, renO, bk, back, outUpsFrom, Ints_ren]))
          refine le_mk (i + 1) ?_ (by omega) (by omega)
          rw [hS2, est]
          (refine imp_sub _ _ _ [(1, 1), (7, 7), (8, 8)] (by simp) (by simp) (by simp) (Nat.le_of_ble_eq_true rfl) ?_ (by simp only [List.map_cons, List.map_nil, St.hpF, lookR, renO, Row.ren, Cell.ren, toN, Ints_ren, Bools_ren, Nat.reduceEqDiff, if_true, if_false, ↓reduceIte] <;> (try rfl)) (by simp only [List.forall_mem_cons, List.not_mem_nil, false_implies, implies_true, and_true, St.hpF, lookR, Nat.reduceEqDiff, if_true, if_false, ↓reduceIte, Option.some.injEq, forall_eq'] <;> ((repeat' with_reducible apply And.intro) <;> (first | with_reducible trivial | exact fun c hc q hq => absurd hq (Ints_refs0 _ _ c hc) | (simp [Cell.refs, toN]; done)))); simp only [List.map_cons, List.map_nil, List.forall_mem_cons, List.not_mem_nil, false_implies, implies_true, and_true, lk, slot, SV.ren, Cell.ren, toN, Nat.reduceEqDiff, if_true, if_false, ↓reduceIte, reduceCtorEq])
          all_goals ((repeat' apply And.intro) <;> (first | rfl | trivial | (refine i1_eq ?_; omega)))
        · have hlt' : ¬ (0 : Int) ≤ c.length - 1 - i := by omega
          have ei : i = c.length := by omega
          subst ei
          simp only [go_sem, Nat.reduceEqDiff, Nat.reduceAdd, Nat.reduceSub, Nat.reduceMul, Nat.reduceLT, Nat.reduceLeDiff, ↓reduceIte, reduceCtorEq, List.reduceReplicate, Int.cast_ofNat_Int, Int.reduceEq, Int.reduceLT, Int.reduceLE, decide_eq_false hlt']
          repeat' (first
    | with_reducible refine And.intro ?_ ?_
    | (unfold OKC; kernel_rfl)
    | (apply okc_up <;> (first | ((repeat (first | exact Sub.nil | apply Sub.gfp | apply Sub.same)); done) | kernel_rfl))
    | (unfold EDG; kernel_rfl)
    | (intros; (try simp only [Bool.and_eq_true, Bool.or_eq_true, Bool.not_eq_true', Bool.not_eq_false', Bool.and_eq_false_iff, Bool.or_eq_false_iff, decide_eq_true_eq, decide_eq_false_iff_not] at *); omega)
    | (refine gt_if (fun h => ?_) (fun h => ?_) <;> (try simp only [h]))
    | (refine pt_if (fun h => ?_) (fun h => ?_) <;> (try simp only [h]))
    | (refine cd_if (fun h => ?_) (fun h => ?_) <;> (try simp only [h]))
    | (apply cg_tp
       case hl => rfl
       case ha => (simp only [List.map_cons, List.map_nil, prepV, prepC, idx, hpL', lookR, Nat.reduceEqDiff, if_true, if_false]; rfl)
       case hs => rfl
       case h => (first | exact h5 ..))
    | (apply cg_any
       case hl => rfl
       case ha => (intro hb; simp only [List.map_cons, List.map_nil, cnd, hb, if_true, prepV, prepC, idx, hpL', lookR, Nat.reduceEqDiff, if_false]; rfl)
       case hs => (intro hb; simp only [cnd, hb, if_true]; rfl)
       case h => (first | exact h5 ..))
    | (apply cl_plain
       case hs => rfl
       case ha => (simp only [List.map_cons, List.map_nil, prepV, prepC, idx, hpL', lookR, Nat.reduceEqDiff, if_true, if_false]; rfl)
       case h => (first | exact h5 ..))
    | (apply cl_show
       case ha => (simp only [List.map_cons, List.map_nil, prepV, prepC, idx, hpL', lookR, Nat.reduceEqDiff, if_true, if_false]; rfl)
       case hs => ((simp [snaps, SV.refs, Cell.refs, idx, hpL', lookR]) <;> (repeat' apply And.intro) <;> exact Ints_isG _)
       case h => (first | exact h5 ..)
       case hg => ((simp [SV.noG, SV.noGL, Cell.noG]) <;> (repeat' apply And.intro) <;> exact Ints_noG _))
    | ((first | refine s1_id ?_ | refine swp_id ?_ | refine sops_id ?_ | refine s2_id ?_); simp only [go_sem, Nat.reduceEqDiff, Nat.reduceAdd, Nat.reduceSub, Nat.reduceMul, Nat.reduceLT, Nat.reduceLeDiff, ↓reduceIte, reduceCtorEq, List.reduceReplicate, Int.cast_ofNat_Int, Int.reduceEq, Int.reduceLT, Int.reduceLE, SV.ren, SV.renL, Cell.ren, Row.ren, renO, bk, back, outUpsFrom, Ints_ren]))
          (refine fs_w (by simp only [go_sem, resV, resS, SV.ren, SV.renL, Cell.ren, St.tmF, St.hpF, idx, renO, Row.ren, evS, slot, lookR, Nat.reduceEqDiff, ↓reduceIte, reduceCtorEq, if_true, if_false, Option.getD_some, Option.getD_none, List.map_cons, List.map_nil, sLoad, readAt, readNeed, Ints_ren, Ints_length, Ints_getD, and_true, true_and, List.getD_cons_zero, List.getD_cons_succ]; try trivial) ?_; simp only [go_sem, resV, resS, SV.ren, SV.renL, Cell.ren, St.tmF, St.hpF, idx, renO, Row.ren, evS, slot, lookR, Nat.reduceEqDiff, ↓reduceIte, reduceCtorEq, if_true, if_false, Option.getD_some, Option.getD_none, List.map_cons, List.map_nil, sLoad, readAt, readNeed, Ints_ren, Ints_length, Ints_getD, and_true, true_and, List.getD_cons_zero, List.getD_cons_succ]; refine svw_of ?_; simp only [sw_tup, swl_cons, swl_nil, sw_one, sw_agg, cwl_cons, cwl_nil, cw_id, cw_nil0, cw_cap0, List.length_nil, and_true, true_and, and_self] <;> (try ((repeat' with_reducible apply And.intro) <;> (first | with_reducible trivial | exact cw_rfl _ | exact cw_gnil | exact cw_niln _ _ | exact cw_cap _ _ _ _ | (refine cw_eq ?_; congr; done)))))
    · have hl0 : lim { x with q := q', b := b' } = true := by rw [hlq]; simp [hq]
      have hmB : mst { x with q := q', b := b' } = q' + b' := by unfold mst; rw [hl0]; simp
      rw [hl0] at h4
      cases hs : stl q' b' with
      | false =>
        simp only [if_true]
        have hwi : wi q' 1 1000000 = false ∨ (wi q' 1 1000000 = true ∧ wi b' 0 q' = false) := by
          cases h5 : wi q' 1 1000000 with
          | false => exact .inl rfl
          | true =>
            cases h6 : wi b' 0 q' with
            | false => exact .inr ⟨rfl, rfl⟩
            | true =>
              rw [wi_iff] at h5 h6
              have := stl_iff.2 (.inr ⟨hq, h5.1, h5.2, h6.1, h6.2⟩)
              rw [hs] at this; cases this
        clear hw h0 hn hsml hlq hl0 hmB hh hH hM hL hlen hall
        obtain ⟨g, q, b, s, l, c, sp, pe, th, em⟩ := x
        simp only [plt, plc, plo, pz, pre] at *
        rcases hwi with h5 | ⟨h5, h6⟩
        · refine fnspec_of mixed TT_ok TT_cl ⟨fun _ => false, fun _ => [], 0, fun _ => false, fun _ => false⟩ Try.func33 rfl (by kernel_rfl) rfl 86 rfl [.cell 6 26, .tmp 7] rfl ?_
          simp only [go_sem, Nat.reduceEqDiff, Nat.reduceAdd, Nat.reduceSub, Nat.reduceMul, Nat.reduceLT, Nat.reduceLeDiff, ↓reduceIte, reduceCtorEq, List.reduceReplicate, Int.cast_ofNat_Int, Int.reduceEq, Int.reduceLT, Int.reduceLE, plc, plo]
          repeat' (first
    | with_reducible refine And.intro ?_ ?_
    | (unfold OKC; kernel_rfl)
    | (apply okc_up <;> (first | ((repeat (first | exact Sub.nil | apply Sub.gfp | apply Sub.same)); done) | kernel_rfl))
    | (unfold EDG; kernel_rfl)
    | (intros; (try simp only [Bool.and_eq_true, Bool.or_eq_true, Bool.not_eq_true', Bool.not_eq_false', Bool.and_eq_false_iff, Bool.or_eq_false_iff, decide_eq_true_eq, decide_eq_false_iff_not] at *); omega)
    | (refine gt_if (fun h => ?_) (fun h => ?_) <;> (try simp only [h]))
    | (refine pt_if (fun h => ?_) (fun h => ?_) <;> (try simp only [h]))
    | (refine cd_if (fun h => ?_) (fun h => ?_) <;> (try simp only [h]))
    | (apply cg_tp
       case hl => rfl
       case ha => (simp only [List.map_cons, List.map_nil, prepV, prepC, idx, hpL', lookR, Nat.reduceEqDiff, if_true, if_false]; rfl)
       case hs => rfl
       case h => (first | exact h1 .. | exact rin_spec .. | exact h2 .. | exact h3 .. | exact h4 ..))
    | (apply cg_any
       case hl => rfl
       case ha => (intro hb; simp only [List.map_cons, List.map_nil, cnd, hb, if_true, prepV, prepC, idx, hpL', lookR, Nat.reduceEqDiff, if_false]; rfl)
       case hs => (intro hb; simp only [cnd, hb, if_true]; rfl)
       case h => (first | exact h1 .. | exact rin_spec .. | exact h2 .. | exact h3 .. | exact h4 ..))
    | (apply cl_plain
       case hs => rfl
       case ha => (simp only [List.map_cons, List.map_nil, prepV, prepC, idx, hpL', lookR, Nat.reduceEqDiff, if_true, if_false]; rfl)
       case h => (first | exact h1 .. | exact rin_spec .. | exact h2 .. | exact h3 .. | exact h4 ..))
    | (apply cl_show
       case ha => (simp only [List.map_cons, List.map_nil, prepV, prepC, idx, hpL', lookR, Nat.reduceEqDiff, if_true, if_false]; rfl)
       case hs => ((simp [snaps, SV.refs, Cell.refs, idx, hpL', lookR]) <;> (repeat' apply And.intro) <;> exact Ints_isG _)
       case h => (first | exact h1 .. | exact rin_spec .. | exact h2 .. | exact h3 .. | exact h4 ..)
       case hg => ((simp [SV.noG, SV.noGL, Cell.noG]) <;> (repeat' apply And.intro) <;> exact Ints_noG _))
    | ((first | refine s1_id ?_ | refine swp_id ?_ | refine sops_id ?_ | refine s2_id ?_); simp only [plc, plo, h5, go_sem, Nat.reduceEqDiff, Nat.reduceAdd, Nat.reduceSub, Nat.reduceMul, Nat.reduceLT, Nat.reduceLeDiff, ↓reduceIte, reduceCtorEq, List.reduceReplicate, Int.cast_ofNat_Int, Int.reduceEq, Int.reduceLT, Int.reduceLE, SV.ren, SV.renL, Cell.ren, Row.ren, renO, bk, back, outUpsFrom, Ints_ren]))
          (refine fs_w (by simp only [go_sem, resV, resS, SV.ren, SV.renL, Cell.ren, St.tmF, St.hpF, idx, renO, Row.ren, evS, slot, lookR, Nat.reduceEqDiff, ↓reduceIte, reduceCtorEq, if_true, if_false, Option.getD_some, Option.getD_none, List.map_cons, List.map_nil, sLoad, readAt, readNeed, Ints_ren, Ints_length, Ints_getD, and_true, true_and, List.getD_cons_zero, List.getD_cons_succ]; try trivial) ?_; simp only [go_sem, resV, resS, SV.ren, SV.renL, Cell.ren, St.tmF, St.hpF, idx, renO, Row.ren, evS, slot, lookR, Nat.reduceEqDiff, ↓reduceIte, reduceCtorEq, if_true, if_false, Option.getD_some, Option.getD_none, List.map_cons, List.map_nil, sLoad, readAt, readNeed, Ints_ren, Ints_length, Ints_getD, and_true, true_and, List.getD_cons_zero, List.getD_cons_succ]; refine svw_of ?_; simp only [sw_tup, swl_cons, swl_nil, sw_one, sw_agg, cwl_cons, cwl_nil, cw_id, cw_nil0, cw_cap0, List.length_nil, and_true, true_and, and_self] <;> (try ((repeat' with_reducible apply And.intro) <;> (first | with_reducible trivial | exact cw_rfl _ | exact cw_gnil | exact cw_niln _ _ | exact cw_cap _ _ _ _ | (refine cw_eq ?_; congr; done)))))
        · refine fnspec_of mixed TT_ok TT_cl ⟨fun _ => false, fun _ => [], 0, fun _ => false, fun _ => false⟩ Try.func33 rfl (by kernel_rfl) rfl 86 rfl [.cell 6 26, .tmp 7] rfl ?_
          simp only [go_sem, Nat.reduceEqDiff, Nat.reduceAdd, Nat.reduceSub, Nat.reduceMul, Nat.reduceLT, Nat.reduceLeDiff, ↓reduceIte, reduceCtorEq, List.reduceReplicate, Int.cast_ofNat_Int, Int.reduceEq, Int.reduceLT, Int.reduceLE, plc, plo]
          repeat' (first
    | with_reducible refine And.intro ?_ ?_
    | (unfold OKC; kernel_rfl)
    | (apply okc_up <;> (first | ((repeat (first | exact Sub.nil | apply Sub.gfp | apply Sub.same)); done) | kernel_rfl))
    | (unfold EDG; kernel_rfl)
    | (intros; (try simp only [Bool.and_eq_true, Bool.or_eq_true, Bool.not_eq_true', Bool.not_eq_false', Bool.and_eq_false_iff, Bool.or_eq_false_iff, decide_eq_true_eq, decide_eq_false_iff_not] at *); omega)
    | (refine gt_if (fun h => ?_) (fun h => ?_) <;> (try simp only [h]))
    | (refine pt_if (fun h => ?_) (fun h => ?_) <;> (try simp only [h]))
    | (refine cd_if (fun h => ?_) (fun h => ?_) <;> (try simp only [h]))
    | (apply cg_tp
       case hl => rfl
       case ha => (simp only [List.map_cons, List.map_nil, prepV, prepC, idx, hpL', lookR, Nat.reduceEqDiff, if_true, if_false]; rfl)
       case hs => rfl
       case h => (first | exact h1 .. | exact rin_spec .. | exact h2 .. | exact h3 .. | exact h4 ..))
    | (apply cg_any
       case hl => rfl
       case ha => (intro hb; simp only [List.map_cons, List.map_nil, cnd, hb, if_true, prepV, prepC, idx, hpL', lookR, Nat.reduceEqDiff, if_false]; rfl)
       case hs => (intro hb; simp only [cnd, hb, if_true]; rfl)
       case h => (first | exact h1 .. | exact rin_spec .. | exact h2 .. | exact h3 .. | exact h4 ..))
    | (apply cl_plain
       case hs => rfl
       case ha => (simp only [List.map_cons, List.map_nil, prepV, prepC, idx, hpL', lookR, Nat.reduceEqDiff, if_true, if_false]; rfl)
       case h => (first | exact h1 .. | exact rin_spec .. | exact h2 .. | exact h3 .. | exact h4 ..))
    | (apply cl_show
       case ha => (simp only [List.map_cons, List.map_nil, prepV, prepC, idx, hpL', lookR, Nat.reduceEqDiff, if_true, if_false]; rfl)
       case hs => ((simp [snaps, SV.refs, Cell.refs, idx, hpL', lookR]) <;> (repeat' apply And.intro) <;> exact Ints_isG _)
       case h => (first | exact h1 .. | exact rin_spec .. | exact h2 .. | exact h3 .. | exact h4 ..)
       case hg => ((simp [SV.noG, SV.noGL, Cell.noG]) <;> (repeat' apply And.intro) <;> exact Ints_noG _))
    | ((first | refine s1_id ?_ | refine swp_id ?_ | refine sops_id ?_ | refine s2_id ?_); simp only [plc, plo, h5, h6, go_sem, Nat.reduceEqDiff, Nat.reduceAdd, Nat.reduceSub, Nat.reduceMul, Nat.reduceLT, Nat.reduceLeDiff, ↓reduceIte, reduceCtorEq, List.reduceReplicate, Int.cast_ofNat_Int, Int.reduceEq, Int.reduceLT, Int.reduceLE, SV.ren, SV.renL, Cell.ren, Row.ren, renO, bk, back, outUpsFrom, Ints_ren]))
          (refine fs_w (by simp only [go_sem, resV, resS, SV.ren, SV.renL, Cell.ren, St.tmF, St.hpF, idx, renO, Row.ren, evS, slot, lookR, Nat.reduceEqDiff, ↓reduceIte, reduceCtorEq, if_true, if_false, Option.getD_some, Option.getD_none, List.map_cons, List.map_nil, sLoad, readAt, readNeed, Ints_ren, Ints_length, Ints_getD, and_true, true_and, List.getD_cons_zero, List.getD_cons_succ]; try trivial) ?_; simp only [go_sem, resV, resS, SV.ren, SV.renL, Cell.ren, St.tmF, St.hpF, idx, renO, Row.ren, evS, slot, lookR, Nat.reduceEqDiff, ↓reduceIte, reduceCtorEq, if_true, if_false, Option.getD_some, Option.getD_none, List.map_cons, List.map_nil, sLoad, readAt, readNeed, Ints_ren, Ints_length, Ints_getD, and_true, true_and, List.getD_cons_zero, List.getD_cons_succ]; refine svw_of ?_; simp only [sw_tup, swl_cons, swl_nil, sw_one, sw_agg, cwl_cons, cwl_nil, cw_id, cw_nil0, cw_cap0, List.length_nil, and_true, true_and, and_self] <;> (try ((repeat' with_reducible apply And.intro) <;> (first | with_reducible trivial | exact cw_rfl _ | exact cw_gnil | exact cw_niln _ _ | exact cw_cap _ _ _ _ | (refine cw_eq ?_; congr; done)))))
      | true =>
        have hst := stl_iff.1 hs
        have hm2 : 0 ≤ mst { x with q := q', b := b' } ∧ mst { x with q := q', b := b' } ≤ 2000000 := by rw [hmB]; omega
        have hp := pov_rng h0 hm2.1
        have hmn := mn_le x.l (pov x q' b')
        have hok := lsN_ok (c := x.c) (ex := pov x q' b' - mn x.l (pov x q' b')) hall (by omega)
        have hln := lsN_len x.c (pov x q' b' - mn x.l (pov x q' b'))
        have epov : pov x q' b' = if hld x - mst { x with q := q', b := b' } < 0 then 0 else hld x - mst { x with q := q', b := b' } := by unfold pov; split <;> split <;> omega
        have en0 : mn x.l (pov x q' b') = if x.l < pov x q' b' then x.l else pov x q' b' := by rw [mn_comm]; rfl
        rw [hmB] at hm2 epov
        have hr5 : pck (pchg x q' b') = true := (pchg_ok h0 hs).1
        have h5 := rchk_spec (pchg x q' b') none ⟨hb', by have := hn.pe; simp only [pchg]; omega, by simp only [pchg, hln]; omega⟩
        rw [hr5] at h5
        simp only [plt, plc, pchg, hln] at h5
        have hwi1 : wi q' 1 1000000 = true := wi_iff.2 (by omega)
        have hwi2 : wi b' 0 q' = true := wi_iff.2 (by omega)
        simp only [Bool.true_eq_false, if_true, if_false, pre, plt, plc, pchg, hln, pz]
        clear hr5
        generalize mn x.l (pov x q' b') = n0 at *
        generalize pov x q' b' = ov at *
        generalize hld x = H at *
        generalize mst x = M at *
        clear h0 hn hsml hlq hw
        obtain ⟨g, q, b, s, l, c, sp, pe, th, em⟩ := x
        simp only [plt, plc, plo] at *
        refine fnspec_of mixed TT_ok TT_cl ⟨fun _ => false, fun _ => [], 0, fun _ => false, fun _ => false⟩ Try.func33 rfl (by kernel_rfl) rfl 86 rfl [.cell 6 26, .tmp 7] rfl ?_
        simp only [go_sem, Nat.reduceEqDiff, Nat.reduceAdd, Nat.reduceSub, Nat.reduceMul, Nat.reduceLT, Nat.reduceLeDiff, ↓reduceIte, reduceCtorEq, List.reduceReplicate, Int.cast_ofNat_Int, Int.reduceEq, Int.reduceLT, Int.reduceLE, plc, plo]
        repeat' (first
    | with_reducible refine And.intro ?_ ?_
    | (unfold OKC; kernel_rfl)
    | (apply okc_up <;> (first | ((repeat (first | exact Sub.nil | apply Sub.gfp | apply Sub.same)); done) | kernel_rfl))
    | (unfold EDG; kernel_rfl)
    | (intros; (try simp only [Bool.and_eq_true, Bool.or_eq_true, Bool.not_eq_true', Bool.not_eq_false', Bool.and_eq_false_iff, Bool.or_eq_false_iff, decide_eq_true_eq, decide_eq_false_iff_not] at *); omega)
    | (refine gt_if (fun h => ?_) (fun h => ?_) <;> (try simp only [h]))
    | (refine pt_if (fun h => ?_) (fun h => ?_) <;> (try simp only [h]))
    | (refine cd_if (fun h => ?_) (fun h => ?_) <;> (try simp only [h]))
    | (apply cg_tp
       case hl => rfl
       case ha => (simp only [List.map_cons, List.map_nil, prepV, prepC, idx, hpL', lookR, Nat.reduceEqDiff, if_true, if_false]; rfl)
       case hs => rfl
       case h => (first | exact h1 .. | exact rin_spec .. | exact h2 .. | exact h3 .. | exact h4 ..))
    | (apply cg_any
       case hl => rfl
       case ha => (intro hb; simp only [List.map_cons, List.map_nil, cnd, hb, if_true, prepV, prepC, idx, hpL', lookR, Nat.reduceEqDiff, if_false]; rfl)
       case hs => (intro hb; simp only [cnd, hb, if_true]; rfl)
       case h => (first | exact h1 .. | exact rin_spec .. | exact h2 .. | exact h3 .. | exact h4 ..))
    | (apply cl_plain
       case hs => rfl
       case ha => (simp only [List.map_cons, List.map_nil, prepV, prepC, idx, hpL', lookR, Nat.reduceEqDiff, if_true, if_false]; rfl)
       case h => (first | exact h1 .. | exact rin_spec .. | exact h2 .. | exact h3 .. | exact h4 ..))
    | (apply cl_show
       case ha => (simp only [List.map_cons, List.map_nil, prepV, prepC, idx, hpL', lookR, Nat.reduceEqDiff, if_true, if_false]; rfl)
       case hs => ((simp [snaps, SV.refs, Cell.refs, idx, hpL', lookR]) <;> (repeat' apply And.intro) <;> exact Ints_isG _)
       case h => (first | exact h1 .. | exact rin_spec .. | exact h2 .. | exact h3 .. | exact h4 ..)
       case hg => ((simp [SV.noG, SV.noGL, Cell.noG]) <;> (repeat' apply And.intro) <;> exact Ints_noG _))
    | ((first | refine s1_id ?_ | refine swp_id ?_ | refine sops_id ?_ | refine s2_id ?_); simp only [plc, plo, hwi1, hwi2, ← epov, ← en0, go_sem, Nat.reduceEqDiff, Nat.reduceAdd, Nat.reduceSub, Nat.reduceMul, Nat.reduceLT, Nat.reduceLeDiff, ↓reduceIte, reduceCtorEq, List.reduceReplicate, Int.cast_ofNat_Int, Int.reduceEq, Int.reduceLT, Int.reduceLE, SV.ren, SV.renL, Cell.ren, Row.ren, renO, bk, back, outUpsFrom, Ints_ren]))
        refine w_loop (ι := Nat) (fun i => ⟨[(6, .one (.optr 1 0)), (8, .one (.optr 8 0)), (10, i1 (lsN c (ov - n0) i).2), (12, i1 (c.length - 1 - i))],
          [(1, some ⟨[int 0, int 0, int 0, int 0, int 0, .sc (.slice none 0 0), int 0, int 0, int 0, bool false], 10⟩), (7, some ⟨Ints (lsN c (ov - n0) i).1, 1⟩), (8, some ⟨[int g, int q', int b', int s, int (l - n0), .osl 7 0 c.length none, int sp, int pe, int th, bool em], 10⟩)], 9⟩)
          (fun i => i ≤ c.length) (fun i => c.length - i) 0 ?_ (Nat.zero_le _) ?_
        · (refine imp_sub _ _ _ [(1, 1), (7, 7), (8, 8)] (by simp) (by simp) (by simp) (Nat.le_of_ble_eq_true rfl) ?_ (by simp only [List.map_cons, List.map_nil, St.hpF, lookR, renO, Row.ren, Cell.ren, toN, Ints_ren, Bools_ren, Nat.reduceEqDiff, if_true, if_false, ↓reduceIte] <;> (try rfl)) (by simp only [List.forall_mem_cons, List.not_mem_nil, false_implies, implies_true, and_true, St.hpF, lookR, Nat.reduceEqDiff, if_true, if_false, ↓reduceIte, Option.some.injEq, forall_eq'] <;> ((repeat' with_reducible apply And.intro) <;> (first | with_reducible trivial | exact fun c hc q hq => absurd hq (Ints_refs0 _ _ c hc) | (simp [Cell.refs, toN]; done)))); simp only [List.map_cons, List.map_nil, List.forall_mem_cons, List.not_mem_nil, false_implies, implies_true, and_true, lk, slot, SV.ren, Cell.ren, toN, Nat.reduceEqDiff, if_true, if_false, ↓reduceIte, reduceCtorEq])
          all_goals ((repeat' apply And.intro) <;> (first | rfl | trivial | (simp only [lsN, Int.sub_zero, Int.ofNat_zero]; done) | (simp only [lsN, Int.sub_zero, Int.ofNat_zero]; rfl) | (simp only [lsN, Int.sub_zero, Int.ofNat_zero]; trivial)))
        intro i hi
        rcases Nat.lt_or_ge i c.length with hlt | hge
        · have hlt' : (0 : Int) ≤ c.length - 1 - i := by omega
          have hoi := hok i hi
          have hln' : (lsN c (ov - n0) i).1.length = c.length := lsN_len _ _ _
          have hix : ((c.length : Int) - 1 - i).toNat = c.length - 1 - i := by omega
          have hgi := hoi.1 (c.length - 1 - i)
          have hmm := mn_le ((lsN c (ov - n0) i).1.getD (c.length - 1 - i) 0) (lsN c (ov - n0) i).2
          have emm : mn ((lsN c (ov - n0) i).1.getD (c.length - 1 - i) 0) (lsN c (ov - n0) i).2 = if (lsN c (ov - n0) i).1.getD (c.length - 1 - i) 0 < (lsN c (ov - n0) i).2 then (lsN c (ov - n0) i).1.getD (c.length - 1 - i) 0 else (lsN c (ov - n0) i).2 := by rw [mn_comm]; rfl
          have est : lsN c (ov - n0) (i + 1) = ((lsN c (ov - n0) i).1.set (c.length - 1 - i) ((lsN c (ov - n0) i).1.getD (c.length - 1 - i) 0 - mn ((lsN c (ov - n0) i).1.getD (c.length - 1 - i) 0) (lsN c (ov - n0) i).2), (lsN c (ov - n0) i).2 - mn ((lsN c (ov - n0) i).1.getD (c.length - 1 - i) 0) (lsN c (ov - n0) i).2) := rfl
          generalize hS : lsN c (ov - n0) i = S at *
          generalize hS2 : lsN c (ov - n0) (i + 1) = S2 at *
          obtain ⟨d, e⟩ := S
          simp only at est hln' hoi hmm emm hgi
          generalize mn (d.getD (c.length - 1 - i) 0) e = m at *
          simp only [go_sem, Nat.reduceEqDiff, Nat.reduceAdd, Nat.reduceSub, Nat.reduceMul, Nat.reduceLT, Nat.reduceLeDiff, ↓reduceIte, reduceCtorEq, List.reduceReplicate, Int.cast_ofNat_Int, Int.reduceEq, Int.reduceLT, Int.reduceLE, decide_eq_true hlt', hS, hix, ← emm]
          repeat' (first
    | with_reducible refine And.intro ?_ ?_
    | (unfold OKC; kernel_rfl)
    | (apply okc_up <;> (first | ((repeat (first | exact Sub.nil | apply Sub.gfp | apply Sub.same)); done) | kernel_rfl))
    | (unfold EDG; kernel_rfl)
    | (intros; (try simp only [Bool.and_eq_true, Bool.or_eq_true, Bool.not_eq_true', Bool.not_eq_false', Bool.and_eq_false_iff, Bool.or_eq_false_iff, decide_eq_true_eq, decide_eq_false_iff_not] at *); omega)
    | (refine gt_if (fun h => ?_) (fun h => ?_) <;> (try simp only [h]))
    | (refine pt_if (fun h => ?_) (fun h => ?_) <;> (try simp only [h]))
    | (refine cd_if (fun h => ?_) (fun h => ?_) <;> (try simp only [h]))
    | (apply cg_tp
       case hl => rfl
       case ha => (simp only [List.map_cons, List.map_nil, prepV, prepC, idx, hpL', lookR, Nat.reduceEqDiff, if_true, if_false]; rfl)
       case hs => rfl
       case h => (first | fail))
    | (apply cg_any
       case hl => rfl
       case ha => (intro hb; simp only [List.map_cons, List.map_nil, cnd, hb, if_true, prepV, prepC, idx, hpL', lookR, Nat.reduceEqDiff, if_false]; rfl)
       case hs => (intro hb; simp only [cnd, hb, if_true]; rfl)
       case h => (first | fail))
    | (apply cl_plain
       case hs => rfl
       case ha => (simp only [List.map_cons, List.map_nil, prepV, prepC, idx, hpL', lookR, Nat.reduceEqDiff, if_true, if_false]; rfl)
       case h => (first | fail))
    | (apply cl_show
       case ha => (simp only [List.map_cons, List.map_nil, prepV, prepC, idx, hpL', lookR, Nat.reduceEqDiff, if_true, if_false]; rfl)
       case hs => ((simp [snaps, SV.refs, Cell.refs, idx, hpL', lookR]) <;> (repeat' apply And.intro) <;> exact Ints_isG _)
       case h => (first | fail)
       case hg => ((simp [SV.noG, SV.noGL, Cell.noG]) <;> (repeat' apply And.intro) <;> exact Ints_noG _))
    | ((first | refine s1_id ?_ | refine swp_id ?_ | refine sops_id ?_ | refine s2_id ?_); simp only [hix, ← emm, go_sem, Nat.reduceEqDiff, Nat.reduceAdd, Nat.reduceSub, Nat.reduceMul, Nat.reduceLT, Nat.reduceLeDiff, ↓reduceIte, reduceCtorEq, List.reduceReplicate, Int.cast_ofNat_Int, Int.reduceEq, Int.reduceLT, Int.reduceLE, SV.ren, SV.renL, Cell.ren, Row.ren, renO, bk, back, outUpsFrom, Ints_ren]))
          refine le_mk (i + 1) ?_ (by omega) (by omega)
          rw [hS2, est]
          (refine imp_sub _ _ _ [(1, 1), (7, 7), (8, 8)] (by simp) (by simp) (by simp) (Nat.le_of_ble_eq_true rfl) ?_ (by simp only [List.map_cons, List.map_nil, St.hpF, lookR, renO, Row.ren, Cell.ren, toN, Ints_ren, Bools_ren, Nat.reduceEqDiff, if_true, if_false, ↓reduceIte] <;> (try rfl)) (by simp only [List.forall_mem_cons, List.not_mem_nil, false_implies, implies_true, and_true, St.hpF, lookR, Nat.reduceEqDiff, if_true, if_false, ↓reduceIte, Option.some.injEq, forall_eq'] <;> ((repeat' with_reducible apply And.intro) <;> (first | with_reducible trivial | exact fun c hc q hq => absurd hq (Ints_refs0 _ _ c hc) | (simp [Cell.refs, toN]; done)))); simp only [List.map_cons, List.map_nil, List.forall_mem_cons, List.not_mem_nil, false_implies, implies_true, and_true, lk, slot, SV.ren, Cell.ren, toN, Nat.reduceEqDiff, if_true, if_false, ↓reduceIte, reduceCtorEq])
          all_goals ((repeat' apply And.intro) <;> (first | rfl | trivial | (refine i1_eq ?_; omega)))
        · have hlt' : ¬ (0 : Int) ≤ c.length - 1 - i := by omega
          have ei : i = c.length := by omega
          subst ei
          simp only [go_sem, Nat.reduceEqDiff, Nat.reduceAdd, Nat.reduceSub, Nat.reduceMul, Nat.reduceLT, Nat.reduceLeDiff, ↓reduceIte, reduceCtorEq, List.reduceReplicate, Int.cast_ofNat_Int, Int.reduceEq, Int.reduceLT, Int.reduceLE, decide_eq_false hlt']
          repeat' (first
    | with_reducible refine And.intro ?_ ?_
    | (unfold OKC; kernel_rfl)
    | (apply okc_up <;> (first | ((repeat (first | exact Sub.nil | apply Sub.gfp | apply Sub.same)); done) | kernel_rfl))
    | (unfold EDG; kernel_rfl)
    | (intros; (try simp only [Bool.and_eq_true, Bool.or_eq_true, Bool.not_eq_true', Bool.not_eq_false', Bool.and_eq_false_iff, Bool.or_eq_false_iff, decide_eq_true_eq, decide_eq_false_iff_not] at *); omega)
    | (refine gt_if (fun h => ?_) (fun h => ?_) <;> (try simp only [h]))
    | (refine pt_if (fun h => ?_) (fun h => ?_) <;> (try simp only [h]))
    | (refine cd_if (fun h => ?_) (fun h => ?_) <;> (try simp only [h]))
    | (apply cg_tp
       case hl => rfl
       case ha => (simp only [List.map_cons, List.map_nil, prepV, prepC, idx, hpL', lookR, Nat.reduceEqDiff, if_true, if_false]; rfl)
       case hs => rfl
       case h => (first | exact h5 ..))
    | (apply cg_any
       case hl => rfl
       case ha => (intro hb; simp only [List.map_cons, List.map_nil, cnd, hb, if_true, prepV, prepC, idx, hpL', lookR, Nat.reduceEqDiff, if_false]; rfl)
       case hs => (intro hb; simp only [cnd, hb, if_true]; rfl)
       case h => (first | exact h5 ..))
    | (apply cl_plain
       case hs => rfl
       case ha => (simp only [List.map_cons, List.map_nil, prepV, prepC, idx, hpL', lookR, Nat.reduceEqDiff, if_true, if_false]; rfl)
       case h => (first | exact h5 ..))
    | (apply cl_show
       case ha => (simp only [List.map_cons, List.map_nil, prepV, prepC, idx, hpL', lookR, Nat.reduceEqDiff, if_true, if_false]; rfl)
       case hs => ((simp [snaps, SV.refs, Cell.refs, idx, hpL', lookR]) <;> (repeat' apply And.intro) <;> exact Ints_isG _)
       case h => (first | exact h5 ..)
       case hg => ((simp [SV.noG, SV.noGL, Cell.noG]) <;> (repeat' apply And.intro) <;> exact Ints_noG _))
    | ((first | refine s1_id ?_ | refine swp_id ?_ | refine sops_id ?_ | refine s2_id ?_); simp only [go_sem, Nat.reduceEqDiff, Nat.reduceAdd, Nat.reduceSub, Nat.reduceMul, Nat.reduceLT, Nat.reduceLeDiff, ↓reduceIte, reduceCtorEq, List.reduceReplicate, Int.cast_ofNat_Int, Int.reduceEq, Int.reduceLT, Int.reduceLE, SV.ren, SV.renL, Cell.ren, Row.ren, renO, bk, back, outUpsFrom, Ints_ren]))
          (refine fs_frz 7 ⟨Ints (lsN c (ov - n0) c.length).1, 1⟩ (by simp only [St.hpF, lookR, Nat.reduceEqDiff, if_true, if_false, ↓reduceIte]) (by first | exact Ints_isG _ | exact Bools_isG _ | (simp [Cell.isG]; done)) ?_; simp only [frzTm, SV.frz, SV.frzL, Cell.frz, frzHp, frzO, Ints_frz, Bools_frz, List.map_cons, List.map_nil, Nat.reduceEqDiff, if_true, if_false, ↓reduceIte])
          (refine fs_w (by simp only [go_sem, resV, resS, SV.ren, SV.renL, Cell.ren, St.tmF, St.hpF, idx, renO, Row.ren, evS, slot, lookR, Nat.reduceEqDiff, ↓reduceIte, reduceCtorEq, if_true, if_false, Option.getD_some, Option.getD_none, List.map_cons, List.map_nil, sLoad, readAt, readNeed, Ints_ren, Ints_length, Ints_getD, and_true, true_and, List.getD_cons_zero, List.getD_cons_succ]; try trivial) ?_; simp only [go_sem, resV, resS, SV.ren, SV.renL, Cell.ren, St.tmF, St.hpF, idx, renO, Row.ren, evS, slot, lookR, Nat.reduceEqDiff, ↓reduceIte, reduceCtorEq, if_true, if_false, Option.getD_some, Option.getD_none, List.map_cons, List.map_nil, sLoad, readAt, readNeed, Ints_ren, Ints_length, Ints_getD, and_true, true_and, List.getD_cons_zero, List.getD_cons_succ]; refine svw_of ?_; simp only [sw_tup, swl_cons, swl_nil, sw_one, sw_agg, cwl_cons, cwl_nil, cw_id, cw_nil0, cw_cap0, List.length_nil, and_true, true_and, and_self] <;> (try ((repeat' with_reducible apply And.intro) <;> (first | with_reducible trivial | exact cw_rfl _ | exact cw_gnil | exact cw_niln _ _ | exact cw_cap _ _ _ _ | (refine cw_eq ?_; congr; done)))))
/-- the same pool twice -/
theorem same_spec (x : Pl) (k k' : Option Nat) (hlen : x.c.length ≤ 1000) : FnSpec Try.prog 28 [plt x k, plt x k'] [] (b1 true) [] := by
  obtain ⟨g, q, b, s, l, c, sp, pe, th, em⟩ := x
  simp only at hlen
  refine fnspec_of mixed TT_ok TT_cl ⟨fun _ => false, fun _ => [], 0, fun _ => false, fun _ => false⟩ Try.func28 rfl (by kernel_rfl) rfl 92 rfl [.tmp 4] rfl ?_
  simp only [go_sem, Nat.reduceEqDiff, Nat.reduceAdd, Nat.reduceSub, Nat.reduceMul, Nat.reduceLT, Nat.reduceLeDiff, ↓reduceIte, reduceCtorEq, List.reduceReplicate, Int.cast_ofNat_Int, Int.reduceEq, Int.reduceLT, Int.reduceLE, plc]
  repeat' (first
    | with_reducible refine And.intro ?_ ?_
    | (unfold OKC; kernel_rfl)
    | (apply okc_up <;> (first | ((repeat (first | exact Sub.nil | apply Sub.gfp | apply Sub.same)); done) | kernel_rfl))
    | (unfold EDG; kernel_rfl)
    | (intros; (try simp only [Bool.and_eq_true, Bool.or_eq_true, Bool.not_eq_true', Bool.not_eq_false', Bool.and_eq_false_iff, Bool.or_eq_false_iff, decide_eq_true_eq, decide_eq_false_iff_not] at *); omega)
    | (refine gt_if (fun h => ?_) (fun h => ?_) <;> (try simp only [h]))
    | (refine pt_if (fun h => ?_) (fun h => ?_) <;> (try simp only [h]))
    | (refine cd_if (fun h => ?_) (fun h => ?_) <;> (try simp only [h]))
    | (apply cg_tp
       case hl => rfl
       case ha => (simp only [List.map_cons, List.map_nil, prepV, prepC, idx, hpL', lookR, Nat.reduceEqDiff, if_true, if_false]; rfl)
       case hs => rfl
       case h => (first | fail))
    | (apply cg_any
       case hl => rfl
       case ha => (intro hb; simp only [List.map_cons, List.map_nil, cnd, hb, if_true, prepV, prepC, idx, hpL', lookR, Nat.reduceEqDiff, if_false]; rfl)
       case hs => (intro hb; simp only [cnd, hb, if_true]; rfl)
       case h => (first | fail))
    | (apply cl_plain
       case hs => rfl
       case ha => (simp only [List.map_cons, List.map_nil, prepV, prepC, idx, hpL', lookR, Nat.reduceEqDiff, if_true, if_false]; rfl)
       case h => (first | fail))
    | (apply cl_show
       case ha => (simp only [List.map_cons, List.map_nil, prepV, prepC, idx, hpL', lookR, Nat.reduceEqDiff, if_true, if_false]; rfl)
       case hs => ((simp [snaps, SV.refs, Cell.refs, idx, hpL', lookR]) <;> (repeat' apply And.intro) <;> exact Ints_isG _)
       case h => (first | fail)
       case hg => ((simp [SV.noG, SV.noGL, Cell.noG]) <;> (repeat' apply And.intro) <;> exact Ints_noG _))
    | ((first | refine s1_id ?_ | refine swp_id ?_ | refine sops_id ?_ | refine s2_id ?_); simp only [plc, go_sem, Nat.reduceEqDiff, Nat.reduceAdd, Nat.reduceSub, Nat.reduceMul, Nat.reduceLT, Nat.reduceLeDiff, ↓reduceIte, reduceCtorEq, List.reduceReplicate, Int.cast_ofNat_Int, Int.reduceEq, Int.reduceLT, Int.reduceLE, SV.ren, SV.renL, Cell.ren, Row.ren, renO, bk, back, outUpsFrom, Ints_ren])
    | (apply fs_nil <;> (try simp only [go_sem, resV, resS, SV.ren, SV.renL, Cell.ren, St.tmF, St.hpF, idx, renO, Row.ren, evS, slot, lookR, Nat.reduceEqDiff, ↓reduceIte, reduceCtorEq, if_true, if_false, Option.getD_some, Option.getD_none, List.map_cons, List.map_nil, sLoad, readAt, readNeed, Ints_ren, Ints_length, Ints_getD, and_true, true_and, List.getD_cons_zero, List.getD_cons_succ]) <;> (try rfl)))
  refine w_loop (ι := Nat) (fun i => ⟨[(2, .one (.optr 0 0)), (3, .one (.optr 1 0)), (5, i1 i)], [(0, some ⟨plc ⟨g, q, b, s, l, c, sp, pe, th, em⟩ k, 10⟩), (1, some ⟨plc ⟨g, q, b, s, l, c, sp, pe, th, em⟩ k', 10⟩)], 2⟩) (fun i => i ≤ c.length) (fun i => c.length - i) 0 ?_ (Nat.zero_le _) ?_
  · (refine imp_ren _ _ _ [(0, 0, ⟨plc ⟨g, q, b, s, l, c, sp, pe, th, em⟩ k, 10⟩), (1, 1, ⟨plc ⟨g, q, b, s, l, c, sp, pe, th, em⟩ k', 10⟩)] (by simp) (by simp) (by simp) (Nat.le_of_ble_eq_true rfl) ?_ rfl (by simp only [List.forall_mem_cons, List.not_mem_nil, false_implies, implies_true, and_true, St.hpF, lookR, Nat.reduceEqDiff, if_true, if_false, ↓reduceIte] <;> (repeat' apply And.intro) <;> (first | rfl | trivial)) (by simp only [List.forall_mem_cons, List.not_mem_nil, false_implies, implies_true, and_true, true_and, flat_cons, flat_nil, flat_ints, flat_bools, flat_app, Cell.refs, and_self, eq_self_iff_true, List.append_nil]); simp only [List.map_cons, List.map_nil, List.forall_mem_cons, List.not_mem_nil, false_implies, implies_true, and_true, lk, slot, SV.ren, Cell.ren, toN, Nat.reduceEqDiff, if_true, if_false, ↓reduceIte, reduceCtorEq])
    all_goals ((repeat' apply And.intro) <;> (first | rfl | trivial))
  intro i hi
  simp only [go_sem, Nat.reduceEqDiff, Nat.reduceAdd, Nat.reduceSub, Nat.reduceMul, Nat.reduceLT, Nat.reduceLeDiff, ↓reduceIte, reduceCtorEq, List.reduceReplicate, Int.cast_ofNat_Int, Int.reduceEq, Int.reduceLT, Int.reduceLE, plc]
  repeat' (first
    | with_reducible refine And.intro ?_ ?_
    | (unfold OKC; kernel_rfl)
    | (apply okc_up <;> (first | ((repeat (first | exact Sub.nil | apply Sub.gfp | apply Sub.same)); done) | kernel_rfl))
    | (unfold EDG; kernel_rfl)
    | (intros; (try simp only [Bool.and_eq_true, Bool.or_eq_true, Bool.not_eq_true', Bool.not_eq_false', Bool.and_eq_false_iff, Bool.or_eq_false_iff, decide_eq_true_eq, decide_eq_false_iff_not] at *); omega)
    | (refine gt_if (fun h => ?_) (fun h => ?_) <;> (try simp only [h]))
    | (refine pt_if (fun h => ?_) (fun h => ?_) <;> (try simp only [h]))
    | (refine cd_if (fun h => ?_) (fun h => ?_) <;> (try simp only [h]))
    | (apply cg_tp
       case hl => rfl
       case ha => (simp only [List.map_cons, List.map_nil, prepV, prepC, idx, hpL', lookR, Nat.reduceEqDiff, if_true, if_false]; rfl)
       case hs => rfl
       case h => (first | fail))
    | (apply cg_any
       case hl => rfl
       case ha => (intro hb; simp only [List.map_cons, List.map_nil, cnd, hb, if_true, prepV, prepC, idx, hpL', lookR, Nat.reduceEqDiff, if_false]; rfl)
       case hs => (intro hb; simp only [cnd, hb, if_true]; rfl)
       case h => (first | fail))
    | (apply cl_plain
       case hs => rfl
       case ha => (simp only [List.map_cons, List.map_nil, prepV, prepC, idx, hpL', lookR, Nat.reduceEqDiff, if_true, if_false]; rfl)
       case h => (first | fail))
    | (apply cl_show
       case ha => (simp only [List.map_cons, List.map_nil, prepV, prepC, idx, hpL', lookR, Nat.reduceEqDiff, if_true, if_false]; rfl)
       case hs => ((simp [snaps, SV.refs, Cell.refs, idx, hpL', lookR]) <;> (repeat' apply And.intro) <;> exact Ints_isG _)
       case h => (first | fail)
       case hg => ((simp [SV.noG, SV.noGL, Cell.noG]) <;> (repeat' apply And.intro) <;> exact Ints_noG _))
    | ((first | refine s1_id ?_ | refine swp_id ?_ | refine sops_id ?_ | refine s2_id ?_); simp only [plc, go_sem, Nat.reduceEqDiff, Nat.reduceAdd, Nat.reduceSub, Nat.reduceMul, Nat.reduceLT, Nat.reduceLeDiff, ↓reduceIte, reduceCtorEq, List.reduceReplicate, Int.cast_ofNat_Int, Int.reduceEq, Int.reduceLT, Int.reduceLE, SV.ren, SV.renL, Cell.ren, Row.ren, renO, bk, back, outUpsFrom, Ints_ren])
    | (apply fs_nil <;> (try simp only [go_sem, resV, resS, SV.ren, SV.renL, Cell.ren, St.tmF, St.hpF, idx, renO, Row.ren, evS, slot, lookR, Nat.reduceEqDiff, ↓reduceIte, reduceCtorEq, if_true, if_false, Option.getD_some, Option.getD_none, List.map_cons, List.map_nil, sLoad, readAt, readNeed, Ints_ren, Ints_length, Ints_getD, and_true, true_and, List.getD_cons_zero, List.getD_cons_succ]) <;> (try rfl)))
  · simp only [Bool.not_eq_true', Bool.not_eq_false', decide_eq_true_eq, decide_eq_false_iff_not, Bool.or_eq_true, Bool.or_eq_false_iff, Bool.and_eq_true] at *
    refine le_mk (i + 1) ?_ (by omega) (by omega)
    (refine imp_ren _ _ _ [(0, 0, ⟨plc ⟨g, q, b, s, l, c, sp, pe, th, em⟩ k, 10⟩), (1, 1, ⟨plc ⟨g, q, b, s, l, c, sp, pe, th, em⟩ k', 10⟩)] (by simp) (by simp) (by simp) (Nat.le_of_ble_eq_true rfl) ?_ rfl (by simp only [List.forall_mem_cons, List.not_mem_nil, false_implies, implies_true, and_true, St.hpF, lookR, Nat.reduceEqDiff, if_true, if_false, ↓reduceIte] <;> (repeat' apply And.intro) <;> (first | rfl | trivial)) (by simp only [List.forall_mem_cons, List.not_mem_nil, false_implies, implies_true, and_true, true_and, flat_cons, flat_nil, flat_ints, flat_bools, flat_app, Cell.refs, and_self, eq_self_iff_true, List.append_nil]); simp only [List.map_cons, List.map_nil, List.forall_mem_cons, List.not_mem_nil, false_implies, implies_true, and_true, lk, slot, SV.ren, Cell.ren, toN, Nat.reduceEqDiff, if_true, if_false, ↓reduceIte, reduceCtorEq])
    all_goals ((repeat' apply And.intro) <;> (first | rfl | trivial))
  · cases em <;> rfl
def pn0 (g q b s n : Int) : Pl := ⟨g, q, b, s, if q = 4611686018427387904 then 0 else q, List.replicate n.toNat 0, 0, 1, 0, false⟩
def pnew (g q b s n : Int) : Pl × Int := if wi n 1 16 = false then (pz, 3) else if pck (pn0 g q b s n) = false then (pz, 3) else (pn0 g q b s n, 0)
theorem new_spec (g q b s n : Int) : FnSpec Try.prog 34 [i1 g, i1 q, i1 b, i1 s, i1 n] [] (pre (pnew g q b s n)) [] := by
  unfold pnew
  split
  · rename_i h0
    simp only [plt, plc, pz, pre] at *
    refine fnspec_of mixed TT_ok TT_cl ⟨fun _ => false, fun _ => [], 0, fun _ => false, fun _ => false⟩ Try.func34 rfl (by kernel_rfl) rfl 33 rfl [.cell 10 26, .tmp 11] rfl ?_
    simp only [go_sem, Nat.reduceEqDiff, Nat.reduceAdd, Nat.reduceSub, Nat.reduceMul, Nat.reduceLT, Nat.reduceLeDiff, ↓reduceIte, reduceCtorEq, List.reduceReplicate, Int.cast_ofNat_Int, Int.reduceEq, Int.reduceLT, Int.reduceLE]
    repeat' (first
    | with_reducible refine And.intro ?_ ?_
    | (unfold OKC; kernel_rfl)
    | (apply okc_up <;> (first | ((repeat (first | exact Sub.nil | apply Sub.gfp | apply Sub.same)); done) | kernel_rfl))
    | (unfold EDG; kernel_rfl)
    | (intros; (try simp only [Bool.and_eq_true, Bool.or_eq_true, Bool.not_eq_true', Bool.not_eq_false', Bool.and_eq_false_iff, Bool.or_eq_false_iff, decide_eq_true_eq, decide_eq_false_iff_not] at *); omega)
    | (refine gt_if (fun h => ?_) (fun h => ?_) <;> (try simp only [h]))
    | (refine pt_if (fun h => ?_) (fun h => ?_) <;> (try simp only [h]))
    | (refine cd_if (fun h => ?_) (fun h => ?_) <;> (try simp only [h]))
    | (apply cg_tp
       case hl => rfl
       case ha => (simp only [List.map_cons, List.map_nil, prepV, prepC, idx, hpL', lookR, Nat.reduceEqDiff, if_true, if_false]; rfl)
       case hs => rfl
       case h => (first | exact within_spec ..))
    | (apply cg_any
       case hl => rfl
       case ha => (intro hb; simp only [List.map_cons, List.map_nil, cnd, hb, if_true, prepV, prepC, idx, hpL', lookR, Nat.reduceEqDiff, if_false]; rfl)
       case hs => (intro hb; simp only [cnd, hb, if_true]; rfl)
       case h => (first | exact within_spec ..))
    | (apply cl_plain
       case hs => rfl
       case ha => (simp only [List.map_cons, List.map_nil, prepV, prepC, idx, hpL', lookR, Nat.reduceEqDiff, if_true, if_false]; rfl)
       case h => (first | exact within_spec ..))
    | (apply cl_show
       case ha => (simp only [List.map_cons, List.map_nil, prepV, prepC, idx, hpL', lookR, Nat.reduceEqDiff, if_true, if_false]; rfl)
       case hs => ((simp [snaps, SV.refs, Cell.refs, idx, hpL', lookR]) <;> (repeat' apply And.intro) <;> exact Ints_isG _)
       case h => (first | exact within_spec ..)
       case hg => ((simp [SV.noG, SV.noGL, Cell.noG]) <;> (repeat' apply And.intro) <;> exact Ints_noG _))
    | ((first | refine s1_id ?_ | refine swp_id ?_ | refine sops_id ?_ | refine s2_id ?_); simp only [h0, go_sem, Nat.reduceEqDiff, Nat.reduceAdd, Nat.reduceSub, Nat.reduceMul, Nat.reduceLT, Nat.reduceLeDiff, ↓reduceIte, reduceCtorEq, List.reduceReplicate, Int.cast_ofNat_Int, Int.reduceEq, Int.reduceLT, Int.reduceLE, SV.ren, SV.renL, Cell.ren, Row.ren, renO, bk, back, outUpsFrom, Ints_ren]))
    (refine fs_w (by simp only [go_sem, resV, resS, SV.ren, SV.renL, Cell.ren, St.tmF, St.hpF, idx, renO, Row.ren, evS, slot, lookR, Nat.reduceEqDiff, ↓reduceIte, reduceCtorEq, if_true, if_false, Option.getD_some, Option.getD_none, List.map_cons, List.map_nil, sLoad, readAt, readNeed, Ints_ren, Ints_length, Ints_getD, and_true, true_and, List.getD_cons_zero, List.getD_cons_succ]; try trivial) ?_; simp only [go_sem, resV, resS, SV.ren, SV.renL, Cell.ren, St.tmF, St.hpF, idx, renO, Row.ren, evS, slot, lookR, Nat.reduceEqDiff, ↓reduceIte, reduceCtorEq, if_true, if_false, Option.getD_some, Option.getD_none, List.map_cons, List.map_nil, sLoad, readAt, readNeed, Ints_ren, Ints_length, Ints_getD, and_true, true_and, List.getD_cons_zero, List.getD_cons_succ]; refine svw_of ?_; simp only [sw_tup, swl_cons, swl_nil, sw_one, sw_agg, cwl_cons, cwl_nil, cw_id, cw_nil0, cw_cap0, List.length_nil, and_true, true_and, and_self] <;> (try ((repeat' with_reducible apply And.intro) <;> (first | with_reducible trivial | exact cw_rfl _ | exact cw_gnil | exact cw_niln _ _ | exact cw_cap _ _ _ _ | (refine cw_eq ?_; congr; done)))))
  · rename_i h0
    rw [Bool.not_eq_false] at h0
    have hn := wi_iff.1 h0
    have h1 := check_spec (pn0 g q b s n) (some n.toNat)
    have h2 := limited_spec ⟨g, q, b, s, 0, List.replicate n.toNat 0, 0, 1, 0, false⟩ (some n.toNat)
    have hlq : lim ⟨g, q, b, s, 0, List.replicate n.toNat 0, 0, 1, 0, false⟩ = !decide (q = 4611686018427387904) := rfl
    rw [hlq] at h2
    generalize pck (pn0 g q b s n) = r at *
    simp only [plt, plc, pn0, List.length_replicate] at h1 h2
    by_cases hq : q = 4611686018427387904
    · simp only [hq, if_true] at h1 h2
      subst hq
      cases r with
      | true =>
        simp only [Bool.true_eq_false, if_false, pre, plt, plc, pn0, List.length_replicate, if_true]
        refine fnspec_of mixed TT_ok TT_cl ⟨fun _ => false, fun _ => [], 0, fun _ => false, fun _ => false⟩ Try.func34 rfl (by kernel_rfl) rfl 33 rfl [.cell 10 26, .tmp 11] rfl ?_
        simp only [go_sem, Nat.reduceEqDiff, Nat.reduceAdd, Nat.reduceSub, Nat.reduceMul, Nat.reduceLT, Nat.reduceLeDiff, ↓reduceIte, reduceCtorEq, List.reduceReplicate, Int.cast_ofNat_Int, Int.reduceEq, Int.reduceLT, Int.reduceLE]
        repeat' (first
    | with_reducible refine And.intro ?_ ?_
    | (unfold OKC; kernel_rfl)
    | (apply okc_up <;> (first | ((repeat (first | exact Sub.nil | apply Sub.gfp | apply Sub.same)); done) | kernel_rfl))
    | (unfold EDG; kernel_rfl)
    | (intros; (try simp only [Bool.and_eq_true, Bool.or_eq_true, Bool.not_eq_true', Bool.not_eq_false', Bool.and_eq_false_iff, Bool.or_eq_false_iff, decide_eq_true_eq, decide_eq_false_iff_not] at *); omega)
    | (refine gt_if (fun h => ?_) (fun h => ?_) <;> (try simp only [h]))
    | (refine pt_if (fun h => ?_) (fun h => ?_) <;> (try simp only [h]))
    | (refine cd_if (fun h => ?_) (fun h => ?_) <;> (try simp only [h]))
    | (apply cg_tp
       case hl => rfl
       case ha => (simp only [List.map_cons, List.map_nil, prepV, prepC, idx, hpL', lookR, Nat.reduceEqDiff, if_true, if_false]; rfl)
       case hs => rfl
       case h => (first | exact within_spec .. | exact h1 .. | exact h2 ..))
    | (apply cg_any
       case hl => rfl
       case ha => (intro hb; simp only [List.map_cons, List.map_nil, cnd, hb, if_true, prepV, prepC, idx, hpL', lookR, Nat.reduceEqDiff, if_false]; rfl)
       case hs => (intro hb; simp only [cnd, hb, if_true]; rfl)
       case h => (first | exact within_spec .. | exact h1 .. | exact h2 ..))
    | (apply cl_plain
       case hs => rfl
       case ha => (simp only [List.map_cons, List.map_nil, prepV, prepC, idx, hpL', lookR, Nat.reduceEqDiff, if_true, if_false]; rfl)
       case h => (first | exact within_spec .. | exact h1 .. | exact h2 ..))
    | (apply cl_show
       case ha => (simp only [List.map_cons, List.map_nil, prepV, prepC, idx, hpL', lookR, Nat.reduceEqDiff, if_true, if_false]; rfl)
       case hs => ((simp [snaps, SV.refs, Cell.refs, idx, hpL', lookR]) <;> (repeat' apply And.intro) <;> exact Ints_isG _)
       case h => (first | exact within_spec .. | exact h1 .. | exact h2 ..)
       case hg => ((simp [SV.noG, SV.noGL, Cell.noG]) <;> (repeat' apply And.intro) <;> exact Ints_noG _))
    | ((first | refine s1_id ?_ | refine swp_id ?_ | refine sops_id ?_ | refine s2_id ?_); simp only [h0, go_sem, Nat.reduceEqDiff, Nat.reduceAdd, Nat.reduceSub, Nat.reduceMul, Nat.reduceLT, Nat.reduceLeDiff, ↓reduceIte, reduceCtorEq, List.reduceReplicate, Int.cast_ofNat_Int, Int.reduceEq, Int.reduceLT, Int.reduceLE, SV.ren, SV.renL, Cell.ren, Row.ren, renO, bk, back, outUpsFrom, Ints_ren]))
        (refine fs_frz 10 ⟨Ints (List.replicate n.toNat 0), 1⟩ (by simp only [St.hpF, lookR, Nat.reduceEqDiff, if_true, if_false, ↓reduceIte]) (by first | exact Ints_isG _ | exact Bools_isG _ | (simp [Cell.isG]; done)) ?_; simp only [frzTm, SV.frz, SV.frzL, Cell.frz, frzHp, frzO, Ints_frz, Bools_frz, List.map_cons, List.map_nil, Nat.reduceEqDiff, if_true, if_false, ↓reduceIte])
        (refine fs_w (by simp only [go_sem, resV, resS, SV.ren, SV.renL, Cell.ren, St.tmF, St.hpF, idx, renO, Row.ren, evS, slot, lookR, Nat.reduceEqDiff, ↓reduceIte, reduceCtorEq, if_true, if_false, Option.getD_some, Option.getD_none, List.map_cons, List.map_nil, sLoad, readAt, readNeed, Ints_ren, Ints_length, Ints_getD, and_true, true_and, List.getD_cons_zero, List.getD_cons_succ]; try trivial) ?_; simp only [go_sem, resV, resS, SV.ren, SV.renL, Cell.ren, St.tmF, St.hpF, idx, renO, Row.ren, evS, slot, lookR, Nat.reduceEqDiff, ↓reduceIte, reduceCtorEq, if_true, if_false, Option.getD_some, Option.getD_none, List.map_cons, List.map_nil, sLoad, readAt, readNeed, Ints_ren, Ints_length, Ints_getD, and_true, true_and, List.getD_cons_zero, List.getD_cons_succ]; refine svw_of ?_; simp only [sw_tup, swl_cons, swl_nil, sw_one, sw_agg, cwl_cons, cwl_nil, cw_id, cw_nil0, cw_cap0, List.length_nil, and_true, true_and, and_self] <;> (try ((repeat' with_reducible apply And.intro) <;> (first | with_reducible trivial | exact cw_rfl _ | exact cw_gnil | exact cw_niln _ _ | exact cw_cap _ _ _ _ | (refine cw_eq ?_; congr; done)))))
      | false =>
        simp only [if_true, pre, plt, plc, pz]
        refine fnspec_of mixed TT_ok TT_cl ⟨fun _ => false, fun _ => [], 0, fun _ => false, fun _ => false⟩ Try.func34 rfl (by kernel_rfl) rfl 33 rfl [.cell 10 26, .tmp 11] rfl ?_
        simp only [go_sem, Nat.reduceEqDiff, Nat.reduceAdd, Nat.reduceSub, Nat.reduceMul, Nat.reduceLT, Nat.reduceLeDiff, ↓reduceIte, reduceCtorEq, List.reduceReplicate, Int.cast_ofNat_Int, Int.reduceEq, Int.reduceLT, Int.reduceLE]
        repeat' (first
    | with_reducible refine And.intro ?_ ?_
    | (unfold OKC; kernel_rfl)
    | (apply okc_up <;> (first | ((repeat (first | exact Sub.nil | apply Sub.gfp | apply Sub.same)); done) | kernel_rfl))
    | (unfold EDG; kernel_rfl)
    | (intros; (try simp only [Bool.and_eq_true, Bool.or_eq_true, Bool.not_eq_true', Bool.not_eq_false', Bool.and_eq_false_iff, Bool.or_eq_false_iff, decide_eq_true_eq, decide_eq_false_iff_not] at *); omega)
    | (refine gt_if (fun h => ?_) (fun h => ?_) <;> (try simp only [h]))
    | (refine pt_if (fun h => ?_) (fun h => ?_) <;> (try simp only [h]))
    | (refine cd_if (fun h => ?_) (fun h => ?_) <;> (try simp only [h]))
    | (apply cg_tp
       case hl => rfl
       case ha => (simp only [List.map_cons, List.map_nil, prepV, prepC, idx, hpL', lookR, Nat.reduceEqDiff, if_true, if_false]; rfl)
       case hs => rfl
       case h => (first | exact within_spec .. | exact h1 .. | exact h2 ..))
    | (apply cg_any
       case hl => rfl
       case ha => (intro hb; simp only [List.map_cons, List.map_nil, cnd, hb, if_true, prepV, prepC, idx, hpL', lookR, Nat.reduceEqDiff, if_false]; rfl)
       case hs => (intro hb; simp only [cnd, hb, if_true]; rfl)
       case h => (first | exact within_spec .. | exact h1 .. | exact h2 ..))
    | (apply cl_plain
       case hs => rfl
       case ha => (simp only [List.map_cons, List.map_nil, prepV, prepC, idx, hpL', lookR, Nat.reduceEqDiff, if_true, if_false]; rfl)
       case h => (first | exact within_spec .. | exact h1 .. | exact h2 ..))
    | (apply cl_show
       case ha => (simp only [List.map_cons, List.map_nil, prepV, prepC, idx, hpL', lookR, Nat.reduceEqDiff, if_true, if_false]; rfl)
       case hs => ((simp [snaps, SV.refs, Cell.refs, idx, hpL', lookR]) <;> (repeat' apply And.intro) <;> exact Ints_isG _)
       case h => (first | exact within_spec .. | exact h1 .. | exact h2 ..)
       case hg => ((simp [SV.noG, SV.noGL, Cell.noG]) <;> (repeat' apply And.intro) <;> exact Ints_noG _))
    | ((first | refine s1_id ?_ | refine swp_id ?_ | refine sops_id ?_ | refine s2_id ?_); simp only [h0, go_sem, Nat.reduceEqDiff, Nat.reduceAdd, Nat.reduceSub, Nat.reduceMul, Nat.reduceLT, Nat.reduceLeDiff, ↓reduceIte, reduceCtorEq, List.reduceReplicate, Int.cast_ofNat_Int, Int.reduceEq, Int.reduceLT, Int.reduceLE, SV.ren, SV.renL, Cell.ren, Row.ren, renO, bk, back, outUpsFrom, Ints_ren]))
        (refine fs_w (by simp only [go_sem, resV, resS, SV.ren, SV.renL, Cell.ren, St.tmF, St.hpF, idx, renO, Row.ren, evS, slot, lookR, Nat.reduceEqDiff, ↓reduceIte, reduceCtorEq, if_true, if_false, Option.getD_some, Option.getD_none, List.map_cons, List.map_nil, sLoad, readAt, readNeed, Ints_ren, Ints_length, Ints_getD, and_true, true_and, List.getD_cons_zero, List.getD_cons_succ]; try trivial) ?_; simp only [go_sem, resV, resS, SV.ren, SV.renL, Cell.ren, St.tmF, St.hpF, idx, renO, Row.ren, evS, slot, lookR, Nat.reduceEqDiff, ↓reduceIte, reduceCtorEq, if_true, if_false, Option.getD_some, Option.getD_none, List.map_cons, List.map_nil, sLoad, readAt, readNeed, Ints_ren, Ints_length, Ints_getD, and_true, true_and, List.getD_cons_zero, List.getD_cons_succ]; refine svw_of ?_; simp only [sw_tup, swl_cons, swl_nil, sw_one, sw_agg, cwl_cons, cwl_nil, cw_id, cw_nil0, cw_cap0, List.length_nil, and_true, true_and, and_self] <;> (try ((repeat' with_reducible apply And.intro) <;> (first | with_reducible trivial | exact cw_rfl _ | exact cw_gnil | exact cw_niln _ _ | exact cw_cap _ _ _ _ | (refine cw_eq ?_; congr; done)))))
    · simp only [hq, if_false, decide_false, Bool.not_false] at h1 h2
      cases r with
      | true =>
        simp only [Bool.true_eq_false, if_false, pre, plt, plc, pn0, List.length_replicate, hq]
        refine fnspec_of mixed TT_ok TT_cl ⟨fun _ => false, fun _ => [], 0, fun _ => false, fun _ => false⟩ Try.func34 rfl (by kernel_rfl) rfl 33 rfl [.cell 10 26, .tmp 11] rfl ?_
        simp only [go_sem, Nat.reduceEqDiff, Nat.reduceAdd, Nat.reduceSub, Nat.reduceMul, Nat.reduceLT, Nat.reduceLeDiff, ↓reduceIte, reduceCtorEq, List.reduceReplicate, Int.cast_ofNat_Int, Int.reduceEq, Int.reduceLT, Int.reduceLE]
        repeat' (first
    | with_reducible refine And.intro ?_ ?_
    | (unfold OKC; kernel_rfl)
    | (apply okc_up <;> (first | ((repeat (first | exact Sub.nil | apply Sub.gfp | apply Sub.same)); done) | kernel_rfl))
    | (unfold EDG; kernel_rfl)
    | (intros; (try simp only [Bool.and_eq_true, Bool.or_eq_true, Bool.not_eq_true', Bool.not_eq_false', Bool.and_eq_false_iff, Bool.or_eq_false_iff, decide_eq_true_eq, decide_eq_false_iff_not] at *); omega)
    | (refine gt_if (fun h => ?_) (fun h => ?_) <;> (try simp only [h]))
    | (refine pt_if (fun h => ?_) (fun h => ?_) <;> (try simp only [h]))
    | (refine cd_if (fun h => ?_) (fun h => ?_) <;> (try simp only [h]))
    | (apply cg_tp
       case hl => rfl
       case ha => (simp only [List.map_cons, List.map_nil, prepV, prepC, idx, hpL', lookR, Nat.reduceEqDiff, if_true, if_false]; rfl)
       case hs => rfl
       case h => (first | exact within_spec .. | exact h1 .. | exact h2 ..))
    | (apply cg_any
       case hl => rfl
       case ha => (intro hb; simp only [List.map_cons, List.map_nil, cnd, hb, if_true, prepV, prepC, idx, hpL', lookR, Nat.reduceEqDiff, if_false]; rfl)
       case hs => (intro hb; simp only [cnd, hb, if_true]; rfl)
       case h => (first | exact within_spec .. | exact h1 .. | exact h2 ..))
    | (apply cl_plain
       case hs => rfl
       case ha => (simp only [List.map_cons, List.map_nil, prepV, prepC, idx, hpL', lookR, Nat.reduceEqDiff, if_true, if_false]; rfl)
       case h => (first | exact within_spec .. | exact h1 .. | exact h2 ..))
    | (apply cl_show
       case ha => (simp only [List.map_cons, List.map_nil, prepV, prepC, idx, hpL', lookR, Nat.reduceEqDiff, if_true, if_false]; rfl)
       case hs => ((simp [snaps, SV.refs, Cell.refs, idx, hpL', lookR]) <;> (repeat' apply And.intro) <;> exact Ints_isG _)
       case h => (first | exact within_spec .. | exact h1 .. | exact h2 ..)
       case hg => ((simp [SV.noG, SV.noGL, Cell.noG]) <;> (repeat' apply And.intro) <;> exact Ints_noG _))
    | ((first | refine s1_id ?_ | refine swp_id ?_ | refine sops_id ?_ | refine s2_id ?_); simp only [h0, go_sem, Nat.reduceEqDiff, Nat.reduceAdd, Nat.reduceSub, Nat.reduceMul, Nat.reduceLT, Nat.reduceLeDiff, ↓reduceIte, reduceCtorEq, List.reduceReplicate, Int.cast_ofNat_Int, Int.reduceEq, Int.reduceLT, Int.reduceLE, SV.ren, SV.renL, Cell.ren, Row.ren, renO, bk, back, outUpsFrom, Ints_ren]))
        (refine fs_frz 10 ⟨Ints (List.replicate n.toNat 0), 1⟩ (by simp only [St.hpF, lookR, Nat.reduceEqDiff, if_true, if_false, ↓reduceIte]) (by first | exact Ints_isG _ | exact Bools_isG _ | (simp [Cell.isG]; done)) ?_; simp only [frzTm, SV.frz, SV.frzL, Cell.frz, frzHp, frzO, Ints_frz, Bools_frz, List.map_cons, List.map_nil, Nat.reduceEqDiff, if_true, if_false, ↓reduceIte])
        (refine fs_w (by simp only [go_sem, resV, resS, SV.ren, SV.renL, Cell.ren, St.tmF, St.hpF, idx, renO, Row.ren, evS, slot, lookR, Nat.reduceEqDiff, ↓reduceIte, reduceCtorEq, if_true, if_false, Option.getD_some, Option.getD_none, List.map_cons, List.map_nil, sLoad, readAt, readNeed, Ints_ren, Ints_length, Ints_getD, and_true, true_and, List.getD_cons_zero, List.getD_cons_succ]; try trivial) ?_; simp only [go_sem, resV, resS, SV.ren, SV.renL, Cell.ren, St.tmF, St.hpF, idx, renO, Row.ren, evS, slot, lookR, Nat.reduceEqDiff, ↓reduceIte, reduceCtorEq, if_true, if_false, Option.getD_some, Option.getD_none, List.map_cons, List.map_nil, sLoad, readAt, readNeed, Ints_ren, Ints_length, Ints_getD, and_true, true_and, List.getD_cons_zero, List.getD_cons_succ]; refine svw_of ?_; simp only [sw_tup, swl_cons, swl_nil, sw_one, sw_agg, cwl_cons, cwl_nil, cw_id, cw_nil0, cw_cap0, List.length_nil, and_true, true_and, and_self] <;> (try ((repeat' with_reducible apply And.intro) <;> (first | with_reducible trivial | exact cw_rfl _ | exact cw_gnil | exact cw_niln _ _ | exact cw_cap _ _ _ _ | (refine cw_eq ?_; congr; done)))))
      | false =>
        simp only [if_true, pre, plt, plc, pz]
        refine fnspec_of mixed TT_ok TT_cl ⟨fun _ => false, fun _ => [], 0, fun _ => false, fun _ => false⟩ Try.func34 rfl (by kernel_rfl) rfl 33 rfl [.cell 10 26, .tmp 11] rfl ?_
        simp only [go_sem, Nat.reduceEqDiff, Nat.reduceAdd, Nat.reduceSub, Nat.reduceMul, Nat.reduceLT, Nat.reduceLeDiff, ↓reduceIte, reduceCtorEq, List.reduceReplicate, Int.cast_ofNat_Int, Int.reduceEq, Int.reduceLT, Int.reduceLE]
        repeat' (first
    | with_reducible refine And.intro ?_ ?_
    | (unfold OKC; kernel_rfl)
    | (apply okc_up <;> (first | ((repeat (first | exact Sub.nil | apply Sub.gfp | apply Sub.same)); done) | kernel_rfl))
    | (unfold EDG; kernel_rfl)
    | (intros; (try simp only [Bool.and_eq_true, Bool.or_eq_true, Bool.not_eq_true', Bool.not_eq_false', Bool.and_eq_false_iff, Bool.or_eq_false_iff, decide_eq_true_eq, decide_eq_false_iff_not] at *); omega)
    | (refine gt_if (fun h => ?_) (fun h => ?_) <;> (try simp only [h]))
    | (refine pt_if (fun h => ?_) (fun h => ?_) <;> (try simp only [h]))
    | (refine cd_if (fun h => ?_) (fun h => ?_) <;> (try simp only [h]))
    | (apply cg_tp
       case hl => rfl
       case ha => (simp only [List.map_cons, List.map_nil, prepV, prepC, idx, hpL', lookR, Nat.reduceEqDiff, if_true, if_false]; rfl)
       case hs => rfl
       case h => (first | exact within_spec .. | exact h1 .. | exact h2 ..))
    | (apply cg_any
       case hl => rfl
       case ha => (intro hb; simp only [List.map_cons, List.map_nil, cnd, hb, if_true, prepV, prepC, idx, hpL', lookR, Nat.reduceEqDiff, if_false]; rfl)
       case hs => (intro hb; simp only [cnd, hb, if_true]; rfl)
       case h => (first | exact within_spec .. | exact h1 .. | exact h2 ..))
    | (apply cl_plain
       case hs => rfl
       case ha => (simp only [List.map_cons, List.map_nil, prepV, prepC, idx, hpL', lookR, Nat.reduceEqDiff, if_true, if_false]; rfl)
       case h => (first | exact within_spec .. | exact h1 .. | exact h2 ..))
    | (apply cl_show
       case ha => (simp only [List.map_cons, List.map_nil, prepV, prepC, idx, hpL', lookR, Nat.reduceEqDiff, if_true, if_false]; rfl)
       case hs => ((simp [snaps, SV.refs, Cell.refs, idx, hpL', lookR]) <;> (repeat' apply And.intro) <;> exact Ints_isG _)
       case h => (first | exact within_spec .. | exact h1 .. | exact h2 ..)
       case hg => ((simp [SV.noG, SV.noGL, Cell.noG]) <;> (repeat' apply And.intro) <;> exact Ints_noG _))
    | ((first | refine s1_id ?_ | refine swp_id ?_ | refine sops_id ?_ | refine s2_id ?_); simp only [h0, go_sem, Nat.reduceEqDiff, Nat.reduceAdd, Nat.reduceSub, Nat.reduceMul, Nat.reduceLT, Nat.reduceLeDiff, ↓reduceIte, reduceCtorEq, List.reduceReplicate, Int.cast_ofNat_Int, Int.reduceEq, Int.reduceLT, Int.reduceLE, SV.ren, SV.renL, Cell.ren, Row.ren, renO, bk, back, outUpsFrom, Ints_ren]))
        (refine fs_w (by simp only [go_sem, resV, resS, SV.ren, SV.renL, Cell.ren, St.tmF, St.hpF, idx, renO, Row.ren, evS, slot, lookR, Nat.reduceEqDiff, ↓reduceIte, reduceCtorEq, if_true, if_false, Option.getD_some, Option.getD_none, List.map_cons, List.map_nil, sLoad, readAt, readNeed, Ints_ren, Ints_length, Ints_getD, and_true, true_and, List.getD_cons_zero, List.getD_cons_succ]; try trivial) ?_; simp only [go_sem, resV, resS, SV.ren, SV.renL, Cell.ren, St.tmF, St.hpF, idx, renO, Row.ren, evS, slot, lookR, Nat.reduceEqDiff, ↓reduceIte, reduceCtorEq, if_true, if_false, Option.getD_some, Option.getD_none, List.map_cons, List.map_nil, sLoad, readAt, readNeed, Ints_ren, Ints_length, Ints_getD, and_true, true_and, List.getD_cons_zero, List.getD_cons_succ]; refine svw_of ?_; simp only [sw_tup, swl_cons, swl_nil, sw_one, sw_agg, cwl_cons, cwl_nil, cw_id, cw_nil0, cw_cap0, List.length_nil, and_true, true_and, and_self] <;> (try ((repeat' with_reducible apply And.intro) <;> (first | with_reducible trivial | exact cw_rfl _ | exact cw_gnil | exact cw_niln _ _ | exact cw_cap _ _ _ _ | (refine cw_eq ?_; congr; done)))))
theorem wk_pn0 (g q b s n : Int) (hb : -9223372036854775808 ≤ b ∧ b ≤ 9223372036854775807) (hn : n ≤ 16) : Wk (pn0 g q b s n) := ⟨hb, by simp [pn0], by simp only [pn0, List.length_replicate]; omega⟩
theorem rnew_spec (g q b s n : Int) (hb : -9223372036854775808 ≤ b ∧ b ≤ 9223372036854775807) : FnSpec Try.prog 35 [i1 g, i1 q, i1 b, i1 s, i1 n] [] (pre (pnew g q b s n)) [] := by
  unfold pnew
  split
  · rename_i h0
    simp only [plt, plc, pz, pre] at *
    refine fnspec_of mixed TT_ok TT_cl ⟨fun _ => false, fun _ => [], 0, fun _ => false, fun _ => false⟩ Try.func35 rfl (by kernel_rfl) rfl 33 rfl [.cell 10 26, .tmp 11] rfl ?_
    simp only [go_sem, Nat.reduceEqDiff, Nat.reduceAdd, Nat.reduceSub, Nat.reduceMul, Nat.reduceLT, Nat.reduceLeDiff, ↓reduceIte, reduceCtorEq, List.reduceReplicate, Int.cast_ofNat_Int, Int.reduceEq, Int.reduceLT, Int.reduceLE]
    repeat' (first
    | with_reducible refine And.intro ?_ ?_
    | (unfold OKC; kernel_rfl)
    | (apply okc_up <;> (first | ((repeat (first | exact Sub.nil | apply Sub.gfp | apply Sub.same)); done) | kernel_rfl))
    | (unfold EDG; kernel_rfl)
    | (intros; (try simp only [Bool.and_eq_true, Bool.or_eq_true, Bool.not_eq_true', Bool.not_eq_false', Bool.and_eq_false_iff, Bool.or_eq_false_iff, decide_eq_true_eq, decide_eq_false_iff_not] at *); omega)
    | (refine gt_if (fun h => ?_) (fun h => ?_) <;> (try simp only [h]))
    | (refine pt_if (fun h => ?_) (fun h => ?_) <;> (try simp only [h]))
    | (refine cd_if (fun h => ?_) (fun h => ?_) <;> (try simp only [h]))
    | (apply cg_tp
       case hl => rfl
       case ha => (simp only [List.map_cons, List.map_nil, prepV, prepC, idx, hpL', lookR, Nat.reduceEqDiff, if_true, if_false]; rfl)
       case hs => rfl
       case h => (first | exact rin_spec ..))
    | (apply cg_any
       case hl => rfl
       case ha => (intro hb; simp only [List.map_cons, List.map_nil, cnd, hb, if_true, prepV, prepC, idx, hpL', lookR, Nat.reduceEqDiff, if_false]; rfl)
       case hs => (intro hb; simp only [cnd, hb, if_true]; rfl)
       case h => (first | exact rin_spec ..))
    | (apply cl_plain
       case hs => rfl
       case ha => (simp only [List.map_cons, List.map_nil, prepV, prepC, idx, hpL', lookR, Nat.reduceEqDiff, if_true, if_false]; rfl)
       case h => (first | exact rin_spec ..))
    | (apply cl_show
       case ha => (simp only [List.map_cons, List.map_nil, prepV, prepC, idx, hpL', lookR, Nat.reduceEqDiff, if_true, if_false]; rfl)
       case hs => ((simp [snaps, SV.refs, Cell.refs, idx, hpL', lookR]) <;> (repeat' apply And.intro) <;> exact Ints_isG _)
       case h => (first | exact rin_spec ..)
       case hg => ((simp [SV.noG, SV.noGL, Cell.noG]) <;> (repeat' apply And.intro) <;> exact Ints_noG _))
    | ((first | refine s1_id ?_ | refine swp_id ?_ | refine sops_id ?_ | refine s2_id ?_); simp only [h0, go_sem, Nat.reduceEqDiff, Nat.reduceAdd, Nat.reduceSub, Nat.reduceMul, Nat.reduceLT, Nat.reduceLeDiff, ↓reduceIte, reduceCtorEq, List.reduceReplicate, Int.cast_ofNat_Int, Int.reduceEq, Int.reduceLT, Int.reduceLE, SV.ren, SV.renL, Cell.ren, Row.ren, renO, bk, back, outUpsFrom, Ints_ren]))
    (refine fs_w (by simp only [go_sem, resV, resS, SV.ren, SV.renL, Cell.ren, St.tmF, St.hpF, idx, renO, Row.ren, evS, slot, lookR, Nat.reduceEqDiff, ↓reduceIte, reduceCtorEq, if_true, if_false, Option.getD_some, Option.getD_none, List.map_cons, List.map_nil, sLoad, readAt, readNeed, Ints_ren, Ints_length, Ints_getD, and_true, true_and, List.getD_cons_zero, List.getD_cons_succ]; try trivial) ?_; simp only [go_sem, resV, resS, SV.ren, SV.renL, Cell.ren, St.tmF, St.hpF, idx, renO, Row.ren, evS, slot, lookR, Nat.reduceEqDiff, ↓reduceIte, reduceCtorEq, if_true, if_false, Option.getD_some, Option.getD_none, List.map_cons, List.map_nil, sLoad, readAt, readNeed, Ints_ren, Ints_length, Ints_getD, and_true, true_and, List.getD_cons_zero, List.getD_cons_succ]; refine svw_of ?_; simp only [sw_tup, swl_cons, swl_nil, sw_one, sw_agg, cwl_cons, cwl_nil, cw_id, cw_nil0, cw_cap0, List.length_nil, and_true, true_and, and_self] <;> (try ((repeat' with_reducible apply And.intro) <;> (first | with_reducible trivial | exact cw_rfl _ | exact cw_gnil | exact cw_niln _ _ | exact cw_cap _ _ _ _ | (refine cw_eq ?_; congr; done)))))
  · rename_i h0
    rw [Bool.not_eq_false] at h0
    have hn := wi_iff.1 h0
    have h1 := rchk_spec (pn0 g q b s n) (some n.toNat) (wk_pn0 g q b s n hb hn.2)
    have h2 := rlimited_spec ⟨g, q, b, s, 0, List.replicate n.toNat 0, 0, 1, 0, false⟩ (some n.toNat)
    have hlq : lim ⟨g, q, b, s, 0, List.replicate n.toNat 0, 0, 1, 0, false⟩ = !decide (q = 4611686018427387904) := rfl
    rw [hlq] at h2
    generalize pck (pn0 g q b s n) = r at *
    simp only [plt, plc, pn0, List.length_replicate] at h1 h2
    by_cases hq : q = 4611686018427387904
    · simp only [hq, if_true] at h1 h2
      subst hq
      cases r with
      | true =>
        simp only [Bool.true_eq_false, if_false, pre, plt, plc, pn0, List.length_replicate, if_true]
        refine fnspec_of mixed TT_ok TT_cl ⟨fun _ => false, fun _ => [], 0, fun _ => false, fun _ => false⟩ Try.func35 rfl (by kernel_rfl) rfl 33 rfl [.cell 10 26, .tmp 11] rfl ?_
        simp only [go_sem, Nat.reduceEqDiff, Nat.reduceAdd, Nat.reduceSub, Nat.reduceMul, Nat.reduceLT, Nat.reduceLeDiff, ↓reduceIte, reduceCtorEq, List.reduceReplicate, Int.cast_ofNat_Int, Int.reduceEq, Int.reduceLT, Int.reduceLE]
        repeat' (first
    | with_reducible refine And.intro ?_ ?_
    | (unfold OKC; kernel_rfl)
    | (apply okc_up <;> (first | ((repeat (first | exact Sub.nil | apply Sub.gfp | apply Sub.same)); done) | kernel_rfl))
    | (unfold EDG; kernel_rfl)
    | (intros; (try simp only [Bool.and_eq_true, Bool.or_eq_true, Bool.not_eq_true', Bool.not_eq_false', Bool.and_eq_false_iff, Bool.or_eq_false_iff, decide_eq_true_eq, decide_eq_false_iff_not] at *); omega)
    | (refine gt_if (fun h => ?_) (fun h => ?_) <;> (try simp only [h]))
    | (refine pt_if (fun h => ?_) (fun h => ?_) <;> (try simp only [h]))
    | (refine cd_if (fun h => ?_) (fun h => ?_) <;> (try simp only [h]))
    | (apply cg_tp
       case hl => rfl
       case ha => (simp only [List.map_cons, List.map_nil, prepV, prepC, idx, hpL', lookR, Nat.reduceEqDiff, if_true, if_false]; rfl)
       case hs => rfl
       case h => (first | exact rin_spec .. | exact h1 .. | exact h2 ..))
    | (apply cg_any
       case hl => rfl
       case ha => (intro hb; simp only [List.map_cons, List.map_nil, cnd, hb, if_true, prepV, prepC, idx, hpL', lookR, Nat.reduceEqDiff, if_false]; rfl)
       case hs => (intro hb; simp only [cnd, hb, if_true]; rfl)
       case h => (first | exact rin_spec .. | exact h1 .. | exact h2 ..))
    | (apply cl_plain
       case hs => rfl
       case ha => (simp only [List.map_cons, List.map_nil, prepV, prepC, idx, hpL', lookR, Nat.reduceEqDiff, if_true, if_false]; rfl)
       case h => (first | exact rin_spec .. | exact h1 .. | exact h2 ..))
    | (apply cl_show
       case ha => (simp only [List.map_cons, List.map_nil, prepV, prepC, idx, hpL', lookR, Nat.reduceEqDiff, if_true, if_false]; rfl)
       case hs => ((simp [snaps, SV.refs, Cell.refs, idx, hpL', lookR]) <;> (repeat' apply And.intro) <;> exact Ints_isG _)
       case h => (first | exact rin_spec .. | exact h1 .. | exact h2 ..)
       case hg => ((simp [SV.noG, SV.noGL, Cell.noG]) <;> (repeat' apply And.intro) <;> exact Ints_noG _))
    | ((first | refine s1_id ?_ | refine swp_id ?_ | refine sops_id ?_ | refine s2_id ?_); simp only [h0, go_sem, Nat.reduceEqDiff, Nat.reduceAdd, Nat.reduceSub, Nat.reduceMul, Nat.reduceLT, Nat.reduceLeDiff, ↓reduceIte, reduceCtorEq, List.reduceReplicate, Int.cast_ofNat_Int, Int.reduceEq, Int.reduceLT, Int.reduceLE, SV.ren, SV.renL, Cell.ren, Row.ren, renO, bk, back, outUpsFrom, Ints_ren]))
        (refine fs_frz 10 ⟨Ints (List.replicate n.toNat 0), 1⟩ (by simp only [St.hpF, lookR, Nat.reduceEqDiff, if_true, if_false, ↓reduceIte]) (by first | exact Ints_isG _ | exact Bools_isG _ | (simp [Cell.isG]; done)) ?_; simp only [frzTm, SV.frz, SV.frzL, Cell.frz, frzHp, frzO, Ints_frz, Bools_frz, List.map_cons, List.map_nil, Nat.reduceEqDiff, if_true, if_false, ↓reduceIte])
        (refine fs_w (by simp only [go_sem, resV, resS, SV.ren, SV.renL, Cell.ren, St.tmF, St.hpF, idx, renO, Row.ren, evS, slot, lookR, Nat.reduceEqDiff, ↓reduceIte, reduceCtorEq, if_true, if_false, Option.getD_some, Option.getD_none, List.map_cons, List.map_nil, sLoad, readAt, readNeed, Ints_ren, Ints_length, Ints_getD, and_true, true_and, List.getD_cons_zero, List.getD_cons_succ]; try trivial) ?_; simp only [go_sem, resV, resS, SV.ren, SV.renL, Cell.ren, St.tmF, St.hpF, idx, renO, Row.ren, evS, slot, lookR, Nat.reduceEqDiff, ↓reduceIte, reduceCtorEq, if_true, if_false, Option.getD_some, Option.getD_none, List.map_cons, List.map_nil, sLoad, readAt, readNeed, Ints_ren, Ints_length, Ints_getD, and_true, true_and, List.getD_cons_zero, List.getD_cons_succ]; refine svw_of ?_; simp only [sw_tup, swl_cons, swl_nil, sw_one, sw_agg, cwl_cons, cwl_nil, cw_id, cw_nil0, cw_cap0, List.length_nil, and_true, true_and, and_self] <;> (try ((repeat' with_reducible apply And.intro) <;> (first | with_reducible trivial | exact cw_rfl _ | exact cw_gnil | exact cw_niln _ _ | exact cw_cap _ _ _ _ | (refine cw_eq ?_; congr; done)))))
      | false =>
        simp only [if_true, pre, plt, plc, pz]
        refine fnspec_of mixed TT_ok TT_cl ⟨fun _ => false, fun _ => [], 0, fun _ => false, fun _ => false⟩ Try.func35 rfl (by kernel_rfl) rfl 33 rfl [.cell 10 26, .tmp 11] rfl ?_
        simp only [go_sem, Nat.reduceEqDiff, Nat.reduceAdd, Nat.reduceSub, Nat.reduceMul, Nat.reduceLT, Nat.reduceLeDiff, ↓reduceIte, reduceCtorEq, List.reduceReplicate, Int.cast_ofNat_Int, Int.reduceEq, Int.reduceLT, Int.reduceLE]
        repeat' (first
    | with_reducible refine And.intro ?_ ?_
    | (unfold OKC; kernel_rfl)
    | (apply okc_up <;> (first | ((repeat (first | exact Sub.nil | apply Sub.gfp | apply Sub.same)); done) | kernel_rfl))
    | (unfold EDG; kernel_rfl)
    | (intros; (try simp only [Bool.and_eq_true, Bool.or_eq_true, Bool.not_eq_true', Bool.not_eq_false', Bool.and_eq_false_iff, Bool.or_eq_false_iff, decide_eq_true_eq, decide_eq_false_iff_not] at *); omega)
    | (refine gt_if (fun h => ?_) (fun h => ?_) <;> (try simp only [h]))
    | (refine pt_if (fun h => ?_) (fun h => ?_) <;> (try simp only [h]))
    | (refine cd_if (fun h => ?_) (fun h => ?_) <;> (try simp only [h]))
    | (apply cg_tp
       case hl => rfl
       case ha => (simp only [List.map_cons, List.map_nil, prepV, prepC, idx, hpL', lookR, Nat.reduceEqDiff, if_true, if_false]; rfl)
       case hs => rfl
       case h => (first | exact rin_spec .. | exact h1 .. | exact h2 ..))
    | (apply cg_any
       case hl => rfl
       case ha => (intro hb; simp only [List.map_cons, List.map_nil, cnd, hb, if_true, prepV, prepC, idx, hpL', lookR, Nat.reduceEqDiff, if_false]; rfl)
       case hs => (intro hb; simp only [cnd, hb, if_true]; rfl)
       case h => (first | exact rin_spec .. | exact h1 .. | exact h2 ..))
    | (apply cl_plain
       case hs => rfl
       case ha => (simp only [List.map_cons, List.map_nil, prepV, prepC, idx, hpL', lookR, Nat.reduceEqDiff, if_true, if_false]; rfl)
       case h => (first | exact rin_spec .. | exact h1 .. | exact h2 ..))
    | (apply cl_show
       case ha => (simp only [List.map_cons, List.map_nil, prepV, prepC, idx, hpL', lookR, Nat.reduceEqDiff, if_true, if_false]; rfl)
       case hs => ((simp [snaps, SV.refs, Cell.refs, idx, hpL', lookR]) <;> (repeat' apply And.intro) <;> exact Ints_isG _)
       case h => (first | exact rin_spec .. | exact h1 .. | exact h2 ..)
       case hg => ((simp [SV.noG, SV.noGL, Cell.noG]) <;> (repeat' apply And.intro) <;> exact Ints_noG _))
    | ((first | refine s1_id ?_ | refine swp_id ?_ | refine sops_id ?_ | refine s2_id ?_); simp only [h0, go_sem, Nat.reduceEqDiff, Nat.reduceAdd, Nat.reduceSub, Nat.reduceMul, Nat.reduceLT, Nat.reduceLeDiff, ↓reduceIte, reduceCtorEq, List.reduceReplicate, Int.cast_ofNat_Int, Int.reduceEq, Int.reduceLT, Int.reduceLE, SV.ren, SV.renL, Cell.ren, Row.ren, renO, bk, back, outUpsFrom, Ints_ren]))
        (refine fs_w (by simp only [go_sem, resV, resS, SV.ren, SV.renL, Cell.ren, St.tmF, St.hpF, idx, renO, Row.ren, evS, slot, lookR, Nat.reduceEqDiff, ↓reduceIte, reduceCtorEq, if_true, if_false, Option.getD_some, Option.getD_none, List.map_cons, List.map_nil, sLoad, readAt, readNeed, Ints_ren, Ints_length, Ints_getD, and_true, true_and, List.getD_cons_zero, List.getD_cons_succ]; try trivial) ?_; simp only [go_sem, resV, resS, SV.ren, SV.renL, Cell.ren, St.tmF, St.hpF, idx, renO, Row.ren, evS, slot, lookR, Nat.reduceEqDiff, ↓reduceIte, reduceCtorEq, if_true, if_false, Option.getD_some, Option.getD_none, List.map_cons, List.map_nil, sLoad, readAt, readNeed, Ints_ren, Ints_length, Ints_getD, and_true, true_and, List.getD_cons_zero, List.getD_cons_succ]; refine svw_of ?_; simp only [sw_tup, swl_cons, swl_nil, sw_one, sw_agg, cwl_cons, cwl_nil, cw_id, cw_nil0, cw_cap0, List.length_nil, and_true, true_and, and_self] <;> (try ((repeat' with_reducible apply And.intro) <;> (first | with_reducible trivial | exact cw_rfl _ | exact cw_gnil | exact cw_niln _ _ | exact cw_cap _ _ _ _ | (refine cw_eq ?_; congr; done)))))
    · simp only [hq, if_false, decide_false, Bool.not_false] at h1 h2
      cases r with
      | true =>
        simp only [Bool.true_eq_false, if_false, pre, plt, plc, pn0, List.length_replicate, hq]
        refine fnspec_of mixed TT_ok TT_cl ⟨fun _ => false, fun _ => [], 0, fun _ => false, fun _ => false⟩ Try.func35 rfl (by kernel_rfl) rfl 33 rfl [.cell 10 26, .tmp 11] rfl ?_
        simp only [go_sem, Nat.reduceEqDiff, Nat.reduceAdd, Nat.reduceSub, Nat.reduceMul, Nat.reduceLT, Nat.reduceLeDiff, ↓reduceIte, reduceCtorEq, List.reduceReplicate, Int.cast_ofNat_Int, Int.reduceEq, Int.reduceLT, Int.reduceLE]
        repeat' (first
    | with_reducible refine And.intro ?_ ?_
    | (unfold OKC; kernel_rfl)
    | (apply okc_up <;> (first | ((repeat (first | exact Sub.nil | apply Sub.gfp | apply Sub.same)); done) | kernel_rfl))
    | (unfold EDG; kernel_rfl)
    | (intros; (try simp only [Bool.and_eq_true, Bool.or_eq_true, Bool.not_eq_true', Bool.not_eq_false', Bool.and_eq_false_iff, Bool.or_eq_false_iff, decide_eq_true_eq, decide_eq_false_iff_not] at *); omega)
    | (refine gt_if (fun h => ?_) (fun h => ?_) <;> (try simp only [h]))
    | (refine pt_if (fun h => ?_) (fun h => ?_) <;> (try simp only [h]))
    | (refine cd_if (fun h => ?_) (fun h => ?_) <;> (try simp only [h]))
    | (apply cg_tp
       case hl => rfl
       case ha => (simp only [List.map_cons, List.map_nil, prepV, prepC, idx, hpL', lookR, Nat.reduceEqDiff, if_true, if_false]; rfl)
       case hs => rfl
       case h => (first | exact rin_spec .. | exact h1 .. | exact h2 ..))
    | (apply cg_any
       case hl => rfl
       case ha => (intro hb; simp only [List.map_cons, List.map_nil, cnd, hb, if_true, prepV, prepC, idx, hpL', lookR, Nat.reduceEqDiff, if_false]; rfl)
       case hs => (intro hb; simp only [cnd, hb, if_true]; rfl)
       case h => (first | exact rin_spec .. | exact h1 .. | exact h2 ..))
    | (apply cl_plain
       case hs => rfl
       case ha => (simp only [List.map_cons, List.map_nil, prepV, prepC, idx, hpL', lookR, Nat.reduceEqDiff, if_true, if_false]; rfl)
       case h => (first | exact rin_spec .. | exact h1 .. | exact h2 ..))
    | (apply cl_show
       case ha => (simp only [List.map_cons, List.map_nil, prepV, prepC, idx, hpL', lookR, Nat.reduceEqDiff, if_true, if_false]; rfl)
       case hs => ((simp [snaps, SV.refs, Cell.refs, idx, hpL', lookR]) <;> (repeat' apply And.intro) <;> exact Ints_isG _)
       case h => (first | exact rin_spec .. | exact h1 .. | exact h2 ..)
       case hg => ((simp [SV.noG, SV.noGL, Cell.noG]) <;> (repeat' apply And.intro) <;> exact Ints_noG _))
    | ((first | refine s1_id ?_ | refine swp_id ?_ | refine sops_id ?_ | refine s2_id ?_); simp only [h0, go_sem, Nat.reduceEqDiff, Nat.reduceAdd, Nat.reduceSub, Nat.reduceMul, Nat.reduceLT, Nat.reduceLeDiff, ↓reduceIte, reduceCtorEq, List.reduceReplicate, Int.cast_ofNat_Int, Int.reduceEq, Int.reduceLT, Int.reduceLE, SV.ren, SV.renL, Cell.ren, Row.ren, renO, bk, back, outUpsFrom, Ints_ren]))
        (refine fs_frz 10 ⟨Ints (List.replicate n.toNat 0), 1⟩ (by simp only [St.hpF, lookR, Nat.reduceEqDiff, if_true, if_false, ↓reduceIte]) (by first | exact Ints_isG _ | exact Bools_isG _ | (simp [Cell.isG]; done)) ?_; simp only [frzTm, SV.frz, SV.frzL, Cell.frz, frzHp, frzO, Ints_frz, Bools_frz, List.map_cons, List.map_nil, Nat.reduceEqDiff, if_true, if_false, ↓reduceIte])
        (refine fs_w (by simp only [go_sem, resV, resS, SV.ren, SV.renL, Cell.ren, St.tmF, St.hpF, idx, renO, Row.ren, evS, slot, lookR, Nat.reduceEqDiff, ↓reduceIte, reduceCtorEq, if_true, if_false, Option.getD_some, Option.getD_none, List.map_cons, List.map_nil, sLoad, readAt, readNeed, Ints_ren, Ints_length, Ints_getD, and_true, true_and, List.getD_cons_zero, List.getD_cons_succ]; try trivial) ?_; simp only [go_sem, resV, resS, SV.ren, SV.renL, Cell.ren, St.tmF, St.hpF, idx, renO, Row.ren, evS, slot, lookR, Nat.reduceEqDiff, ↓reduceIte, reduceCtorEq, if_true, if_false, Option.getD_some, Option.getD_none, List.map_cons, List.map_nil, sLoad, readAt, readNeed, Ints_ren, Ints_length, Ints_getD, and_true, true_and, List.getD_cons_zero, List.getD_cons_succ]; refine svw_of ?_; simp only [sw_tup, swl_cons, swl_nil, sw_one, sw_agg, cwl_cons, cwl_nil, cw_id, cw_nil0, cw_cap0, List.length_nil, and_true, true_and, and_self] <;> (try ((repeat' with_reducible apply And.intro) <;> (first | with_reducible trivial | exact cw_rfl _ | exact cw_gnil | exact cw_niln _ _ | exact cw_cap _ _ _ _ | (refine cw_eq ?_; congr; done)))))
      | false =>
        simp only [if_true, pre, plt, plc, pz]
        refine fnspec_of mixed TT_ok TT_cl ⟨fun _ => false, fun _ => [], 0, fun _ => false, fun _ => false⟩ Try.func35 rfl (by kernel_rfl) rfl 33 rfl [.cell 10 26, .tmp 11] rfl ?_
        simp only [go_sem, Nat.reduceEqDiff, Nat.reduceAdd, Nat.reduceSub, Nat.reduceMul, Nat.reduceLT, Nat.reduceLeDiff, ↓reduceIte, reduceCtorEq, List.reduceReplicate, Int.cast_ofNat_Int, Int.reduceEq, Int.reduceLT, Int.reduceLE]
        repeat' (first
    | with_reducible refine And.intro ?_ ?_
    | (unfold OKC; kernel_rfl)
    | (apply okc_up <;> (first | ((repeat (first | exact Sub.nil | apply Sub.gfp | apply Sub.same)); done) | kernel_rfl))
    | (unfold EDG; kernel_rfl)
    | (intros; (try simp only [Bool.and_eq_true, Bool.or_eq_true, Bool.not_eq_true', Bool.not_eq_false', Bool.and_eq_false_iff, Bool.or_eq_false_iff, decide_eq_true_eq, decide_eq_false_iff_not] at *); omega)
    | (refine gt_if (fun h => ?_) (fun h => ?_) <;> (try simp only [h]))
    | (refine pt_if (fun h => ?_) (fun h => ?_) <;> (try simp only [h]))
    | (refine cd_if (fun h => ?_) (fun h => ?_) <;> (try simp only [h]))
    | (apply cg_tp
       case hl => rfl
       case ha => (simp only [List.map_cons, List.map_nil, prepV, prepC, idx, hpL', lookR, Nat.reduceEqDiff, if_true, if_false]; rfl)
       case hs => rfl
       case h => (first | exact rin_spec .. | exact h1 .. | exact h2 ..))
    | (apply cg_any
       case hl => rfl
       case ha => (intro hb; simp only [List.map_cons, List.map_nil, cnd, hb, if_true, prepV, prepC, idx, hpL', lookR, Nat.reduceEqDiff, if_false]; rfl)
       case hs => (intro hb; simp only [cnd, hb, if_true]; rfl)
       case h => (first | exact rin_spec .. | exact h1 .. | exact h2 ..))
    | (apply cl_plain
       case hs => rfl
       case ha => (simp only [List.map_cons, List.map_nil, prepV, prepC, idx, hpL', lookR, Nat.reduceEqDiff, if_true, if_false]; rfl)
       case h => (first | exact rin_spec .. | exact h1 .. | exact h2 ..))
    | (apply cl_show
       case ha => (simp only [List.map_cons, List.map_nil, prepV, prepC, idx, hpL', lookR, Nat.reduceEqDiff, if_true, if_false]; rfl)
       case hs => ((simp [snaps, SV.refs, Cell.refs, idx, hpL', lookR]) <;> (repeat' apply And.intro) <;> exact Ints_isG _)
       case h => (first | exact rin_spec .. | exact h1 .. | exact h2 ..)
       case hg => ((simp [SV.noG, SV.noGL, Cell.noG]) <;> (repeat' apply And.intro) <;> exact Ints_noG _))
    | ((first | refine s1_id ?_ | refine swp_id ?_ | refine sops_id ?_ | refine s2_id ?_); simp only [h0, go_sem, Nat.reduceEqDiff, Nat.reduceAdd, Nat.reduceSub, Nat.reduceMul, Nat.reduceLT, Nat.reduceLeDiff, ↓reduceIte, reduceCtorEq, List.reduceReplicate, Int.cast_ofNat_Int, Int.reduceEq, Int.reduceLT, Int.reduceLE, SV.ren, SV.renL, Cell.ren, Row.ren, renO, bk, back, outUpsFrom, Ints_ren]))
        (refine fs_w (by simp only [go_sem, resV, resS, SV.ren, SV.renL, Cell.ren, St.tmF, St.hpF, idx, renO, Row.ren, evS, slot, lookR, Nat.reduceEqDiff, ↓reduceIte, reduceCtorEq, if_true, if_false, Option.getD_some, Option.getD_none, List.map_cons, List.map_nil, sLoad, readAt, readNeed, Ints_ren, Ints_length, Ints_getD, and_true, true_and, List.getD_cons_zero, List.getD_cons_succ]; try trivial) ?_; simp only [go_sem, resV, resS, SV.ren, SV.renL, Cell.ren, St.tmF, St.hpF, idx, renO, Row.ren, evS, slot, lookR, Nat.reduceEqDiff, ↓reduceIte, reduceCtorEq, if_true, if_false, Option.getD_some, Option.getD_none, List.map_cons, List.map_nil, sLoad, readAt, readNeed, Ints_ren, Ints_length, Ints_getD, and_true, true_and, List.getD_cons_zero, List.getD_cons_succ]; refine svw_of ?_; simp only [sw_tup, swl_cons, swl_nil, sw_one, sw_agg, cwl_cons, cwl_nil, cw_id, cw_nil0, cw_cap0, List.length_nil, and_true, true_and, and_self] <;> (try ((repeat' with_reducible apply And.intro) <;> (first | with_reducible trivial | exact cw_rfl _ | exact cw_gnil | exact cw_niln _ _ | exact cw_cap _ _ _ _ | (refine cw_eq ?_; congr; done)))))
end Go.Proofs.Ytlaplcjenndigaa
