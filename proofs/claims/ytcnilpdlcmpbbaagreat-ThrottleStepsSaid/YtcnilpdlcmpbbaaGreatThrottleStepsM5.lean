/- Contracts of functions, told of values, on the way to ThrottleSteps (part 5). -/
import Derived.Test.YtcnilpdlcmpbbaaGreatThrottleStepsM3
import Derived.Test.YtcnilpdlcmpbbaaGreatThrottleStepsM4
-- short names of the library's lemmas
open Nat renaming reduceEqDiff → zaa, reduceLeDiff → zad, reduceAdd → zae, reduceSub → zaf, reduceMul → zag, reduceLT → zah, le_of_ble_eq_true → zas, zero_le → zaU, lt_or_ge → zaX, le_refl → zbb, le_of_lt → zbh
open List renaming reduceReplicate → zab, forall_mem_cons → zal, map_cons → zan, map_nil → zao, not_mem_nil → zap, append_nil → zay, length_cons → zaE, take_succ_cons → zaF, set_cons_zero → zaH, set_cons_succ → zaI, cons_append → zaJ, flatten_cons → zaK, nil_append → zaL, flatten_nil → zaM, length_nil → zaN, take_zero → zaO, length_replicate → zaR, take_nil → zaT, replicate → zaY, pairwise_singleton → zbc
open Int renaming cast_ofNat_Int → zac, reduceEq → zai, reduceLT → zaj, reduceLE → zak, natCast_add → zaz, ofNat_zero → zaQ, sub_zero → zaV
open Bool renaming and_eq_false_iff → zaq, or_eq_false_iff → zar, not_eq_false' → zat, and_eq_true → zau, not_eq_true' → zav, or_eq_true → zaw, false_and → zaG, true_and → zaS, true_eq_false → zaW, not_eq_false → zba, not_false → zbf, and_false → zbg
open And renaming intro → zam
open Go.Proofs.YtcnilpdlcmpbbaaGreat.Sh.Cell renaming ren → zax, refs → zaA, noG → zaZ
open Go.Proofs.YtcnilpdlcmpbbaaGreat.Sh.SV renaming ren → zaB, renL → zaD, refs → zbd, noGL → zbe, noG → zbi
open Go.Proofs.YtcnilpdlcmpbbaaGreat.Sh.Row renaming ren → zaC
open Go.Proofs.YtcnilpdlcmpbbaaGreat.Sh.St renaming hpF → zaP
-- NEWGO
-- PRUNE: cg_ts cg_show cl_use cl_lend cl_lendx
namespace Go.Proofs.YtcnilpdlcmpbbaaGreat
set_option linter.unusedVariables false
set_option linter.unusedSimpArgs false
open Go.Proofs.YtcnilpdlcmpbbaaGreat.Sh
set_option maxRecDepth 20000
theorem getD_set_self {c : List Int} {i : Nat} {v : Int} (h : i < c.length) : (c.set i v).getD i 0 = v := by
  rw [List.getD_eq_getElem?_getD, List.getElem?_set_self h]; rfl
theorem getD_set_ne {c : List Int} {i j : Nat} {v : Int} (h : i ≠ j) : (c.set i v).getD j 0 = c.getD j 0 := by
  rw [List.getD_eq_getElem?_getD, List.getElem?_set_ne h, List.getD_eq_getElem?_getD]
theorem sumN_set {c : List Int} {i : Nat} {v : Int} (h : i < c.length) : ∀ n, sumN (c.set i v) n = sumN c n + (if i < n then v - c.getD i 0 else 0)
  | 0 => by simp [sumN]
  | n + 1 => by
    simp only [sumN, sumN_set h n]
    by_cases e : i = n
    · subst e
      rw [getD_set_self h, if_neg (by omega), if_pos (by omega)]; omega
    · rw [getD_set_ne e]
      by_cases h2 : i < n
      · rw [if_pos h2, if_pos (by omega)]; omega
      · rw [if_neg h2, if_neg (by omega)]; omega
theorem tot_set {c : List Int} {i : Nat} {v : Int} (h : i < c.length) : tot (c.set i v) = tot c + (v - c.getD i 0) := by
  simp only [tot, List.length_set, sumN_set h, if_pos h]
theorem sumN_ge {c : List Int} (h : ∀ i, 0 ≤ c.getD i 0) : ∀ n, 0 ≤ sumN c n ∧ ∀ i, i < n → c.getD i 0 ≤ sumN c n
  | 0 => ⟨Int.le_refl _, fun i hi => by omega⟩
  | n + 1 => by
    have h1 := sumN_ge h n
    have h2 := h n
    refine ⟨by simp only [sumN]; omega, fun i hi => ?_⟩
    simp only [sumN]
    rcases zaX i n with hl | hl
    · have := h1.2 i hl; omega
    · have : i = n := by omega
      subst this; omega
theorem mn_comm (a b : Int) : mn a b = mn b a := by unfold mn; split <;> split <;> omega
def lsN (c : List Int) (ex : Int) : Nat → List Int × Int
  | 0 => (c, ex)
  | n + 1 => ((lsN c ex n).1.set (c.length - 1 - n) ((lsN c ex n).1.getD (c.length - 1 - n) 0 - mn ((lsN c ex n).1.getD (c.length - 1 - n) 0) (lsN c ex n).2), (lsN c ex n).2 - mn ((lsN c ex n).1.getD (c.length - 1 - n) 0) (lsN c ex n).2)
theorem lsN_len (c : List Int) (ex : Int) : ∀ n, (lsN c ex n).1.length = c.length
  | 0 => rfl
  | n + 1 => by simp [lsN, lsN_len c ex n]
theorem lsN_ok {c : List Int} {ex B : Int} (hc : ∀ i, 0 ≤ c.getD i 0 ∧ c.getD i 0 ≤ B) (he : 0 ≤ ex) : ∀ n, n ≤ c.length → (∀ i, 0 ≤ (lsN c ex n).1.getD i 0 ∧ (lsN c ex n).1.getD i 0 ≤ B) ∧ (0 ≤ (lsN c ex n).2 ∧ (lsN c ex n).2 ≤ ex) ∧ tot (lsN c ex n).1 - (lsN c ex n).2 = tot c - ex ∧
    (0 < (lsN c ex n).2 → ∀ i, c.length - n ≤ i → (lsN c ex n).1.getD i 0 = 0)
  | 0, _ => ⟨hc, ⟨he, Int.le_refl _⟩, rfl, fun _ i hi => by
    show c.getD i 0 = 0
    rw [List.getD_eq_getElem?_getD, List.getElem?_eq_none (by omega)]; rfl⟩
  | n + 1, hn => by
    obtain ⟨h1, h2, h3, h4⟩ := lsN_ok hc he n (by omega)
    have hl := lsN_len c ex n
    have hi : c.length - 1 - n < (lsN c ex n).1.length := by omega
    have h5 := h1 (c.length - 1 - n)
    have hm := mn_le ((lsN c ex n).1.getD (c.length - 1 - n) 0) (lsN c ex n).2
    simp only [lsN]
    generalize (lsN c ex n).2 = e at *
    generalize (lsN c ex n).1 = d at *
    generalize hmm : mn (d.getD (c.length - 1 - n) 0) e = m at *
    refine ⟨fun i => ?_, ⟨by omega, by omega⟩, ?_, fun he2 i hi2 => ?_⟩
    · by_cases e1 : c.length - 1 - n = i
      · subst e1; rw [getD_set_self hi]; omega
      · rw [getD_set_ne e1]; exact h1 i
    · rw [tot_set hi]; omega
    · by_cases e1 : c.length - 1 - n = i
      · subst e1; rw [getD_set_self hi]; omega
      · rw [getD_set_ne e1]; exact h4 (by omega) i (by omega)
theorem lsN_end {c : List Int} {ex B : Int} (hc : ∀ i, 0 ≤ c.getD i 0 ∧ c.getD i 0 ≤ B) (he : 0 ≤ ex) (hs : ex ≤ tot c) : (lsN c ex c.length).2 = 0 ∧ tot (lsN c ex c.length).1 = tot c - ex ∧ ∀ i, 0 ≤ (lsN c ex c.length).1.getD i 0 := by
  obtain ⟨h1, h2, h3, h4⟩ := lsN_ok hc he c.length (zbb _)
  have hz : (lsN c ex c.length).2 = 0 := by
    rcases Int.lt_or_le 0 (lsN c ex c.length).2 with h | h
    · have h5 := h4 h
      have : ∀ n, sumN (lsN c ex c.length).1 n = 0 := by
        intro n
        induction n with
        | zero => rfl
        | succ n ih => simp only [sumN, ih, h5 n (by omega)]; rfl
      have := this (lsN c ex c.length).1.length
      simp only [tot] at h3 hs ⊢; omega
    · omega
  exact ⟨hz, by omega, fun i => (h1 i).1⟩
def pov (x : Pl) (q b : Int) : Int := if 0 < hld x - mst { x with q := q, b := b } then hld x - mst { x with q := q, b := b } else 0
def pchg (x : Pl) (q b : Int) : Pl := { x with q := q, b := b, l := x.l - mn x.l (pov x q b), c := (lsN x.c (pov x q b - mn x.l (pov x q b)) x.c.length).1 }
def pchange (x : Pl) (q b : Int) : Pl × Int := if pck x = false then (pz, 1) else if stl q b = false then (pz, 3) else (pchg x q b, 0)
theorem pov_rng {x : Pl} {q b : Int} (h : pck x = true) (hs : 0 ≤ mst { x with q := q, b := b }) : 0 ≤ pov x q b ∧ pov x q b ≤ hld x ∧ hld x - pov x q b ≤ mst { x with q := q, b := b } ∧ (pov x q b = 0 ∨ hld x - pov x q b = mst { x with q := q, b := b }) := by
  have h1 := hld_ge h
  unfold pov
  split <;> omega
theorem call_of {x : Pl} (h0 : ∀ i, 0 ≤ x.c.getD i 0) (hl : 0 ≤ x.l) (hh : hld x ≤ mst x) : call x = true ∧ x.l ≤ mst x := by
  have h1 := sumN_ge h0 x.c.length
  simp only [hld, tot] at hh
  refine ⟨List.all_eq_true.2 fun y hy => ?_, by omega⟩
  obtain ⟨i, hi, rfl⟩ := List.mem_iff_getElem.1 hy
  have h2 := h1.2 i hi
  have h3 := h0 i
  rw [List.getD_eq_getElem?_getD, List.getElem?_eq_getElem hi, Option.getD_some] at h2 h3
  rw [wi_iff]; omega
theorem pchg_ok {x : Pl} {q b : Int} (h : pck x = true) (hs : stl q b = true) : pck (pchg x q b) = true ∧ hld (pchg x q b) = hld x - pov x q b := by
  have hp := pov_rng h (mst_rng (x := { x with q := q, b := b }) hs).1
  have hn := nums h
  have hm := mn_le x.l (pov x q b)
  have hl := hn.l
  have h0 := pck_all h
  have hH : hld x = x.l + tot x.c := rfl
  have ht : 0 ≤ tot x.c := (sumN_ge (fun i => (h0 i).1) x.c.length).1
  have he := lsN_end (c := x.c) (ex := pov x q b - mn x.l (pov x q b)) h0 (by omega) (by omega)
  have hlen : (pchg x q b).c.length = x.c.length := lsN_len _ _ _
  have hh : hld (pchg x q b) = hld x - pov x q b := by
    have : hld (pchg x q b) = (x.l - mn x.l (pov x q b)) + tot (lsN x.c (pov x q b - mn x.l (pov x q b)) x.c.length).1 := rfl
    rw [this, he.2.1]; omega
  have hmst : mst (pchg x q b) = mst { x with q := q, b := b } := rfl
  have hc := call_of (x := pchg x q b) he.2.2 (by show 0 ≤ x.l - mn x.l (pov x q b); omega) (by rw [hh, hmst]; omega)
  refine ⟨?_, hh⟩
  rw [pck_iff]
  exact ⟨hn.g, hs, hn.s, by rw [hlen]; exact hn.len, ⟨hc.1, ⟨by show 0 ≤ x.l - mn x.l (pov x q b); omega, hc.2⟩, by rw [hh, hmst]; omega⟩, hn.sp, hn.pe, hn.th⟩
theorem i1_eq {a b : Int} (h : a = b) : some (SV.one (.sc (.int .i64 a))) = some (i1 b) := by rw [h]
theorem lessen_spec (n ex : Int) (h1 : 0 ≤ n ∧ n ≤ 1000000000000) (h2 : 0 ≤ ex ∧ ex ≤ 1000000000000) : FnSpec Tryz.prog 98 [i1 n, i1 ex] [] (.tup [i1 (n - mn n ex), i1 (ex - mn n ex)]) [] := by
  have hm := mn_le n ex
  have e : mn n ex = if ex < n then ex else n := rfl
  rw [e] at hm ⊢
  refine fnspec_of mixed TT_ok TT_cl ⟨fun _ => false, fun _ => [], 0, fun _ => false, fun _ => false⟩ Tryz.func98 rfl (by kernel_rfl) rfl 16 rfl [.tmp 4, .tmp 5] rfl ?_
  simp only [go_sem, zaa, zae, zaf, zag, zah, zad, ↓reduceIte, reduceCtorEq, zab, zac, zai, zaj, zak]
  repeat' (first
 | with_reducible refine zam ?_ ?_
 | (intros; omega)
 | exact fs_nil trivial rfl
 | fail)
theorem change_spec (x : Pl) (k : Option Nat) (q' b' : Int) : FnSpec Tryz.prog 64 [plt x k, i1 q', i1 b'] [] (pre (pchange x q' b')) [] := by
  have h1 := check_spec x k
  unfold pchange
  split
  · rename_i h0
    rw [h0] at h1
    clear h0
    obtain ⟨g, q, b, s, l, c, sp, pe, th, em⟩ := x
    simp only [plt, plc, pz, pre] at *
    refine fnspec_of mixed TT_ok TT_cl ⟨fun _ => false, fun _ => [], 0, fun _ => false, fun _ => false⟩ Tryz.func64 rfl (by kernel_rfl) rfl 63 rfl [.cell 6 43, .tmp 7] rfl ?_
    simp only [go_sem, zaa, zae, zaf, zag, zah, zad, ↓reduceIte, reduceCtorEq, zab, zac, zai, zaj, zak, plc]
    repeat' (first
 | (apply cl_plain
    case hs => rfl
    case ha => (simp only [zan, zao, prepV, prepC, idx, hpL', lookR, zaa, if_true, if_false]; rfl)
    case h => (first | exact h1 ..))
 | ((first | refine s1_id ?_ | refine swp_id ?_ | refine sops_id ?_ | refine s2_id ?_); simp only [plc, go_sem, zaa, zae, zaf, zag, zah, zad, ↓reduceIte, reduceCtorEq, zab, zac, zai, zaj, zak, zaB, zaD, zax, zaC, renO, bk, back, outUpsFrom, Ints_ren])
 | (intros; (try simp only [zau, zaw, zav, zat, zaq, zar, decide_eq_true_eq, decide_eq_false_iff_not] at *); omega))
    repeat' (first
 | (refine fs_w ?h1 (svw_of ?h2); (case h1 => repeat' (first | exact trivial | exact rfl | exact zas rfl | apply zam)); (case h2 => repeat' (first | ((with_reducible refine (?_ : CW _ _)); first | exact cw_gnil | exact cw_rfl _ | exact cw_niln _ _ | exact cw_cap _ _ _ _) | exact trivial | (show _ ∧ SWL _ _; apply zam) | (show _ ∧ CWL _ _; apply zam) | show CW _ _)))
 | fail)
  · rename_i h0
    rw [zba] at h0
    rw [h0] at h1
    split
    · rename_i hs
      clear h0
      obtain ⟨g, q, b, s, l, c, sp, pe, th, em⟩ := x
      simp only [plt, plc, pz, pre] at *
      refine fnspec_of mixed TT_ok TT_cl ⟨fun _ => false, fun _ => [], 0, fun _ => false, fun _ => false⟩ Tryz.func64 rfl (by kernel_rfl) rfl 63 rfl [.cell 6 43, .tmp 7] rfl ?_
      simp only [go_sem, zaa, zae, zaf, zag, zah, zad, ↓reduceIte, reduceCtorEq, zab, zac, zai, zaj, zak, plc]
      repeat' (first
 | (apply cl_plain
    case hs => rfl
    case ha => (simp only [zan, zao, prepV, prepC, idx, hpL', lookR, zaa, if_true, if_false]; rfl)
    case h => (first | exact h1 .. | exact settable_spec ..))
 | ((first | refine s1_id ?_ | refine swp_id ?_ | refine sops_id ?_ | refine s2_id ?_); simp only [plc, hs, go_sem, zaa, zae, zaf, zag, zah, zad, ↓reduceIte, reduceCtorEq, zab, zac, zai, zaj, zak, zaB, zaD, zax, zaC, renO, bk, back, outUpsFrom, Ints_ren])
 | (intros; (try simp only [zau, zaw, zav, zat, zaq, zar, decide_eq_true_eq, decide_eq_false_iff_not] at *); omega))
      repeat' (first
 | (refine fs_w ?h1 (svw_of ?h2); (case h1 => repeat' (first | exact trivial | exact rfl | exact zas rfl | apply zam)); (case h2 => repeat' (first | ((with_reducible refine (?_ : CW _ _)); first | exact cw_gnil | exact cw_rfl _ | exact cw_niln _ _ | exact cw_cap _ _ _ _) | exact trivial | (show _ ∧ SWL _ _; apply zam) | (show _ ∧ CWL _ _; apply zam) | show CW _ _)))
 | fail)
    · rename_i hs
      rw [zba] at hs
      have hn := nums h0
      have hp := pov_rng h0 (mst_rng (x := { x with q := q', b := b' }) hs).1
      have hall := pck_all h0
      have hlen := hn.len
      have hL := hn.l
      have hM := hn.m
      have hH := hn.h
      have h2 := held_spec x k (sml_pck h0)
      have h3 := copy_spec x k (by omega) (by omega)
      have h4 := most_spec { x with q := q', b := b' } none hs
      have hm2 := mst_rng (x := { x with q := q', b := b' }) hs
      have hh := hld_ge h0
      have hmn := mn_le x.l (pov x q' b')
      have hok := lsN_ok (c := x.c) (ex := pov x q' b' - mn x.l (pov x q' b')) hall (by omega)
      have hln := lsN_len x.c (pov x q' b' - mn x.l (pov x q' b'))
      have hl1 := lessen_spec x.l (pov x q' b') (by omega) (by omega)
      have epov : pov x q' b' = if 0 < hld x - mst { x with q := q', b := b' } then hld x - mst { x with q := q', b := b' } else 0 := rfl
      simp only [pre, plt, plc, pchg, hln]
      generalize mn x.l (pov x q' b') = n0 at *
      generalize pov x q' b' = ov at *
      generalize hld x = H at *
      generalize mst x = M at *
      generalize mst { x with q := q', b := b' } = M2 at *
      clear h0 hn
      obtain ⟨g, q, b, s, l, c, sp, pe, th, em⟩ := x
      simp only [plt, plc, plo] at *
      refine fnspec_of mixed TT_ok TT_cl ⟨fun _ => false, fun _ => [], 0, fun _ => false, fun _ => false⟩ Tryz.func64 rfl (by kernel_rfl) rfl 63 rfl [.cell 6 43, .tmp 7] rfl ?_
      simp only [go_sem, zaa, zae, zaf, zag, zah, zad, ↓reduceIte, reduceCtorEq, zab, zac, zai, zaj, zak, plc, plo]
      repeat' (first
 | with_reducible refine zam ?_ ?_
 | (unfold OKC; kernel_rfl)
 | (unfold EDG; kernel_rfl)
 | (apply cl_plain
    case hs => rfl
    case ha => (simp only [zan, zao, prepV, prepC, idx, hpL', lookR, zaa, if_true, if_false]; rfl)
    case h => (first | exact h1 .. | exact settable_spec .. | exact h2 .. | exact h3 .. | exact h4 .. | exact hl1 ..))
 | (apply cl_show
    case ha => (simp only [zan, zao, prepV, prepC, idx, hpL', lookR, zaa, if_true, if_false]; rfl)
    case hs => ((simp [snaps, zbd, zaA, idx, hpL', lookR]) <;> (repeat' apply zam) <;> exact Ints_isG _)
    case h => (first | exact h1 .. | exact settable_spec .. | exact h2 .. | exact h3 .. | exact h4 .. | exact hl1 ..)
    case hg => ((simp [zbi, zbe, zaZ]) <;> (repeat' apply zam) <;> exact Ints_noG _))
 | ((first | refine s1_id ?_ | refine swp_id ?_ | refine sops_id ?_ | refine s2_id ?_); simp only [plc, plo, hs, ← epov, go_sem, zaa, zae, zaf, zag, zah, zad, ↓reduceIte, reduceCtorEq, zab, zac, zai, zaj, zak, zaB, zaD, zax, zaC, renO, bk, back, outUpsFrom, Ints_ren])
 | (intros; omega)
 | (intros; (try simp only [zau, zaw, zav, zat, zaq, zar, decide_eq_true_eq, decide_eq_false_iff_not] at *); omega))
      refine w_loop (ι := Nat) (fun i => ⟨[(6, .one (.optr 1 0)), (8, .one (.optr 12 0)), (9, i1 (lsN c (ov - n0) i).2), (10, i1 (c.length - 1 - i))],
        [(1, some ⟨[int 0, int 0, int 0, int 0, int 0, .sc (.slice none 0 0), int 0, int 0, int 0, bool false], 10⟩), (11, some ⟨Ints (lsN c (ov - n0) i).1, 1⟩), (12, some ⟨[int g, int q', int b', int s, int (l - n0), .osl 11 0 c.length none, int sp, int pe, int th, bool em], 10⟩)], 13⟩)
        (fun i => i ≤ c.length) (fun i => c.length - i) 0 ?_ (zaU _) ?_
      · (refine imp_sub _ _ _ [(1, 1), (11, 11), (12, 12)] (by simp) (by simp) (by simp) (zas rfl) ?_ (by simp only [zan, zao, zaP, lookR, renO, zaC, zax, toN, Ints_ren, Bools_ren, zaa, if_true, if_false, ↓reduceIte] <;> (try rfl)) (by simp only [zal, zap, false_implies, implies_true, and_true, zaP, lookR, zaa, if_true, if_false, ↓reduceIte, Option.some.injEq, forall_eq'] <;> ((repeat' with_reducible apply zam) <;> (first | with_reducible trivial | exact fun c hc q hq => absurd hq (Ints_refs0 _ _ c hc) | (simp [zaA, toN]; done)))); simp only [zan, zao, zal, zap, false_implies, implies_true, and_true, lk, slot, zaB, zax, toN, zaa, if_true, if_false, ↓reduceIte, reduceCtorEq])
        all_goals ((repeat' apply zam) <;> (first | rfl | trivial | (simp only [lsN, zaV, zaQ]; done) | (simp only [lsN, zaV, zaQ]; rfl) | (simp only [lsN, zaV, zaQ]; trivial)))
      intro i hi
      rcases zaX i c.length with hlt | hge
      · have hlt' : (0 : Int) ≤ c.length - 1 - i := by omega
        have hoi := hok i hi
        have hln' : (lsN c (ov - n0) i).1.length = c.length := lsN_len _ _ _
        have hix : ((c.length : Int) - 1 - i).toNat = c.length - 1 - i := by omega
        have hgi := hoi.1 (c.length - 1 - i)
        have hl2 := lessen_spec ((lsN c (ov - n0) i).1.getD (c.length - 1 - i) 0) (lsN c (ov - n0) i).2 (by omega) (by omega)
        have est : lsN c (ov - n0) (i + 1) = ((lsN c (ov - n0) i).1.set (c.length - 1 - i) ((lsN c (ov - n0) i).1.getD (c.length - 1 - i) 0 - mn ((lsN c (ov - n0) i).1.getD (c.length - 1 - i) 0) (lsN c (ov - n0) i).2), (lsN c (ov - n0) i).2 - mn ((lsN c (ov - n0) i).1.getD (c.length - 1 - i) 0) (lsN c (ov - n0) i).2) := rfl
        generalize hS : lsN c (ov - n0) i = S at *
        generalize hS2 : lsN c (ov - n0) (i + 1) = S2 at *
        obtain ⟨d, e⟩ := S
        simp only at hl2 est hln' hoi
        generalize mn (d.getD (c.length - 1 - i) 0) e = m at *
        simp only [go_sem, zaa, zae, zaf, zag, zah, zad, ↓reduceIte, reduceCtorEq, zab, zac, zai, zaj, zak, decide_eq_true hlt', hS, hix]
        repeat' (first
 | with_reducible refine zam ?_ ?_
 | (unfold OKC; kernel_rfl)
 | (unfold EDG; kernel_rfl)
 | (apply cl_plain
    case hs => rfl
    case ha => (simp only [zan, zao, prepV, prepC, idx, hpL', lookR, zaa, if_true, if_false]; rfl)
    case h => (first | exact hl2 ..))
 | ((first | refine s1_id ?_ | refine swp_id ?_ | refine sops_id ?_ | refine s2_id ?_); simp only [hix, go_sem, zaa, zae, zaf, zag, zah, zad, ↓reduceIte, reduceCtorEq, zab, zac, zai, zaj, zak, zaB, zaD, zax, zaC, renO, bk, back, outUpsFrom, Ints_ren])
 | (intros; omega)
 | (intros; (try simp only [zau, zaw, zav, zat, zaq, zar, decide_eq_true_eq, decide_eq_false_iff_not] at *); omega))
        refine le_mk (i + 1) ?_ (by omega) (by omega)
        rw [hS2, est]
        (refine imp_sub _ _ _ [(1, 1), (11, 11), (12, 12)] (by simp) (by simp) (by simp) (zas rfl) ?_ (by simp only [zan, zao, zaP, lookR, renO, zaC, zax, toN, Ints_ren, Bools_ren, zaa, if_true, if_false, ↓reduceIte] <;> (try rfl)) (by simp only [zal, zap, false_implies, implies_true, and_true, zaP, lookR, zaa, if_true, if_false, ↓reduceIte, Option.some.injEq, forall_eq'] <;> ((repeat' with_reducible apply zam) <;> (first | with_reducible trivial | exact fun c hc q hq => absurd hq (Ints_refs0 _ _ c hc) | (simp [zaA, toN]; done)))); simp only [zan, zao, zal, zap, false_implies, implies_true, and_true, lk, slot, zaB, zax, toN, zaa, if_true, if_false, ↓reduceIte, reduceCtorEq])
        all_goals ((repeat' apply zam) <;> (first | rfl | trivial | (refine i1_eq ?_; omega)))
      · have hlt' : ¬ (0 : Int) ≤ c.length - 1 - i := by omega
        have ei : i = c.length := by omega
        subst ei
        simp only [go_sem, zaa, zae, zaf, zag, zah, zad, ↓reduceIte, reduceCtorEq, zab, zac, zai, zaj, zak, decide_eq_false hlt']
        repeat' (first
 | (intros; (try simp only [zau, zaw, zav, zat, zaq, zar, decide_eq_true_eq, decide_eq_false_iff_not] at *); omega))
        (refine fs_frz 11 ⟨Ints (lsN c (ov - n0) c.length).1, 1⟩ (by simp only [zaP, lookR, zaa, if_true, if_false, ↓reduceIte]) (by first | exact Ints_isG _ | exact Bools_isG _ | (simp [Cell.isG]; done)) ?_; simp only [frzTm, SV.frz, SV.frzL, Cell.frz, frzHp, frzO, Ints_frz, Bools_frz, zan, zao, zaa, if_true, if_false, ↓reduceIte])
        repeat' (first
 | (refine fs_w ?h1 (svw_of ?h2); (case h1 => repeat' (first | exact trivial | exact rfl | exact zas rfl | apply zam)); (case h2 => repeat' (first | ((with_reducible refine (?_ : CW _ _)); first | exact cw_gnil | exact cw_rfl _ | exact cw_niln _ _ | exact cw_cap _ _ _ _) | exact trivial | (show _ ∧ SWL _ _; apply zam) | (show _ ∧ CWL _ _; apply zam) | show CW _ _)))
 | fail)
theorem rchange_spec (x : Pl) (k : Option Nat) (q' b' : Int) (hw : Wk x) (hb' : -9223372036854775808 ≤ b' ∧ b' ≤ 9223372036854775807) : FnSpec Tryz.prog 66 [plt x k, i1 q', i1 b'] [] (pre (pchange x q' b')) [] := by
  have h1 := rchk_spec x k hw
  unfold pchange
  split
  · rename_i h0
    rw [h0] at h1
    clear h0 hw
    obtain ⟨g, q, b, s, l, c, sp, pe, th, em⟩ := x
    simp only [plt, plc, pz, pre] at *
    refine fnspec_of mixed TT_ok TT_cl ⟨fun _ => false, fun _ => [], 0, fun _ => false, fun _ => false⟩ Tryz.func66 rfl (by kernel_rfl) rfl 86 rfl [.cell 6 43, .tmp 7] rfl ?_
    simp only [go_sem, zaa, zae, zaf, zag, zah, zad, ↓reduceIte, reduceCtorEq, zab, zac, zai, zaj, zak, plc]
    repeat' (first
 | (apply cl_plain
    case hs => rfl
    case ha => (simp only [zan, zao, prepV, prepC, idx, hpL', lookR, zaa, if_true, if_false]; rfl)
    case h => (first | exact h1 ..))
 | ((first | refine s1_id ?_ | refine swp_id ?_ | refine sops_id ?_ | refine s2_id ?_); simp only [plc, go_sem, zaa, zae, zaf, zag, zah, zad, ↓reduceIte, reduceCtorEq, zab, zac, zai, zaj, zak, zaB, zaD, zax, zaC, renO, bk, back, outUpsFrom, Ints_ren])
 | (intros; (try simp only [zau, zaw, zav, zat, zaq, zar, decide_eq_true_eq, decide_eq_false_iff_not] at *); omega))
    repeat' (first
 | (refine fs_w ?h1 (svw_of ?h2); (case h1 => repeat' (first | exact trivial | exact rfl | exact zas rfl | apply zam)); (case h2 => repeat' (first | ((with_reducible refine (?_ : CW _ _)); first | exact cw_gnil | exact cw_rfl _ | exact cw_niln _ _ | exact cw_cap _ _ _ _) | exact trivial | (show _ ∧ SWL _ _; apply zam) | (show _ ∧ CWL _ _; apply zam) | show CW _ _)))
 | fail)
  · rename_i h0
    rw [zba] at h0
    rw [h0] at h1
    have hn := nums h0
    have hall := pck_all h0
    have hlen := hn.len
    have hL := hn.l
    have hM := hn.m
    have hH := hn.h
    have hh := hld_ge h0
    have h3 := rcopy_spec x k (by omega)
    have hsml := sml_pck h0
    have h2 := rheld_spec { x with q := q', b := b' } none ⟨hsml.len, hsml.all, hsml.left⟩
    have h4 := rlimited_spec { x with q := q', b := b' } none
    have hlq : lim { x with q := q', b := b' } = !decide (q' = 4611686018427387904) := rfl
    rw [show hld { x with q := q', b := b' } = hld x from rfl] at h2
    by_cases hq : q' = 4611686018427387904
    · subst hq
      have hl0 : lim { x with q := 4611686018427387904, b := b' } = false := by rw [hlq]; simp
      have hmA : mst { x with q := 4611686018427387904, b := b' } = 0 := by unfold mst; rw [hl0]; simp
      rw [hl0] at h4
      cases hs : stl 4611686018427387904 b' with
      | true =>
        have hm2 : 0 ≤ mst { x with q := 4611686018427387904, b := b' } ∧ mst { x with q := 4611686018427387904, b := b' } ≤ 2000000 := by rw [hmA]; omega
        have hp := pov_rng h0 hm2.1
        have hmn := mn_le x.l (pov x 4611686018427387904 b')
        have hok := lsN_ok (c := x.c) (ex := pov x 4611686018427387904 b' - mn x.l (pov x 4611686018427387904 b')) hall (by omega)
        have hln := lsN_len x.c (pov x 4611686018427387904 b' - mn x.l (pov x 4611686018427387904 b'))
        have epov : pov x 4611686018427387904 b' = if hld x - mst { x with q := 4611686018427387904, b := b' } < 0 then 0 else hld x - mst { x with q := 4611686018427387904, b := b' } := by unfold pov; split <;> split <;> omega
        have en0 : mn x.l (pov x 4611686018427387904 b') = if x.l < pov x 4611686018427387904 b' then x.l else pov x 4611686018427387904 b' := by rw [mn_comm]; rfl
        rw [hmA] at hm2 epov
        have hr5 : pck (pchg x 4611686018427387904 b') = true := (pchg_ok h0 hs).1
        have h5 := rchk_spec (pchg x 4611686018427387904 b') none ⟨hb', by have := hn.pe; simp only [pchg]; omega, by simp only [pchg, hln]; omega⟩
        rw [hr5] at h5
        simp only [plt, plc, pchg, hln] at h5

        simp only [zaW, if_true, if_false, pre, plt, plc, pchg, hln, pz]
        clear hr5
        generalize mn x.l (pov x 4611686018427387904 b') = n0 at *
        generalize pov x 4611686018427387904 b' = ov at *
        generalize hld x = H at *
        generalize mst x = M at *
        clear h0 hn hsml hlq hw
        obtain ⟨g, q, b, s, l, c, sp, pe, th, em⟩ := x
        simp only [plt, plc, plo] at *
        refine fnspec_of mixed TT_ok TT_cl ⟨fun _ => false, fun _ => [], 0, fun _ => false, fun _ => false⟩ Tryz.func66 rfl (by kernel_rfl) rfl 86 rfl [.cell 6 43, .tmp 7] rfl ?_
        simp only [go_sem, zaa, zae, zaf, zag, zah, zad, ↓reduceIte, reduceCtorEq, zab, zac, zai, zaj, zak, plc, plo]
        repeat' (first
 | with_reducible refine zam ?_ ?_
 | (apply cl_plain
    case hs => rfl
    case ha => (simp only [zan, zao, prepV, prepC, idx, hpL', lookR, zaa, if_true, if_false]; rfl)
    case h => (first | exact h1 .. | exact rin_spec .. | exact h2 .. | exact h3 .. | exact h4 ..))
 | (apply cl_show
    case ha => (simp only [zan, zao, prepV, prepC, idx, hpL', lookR, zaa, if_true, if_false]; rfl)
    case hs => ((simp [snaps, zbd, zaA, idx, hpL', lookR]) <;> (repeat' apply zam) <;> exact Ints_isG _)
    case h => (first | exact h1 .. | exact rin_spec .. | exact h2 .. | exact h3 .. | exact h4 ..)
    case hg => ((simp [zbi, zbe, zaZ]) <;> (repeat' apply zam) <;> exact Ints_noG _))
 | ((first | refine s1_id ?_ | refine swp_id ?_ | refine sops_id ?_ | refine s2_id ?_); simp only [plc, plo, ← epov, ← en0, go_sem, zaa, zae, zaf, zag, zah, zad, ↓reduceIte, reduceCtorEq, zab, zac, zai, zaj, zak, zaB, zaD, zax, zaC, renO, bk, back, outUpsFrom, Ints_ren])
 | (intros; omega)
 | (intros; (try simp only [zau, zaw, zav, zat, zaq, zar, decide_eq_true_eq, decide_eq_false_iff_not] at *); omega))
        refine w_loop (ι := Nat) (fun i => ⟨[(6, .one (.optr 1 0)), (8, .one (.optr 8 0)), (10, i1 (lsN c (ov - n0) i).2), (12, i1 (c.length - 1 - i))],
          [(1, some ⟨[int 0, int 0, int 0, int 0, int 0, .sc (.slice none 0 0), int 0, int 0, int 0, bool false], 10⟩), (7, some ⟨Ints (lsN c (ov - n0) i).1, 1⟩), (8, some ⟨[int g, int 4611686018427387904, int b', int s, int (l - n0), .osl 7 0 c.length none, int sp, int pe, int th, bool em], 10⟩)], 9⟩)
          (fun i => i ≤ c.length) (fun i => c.length - i) 0 ?_ (zaU _) ?_
        · (refine imp_sub _ _ _ [(1, 1), (7, 7), (8, 8)] (by simp) (by simp) (by simp) (zas rfl) ?_ (by simp only [zan, zao, zaP, lookR, renO, zaC, zax, toN, Ints_ren, Bools_ren, zaa, if_true, if_false, ↓reduceIte] <;> (try rfl)) (by simp only [zal, zap, false_implies, implies_true, and_true, zaP, lookR, zaa, if_true, if_false, ↓reduceIte, Option.some.injEq, forall_eq'] <;> ((repeat' with_reducible apply zam) <;> (first | with_reducible trivial | exact fun c hc q hq => absurd hq (Ints_refs0 _ _ c hc) | (simp [zaA, toN]; done)))); simp only [zan, zao, zal, zap, false_implies, implies_true, and_true, lk, slot, zaB, zax, toN, zaa, if_true, if_false, ↓reduceIte, reduceCtorEq])
          all_goals ((repeat' apply zam) <;> (first | rfl | trivial | (simp only [lsN, zaV, zaQ]; done) | (simp only [lsN, zaV, zaQ]; rfl) | (simp only [lsN, zaV, zaQ]; trivial)))
        intro i hi
        rcases zaX i c.length with hlt | hge
        · have hlt' : (0 : Int) ≤ c.length - 1 - i := by omega
          have hoi := hok i hi
          have hln' : (lsN c (ov - n0) i).1.length = c.length := lsN_len _ _ _
          have hix : ((c.length : Int) - 1 - i).toNat = c.length - 1 - i := by omega
          have hgi := hoi.1 (c.length - 1 - i)
          have hmm := mn_le ((lsN c (ov - n0) i).1.getD (c.length - 1 - i) 0) (lsN c (ov - n0) i).2
          have emm : mn ((lsN c (ov - n0) i).1.getD (c.length - 1 - i) 0) (lsN c (ov - n0) i).2 = if (lsN c (ov - n0) i).1.getD (c.length - 1 - i) 0 < (lsN c (ov - n0) i).2 then (lsN c (ov - n0) i).1.getD (c.length - 1 - i) 0 else (lsN c (ov - n0) i).2 := by rw [mn_comm]; rfl
          have est : lsN c (ov - n0) (i + 1) = ((lsN c (ov - n0) i).1.set (c.length - 1 - i) ((lsN c (ov - n0) i).1.getD (c.length - 1 - i) 0 - mn ((lsN c (ov - n0) i).1.getD (c.length - 1 - i) 0) (lsN c (ov - n0) i).2), (lsN c (ov - n0) i).2 - mn ((lsN c (ov - n0) i).1.getD (c.length - 1 - i) 0) (lsN c (ov - n0) i).2) := rfl
          generalize hS : lsN c (ov - n0) i = S at *
          generalize hS2 : lsN c (ov - n0) (i + 1) = S2 at *
          obtain ⟨d, e⟩ := S
          simp only at est hln' hoi hmm emm hgi
          generalize mn (d.getD (c.length - 1 - i) 0) e = m at *
          simp only [go_sem, zaa, zae, zaf, zag, zah, zad, ↓reduceIte, reduceCtorEq, zab, zac, zai, zaj, zak, decide_eq_true hlt', hS, hix, ← emm]
          repeat' (first
 | with_reducible refine zam ?_ ?_
 | (intros; omega)
 | (intros; (try simp only [zau, zaw, zav, zat, zaq, zar, decide_eq_true_eq, decide_eq_false_iff_not] at *); omega))
          refine le_mk (i + 1) ?_ (by omega) (by omega)
          rw [hS2, est]
          (refine imp_sub _ _ _ [(1, 1), (7, 7), (8, 8)] (by simp) (by simp) (by simp) (zas rfl) ?_ (by simp only [zan, zao, zaP, lookR, renO, zaC, zax, toN, Ints_ren, Bools_ren, zaa, if_true, if_false, ↓reduceIte] <;> (try rfl)) (by simp only [zal, zap, false_implies, implies_true, and_true, zaP, lookR, zaa, if_true, if_false, ↓reduceIte, Option.some.injEq, forall_eq'] <;> ((repeat' with_reducible apply zam) <;> (first | with_reducible trivial | exact fun c hc q hq => absurd hq (Ints_refs0 _ _ c hc) | (simp [zaA, toN]; done)))); simp only [zan, zao, zal, zap, false_implies, implies_true, and_true, lk, slot, zaB, zax, toN, zaa, if_true, if_false, ↓reduceIte, reduceCtorEq])
          all_goals ((repeat' apply zam) <;> (first | rfl | trivial | (refine i1_eq ?_; omega)))
        · have hlt' : ¬ (0 : Int) ≤ c.length - 1 - i := by omega
          have ei : i = c.length := by omega
          subst ei
          simp only [go_sem, zaa, zae, zaf, zag, zah, zad, ↓reduceIte, reduceCtorEq, zab, zac, zai, zaj, zak, decide_eq_false hlt']
          repeat' (first
 | (apply cl_show
    case ha => (simp only [zan, zao, prepV, prepC, idx, hpL', lookR, zaa, if_true, if_false]; rfl)
    case hs => ((simp [snaps, zbd, zaA, idx, hpL', lookR]) <;> (repeat' apply zam) <;> exact Ints_isG _)
    case h => (first | exact h5 ..)
    case hg => ((simp [zbi, zbe, zaZ]) <;> (repeat' apply zam) <;> exact Ints_noG _))
 | ((first | refine s1_id ?_ | refine swp_id ?_ | refine sops_id ?_ | refine s2_id ?_); simp only [go_sem, zaa, zae, zaf, zag, zah, zad, ↓reduceIte, reduceCtorEq, zab, zac, zai, zaj, zak, zaB, zaD, zax, zaC, renO, bk, back, outUpsFrom, Ints_ren])
 | (intros; (try simp only [zau, zaw, zav, zat, zaq, zar, decide_eq_true_eq, decide_eq_false_iff_not] at *); omega))
          (refine fs_frz 7 ⟨Ints (lsN c (ov - n0) c.length).1, 1⟩ (by simp only [zaP, lookR, zaa, if_true, if_false, ↓reduceIte]) (by first | exact Ints_isG _ | exact Bools_isG _ | (simp [Cell.isG]; done)) ?_; simp only [frzTm, SV.frz, SV.frzL, Cell.frz, frzHp, frzO, Ints_frz, Bools_frz, zan, zao, zaa, if_true, if_false, ↓reduceIte])
          repeat' (first
 | (refine fs_w ?h1 (svw_of ?h2); (case h1 => repeat' (first | exact trivial | exact rfl | exact zas rfl | apply zam)); (case h2 => repeat' (first | ((with_reducible refine (?_ : CW _ _)); first | exact cw_gnil | exact cw_rfl _ | exact cw_niln _ _ | exact cw_cap _ _ _ _) | exact trivial | (show _ ∧ SWL _ _; apply zam) | (show _ ∧ CWL _ _; apply zam) | show CW _ _)))
 | fail)
      | false =>
        have hm2 : 0 ≤ mst { x with q := 4611686018427387904, b := b' } ∧ mst { x with q := 4611686018427387904, b := b' } ≤ 2000000 := by rw [hmA]; omega
        have hp := pov_rng h0 hm2.1
        have hmn := mn_le x.l (pov x 4611686018427387904 b')
        have hok := lsN_ok (c := x.c) (ex := pov x 4611686018427387904 b' - mn x.l (pov x 4611686018427387904 b')) hall (by omega)
        have hln := lsN_len x.c (pov x 4611686018427387904 b' - mn x.l (pov x 4611686018427387904 b'))
        have epov : pov x 4611686018427387904 b' = if hld x - mst { x with q := 4611686018427387904, b := b' } < 0 then 0 else hld x - mst { x with q := 4611686018427387904, b := b' } := by unfold pov; split <;> split <;> omega
        have en0 : mn x.l (pov x 4611686018427387904 b') = if x.l < pov x 4611686018427387904 b' then x.l else pov x 4611686018427387904 b' := by rw [mn_comm]; rfl
        rw [hmA] at hm2 epov
        have hr5 : pck (pchg x 4611686018427387904 b') = false := by
          refine pck_no fun hc => ?_
          have h6 : stl 4611686018427387904 b' = true := hc.2.1
          rw [hs] at h6; cases h6
        have h5 := rchk_spec (pchg x 4611686018427387904 b') none ⟨hb', by have := hn.pe; simp only [pchg]; omega, by simp only [pchg, hln]; omega⟩
        rw [hr5] at h5
        simp only [plt, plc, pchg, hln] at h5

        simp only [zaW, if_true, if_false, pre, plt, plc, pchg, hln, pz]
        clear hr5
        generalize mn x.l (pov x 4611686018427387904 b') = n0 at *
        generalize pov x 4611686018427387904 b' = ov at *
        generalize hld x = H at *
        generalize mst x = M at *
        clear h0 hn hsml hlq hw
        obtain ⟨g, q, b, s, l, c, sp, pe, th, em⟩ := x
        simp only [plt, plc, plo] at *
        refine fnspec_of mixed TT_ok TT_cl ⟨fun _ => false, fun _ => [], 0, fun _ => false, fun _ => false⟩ Tryz.func66 rfl (by kernel_rfl) rfl 86 rfl [.cell 6 43, .tmp 7] rfl ?_
        simp only [go_sem, zaa, zae, zaf, zag, zah, zad, ↓reduceIte, reduceCtorEq, zab, zac, zai, zaj, zak, plc, plo]
        repeat' (first
 | with_reducible refine zam ?_ ?_
 | (apply cl_plain
    case hs => rfl
    case ha => (simp only [zan, zao, prepV, prepC, idx, hpL', lookR, zaa, if_true, if_false]; rfl)
    case h => (first | exact h1 .. | exact rin_spec .. | exact h2 .. | exact h3 .. | exact h4 ..))
 | (apply cl_show
    case ha => (simp only [zan, zao, prepV, prepC, idx, hpL', lookR, zaa, if_true, if_false]; rfl)
    case hs => ((simp [snaps, zbd, zaA, idx, hpL', lookR]) <;> (repeat' apply zam) <;> exact Ints_isG _)
    case h => (first | exact h1 .. | exact rin_spec .. | exact h2 .. | exact h3 .. | exact h4 ..)
    case hg => ((simp [zbi, zbe, zaZ]) <;> (repeat' apply zam) <;> exact Ints_noG _))
 | ((first | refine s1_id ?_ | refine swp_id ?_ | refine sops_id ?_ | refine s2_id ?_); simp only [plc, plo, ← epov, ← en0, go_sem, zaa, zae, zaf, zag, zah, zad, ↓reduceIte, reduceCtorEq, zab, zac, zai, zaj, zak, zaB, zaD, zax, zaC, renO, bk, back, outUpsFrom, Ints_ren])
 | (intros; omega)
 | (intros; (try simp only [zau, zaw, zav, zat, zaq, zar, decide_eq_true_eq, decide_eq_false_iff_not] at *); omega))
        refine w_loop (ι := Nat) (fun i => ⟨[(6, .one (.optr 1 0)), (8, .one (.optr 8 0)), (10, i1 (lsN c (ov - n0) i).2), (12, i1 (c.length - 1 - i))],
          [(1, some ⟨[int 0, int 0, int 0, int 0, int 0, .sc (.slice none 0 0), int 0, int 0, int 0, bool false], 10⟩), (7, some ⟨Ints (lsN c (ov - n0) i).1, 1⟩), (8, some ⟨[int g, int 4611686018427387904, int b', int s, int (l - n0), .osl 7 0 c.length none, int sp, int pe, int th, bool em], 10⟩)], 9⟩)
          (fun i => i ≤ c.length) (fun i => c.length - i) 0 ?_ (zaU _) ?_
        · (refine imp_sub _ _ _ [(1, 1), (7, 7), (8, 8)] (by simp) (by simp) (by simp) (zas rfl) ?_ (by simp only [zan, zao, zaP, lookR, renO, zaC, zax, toN, Ints_ren, Bools_ren, zaa, if_true, if_false, ↓reduceIte] <;> (try rfl)) (by simp only [zal, zap, false_implies, implies_true, and_true, zaP, lookR, zaa, if_true, if_false, ↓reduceIte, Option.some.injEq, forall_eq'] <;> ((repeat' with_reducible apply zam) <;> (first | with_reducible trivial | exact fun c hc q hq => absurd hq (Ints_refs0 _ _ c hc) | (simp [zaA, toN]; done)))); simp only [zan, zao, zal, zap, false_implies, implies_true, and_true, lk, slot, zaB, zax, toN, zaa, if_true, if_false, ↓reduceIte, reduceCtorEq])
          all_goals ((repeat' apply zam) <;> (first | rfl | trivial | (simp only [lsN, zaV, zaQ]; done) | (simp only [lsN, zaV, zaQ]; rfl) | (simp only [lsN, zaV, zaQ]; trivial)))
        intro i hi
        rcases zaX i c.length with hlt | hge
        · have hlt' : (0 : Int) ≤ c.length - 1 - i := by omega
          have hoi := hok i hi
          have hln' : (lsN c (ov - n0) i).1.length = c.length := lsN_len _ _ _
          have hix : ((c.length : Int) - 1 - i).toNat = c.length - 1 - i := by omega
          have hgi := hoi.1 (c.length - 1 - i)
          have hmm := mn_le ((lsN c (ov - n0) i).1.getD (c.length - 1 - i) 0) (lsN c (ov - n0) i).2
          have emm : mn ((lsN c (ov - n0) i).1.getD (c.length - 1 - i) 0) (lsN c (ov - n0) i).2 = if (lsN c (ov - n0) i).1.getD (c.length - 1 - i) 0 < (lsN c (ov - n0) i).2 then (lsN c (ov - n0) i).1.getD (c.length - 1 - i) 0 else (lsN c (ov - n0) i).2 := by rw [mn_comm]; rfl
          have est : lsN c (ov - n0) (i + 1) = ((lsN c (ov - n0) i).1.set (c.length - 1 - i) ((lsN c (ov - n0) i).1.getD (c.length - 1 - i) 0 - mn ((lsN c (ov - n0) i).1.getD (c.length - 1 - i) 0) (lsN c (ov - n0) i).2), (lsN c (ov - n0) i).2 - mn ((lsN c (ov - n0) i).1.getD (c.length - 1 - i) 0) (lsN c (ov - n0) i).2) := rfl
          generalize hS : lsN c (ov - n0) i = S at *
          generalize hS2 : lsN c (ov - n0) (i + 1) = S2 at *
          obtain ⟨d, e⟩ := S
          simp only at est hln' hoi hmm emm hgi
          generalize mn (d.getD (c.length - 1 - i) 0) e = m at *
          simp only [go_sem, zaa, zae, zaf, zag, zah, zad, ↓reduceIte, reduceCtorEq, zab, zac, zai, zaj, zak, decide_eq_true hlt', hS, hix, ← emm]
          repeat' (first
 | with_reducible refine zam ?_ ?_
 | (intros; omega)
 | (intros; (try simp only [zau, zaw, zav, zat, zaq, zar, decide_eq_true_eq, decide_eq_false_iff_not] at *); omega))
          refine le_mk (i + 1) ?_ (by omega) (by omega)
          rw [hS2, est]
          (refine imp_sub _ _ _ [(1, 1), (7, 7), (8, 8)] (by simp) (by simp) (by simp) (zas rfl) ?_ (by simp only [zan, zao, zaP, lookR, renO, zaC, zax, toN, Ints_ren, Bools_ren, zaa, if_true, if_false, ↓reduceIte] <;> (try rfl)) (by simp only [zal, zap, false_implies, implies_true, and_true, zaP, lookR, zaa, if_true, if_false, ↓reduceIte, Option.some.injEq, forall_eq'] <;> ((repeat' with_reducible apply zam) <;> (first | with_reducible trivial | exact fun c hc q hq => absurd hq (Ints_refs0 _ _ c hc) | (simp [zaA, toN]; done)))); simp only [zan, zao, zal, zap, false_implies, implies_true, and_true, lk, slot, zaB, zax, toN, zaa, if_true, if_false, ↓reduceIte, reduceCtorEq])
          all_goals ((repeat' apply zam) <;> (first | rfl | trivial | (refine i1_eq ?_; omega)))
        · have hlt' : ¬ (0 : Int) ≤ c.length - 1 - i := by omega
          have ei : i = c.length := by omega
          subst ei
          simp only [go_sem, zaa, zae, zaf, zag, zah, zad, ↓reduceIte, reduceCtorEq, zab, zac, zai, zaj, zak, decide_eq_false hlt']
          repeat' (first
 | (apply cl_show
    case ha => (simp only [zan, zao, prepV, prepC, idx, hpL', lookR, zaa, if_true, if_false]; rfl)
    case hs => ((simp [snaps, zbd, zaA, idx, hpL', lookR]) <;> (repeat' apply zam) <;> exact Ints_isG _)
    case h => (first | exact h5 ..)
    case hg => ((simp [zbi, zbe, zaZ]) <;> (repeat' apply zam) <;> exact Ints_noG _))
 | ((first | refine s1_id ?_ | refine swp_id ?_ | refine sops_id ?_ | refine s2_id ?_); simp only [go_sem, zaa, zae, zaf, zag, zah, zad, ↓reduceIte, reduceCtorEq, zab, zac, zai, zaj, zak, zaB, zaD, zax, zaC, renO, bk, back, outUpsFrom, Ints_ren])
 | (intros; (try simp only [zau, zaw, zav, zat, zaq, zar, decide_eq_true_eq, decide_eq_false_iff_not] at *); omega))
          repeat' (first
 | (refine fs_w ?h1 (svw_of ?h2); (case h1 => repeat' (first | exact trivial | exact rfl | exact zas rfl | apply zam)); (case h2 => repeat' (first | ((with_reducible refine (?_ : CW _ _)); first | exact cw_gnil | exact cw_rfl _ | exact cw_niln _ _ | exact cw_cap _ _ _ _) | exact trivial | (show _ ∧ SWL _ _; apply zam) | (show _ ∧ CWL _ _; apply zam) | show CW _ _)))
 | fail)
    · have hl0 : lim { x with q := q', b := b' } = true := by rw [hlq]; simp [hq]
      have hmB : mst { x with q := q', b := b' } = q' + b' := by unfold mst; rw [hl0]; simp
      rw [hl0] at h4
      cases hs : stl q' b' with
      | false =>
        simp only [if_true]
        have hwi : wi q' 1 1000000 = false ∨ (wi q' 1 1000000 = true ∧ wi b' 0 q' = false) := by
          cases h5 : wi q' 1 1000000 with
          | false => exact .inl rfl
          | true =>
            cases h6 : wi b' 0 q' with
            | false => exact .inr ⟨rfl, rfl⟩
            | true =>
              rw [wi_iff] at h5 h6
              have := stl_iff.2 (.inr ⟨hq, h5.1, h5.2, h6.1, h6.2⟩)
              rw [hs] at this; cases this
        clear hw h0 hn hsml hlq hl0 hmB hh hH hM hL hlen hall
        obtain ⟨g, q, b, s, l, c, sp, pe, th, em⟩ := x
        simp only [plt, plc, plo, pz, pre] at *
        rcases hwi with h5 | ⟨h5, h6⟩
        · refine fnspec_of mixed TT_ok TT_cl ⟨fun _ => false, fun _ => [], 0, fun _ => false, fun _ => false⟩ Tryz.func66 rfl (by kernel_rfl) rfl 86 rfl [.cell 6 43, .tmp 7] rfl ?_
          simp only [go_sem, zaa, zae, zaf, zag, zah, zad, ↓reduceIte, reduceCtorEq, zab, zac, zai, zaj, zak, plc, plo]
          repeat' (first
 | (apply cl_plain
    case hs => rfl
    case ha => (simp only [zan, zao, prepV, prepC, idx, hpL', lookR, zaa, if_true, if_false]; rfl)
    case h => (first | exact h1 .. | exact rin_spec .. | exact h2 .. | exact h3 .. | exact h4 ..))
 | (apply cl_show
    case ha => (simp only [zan, zao, prepV, prepC, idx, hpL', lookR, zaa, if_true, if_false]; rfl)
    case hs => ((simp [snaps, zbd, zaA, idx, hpL', lookR]) <;> (repeat' apply zam) <;> exact Ints_isG _)
    case h => (first | exact h1 .. | exact rin_spec .. | exact h2 .. | exact h3 .. | exact h4 ..)
    case hg => ((simp [zbi, zbe, zaZ]) <;> (repeat' apply zam) <;> exact Ints_noG _))
 | ((first | refine s1_id ?_ | refine swp_id ?_ | refine sops_id ?_ | refine s2_id ?_); simp only [plc, plo, h5, go_sem, zaa, zae, zaf, zag, zah, zad, ↓reduceIte, reduceCtorEq, zab, zac, zai, zaj, zak, zaB, zaD, zax, zaC, renO, bk, back, outUpsFrom, Ints_ren])
 | (intros; (try simp only [zau, zaw, zav, zat, zaq, zar, decide_eq_true_eq, decide_eq_false_iff_not] at *); omega))
          repeat' (first
 | (refine fs_w ?h1 (svw_of ?h2); (case h1 => repeat' (first | exact trivial | exact rfl | exact zas rfl | apply zam)); (case h2 => repeat' (first | ((with_reducible refine (?_ : CW _ _)); first | exact cw_gnil | exact cw_rfl _ | exact cw_niln _ _ | exact cw_cap _ _ _ _) | exact trivial | (show _ ∧ SWL _ _; apply zam) | (show _ ∧ CWL _ _; apply zam) | show CW _ _)))
 | fail)
        · refine fnspec_of mixed TT_ok TT_cl ⟨fun _ => false, fun _ => [], 0, fun _ => false, fun _ => false⟩ Tryz.func66 rfl (by kernel_rfl) rfl 86 rfl [.cell 6 43, .tmp 7] rfl ?_
          simp only [go_sem, zaa, zae, zaf, zag, zah, zad, ↓reduceIte, reduceCtorEq, zab, zac, zai, zaj, zak, plc, plo]
          repeat' (first
 | (apply cg_tp
    case hl => rfl
    case ha => (simp only [zan, zao, prepV, prepC, idx, hpL', lookR, zaa, if_true, if_false]; rfl)
    case hs => rfl
    case h => (first | exact h1 .. | exact rin_spec .. | exact h2 .. | exact h3 .. | exact h4 ..))
 | (apply cl_plain
    case hs => rfl
    case ha => (simp only [zan, zao, prepV, prepC, idx, hpL', lookR, zaa, if_true, if_false]; rfl)
    case h => (first | exact h1 .. | exact rin_spec .. | exact h2 .. | exact h3 .. | exact h4 ..))
 | (apply cl_show
    case ha => (simp only [zan, zao, prepV, prepC, idx, hpL', lookR, zaa, if_true, if_false]; rfl)
    case hs => ((simp [snaps, zbd, zaA, idx, hpL', lookR]) <;> (repeat' apply zam) <;> exact Ints_isG _)
    case h => (first | exact h1 .. | exact rin_spec .. | exact h2 .. | exact h3 .. | exact h4 ..)
    case hg => ((simp [zbi, zbe, zaZ]) <;> (repeat' apply zam) <;> exact Ints_noG _))
 | ((first | refine s1_id ?_ | refine swp_id ?_ | refine sops_id ?_ | refine s2_id ?_); simp only [plc, plo, h5, h6, go_sem, zaa, zae, zaf, zag, zah, zad, ↓reduceIte, reduceCtorEq, zab, zac, zai, zaj, zak, zaB, zaD, zax, zaC, renO, bk, back, outUpsFrom, Ints_ren])
 | (intros; (try simp only [zau, zaw, zav, zat, zaq, zar, decide_eq_true_eq, decide_eq_false_iff_not] at *); omega))
          repeat' (first
 | (refine fs_w ?h1 (svw_of ?h2); (case h1 => repeat' (first | exact trivial | exact rfl | exact zas rfl | apply zam)); (case h2 => repeat' (first | ((with_reducible refine (?_ : CW _ _)); first | exact cw_gnil | exact cw_rfl _ | exact cw_niln _ _ | exact cw_cap _ _ _ _) | exact trivial | (show _ ∧ SWL _ _; apply zam) | (show _ ∧ CWL _ _; apply zam) | show CW _ _)))
 | fail)
      | true =>
        have hst := stl_iff.1 hs
        have hm2 : 0 ≤ mst { x with q := q', b := b' } ∧ mst { x with q := q', b := b' } ≤ 2000000 := by rw [hmB]; omega
        have hp := pov_rng h0 hm2.1
        have hmn := mn_le x.l (pov x q' b')
        have hok := lsN_ok (c := x.c) (ex := pov x q' b' - mn x.l (pov x q' b')) hall (by omega)
        have hln := lsN_len x.c (pov x q' b' - mn x.l (pov x q' b'))
        have epov : pov x q' b' = if hld x - mst { x with q := q', b := b' } < 0 then 0 else hld x - mst { x with q := q', b := b' } := by unfold pov; split <;> split <;> omega
        have en0 : mn x.l (pov x q' b') = if x.l < pov x q' b' then x.l else pov x q' b' := by rw [mn_comm]; rfl
        rw [hmB] at hm2 epov
        have hr5 : pck (pchg x q' b') = true := (pchg_ok h0 hs).1
        have h5 := rchk_spec (pchg x q' b') none ⟨hb', by have := hn.pe; simp only [pchg]; omega, by simp only [pchg, hln]; omega⟩
        rw [hr5] at h5
        simp only [plt, plc, pchg, hln] at h5
        have hwi1 : wi q' 1 1000000 = true := wi_iff.2 (by omega)
        have hwi2 : wi b' 0 q' = true := wi_iff.2 (by omega)
        simp only [zaW, if_true, if_false, pre, plt, plc, pchg, hln, pz]
        clear hr5
        generalize mn x.l (pov x q' b') = n0 at *
        generalize pov x q' b' = ov at *
        generalize hld x = H at *
        generalize mst x = M at *
        clear h0 hn hsml hlq hw
        obtain ⟨g, q, b, s, l, c, sp, pe, th, em⟩ := x
        simp only [plt, plc, plo] at *
        refine fnspec_of mixed TT_ok TT_cl ⟨fun _ => false, fun _ => [], 0, fun _ => false, fun _ => false⟩ Tryz.func66 rfl (by kernel_rfl) rfl 86 rfl [.cell 6 43, .tmp 7] rfl ?_
        simp only [go_sem, zaa, zae, zaf, zag, zah, zad, ↓reduceIte, reduceCtorEq, zab, zac, zai, zaj, zak, plc, plo]
        repeat' (first
 | with_reducible refine zam ?_ ?_
 | (apply cg_tp
    case hl => rfl
    case ha => (simp only [zan, zao, prepV, prepC, idx, hpL', lookR, zaa, if_true, if_false]; rfl)
    case hs => rfl
    case h => (first | exact h1 .. | exact rin_spec .. | exact h2 .. | exact h3 .. | exact h4 ..))
 | (apply cl_plain
    case hs => rfl
    case ha => (simp only [zan, zao, prepV, prepC, idx, hpL', lookR, zaa, if_true, if_false]; rfl)
    case h => (first | exact h1 .. | exact rin_spec .. | exact h2 .. | exact h3 .. | exact h4 ..))
 | (apply cl_show
    case ha => (simp only [zan, zao, prepV, prepC, idx, hpL', lookR, zaa, if_true, if_false]; rfl)
    case hs => ((simp [snaps, zbd, zaA, idx, hpL', lookR]) <;> (repeat' apply zam) <;> exact Ints_isG _)
    case h => (first | exact h1 .. | exact rin_spec .. | exact h2 .. | exact h3 .. | exact h4 ..)
    case hg => ((simp [zbi, zbe, zaZ]) <;> (repeat' apply zam) <;> exact Ints_noG _))
 | ((first | refine s1_id ?_ | refine swp_id ?_ | refine sops_id ?_ | refine s2_id ?_); simp only [plc, plo, hwi1, hwi2, ← epov, ← en0, go_sem, zaa, zae, zaf, zag, zah, zad, ↓reduceIte, reduceCtorEq, zab, zac, zai, zaj, zak, zaB, zaD, zax, zaC, renO, bk, back, outUpsFrom, Ints_ren])
 | (intros; omega)
 | (intros; (try simp only [zau, zaw, zav, zat, zaq, zar, decide_eq_true_eq, decide_eq_false_iff_not] at *); omega))
        refine w_loop (ι := Nat) (fun i => ⟨[(6, .one (.optr 1 0)), (8, .one (.optr 8 0)), (10, i1 (lsN c (ov - n0) i).2), (12, i1 (c.length - 1 - i))],
          [(1, some ⟨[int 0, int 0, int 0, int 0, int 0, .sc (.slice none 0 0), int 0, int 0, int 0, bool false], 10⟩), (7, some ⟨Ints (lsN c (ov - n0) i).1, 1⟩), (8, some ⟨[int g, int q', int b', int s, int (l - n0), .osl 7 0 c.length none, int sp, int pe, int th, bool em], 10⟩)], 9⟩)
          (fun i => i ≤ c.length) (fun i => c.length - i) 0 ?_ (zaU _) ?_
        · (refine imp_sub _ _ _ [(1, 1), (7, 7), (8, 8)] (by simp) (by simp) (by simp) (zas rfl) ?_ (by simp only [zan, zao, zaP, lookR, renO, zaC, zax, toN, Ints_ren, Bools_ren, zaa, if_true, if_false, ↓reduceIte] <;> (try rfl)) (by simp only [zal, zap, false_implies, implies_true, and_true, zaP, lookR, zaa, if_true, if_false, ↓reduceIte, Option.some.injEq, forall_eq'] <;> ((repeat' with_reducible apply zam) <;> (first | with_reducible trivial | exact fun c hc q hq => absurd hq (Ints_refs0 _ _ c hc) | (simp [zaA, toN]; done)))); simp only [zan, zao, zal, zap, false_implies, implies_true, and_true, lk, slot, zaB, zax, toN, zaa, if_true, if_false, ↓reduceIte, reduceCtorEq])
          all_goals ((repeat' apply zam) <;> (first | rfl | trivial | (simp only [lsN, zaV, zaQ]; done) | (simp only [lsN, zaV, zaQ]; rfl) | (simp only [lsN, zaV, zaQ]; trivial)))
        intro i hi
        rcases zaX i c.length with hlt | hge
        · have hlt' : (0 : Int) ≤ c.length - 1 - i := by omega
          have hoi := hok i hi
          have hln' : (lsN c (ov - n0) i).1.length = c.length := lsN_len _ _ _
          have hix : ((c.length : Int) - 1 - i).toNat = c.length - 1 - i := by omega
          have hgi := hoi.1 (c.length - 1 - i)
          have hmm := mn_le ((lsN c (ov - n0) i).1.getD (c.length - 1 - i) 0) (lsN c (ov - n0) i).2
          have emm : mn ((lsN c (ov - n0) i).1.getD (c.length - 1 - i) 0) (lsN c (ov - n0) i).2 = if (lsN c (ov - n0) i).1.getD (c.length - 1 - i) 0 < (lsN c (ov - n0) i).2 then (lsN c (ov - n0) i).1.getD (c.length - 1 - i) 0 else (lsN c (ov - n0) i).2 := by rw [mn_comm]; rfl
          have est : lsN c (ov - n0) (i + 1) = ((lsN c (ov - n0) i).1.set (c.length - 1 - i) ((lsN c (ov - n0) i).1.getD (c.length - 1 - i) 0 - mn ((lsN c (ov - n0) i).1.getD (c.length - 1 - i) 0) (lsN c (ov - n0) i).2), (lsN c (ov - n0) i).2 - mn ((lsN c (ov - n0) i).1.getD (c.length - 1 - i) 0) (lsN c (ov - n0) i).2) := rfl
          generalize hS : lsN c (ov - n0) i = S at *
          generalize hS2 : lsN c (ov - n0) (i + 1) = S2 at *
          obtain ⟨d, e⟩ := S
          simp only at est hln' hoi hmm emm hgi
          generalize mn (d.getD (c.length - 1 - i) 0) e = m at *
          simp only [go_sem, zaa, zae, zaf, zag, zah, zad, ↓reduceIte, reduceCtorEq, zab, zac, zai, zaj, zak, decide_eq_true hlt', hS, hix, ← emm]
          repeat' (first
 | with_reducible refine zam ?_ ?_
 | (intros; omega)
 | (intros; (try simp only [zau, zaw, zav, zat, zaq, zar, decide_eq_true_eq, decide_eq_false_iff_not] at *); omega))
          refine le_mk (i + 1) ?_ (by omega) (by omega)
          rw [hS2, est]
          (refine imp_sub _ _ _ [(1, 1), (7, 7), (8, 8)] (by simp) (by simp) (by simp) (zas rfl) ?_ (by simp only [zan, zao, zaP, lookR, renO, zaC, zax, toN, Ints_ren, Bools_ren, zaa, if_true, if_false, ↓reduceIte] <;> (try rfl)) (by simp only [zal, zap, false_implies, implies_true, and_true, zaP, lookR, zaa, if_true, if_false, ↓reduceIte, Option.some.injEq, forall_eq'] <;> ((repeat' with_reducible apply zam) <;> (first | with_reducible trivial | exact fun c hc q hq => absurd hq (Ints_refs0 _ _ c hc) | (simp [zaA, toN]; done)))); simp only [zan, zao, zal, zap, false_implies, implies_true, and_true, lk, slot, zaB, zax, toN, zaa, if_true, if_false, ↓reduceIte, reduceCtorEq])
          all_goals ((repeat' apply zam) <;> (first | rfl | trivial | (refine i1_eq ?_; omega)))
        · have hlt' : ¬ (0 : Int) ≤ c.length - 1 - i := by omega
          have ei : i = c.length := by omega
          subst ei
          simp only [go_sem, zaa, zae, zaf, zag, zah, zad, ↓reduceIte, reduceCtorEq, zab, zac, zai, zaj, zak, decide_eq_false hlt']
          repeat' (first
 | (apply cl_show
    case ha => (simp only [zan, zao, prepV, prepC, idx, hpL', lookR, zaa, if_true, if_false]; rfl)
    case hs => ((simp [snaps, zbd, zaA, idx, hpL', lookR]) <;> (repeat' apply zam) <;> exact Ints_isG _)
    case h => (first | exact h5 ..)
    case hg => ((simp [zbi, zbe, zaZ]) <;> (repeat' apply zam) <;> exact Ints_noG _))
 | ((first | refine s1_id ?_ | refine swp_id ?_ | refine sops_id ?_ | refine s2_id ?_); simp only [go_sem, zaa, zae, zaf, zag, zah, zad, ↓reduceIte, reduceCtorEq, zab, zac, zai, zaj, zak, zaB, zaD, zax, zaC, renO, bk, back, outUpsFrom, Ints_ren])
 | (intros; (try simp only [zau, zaw, zav, zat, zaq, zar, decide_eq_true_eq, decide_eq_false_iff_not] at *); omega))
          (refine fs_frz 7 ⟨Ints (lsN c (ov - n0) c.length).1, 1⟩ (by simp only [zaP, lookR, zaa, if_true, if_false, ↓reduceIte]) (by first | exact Ints_isG _ | exact Bools_isG _ | (simp [Cell.isG]; done)) ?_; simp only [frzTm, SV.frz, SV.frzL, Cell.frz, frzHp, frzO, Ints_frz, Bools_frz, zan, zao, zaa, if_true, if_false, ↓reduceIte])
          repeat' (first
 | (refine fs_w ?h1 (svw_of ?h2); (case h1 => repeat' (first | exact trivial | exact rfl | exact zas rfl | apply zam)); (case h2 => repeat' (first | ((with_reducible refine (?_ : CW _ _)); first | exact cw_gnil | exact cw_rfl _ | exact cw_niln _ _ | exact cw_cap _ _ _ _) | exact trivial | (show _ ∧ SWL _ _; apply zam) | (show _ ∧ CWL _ _; apply zam) | show CW _ _)))
 | fail)
theorem same_spec (x : Pl) (k k' : Option Nat) (hlen : x.c.length ≤ 1000) : FnSpec Tryz.prog 16 [plt x k, plt x k'] [] (b1 true) [] := by
  obtain ⟨g, q, b, s, l, c, sp, pe, th, em⟩ := x
  simp only at hlen
  refine fnspec_of mixed TT_ok TT_cl ⟨fun _ => false, fun _ => [], 0, fun _ => false, fun _ => false⟩ Tryz.func16 rfl (by kernel_rfl) rfl 92 rfl [.tmp 4] rfl ?_
  simp only [go_sem, zaa, zae, zaf, zag, zah, zad, ↓reduceIte, reduceCtorEq, zab, zac, zai, zaj, zak, plc]
  repeat' (first
 | fail)
  refine w_loop (ι := Nat) (fun i => ⟨[(2, .one (.optr 0 0)), (3, .one (.optr 1 0)), (5, i1 i)], [(0, some ⟨plc ⟨g, q, b, s, l, c, sp, pe, th, em⟩ k, 10⟩), (1, some ⟨plc ⟨g, q, b, s, l, c, sp, pe, th, em⟩ k', 10⟩)], 2⟩) (fun i => i ≤ c.length) (fun i => c.length - i) 0 ?_ (zaU _) ?_
  · (refine imp_ren _ _ _ [(0, 0, ⟨plc ⟨g, q, b, s, l, c, sp, pe, th, em⟩ k, 10⟩), (1, 1, ⟨plc ⟨g, q, b, s, l, c, sp, pe, th, em⟩ k', 10⟩)] (by simp) (by simp) (by simp) (zas rfl) ?_ rfl (by simp only [zal, zap, false_implies, implies_true, and_true, zaP, lookR, zaa, if_true, if_false, ↓reduceIte] <;> (repeat' apply zam) <;> (first | rfl | trivial)) (by simp only [zal, zap, false_implies, implies_true, and_true, true_and, flat_cons, flat_nil, flat_ints, flat_bools, flat_app, zaA, and_self, eq_self_iff_true, zay]); simp only [zan, zao, zal, zap, false_implies, implies_true, and_true, lk, slot, zaB, zax, toN, zaa, if_true, if_false, ↓reduceIte, reduceCtorEq])
    all_goals ((repeat' apply zam) <;> (first | rfl | trivial))
  intro i hi
  simp only [go_sem, zaa, zae, zaf, zag, zah, zad, ↓reduceIte, reduceCtorEq, zab, zac, zai, zaj, zak, plc]
  repeat' (first
 | with_reducible refine zam ?_ ?_
 | (unfold OKC; kernel_rfl)
 | (unfold EDG; kernel_rfl)
 | (refine gt_if (fun h => ?_) (fun h => ?_) <;> (try simp only [h]))
 | ((first | refine s1_id ?_ | refine swp_id ?_ | refine sops_id ?_ | refine s2_id ?_); simp only [plc, go_sem, zaa, zae, zaf, zag, zah, zad, ↓reduceIte, reduceCtorEq, zab, zac, zai, zaj, zak, zaB, zaD, zax, zaC, renO, bk, back, outUpsFrom, Ints_ren])
 | (intros; omega)
 | (intros; (try simp only [zau, zaw, zav, zat, zaq, zar, decide_eq_true_eq, decide_eq_false_iff_not] at *); omega)
 | (apply fs_nil <;> (try simp only [go_sem, resV, resS, zaB, zaD, zax, St.tmF, zaP, idx, renO, zaC, evS, slot, lookR, zaa, ↓reduceIte, reduceCtorEq, if_true, if_false, Option.getD_some, Option.getD_none, zan, zao, sLoad, readAt, readNeed, Ints_ren, Ints_length, Ints_getD, and_true, true_and, List.getD_cons_zero, List.getD_cons_succ]) <;> (try rfl))
 | fail)
  · simp only [zav, zat, decide_eq_true_eq, decide_eq_false_iff_not, zaw, zar, zau] at *
    refine le_mk (i + 1) ?_ (by omega) (by omega)
    (refine imp_ren _ _ _ [(0, 0, ⟨plc ⟨g, q, b, s, l, c, sp, pe, th, em⟩ k, 10⟩), (1, 1, ⟨plc ⟨g, q, b, s, l, c, sp, pe, th, em⟩ k', 10⟩)] (by simp) (by simp) (by simp) (zas rfl) ?_ rfl (by simp only [zal, zap, false_implies, implies_true, and_true, zaP, lookR, zaa, if_true, if_false, ↓reduceIte] <;> (repeat' apply zam) <;> (first | rfl | trivial)) (by simp only [zal, zap, false_implies, implies_true, and_true, true_and, flat_cons, flat_nil, flat_ints, flat_bools, flat_app, zaA, and_self, eq_self_iff_true, zay]); simp only [zan, zao, zal, zap, false_implies, implies_true, and_true, lk, slot, zaB, zax, toN, zaa, if_true, if_false, ↓reduceIte, reduceCtorEq])
    all_goals ((repeat' apply zam) <;> (first | rfl | trivial))
  · cases em <;> rfl
def pn0 (g q b s n : Int) : Pl := ⟨g, q, b, s, if q = 4611686018427387904 then 0 else q, zaY n.toNat 0, 0, 1, 0, false⟩
def pnew (g q b s n : Int) : Pl × Int := if wi n 1 16 = false then (pz, 3) else if pck (pn0 g q b s n) = false then (pz, 3) else (pn0 g q b s n, 0)
theorem new_spec (g q b s n : Int) : FnSpec Tryz.prog 63 [i1 g, i1 q, i1 b, i1 s, i1 n] [] (pre (pnew g q b s n)) [] := by
  unfold pnew
  split
  · rename_i h0
    simp only [plt, plc, pz, pre] at *
    refine fnspec_of mixed TT_ok TT_cl ⟨fun _ => false, fun _ => [], 0, fun _ => false, fun _ => false⟩ Tryz.func63 rfl (by kernel_rfl) rfl 33 rfl [.cell 10 43, .tmp 11] rfl ?_
    simp only [go_sem, zaa, zae, zaf, zag, zah, zad, ↓reduceIte, reduceCtorEq, zab, zac, zai, zaj, zak]
    repeat' (first
 | (apply cl_plain
    case hs => rfl
    case ha => (simp only [zan, zao, prepV, prepC, idx, hpL', lookR, zaa, if_true, if_false]; rfl)
    case h => (first | exact within_spec ..))
 | ((first | refine s1_id ?_ | refine swp_id ?_ | refine sops_id ?_ | refine s2_id ?_); simp only [h0, go_sem, zaa, zae, zaf, zag, zah, zad, ↓reduceIte, reduceCtorEq, zab, zac, zai, zaj, zak, zaB, zaD, zax, zaC, renO, bk, back, outUpsFrom, Ints_ren])
 | (intros; (try simp only [zau, zaw, zav, zat, zaq, zar, decide_eq_true_eq, decide_eq_false_iff_not] at *); omega))
    repeat' (first
 | (refine fs_w ?h1 (svw_of ?h2); (case h1 => repeat' (first | exact trivial | exact rfl | exact zas rfl | apply zam)); (case h2 => repeat' (first | ((with_reducible refine (?_ : CW _ _)); first | exact cw_gnil | exact cw_rfl _ | exact cw_niln _ _ | exact cw_cap _ _ _ _) | exact trivial | (show _ ∧ SWL _ _; apply zam) | (show _ ∧ CWL _ _; apply zam) | show CW _ _)))
 | fail)
  · rename_i h0
    rw [zba] at h0
    have hn := wi_iff.1 h0
    have h1 := check_spec (pn0 g q b s n) (some n.toNat)
    have h2 := limited_spec ⟨g, q, b, s, 0, zaY n.toNat 0, 0, 1, 0, false⟩ (some n.toNat)
    have hlq : lim ⟨g, q, b, s, 0, zaY n.toNat 0, 0, 1, 0, false⟩ = !decide (q = 4611686018427387904) := rfl
    rw [hlq] at h2
    generalize pck (pn0 g q b s n) = r at *
    simp only [plt, plc, pn0, zaR] at h1 h2
    by_cases hq : q = 4611686018427387904
    · simp only [hq, if_true] at h1 h2
      subst hq
      cases r with
      | true =>
        simp only [zaW, if_false, pre, plt, plc, pn0, zaR, if_true]
        refine fnspec_of mixed TT_ok TT_cl ⟨fun _ => false, fun _ => [], 0, fun _ => false, fun _ => false⟩ Tryz.func63 rfl (by kernel_rfl) rfl 33 rfl [.cell 10 43, .tmp 11] rfl ?_
        simp only [go_sem, zaa, zae, zaf, zag, zah, zad, ↓reduceIte, reduceCtorEq, zab, zac, zai, zaj, zak]
        repeat' (first
 | with_reducible refine zam ?_ ?_
 | (apply cl_plain
    case hs => rfl
    case ha => (simp only [zan, zao, prepV, prepC, idx, hpL', lookR, zaa, if_true, if_false]; rfl)
    case h => (first | exact within_spec .. | exact h1 .. | exact h2 ..))
 | (apply cl_show
    case ha => (simp only [zan, zao, prepV, prepC, idx, hpL', lookR, zaa, if_true, if_false]; rfl)
    case hs => ((simp [snaps, zbd, zaA, idx, hpL', lookR]) <;> (repeat' apply zam) <;> exact Ints_isG _)
    case h => (first | exact within_spec .. | exact h1 .. | exact h2 ..)
    case hg => ((simp [zbi, zbe, zaZ]) <;> (repeat' apply zam) <;> exact Ints_noG _))
 | ((first | refine s1_id ?_ | refine swp_id ?_ | refine sops_id ?_ | refine s2_id ?_); simp only [h0, go_sem, zaa, zae, zaf, zag, zah, zad, ↓reduceIte, reduceCtorEq, zab, zac, zai, zaj, zak, zaB, zaD, zax, zaC, renO, bk, back, outUpsFrom, Ints_ren])
 | (intros; omega)
 | (intros; (try simp only [zau, zaw, zav, zat, zaq, zar, decide_eq_true_eq, decide_eq_false_iff_not] at *); omega))
        (refine fs_frz 10 ⟨Ints (zaY n.toNat 0), 1⟩ (by simp only [zaP, lookR, zaa, if_true, if_false, ↓reduceIte]) (by first | exact Ints_isG _ | exact Bools_isG _ | (simp [Cell.isG]; done)) ?_; simp only [frzTm, SV.frz, SV.frzL, Cell.frz, frzHp, frzO, Ints_frz, Bools_frz, zan, zao, zaa, if_true, if_false, ↓reduceIte])
        repeat' (first
 | (refine fs_w ?h1 (svw_of ?h2); (case h1 => repeat' (first | exact trivial | exact rfl | exact zas rfl | apply zam)); (case h2 => repeat' (first | ((with_reducible refine (?_ : CW _ _)); first | exact cw_gnil | exact cw_rfl _ | exact cw_niln _ _ | exact cw_cap _ _ _ _) | exact trivial | (show _ ∧ SWL _ _; apply zam) | (show _ ∧ CWL _ _; apply zam) | show CW _ _)))
 | fail)
      | false =>
        simp only [if_true, pre, plt, plc, pz]
        refine fnspec_of mixed TT_ok TT_cl ⟨fun _ => false, fun _ => [], 0, fun _ => false, fun _ => false⟩ Tryz.func63 rfl (by kernel_rfl) rfl 33 rfl [.cell 10 43, .tmp 11] rfl ?_
        simp only [go_sem, zaa, zae, zaf, zag, zah, zad, ↓reduceIte, reduceCtorEq, zab, zac, zai, zaj, zak]
        repeat' (first
 | with_reducible refine zam ?_ ?_
 | (apply cl_plain
    case hs => rfl
    case ha => (simp only [zan, zao, prepV, prepC, idx, hpL', lookR, zaa, if_true, if_false]; rfl)
    case h => (first | exact within_spec .. | exact h1 .. | exact h2 ..))
 | (apply cl_show
    case ha => (simp only [zan, zao, prepV, prepC, idx, hpL', lookR, zaa, if_true, if_false]; rfl)
    case hs => ((simp [snaps, zbd, zaA, idx, hpL', lookR]) <;> (repeat' apply zam) <;> exact Ints_isG _)
    case h => (first | exact within_spec .. | exact h1 .. | exact h2 ..)
    case hg => ((simp [zbi, zbe, zaZ]) <;> (repeat' apply zam) <;> exact Ints_noG _))
 | ((first | refine s1_id ?_ | refine swp_id ?_ | refine sops_id ?_ | refine s2_id ?_); simp only [h0, go_sem, zaa, zae, zaf, zag, zah, zad, ↓reduceIte, reduceCtorEq, zab, zac, zai, zaj, zak, zaB, zaD, zax, zaC, renO, bk, back, outUpsFrom, Ints_ren])
 | (intros; omega)
 | (intros; (try simp only [zau, zaw, zav, zat, zaq, zar, decide_eq_true_eq, decide_eq_false_iff_not] at *); omega))
        repeat' (first
 | (refine fs_w ?h1 (svw_of ?h2); (case h1 => repeat' (first | exact trivial | exact rfl | exact zas rfl | apply zam)); (case h2 => repeat' (first | ((with_reducible refine (?_ : CW _ _)); first | exact cw_gnil | exact cw_rfl _ | exact cw_niln _ _ | exact cw_cap _ _ _ _) | exact trivial | (show _ ∧ SWL _ _; apply zam) | (show _ ∧ CWL _ _; apply zam) | show CW _ _)))
 | fail)
    · simp only [hq, if_false, decide_false, zbf] at h1 h2
      cases r with
      | true =>
        simp only [zaW, if_false, pre, plt, plc, pn0, zaR, hq]
        refine fnspec_of mixed TT_ok TT_cl ⟨fun _ => false, fun _ => [], 0, fun _ => false, fun _ => false⟩ Tryz.func63 rfl (by kernel_rfl) rfl 33 rfl [.cell 10 43, .tmp 11] rfl ?_
        simp only [go_sem, zaa, zae, zaf, zag, zah, zad, ↓reduceIte, reduceCtorEq, zab, zac, zai, zaj, zak]
        repeat' (first
 | with_reducible refine zam ?_ ?_
 | (apply cl_plain
    case hs => rfl
    case ha => (simp only [zan, zao, prepV, prepC, idx, hpL', lookR, zaa, if_true, if_false]; rfl)
    case h => (first | exact within_spec .. | exact h1 .. | exact h2 ..))
 | (apply cl_show
    case ha => (simp only [zan, zao, prepV, prepC, idx, hpL', lookR, zaa, if_true, if_false]; rfl)
    case hs => ((simp [snaps, zbd, zaA, idx, hpL', lookR]) <;> (repeat' apply zam) <;> exact Ints_isG _)
    case h => (first | exact within_spec .. | exact h1 .. | exact h2 ..)
    case hg => ((simp [zbi, zbe, zaZ]) <;> (repeat' apply zam) <;> exact Ints_noG _))
 | ((first | refine s1_id ?_ | refine swp_id ?_ | refine sops_id ?_ | refine s2_id ?_); simp only [h0, go_sem, zaa, zae, zaf, zag, zah, zad, ↓reduceIte, reduceCtorEq, zab, zac, zai, zaj, zak, zaB, zaD, zax, zaC, renO, bk, back, outUpsFrom, Ints_ren])
 | (intros; omega)
 | (intros; (try simp only [zau, zaw, zav, zat, zaq, zar, decide_eq_true_eq, decide_eq_false_iff_not] at *); omega))
        (refine fs_frz 10 ⟨Ints (zaY n.toNat 0), 1⟩ (by simp only [zaP, lookR, zaa, if_true, if_false, ↓reduceIte]) (by first | exact Ints_isG _ | exact Bools_isG _ | (simp [Cell.isG]; done)) ?_; simp only [frzTm, SV.frz, SV.frzL, Cell.frz, frzHp, frzO, Ints_frz, Bools_frz, zan, zao, zaa, if_true, if_false, ↓reduceIte])
        repeat' (first
 | (refine fs_w ?h1 (svw_of ?h2); (case h1 => repeat' (first | exact trivial | exact rfl | exact zas rfl | apply zam)); (case h2 => repeat' (first | ((with_reducible refine (?_ : CW _ _)); first | exact cw_gnil | exact cw_rfl _ | exact cw_niln _ _ | exact cw_cap _ _ _ _) | exact trivial | (show _ ∧ SWL _ _; apply zam) | (show _ ∧ CWL _ _; apply zam) | show CW _ _)))
 | fail)
      | false =>
        simp only [if_true, pre, plt, plc, pz]
        refine fnspec_of mixed TT_ok TT_cl ⟨fun _ => false, fun _ => [], 0, fun _ => false, fun _ => false⟩ Tryz.func63 rfl (by kernel_rfl) rfl 33 rfl [.cell 10 43, .tmp 11] rfl ?_
        simp only [go_sem, zaa, zae, zaf, zag, zah, zad, ↓reduceIte, reduceCtorEq, zab, zac, zai, zaj, zak]
        repeat' (first
 | with_reducible refine zam ?_ ?_
 | (apply cl_plain
    case hs => rfl
    case ha => (simp only [zan, zao, prepV, prepC, idx, hpL', lookR, zaa, if_true, if_false]; rfl)
    case h => (first | exact within_spec .. | exact h1 .. | exact h2 ..))
 | (apply cl_show
    case ha => (simp only [zan, zao, prepV, prepC, idx, hpL', lookR, zaa, if_true, if_false]; rfl)
    case hs => ((simp [snaps, zbd, zaA, idx, hpL', lookR]) <;> (repeat' apply zam) <;> exact Ints_isG _)
    case h => (first | exact within_spec .. | exact h1 .. | exact h2 ..)
    case hg => ((simp [zbi, zbe, zaZ]) <;> (repeat' apply zam) <;> exact Ints_noG _))
 | ((first | refine s1_id ?_ | refine swp_id ?_ | refine sops_id ?_ | refine s2_id ?_); simp only [h0, go_sem, zaa, zae, zaf, zag, zah, zad, ↓reduceIte, reduceCtorEq, zab, zac, zai, zaj, zak, zaB, zaD, zax, zaC, renO, bk, back, outUpsFrom, Ints_ren])
 | (intros; omega)
 | (intros; (try simp only [zau, zaw, zav, zat, zaq, zar, decide_eq_true_eq, decide_eq_false_iff_not] at *); omega))
        repeat' (first
 | (refine fs_w ?h1 (svw_of ?h2); (case h1 => repeat' (first | exact trivial | exact rfl | exact zas rfl | apply zam)); (case h2 => repeat' (first | ((with_reducible refine (?_ : CW _ _)); first | exact cw_gnil | exact cw_rfl _ | exact cw_niln _ _ | exact cw_cap _ _ _ _) | exact trivial | (show _ ∧ SWL _ _; apply zam) | (show _ ∧ CWL _ _; apply zam) | show CW _ _)))
 | fail)
theorem wk_pn0 (g q b s n : Int) (hb : -9223372036854775808 ≤ b ∧ b ≤ 9223372036854775807) (hn : n ≤ 16) : Wk (pn0 g q b s n) := ⟨hb, by simp [pn0], by simp only [pn0, zaR]; omega⟩
theorem rnew_spec (g q b s n : Int) (hb : -9223372036854775808 ≤ b ∧ b ≤ 9223372036854775807) : FnSpec Tryz.prog 74 [i1 g, i1 q, i1 b, i1 s, i1 n] [] (pre (pnew g q b s n)) [] := by
  unfold pnew
  split
  · rename_i h0
    simp only [plt, plc, pz, pre] at *
    refine fnspec_of mixed TT_ok TT_cl ⟨fun _ => false, fun _ => [], 0, fun _ => false, fun _ => false⟩ Tryz.func74 rfl (by kernel_rfl) rfl 33 rfl [.cell 10 43, .tmp 11] rfl ?_
    simp only [go_sem, zaa, zae, zaf, zag, zah, zad, ↓reduceIte, reduceCtorEq, zab, zac, zai, zaj, zak]
    repeat' (first
 | (apply cl_plain
    case hs => rfl
    case ha => (simp only [zan, zao, prepV, prepC, idx, hpL', lookR, zaa, if_true, if_false]; rfl)
    case h => (first | exact rin_spec ..))
 | ((first | refine s1_id ?_ | refine swp_id ?_ | refine sops_id ?_ | refine s2_id ?_); simp only [h0, go_sem, zaa, zae, zaf, zag, zah, zad, ↓reduceIte, reduceCtorEq, zab, zac, zai, zaj, zak, zaB, zaD, zax, zaC, renO, bk, back, outUpsFrom, Ints_ren])
 | (intros; (try simp only [zau, zaw, zav, zat, zaq, zar, decide_eq_true_eq, decide_eq_false_iff_not] at *); omega))
    repeat' (first
 | (refine fs_w ?h1 (svw_of ?h2); (case h1 => repeat' (first | exact trivial | exact rfl | exact zas rfl | apply zam)); (case h2 => repeat' (first | ((with_reducible refine (?_ : CW _ _)); first | exact cw_gnil | exact cw_rfl _ | exact cw_niln _ _ | exact cw_cap _ _ _ _) | exact trivial | (show _ ∧ SWL _ _; apply zam) | (show _ ∧ CWL _ _; apply zam) | show CW _ _)))
 | fail)
  · rename_i h0
    rw [zba] at h0
    have hn := wi_iff.1 h0
    have h1 := rchk_spec (pn0 g q b s n) (some n.toNat) (wk_pn0 g q b s n hb hn.2)
    have h2 := rlimited_spec ⟨g, q, b, s, 0, zaY n.toNat 0, 0, 1, 0, false⟩ (some n.toNat)
    have hlq : lim ⟨g, q, b, s, 0, zaY n.toNat 0, 0, 1, 0, false⟩ = !decide (q = 4611686018427387904) := rfl
    rw [hlq] at h2
    generalize pck (pn0 g q b s n) = r at *
    simp only [plt, plc, pn0, zaR] at h1 h2
    by_cases hq : q = 4611686018427387904
    · simp only [hq, if_true] at h1 h2
      subst hq
      cases r with
      | true =>
        simp only [zaW, if_false, pre, plt, plc, pn0, zaR, if_true]
        refine fnspec_of mixed TT_ok TT_cl ⟨fun _ => false, fun _ => [], 0, fun _ => false, fun _ => false⟩ Tryz.func74 rfl (by kernel_rfl) rfl 33 rfl [.cell 10 43, .tmp 11] rfl ?_
        simp only [go_sem, zaa, zae, zaf, zag, zah, zad, ↓reduceIte, reduceCtorEq, zab, zac, zai, zaj, zak]
        repeat' (first
 | with_reducible refine zam ?_ ?_
 | (apply cl_plain
    case hs => rfl
    case ha => (simp only [zan, zao, prepV, prepC, idx, hpL', lookR, zaa, if_true, if_false]; rfl)
    case h => (first | exact rin_spec .. | exact h1 .. | exact h2 ..))
 | (apply cl_show
    case ha => (simp only [zan, zao, prepV, prepC, idx, hpL', lookR, zaa, if_true, if_false]; rfl)
    case hs => ((simp [snaps, zbd, zaA, idx, hpL', lookR]) <;> (repeat' apply zam) <;> exact Ints_isG _)
    case h => (first | exact rin_spec .. | exact h1 .. | exact h2 ..)
    case hg => ((simp [zbi, zbe, zaZ]) <;> (repeat' apply zam) <;> exact Ints_noG _))
 | ((first | refine s1_id ?_ | refine swp_id ?_ | refine sops_id ?_ | refine s2_id ?_); simp only [h0, go_sem, zaa, zae, zaf, zag, zah, zad, ↓reduceIte, reduceCtorEq, zab, zac, zai, zaj, zak, zaB, zaD, zax, zaC, renO, bk, back, outUpsFrom, Ints_ren])
 | (intros; omega)
 | (intros; (try simp only [zau, zaw, zav, zat, zaq, zar, decide_eq_true_eq, decide_eq_false_iff_not] at *); omega))
        (refine fs_frz 10 ⟨Ints (zaY n.toNat 0), 1⟩ (by simp only [zaP, lookR, zaa, if_true, if_false, ↓reduceIte]) (by first | exact Ints_isG _ | exact Bools_isG _ | (simp [Cell.isG]; done)) ?_; simp only [frzTm, SV.frz, SV.frzL, Cell.frz, frzHp, frzO, Ints_frz, Bools_frz, zan, zao, zaa, if_true, if_false, ↓reduceIte])
        repeat' (first
 | (refine fs_w ?h1 (svw_of ?h2); (case h1 => repeat' (first | exact trivial | exact rfl | exact zas rfl | apply zam)); (case h2 => repeat' (first | ((with_reducible refine (?_ : CW _ _)); first | exact cw_gnil | exact cw_rfl _ | exact cw_niln _ _ | exact cw_cap _ _ _ _) | exact trivial | (show _ ∧ SWL _ _; apply zam) | (show _ ∧ CWL _ _; apply zam) | show CW _ _)))
 | fail)
      | false =>
        simp only [if_true, pre, plt, plc, pz]
        refine fnspec_of mixed TT_ok TT_cl ⟨fun _ => false, fun _ => [], 0, fun _ => false, fun _ => false⟩ Tryz.func74 rfl (by kernel_rfl) rfl 33 rfl [.cell 10 43, .tmp 11] rfl ?_
        simp only [go_sem, zaa, zae, zaf, zag, zah, zad, ↓reduceIte, reduceCtorEq, zab, zac, zai, zaj, zak]
        repeat' (first
 | with_reducible refine zam ?_ ?_
 | (apply cl_plain
    case hs => rfl
    case ha => (simp only [zan, zao, prepV, prepC, idx, hpL', lookR, zaa, if_true, if_false]; rfl)
    case h => (first | exact rin_spec .. | exact h1 .. | exact h2 ..))
 | (apply cl_show
    case ha => (simp only [zan, zao, prepV, prepC, idx, hpL', lookR, zaa, if_true, if_false]; rfl)
    case hs => ((simp [snaps, zbd, zaA, idx, hpL', lookR]) <;> (repeat' apply zam) <;> exact Ints_isG _)
    case h => (first | exact rin_spec .. | exact h1 .. | exact h2 ..)
    case hg => ((simp [zbi, zbe, zaZ]) <;> (repeat' apply zam) <;> exact Ints_noG _))
 | ((first | refine s1_id ?_ | refine swp_id ?_ | refine sops_id ?_ | refine s2_id ?_); simp only [h0, go_sem, zaa, zae, zaf, zag, zah, zad, ↓reduceIte, reduceCtorEq, zab, zac, zai, zaj, zak, zaB, zaD, zax, zaC, renO, bk, back, outUpsFrom, Ints_ren])
 | (intros; omega)
 | (intros; (try simp only [zau, zaw, zav, zat, zaq, zar, decide_eq_true_eq, decide_eq_false_iff_not] at *); omega))
        repeat' (first
 | (refine fs_w ?h1 (svw_of ?h2); (case h1 => repeat' (first | exact trivial | exact rfl | exact zas rfl | apply zam)); (case h2 => repeat' (first | ((with_reducible refine (?_ : CW _ _)); first | exact cw_gnil | exact cw_rfl _ | exact cw_niln _ _ | exact cw_cap _ _ _ _) | exact trivial | (show _ ∧ SWL _ _; apply zam) | (show _ ∧ CWL _ _; apply zam) | show CW _ _)))
 | fail)
    · simp only [hq, if_false, decide_false, zbf] at h1 h2
      cases r with
      | true =>
        simp only [zaW, if_false, pre, plt, plc, pn0, zaR, hq]
        refine fnspec_of mixed TT_ok TT_cl ⟨fun _ => false, fun _ => [], 0, fun _ => false, fun _ => false⟩ Tryz.func74 rfl (by kernel_rfl) rfl 33 rfl [.cell 10 43, .tmp 11] rfl ?_
        simp only [go_sem, zaa, zae, zaf, zag, zah, zad, ↓reduceIte, reduceCtorEq, zab, zac, zai, zaj, zak]
        repeat' (first
 | with_reducible refine zam ?_ ?_
 | (apply cl_plain
    case hs => rfl
    case ha => (simp only [zan, zao, prepV, prepC, idx, hpL', lookR, zaa, if_true, if_false]; rfl)
    case h => (first | exact rin_spec .. | exact h1 .. | exact h2 ..))
 | (apply cl_show
    case ha => (simp only [zan, zao, prepV, prepC, idx, hpL', lookR, zaa, if_true, if_false]; rfl)
    case hs => ((simp [snaps, zbd, zaA, idx, hpL', lookR]) <;> (repeat' apply zam) <;> exact Ints_isG _)
    case h => (first | exact rin_spec .. | exact h1 .. | exact h2 ..)
    case hg => ((simp [zbi, zbe, zaZ]) <;> (repeat' apply zam) <;> exact Ints_noG _))
 | ((first | refine s1_id ?_ | refine swp_id ?_ | refine sops_id ?_ | refine s2_id ?_); simp only [h0, go_sem, zaa, zae, zaf, zag, zah, zad, ↓reduceIte, reduceCtorEq, zab, zac, zai, zaj, zak, zaB, zaD, zax, zaC, renO, bk, back, outUpsFrom, Ints_ren])
 | (intros; omega)
 | (intros; (try simp only [zau, zaw, zav, zat, zaq, zar, decide_eq_true_eq, decide_eq_false_iff_not] at *); omega))
        (refine fs_frz 10 ⟨Ints (zaY n.toNat 0), 1⟩ (by simp only [zaP, lookR, zaa, if_true, if_false, ↓reduceIte]) (by first | exact Ints_isG _ | exact Bools_isG _ | (simp [Cell.isG]; done)) ?_; simp only [frzTm, SV.frz, SV.frzL, Cell.frz, frzHp, frzO, Ints_frz, Bools_frz, zan, zao, zaa, if_true, if_false, ↓reduceIte])
        repeat' (first
 | (refine fs_w ?h1 (svw_of ?h2); (case h1 => repeat' (first | exact trivial | exact rfl | exact zas rfl | apply zam)); (case h2 => repeat' (first | ((with_reducible refine (?_ : CW _ _)); first | exact cw_gnil | exact cw_rfl _ | exact cw_niln _ _ | exact cw_cap _ _ _ _) | exact trivial | (show _ ∧ SWL _ _; apply zam) | (show _ ∧ CWL _ _; apply zam) | show CW _ _)))
 | fail)
      | false =>
        simp only [if_true, pre, plt, plc, pz]
        refine fnspec_of mixed TT_ok TT_cl ⟨fun _ => false, fun _ => [], 0, fun _ => false, fun _ => false⟩ Tryz.func74 rfl (by kernel_rfl) rfl 33 rfl [.cell 10 43, .tmp 11] rfl ?_
        simp only [go_sem, zaa, zae, zaf, zag, zah, zad, ↓reduceIte, reduceCtorEq, zab, zac, zai, zaj, zak]
        repeat' (first
 | with_reducible refine zam ?_ ?_
 | (apply cl_plain
    case hs => rfl
    case ha => (simp only [zan, zao, prepV, prepC, idx, hpL', lookR, zaa, if_true, if_false]; rfl)
    case h => (first | exact rin_spec .. | exact h1 .. | exact h2 ..))
 | (apply cl_show
    case ha => (simp only [zan, zao, prepV, prepC, idx, hpL', lookR, zaa, if_true, if_false]; rfl)
    case hs => ((simp [snaps, zbd, zaA, idx, hpL', lookR]) <;> (repeat' apply zam) <;> exact Ints_isG _)
    case h => (first | exact rin_spec .. | exact h1 .. | exact h2 ..)
    case hg => ((simp [zbi, zbe, zaZ]) <;> (repeat' apply zam) <;> exact Ints_noG _))
 | ((first | refine s1_id ?_ | refine swp_id ?_ | refine sops_id ?_ | refine s2_id ?_); simp only [h0, go_sem, zaa, zae, zaf, zag, zah, zad, ↓reduceIte, reduceCtorEq, zab, zac, zai, zaj, zak, zaB, zaD, zax, zaC, renO, bk, back, outUpsFrom, Ints_ren])
 | (intros; omega)
 | (intros; (try simp only [zau, zaw, zav, zat, zaq, zar, decide_eq_true_eq, decide_eq_false_iff_not] at *); omega))
        repeat' (first
 | (refine fs_w ?h1 (svw_of ?h2); (case h1 => repeat' (first | exact trivial | exact rfl | exact zas rfl | apply zam)); (case h2 => repeat' (first | ((with_reducible refine (?_ : CW _ _)); first | exact cw_gnil | exact cw_rfl _ | exact cw_niln _ _ | exact cw_cap _ _ _ _) | exact trivial | (show _ ∧ SWL _ _; apply zam) | (show _ ∧ CWL _ _; apply zam) | show CW _ _)))
 | fail)
end Go.Proofs.YtcnilpdlcmpbbaaGreat
-- NEWGO
-- PRUNE: cg_tp cg_ts cg_any cg_show cl_use cl_show cl_lendx
namespace Go.Proofs.YtcnilpdlcmpbbaaGreat
set_option linter.unusedVariables false
set_option linter.unusedSimpArgs false
open Go.Proofs.YtcnilpdlcmpbbaaGreat.Sh
set_option maxRecDepth 20000
theorem pck_mk {x y : Pl} (h : pck x = true) (eg : y.g = x.g) (eq : y.q = x.q) (eb : y.b = x.b) (es : y.s = x.s) (el : y.c.length = x.c.length) (h0 : ∀ i, 0 ≤ y.c.getD i 0) (hl : 0 ≤ y.l) (hh : hld y ≤ mst x)
    (hsp : 0 ≤ y.sp ∧ y.sp ≤ 1099511627776) (hpe : 0 ≤ y.pe ∧ y.pe ≤ 1099511627776) (hth : 0 ≤ y.th ∧ y.th ≤ (if y.em = true then y.pe else y.pe - 1)) : pck y = true ∧ mst y = mst x := by
  have hn := pck_iff.1 h
  have em : mst y = mst x := by unfold mst lim; rw [eq, eb]
  have hc := call_of h0 hl (by rw [em]; exact hh)
  refine ⟨?_, em⟩
  rw [pck_iff, eg, eq, eb, es, el]
  exact ⟨hn.1, hn.2.1, hn.2.2.1, hn.2.2.2.1, ⟨hc.1, ⟨hl, hc.2⟩, by rw [em]; exact hh⟩, hsp, hpe, hth⟩
theorem getD_set_ge {c : List Int} {i : Nat} {v : Int} (h0 : ∀ j, 0 ≤ c.getD j 0) (hv : 0 ≤ v) (hi : i < c.length) : ∀ j, 0 ≤ (c.set i v).getD j 0 := fun j => by
  by_cases e : i = j
  · subst e; rw [getD_set_self hi]; exact hv
  · rw [getD_set_ne e]; exact h0 j
theorem pmv_ok {x : Pl} {cpu n : Int} (h : pck x = true) (hc : 0 ≤ cpu ∧ cpu < x.c.length) (hn : n ≤ x.l) (hn2 : 0 ≤ x.c.getD cpu.toNat 0 + n) : pck (pmv x cpu n) = true ∧ hld (pmv x cpu n) = hld x ∧ mst (pmv x cpu n) = mst x := by
  have hN := nums h
  have h0 := fun i => (pck_all h i).1
  have hi : cpu.toNat < x.c.length := by omega
  have hh : hld (pmv x cpu n) = hld x := by
    simp only [hld, pmv]
    rw [tot_set hi]; omega
  have := pck_mk (y := pmv x cpu n) h rfl rfl rfl rfl (by simp [pmv]) (getD_set_ge h0 hn2 hi) (by simp only [pmv]; omega) (by rw [hh]; exact hN.h) hN.sp hN.pe hN.th
  exact ⟨this.1, hh, this.2⟩
theorem ptk_ok {x : Pl} {cpu : Int} (h : pck x = true) (hc : 0 ≤ cpu ∧ cpu < x.c.length) : pck (ptk x cpu) = true ∧ hld (ptk x cpu) = hld x ∧ mst (ptk x cpu) = mst x := by
  have hN := nums h
  have h1 := hN.s
  have h2 := hN.l
  have h3 := pck_all h cpu.toNat
  have h4 : 0 ≤ mn x.s x.l ∧ mn x.s x.l ≤ x.l := by unfold mn; split <;> omega
  exact pmv_ok h hc (by omega) (by omega)
theorem pret_ok {x : Pl} {cpu : Int} (h : pck x = true) (hc : 0 ≤ cpu ∧ cpu < x.c.length) : pck (pret x cpu) = true ∧ hld (pret x cpu) = hld x ∧ mst (pret x cpu) = mst x := by
  have h3 := pck_all h cpu.toNat
  have hN := nums h
  have h2 := hN.l
  have e : pmv x cpu (0 - x.c.getD cpu.toNat 0) = pret x cpu := by
    simp only [pmv, pret]
    congr 1
    · omega
    · congr 1; omega
  rw [← e]
  exact pmv_ok h hc (by omega) (by omega)
theorem pfil_ok {x : Pl} (h : pck x = true) (hp : x.pe ≠ 1099511627776) : pck (pfil x) = true ∧ hld (pfil x) = (if lim x = true then mn (hld x + x.q) (mst x) else 0) ∧ mst (pfil x) = mst x := by
  have hN := nums h
  have h0 := fun i => (pck_all h i).1
  have h1 := hN.pe
  have h2 := hN.th
  have h3 := hN.h
  have h4 := hN.l
  have h5 := hN.st
  have h6 := hld_ge h
  have hm := hN.m
  have hh : hld (pfil x) = (if lim x = true then mn (hld x + x.q) (mst x) else 0) := by
    have : hld (pfil x) = hld x + (if lim x = true then mn x.q (mst x - hld x) else 0) := by simp only [hld, pfil]; omega
    rw [this]
    cases hx : lim x with
    | true => simp only [if_true, mn]; split <;> split <;> omega
    | false =>
      have : mst x = 0 := by simp [mst, hx]
      simp only [Bool.false_eq_true, if_false]; omega
  have hle : hld (pfil x) ≤ mst x := by
    rw [hh]; split
    · have := mn_le (hld x + x.q) (mst x); omega
    · omega
  have := pck_mk (y := pfil x) h rfl rfl rfl rfl rfl h0 (by
    show 0 ≤ x.l + (if lim x = true then mn x.q (mst x - hld x) else 0)
    split
    · have : 0 ≤ mn x.q (mst x - hld x) := by unfold mn; split <;> omega
      omega
    · omega) hle ⟨Int.le_refl _, by simp [pfil]⟩ (by simp only [pfil]; omega) (by
      show 0 ≤ x.th ∧ x.th ≤ (if false = true then x.pe + 1 else x.pe + 1 - 1)
      simp only [Bool.false_eq_true, if_false]
      split at h2 <;> omega)
  exact ⟨this.1, hh, this.2⟩
theorem msp_rng {x : Pl} (h : pck x = true) : 0 ≤ msp x ∧ msp x ≤ 1099511627776 := by
  have := (nums h).sp
  unfold msp mn; split <;> omega
theorem pdec_ok {x : Pl} {cpu : Int} (h : pck x = true) (hc : 0 ≤ cpu ∧ cpu < x.c.length) (h1 : 1 ≤ x.c.getD cpu.toNat 0) : pck (pdec x cpu) = true ∧ hld (pdec x cpu) = hld x - 1 ∧ mst (pdec x cpu) = mst x := by
  have hN := nums h
  have h0 := fun i => (pck_all h i).1
  have hi : cpu.toNat < x.c.length := by omega
  have hh : hld (pdec x cpu) = hld x - 1 := by
    simp only [hld, pdec]
    rw [tot_set hi]; omega
  have := pck_mk (y := pdec x cpu) h rfl rfl rfl rfl (by simp [pdec]) (getD_set_ge h0 (by omega) hi) hN.l.1 (by rw [hh]; have := hN.h; omega) (msp_rng h) hN.pe hN.th
  exact ⟨this.1, hh, this.2⟩
theorem pemp_ok {x : Pl} (h : pck x = true) : pck (pemp x) = true ∧ hld (pemp x) = hld x ∧ mst (pemp x) = mst x := by
  have hN := nums h
  have h0 := fun i => (pck_all h i).1
  have := pck_mk (y := pemp x) h rfl rfl rfl rfl rfl h0 hN.l.1 hN.h hN.sp hN.pe (by
    have h2 := hN.th
    simp only [pemp, if_true]
    split at h2
    · rename_i e; rw [if_pos e]; omega
    · rename_i e; rw [if_neg e]; omega)
  exact ⟨this.1, rfl, this.2⟩
theorem psp_ok {x : Pl} (h : pck x = true) : pck { x with sp := msp x } = true ∧ hld { x with sp := msp x } = hld x ∧ mst { x with sp := msp x } = mst x := by
  have hN := nums h
  have h0 := fun i => (pck_all h i).1
  have := pck_mk (y := { x with sp := msp x }) h rfl rfl rfl rfl rfl h0 hN.l.1 hN.h (msp_rng h) hN.pe hN.th
  exact ⟨this.1, rfl, this.2⟩
theorem pchk_in {x : Pl} {cpu : Int} (h : pck x = true) (hc : 0 ≤ cpu ∧ cpu < x.c.length) : pchk x cpu = 0 := by
  unfold pchk
  rw [if_neg (by simp [h]), if_neg (by rw [zba, wi_iff]; omega)]
theorem pspend_ok {x : Pl} {cpu : Int} (h : pck x = true) (hc : 0 ≤ cpu ∧ cpu < x.c.length) :
    pck (pspend x cpu).1 = true ∧ mst (pspend x cpu).1 = mst x ∧ (((pspend x cpu).2 = 0 ∧ hld (pspend x cpu).1 = hld x - (if lim x = true then 1 else 0) ∧ (pspend x cpu).1.sp = msp x ∧ (lim x = false ∨ x.l + x.c.getD cpu.toNat 0 ≠ 0)) ∨ ((pspend x cpu).2 = 11 ∧ hld (pspend x cpu).1 = hld x ∧ lim x = true ∧ x.l + x.c.getD cpu.toNat 0 = 0 ∧ (pspend x cpu).1 = pemp x)) := by
  have h0 := pchk_in h hc
  have h3 := pck_all h cpu.toNat
  unfold pspend
  rw [if_neg (by simp [h0])]
  cases hx : lim x with
  | false =>
    have := psp_ok h
    rw [if_pos rfl]
    exact ⟨this.1, this.2.2, .inl ⟨rfl, by rw [this.2.1]; simp, rfl, .inl rfl⟩⟩
  | true =>
    rw [if_neg (by simp)]
    split
    · rename_i hr
      have := pemp_ok h
      exact ⟨this.1, this.2.2, .inr ⟨rfl, this.2.1, rfl, hr, rfl⟩⟩
    · rename_i hr
      split
      · rename_i hz
        have ht := ptk_ok h hc
        have hl := (nums h).l
        have hs := (nums h).s
        have hmn : 1 ≤ mn x.s x.l := by unfold mn; split <;> omega
        have hg : (ptk x cpu).c.getD cpu.toNat 0 = x.c.getD cpu.toNat 0 + mn x.s x.l := getD_set_self (by omega)
        have hlen : (ptk x cpu).c.length = x.c.length := by simp [ptk, pmv]
        have := pdec_ok ht.1 (by rw [hlen]; exact hc) (by rw [hg]; omega)
        exact ⟨this.1, by rw [this.2.2, ht.2.2], .inl ⟨rfl, by rw [this.2.1, ht.2.1]; simp, rfl, .inr hr⟩⟩
      · have := pdec_ok h hc (by omega)
        exact ⟨this.1, this.2.2, .inl ⟨rfl, by rw [this.2.1]; simp, rfl, .inr hr⟩⟩
end Go.Proofs.YtcnilpdlcmpbbaaGreat
-- NEWGO
-- PRUNE: cl_lendx cl_use cl_lend
namespace Go.Proofs.YtcnilpdlcmpbbaaGreat
set_option linter.unusedVariables false
set_option linter.unusedSimpArgs false
open Go.Proofs.YtcnilpdlcmpbbaaGreat.Sh
set_option maxRecDepth 20000
abbrev r1 (n : Int) : SV := .one (.sc (.int .i32 n))
def ixQ (q : UInt8 → Bool) : Str → Nat → Int
  | [], _ => -1
  | b :: r, i => if q b = true then (i : Int) else ixQ q r (i + 1)
theorem ixQ_any (q : UInt8 → Bool) : ∀ s i, decide (0 ≤ ixQ q s i) = s.any q
  | [], i => rfl
  | b :: r, i => by
    unfold ixQ
    by_cases h : q b = true
    · rw [if_pos h, List.any_cons, h, decide_eq_true (by omega)]; rfl
    · rw [if_neg h, List.any_cons, Bool.eq_false_iff.2 h, ixQ_any q r (i + 1)]; rfl
theorem drop_at (s : Str) (i : Nat) (b : UInt8) (h : s[i]? = some b) : s.drop i = b :: s.drop (i + 1) := by
  obtain ⟨hl, e⟩ := List.getElem?_eq_some_iff.1 h
  rw [List.drop_eq_getElem_cons hl, e]
set_option maxHeartbeats 4000000 in
theorem indexF_spec (g : FuncId) (p : Int → Bool) (q : UInt8 → Bool) (hg : ∀ r : Int, 0 ≤ r ∧ r ≤ 2147483647 → FnSpec Tryz.prog g [r1 r] [] (b1 (p r)) []) (hlo : ∀ b : UInt8, b.toNat < 128 → p (b.toNat : Int) = q b) (hhi : ∀ r : Int, 128 ≤ r → p r = true) (hq : ∀ b : UInt8, 128 ≤ b.toNat → q b = true)
    (s : Str) (hs : s.length ≤ 9223372036854775807) : FnSpec Tryz.prog 114 [s1 s, .one (.fn g []), b1 true] [] (i1 (ixQ q s 0)) [] := by
  refine fnspec_of mixed TT_ok TT_cl ⟨fun _ => false, fun _ => [], 0, fun _ => false, fun _ => false⟩ Tryz.func114 rfl (by kernel_rfl) rfl 21 rfl [.tmp 6] rfl ?_
  simp only [go_sem, zaa, zae, zaf, zag, zah, zad, ↓reduceIte, reduceCtorEq, zab, zac, zai, zaj, zak]
  repeat' (first
 | (intros; (try simp only [zau, zaw, zav, zat, zaq, zar, decide_eq_true_eq, decide_eq_false_iff_not] at *); omega))
  refine w_loop (ι := Nat) (fun i => ⟨[(1, .one (.fn g [])), (2, b1 true), (10, .one (.mp 0 true))], [(0, some ⟨[st s, int i, bool true], 0⟩)], 1⟩) (fun i => i ≤ s.length ∧ ixQ q s 0 = ixQ q (s.drop i) i) (fun i => s.length - i) 0 ?_ ⟨zaU _, rfl⟩ ?_
  · (refine imp_ren _ _ _ [(0, 2, ⟨[st s, int 0, Sh.bool true], 0⟩)] (by simp) (by simp) (by simp) (zas rfl) ?_ rfl (by simp only [zal, zap, false_implies, implies_true, and_true, zaP, lookR, zaa, if_true, if_false, ↓reduceIte] <;> (repeat' apply zam) <;> (first | rfl | trivial)) (by simp only [zal, zap, false_implies, implies_true, and_true, true_and, flat_cons, flat_nil, flat_ints, flat_bools, flat_app, zaA, and_self, eq_self_iff_true, zay]); simp only [zan, zao, zal, zap, false_implies, implies_true, and_true, lk, slot, zaB, zax, toN, zaa, if_true, if_false, ↓reduceIte, reduceCtorEq])
    all_goals ((repeat' apply zam) <;> (first | rfl | trivial))
  rintro i ⟨hi, he⟩
  simp only at hi he ⊢
  rcases zaX i s.length with hlt | hge
  case inr =>
    have hlt' : ¬ (i : Int) < (s.length : Int) := by omega
    rw [List.drop_of_length_le hge] at he
    rw [he]
    simp only [go_sem, zaa, zae, zaf, zag, zah, zad, ↓reduceIte, reduceCtorEq, zab, zac, zai, zaj, zak, decide_eq_false hlt', ixQ]
    repeat' (first
 | with_reducible refine zam ?_ ?_
 | (intros; omega)
 | exact fs_nil trivial rfl
 | fail)
  have hlt' : (i : Int) < (s.length : Int) := by omega
  obtain ⟨b, hb⟩ : ∃ b, s[i]? = some b := ⟨_, List.getElem?_eq_getElem hlt⟩
  rw [drop_at s i b hb, ixQ] at he
  by_cases h128 : b.toNat < 128
  · have hd := bs_dec s i b hb h128
    have hc := hg b.toNat (by omega)
    rw [hlo b h128] at hc
    cases hqb : q b with
    | true =>
      rw [hqb] at hc he
      simp only [if_true] at he
      rw [he]
      simp only [go_sem, zaa, zae, zaf, zag, zah, zad, ↓reduceIte, reduceCtorEq, zab, zac, zai, zaj, zak, decide_eq_true hlt', hd]
      repeat' (first
 | with_reducible refine zam ?_ ?_
 | (apply cl_plain
    case hs => rfl
    case ha => (simp only [zan, zao, prepV, prepC, idx, hpL', lookR, zaa, if_true, if_false]; rfl)
    case h => (first | exact hc ..))
 | ((first | refine s1_id ?_ | refine swp_id ?_ | refine sops_id ?_ | refine s2_id ?_); simp only [decide_eq_true hlt', hd, go_sem, zaa, zae, zaf, zag, zah, zad, ↓reduceIte, reduceCtorEq, zab, zac, zai, zaj, zak, zaB, zaD, zax, zaC, renO, bk, back, outUpsFrom, Ints_ren])
 | (intros; omega)
 | exact fs_nil trivial rfl
 | fail)
    | false =>
      rw [hqb] at hc he
      simp only [Bool.false_eq_true, if_false] at he
      simp only [go_sem, zaa, zae, zaf, zag, zah, zad, ↓reduceIte, reduceCtorEq, zab, zac, zai, zaj, zak, decide_eq_true hlt', hd]
      repeat' (first
 | with_reducible refine zam ?_ ?_
 | (apply cl_plain
    case hs => rfl
    case ha => (simp only [zan, zao, prepV, prepC, idx, hpL', lookR, zaa, if_true, if_false]; rfl)
    case h => (first | exact hc ..))
 | ((first | refine s1_id ?_ | refine swp_id ?_ | refine sops_id ?_ | refine s2_id ?_); simp only [decide_eq_true hlt', hd, go_sem, zaa, zae, zaf, zag, zah, zad, ↓reduceIte, reduceCtorEq, zab, zac, zai, zaj, zak, zaB, zaD, zax, zaC, renO, bk, back, outUpsFrom, Ints_ren])
 | (intros; omega)
 | (intros; (try simp only [zau, zaw, zav, zat, zaq, zar, decide_eq_true_eq, decide_eq_false_iff_not] at *); omega))
      refine le_mk (i + 1) ?_ ⟨by omega, he⟩ (by omega)
      (refine imp_ren _ _ _ [(0, 0, ⟨[st s, int ((i + 1 : Nat) : Int), Sh.bool true], 0⟩)] (by simp) (by simp) (by simp) (zas rfl) ?_ rfl (by simp only [zal, zap, false_implies, implies_true, and_true, zaP, lookR, zaa, if_true, if_false, ↓reduceIte, zaz] <;> (repeat' apply zam) <;> (first | rfl | trivial)) (by simp only [zal, zap, false_implies, implies_true, and_true, true_and, flat_cons, flat_nil, flat_ints, flat_bools, flat_app, zaA, and_self, eq_self_iff_true, zay, zaz]); simp only [zan, zao, zal, zap, false_implies, implies_true, and_true, lk, slot, zaB, zax, toN, zaa, if_true, if_false, ↓reduceIte, reduceCtorEq])
      all_goals ((repeat' apply zam) <;> (first | rfl | trivial | (simp only [zaz]; done) | (simp only [zaz]; rfl) | (simp only [zaz]; trivial)))
  · have hd := bs_high s i b hb (by omega)
    have hle := bs_le s i
    have hc := hg (Utf8.decode (bs s) i).1 (by omega)
    rw [hhi _ (by omega)] at hc
    rw [hq b (by omega), if_pos rfl] at he
    rw [he]
    simp only [go_sem, zaa, zae, zaf, zag, zah, zad, ↓reduceIte, reduceCtorEq, zab, zac, zai, zaj, zak, decide_eq_true hlt']
    repeat' (first
 | with_reducible refine zam ?_ ?_
 | (apply cl_plain
    case hs => rfl
    case ha => (simp only [zan, zao, prepV, prepC, idx, hpL', lookR, zaa, if_true, if_false]; rfl)
    case h => (first | exact hc ..))
 | ((first | refine s1_id ?_ | refine swp_id ?_ | refine sops_id ?_ | refine s2_id ?_); simp only [decide_eq_true hlt', go_sem, zaa, zae, zaf, zag, zah, zad, ↓reduceIte, reduceCtorEq, zab, zac, zai, zaj, zak, zaB, zaD, zax, zaC, renO, bk, back, outUpsFrom, Ints_ren])
 | (intros; omega)
 | exact fs_nil trivial rfl
 | fail)
theorem indexFn_spec (g : FuncId) (p : Int → Bool) (q : UInt8 → Bool) (hg : ∀ r : Int, 0 ≤ r ∧ r ≤ 2147483647 → FnSpec Tryz.prog g [r1 r] [] (b1 (p r)) []) (hlo : ∀ b : UInt8, b.toNat < 128 → p (b.toNat : Int) = q b) (hhi : ∀ r : Int, 128 ≤ r → p r = true) (hq : ∀ b : UInt8, 128 ≤ b.toNat → q b = true)
    (s : Str) (hs : s.length ≤ 9223372036854775807) : FnSpec Tryz.prog 113 [s1 s, .one (.fn g [])] [] (i1 (ixQ q s 0)) [] := by
  have h1 := indexF_spec g p q hg hlo hhi hq s hs
  refine fnspec_of mixed TT_ok TT_cl ⟨fun _ => false, fun _ => [], 0, fun _ => false, fun _ => false⟩ Tryz.func113 rfl (by kernel_rfl) rfl 8 rfl [.tmp 4] rfl ?_
  simp only [go_sem, zaa, zae, zaf, zag, zah, zad, ↓reduceIte, reduceCtorEq, zab, zac, zai, zaj, zak]
  repeat' (first
 | (apply cl_plain
    case hs => rfl
    case ha => (simp only [zan, zao, prepV, prepC, idx, hpL', lookR, zaa, if_true, if_false]; rfl)
    case h => (first | exact h1 ..))
 | ((first | refine s1_id ?_ | refine swp_id ?_ | refine sops_id ?_ | refine s2_id ?_); simp only [go_sem, zaa, zae, zaf, zag, zah, zad, ↓reduceIte, reduceCtorEq, zab, zac, zai, zaj, zak, zaB, zaD, zax, zaC, renO, bk, back, outUpsFrom, Ints_ren])
 | exact fs_nil trivial rfl
 | fail)
theorem contF_spec (g : FuncId) (p : Int → Bool) (q : UInt8 → Bool) (hg : ∀ r : Int, 0 ≤ r ∧ r ≤ 2147483647 → FnSpec Tryz.prog g [r1 r] [] (b1 (p r)) []) (hlo : ∀ b : UInt8, b.toNat < 128 → p (b.toNat : Int) = q b) (hhi : ∀ r : Int, 128 ≤ r → p r = true) (hq : ∀ b : UInt8, 128 ≤ b.toNat → q b = true)
    (s : Str) (hs : s.length ≤ 9223372036854775807) : FnSpec Tryz.prog 112 [s1 s, .one (.fn g [])] [] (b1 (s.any q)) [] := by
  have h1 := indexFn_spec g p q hg hlo hhi hq s hs
  rw [← ixQ_any q s 0]
  refine fnspec_of mixed TT_ok TT_cl ⟨fun _ => false, fun _ => [], 0, fun _ => false, fun _ => false⟩ Tryz.func112 rfl (by kernel_rfl) rfl 9 rfl [.tmp 4] rfl ?_
  simp only [go_sem, zaa, zae, zaf, zag, zah, zad, ↓reduceIte, reduceCtorEq, zab, zac, zai, zaj, zak]
  repeat' (first
 | (apply cl_plain
    case hs => rfl
    case ha => (simp only [zan, zao, prepV, prepC, idx, hpL', lookR, zaa, if_true, if_false]; rfl)
    case h => (first | exact h1 ..))
 | ((first | refine s1_id ?_ | refine swp_id ?_ | refine sops_id ?_ | refine s2_id ?_); simp only [go_sem, zaa, zae, zaf, zag, zah, zad, ↓reduceIte, reduceCtorEq, zab, zac, zai, zaj, zak, zaB, zaD, zax, zaC, renO, bk, back, outUpsFrom, Ints_ren])
 | exact fs_nil trivial rfl
 | fail)
def inN (r : Int) : Bool := ((((decide (97 ≤ r) && decide (r ≤ 122)) || (decide (65 ≤ r) && decide (r ≤ 90))) || (decide (48 ≤ r) && decide (r ≤ 57))) || decide (r = 95)) || decide (r = 45)
def okB (b : UInt8) : Bool := inN b.toNat
theorem inN_spec (r : Int) : FnSpec Tryz.prog 111 [r1 r] [] (b1 (inN r)) [] := by
  unfold inN
  refine fnspec_of mixed TT_ok TT_cl ⟨fun _ => false, fun _ => [], 0, fun _ => false, fun _ => false⟩ Tryz.func111 rfl (by kernel_rfl) rfl 33 rfl [.tmp 2] rfl ?_
  simp only [go_sem, zaa, zae, zaf, zag, zah, zad, ↓reduceIte, reduceCtorEq, zab, zac, zai, zaj, zak]
  repeat' (first
 | exact fs_nil trivial rfl
 | fail)
theorem strange_spec (r : Int) : FnSpec Tryz.prog 110 [r1 r] [] (b1 (!inN r)) [] := by
  have h1 := inN_spec r
  refine fnspec_of mixed TT_ok TT_cl ⟨fun _ => false, fun _ => [], 0, fun _ => false, fun _ => false⟩ Tryz.func110 rfl (by kernel_rfl) rfl 6 rfl [.tmp 2] rfl ?_
  simp only [go_sem, zaa, zae, zaf, zag, zah, zad, ↓reduceIte, reduceCtorEq, zab, zac, zai, zaj, zak]
  repeat' (first
 | (apply cl_plain
    case hs => rfl
    case ha => (simp only [zan, zao, prepV, prepC, idx, hpL', lookR, zaa, if_true, if_false]; rfl)
    case h => (first | exact h1 ..))
 | ((first | refine s1_id ?_ | refine swp_id ?_ | refine sops_id ?_ | refine s2_id ?_); simp only [go_sem, zaa, zae, zaf, zag, zah, zad, ↓reduceIte, reduceCtorEq, zab, zac, zai, zaj, zak, zaB, zaD, zax, zaC, renO, bk, back, outUpsFrom, Ints_ren])
 | exact fs_nil trivial rfl
 | fail)
def nmOk (s : Str) : Bool := decide (1 ≤ (s.length : Int)) && decide ((s.length : Int) ≤ 32) && !decide (((s.headD 0).toNat : Int) = 45) && s.all okB
theorem inN_hi (r : Int) (h : 128 ≤ r) : (!inN r) = true := by
  unfold inN
  simp
  omega
theorem all_any (s : Str) : (!(s.any fun b => !okB b)) = s.all okB := by
  rw [List.all_eq_not_any_not]
theorem valid_spec (s : Str) (hs : s.length ≤ 9223372036854775807) : FnSpec Tryz.prog 108 [s1 s] [] (b1 (nmOk s)) [] := by
  have h1 := contF_spec 110 (fun r => !inN r) (fun b => !okB b) (fun r _ => strange_spec r) (fun b _ => rfl) inN_hi (fun b hb => inN_hi _ (by omega)) s hs
  unfold nmOk
  by_cases ha : 1 ≤ (s.length : Int)
  case neg =>
    simp only [decide_eq_false ha, zaG]
    refine fnspec_of mixed TT_ok TT_cl ⟨fun _ => false, fun _ => [], 0, fun _ => false, fun _ => false⟩ Tryz.func108 rfl (by kernel_rfl) rfl 23 rfl [.tmp 2] rfl ?_
    simp only [go_sem, zaa, zae, zaf, zag, zah, zad, ↓reduceIte, reduceCtorEq, zab, zac, zai, zaj, zak, decide_eq_false ha]
    repeat' (first
 | exact fs_nil trivial rfl
 | fail)
  by_cases hb : (s.length : Int) ≤ 32
  case neg =>
    simp only [decide_eq_true ha, decide_eq_false hb, zaG, zbg]
    refine fnspec_of mixed TT_ok TT_cl ⟨fun _ => false, fun _ => [], 0, fun _ => false, fun _ => false⟩ Tryz.func108 rfl (by kernel_rfl) rfl 23 rfl [.tmp 2] rfl ?_
    simp only [go_sem, zaa, zae, zaf, zag, zah, zad, ↓reduceIte, reduceCtorEq, zab, zac, zai, zaj, zak, decide_eq_true ha, decide_eq_false hb]
    repeat' (first
 | exact fs_nil trivial rfl
 | fail)
  have hd : ((s[Int.toNat 0]?).getD 0) = s.headD 0 := by cases s <;> rfl
  by_cases hc : ((s.headD 0).toNat : Int) = 45
  case pos =>
    simp only [decide_eq_true ha, decide_eq_true hb, decide_eq_true hc, Bool.not_true, zaG, zbg]
    refine fnspec_of mixed TT_ok TT_cl ⟨fun _ => false, fun _ => [], 0, fun _ => false, fun _ => false⟩ Tryz.func108 rfl (by kernel_rfl) rfl 23 rfl [.tmp 2] rfl ?_
    simp only [go_sem, zaa, zae, zaf, zag, zah, zad, ↓reduceIte, reduceCtorEq, zab, zac, zai, zaj, zak, decide_eq_true ha, decide_eq_true hb, hd, decide_eq_true hc]
    repeat' (first
 | with_reducible refine zam ?_ ?_
 | (intros; omega)
 | exact fs_nil trivial rfl
 | fail)
  simp only [decide_eq_true ha, decide_eq_true hb, decide_eq_false hc, zbf, zaS, ← all_any]
  refine fnspec_of mixed TT_ok TT_cl ⟨fun _ => false, fun _ => [], 0, fun _ => false, fun _ => false⟩ Tryz.func108 rfl (by kernel_rfl) rfl 23 rfl [.tmp 2] rfl ?_
  simp only [go_sem, zaa, zae, zaf, zag, zah, zad, ↓reduceIte, reduceCtorEq, zab, zac, zai, zaj, zak, decide_eq_true ha, decide_eq_true hb, hd, decide_eq_false hc]
  repeat' (first
 | with_reducible refine zam ?_ ?_
 | (apply cg_tp
    case hl => rfl
    case ha => (simp only [zan, zao, prepV, prepC, idx, hpL', lookR, zaa, if_true, if_false]; rfl)
    case hs => rfl
    case h => (first | exact h1 ..))
 | ((first | refine s1_id ?_ | refine swp_id ?_ | refine sops_id ?_ | refine s2_id ?_); simp only [decide_eq_true ha, decide_eq_true hb, hd, decide_eq_false hc, go_sem, zaa, zae, zaf, zag, zah, zad, ↓reduceIte, reduceCtorEq, zab, zac, zai, zaj, zak, zaB, zaD, zax, zaC, renO, bk, back, outUpsFrom, Ints_ren])
 | (intros; omega)
 | exact fs_nil trivial rfl
 | fail)
end Go.Proofs.YtcnilpdlcmpbbaaGreat
-- NEWGO
-- PRUNE: cl_lendx cl_use cl_lend
namespace Go.Proofs.YtcnilpdlcmpbbaaGreat
set_option linter.unusedVariables false
set_option linter.unusedSimpArgs false
open Go.Proofs.YtcnilpdlcmpbbaaGreat.Sh
set_option maxRecDepth 20000
theorem inN_fold (r : Int) : (((((decide (97 ≤ r) && decide (r ≤ 122)) || (decide (65 ≤ r) && decide (r ≤ 90))) || (decide (48 ≤ r) && decide (r ≤ 57))) || decide (r = 95)) || decide (r = 45)) = inN r := rfl
set_option maxHeartbeats 4000000 in
theorem rvalid_spec (s : Str) (hs : s.length ≤ 9223372036854775807) : FnSpec Tryz.prog 69 [s1 s] [] (b1 (nmOk s)) [] := by
  unfold nmOk
  by_cases ha : 1 ≤ (s.length : Int)
  case neg =>
    have ha' : (s.length : Int) = 0 := by omega
    simp only [decide_eq_false ha, zaG]
    refine fnspec_of mixed TT_ok TT_cl ⟨fun _ => false, fun _ => [], 0, fun _ => false, fun _ => false⟩ Tryz.func69 rfl (by kernel_rfl) rfl 58 rfl [.tmp 2] rfl ?_
    simp only [go_sem, zaa, zae, zaf, zag, zah, zad, ↓reduceIte, reduceCtorEq, zab, zac, zai, zaj, zak, decide_eq_true ha']
    repeat' (first
 | exact fs_nil trivial rfl
 | fail)
  have ha' : ¬ (s.length : Int) = 0 := by omega
  by_cases hb : (s.length : Int) ≤ 32
  case neg =>
    have hb' : 32 < (s.length : Int) := by omega
    simp only [decide_eq_true ha, decide_eq_false hb, zaG, zbg]
    refine fnspec_of mixed TT_ok TT_cl ⟨fun _ => false, fun _ => [], 0, fun _ => false, fun _ => false⟩ Tryz.func69 rfl (by kernel_rfl) rfl 58 rfl [.tmp 2] rfl ?_
    simp only [go_sem, zaa, zae, zaf, zag, zah, zad, ↓reduceIte, reduceCtorEq, zab, zac, zai, zaj, zak, decide_eq_false ha', decide_eq_true hb']
    repeat' (first
 | exact fs_nil trivial rfl
 | fail)
  have hb' : ¬ 32 < (s.length : Int) := by omega
  have hd : ((s[Int.toNat 0]?).getD 0) = s.headD 0 := by cases s <;> rfl
  by_cases hc : ((s.headD 0).toNat : Int) = 45
  case pos =>
    simp only [decide_eq_true ha, decide_eq_true hb, decide_eq_true hc, Bool.not_true, zaG, zbg]
    refine fnspec_of mixed TT_ok TT_cl ⟨fun _ => false, fun _ => [], 0, fun _ => false, fun _ => false⟩ Tryz.func69 rfl (by kernel_rfl) rfl 58 rfl [.tmp 2] rfl ?_
    simp only [go_sem, zaa, zae, zaf, zag, zah, zad, ↓reduceIte, reduceCtorEq, zab, zac, zai, zaj, zak, decide_eq_false ha', decide_eq_false hb', hd, decide_eq_true hc]
    repeat' (first
 | with_reducible refine zam ?_ ?_
 | (intros; omega)
 | exact fs_nil trivial rfl
 | fail)
  simp only [decide_eq_true ha, decide_eq_true hb, decide_eq_false hc, zbf, zaS]
  refine fnspec_of mixed TT_ok TT_cl ⟨fun _ => false, fun _ => [], 0, fun _ => false, fun _ => false⟩ Tryz.func69 rfl (by kernel_rfl) rfl 58 rfl [.tmp 2] rfl ?_
  simp only [go_sem, zaa, zae, zaf, zag, zah, zad, ↓reduceIte, reduceCtorEq, zab, zac, zai, zaj, zak, decide_eq_false ha', decide_eq_false hb', hd, decide_eq_false hc]
  repeat' (first
 | with_reducible refine zam ?_ ?_
 | (intros; omega)
 | (intros; (try simp only [zau, zaw, zav, zat, zaq, zar, decide_eq_true_eq, decide_eq_false_iff_not] at *); omega))
  refine w_loop (ι := Nat) (fun i => ⟨[(0, s1 s), (3, i1 i)], [], 0⟩) (fun i => i ≤ s.length ∧ s.all okB = (s.drop i).all okB) (fun i => s.length - i) 0 ?_ ⟨zaU _, rfl⟩ ?_
  · (refine imp_sub _ _ _ [] (by simp) (by simp) (by simp) (zaU _) ?_ rfl (by simp); simp only [zal, zap, false_implies, implies_true, and_true, lk, slot, zaB, zax, zaa, if_true, if_false, ↓reduceIte, reduceCtorEq])
    all_goals ((repeat' apply zam) <;> (first | rfl | trivial))
  rintro i ⟨hi, he⟩
  simp only at hi he ⊢
  rcases zaX i s.length with hlt | hge
  case inr =>
    have hlt' : ¬ (i : Int) < (s.length : Int) := by omega
    rw [List.drop_of_length_le hge] at he
    rw [he]
    simp only [go_sem, zaa, zae, zaf, zag, zah, zad, ↓reduceIte, reduceCtorEq, zab, zac, zai, zaj, zak, decide_eq_false hlt', List.all_nil]
    repeat' (first
 | exact fs_nil trivial rfl
 | fail)
  have hlt' : (i : Int) < (s.length : Int) := by omega
  obtain ⟨b, hb2⟩ : ∃ b, s[i]? = some b := ⟨_, List.getElem?_eq_getElem hlt⟩
  rw [drop_at s i b hb2, List.all_cons] at he
  cases hob : okB b with
  | true =>
    rw [hob, zaS] at he
    have hob' : inN (b.toNat : Int) = true := hob
    simp only [go_sem, zaa, zae, zaf, zag, zah, zad, ↓reduceIte, reduceCtorEq, zab, zac, zai, zaj, zak, decide_eq_true hlt', hb2, inN_fold, hob']
    repeat' (first
 | with_reducible refine zam ?_ ?_
 | (intros; omega)
 | (intros; (try simp only [zau, zaw, zav, zat, zaq, zar, decide_eq_true_eq, decide_eq_false_iff_not] at *); omega))
    refine le_mk (i + 1) ?_ ⟨by omega, he⟩ (by omega)
    (refine imp_sub _ _ _ [] (by simp) (by simp) (by simp) (zaU _) ?_ rfl (by simp); simp only [zal, zap, false_implies, implies_true, and_true, lk, slot, zaB, zax, zaa, if_true, if_false, ↓reduceIte, reduceCtorEq])
    all_goals ((repeat' apply zam) <;> (first | rfl | trivial | (simp only [zaz]; done) | (simp only [zaz]; rfl) | (simp only [zaz]; trivial)))
  | false =>
    rw [hob, zaG] at he
    rw [he]
    have hob' : inN (b.toNat : Int) = false := hob
    simp only [go_sem, zaa, zae, zaf, zag, zah, zad, ↓reduceIte, reduceCtorEq, zab, zac, zai, zaj, zak, decide_eq_true hlt', hb2, inN_fold, hob']
    repeat' (first
 | with_reducible refine zam ?_ ?_
 | (intros; omega)
 | exact fs_nil trivial rfl
 | fail)
end Go.Proofs.YtcnilpdlcmpbbaaGreat
-- NEWGO
-- PRUNE: cl_lendx cl_use cl_lend
namespace Go.Proofs.YtcnilpdlcmpbbaaGreat
set_option linter.unusedVariables false
set_option linter.unusedSimpArgs false
open Go.Proofs.YtcnilpdlcmpbbaaGreat.Sh
set_option maxRecDepth 20000
structure Nd where
  i : Int
  p : Int
  nm : Str
  c : Int
  k : Int
  o : Int
theorem Nd.ext' {x y : Nd} (h1 : x.i = y.i) (h2 : x.p = y.p) (h3 : x.nm = y.nm) (h4 : x.c = y.c) (h5 : x.k = y.k) (h6 : x.o = y.o) : x = y := by cases x; cases y; simp only at *; subst h1 h2 h3 h4 h5 h6; rfl
abbrev ndc (x : Nd) : List Cell := [int x.i, int x.p, st x.nm, int x.c, int x.k, int x.o]
instance : Rec Nd := ⟨ndc, 6, ⟨0, 0, [], 0, 0, 0⟩, fun _ => rfl, fun x c h => by
  simp only [ndc, List.mem_cons, zap, or_false] at h
  rcases h with rfl | rfl | rfl | rfl | rfl | rfl <;> rfl⟩
abbrev zn : Nd := ⟨0, 0, [], 0, 0, 0⟩
abbrev gN (l : List Nd) (i : Nat) : Nd := l.getD i zn
abbrev trV (l : List Nd) (k : Option Nat) (n : Int) : SV := .agg [.gsl (Cs l) 0 l.length k, int n]
structure NdR (x : Nd) : Prop where
  nm : x.nm.length ≤ 1000000000
  c : -9223372036854775808 ≤ x.c ∧ x.c ≤ 9223372036854775807
def rngOk (x : Nd) : Bool := decide (0 ≤ x.c) && decide (x.c ≤ 31) && (decide (0 ≤ x.o) && decide (x.o ≤ 1048576))
def rootOk (x : Nd) : Bool := decide (x.i = 1) && decide (x.p = 0) && decide (x.nm = []) && decide (x.k = 0)
def same1 (p : Int) (s : Str) (y : Nd) : Bool := decide (y.p = p) && decide (y.nm = s)
def chOk (l : List Nd) (i : Nat) : Bool :=
  decide ((gN l (i - 1)).i < (gN l i).i) && nmOk (gN l i).nm && (l.take i).any (fun y => decide (y.i = (gN l i).p)) && !(l.take i).any (same1 (gN l i).p (gN l i).nm)
def kdOk (x : Nd) : Bool := decide (x.k = 0) || decide (x.k = 1)
def stOk (l : List Nd) (i : Nat) : Bool := kdOk (gN l i) && rngOk (gN l i) && (if i = 0 then rootOk (gN l 0) else chOk l i)
def upR : List Nd → Int → List Int
  | [], _ => []
  | x :: r, id => if x.i = id then id :: upR r x.p else upR r id
def upL (l : List Nd) (id : Int) : List Int := upR l.reverse id
theorem upR_len : ∀ (l : List Nd) (id : Int), (upR l id).length ≤ l.length
  | [], _ => zbb _
  | x :: r, id => by
    unfold upR
    split
    · rw [zaE, zaE]; have := upR_len r x.p; omega
    · rw [zaE]; have := upR_len r id; omega
def allN (n : Nat) (f : Nat → Bool) : Bool := (List.range n).all f
theorem allN_iff (n : Nat) (f : Nat → Bool) : allN n f = true ↔ ∀ i, i < n → f i = true := by
  simp [allN, List.all_eq_true, List.mem_range]
def chkT (l : List Nd) (n : Int) : Bool :=
  decide (1 ≤ l.length) && decide (l.length ≤ 64) && allN l.length (stOk l) && allN l.length (fun i => decide ((upL l (gN l i).i).length ≤ 9)) && (decide ((gN l (l.length - 1)).i < n) && decide (n ≤ 2147483648))
structure VT (l : List Nd) (n : Int) : Prop where
  ne : 1 ≤ l.length
  le : l.length ≤ 64
  st : ∀ i, i < l.length → stOk l i = true
  dp : ∀ i, i < l.length → (upL l (gN l i).i).length ≤ 9
  nx : (gN l (l.length - 1)).i < n
  mx : n ≤ 2147483648
theorem chkT_iff (l : List Nd) (n : Int) : chkT l n = true ↔ VT l n := by
  unfold chkT
  simp only [zau, decide_eq_true_eq, allN_iff]
  constructor
  · rintro ⟨⟨⟨⟨h1, h2⟩, h3⟩, h4⟩, h5, h6⟩; exact ⟨h1, h2, h3, h4, h5, h6⟩
  · rintro ⟨h1, h2, h3, h4, h5, h6⟩; exact ⟨⟨⟨⟨h1, h2⟩, h3⟩, h4⟩, h5, h6⟩
theorem chkT_not {l : List Nd} {n : Int} (h : ¬ VT l n) : chkT l n = false := Bool.eq_false_iff.2 fun e => h ((chkT_iff l n).1 e)
/-! what a well-formed tree is like -/
theorem stOk_root {l : List Nd} (h : stOk l 0 = true) : (gN l 0).i = 1 ∧ (gN l 0).p = 0 ∧ (gN l 0).nm = [] ∧ (gN l 0).k = 0 := by
  unfold stOk rootOk at h
  simp only [if_pos, zau, decide_eq_true_eq] at h
  obtain ⟨_, ⟨⟨h1, h2⟩, h3⟩, h4⟩ := h
  exact ⟨h1, h2, h3, h4⟩
structure ChP (l : List Nd) (i : Nat) : Prop where
  lt : (gN l (i - 1)).i < (gN l i).i
  nm : nmOk (gN l i).nm = true
  par : ∃ j, j < i ∧ (gN l j).i = (gN l i).p
  new : ∀ j, j < i → ¬ ((gN l j).p = (gN l i).p ∧ (gN l j).nm = (gN l i).nm)
theorem take_any_iff (l : List Nd) (i : Nat) (hi : i ≤ l.length) (f : Nd → Bool) : (l.take i).any f = true ↔ ∃ j, j < i ∧ f (gN l j) = true := by
  rw [List.any_eq_true]
  constructor
  · rintro ⟨x, hx, hf⟩
    obtain ⟨k, hk, rfl⟩ := List.mem_take_iff_getElem.1 hx
    exact ⟨k, by omega, by rw [show gN l k = l[k] from getD_at l k zn (by omega)]; exact hf⟩
  · rintro ⟨j, hj, hf⟩
    exact ⟨gN l j, List.mem_take_iff_getElem.2 ⟨j, by omega, (getD_at l j zn (by omega)).symm⟩, hf⟩
theorem chOk_iff (l : List Nd) (i : Nat) (hi : i < l.length) : chOk l i = true ↔ ChP l i := by
  unfold chOk
  simp only [zau, zav, decide_eq_true_eq]
  rw [take_any_iff l i (zbh hi), Bool.eq_false_iff, ne_eq, take_any_iff l i (zbh hi)]
  unfold same1
  simp only [zau, decide_eq_true_eq]
  constructor
  · rintro ⟨⟨⟨h1, h2⟩, h3⟩, h4⟩
    exact ⟨h1, h2, h3, fun j hj h => h4 ⟨j, hj, h⟩⟩
  · rintro ⟨h1, h2, h3, h4⟩
    exact ⟨⟨⟨h1, h2⟩, h3⟩, fun ⟨j, hj, h⟩ => h4 j hj h⟩
theorem stOk_ch {l : List Nd} {i : Nat} (hi : i < l.length) (h0 : i ≠ 0) (h : stOk l i = true) : ChP l i := by
  unfold stOk at h
  rw [if_neg h0, zau] at h
  exact (chOk_iff l i hi).1 h.2
theorem VT.ch {l : List Nd} {n : Int} (h : VT l n) {i : Nat} (hi : i < l.length) (h0 : i ≠ 0) : ChP l i := stOk_ch hi h0 (h.st i hi)
theorem VT.root {l : List Nd} {n : Int} (h : VT l n) : (gN l 0).i = 1 ∧ (gN l 0).p = 0 ∧ (gN l 0).nm = [] ∧ (gN l 0).k = 0 := stOk_root (h.st 0 h.ne)
def AscI (l : List Nd) : Prop := ∀ i j, i < j → j < l.length → (gN l i).i < (gN l j).i
theorem asc_of_step {l : List Nd} (h : ∀ i, i ≠ 0 → i < l.length → (gN l (i - 1)).i < (gN l i).i) : AscI l := by
  intro i j hij hj
  induction j with
  | zero => omega
  | succ j ih =>
    have h1 := h (j + 1) (by omega) hj
    rw [Nat.add_sub_cancel] at h1
    by_cases e : i = j
    · subst e; exact h1
    · have := ih (by omega) (by omega); omega
theorem VT.asc {l : List Nd} {n : Int} (h : VT l n) : AscI l := asc_of_step fun i h0 hi => (h.ch hi h0).lt
theorem VT.pos {l : List Nd} {n : Int} (h : VT l n) {i : Nat} (hi : i < l.length) : 1 ≤ (gN l i).i := by
  by_cases e : i = 0
  · subst e; have := h.root.1; omega
  · have := h.asc 0 i (by omega) hi; have := h.root.1; omega
theorem VT.lt {l : List Nd} {n : Int} (h : VT l n) {i : Nat} (hi : i < l.length) : (gN l i).i < n := by
  have h1 := h.nx
  by_cases e : i = l.length - 1
  · rw [e]; exact h1
  · have := h.asc i (l.length - 1) (by omega) (by omega); omega
theorem AscI.inj {l : List Nd} (h : AscI l) {i j : Nat} (hi : i < l.length) (hj : j < l.length) (e : (gN l i).i = (gN l j).i) : i = j := by
  rcases Nat.lt_trichotomy i j with c | c | c
  · have := h i j c hj; omega
  · exact c
  · have := h j i c hi; omega
theorem AscI.take {l : List Nd} (h : AscI l) (k : Nat) : AscI (l.take k) := by
  intro i j hij hj
  rw [List.length_take] at hj
  have e : ∀ m, m < k → gN (l.take k) m = gN l m := fun m hm => by
    simp only [gN, List.getD_eq_getElem?_getD, List.getElem?_take_of_lt hm]
  rw [e i (by omega), e j (by omega)]
  exact h i j hij (by omega)
theorem gN_take (l : List Nd) (k m : Nat) (hm : m < k) : gN (l.take k) m = gN l m := by
  simp only [gN, List.getD_eq_getElem?_getD, List.getElem?_take_of_lt hm]
theorem gN_mem (l : List Nd) (x : Nd) (h : x ∈ l) : ∃ i, i < l.length ∧ gN l i = x := by
  obtain ⟨i, hi, e⟩ := List.getElem_of_mem h
  exact ⟨i, hi, by rw [← e]; exact getD_at l i zn hi⟩
/-! the way up -/
theorem upL_snoc (l : List Nd) (x : Nd) (id : Int) : upL (l ++ [x]) id = if x.i = id then id :: upL l x.p else upL l id := by
  rw [upL, List.reverse_append, List.reverse_singleton, zaJ, zaL, upR]; rfl
theorem upL_take (l : List Nd) (i : Nat) (hi : i < l.length) (id : Int) : upL (l.take (i + 1)) id = if (gN l i).i = id then id :: upL (l.take i) (gN l i).p else upL (l.take i) id := by
  rw [take_getD l i zn hi, upL_snoc]
theorem upL_skip (l : List Nd) (id : Int) : ∀ (k : Nat), k ≤ l.length → (∀ j, k ≤ j → j < l.length → (gN l j).i ≠ id) → upL l id = upL (l.take k) id := by
  intro k hk hne
  have : ∀ m, m ≤ l.length - k → upL (l.take (k + m)) id = upL (l.take k) id := by
    intro m
    induction m with
    | zero => intro _; rfl
    | succ m ih =>
      intro hm
      rw [← Nat.add_assoc, upL_take l (k + m) (by omega), if_neg (hne (k + m) (by omega) (by omega)), ih (by omega)]
  have h2 := this (l.length - k) (zbb _)
  rw [show k + (l.length - k) = l.length by omega, List.take_length] at h2
  exact h2
theorem upL_node {l : List Nd} (h : AscI l) {i : Nat} (hi : i < l.length) : upL l (gN l i).i = (gN l i).i :: upL (l.take i) (gN l i).p := by
  rw [upL_skip l (gN l i).i (i + 1) hi (fun j hj hj2 => by have := h i j (by omega) hj2; omega), upL_take l i hi, if_pos rfl]
theorem upL_par {l : List Nd} (h : AscI l) {i j : Nat} (hi : i < l.length) (hj : j < i) : upL (l.take i) (gN l j).i = upL l (gN l j).i := by
  rw [upL_node h (by omega : j < l.length)]
  have := upL_node (h.take i) (i := j) (by rw [List.length_take]; omega)
  rw [gN_take l i j hj, List.take_take, Nat.min_eq_left (zbh hj)] at this
  exact this
theorem VT.up {l : List Nd} {n : Int} (h : VT l n) {i : Nat} (hi : i < l.length) (h0 : i ≠ 0) : upL l (gN l i).i = (gN l i).i :: upL l (gN l i).p := by
  obtain ⟨j, hj, e⟩ := (h.ch hi h0).par
  rw [upL_node h.asc hi, ← e, upL_par h.asc hi hj]
theorem VT.up0 {l : List Nd} {n : Int} (h : VT l n) : upL l 1 = [1] := by
  have := upL_node h.asc (i := 0) h.ne
  rw [h.root.1] at this
  rw [this]; rfl
end Go.Proofs.YtcnilpdlcmpbbaaGreat
-- NEWGO
namespace Go.Proofs.YtcnilpdlcmpbbaaGreat
set_option linter.unusedVariables false
set_option linter.unusedSimpArgs false
open Go.Proofs.YtcnilpdlcmpbbaaGreat.Sh
set_option maxRecDepth 20000
structure VL (l : List Nd) (n : Int) : Prop where
  ne : 1 ≤ l.length
  rt : (gN l 0).i = 1 ∧ (gN l 0).p = 0 ∧ (gN l 0).nm = [] ∧ (gN l 0).k = 0
  le : l.length ≤ 64
  all : ∀ x ∈ l, kdOk x = true ∧ rngOk x = true
  asc : l.Pairwise (fun x y => x.i < y.i)
  ch : ∀ x ∈ l, x.i ≠ 1 → nmOk x.nm = true ∧ ∃ y ∈ l, y.i = x.p ∧ y.i < x.i
  new : l.Pairwise (fun x y => ¬ (x.p = y.p ∧ x.nm = y.nm))
  dp : ∀ x ∈ l, (upL l x.i).length ≤ 9
  nx : ∀ x ∈ l, x.i < n
  mx : n ≤ 2147483648
theorem ascI_iff (l : List Nd) : l.Pairwise (fun x y => x.i < y.i) ↔ AscI l := by
  rw [List.pairwise_iff_getElem]
  constructor
  · intro h i j hij hj
    have := h i j (by omega) hj hij
    rw [show gN l i = l[i] from getD_at l i zn (by omega), show gN l j = l[j] from getD_at l j zn hj]
    exact this
  · intro h i j hi hj hij
    have := h i j hij hj
    rw [show gN l i = l[i] from getD_at l i zn hi, show gN l j = l[j] from getD_at l j zn hj] at this
    exact this
theorem VT.vl {l : List Nd} {n : Int} (h : VT l n) : VL l n where
  ne := h.ne
  rt := h.root
  le := h.le
  all := fun x hx => by
    obtain ⟨i, hi, rfl⟩ := gN_mem l x hx
    have := h.st i hi
    unfold stOk at this
    simp only [zau] at this
    exact this.1
  asc := (ascI_iff l).2 h.asc
  ch := fun x hx h1 => by
    obtain ⟨i, hi, rfl⟩ := gN_mem l x hx
    have h0 : i ≠ 0 := fun e => h1 (by rw [e]; exact h.root.1)
    have hc := h.ch hi h0
    obtain ⟨j, hj, e⟩ := hc.par
    exact ⟨hc.nm, gN l j, getD_mem l j zn (by omega), e, h.asc j i hj hi⟩
  new := by
    rw [List.pairwise_iff_getElem]
    intro i j hi hj hij hh
    have hc := h.ch hj (by omega)
    refine hc.new i hij ?_
    rw [show gN l i = l[i] from getD_at l i zn hi, show gN l j = l[j] from getD_at l j zn hj]
    exact hh
  dp := fun x hx => by
    obtain ⟨i, hi, rfl⟩ := gN_mem l x hx
    exact h.dp i hi
  nx := fun x hx => by
    obtain ⟨i, hi, rfl⟩ := gN_mem l x hx
    exact h.lt hi
  mx := h.mx
theorem VL.vt {l : List Nd} {n : Int} (h : VL l n) : VT l n where
  ne := h.ne
  le := h.le
  st := fun i hi => by
    have hm : gN l i ∈ l := getD_mem l i zn hi
    obtain ⟨h1, h2⟩ := h.all _ hm
    have hA := (ascI_iff l).1 h.asc
    unfold stOk
    rw [h1, h2, zaS, zaS]
    by_cases h0 : i = 0
    · rw [if_pos h0]
      unfold rootOk
      rw [decide_eq_true h.rt.1, decide_eq_true h.rt.2.1, decide_eq_true h.rt.2.2.1, decide_eq_true h.rt.2.2.2]
      rfl
    · rw [if_neg h0, chOk_iff l i hi]
      have hne : (gN l i).i ≠ 1 := by have := hA 0 i (by omega) hi; have := h.rt.1; omega
      obtain ⟨h3, y, hy, e, hlt⟩ := h.ch _ hm hne
      refine ⟨hA (i - 1) i (by omega) hi, h3, ?_, fun j hj hh => ?_⟩
      · obtain ⟨j, hj, rfl⟩ := gN_mem l y hy
        refine ⟨j, ?_, e⟩
        rcases Nat.lt_trichotomy j i with c | c | c
        · exact c
        · rw [c] at hlt; omega
        · have := hA i j c hj; omega
      · have hn := (List.pairwise_iff_getElem.1 h.new) j i (by omega) hi hj
        rw [show gN l i = l[i] from getD_at l i zn hi, show gN l j = l[j] from getD_at l j zn (by omega)] at hh
        exact hn hh
  dp := fun i hi => h.dp _ (getD_mem l i zn hi)
  nx := h.nx _ (getD_mem l _ zn (by have := h.ne; omega))
  mx := h.mx
theorem VL.pos {l : List Nd} {n : Int} (h : VL l n) {x : Nd} (hx : x ∈ l) : 1 ≤ x.i := by
  obtain ⟨i, hi, rfl⟩ := gN_mem l x hx
  exact h.vt.pos hi
theorem VL.inj {l : List Nd} {n : Int} (h : VL l n) {x y : Nd} (hx : x ∈ l) (hy : y ∈ l) (e : x.i = y.i) : x = y := by
  obtain ⟨i, hi, rfl⟩ := gN_mem l x hx
  obtain ⟨j, hj, rfl⟩ := gN_mem l y hy
  rw [((ascI_iff l).1 h.asc).inj hi hj e]
theorem VL.add {l : List Nd} {n : Int} (h : VL l n) {p : Int} {s : Str} (hs : nmOk s = true) (hp : ∃ y ∈ l, y.i = p) (hn : ∀ y ∈ l, ¬ (y.p = p ∧ y.nm = s)) (hd : (upL l p).length ≤ 8) (hl : l.length < 64) (hx : n ≤ 2147483647) :
    VL (l ++ [⟨n, p, s, 0, 0, 0⟩]) (n + 1) where
  ne := by rw [List.length_append]; have := h.ne; omega
  rt := by
    have e : gN (l ++ [⟨n, p, s, 0, 0, 0⟩]) 0 = gN l 0 := by
      have := h.ne
      simp only [gN, List.getD_eq_getElem?_getD]
      rw [List.getElem?_append_left (by omega)]
    rw [e]; exact h.rt
  le := by rw [List.length_append, List.length_singleton]; omega
  all := fun x hx => by
    rcases List.mem_append.1 hx with hx | hx
    · exact h.all x hx
    · rw [List.mem_singleton.1 hx]; exact ⟨rfl, rfl⟩
  asc := List.pairwise_append.2 ⟨h.asc, zbc _ _, fun a ha b hb => by rw [List.mem_singleton.1 hb]; exact h.nx a ha⟩
  ch := fun x hx h1 => by
    rcases List.mem_append.1 hx with hx | hx
    · obtain ⟨h2, y, hy, h3⟩ := h.ch x hx h1
      exact ⟨h2, y, List.mem_append_left _ hy, h3⟩
    · rw [List.mem_singleton.1 hx]
      obtain ⟨y, hy, e⟩ := hp
      exact ⟨hs, y, List.mem_append_left _ hy, e, h.nx y hy⟩
  new := List.pairwise_append.2 ⟨h.new, zbc _ _, fun a ha b hb => by rw [List.mem_singleton.1 hb]; exact hn a ha⟩
  dp := fun x hx => by
    rw [upL_snoc]
    rcases List.mem_append.1 hx with hx | hx
    · have := h.nx x hx
      rw [if_neg (by simp only; omega)]
      exact h.dp x hx
    · rw [List.mem_singleton.1 hx, if_pos rfl, zaE]
      simp only; omega
  nx := fun x hx => by
    rcases List.mem_append.1 hx with hx | hx
    · have := h.nx x hx; omega
    · rw [List.mem_singleton.1 hx]; simp only; omega
  mx := by omega
def rmN (l : List Nd) (id : Int) : List Nd := l.filter fun x => !decide (x.i = id)
theorem rmN_mem (l : List Nd) (id : Int) (x : Nd) : x ∈ rmN l id ↔ x ∈ l ∧ x.i ≠ id := by
  unfold rmN
  rw [List.mem_filter]; simp
theorem upR_rm (id : Int) : ∀ (l : List Nd) (q : Int), q ≠ id → (∀ x ∈ l, x.p ≠ id) → upR (l.filter fun x => !decide (x.i = id)) q = upR l q
  | [], q, _, _ => rfl
  | x :: r, q, hq, hp => by
    have hpr : ∀ y ∈ r, y.p ≠ id := fun y hy => hp y (List.mem_cons_of_mem _ hy)
    by_cases c : x.i = id
    · rw [List.filter_cons_of_neg (by simp [c]), upR_rm id r q hq hpr, upR, if_neg (by omega)]
    · rw [List.filter_cons_of_pos (by simp [c]), upR, upR, upR_rm id r q hq hpr, upR_rm id r x.p (hp x List.mem_cons_self) hpr]
theorem upL_rm (l : List Nd) (id q : Int) (hq : q ≠ id) (hp : ∀ x ∈ l, x.p ≠ id) : upL (rmN l id) q = upL l q := by
  unfold upL rmN
  rw [← List.filter_reverse]
  exact upR_rm id l.reverse q hq fun x hx => hp x (List.mem_reverse.1 hx)
theorem VL.rm {l : List Nd} {n : Int} (h : VL l n) {id : Int} (h1 : id ≠ 1) (hc : ∀ x ∈ l, x.p ≠ id) : VL (rmN l id) n := by
  have hsub : (rmN l id).Sublist l := List.filter_sublist
  have h0 : rmN l id ≠ [] ∧ gN (rmN l id) 0 = gN l 0 := by
    have hne := h.ne
    cases l with
    | nil => simp at hne
    | cons r t =>
      have hr : r.i = 1 := h.rt.1
      have : rmN (r :: t) id = r :: rmN t id := by
        unfold rmN
        rw [List.filter_cons_of_pos]
        simp; omega
      rw [this]
      exact ⟨List.cons_ne_nil _ _, rfl⟩
  exact
  { ne := List.length_pos_iff.2 h0.1
    rt := by rw [h0.2]; exact h.rt
    le := Nat.le_trans hsub.length_le h.le
    all := fun x hx => h.all x (hsub.subset hx)
    asc := h.asc.sublist hsub
    ch := fun x hx hx1 => by
      obtain ⟨h2, y, hy, h3, h4⟩ := h.ch x (hsub.subset hx) hx1
      exact ⟨h2, y, (rmN_mem l id y).2 ⟨hy, by rw [h3]; exact hc x (hsub.subset hx)⟩, h3, h4⟩
    new := h.new.sublist hsub
    dp := fun x hx => by
      rw [upL_rm l id x.i ((rmN_mem l id x).1 hx).2 hc]
      exact h.dp x (hsub.subset hx)
    nx := fun x hx => h.nx x (hsub.subset hx)
    mx := h.mx }
theorem VL_new : VL [⟨1, 0, [], 0, 0, 0⟩] 2 where
  ne := zbb _
  rt := ⟨rfl, rfl, rfl, rfl⟩
  le := by decide
  all := fun x hx => by rw [List.mem_singleton.1 hx]; exact ⟨rfl, rfl⟩
  asc := zbc _ _
  ch := fun x hx h => by rw [List.mem_singleton.1 hx] at h; exact absurd rfl h
  new := zbc _ _
  dp := fun x hx => by rw [List.mem_singleton.1 hx]; decide
  nx := fun x hx => by rw [List.mem_singleton.1 hx]; decide
  mx := by decide
end Go.Proofs.YtcnilpdlcmpbbaaGreat
-- NEWGO
-- PRUNE: cl_lendx cl_use cl_lend
namespace Go.Proofs.YtcnilpdlcmpbbaaGreat
set_option linter.unusedVariables false
set_option linter.unusedSimpArgs false
open Go.Proofs.YtcnilpdlcmpbbaaGreat.Sh
set_option maxRecDepth 20000
theorem andn (x : BitVec 64) : (x &&& ~~~ 31#64 = 0#64) ↔ x.toNat < 32 := by
  constructor
  · intro h
    have h1 : x = x &&& 31#64 := by
      apply BitVec.eq_of_getLsbD_eq
      intro i hi
      have := congrArg (fun y => BitVec.getLsbD y i) h
      simp only [BitVec.getLsbD_and, BitVec.getLsbD_not, BitVec.getLsbD_zero] at this ⊢
      revert this
      cases x.getLsbD i <;> cases (31#64).getLsbD i <;> simp [hi]
    have h2 := congrArg BitVec.toNat h1
    rw [BitVec.toNat_and] at h2
    have h3 : x.toNat &&& 31 = x.toNat % 32 := Nat.and_two_pow_sub_one_eq_mod x.toNat 5
    have h4 : (31#64).toNat = 31 := rfl
    rw [h4, h3] at h2
    omega
  · intro h
    have h1 : x &&& 31#64 = x := by
      apply BitVec.eq_of_toNat_eq
      rw [BitVec.toNat_and]
      have h3 : x.toNat &&& 31 = x.toNat % 32 := Nat.and_two_pow_sub_one_eq_mod x.toNat 5
      have h4 : (31#64).toNat = 31 := rfl
      rw [h4, h3, Nat.mod_eq_of_lt h]
    rw [← h1, BitVec.and_assoc]
    have h5 : 31#64 &&& ~~~ 31#64 = 0#64 := by decide
    rw [h5]; simp
abbrev andN (a : Int) : Int := IntKind.i64.wrap (((BitVec.ofInt 64 a &&& ~~~ BitVec.ofInt 64 31).toNat : Nat) : Int)
theorem andN_iff (a : Int) (h : -9223372036854775808 ≤ a ∧ a ≤ 9223372036854775807) : andN a = 0 ↔ 0 ≤ a ∧ a ≤ 31 := by
  have h1 : BitVec.ofInt 64 31 = 31#64 := by decide
  unfold andN
  rw [h1, IntKind.wrap_i64]
  have h2 := andn (BitVec.ofInt 64 a)
  have h3 : (BitVec.ofInt 64 a).toNat = (a % 18446744073709551616).toNat := by rw [BitVec.toNat_ofInt]; rfl
  have h4 := (BitVec.ofInt 64 a &&& ~~~ 31#64).isLt
  have h5 : (BitVec.ofInt 64 a &&& ~~~ 31#64 = 0#64) ↔ (BitVec.ofInt 64 a &&& ~~~ 31#64).toNat = 0 := by
    constructor
    · intro e; rw [e]; rfl
    · intro e; exact BitVec.eq_of_toNat_eq e
  rw [h5, h3] at h2
  generalize (BitVec.ofInt 64 a &&& ~~~ 31#64).toNat = m at *
  constructor
  · intro e
    have : m = 0 := by omega
    have := h2.1 this
    omega
  · intro e
    have : m = 0 := h2.2 (by omega)
    subst this
    omega
end Go.Proofs.YtcnilpdlcmpbbaaGreat
-- NEWGO
-- PRUNE: cl_lendx cl_use cl_lend
-- ISG: Cs_isG
-- FLAT: Cs_flat
namespace Go.Proofs.YtcnilpdlcmpbbaaGreat
set_option linter.unusedVariables false
set_option linter.unusedSimpArgs false
open Go.Proofs.YtcnilpdlcmpbbaaGreat.Sh
set_option maxRecDepth 20000
theorem nd_td (l : List Nd) (i : Nat) (h : i < l.length) : List.take 6 (List.drop (i * 6) (Cs l)) = ndc (gN l i) := Cs_td l i h
theorem nd_f (l : List Nd) (i : Nat) (h : i < l.length) (d : Cell) : (Cs l).getD (i * 6) d = int (gN l i).i ∧ (Cs l).getD (i * 6 + 1) d = int (gN l i).p ∧ (Cs l).getD (i * 6 + 2) d = st (gN l i).nm ∧ (Cs l).getD (i * 6 + 3) d = int (gN l i).c ∧ (Cs l).getD (i * 6 + 4) d = int (gN l i).k ∧ (Cs l).getD (i * 6 + 5) d = int (gN l i).o :=
  ⟨Cs_fld l i 0 d h (by decide), Cs_fld l i 1 d h (by decide), Cs_fld l i 2 d h (by decide), Cs_fld l i 3 d h (by decide), Cs_fld l i 4 d h (by decide), Cs_fld l i 5 d h (by decide)⟩
theorem nd_len (l : List Nd) : (Cs l).length = l.length * 6 := Cs_len l
theorem gate_eq (xk xc xo : Int) : (!decide (xk = 0) && !decide (xk = 1) || decide (xc < 0) || decide (31 < xc) || decide (xo < 0) || decide (1048576 < xo)) = !((decide (xk = 0) || decide (xk = 1)) && (decide (0 ≤ xc) && decide (xc ≤ 31) && (decide (0 ≤ xo) && decide (xo ≤ 1048576)))) := by
  have e1 : decide (xc < 0) = !decide (0 ≤ xc) := by rw [← decide_not]; exact decide_eq_decide.2 (by omega)
  have e2 : decide (31 < xc) = !decide (xc ≤ 31) := by rw [← decide_not]; exact decide_eq_decide.2 (by omega)
  have e3 : decide (xo < 0) = !decide (0 ≤ xo) := by rw [← decide_not]; exact decide_eq_decide.2 (by omega)
  have e4 : decide (1048576 < xo) = !decide (xo ≤ 1048576) := by rw [← decide_not]; exact decide_eq_decide.2 (by omega)
  rw [e1, e2, e3, e4]
  cases decide (xk = 0) <;> cases decide (xk = 1) <;> cases decide (0 ≤ xc) <;> cases decide (xc ≤ 31) <;> cases decide (0 ≤ xo) <;> cases decide (xo ≤ 1048576) <;> rfl
theorem any_take_succ (l : List Nd) (k : Nat) (h : k < l.length) (f : Nd → Bool) : (l.take (k + 1)).any f = ((l.take k).any f || f (gN l k)) := by
  rw [take_getD l k zn h, List.any_append]; simp
set_option maxHeartbeats 8000000 in
theorem node_spec (l : List Nd) (k : Option Nat) (n : Int) (i : Nat) (hi : i < l.length) (hl : l.length ≤ 1000000) (hnm : (gN l i).nm.length ≤ 1000000000) : FnSpec Tryz.prog 100 [trV l k n, i1 i] [] (b1 (stOk l i)) [] := by
  have hN := nd_td l i hi
  have hnl := nd_len l
  obtain ⟨x, hx⟩ : ∃ x, gN l i = x := ⟨_, rfl⟩
  have hst : stOk l i = (kdOk x && rngOk x && (if i = 0 then rootOk x else chOk l i)) := by
    unfold stOk
    rw [hx]
    by_cases h0 : i = 0
    · subst h0; rw [if_pos rfl, if_pos rfl, hx]
    · rw [if_neg h0, if_neg h0]
  have hch : chOk l i = (decide ((gN l (i - 1)).i < x.i) && nmOk x.nm && (l.take i).any (fun y => decide (y.i = x.p)) && !(l.take i).any (same1 x.p x.nm)) := by unfold chOk; rw [hx]
  rw [hx] at hN hnm
  obtain ⟨xi, xp, xn, xc, xk, xo⟩ := x
  simp only [ndc] at hN hnm
  have hg := gate_eq xk xc xo
  have hge : (kdOk ⟨xi, xp, xn, xc, xk, xo⟩ && rngOk ⟨xi, xp, xn, xc, xk, xo⟩) = ((decide (xk = 0) || decide (xk = 1)) && (decide (0 ≤ xc) && decide (xc ≤ 31) && (decide (0 ≤ xo) && decide (xo ≤ 1048576)))) := rfl
  rw [← hge] at hg
  rw [hst]
  cases hb : (kdOk ⟨xi, xp, xn, xc, xk, xo⟩ && rngOk ⟨xi, xp, xn, xc, xk, xo⟩) with
  | false =>
    rw [hb] at hg
    simp only [zbf] at hg
    rw [zaG]
    refine fnspec_of mixed TT_ok TT_cl ⟨fun _ => false, fun _ => [], 0, fun _ => false, fun _ => false⟩ Tryz.func100 rfl (by kernel_rfl) rfl 115 rfl [.tmp 4] rfl ?_
    simp only [go_sem, zaa, zae, zaf, zag, zah, zad, ↓reduceIte, reduceCtorEq, zab, zac, zai, zaj, zak, hN, zaK, zaM, zay, zaJ, zaL, zaH, zaI, zaF, zaO, zaT, zaE, zaN, hg]
    repeat' (first
 | with_reducible refine zam ?_ ?_
 | (intros; omega)
 | exact fs_nil trivial rfl
 | fail)
  | true =>
    rw [hb] at hg
    simp only [Bool.not_true] at hg
    rw [zaS]
    by_cases h0 : i = 0
    · have c0 : (i : Int) = 0 := by omega
      rw [if_pos h0]
      unfold rootOk
      refine fnspec_of mixed TT_ok TT_cl ⟨fun _ => false, fun _ => [], 0, fun _ => false, fun _ => false⟩ Tryz.func100 rfl (by kernel_rfl) rfl 115 rfl [.tmp 4] rfl ?_
      simp only [go_sem, zaa, zae, zaf, zag, zah, zad, ↓reduceIte, reduceCtorEq, zab, zac, zai, zaj, zak, hN, zaK, zaM, zay, zaJ, zaL, zaH, zaI, zaF, zaO, zaT, zaE, zaN, hg, decide_eq_true c0]
      repeat' (first
 | with_reducible refine zam ?_ ?_
 | (intros; omega)
 | exact fs_nil trivial rfl
 | fail)
    have c0 : ¬ (i : Int) = 0 := by omega
    rw [if_neg h0, hch]
    have hin : ((i : Int) - 1).toNat = i - 1 := by omega
    obtain ⟨f1, _⟩ := nd_f l (i - 1) (by omega) (.sc (.int .i64 0))
    have hv := rvalid_spec xn (by omega)
    by_cases hlt : xi ≤ (gN l (i - 1)).i
    · rw [decide_eq_false (by simp only; omega), zaG, zaG, zaG]
      refine fnspec_of mixed TT_ok TT_cl ⟨fun _ => false, fun _ => [], 0, fun _ => false, fun _ => false⟩ Tryz.func100 rfl (by kernel_rfl) rfl 115 rfl [.tmp 4] rfl ?_
      simp only [go_sem, zaa, zae, zaf, zag, zah, zad, ↓reduceIte, reduceCtorEq, zab, zac, zai, zaj, zak, hN, zaK, zaM, zay, zaJ, zaL, zaH, zaI, zaF, zaO, zaT, zaE, zaN, hg, decide_eq_false c0, hin, f1, decide_eq_true hlt]
      repeat' (first
 | with_reducible refine zam ?_ ?_
 | (unfold OKC; kernel_rfl)
 | (unfold EDG; kernel_rfl)
 | (intros; omega)
 | exact fs_nil trivial rfl
 | fail)
    rw [decide_eq_true (by simp only; omega), zaS]
    cases hnv : nmOk xn with
    | false =>
      rw [hnv] at hv
      rw [zaG, zaG]
      refine fnspec_of mixed TT_ok TT_cl ⟨fun _ => false, fun _ => [], 0, fun _ => false, fun _ => false⟩ Tryz.func100 rfl (by kernel_rfl) rfl 115 rfl [.tmp 4] rfl ?_
      simp only [go_sem, zaa, zae, zaf, zag, zah, zad, ↓reduceIte, reduceCtorEq, zab, zac, zai, zaj, zak, hN, zaK, zaM, zay, zaJ, zaL, zaH, zaI, zaF, zaO, zaT, zaE, zaN, hg, decide_eq_false c0, hin, f1, decide_eq_false hlt]
      repeat' (first
 | with_reducible refine zam ?_ ?_
 | (unfold OKC; kernel_rfl)
 | (unfold EDG; kernel_rfl)
 | (apply cg_tp
    case hl => rfl
    case ha => (simp only [zan, zao, prepV, prepC, idx, hpL', lookR, zaa, if_true, if_false]; rfl)
    case hs => rfl
    case h => (first | exact hv ..))
 | ((first | refine s1_id ?_ | refine swp_id ?_ | refine sops_id ?_ | refine s2_id ?_); simp only [hN, zaK, zaM, zay, zaJ, zaL, zaH, zaI, zaF, zaO, zaT, zaE, zaN, hg, decide_eq_false c0, hin, f1, decide_eq_false hlt, go_sem, zaa, zae, zaf, zag, zah, zad, ↓reduceIte, reduceCtorEq, zab, zac, zai, zaj, zak, zaB, zaD, zax, zaC, renO, bk, back, outUpsFrom, Ints_ren])
 | (intros; omega)
 | exact fs_nil trivial rfl
 | fail)
    | true =>
    rw [hnv] at hv
    rw [zaS]
    simp only
    refine fnspec_of mixed TT_ok TT_cl ⟨fun _ => false, fun _ => [], 0, fun _ => false, fun _ => false⟩ Tryz.func100 rfl (by kernel_rfl) rfl 115 rfl [.tmp 4] rfl ?_
    simp only [go_sem, zaa, zae, zaf, zag, zah, zad, ↓reduceIte, reduceCtorEq, zab, zac, zai, zaj, zak, hN, zaK, zaM, zay, zaJ, zaL, zaH, zaI, zaF, zaO, zaT, zaE, zaN, hg, decide_eq_false c0, hin, f1, decide_eq_false hlt]
    repeat' (first
 | with_reducible refine zam ?_ ?_
 | (unfold OKC; kernel_rfl)
 | (unfold EDG; kernel_rfl)
 | (apply cg_tp
    case hl => rfl
    case ha => (simp only [zan, zao, prepV, prepC, idx, hpL', lookR, zaa, if_true, if_false]; rfl)
    case hs => rfl
    case h => (first | exact hv ..))
 | ((first | refine s1_id ?_ | refine swp_id ?_ | refine sops_id ?_ | refine s2_id ?_); simp only [hN, zaK, zaM, zay, zaJ, zaL, zaH, zaI, zaF, zaO, zaT, zaE, zaN, hg, decide_eq_false c0, hin, f1, decide_eq_false hlt, go_sem, zaa, zae, zaf, zag, zah, zad, ↓reduceIte, reduceCtorEq, zab, zac, zai, zaj, zak, zaB, zaD, zax, zaC, renO, bk, back, outUpsFrom, Ints_ren])
 | (intros; omega)
 | (intros; (try simp only [zau, zaw, zav, zat, zaq, zar, decide_eq_true_eq, decide_eq_false_iff_not] at *); omega))
    refine w_loop (ι := Nat) (fun m => ⟨[(1, i1 i), (2, .one (.optr 0 0)), (5, .one (.optr 1 0)), (6, b1 ((l.take m).any fun y => decide (y.i = xp))), (7, i1 m)], [(0, some ⟨[.gsl (Cs l) 0 l.length k, int n], 2⟩), (1, some ⟨[int xi, int xp, st xn, int xc, int xk, int xo], 6⟩)], 2⟩) (fun m => m ≤ i ∧ (l.take m).any (same1 xp xn) = false) (fun m => i - m) 0 ?_ ⟨zaU _, rfl⟩ ?_
    · (refine imp_ren _ _ _ [(0, 0, ⟨[.gsl (Cs l) 0 l.length k, int n], 2⟩), (1, 7, ⟨[int xi, int xp, st xn, int xc, int xk, int xo], 6⟩)] (by simp) (by simp) (by simp) (zas rfl) ?_ rfl (by simp only [zal, zap, false_implies, implies_true, and_true, zaP, lookR, zaa, if_true, if_false, ↓reduceIte] <;> (repeat' apply zam) <;> (first | rfl | trivial)) (by simp only [zal, zap, false_implies, implies_true, and_true, true_and, flat_cons, flat_nil, flat_ints, flat_bools, flat_app, zaA, and_self, eq_self_iff_true, zay]); simp only [zan, zao, zal, zap, false_implies, implies_true, and_true, lk, slot, zaB, zax, toN, zaa, if_true, if_false, ↓reduceIte, reduceCtorEq])
      all_goals ((repeat' apply zam) <;> (first | rfl | trivial))
    rintro m ⟨hm, hno⟩
    simp only at hm hno ⊢
    rcases zaX m i with hmi | hge
    case inr =>
      have c : ¬ (m : Int) < (i : Int) := by omega
      obtain rfl : m = i := by omega
      rw [hno, zbf, Bool.and_true]
      simp only [go_sem, zaa, zae, zaf, zag, zah, zad, ↓reduceIte, reduceCtorEq, zab, zac, zai, zaj, zak, decide_eq_false c]
      repeat' (first
 | exact fs_nil trivial rfl
 | fail)
    have c : (m : Int) < (i : Int) := by omega
    obtain ⟨g1, g2, g3, _⟩ := nd_f l m (by omega) (.sc (.int .i64 0))
    have g3' := (nd_f l m (by omega) (.sc (.string (bs [])))).2.2.1
    have hs := any_take_succ l m (by omega) (same1 xp xn)
    have hs2 := any_take_succ l m (by omega) (fun y => decide (y.i = xp))
    have hsm : same1 xp xn (gN l m) = (decide ((gN l m).p = xp) && decide ((gN l m).nm = xn)) := rfl
    rw [hno, Bool.false_or] at hs
    cases hdup : same1 xp xn (gN l m) with
    | true =>
      have hany : (l.take i).any (same1 xp xn) = true := (take_any_iff l i (zbh hi) _).2 ⟨m, hmi, hdup⟩
      rw [hany, Bool.not_true, zbg]
      rw [hsm] at hdup
      simp only [go_sem, zaa, zae, zaf, zag, zah, zad, ↓reduceIte, reduceCtorEq, zab, zac, zai, zaj, zak, decide_eq_true c, g1, g2, g3', hdup]
      repeat' (first
 | with_reducible refine zam ?_ ?_
 | (unfold OKC; kernel_rfl)
 | (unfold EDG; kernel_rfl)
 | (intros; omega)
 | exact fs_nil trivial rfl
 | fail)
    | false =>
      rw [hdup] at hs
      rw [hsm] at hdup
      simp only [go_sem, zaa, zae, zaf, zag, zah, zad, ↓reduceIte, reduceCtorEq, zab, zac, zai, zaj, zak, decide_eq_true c, g1, g2, g3', hdup]
      repeat' (first
 | with_reducible refine zam ?_ ?_
 | (unfold OKC; kernel_rfl)
 | (unfold EDG; kernel_rfl)
 | (intros; omega)
 | (intros; (try simp only [zau, zaw, zav, zat, zaq, zar, decide_eq_true_eq, decide_eq_false_iff_not] at *); omega))
      refine le_mk (m + 1) ?_ ⟨hmi, hs⟩ (by omega)
      rw [hs2]
      (refine imp_ren _ _ _ [(0, 0, ⟨[.gsl (Cs l) 0 l.length k, int n], 2⟩), (1, 1, ⟨[int xi, int xp, st xn, int xc, int xk, int xo], 6⟩)] (by simp) (by simp) (by simp) (zas rfl) ?_ rfl (by simp only [zal, zap, false_implies, implies_true, and_true, zaP, lookR, zaa, if_true, if_false, ↓reduceIte] <;> (repeat' apply zam) <;> (first | rfl | trivial)) (by simp only [zal, zap, false_implies, implies_true, and_true, true_and, flat_cons, flat_nil, flat_ints, flat_bools, flat_app, zaA, and_self, eq_self_iff_true, zay]); simp only [zan, zao, zal, zap, false_implies, implies_true, and_true, lk, slot, zaB, zax, toN, zaa, if_true, if_false, ↓reduceIte, reduceCtorEq])
      all_goals ((repeat' apply zam) <;> (first | rfl | trivial | (simp only [zaz]; done) | (simp only [zaz]; rfl) | (simp only [zaz]; trivial)))
end Go.Proofs.YtcnilpdlcmpbbaaGreat
-- NEWGO
-- PRUNE: cl_lendx cl_use cl_lend
-- ISG: Cs_isG
-- FLAT: Cs_flat
namespace Go.Proofs.YtcnilpdlcmpbbaaGreat
set_option linter.unusedVariables false
set_option linter.unusedSimpArgs false
open Go.Proofs.YtcnilpdlcmpbbaaGreat.Sh
set_option maxRecDepth 20000
set_option maxHeartbeats 8000000 in
theorem up_spec (l : List Nd) (k : Option Nat) (n : Int) (id0 : Int) (hl : l.length ≤ 1000000) : FnSpec Tryz.prog 52 [trV l k n, i1 id0] [] (gi (upL l id0) none) [] := by
  have hnl := nd_len l
  refine fnspec_of mixed TT_ok TT_cl ⟨fun _ => false, fun _ => [], 0, fun _ => false, fun _ => false⟩ Tryz.func52 rfl (by kernel_rfl) rfl 34 rfl [.tmp 4] rfl ?_
  simp only [go_sem, zaa, zae, zaf, zag, zah, zad, ↓reduceIte, reduceCtorEq, zab, zac, zai, zaj, zak]
  repeat' (first
 | with_reducible refine zam ?_ ?_
 | (intros; omega)
 | (intros; (try simp only [zau, zaw, zav, zat, zaq, zar, decide_eq_true_eq, decide_eq_false_iff_not] at *); omega))
  refine w_loop (ι := Nat × Int × List Int) (fun s => ⟨[(1, i1 s.2.1), (2, .one (.optr 0 0)), (5, .one (.osl 1 0 s.2.2.length none)), (6, i1 ((s.1 : Int) - 1))], [(0, some ⟨[.gsl (Cs l) 0 l.length k, int n], 2⟩), (1, some ⟨Ints s.2.2, 1⟩)], 2⟩) (fun s => s.1 ≤ l.length ∧ s.2.2.length + s.1 ≤ l.length ∧ upL l id0 = s.2.2 ++ upL (l.take s.1) s.2.1) (fun s => s.1) (l.length, id0, []) ?_ ⟨zbb _, by simp, by rw [List.take_length]; rfl⟩ ?_
  · (refine Imp.trans (imp_nilA _ _ 5 1 99 (by simp only []; omega) rfl) ?_)
    (refine imp_ren _ _ _ [(0, 0, ⟨[.gsl (Cs l) 0 l.length k, int n], 2⟩), (1, 99, ⟨[], 1⟩)] (by simp) (by simp) (by simp) (zas rfl) ?_ rfl (by simp only [zal, zap, false_implies, implies_true, and_true, zaP, lookR, zaa, if_true, if_false, ↓reduceIte] <;> (repeat' apply zam) <;> (first | rfl | trivial)) (by simp only [zal, zap, false_implies, implies_true, and_true, true_and, flat_cons, flat_nil, flat_ints, flat_bools, flat_app, zaA, and_self, eq_self_iff_true, zay]); simp only [zan, zao, zal, zap, false_implies, implies_true, and_true, lk, slot, zaB, zax, toN, zaa, if_true, if_false, ↓reduceIte, reduceCtorEq])
    all_goals ((repeat' apply zam) <;> (first | rfl | trivial))
  rintro ⟨m, id, acc⟩ ⟨hm, ha, hI⟩
  simp only at hm ha hI ⊢
  cases m with
  | zero =>
    have c : ¬ (0 : Int) ≤ ((0 : Nat) : Int) - 1 := by omega
    have he : upL [] id = [] := rfl
    rw [zaO, he, zay] at hI
    rw [hI]
    simp only [go_sem, zaa, zae, zaf, zag, zah, zad, ↓reduceIte, reduceCtorEq, zab, zac, zai, zaj, zak, decide_eq_false c]
    repeat' (first
 | with_reducible refine zam ?_ ?_
 | (refine gt_if (fun h => ?_) (fun h => ?_) <;> (try simp only [h]))
 | ((first | refine s1_id ?_ | refine swp_id ?_ | refine sops_id ?_ | refine s2_id ?_); simp only [decide_eq_false c, go_sem, zaa, zae, zaf, zag, zah, zad, ↓reduceIte, reduceCtorEq, zab, zac, zai, zaj, zak, zaB, zaD, zax, zaC, renO, bk, back, outUpsFrom, Ints_ren])
 | (intros; omega)
 | (intros; (try simp only [zau, zaw, zav, zat, zaq, zar, decide_eq_true_eq, decide_eq_false_iff_not] at *); omega))
    (refine fs_frz 1 ⟨Ints acc, 1⟩ (by simp only [zaP, lookR, zaa, if_true, if_false, ↓reduceIte]) (by first | exact Ints_isG _ | exact Bools_isG _ | exact Cs_isG _ | (simp [Cell.isG]; done)) ?_; simp only [frzTm, SV.frz, SV.frzL, Cell.frz, frzHp, frzO, Ints_frz, Bools_frz, zan, zao, zaa, if_true, if_false, ↓reduceIte])
    apply fs_nil <;> (try simp only [go_sem, resV, resS, zaB, zaD, zax, St.tmF, zaP, idx, renO, zaC, evS, slot, lookR, zaa, ↓reduceIte, reduceCtorEq, if_true, if_false, Option.getD_some, Option.getD_none, zan, zao, sLoad, readAt, readNeed, Ints_ren, Ints_length, Ints_getD, and_true, true_and, List.getD_cons_zero, List.getD_cons_succ]) <;> (try rfl)
  | succ m =>
    have c : (0 : Int) ≤ ((m + 1 : Nat) : Int) - 1 := by omega
    have e1 : (((m + 1 : Nat) : Int) - 1).toNat = m := by omega
    have e2 : ((m + 1 : Nat) : Int) - 1 = (m : Int) := by omega
    have hlt : m < l.length := by omega
    obtain ⟨g1, g2, _⟩ := nd_f l m hlt (.sc (.int .i64 0))
    rw [upL_take l m hlt] at hI
    by_cases hid : (gN l m).i = id
    · rw [if_pos hid] at hI
      have htk : List.take acc.length (Ints acc) = Ints acc := List.take_of_length_le (by rw [Ints_length]; exact zbb _)
      have hpp : Ints acc ++ [int id] = Ints (acc ++ [id]) := by simp [Ints]
      have hla : (acc ++ [id]).length = acc.length + 1 := by simp
      simp only [go_sem, zaa, zae, zaf, zag, zah, zad, ↓reduceIte, reduceCtorEq, zab, zac, zai, zaj, zak, e2, decide_eq_true (Int.natCast_nonneg m), g1, g2, decide_eq_true hid]
      repeat' (first
 | with_reducible refine zam ?_ ?_
 | (intros; omega)
 | (intros; (try simp only [zau, zaw, zav, zat, zaq, zar, decide_eq_true_eq, decide_eq_false_iff_not] at *); omega))
      refine le_mk (m, (gN l m).p, acc ++ [id]) ?_ ⟨zbh hlt, by show (acc ++ [id]).length + m ≤ l.length; rw [hla]; omega, by rw [hI]; simp⟩ (Nat.lt_succ_self m)
      simp only [hla]
      (refine imp_ren _ _ _ [(0, 0, ⟨[.gsl (Cs l) 0 l.length k, int n], 2⟩), (1, 15, ⟨Ints (acc ++ [id]), 1⟩)] (by simp) (by simp) (by simp) (zas rfl) ?_ rfl (by simp only [zal, zap, false_implies, implies_true, and_true, zaP, lookR, zaa, if_true, if_false, ↓reduceIte] <;> (repeat' apply zam) <;> (first | rfl | trivial)) (by simp only [zal, zap, false_implies, implies_true, and_true, true_and, flat_cons, flat_nil, flat_ints, flat_bools, flat_app, zaA, and_self, eq_self_iff_true, zay]); simp only [zan, zao, zal, zap, false_implies, implies_true, and_true, lk, slot, zaB, zax, toN, zaa, if_true, if_false, ↓reduceIte, reduceCtorEq])
      all_goals ((repeat' apply zam) <;> (first | rfl | trivial | (simp only []; done) | (simp only []; rfl) | (simp only []; trivial)))
    · rw [if_neg hid] at hI
      simp only [go_sem, zaa, zae, zaf, zag, zah, zad, ↓reduceIte, reduceCtorEq, zab, zac, zai, zaj, zak, e2, decide_eq_true (Int.natCast_nonneg m), g1, g2, decide_eq_false hid]
      repeat' (first
 | with_reducible refine zam ?_ ?_
 | (intros; omega)
 | (intros; (try simp only [zau, zaw, zav, zat, zaq, zar, decide_eq_true_eq, decide_eq_false_iff_not] at *); omega))
      refine le_mk (m, id, acc) ?_ ⟨zbh hlt, by show acc.length + m ≤ l.length; omega, hI⟩ (Nat.lt_succ_self m)
      (refine imp_ren _ _ _ [(0, 0, ⟨[.gsl (Cs l) 0 l.length k, int n], 2⟩), (1, 1, ⟨Ints acc, 1⟩)] (by simp) (by simp) (by simp) (zas rfl) ?_ rfl (by simp only [zal, zap, false_implies, implies_true, and_true, zaP, lookR, zaa, if_true, if_false, ↓reduceIte] <;> (repeat' apply zam) <;> (first | rfl | trivial)) (by simp only [zal, zap, false_implies, implies_true, and_true, true_and, flat_cons, flat_nil, flat_ints, flat_bools, flat_app, zaA, and_self, eq_self_iff_true, zay]); simp only [zan, zao, zal, zap, false_implies, implies_true, and_true, lk, slot, zaB, zax, toN, zaa, if_true, if_false, ↓reduceIte, reduceCtorEq])
      all_goals ((repeat' apply zam) <;> (first | rfl | trivial | (simp only []; done) | (simp only []; rfl) | (simp only []; trivial)))
def NmR (l : List Nd) : Prop := ∀ x ∈ l, x.nm.length ≤ 1000000000
theorem NmR.at {l : List Nd} (h : NmR l) (i : Nat) (hi : i < l.length) : (gN l i).nm.length ≤ 1000000000 := h _ (getD_mem l i zn hi)
set_option maxHeartbeats 8000000 in
theorem trcheck_spec (l : List Nd) (k : Option Nat) (n : Int) (hl : l.length ≤ 1000000) (hnm : NmR l) : FnSpec Tryz.prog 68 [trV l k n] [] (b1 (chkT l n)) [] := by
  have hnl := nd_len l
  by_cases h1 : (l.length : Int) < 1
  · rw [chkT_not fun h => by have := h.ne; omega]
    refine fnspec_of mixed TT_ok TT_cl ⟨fun _ => false, fun _ => [], 0, fun _ => false, fun _ => false⟩ Tryz.func68 rfl (by kernel_rfl) rfl 54 rfl [.tmp 2] rfl ?_
    simp only [go_sem, zaa, zae, zaf, zag, zah, zad, ↓reduceIte, reduceCtorEq, zab, zac, zai, zaj, zak, decide_eq_true h1]
    repeat' (first
 | exact fs_nil trivial rfl
 | fail)
  by_cases h64 : 64 < (l.length : Int)
  · rw [chkT_not fun h => by have := h.le; omega]
    refine fnspec_of mixed TT_ok TT_cl ⟨fun _ => false, fun _ => [], 0, fun _ => false, fun _ => false⟩ Tryz.func68 rfl (by kernel_rfl) rfl 54 rfl [.tmp 2] rfl ?_
    simp only [go_sem, zaa, zae, zaf, zag, zah, zad, ↓reduceIte, reduceCtorEq, zab, zac, zai, zaj, zak, decide_eq_false h1, decide_eq_true h64]
    repeat' (first
 | exact fs_nil trivial rfl
 | fail)
  have h1' : 1 ≤ l.length := by omega
  have h64' : l.length ≤ 64 := by omega
  refine fnspec_of mixed TT_ok TT_cl ⟨fun _ => false, fun _ => [], 0, fun _ => false, fun _ => false⟩ Tryz.func68 rfl (by kernel_rfl) rfl 54 rfl [.tmp 2] rfl ?_
  simp only [go_sem, zaa, zae, zaf, zag, zah, zad, ↓reduceIte, reduceCtorEq, zab, zac, zai, zaj, zak, decide_eq_false h1, decide_eq_false h64]
  repeat' (first
 | (intros; (try simp only [zau, zaw, zav, zat, zaq, zar, decide_eq_true_eq, decide_eq_false_iff_not] at *); omega))
  refine w_loop (ι := Nat) (fun m => ⟨[(1, .one (.optr 0 0)), (3, i1 l.length), (4, i1 m)], [(0, some ⟨[.gsl (Cs l) 0 l.length k, int n], 2⟩)], 1⟩) (fun m => m ≤ l.length ∧ ∀ i, i < m → stOk l i = true) (fun m => l.length - m) 0 ?_ ⟨zaU _, fun i hi => absurd hi (Nat.not_lt_zero _)⟩ ?_
  · (refine imp_ren _ _ _ [(0, 0, ⟨[.gsl (Cs l) 0 l.length k, int n], 2⟩)] (by simp) (by simp) (by simp) (zas rfl) ?_ rfl (by simp only [zal, zap, false_implies, implies_true, and_true, zaP, lookR, zaa, if_true, if_false, ↓reduceIte] <;> (repeat' apply zam) <;> (first | rfl | trivial)) (by simp only [zal, zap, false_implies, implies_true, and_true, true_and, flat_cons, flat_nil, flat_ints, flat_bools, flat_app, zaA, and_self, eq_self_iff_true, zay]); simp only [zan, zao, zal, zap, false_implies, implies_true, and_true, lk, slot, zaB, zax, toN, zaa, if_true, if_false, ↓reduceIte, reduceCtorEq])
    all_goals ((repeat' apply zam) <;> (first | rfl | trivial))
  rintro m ⟨hm, hst⟩
  simp only at hm hst ⊢
  rcases zaX m l.length with hlt | hge
  case inl =>
    have c : (m : Int) < (l.length : Int) := by omega
    have h2 := node_spec l k n m hlt hl (hnm.at m hlt)
    cases hb : stOk l m with
    | false =>
      rw [chkT_not fun h => by have := h.st m hlt; rw [hb] at this; cases this]
      rw [hb] at h2
      simp only [go_sem, zaa, zae, zaf, zag, zah, zad, ↓reduceIte, reduceCtorEq, zab, zac, zai, zaj, zak, decide_eq_true c]
      repeat' (first
 | (apply cl_plain
    case hs => rfl
    case ha => (simp only [zan, zao, prepV, prepC, idx, hpL', lookR, zaa, if_true, if_false]; rfl)
    case h => (first | exact h2 ..))
 | ((first | refine s1_id ?_ | refine swp_id ?_ | refine sops_id ?_ | refine s2_id ?_); simp only [decide_eq_true c, go_sem, zaa, zae, zaf, zag, zah, zad, ↓reduceIte, reduceCtorEq, zab, zac, zai, zaj, zak, zaB, zaD, zax, zaC, renO, bk, back, outUpsFrom, Ints_ren])
 | exact fs_nil trivial rfl
 | fail)
    | true =>
      rw [hb] at h2
      simp only [go_sem, zaa, zae, zaf, zag, zah, zad, ↓reduceIte, reduceCtorEq, zab, zac, zai, zaj, zak, decide_eq_true c]
      repeat' (first
 | with_reducible refine zam ?_ ?_
 | (apply cl_plain
    case hs => rfl
    case ha => (simp only [zan, zao, prepV, prepC, idx, hpL', lookR, zaa, if_true, if_false]; rfl)
    case h => (first | exact h2 ..))
 | ((first | refine s1_id ?_ | refine swp_id ?_ | refine sops_id ?_ | refine s2_id ?_); simp only [decide_eq_true c, go_sem, zaa, zae, zaf, zag, zah, zad, ↓reduceIte, reduceCtorEq, zab, zac, zai, zaj, zak, zaB, zaD, zax, zaC, renO, bk, back, outUpsFrom, Ints_ren])
 | (intros; omega)
 | (intros; (try simp only [zau, zaw, zav, zat, zaq, zar, decide_eq_true_eq, decide_eq_false_iff_not] at *); omega))
      refine le_mk (m + 1) ?_ ⟨hlt, fun i hi => by rcases Nat.lt_succ_iff_lt_or_eq.1 hi with h | h; (· exact hst i h); (· rw [h]; exact hb)⟩ (by omega)
      (refine imp_ren _ _ _ [(0, 0, ⟨[.gsl (Cs l) 0 l.length k, int n], 2⟩)] (by simp) (by simp) (by simp) (zas rfl) ?_ rfl (by simp only [zal, zap, false_implies, implies_true, and_true, zaP, lookR, zaa, if_true, if_false, ↓reduceIte] <;> (repeat' apply zam) <;> (first | rfl | trivial)) (by simp only [zal, zap, false_implies, implies_true, and_true, true_and, flat_cons, flat_nil, flat_ints, flat_bools, flat_app, zaA, and_self, eq_self_iff_true, zay]); simp only [zan, zao, zal, zap, false_implies, implies_true, and_true, lk, slot, zaB, zax, toN, zaa, if_true, if_false, ↓reduceIte, reduceCtorEq])
      all_goals ((repeat' apply zam) <;> (first | rfl | trivial | (simp only [zaz]; done) | (simp only [zaz]; rfl) | (simp only [zaz]; trivial)))
  have c : ¬ (m : Int) < (l.length : Int) := by omega
  obtain rfl : m = l.length := by omega
  simp only [go_sem, zaa, zae, zaf, zag, zah, zad, ↓reduceIte, reduceCtorEq, zab, zac, zai, zaj, zak, decide_eq_false c]
  repeat' (first
 | (intros; (try simp only [zau, zaw, zav, zat, zaq, zar, decide_eq_true_eq, decide_eq_false_iff_not] at *); omega))
  refine w_loop (ι := Nat) (fun m => ⟨[(1, .one (.optr 0 0)), (3, i1 l.length), (5, i1 m)], [(0, some ⟨[.gsl (Cs l) 0 l.length k, int n], 2⟩)], 1⟩) (fun m => m ≤ l.length ∧ ∀ i, i < m → (upL l (gN l i).i).length ≤ 9) (fun m => l.length - m) 0 ?_ ⟨zaU _, fun i hi => absurd hi (Nat.not_lt_zero _)⟩ ?_
  · (refine imp_ren _ _ _ [(0, 0, ⟨[.gsl (Cs l) 0 l.length k, int n], 2⟩)] (by simp) (by simp) (by simp) (zas rfl) ?_ rfl (by simp only [zal, zap, false_implies, implies_true, and_true, zaP, lookR, zaa, if_true, if_false, ↓reduceIte] <;> (repeat' apply zam) <;> (first | rfl | trivial)) (by simp only [zal, zap, false_implies, implies_true, and_true, true_and, flat_cons, flat_nil, flat_ints, flat_bools, flat_app, zaA, and_self, eq_self_iff_true, zay]); simp only [zan, zao, zal, zap, false_implies, implies_true, and_true, lk, slot, zaB, zax, toN, zaa, if_true, if_false, ↓reduceIte, reduceCtorEq])
    all_goals ((repeat' apply zam) <;> (first | rfl | trivial))
  rintro m ⟨hm, hdp⟩
  simp only at hm hdp ⊢
  rcases zaX m l.length with hlt | hge
  case inl =>
    have c : (m : Int) < (l.length : Int) := by omega
    have h3 := up_spec l k n (gN l m).i hl
    obtain ⟨g1, _⟩ := nd_f l m hlt (.sc (.int .i64 0))
    by_cases h9 : 9 < ((upL l (gN l m).i).length : Int)
    · rw [chkT_not fun h => by have := h.dp m hlt; omega]
      generalize upL l (gN l m).i = U at *
      simp only [go_sem, zaa, zae, zaf, zag, zah, zad, ↓reduceIte, reduceCtorEq, zab, zac, zai, zaj, zak, decide_eq_true c, g1, decide_eq_true h9]
      repeat' (first
 | with_reducible refine zam ?_ ?_
 | (unfold OKC; kernel_rfl)
 | (unfold EDG; kernel_rfl)
 | (apply cl_plain
    case hs => rfl
    case ha => (simp only [zan, zao, prepV, prepC, idx, hpL', lookR, zaa, if_true, if_false]; rfl)
    case h => (first | exact h3 ..))
 | ((first | refine s1_id ?_ | refine swp_id ?_ | refine sops_id ?_ | refine s2_id ?_); simp only [decide_eq_true c, g1, decide_eq_true h9, go_sem, zaa, zae, zaf, zag, zah, zad, ↓reduceIte, reduceCtorEq, zab, zac, zai, zaj, zak, zaB, zaD, zax, zaC, renO, bk, back, outUpsFrom, Ints_ren])
 | (intros; omega)
 | exact fs_nil trivial rfl
 | fail)
    · have h9' : (upL l (gN l m).i).length ≤ 9 := by omega
      have hnx : ∀ i, i < m + 1 → (upL l (gN l i).i).length ≤ 9 := fun i hi => by rcases Nat.lt_succ_iff_lt_or_eq.1 hi with h | h; (· exact hdp i h); (· rw [h]; exact h9')
      generalize upL l (gN l m).i = U at *
      simp only [go_sem, zaa, zae, zaf, zag, zah, zad, ↓reduceIte, reduceCtorEq, zab, zac, zai, zaj, zak, decide_eq_true c, g1, decide_eq_false h9]
      repeat' (first
 | with_reducible refine zam ?_ ?_
 | (unfold OKC; kernel_rfl)
 | (unfold EDG; kernel_rfl)
 | (apply cl_plain
    case hs => rfl
    case ha => (simp only [zan, zao, prepV, prepC, idx, hpL', lookR, zaa, if_true, if_false]; rfl)
    case h => (first | exact h3 ..))
 | ((first | refine s1_id ?_ | refine swp_id ?_ | refine sops_id ?_ | refine s2_id ?_); simp only [decide_eq_true c, g1, decide_eq_false h9, go_sem, zaa, zae, zaf, zag, zah, zad, ↓reduceIte, reduceCtorEq, zab, zac, zai, zaj, zak, zaB, zaD, zax, zaC, renO, bk, back, outUpsFrom, Ints_ren])
 | (intros; omega)
 | (intros; (try simp only [zau, zaw, zav, zat, zaq, zar, decide_eq_true_eq, decide_eq_false_iff_not] at *); omega))
      refine le_mk (m + 1) ?_ ⟨hlt, hnx⟩ (by omega)
      (refine imp_ren _ _ _ [(0, 0, ⟨[.gsl (Cs l) 0 l.length k, int n], 2⟩)] (by simp) (by simp) (by simp) (zas rfl) ?_ rfl (by simp only [zal, zap, false_implies, implies_true, and_true, zaP, lookR, zaa, if_true, if_false, ↓reduceIte] <;> (repeat' apply zam) <;> (first | rfl | trivial)) (by simp only [zal, zap, false_implies, implies_true, and_true, true_and, flat_cons, flat_nil, flat_ints, flat_bools, flat_app, zaA, and_self, eq_self_iff_true, zay]); simp only [zan, zao, zal, zap, false_implies, implies_true, and_true, lk, slot, zaB, zax, toN, zaa, if_true, if_false, ↓reduceIte, reduceCtorEq])
      all_goals ((repeat' apply zam) <;> (first | rfl | trivial | (simp only [zaz]; done) | (simp only [zaz]; rfl) | (simp only [zaz]; trivial)))
  have c : ¬ (m : Int) < (l.length : Int) := by omega
  obtain rfl : m = l.length := by omega
  have hin : ((l.length : Int) - 1).toNat = l.length - 1 := by omega
  obtain ⟨g1, _⟩ := nd_f l (l.length - 1) (by omega) (.sc (.int .i64 0))
  have hres : chkT l n = (decide ((gN l (l.length - 1)).i < n) && decide (n ≤ 2147483648)) := by
    unfold chkT
    rw [decide_eq_true h1', decide_eq_true h64', (allN_iff _ _).2 hst, (allN_iff _ _).2 fun i hi => decide_eq_true (hdp i hi)]
    rfl
  rw [hres]
  simp only [go_sem, zaa, zae, zaf, zag, zah, zad, ↓reduceIte, reduceCtorEq, zab, zac, zai, zaj, zak, decide_eq_false c, hin, g1]
  repeat' (first
 | with_reducible refine zam ?_ ?_
 | (unfold OKC; kernel_rfl)
 | (unfold EDG; kernel_rfl)
 | (intros; omega)
 | exact fs_nil trivial rfl
 | fail)
end Go.Proofs.YtcnilpdlcmpbbaaGreat
-- NEWGO
-- PRUNE: cl_lendx cl_use cl_lend
namespace Go.Proofs.YtcnilpdlcmpbbaaGreat
set_option linter.unusedVariables false
set_option linter.unusedSimpArgs false
open Go.Proofs.YtcnilpdlcmpbbaaGreat.Sh
set_option maxRecDepth 20000
theorem nan_spec (a : Int) : FnSpec Tryz.prog 109 [i1 a] [] (b1 false) [] := by
  refine fnspec_of mixed TT_ok TT_cl ⟨fun _ => false, fun _ => [], 0, fun _ => false, fun _ => false⟩ Tryz.func109 rfl (by kernel_rfl) rfl 6 rfl [.tmp 2] rfl ?_
  simp only [go_sem, zaa, zae, zaf, zag, zah, zad, ↓reduceIte, reduceCtorEq, zab, zac, zai, zaj, zak]
  repeat' (first
 | exact fs_nil trivial rfl
 | fail)
theorem cmp_spec (a b : Int) : FnSpec Tryz.prog 107 [i1 a, i1 b] [] (i1 (cmpv a b)) [] := by
  unfold cmpv
  by_cases h1 : a < b
  · rw [if_pos h1]
    refine fnspec_of mixed TT_ok TT_cl ⟨fun _ => false, fun _ => [], 0, fun _ => false, fun _ => false⟩ Tryz.func107 rfl (by kernel_rfl) rfl 20 rfl [.tmp 4] rfl ?_
    simp only [go_sem, zaa, zae, zaf, zag, zah, zad, ↓reduceIte, reduceCtorEq, zab, zac, zai, zaj, zak]
    repeat' (first
 | (apply cl_plain
    case hs => rfl
    case ha => (simp only [zan, zao, prepV, prepC, idx, hpL', lookR, zaa, if_true, if_false]; rfl)
    case h => (first | exact nan_spec ..))
 | ((first | refine s1_id ?_ | refine swp_id ?_ | refine sops_id ?_ | refine s2_id ?_); simp only [decide_eq_true h1, go_sem, zaa, zae, zaf, zag, zah, zad, ↓reduceIte, reduceCtorEq, zab, zac, zai, zaj, zak, zaB, zaD, zax, zaC, renO, bk, back, outUpsFrom, Ints_ren])
 | exact fs_nil trivial rfl
 | fail)
  rw [if_neg h1]
  by_cases h2 : b < a
  · rw [if_pos h2]
    refine fnspec_of mixed TT_ok TT_cl ⟨fun _ => false, fun _ => [], 0, fun _ => false, fun _ => false⟩ Tryz.func107 rfl (by kernel_rfl) rfl 20 rfl [.tmp 4] rfl ?_
    simp only [go_sem, zaa, zae, zaf, zag, zah, zad, ↓reduceIte, reduceCtorEq, zab, zac, zai, zaj, zak]
    repeat' (first
 | (apply cl_plain
    case hs => rfl
    case ha => (simp only [zan, zao, prepV, prepC, idx, hpL', lookR, zaa, if_true, if_false]; rfl)
    case h => (first | exact nan_spec ..))
 | ((first | refine s1_id ?_ | refine swp_id ?_ | refine sops_id ?_ | refine s2_id ?_); simp only [decide_eq_false h1, decide_eq_true h2, go_sem, zaa, zae, zaf, zag, zah, zad, ↓reduceIte, reduceCtorEq, zab, zac, zai, zaj, zak, zaB, zaD, zax, zaC, renO, bk, back, outUpsFrom, Ints_ren])
 | exact fs_nil trivial rfl
 | fail)
  rw [if_neg h2]
  refine fnspec_of mixed TT_ok TT_cl ⟨fun _ => false, fun _ => [], 0, fun _ => false, fun _ => false⟩ Tryz.func107 rfl (by kernel_rfl) rfl 20 rfl [.tmp 4] rfl ?_
  simp only [go_sem, zaa, zae, zaf, zag, zah, zad, ↓reduceIte, reduceCtorEq, zab, zac, zai, zaj, zak]
  repeat' (first
 | (apply cl_plain
    case hs => rfl
    case ha => (simp only [zan, zao, prepV, prepC, idx, hpL', lookR, zaa, if_true, if_false]; rfl)
    case h => (first | exact nan_spec ..))
 | ((first | refine s1_id ?_ | refine swp_id ?_ | refine sops_id ?_ | refine s2_id ?_); simp only [decide_eq_false h1, decide_eq_false h2, go_sem, zaa, zae, zaf, zag, zah, zad, ↓reduceIte, reduceCtorEq, zab, zac, zai, zaj, zak, zaB, zaD, zax, zaC, renO, bk, back, outUpsFrom, Ints_ren])
 | exact fs_nil trivial rfl
 | fail)
end Go.Proofs.YtcnilpdlcmpbbaaGreat
-- NEWGO
-- PRUNE: cl_lendx cl_use cl_lend
-- ISG: Cs_isG
-- FLAT: Cs_flat
namespace Go.Proofs.YtcnilpdlcmpbbaaGreat
set_option linter.unusedVariables false
set_option linter.unusedSimpArgs false
open Go.Proofs.YtcnilpdlcmpbbaaGreat.Sh
set_option maxRecDepth 20000
def CtR (l : List Nd) : Prop := ∀ x ∈ l, -9223372036854775808 ≤ x.c ∧ x.c ≤ 9223372036854775807
theorem inRange_spec (x : Nd) (hc : -9223372036854775808 ≤ x.c ∧ x.c ≤ 9223372036854775807) : FnSpec Tryz.prog 104 [.agg (ndc x)] [] (b1 (rngOk x)) [] := by
  have h1 := andN_iff x.c hc
  obtain ⟨xi, xp, xn, xc, xk, xo⟩ := x
  simp only [ndc] at h1 ⊢
  unfold rngOk
  have e : (decide (0 ≤ xc) && decide (xc ≤ 31) && (decide (0 ≤ xo) && decide (xo ≤ 1048576))) = (decide (andN xc = 0) && decide (0 ≤ xo) && decide (xo ≤ 1048576)) := by
    rw [decide_eq_decide.2 h1, Bool.decide_and, Bool.and_assoc (decide (0 ≤ xc) && decide (xc ≤ 31))]
  simp only
  rw [e]
  refine fnspec_of mixed TT_ok TT_cl ⟨fun _ => false, fun _ => [], 0, fun _ => false, fun _ => false⟩ Tryz.func104 rfl (by kernel_rfl) rfl 17 rfl [.tmp 2] rfl ?_
  simp only [go_sem, zaa, zae, zaf, zag, zah, zad, ↓reduceIte, reduceCtorEq, zab, zac, zai, zaj, zak]
  repeat' (first
 | exact fs_nil trivial rfl
 | fail)
theorem isRoot_spec (x : Nd) (hc : -9223372036854775808 ≤ x.c ∧ x.c ≤ 9223372036854775807) : FnSpec Tryz.prog 90 [.agg (ndc x)] [] (b1 (rootOk x && rngOk x)) [] := by
  have h1 := inRange_spec x hc
  unfold rootOk
  obtain ⟨xi, xp, xn, xc, xk, xo⟩ := x
  simp only [ndc] at h1 ⊢
  generalize rngOk ⟨xi, xp, xn, xc, xk, xo⟩ = r at *
  cases hb : (decide (xi = 1) && decide (xp = 0) && decide (xn = []) && decide (xk = 0)) with
  | false =>
    rw [zaG]
    refine fnspec_of mixed TT_ok TT_cl ⟨fun _ => false, fun _ => [], 0, fun _ => false, fun _ => false⟩ Tryz.func90 rfl (by kernel_rfl) rfl 25 rfl [.tmp 2] rfl ?_
    simp only [go_sem, zaa, zae, zaf, zag, zah, zad, ↓reduceIte, reduceCtorEq, zab, zac, zai, zaj, zak, hb]
    repeat' (first
 | exact fs_nil trivial rfl
 | fail)
  | true =>
    rw [zaS]
    refine fnspec_of mixed TT_ok TT_cl ⟨fun _ => false, fun _ => [], 0, fun _ => false, fun _ => false⟩ Tryz.func90 rfl (by kernel_rfl) rfl 25 rfl [.tmp 2] rfl ?_
    simp only [go_sem, zaa, zae, zaf, zag, zah, zad, ↓reduceIte, reduceCtorEq, zab, zac, zai, zaj, zak, hb]
    repeat' (first
 | (apply cg_tp
    case hl => rfl
    case ha => (simp only [zan, zao, prepV, prepC, idx, hpL', lookR, zaa, if_true, if_false]; rfl)
    case hs => rfl
    case h => (first | exact h1 ..))
 | ((first | refine s1_id ?_ | refine swp_id ?_ | refine sops_id ?_ | refine s2_id ?_); simp only [hb, zaK, zaM, zay, zaJ, zaL, zaH, zaI, zaF, zaO, zaT, zaE, zaN, go_sem, zaa, zae, zaf, zag, zah, zad, ↓reduceIte, reduceCtorEq, zab, zac, zai, zaj, zak, zaB, zaD, zax, zaC, renO, bk, back, outUpsFrom, Ints_ren])
 | exact fs_nil trivial rfl
 | fail)
theorem isChild_spec (x : Nd) (hc : -9223372036854775808 ≤ x.c ∧ x.c ≤ 9223372036854775807) (hn : x.nm.length ≤ 1000000000) : FnSpec Tryz.prog 92 [.agg (ndc x)] [] (b1 (nmOk x.nm && kdOk x && rngOk x)) [] := by
  have h1 := inRange_spec x hc
  have h2 := valid_spec x.nm (by omega)
  unfold kdOk
  obtain ⟨xi, xp, xn, xc, xk, xo⟩ := x
  simp only [ndc] at h1 h2 ⊢
  generalize rngOk ⟨xi, xp, xn, xc, xk, xo⟩ = r at *
  cases hv : nmOk xn with
  | false =>
    rw [hv] at h2
    simp only [zaG]
    refine fnspec_of mixed TT_ok TT_cl ⟨fun _ => false, fun _ => [], 0, fun _ => false, fun _ => false⟩ Tryz.func92 rfl (by kernel_rfl) rfl 20 rfl [.tmp 2] rfl ?_
    simp only [go_sem, zaa, zae, zaf, zag, zah, zad, ↓reduceIte, reduceCtorEq, zab, zac, zai, zaj, zak]
    repeat' (first
 | (apply cl_plain
    case hs => rfl
    case ha => (simp only [zan, zao, prepV, prepC, idx, hpL', lookR, zaa, if_true, if_false]; rfl)
    case h => (first | exact h2 ..))
 | ((first | refine s1_id ?_ | refine swp_id ?_ | refine sops_id ?_ | refine s2_id ?_); simp only [zaK, zaM, zay, zaJ, zaL, zaH, zaI, zaF, zaO, zaT, zaE, zaN, go_sem, zaa, zae, zaf, zag, zah, zad, ↓reduceIte, reduceCtorEq, zab, zac, zai, zaj, zak, zaB, zaD, zax, zaC, renO, bk, back, outUpsFrom, Ints_ren])
 | exact fs_nil trivial rfl
 | fail)
  | true =>
    rw [hv] at h2
    simp only [zaS]
    cases hb : (decide (xk = 0) || decide (xk = 1)) with
    | false =>
      rw [zaG]
      refine fnspec_of mixed TT_ok TT_cl ⟨fun _ => false, fun _ => [], 0, fun _ => false, fun _ => false⟩ Tryz.func92 rfl (by kernel_rfl) rfl 20 rfl [.tmp 2] rfl ?_
      simp only [go_sem, zaa, zae, zaf, zag, zah, zad, ↓reduceIte, reduceCtorEq, zab, zac, zai, zaj, zak, hb]
      repeat' (first
 | (apply cl_plain
    case hs => rfl
    case ha => (simp only [zan, zao, prepV, prepC, idx, hpL', lookR, zaa, if_true, if_false]; rfl)
    case h => (first | exact h1 .. | exact h2 ..))
 | ((first | refine s1_id ?_ | refine swp_id ?_ | refine sops_id ?_ | refine s2_id ?_); simp only [hb, zaK, zaM, zay, zaJ, zaL, zaH, zaI, zaF, zaO, zaT, zaE, zaN, go_sem, zaa, zae, zaf, zag, zah, zad, ↓reduceIte, reduceCtorEq, zab, zac, zai, zaj, zak, zaB, zaD, zax, zaC, renO, bk, back, outUpsFrom, Ints_ren])
 | exact fs_nil trivial rfl
 | fail)
    | true =>
      rw [zaS]
      refine fnspec_of mixed TT_ok TT_cl ⟨fun _ => false, fun _ => [], 0, fun _ => false, fun _ => false⟩ Tryz.func92 rfl (by kernel_rfl) rfl 20 rfl [.tmp 2] rfl ?_
      simp only [go_sem, zaa, zae, zaf, zag, zah, zad, ↓reduceIte, reduceCtorEq, zab, zac, zai, zaj, zak, hb]
      repeat' (first
 | (apply cg_tp
    case hl => rfl
    case ha => (simp only [zan, zao, prepV, prepC, idx, hpL', lookR, zaa, if_true, if_false]; rfl)
    case hs => rfl
    case h => (first | exact h1 .. | exact h2 ..))
 | (apply cl_plain
    case hs => rfl
    case ha => (simp only [zan, zao, prepV, prepC, idx, hpL', lookR, zaa, if_true, if_false]; rfl)
    case h => (first | exact h1 .. | exact h2 ..))
 | ((first | refine s1_id ?_ | refine swp_id ?_ | refine sops_id ?_ | refine s2_id ?_); simp only [hb, zaK, zaM, zay, zaJ, zaL, zaH, zaI, zaF, zaO, zaT, zaE, zaN, go_sem, zaa, zae, zaf, zag, zah, zad, ↓reduceIte, reduceCtorEq, zab, zac, zai, zaj, zak, zaB, zaD, zax, zaC, renO, bk, back, outUpsFrom, Ints_ren])
 | exact fs_nil trivial rfl
 | fail)
set_option maxHeartbeats 4000000 in
theorem taken_spec (l : List Nd) (k : Option Nat) (p : Int) (s : Str) (hl : l.length ≤ 1000000) : FnSpec Tryz.prog 93 [gr l k, i1 p, s1 s] [] (b1 (l.any (same1 p s))) [] := by
  have hnl := nd_len l
  refine fnspec_of mixed TT_ok TT_cl ⟨fun _ => false, fun _ => [], 0, fun _ => false, fun _ => false⟩ Tryz.func93 rfl (by kernel_rfl) rfl 30 rfl [.tmp 6] rfl ?_
  simp only [go_sem, zaa, zae, zaf, zag, zah, zad, ↓reduceIte, reduceCtorEq, zab, zac, zai, zaj, zak]
  repeat' (first
 | (intros; (try simp only [zau, zaw, zav, zat, zaq, zar, decide_eq_true_eq, decide_eq_false_iff_not] at *); omega))
  refine w_loop (ι := Nat) (fun m => ⟨[(0, gr l k), (1, i1 p), (2, s1 s), (9, i1 l.length), (10, i1 m)], [], 0⟩) (fun m => m ≤ l.length ∧ (l.take m).any (same1 p s) = false) (fun m => l.length - m) 0 ?_ ⟨zaU _, rfl⟩ ?_
  · (refine imp_ren _ _ _ [] (by simp) (by simp) (by simp) (zas rfl) ?_ rfl (by simp only [zal, zap, false_implies, implies_true, and_true, zaP, lookR, zaa, if_true, if_false, ↓reduceIte] <;> (repeat' apply zam) <;> (first | rfl | trivial)) (by simp only [zal, zap, false_implies, implies_true, and_true, true_and, flat_cons, flat_nil, flat_ints, flat_bools, flat_app, zaA, and_self, eq_self_iff_true, zay]); simp only [zan, zao, zal, zap, false_implies, implies_true, and_true, lk, slot, zaB, zax, toN, zaa, if_true, if_false, ↓reduceIte, reduceCtorEq])
    all_goals ((repeat' apply zam) <;> (first | rfl | trivial))
  rintro m ⟨hm, hno⟩
  simp only at hm hno ⊢
  rcases zaX m l.length with hlt | hge
  case inr =>
    have c : ¬ (m : Int) < (l.length : Int) := by omega
    rw [List.take_of_length_le hge] at hno
    rw [hno]
    simp only [go_sem, zaa, zae, zaf, zag, zah, zad, ↓reduceIte, reduceCtorEq, zab, zac, zai, zaj, zak, decide_eq_false c]
    repeat' (first
 | exact fs_nil trivial rfl
 | fail)
  have c : (m : Int) < (l.length : Int) := by omega
  obtain ⟨_, g2, _⟩ := nd_f l m hlt (.sc (.int .i64 0))
  have g3 := (nd_f l m hlt (.sc (.string (bs [])))).2.2.1
  have hs2 := any_take_succ l m hlt (same1 p s)
  have hsm : same1 p s (gN l m) = (decide ((gN l m).p = p) && decide ((gN l m).nm = s)) := rfl
  rw [hno, Bool.false_or] at hs2
  cases hdup : same1 p s (gN l m) with
  | true =>
    have hany : l.any (same1 p s) = true := List.any_eq_true.2 ⟨gN l m, getD_mem l m zn hlt, hdup⟩
    rw [hany]
    rw [hsm] at hdup
    simp only [go_sem, zaa, zae, zaf, zag, zah, zad, ↓reduceIte, reduceCtorEq, zab, zac, zai, zaj, zak, decide_eq_true c, g2, g3, hdup]
    repeat' (first
 | with_reducible refine zam ?_ ?_
 | (intros; omega)
 | exact fs_nil trivial rfl
 | fail)
  | false =>
    rw [hdup] at hs2
    rw [hsm] at hdup
    simp only [go_sem, zaa, zae, zaf, zag, zah, zad, ↓reduceIte, reduceCtorEq, zab, zac, zai, zaj, zak, decide_eq_true c, g2, g3, hdup]
    repeat' (first
 | with_reducible refine zam ?_ ?_
 | (intros; omega)
 | (intros; (try simp only [zau, zaw, zav, zat, zaq, zar, decide_eq_true_eq, decide_eq_false_iff_not] at *); omega))
    refine le_mk (m + 1) ?_ ⟨hlt, hs2⟩ (by omega)
    (refine imp_ren _ _ _ [] (by simp) (by simp) (by simp) (zas rfl) ?_ rfl (by simp only [zal, zap, false_implies, implies_true, and_true, zaP, lookR, zaa, if_true, if_false, ↓reduceIte] <;> (repeat' apply zam) <;> (first | rfl | trivial)) (by simp only [zal, zap, false_implies, implies_true, and_true, true_and, flat_cons, flat_nil, flat_ints, flat_bools, flat_app, zaA, and_self, eq_self_iff_true, zay]); simp only [zan, zao, zal, zap, false_implies, implies_true, and_true, lk, slot, zaB, zax, toN, zaa, if_true, if_false, ↓reduceIte, reduceCtorEq])
    all_goals ((repeat' apply zam) <;> (first | rfl | trivial | (simp only [zaz]; done) | (simp only [zaz]; rfl) | (simp only [zaz]; trivial)))
set_option maxHeartbeats 4000000 in
theorem nd_bs (g : FuncId) (xs : List (Nd)) (id : Int) (hg : ∀ x ∈ xs, FnSpec Tryz.prog g [.agg (Rec.cs x), i1 id] [] (i1 (cmpv (Nd.i x) id)) []) (cap : Option Nat)
    (hl : xs.length ≤ 4611686018427387904) : FnSpec Tryz.prog 105 [gr xs cap, i1 id, .one (.fn g [])] [] (.tup [i1 (bsV Nd.i xs id), b1 (bsF Nd.i xs id)]) [] := by
  have hil : (Cs xs).length = xs.length * 6 := Cs_len xs
  refine fnspec_of mixed TT_ok TT_cl ⟨fun _ => false, fun _ => [], 0, fun _ => false, fun _ => false⟩ Tryz.func105 rfl (by kernel_rfl) rfl 49 rfl [.tmp 6, .tmp 7] rfl ?_
  simp only [go_sem, zaa, zae, zaf, zag, zah, zad, ↓reduceIte, reduceCtorEq, zab, zac, zai, zaj, zak]
  repeat' (first
 | (intros; (try simp only [zau, zaw, zav, zat, zaq, zar, decide_eq_true_eq, decide_eq_false_iff_not] at *); omega))
  refine w_loop (ι := Nat × Nat) (fun s => ⟨[(0, gr xs cap), (1, i1 id), (2, .one (.fn g [])), (8, i1 xs.length), (9, i1 s.1), (10, i1 s.2)], [], 0⟩) (fun s => s.1 ≤ s.2 ∧ s.2 ≤ xs.length ∧ bsG (fun i => Nd.i (xs.getD i Rec.z)) id (s.2 - s.1) s.1 s.2 = bsV Nd.i xs id) (fun s => s.2 - s.1) (0, xs.length) ?_ ⟨zaU _, zbb _, rfl⟩ ?_
  · (refine imp_ren _ _ _ [] (by simp) (by simp) (by simp) (zas rfl) ?_ rfl (by simp only [zal, zap, false_implies, implies_true, and_true, zaP, lookR, zaa, if_true, if_false, ↓reduceIte] <;> (repeat' apply zam) <;> (first | rfl | trivial)) (by simp only [zal, zap, false_implies, implies_true, and_true, true_and, flat_cons, flat_nil, flat_ints, flat_bools, flat_app, zaA, and_self, eq_self_iff_true, zay]); simp only [zan, zao, zal, zap, false_implies, implies_true, and_true, lk, slot, zaB, zax, toN, zaa, if_true, if_false, ↓reduceIte, reduceCtorEq])
    all_goals ((repeat' apply zam) <;> (first | rfl | trivial))
  rintro ⟨i, j⟩ ⟨hij, hjl, hb⟩
  simp only at hij hjl hb ⊢
  by_cases hlt : i < j
  · have hlt' : (i : Int) < (j : Int) := by omega
    have hsh : ((i : Int) + j).fdiv (2 ^ min (Int.toNat 1) 64) = (((i + j) / 2 : Nat) : Int) := by
      have e : (2 : Int) ^ min (Int.toNat 1) 64 = 2 := rfl
      rw [e, Int.fdiv_eq_ediv_of_nonneg _ (by omega)]; omega
    obtain ⟨h, hh⟩ : ∃ h, h = (i + j) / 2 := ⟨_, rfl⟩
    rw [← hh] at hsh
    have hhl : h < xs.length := by omega
    have hat : List.take 6 (List.drop (h * 6) (Cs xs)) = Rec.cs (xs.getD h Rec.z) := Cs_td xs h hhl
    have hhi : (h : Int) < (xs.length : Int) := by omega
    have hb' := bsG_fuel (fun i => Nd.i (xs.getD i Rec.z)) id (j - i) (j - i - 1 + 1) i j (zbb _) (by omega)
    rw [hb, bsG, if_pos hlt, ← hh] at hb'
    have hix := hg _ (getD_mem xs h Rec.z hhl)
    obtain ⟨b, hbb⟩ : ∃ b, xs.getD h Rec.z = b := ⟨_, rfl⟩
    rw [hbb] at hat hix hb'
    have hcs : Rec.cs b = [int b.i, int b.p, st b.nm, int b.c, int b.k, int b.o] := rfl
    rw [hcs] at hat hix
    have hcl := cmpv_lt (Nd.i b) id
    by_cases hc : Nd.i b < id
    · rw [if_pos hc] at hb'
      rw [decide_eq_true hc] at hcl
      generalize cmpv (Nd.i b) id = cv at *
      simp only [go_sem, zaa, zae, zaf, zag, zah, zad, ↓reduceIte, reduceCtorEq, zab, zac, zai, zaj, zak, decide_eq_true hlt', hsh, hat]
      repeat' (first
 | with_reducible refine zam ?_ ?_
 | (apply cl_plain
    case hs => rfl
    case ha => (simp only [zan, zao, prepV, prepC, idx, hpL', lookR, zaa, if_true, if_false]; rfl)
    case h => (first | exact hix ..))
 | ((first | refine s1_id ?_ | refine swp_id ?_ | refine sops_id ?_ | refine s2_id ?_); simp only [decide_eq_true hlt', hsh, hat, hcl, go_sem, zaa, zae, zaf, zag, zah, zad, ↓reduceIte, reduceCtorEq, zab, zac, zai, zaj, zak, zaB, zaD, zax, zaC, renO, bk, back, outUpsFrom, Ints_ren])
 | (intros; omega)
 | (intros; (try simp only [zau, zaw, zav, zat, zaq, zar, decide_eq_true_eq, decide_eq_false_iff_not] at *); omega))
      refine le_mk (h + 1, j) ?_ ⟨by show h + 1 ≤ j; omega, hjl, by show bsG _ id (j - (h + 1)) (h + 1) j = bsV Nd.i xs id; rw [hb']; exact bsG_fuel _ id _ _ _ _ (zbb _) (by omega)⟩ (by show j - (h + 1) < j - i; omega)
      (refine imp_ren _ _ _ [] (by simp) (by simp) (by simp) (zas rfl) ?_ rfl (by simp only [zal, zap, false_implies, implies_true, and_true, zaP, lookR, zaa, if_true, if_false, ↓reduceIte] <;> (repeat' apply zam) <;> (first | rfl | trivial)) (by simp only [zal, zap, false_implies, implies_true, and_true, true_and, flat_cons, flat_nil, flat_ints, flat_bools, flat_app, zaA, and_self, eq_self_iff_true, zay]); simp only [zan, zao, zal, zap, false_implies, implies_true, and_true, lk, slot, zaB, zax, toN, zaa, if_true, if_false, ↓reduceIte, reduceCtorEq])
      all_goals ((repeat' apply zam) <;> (first | rfl | trivial | (simp only [zaz]; done) | (simp only [zaz]; rfl) | (simp only [zaz]; trivial)))
    · rw [if_neg hc] at hb'
      rw [decide_eq_false hc] at hcl
      generalize cmpv (Nd.i b) id = cv at *
      simp only [go_sem, zaa, zae, zaf, zag, zah, zad, ↓reduceIte, reduceCtorEq, zab, zac, zai, zaj, zak, decide_eq_true hlt', hsh, hat]
      repeat' (first
 | with_reducible refine zam ?_ ?_
 | (apply cl_plain
    case hs => rfl
    case ha => (simp only [zan, zao, prepV, prepC, idx, hpL', lookR, zaa, if_true, if_false]; rfl)
    case h => (first | exact hix ..))
 | ((first | refine s1_id ?_ | refine swp_id ?_ | refine sops_id ?_ | refine s2_id ?_); simp only [decide_eq_true hlt', hsh, hat, hcl, go_sem, zaa, zae, zaf, zag, zah, zad, ↓reduceIte, reduceCtorEq, zab, zac, zai, zaj, zak, zaB, zaD, zax, zaC, renO, bk, back, outUpsFrom, Ints_ren])
 | (intros; omega)
 | (intros; (try simp only [zau, zaw, zav, zat, zaq, zar, decide_eq_true_eq, decide_eq_false_iff_not] at *); omega))
      refine le_mk (i, h) ?_ ⟨by show i ≤ h; omega, by show h ≤ xs.length; omega, by show bsG _ id (h - i) i h = bsV Nd.i xs id; rw [hb']; exact bsG_fuel _ id _ _ _ _ (zbb _) (by omega)⟩ (by show h - i < j - i; omega)
      (refine imp_ren _ _ _ [] (by simp) (by simp) (by simp) (zas rfl) ?_ rfl (by simp only [zal, zap, false_implies, implies_true, and_true, zaP, lookR, zaa, if_true, if_false, ↓reduceIte] <;> (repeat' apply zam) <;> (first | rfl | trivial)) (by simp only [zal, zap, false_implies, implies_true, and_true, true_and, flat_cons, flat_nil, flat_ints, flat_bools, flat_app, zaA, and_self, eq_self_iff_true, zay]); simp only [zan, zao, zal, zap, false_implies, implies_true, and_true, lk, slot, zaB, zax, toN, zaa, if_true, if_false, ↓reduceIte, reduceCtorEq])
      all_goals ((repeat' apply zam) <;> (first | rfl | trivial))
  · have hlt' : ¬ (i : Int) < (j : Int) := by omega
    have hi : i = bsV Nd.i xs id := by
      have e : j - i = 0 := by omega
      rw [e] at hb
      exact hb
    subst hi
    unfold bsF
    by_cases hin : bsV Nd.i xs id < xs.length
    · have hin' : ((bsV Nd.i xs id : Nat) : Int) < (xs.length : Int) := by omega
      have hat : List.take 6 (List.drop (bsV Nd.i xs id * 6) (Cs xs)) = Rec.cs (xs.getD (bsV Nd.i xs id) Rec.z) := Cs_td xs _ hin
      have hix := hg _ (getD_mem xs (bsV Nd.i xs id) Rec.z hin)
      rw [decide_eq_true hin, zaS]
      obtain ⟨b, hbb⟩ : ∃ b, xs.getD (bsV Nd.i xs id) Rec.z = b := ⟨_, rfl⟩
      rw [hbb] at hat hix ⊢
      have hcs : Rec.cs b = [int b.i, int b.p, st b.nm, int b.c, int b.k, int b.o] := rfl
      rw [hcs] at hat hix
      have hce := cmpv_eq (Nd.i b) id
      generalize cmpv (Nd.i b) id = cv at *
      generalize bsV Nd.i xs id = v at *
      simp only [go_sem, zaa, zae, zaf, zag, zah, zad, ↓reduceIte, reduceCtorEq, zab, zac, zai, zaj, zak, decide_eq_false hlt', decide_eq_true hin', hat]
      repeat' (first
 | with_reducible refine zam ?_ ?_
 | (apply cg_tp
    case hl => rfl
    case ha => (simp only [zan, zao, prepV, prepC, idx, hpL', lookR, zaa, if_true, if_false]; rfl)
    case hs => rfl
    case h => (first | exact hix ..))
 | ((first | refine s1_id ?_ | refine swp_id ?_ | refine sops_id ?_ | refine s2_id ?_); simp only [decide_eq_false hlt', decide_eq_true hin', hat, hce, go_sem, zaa, zae, zaf, zag, zah, zad, ↓reduceIte, reduceCtorEq, zab, zac, zai, zaj, zak, zaB, zaD, zax, zaC, renO, bk, back, outUpsFrom, Ints_ren])
 | (intros; omega)
 | exact fs_nil trivial rfl
 | fail)
    · have hin' : ¬ ((bsV Nd.i xs id : Nat) : Int) < (xs.length : Int) := by omega
      rw [decide_eq_false hin, zaG]
      generalize bsV Nd.i xs id = v at *
      simp only [go_sem, zaa, zae, zaf, zag, zah, zad, ↓reduceIte, reduceCtorEq, zab, zac, zai, zaj, zak, decide_eq_false hlt', decide_eq_false hin']
      repeat' (first
 | exact fs_nil trivial rfl
 | fail)
theorem tix_spec (x : Nd) (id : Int) : FnSpec Tryz.prog 106 [.agg (Rec.cs x), i1 id] [] (i1 (cmpv (Nd.i x) id)) [] := by
  show FnSpec Tryz.prog 106 [.agg (ndc x), i1 id] [] (i1 (cmpv (Nd.i x) id)) []
  obtain ⟨xi, xp, xn, xc, xk, xo⟩ := x
  simp only [ndc]
  have h1 := cmp_spec xi id
  refine fnspec_of mixed TT_ok TT_cl ⟨fun _ => false, fun _ => [], 0, fun _ => false, fun _ => false⟩ Tryz.func106 rfl (by kernel_rfl) rfl 9 rfl [.tmp 4] rfl ?_
  simp only [go_sem, zaa, zae, zaf, zag, zah, zad, ↓reduceIte, reduceCtorEq, zab, zac, zai, zaj, zak]
  repeat' (first
 | (apply cl_plain
    case hs => rfl
    case ha => (simp only [zan, zao, prepV, prepC, idx, hpL', lookR, zaa, if_true, if_false]; rfl)
    case h => (first | exact h1 ..))
 | ((first | refine s1_id ?_ | refine swp_id ?_ | refine sops_id ?_ | refine s2_id ?_); simp only [zaK, zaM, zay, zaJ, zaL, zaH, zaI, zaF, zaO, zaT, zaE, zaN, go_sem, zaa, zae, zaf, zag, zah, zad, ↓reduceIte, reduceCtorEq, zab, zac, zai, zaj, zak, zaB, zaD, zax, zaC, renO, bk, back, outUpsFrom, Ints_ren])
 | exact fs_nil trivial rfl
 | fail)
theorem index_spec (l : List Nd) (k : Option Nat) (id : Int) (hl : l.length ≤ 1000000) : FnSpec Tryz.prog 91 [gr l k, i1 id] [] (.tup [i1 (bsV Nd.i l id), b1 (bsF Nd.i l id)]) [] := by
  have h1 := nd_bs 106 l id (fun x _ => tix_spec x id) k (by omega)
  refine fnspec_of mixed TT_ok TT_cl ⟨fun _ => false, fun _ => [], 0, fun _ => false, fun _ => false⟩ Tryz.func91 rfl (by kernel_rfl) rfl 11 rfl [.tmp 4, .tmp 5] rfl ?_
  simp only [go_sem, zaa, zae, zaf, zag, zah, zad, ↓reduceIte, reduceCtorEq, zab, zac, zai, zaj, zak]
  repeat' (first
 | (apply cl_plain
    case hs => rfl
    case ha => (simp only [zan, zao, prepV, prepC, idx, hpL', lookR, zaa, if_true, if_false]; rfl)
    case h => (first | exact h1 ..))
 | ((first | refine s1_id ?_ | refine swp_id ?_ | refine sops_id ?_ | refine s2_id ?_); simp only [go_sem, zaa, zae, zaf, zag, zah, zad, ↓reduceIte, reduceCtorEq, zab, zac, zai, zaj, zak, zaB, zaD, zax, zaC, renO, bk, back, outUpsFrom, Ints_ren])
 | exact fs_nil trivial rfl
 | fail)
end Go.Proofs.YtcnilpdlcmpbbaaGreat
