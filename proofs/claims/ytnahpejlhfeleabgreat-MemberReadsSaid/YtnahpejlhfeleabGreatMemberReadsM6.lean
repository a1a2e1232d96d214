/- Contracts of functions, told of values, on the way to MemberReads (part 6). -/
import Derived.Test.YtnahpejlhfeleabGreatMemberReadsM3
import Derived.Test.YtnahpejlhfeleabGreatMemberReadsM5
namespace Go.Proofs.YtnahpejlhfeleabGreat
theorem yfa {p : Prop} (h : p := by first | (refine fs_w ?h1 (svw_of ?h2); (case h1 => repeat' (first | exact trivial | exact rfl | exact zaE rfl | apply zaD)); (case h2 => repeat' (first | ((with_reducible refine (?_ : CW _ _)); first | exact cw_gnil | exact cw_rfl _ | exact cw_niln _ _ | exact cw_cap _ _ _ _) | exact trivial | (show _ ∧ SWL _ _; apply zaD) | (show _ ∧ CWL _ _; apply zaD) | show CW _ _))) | fail) : p := h
theorem yfb {p : Prop} (h : p := by first | (intros; (try simp only [zaH, zaJ, zaG, zaF, zaB, zaC, decide_eq_true_eq, decide_eq_false_iff_not] at *); omega) | fail) : p := h
theorem yfc {p : Prop} (h : p := by first | (simp only [zaw, zaz, prepV, prepC, idx, hpL', lookR, zaa, if_true, if_false]; rfl) | fail) : p := h
theorem yfd {p : Prop} (h : p := by first | (first | exact h1 ..) | fail) : p := h
theorem yfe {p : Prop} (h : p := by first | (intros; omega) | fail) : p := h
theorem yff {p : Prop} (h : p := by first | (first | exact h1 .. | exact h2 .. | exact h3 ..) | fail) : p := h
theorem yfg {p : Prop} (h : p := by first | (first | exact h1 .. | exact h2 ..) | fail) : p := h
theorem yfh {p : Prop} (h : p := by first | (first | exact h1 .. | exact h2 .. | exact h3 .. | exact h4 ..) | fail) : p := h
theorem yfi {p : Prop} (h : p := by first | ((simp [snaps, SV.refs, zaO, idx, hpL', lookR]) <;> (repeat' apply zaD) <;> (first | exact Ints_isG _ | exact Cs_isG _)) | fail) : p := h
theorem yfj {p : Prop} (h : p := by first | ((simp [SV.noG, SV.noGL, Cell.noG]) <;> (repeat' apply zaD) <;> exact Ints_noG _) | fail) : p := h
theorem yfk {p : Prop} (h : p := by first | (first | exact h2 .. | exact h3 ..) | fail) : p := h
end Go.Proofs.YtnahpejlhfeleabGreat
-- short names of the library's lemmas
open Nat renaming reduceEqDiff → zaa, reduceLeDiff → zad, reduceAdd → zak, reduceSub → zal, reduceMul → zam, reduceLT → zas, le_of_ble_eq_true → zaE, lt_or_ge → zaU, zero_le → zaV
open List renaming reduceReplicate → zab, take_succ_cons → zae, set_cons_zero → zaf, set_cons_succ → zag, append_nil → zah, flatten_cons → zai, length_nil → zaj, length_cons → zan, flatten_nil → zao, cons_append → zap, forall_mem_cons → zaq, nil_append → zar, map_cons → zaw, not_mem_nil → zax, take_zero → zay, map_nil → zaz, take_nil → zaA, getD_cons_zero → zaQ, getD_cons_succ → zaR, length_take → zaX, drop_of_length_le → zaY, replicate → zba, length_map → zbb
open Int renaming cast_ofNat_Int → zac, reduceEq → zat, reduceLT → zau, reduceLE → zav, natCast_add → zaI
open Option renaming getD_some → zaS, getD_none → zaT
open Bool renaming and_eq_false_iff → zaB, or_eq_false_iff → zaC, not_eq_false' → zaF, not_eq_true' → zaG, and_eq_true → zaH, or_eq_true → zaJ, false_or → zaZ, true_or → zbd, true_and → zbe
open And renaming intro → zaD
open Go.Proofs.YtnahpejlhfeleabGreat.Sh.Cell renaming ren → zaK, refs → zaO, sc → zaW, frz → zbc, isG → zbf
open Go.Proofs.YtnahpejlhfeleabGreat.Sh.SV renaming ren → zaM, renL → zaN
open Go.Proofs.YtnahpejlhfeleabGreat.Sh.Row renaming ren → zaL
open Go.Proofs.YtnahpejlhfeleabGreat.Sh.St renaming hpF → zaP
set_option linter.unusedSimpArgs false
set_option linter.unusedVariables false
namespace Go.Proofs.YtnahpejlhfeleabGreat
open Go.Proofs.YtnahpejlhfeleabGreat.Sh
set_option maxRecDepth 20000
theorem find_bs {T : List Tk} (h : T.Pairwise (fun x y => x.i < y.i)) (t : Int) : T.find? (fun y => decide (y.i = t)) = if bsF Tk.i T t = true then some (gT T (bsV Tk.i T t)) else none := by
 cases hf : T.find? (fun y => decide (y.i = t)) with
 | none =>
   have hn := List.find?_eq_none.1 hf
   rw [bs_not Tk.i T t (fun y hy e => hn y hy (decide_eq_true e)), if_neg (by decide)]
 | some y =>
   have hy := List.mem_of_find?_eq_some hf
   have hp : y.i = t := by
     have := List.find?_some hf
     simpa using this
   obtain ⟨s, hs, es⟩ := List.getElem_of_mem hy
   have e1 : T.getD s Rec.z = y := by rw [← es]; exact getD_at T s Rec.z hs
   obtain ⟨b1', b2'⟩ := bs_found Tk.i T (pw_ix h) s hs
   rw [e1, hp] at b1' b2'
   rw [b1', b2', if_pos rfl, show gT T s = y from e1]
theorem hy_p {l : List Nd} {n : Int} {T : List Tk} {h : Int} (hv : hyM l n T h = true) {x : Tk} (hx : x ∈ T) : x.p ≠ 0 := by
 unfold hyM at hv
 simp only [zaH, zaG] at hv
 have hst : stB l T x = false := Bool.eq_false_iff.2 (fun e => by
   have := List.any_eq_true.2 ⟨x, hx, e⟩
   rw [hv.2.2.2.2.2] at this; cases this)
 unfold stB ldB at hst
 simp only [zaC, zaF, zaH] at hst
 obtain ⟨h1, h2⟩ := bsF_at Tk.i T x.p hst.2.1
 have := (tas_gt T 0 hv.2.2.1).1 _ (getD_mem T _ ztk h1)
 have h2 : (T.getD (bsV Tk.i T x.p) ztk).i = x.p := h2
 omega
theorem rspawn6_spec (l : List Nd) (n : Int) (T : List Tk) (h g u : Int) (hl : l.length ≤ 1000000) (hT : T.length ≤ 1000000) (hnm : NmR l) : FnSpec Tryz.prog 33 [hyV l none n T none h, i1 g, i1 u] [] (.tup [hyQ (spR l n T h g u).1, i1 (spR l n T h g u).2.1, i1 (spR l n T h g u).2.2]) [] := by
 have h1 := rcheck6 l n T h hl (by omega) hnm
 unfold spR
 cases hv : hyM l n T h with
 | false =>
   rw [hv] at h1
   rw [if_neg (by decide)]
   simp only [Cs_nil, zaj]
   refine fnspec_of mixed TT_ok TT_cl ⟨fun _ => false, fun _ => [], 0, fun _ => false, fun _ => false⟩ Tryz.func33 rfl (by kernel_rfl) rfl 35 rfl [.cell 6 28, .tmp 7, .tmp 8] rfl ?_
   simp only [go_sem, zaa, zak, zal, zam, zas, zad, ↓reduceIte, reduceCtorEq, zab, zac, zat, zau, zav]
   repeat' (first
 | (apply cl_plain
    case hs => rfl
    case ha => exact yfc
    case h => exact yfd)
 | ((first | refine s1_id ?_ | refine swp_id ?_ | refine sops_id ?_ | refine s2_id ?_); simp only [zai, zao, zah, zap, zar, zaf, zag, zae, zay, zaA, zan, zaj, go_sem, zaa, zak, zal, zam, zas, zad, ↓reduceIte, reduceCtorEq, zab, zac, zat, zau, zav, zaM, zaN, zaK, zaL, renO, bk, back, outUpsFrom, Ints_ren])
 | exact yfb | fail)
   repeat' (first
 | exact yfa
 | fail)
 | true =>
 rw [hv] at h1
 rw [if_pos rfl]
 obtain ⟨hV, hTl, hh1, hh2, _⟩ := hy_all hv
 by_cases u1 : u < 0
 · rw [if_neg (by omega)]
   simp only [Cs_nil, zaj]
   refine fnspec_of mixed TT_ok TT_cl ⟨fun _ => false, fun _ => [], 0, fun _ => false, fun _ => false⟩ Tryz.func33 rfl (by kernel_rfl) rfl 35 rfl [.cell 6 28, .tmp 7, .tmp 8] rfl ?_
   simp only [go_sem, zaa, zak, zal, zam, zas, zad, ↓reduceIte, reduceCtorEq, zab, zac, zat, zau, zav, decide_eq_true u1]
   repeat' (first
 | (apply cl_plain
    case hs => rfl
    case ha => exact yfc
    case h => exact yfd)
 | ((first | refine s1_id ?_ | refine swp_id ?_ | refine sops_id ?_ | refine s2_id ?_); simp only [decide_eq_true u1, zai, zao, zah, zap, zar, zaf, zag, zae, zay, zaA, zan, zaj, go_sem, zaa, zak, zal, zam, zas, zad, ↓reduceIte, reduceCtorEq, zab, zac, zat, zau, zav, zaM, zaN, zaK, zaL, renO, bk, back, outUpsFrom, Ints_ren])
 | exact yfb | fail)
   repeat' (first
 | exact yfa
 | fail)
 by_cases u2 : 1048576 < u
 · rw [if_neg (by omega)]
   simp only [Cs_nil, zaj]
   refine fnspec_of mixed TT_ok TT_cl ⟨fun _ => false, fun _ => [], 0, fun _ => false, fun _ => false⟩ Tryz.func33 rfl (by kernel_rfl) rfl 35 rfl [.cell 6 28, .tmp 7, .tmp 8] rfl ?_
   simp only [go_sem, zaa, zak, zal, zam, zas, zad, ↓reduceIte, reduceCtorEq, zab, zac, zat, zau, zav, decide_eq_false u1, decide_eq_true u2]
   repeat' (first
 | (apply cl_plain
    case hs => rfl
    case ha => exact yfc
    case h => exact yfd)
 | ((first | refine s1_id ?_ | refine swp_id ?_ | refine sops_id ?_ | refine s2_id ?_); simp only [decide_eq_false u1, decide_eq_true u2, zai, zao, zah, zap, zar, zaf, zag, zae, zay, zaA, zan, zaj, go_sem, zaa, zak, zal, zam, zas, zad, ↓reduceIte, reduceCtorEq, zab, zac, zat, zau, zav, zaM, zaN, zaK, zaL, renO, bk, back, outUpsFrom, Ints_ren])
 | exact yfb | fail)
   repeat' (first
 | exact yfa
 | fail)
 rw [if_pos (by omega)]
 have h2 := rhas_spec l none n g hl hnm
 rw [has_bs6 ((chkT_iff l n).2 hV)] at h2
 cases hb : bsF Nd.i l g with
 | false =>
   rw [hb] at h2
   rw [if_neg (by decide)]
   simp only [Cs_nil, zaj]
   refine fnspec_of mixed TT_ok TT_cl ⟨fun _ => false, fun _ => [], 0, fun _ => false, fun _ => false⟩ Tryz.func33 rfl (by kernel_rfl) rfl 35 rfl [.cell 6 28, .tmp 7, .tmp 8] rfl ?_
   simp only [go_sem, zaa, zak, zal, zam, zas, zad, ↓reduceIte, reduceCtorEq, zab, zac, zat, zau, zav, decide_eq_false u1, decide_eq_false u2]
   repeat' (first
 | (apply cl_plain
    case hs => rfl
    case ha => exact yfc
    case h => exact yfg)
 | ((first | refine s1_id ?_ | refine swp_id ?_ | refine sops_id ?_ | refine s2_id ?_); simp only [decide_eq_false u1, decide_eq_false u2, zai, zao, zah, zap, zar, zaf, zag, zae, zay, zaA, zan, zaj, go_sem, zaa, zak, zal, zam, zas, zad, ↓reduceIte, reduceCtorEq, zab, zac, zat, zau, zav, zaM, zaN, zaK, zaL, renO, bk, back, outUpsFrom, Ints_ren])
 | exact yfb | fail)
   repeat' (first
 | exact yfa
 | fail)
 | true =>
 rw [hb] at h2
 rw [if_pos rfl]
 have h3 := radd6_spec l n T h ⟨0, 0, g, u⟩ hV.ne hl hTl hh1
 rw [show rk6 h ⟨0, 0, g, u⟩ = ⟨h, h, g, u⟩ from rfl] at h3
 generalize adR l n T h ⟨h, h, g, u⟩ = q at *
 obtain ⟨⟨ql, qn, qT, qh⟩, qi, qe⟩ := q
 simp only [tkc] at h3 ⊢
 refine fnspec_of mixed TT_ok TT_cl ⟨fun _ => false, fun _ => [], 0, fun _ => false, fun _ => false⟩ Tryz.func33 rfl (by kernel_rfl) rfl 35 rfl [.cell 6 28, .tmp 7, .tmp 8] rfl ?_
 simp only [go_sem, zaa, zak, zal, zam, zas, zad, ↓reduceIte, reduceCtorEq, zab, zac, zat, zau, zav, decide_eq_false u1, decide_eq_false u2]
 repeat' (first
 | with_reducible refine zaD ?_ ?_
 | (apply cl_plain
    case hs => rfl
    case ha => exact yfc
    case h => exact yff)
 | ((first | refine s1_id ?_ | refine swp_id ?_ | refine sops_id ?_ | refine s2_id ?_); simp only [decide_eq_false u1, decide_eq_false u2, zai, zao, zah, zap, zar, zaf, zag, zae, zay, zaA, zan, zaj, go_sem, zaa, zak, zal, zam, zas, zad, ↓reduceIte, reduceCtorEq, zab, zac, zat, zau, zav, zaM, zaN, zaK, zaL, renO, bk, back, outUpsFrom, Ints_ren])
 | exact yfe
 | (apply fs_nil <;> (try simp only [go_sem, resV, resS, zaM, zaN, zaK, St.tmF, zaP, idx, renO, zaL, evS, slot, lookR, zaa, ↓reduceIte, reduceCtorEq, if_true, if_false, zaS, zaT, zaw, zaz, sLoad, readAt, readNeed, Ints_ren, Ints_length, Ints_getD, and_true, true_and, zaQ, zaR]) <;> (try rfl))
 | fail)
def fiR (l : List Nd) (n : Int) (T : List Tk) (h t : Int) : Tk × Bool := if hyM l n T h = true then (if bsF Tk.i T t = true then (gT T (bsV Tk.i T t), true) else (ztk, false)) else (ztk, false)
set_option maxHeartbeats 8000000 in
theorem rfind6_spec (l : List Nd) (n : Int) (T : List Tk) (h t : Int) (hl : l.length ≤ 1000000) (hT : T.length ≤ 1000000) (hnm : NmR l) : FnSpec Tryz.prog 16 [hyV l none n T none h, i1 t] [] (.tup [.agg (tkc (fiR l n T h t).1), b1 (fiR l n T h t).2]) [] := by
 have h1 := rcheck6 l n T h hl (by omega) hnm
 have hcl := tk_len T
 unfold fiR
 cases hv : hyM l n T h with
 | false =>
   rw [hv] at h1
   rw [if_neg (by decide)]
   refine fnspec_of mixed TT_ok TT_cl ⟨fun _ => false, fun _ => [], 0, fun _ => false, fun _ => false⟩ Tryz.func16 rfl (by kernel_rfl) rfl 32 rfl [.cell 4 40, .tmp 5] rfl ?_
   simp only [go_sem, zaa, zak, zal, zam, zas, zad, ↓reduceIte, reduceCtorEq, zab, zac, zat, zau, zav]
   repeat' (first
 | with_reducible refine zaD ?_ ?_
 | (apply cl_plain
    case hs => rfl
    case ha => exact yfc
    case h => exact yfd)
 | ((first | refine s1_id ?_ | refine swp_id ?_ | refine sops_id ?_ | refine s2_id ?_); simp only [zai, zao, zah, zap, zar, zaf, zag, zae, zay, zaA, zan, zaj, go_sem, zaa, zak, zal, zam, zas, zad, ↓reduceIte, reduceCtorEq, zab, zac, zat, zau, zav, zaM, zaN, zaK, zaL, renO, bk, back, outUpsFrom, Ints_ren])
 | exact yfe
 | (apply fs_nil <;> (try simp only [go_sem, resV, resS, zaM, zaN, zaK, St.tmF, zaP, idx, renO, zaL, evS, slot, lookR, zaa, ↓reduceIte, reduceCtorEq, if_true, if_false, zaS, zaT, zaw, zaz, sLoad, readAt, readNeed, Ints_ren, Ints_length, Ints_getD, and_true, true_and, zaQ, zaR]) <;> (try rfl))
 | fail)
 | true =>
 rw [hv] at h1
 rw [if_pos rfl]
 obtain ⟨_, _, _, _, hpw⟩ := hy_all hv
 have hfb := find_bs hpw t
 obtain ⟨Q, hQ⟩ : ∃ Q, T.find? (fun y => decide (y.i = t)) = Q := ⟨_, rfl⟩
 have hres : (if bsF Tk.i T t = true then (gT T (bsV Tk.i T t), true) else (ztk, false)) = (Q.getD ztk, Q.isSome) := by
   rw [← hQ, hfb]
   by_cases c : bsF Tk.i T t = true
   · rw [if_pos c, if_pos c]; rfl
   · rw [if_neg c, if_neg c]; rfl
 rw [hres]
 clear hres hfb
 refine fnspec_of mixed TT_ok TT_cl ⟨fun _ => false, fun _ => [], 0, fun _ => false, fun _ => false⟩ Tryz.func16 rfl (by kernel_rfl) rfl 32 rfl [.cell 4 40, .tmp 5] rfl ?_
 simp only [go_sem, zaa, zak, zal, zam, zas, zad, ↓reduceIte, reduceCtorEq, zab, zac, zat, zau, zav]
 repeat' (first
 | (apply cl_plain
    case hs => rfl
    case ha => exact yfc
    case h => exact yfd)
 | ((first | refine s1_id ?_ | refine swp_id ?_ | refine sops_id ?_ | refine s2_id ?_); simp only [zai, zao, zah, zap, zar, zaf, zag, zae, zay, zaA, zan, zaj, go_sem, zaa, zak, zal, zam, zas, zad, ↓reduceIte, reduceCtorEq, zab, zac, zat, zau, zav, zaM, zaN, zaK, zaL, renO, bk, back, outUpsFrom, Ints_ren])
 | exact yfb | fail)
 refine w_loop (ι := Nat) (fun m => ⟨[(1, i1 t), (2, .one (.optr 0 0)), (4, .one (.optr 1 0)), (6, i1 m)], [(0, some ⟨hyc l none n T none h, 4⟩), (1, some ⟨[int 0, int 0, int 0, int 0], 4⟩)], 2⟩) (fun m => m ≤ T.length ∧ (T.drop m).find? (fun y => decide (y.i = t)) = Q) (fun m => T.length - m) 0 ?_ ⟨zaV _, hQ⟩ ?_
 · (refine imp_ren _ _ _ [(0, 0, ⟨hyc l none n T none h, 4⟩), (1, 1, ⟨[int 0, int 0, int 0, int 0], 4⟩)] (by simp) (by simp) (by simp) (zaE rfl) ?_ rfl (by simp only [zaq, zax, false_implies, implies_true, and_true, zaP, lookR, zaa, if_true, if_false, ↓reduceIte] <;> (repeat' apply zaD) <;> (first | rfl | trivial)) (by simp only [zaq, zax, false_implies, implies_true, and_true, true_and, flat_cons, flat_nil, flat_ints, flat_bools, flat_app, zaO, and_self, eq_self_iff_true, zah]); simp only [zaw, zaz, zaq, zax, false_implies, implies_true, and_true, lk, slot, zaM, zaK, toN, zaa, if_true, if_false, ↓reduceIte, reduceCtorEq])
   all_goals ((repeat' apply zaD) <;> (first | rfl | trivial))
 clear h1 hQ
 rintro m ⟨hm, hI⟩
 simp only at hm hI ⊢
 rcases zaU m T.length with hlt | hge
 case inr =>
   have c : ¬ (m : Int) < (T.length : Int) := by omega
   rw [zaY hge] at hI
   have hI : none = Q := hI
   subst hI
   simp only [go_sem, zaa, zak, zal, zam, zas, zad, ↓reduceIte, reduceCtorEq, zab, zac, zat, zau, zav, zaT, Option.isSome_none, decide_eq_false c]
   repeat' (first
 | with_reducible refine zaD ?_ ?_
 | exact yfe
 | (apply fs_nil <;> (try simp only [go_sem, resV, resS, zaM, zaN, zaK, St.tmF, zaP, idx, renO, zaL, evS, slot, lookR, zaa, ↓reduceIte, reduceCtorEq, if_true, if_false, zaS, zaT, zaw, zaz, sLoad, readAt, readNeed, Ints_ren, Ints_length, Ints_getD, and_true, true_and, zaQ, zaR]) <;> (try rfl))
 | fail)
 have c : (m : Int) < (T.length : Int) := by omega
 have hat := tk_td T m hlt
 have q0 := tk_f T m 0 (.sc (.int .i64 0)) hlt (by decide)
 rw [Nat.add_zero] at q0
 have q0 : (Cs T).getD (m * 4) (.sc (.int .i64 0)) = int (gT T m).i := q0
 rw [ldr_drop hlt] at hI
 generalize gT T m = x at *
 obtain ⟨xi, xp, xg, xu⟩ := x
 simp only [tkc] at hat hI q0
 by_cases c1 : xi = t
 · rw [if_pos c1] at hI
   subst hI
   simp only [go_sem, zaa, zak, zal, zam, zas, zad, ↓reduceIte, reduceCtorEq, zab, zac, zat, zau, zav, zaS, Option.isSome_some, decide_eq_true c, decide_eq_true c1, q0, hat]
   repeat' (first
 | with_reducible refine zaD ?_ ?_
 | exact yfe
 | (apply fs_nil <;> (try simp only [go_sem, resV, resS, zaM, zaN, zaK, St.tmF, zaP, idx, renO, zaL, evS, slot, lookR, zaa, ↓reduceIte, reduceCtorEq, if_true, if_false, zaS, zaT, zaw, zaz, sLoad, readAt, readNeed, Ints_ren, Ints_length, Ints_getD, and_true, true_and, zaQ, zaR]) <;> (try rfl))
 | fail)
 · rw [if_neg c1] at hI
   simp only [go_sem, zaa, zak, zal, zam, zas, zad, ↓reduceIte, reduceCtorEq, zab, zac, zat, zau, zav, decide_eq_true c, decide_eq_false c1, q0]
   repeat' (first
 | with_reducible refine zaD ?_ ?_
 | exact yfe
 | exact yfb | fail)
   refine le_mk (m + 1) ?_ ⟨hlt, hI⟩ (by omega)
   (refine imp_ren _ _ _ [(0, 0, ⟨hyc l none n T none h, 4⟩), (1, 1, ⟨[int 0, int 0, int 0, int 0], 4⟩)] (by simp) (by simp) (by simp) (zaE rfl) ?_ rfl (by simp only [zaq, zax, false_implies, implies_true, and_true, zaP, lookR, zaa, if_true, if_false, ↓reduceIte] <;> (repeat' apply zaD) <;> (first | rfl | trivial)) (by simp only [zaq, zax, false_implies, implies_true, and_true, true_and, flat_cons, flat_nil, flat_ints, flat_bools, flat_app, zaO, and_self, eq_self_iff_true, zah]); simp only [zaw, zaz, zaq, zax, false_implies, implies_true, and_true, lk, slot, zaM, zaK, toN, zaa, if_true, if_false, ↓reduceIte, reduceCtorEq])
   all_goals ((repeat' apply zaD) <;> (first | rfl | trivial | (simp only [zaI]; done) | (simp only [zaI]; rfl) | (simp only [zaI]; trivial)))
theorem rclone6_spec (l : List Nd) (n : Int) (T : List Tk) (h t : Int) (hl : l.length ≤ 1000000) (hT : T.length ≤ 1000000) (hnm : NmR l) : FnSpec Tryz.prog 35 [hyV l none n T none h, i1 t] [] (.tup [hyQ (clR l n T h t).1, i1 (clR l n T h t).2.1, i1 (clR l n T h t).2.2]) [] := by
 have h1 := rcheck6 l n T h hl (by omega) hnm
 have h2 := rfind6_spec l n T h t hl hT hnm
 unfold fiR at h2
 unfold clR
 cases hv : hyM l n T h with
 | false =>
   rw [hv] at h1 h2
   rw [if_neg (by decide)] at h2 ⊢
   simp only [Cs_nil, zaj]
   refine fnspec_of mixed TT_ok TT_cl ⟨fun _ => false, fun _ => [], 0, fun _ => false, fun _ => false⟩ Tryz.func35 rfl (by kernel_rfl) rfl 28 rfl [.cell 4 28, .tmp 5, .tmp 6] rfl ?_
   simp only [go_sem, zaa, zak, zal, zam, zas, zad, ↓reduceIte, reduceCtorEq, zab, zac, zat, zau, zav]
   repeat' (first
 | (apply cl_plain
    case hs => rfl
    case ha => exact yfc
    case h => exact yfg)
 | ((first | refine s1_id ?_ | refine swp_id ?_ | refine sops_id ?_ | refine s2_id ?_); simp only [zai, zao, zah, zap, zar, zaf, zag, zae, zay, zaA, zan, zaj, go_sem, zaa, zak, zal, zam, zas, zad, ↓reduceIte, reduceCtorEq, zab, zac, zat, zau, zav, zaM, zaN, zaK, zaL, renO, bk, back, outUpsFrom, Ints_ren])
 | exact yfb | fail)
   repeat' (first
 | exact yfa
 | fail)
 | true =>
 rw [hv] at h1 h2
 rw [if_pos rfl] at h2 ⊢
 obtain ⟨hV, hTl, hh1, hh2, _⟩ := hy_all hv
 cases hb : bsF Tk.i T t with
 | false =>
   rw [hb] at h2
   rw [if_neg (by decide)] at h2 ⊢
   simp only [Cs_nil, zaj]
   refine fnspec_of mixed TT_ok TT_cl ⟨fun _ => false, fun _ => [], 0, fun _ => false, fun _ => false⟩ Tryz.func35 rfl (by kernel_rfl) rfl 28 rfl [.cell 4 28, .tmp 5, .tmp 6] rfl ?_
   simp only [go_sem, zaa, zak, zal, zam, zas, zad, ↓reduceIte, reduceCtorEq, zab, zac, zat, zau, zav]
   repeat' (first
 | (apply cl_plain
    case hs => rfl
    case ha => exact yfc
    case h => exact yfg)
 | ((first | refine s1_id ?_ | refine swp_id ?_ | refine sops_id ?_ | refine s2_id ?_); simp only [zai, zao, zah, zap, zar, zaf, zag, zae, zay, zaA, zan, zaj, go_sem, zaa, zak, zal, zam, zas, zad, ↓reduceIte, reduceCtorEq, zab, zac, zat, zau, zav, zaM, zaN, zaK, zaL, renO, bk, back, outUpsFrom, Ints_ren])
 | exact yfb | fail)
   repeat' (first
 | exact yfa
 | fail)
 | true =>
 rw [hb] at h2
 rw [if_pos rfl] at h2 ⊢
 have hlt := (bsF_at Tk.i T t hb).1
 generalize bsV Tk.i T t = m at *
 have hp : (gT T m).p ≠ 0 := hy_p hv (getD_mem T m ztk hlt)
 have h3 := radd6_spec l n T h (gT T m) hV.ne hl hTl hh1
 rw [show rk6 h (gT T m) = ⟨h, (gT T m).p, (gT T m).g, (gT T m).u⟩ from by unfold rk6; rw [if_neg hp]] at h3
 generalize adR l n T h ⟨h, (gT T m).p, (gT T m).g, (gT T m).u⟩ = q at *
 generalize gT T m = x at *
 obtain ⟨xi, xp, xg, xu⟩ := x
 obtain ⟨⟨ql, qn, qT, qh⟩, qi, qe⟩ := q
 simp only [tkc] at h2 h3 ⊢
 refine fnspec_of mixed TT_ok TT_cl ⟨fun _ => false, fun _ => [], 0, fun _ => false, fun _ => false⟩ Tryz.func35 rfl (by kernel_rfl) rfl 28 rfl [.cell 4 28, .tmp 5, .tmp 6] rfl ?_
 simp only [go_sem, zaa, zak, zal, zam, zas, zad, ↓reduceIte, reduceCtorEq, zab, zac, zat, zau, zav]
 repeat' (first
 | with_reducible refine zaD ?_ ?_
 | (apply cl_plain
    case hs => rfl
    case ha => exact yfc
    case h => exact yff)
 | ((first | refine s1_id ?_ | refine swp_id ?_ | refine sops_id ?_ | refine s2_id ?_); simp only [zai, zao, zah, zap, zar, zaf, zag, zae, zay, zaA, zan, zaj, go_sem, zaa, zak, zal, zam, zas, zad, ↓reduceIte, reduceCtorEq, zab, zac, zat, zau, zav, zaM, zaN, zaK, zaL, renO, bk, back, outUpsFrom, Ints_ren])
 | exact yfe
 | (apply fs_nil <;> (try simp only [go_sem, resV, resS, zaM, zaN, zaK, St.tmF, zaP, idx, renO, zaL, evS, slot, lookR, zaa, ↓reduceIte, reduceCtorEq, if_true, if_false, zaS, zaT, zaw, zaz, sLoad, readAt, readNeed, Ints_ren, Ints_length, Ints_getD, and_true, true_and, zaQ, zaR]) <;> (try rfl))
 | fail)
set_option maxHeartbeats 8000000 in
theorem tsame6_spec (l : List Nd) (n : Int) (k k2 : Option Nat) (hl : l.length ≤ 1000000) : FnSpec Tryz.prog 73 [trV l k n, trV l k2 n] [] (b1 true) [] := by
 have hnl := nd_len l
 have cn : n = n := rfl
 have cl : (l.length : Int) = l.length := rfl
 refine fnspec_of mixed TT_ok TT_cl ⟨fun _ => false, fun _ => [], 0, fun _ => false, fun _ => false⟩ Tryz.func73 rfl (by kernel_rfl) rfl 38 rfl [.tmp 4] rfl ?_
 simp only [go_sem, zaa, zak, zal, zam, zas, zad, ↓reduceIte, reduceCtorEq, zab, zac, zat, zau, zav, decide_eq_true cn, decide_eq_true cl]
 repeat' (first
 | exact yfb | fail)
 refine w_loop (ι := Nat) (fun m => ⟨[(2, .one (.optr 0 0)), (3, .one (.optr 1 0)), (5, i1 m)], [(0, some ⟨[.gsl (Cs l) 0 l.length k, int n], 2⟩), (1, some ⟨[.gsl (Cs l) 0 l.length k2, int n], 2⟩)], 2⟩) (fun m => m ≤ l.length) (fun m => l.length - m) 0 ?_ (zaV _) ?_
 · (refine imp_ren _ _ _ [(0, 0, ⟨[.gsl (Cs l) 0 l.length k, int n], 2⟩), (1, 1, ⟨[.gsl (Cs l) 0 l.length k2, int n], 2⟩)] (by simp) (by simp) (by simp) (zaE rfl) ?_ rfl (by simp only [zaq, zax, false_implies, implies_true, and_true, zaP, lookR, zaa, if_true, if_false, ↓reduceIte] <;> (repeat' apply zaD) <;> (first | rfl | trivial)) (by simp only [zaq, zax, false_implies, implies_true, and_true, true_and, flat_cons, flat_nil, flat_ints, flat_bools, flat_app, zaO, and_self, eq_self_iff_true, zah]); simp only [zaw, zaz, zaq, zax, false_implies, implies_true, and_true, lk, slot, zaM, zaK, toN, zaa, if_true, if_false, ↓reduceIte, reduceCtorEq])
   all_goals ((repeat' apply zaD) <;> (first | rfl | trivial))
 intro m hm
 simp only at hm ⊢
 rcases zaU m l.length with hlt | hge
 case inr =>
   have c : ¬ (m : Int) < (l.length : Int) := by omega
   simp only [go_sem, zaa, zak, zal, zam, zas, zad, ↓reduceIte, reduceCtorEq, zab, zac, zat, zau, zav, decide_eq_false c]
   repeat' (first
 | exact fs_nil trivial rfl
 | fail)
 have c : (m : Int) < (l.length : Int) := by omega
 have hN := nd_td l m hlt
 generalize gN l m = x at *
 obtain ⟨xi, xp, xn, xc, xk, xo⟩ := x
 simp only [ndc] at hN
 have r1 : xi = xi := rfl
 have r2 : xp = xp := rfl
 have r3 : xn = xn := rfl
 have r4 : xc = xc := rfl
 have r5 : xk = xk := rfl
 have r6 : xo = xo := rfl
 simp only [go_sem, zaa, zak, zal, zam, zas, zad, ↓reduceIte, reduceCtorEq, zab, zac, zat, zau, zav, decide_eq_true c, hN, decide_eq_true r1, decide_eq_true r2, decide_eq_true r3, decide_eq_true r4, decide_eq_true r5, decide_eq_true r6, beq_self_eq_true]
 repeat' (first
 | with_reducible refine zaD ?_ ?_
 | (unfold OKC; kernel_rfl)
 | (unfold EDG; kernel_rfl)
 | exact yfe
 | exact yfb | fail)
 refine le_mk (m + 1) ?_ hlt (by omega)
 (refine imp_ren _ _ _ [(0, 0, ⟨[.gsl (Cs l) 0 l.length k, int n], 2⟩), (1, 1, ⟨[.gsl (Cs l) 0 l.length k2, int n], 2⟩)] (by simp) (by simp) (by simp) (zaE rfl) ?_ rfl (by simp only [zaq, zax, false_implies, implies_true, and_true, zaP, lookR, zaa, if_true, if_false, ↓reduceIte] <;> (repeat' apply zaD) <;> (first | rfl | trivial)) (by simp only [zaq, zax, false_implies, implies_true, and_true, true_and, flat_cons, flat_nil, flat_ints, flat_bools, flat_app, zaO, and_self, eq_self_iff_true, zah]); simp only [zaw, zaz, zaq, zax, false_implies, implies_true, and_true, lk, slot, zaM, zaK, toN, zaa, if_true, if_false, ↓reduceIte, reduceCtorEq])
 all_goals ((repeat' apply zaD) <;> (first | rfl | trivial | (simp only [zaI]; done) | (simp only [zaI]; rfl) | (simp only [zaI]; trivial)))
theorem rnew6_spec : FnSpec Tryz.prog 30 [] [] (hyV [⟨1, 0, [], 0, 0, 0⟩] none 2 [] none 1) [] := by
 have h1 := trnew_spec
 refine fnspec_of mixed TT_ok TT_cl ⟨fun _ => false, fun _ => [], 0, fun _ => false, fun _ => false⟩ Tryz.func30 rfl (by kernel_rfl) rfl 3 rfl [.cell 0 28] rfl ?_
 simp only [go_sem, zaa, zak, zal, zam, zas, zad, ↓reduceIte, reduceCtorEq, zab, zac, zat, zau, zav]
 repeat' (first
 | (apply cl_plain
    case hs => rfl
    case ha => exact yfc
    case h => exact yfd)
 | ((first | refine s1_id ?_ | refine swp_id ?_ | refine sops_id ?_ | refine s2_id ?_); simp only [zai, zao, zah, zap, zar, zaf, zag, zae, zay, zaA, zan, zaj, go_sem, zaa, zak, zal, zam, zas, zad, ↓reduceIte, reduceCtorEq, zab, zac, zat, zau, zav, zaM, zaN, zaK, zaL, renO, bk, back, outUpsFrom, Ints_ren])
 | exact yfb | fail)
 repeat' (first
 | exact yfa
 | fail)
theorem mnew_spec : FnSpec Tryz.prog 29 [] [] (hyV [⟨1, 0, [], 0, 0, 0⟩] none 2 [] none 1) [] := by
 have h1 := tnew_spec
 refine fnspec_of mixed TT_ok TT_cl ⟨fun _ => false, fun _ => [], 0, fun _ => false, fun _ => false⟩ Tryz.func29 rfl (by kernel_rfl) rfl 3 rfl [.cell 0 28] rfl ?_
 simp only [go_sem, zaa, zak, zal, zam, zas, zad, ↓reduceIte, reduceCtorEq, zab, zac, zat, zau, zav]
 repeat' (first
 | (apply cl_plain
    case hs => rfl
    case ha => exact yfc
    case h => exact yfd)
 | ((first | refine s1_id ?_ | refine swp_id ?_ | refine sops_id ?_ | refine s2_id ?_); simp only [zai, zao, zah, zap, zar, zaf, zag, zae, zay, zaA, zan, zaj, go_sem, zaa, zak, zal, zam, zas, zad, ↓reduceIte, reduceCtorEq, zab, zac, zat, zau, zav, zaM, zaN, zaK, zaL, renO, bk, back, outUpsFrom, Ints_ren])
 | exact yfb | fail)
 repeat' (first
 | exact yfa
 | fail)
set_option maxHeartbeats 8000000 in
theorem hsame_spec (l : List Nd) (n : Int) (T : List Tk) (h : Int) (hl : l.length ≤ 1000000) (hT : T.length ≤ 1000000) : FnSpec Tryz.prog 28 [hyV l none n T none h, hyV l none n T none h] [] (b1 true) [] := by
 have h1 := tsame6_spec l n none none hl
 have hcl := tk_len T
 have cn : h = h := rfl
 have cl : (T.length : Int) = T.length := rfl
 refine fnspec_of mixed TT_ok TT_cl ⟨fun _ => false, fun _ => [], 0, fun _ => false, fun _ => false⟩ Tryz.func28 rfl (by kernel_rfl) rfl 46 rfl [.tmp 4] rfl ?_
 simp only [go_sem, zaa, zak, zal, zam, zas, zad, ↓reduceIte, reduceCtorEq, zab, zac, zat, zau, zav, decide_eq_true cn, decide_eq_true cl]
 repeat' (first
 | (apply cl_plain
    case hs => rfl
    case ha => exact yfc
    case h => exact yfd)
 | ((first | refine s1_id ?_ | refine swp_id ?_ | refine sops_id ?_ | refine s2_id ?_); simp only [decide_eq_true cn, decide_eq_true cl, zai, zao, zah, zap, zar, zaf, zag, zae, zay, zaA, zan, zaj, go_sem, zaa, zak, zal, zam, zas, zad, ↓reduceIte, reduceCtorEq, zab, zac, zat, zau, zav, zaM, zaN, zaK, zaL, renO, bk, back, outUpsFrom, Ints_ren])
 | exact yfb | fail)
 refine w_loop (ι := Nat) (fun m => ⟨[(2, .one (.optr 0 0)), (3, .one (.optr 1 0)), (5, i1 m)], [(0, some ⟨hyc l none n T none h, 4⟩), (1, some ⟨hyc l none n T none h, 4⟩)], 2⟩) (fun m => m ≤ T.length) (fun m => T.length - m) 0 ?_ (zaV _) ?_
 · (refine imp_ren _ _ _ [(0, 0, ⟨hyc l none n T none h, 4⟩), (1, 1, ⟨hyc l none n T none h, 4⟩)] (by simp) (by simp) (by simp) (zaE rfl) ?_ rfl (by simp only [zaq, zax, false_implies, implies_true, and_true, zaP, lookR, zaa, if_true, if_false, ↓reduceIte] <;> (repeat' apply zaD) <;> (first | rfl | trivial)) (by simp only [zaq, zax, false_implies, implies_true, and_true, true_and, flat_cons, flat_nil, flat_ints, flat_bools, flat_app, zaO, and_self, eq_self_iff_true, zah]); simp only [zaw, zaz, zaq, zax, false_implies, implies_true, and_true, lk, slot, zaM, zaK, toN, zaa, if_true, if_false, ↓reduceIte, reduceCtorEq])
   all_goals ((repeat' apply zaD) <;> (first | rfl | trivial))
 clear h1
 intro m hm
 simp only at hm ⊢
 rcases zaU m T.length with hlt | hge
 case inr =>
   have c : ¬ (m : Int) < (T.length : Int) := by omega
   simp only [go_sem, zaa, zak, zal, zam, zas, zad, ↓reduceIte, reduceCtorEq, zab, zac, zat, zau, zav, decide_eq_false c]
   repeat' (first
 | exact fs_nil trivial rfl
 | fail)
 have c : (m : Int) < (T.length : Int) := by omega
 have hN := tk_td T m hlt
 generalize gT T m = x at *
 obtain ⟨xi, xp, xg, xu⟩ := x
 simp only [tkc] at hN
 have r1 : xi = xi := rfl
 have r2 : xp = xp := rfl
 have r3 : xg = xg := rfl
 have r4 : xu = xu := rfl
 simp only [go_sem, zaa, zak, zal, zam, zas, zad, ↓reduceIte, reduceCtorEq, zab, zac, zat, zau, zav, decide_eq_true c, hN, decide_eq_true r1, decide_eq_true r2, decide_eq_true r3, decide_eq_true r4, beq_self_eq_true]
 repeat' (first
 | with_reducible refine zaD ?_ ?_
 | (unfold OKC; kernel_rfl)
 | (unfold EDG; kernel_rfl)
 | exact yfe
 | exact yfb | fail)
 refine le_mk (m + 1) ?_ hlt (by omega)
 (refine imp_ren _ _ _ [(0, 0, ⟨hyc l none n T none h, 4⟩), (1, 1, ⟨hyc l none n T none h, 4⟩)] (by simp) (by simp) (by simp) (zaE rfl) ?_ rfl (by simp only [zaq, zax, false_implies, implies_true, and_true, zaP, lookR, zaa, if_true, if_false, ↓reduceIte] <;> (repeat' apply zaD) <;> (first | rfl | trivial)) (by simp only [zaq, zax, false_implies, implies_true, and_true, true_and, flat_cons, flat_nil, flat_ints, flat_bools, flat_app, zaO, and_self, eq_self_iff_true, zah]); simp only [zaw, zaz, zaq, zax, false_implies, implies_true, and_true, lk, slot, zaM, zaK, toN, zaa, if_true, if_false, ↓reduceIte, reduceCtorEq])
 all_goals ((repeat' apply zaD) <;> (first | rfl | trivial | (simp only [zaI]; done) | (simp only [zaI]; rfl) | (simp only [zaI]; trivial)))
abbrev tkt (x : Tk) : SV := .agg (tkc x)
theorem ixR_no (q : Tk → Bool) : ∀ (xs : List Tk) (i : Nat), (∀ x ∈ xs, q x = false) → ixR q xs i = -1
  | [], _, _ => rfl
  | x :: r, i, h => by
    rw [ixR, h x List.mem_cons_self]
    exact ixR_no q r (i + 1) (fun y hy => h y (List.mem_cons_of_mem _ hy))
theorem ixR_yes (q : Tk → Bool) : ∀ (xs : List Tk) (i : Nat), ¬ (∀ x ∈ xs, q x = false) → ∃ t : Nat, ixR q xs i = (i + t : Nat) ∧ t < xs.length ∧ (∀ j, j < t → q (gT xs j) = false) ∧ q (gT xs t) = true
  | [], _, h => absurd (fun x hx => by cases hx) h
  | x :: r, i, h => by
    rw [ixR]
    cases hq : q x with
    | true => exact ⟨0, rfl, Nat.succ_pos _, fun j hj => absurd hj (Nat.not_lt_zero _), hq⟩
    | false =>
      obtain ⟨t, e, ht, h1, h2⟩ := ixR_yes q r (i + 1) (fun h2 => h fun y hy => by
        rcases List.mem_cons.1 hy with rfl | hy
        · exact hq
        · exact h2 y hy)
      refine ⟨t + 1, ?_, Nat.succ_lt_succ ht, fun j hj => ?_, h2⟩
      · show ixR q r (i + 1) = _
        rw [e]; congr 1; omega
      · cases j with
        | zero => exact hq
        | succ j => exact h1 j (by omega)
theorem kp_take (q : Tk → Bool) (xs : List Tk) (j : Nat) (h : j < xs.length) : (xs.take (j + 1)).filter (fun x => !q x) = (xs.take j).filter (fun x => !q x) ++ (if q (gT xs j) = true then [] else [gT xs j]) := by
 rw [take_getD xs j ztk h, List.filter_append]
 cases hq : q (gT xs j) with
 | true => rw [List.filter_cons_of_neg (by show ¬ (!q (gT xs j)) = true; rw [hq]; decide)]; rfl
 | false => rw [List.filter_cons_of_pos (by show (!q (gT xs j)) = true; rw [hq]; rfl)]; rfl
theorem lay_take (cs : List Cell) (o : Nat) (m : List Cell) (h : o ≤ cs.length) : (layAt cs o m).take o = cs.take o := by
 unfold layAt
 rw [List.append_assoc, List.take_append_of_le_length (by rw [zaX]; omega), List.take_take, Nat.min_self]
theorem flat_g (k : Nat) (z : List Cell) (hz : ∀ c ∈ z, c.isG = true) : ∀ c ∈ (zba k z).flatten, c.isG = true := fun c hc => by
  obtain ⟨l, hl, hcl⟩ := List.mem_flatten.1 hc
  rw [List.eq_of_mem_replicate hl] at hcl
  exact hz c hcl
theorem filter_take_all {q : Tk → Bool} {xs : List Tk} {t : Nat} (ht : t ≤ xs.length) (hb : ∀ j, j < t → q (gT xs j) = false) : (xs.take t).filter (fun x => !q x) = xs.take t := List.filter_eq_self.2 fun x hx => by
  obtain ⟨j, hj, rfl⟩ := List.mem_iff_getElem.1 hx
  rw [zaX] at hj
  have := hb j (by omega)
  rw [show gT xs j = xs[j] from getD_at xs j ztk (by omega)] at this
  rw [List.getElem_take, this]
  rfl
theorem lay_g {cs m : List Cell} {o : Nat} (h1 : ∀ c ∈ cs, c.isG = true) (h2 : ∀ c ∈ m, c.isG = true) : ∀ c ∈ layAt cs o m, c.isG = true := fun c hc => by
  unfold layAt at hc
  rcases List.mem_append.1 hc with hc | hc
  · rcases List.mem_append.1 hc with hc | hc
    · exact h1 c (List.mem_of_mem_take hc)
    · exact h2 c hc
  · exact h1 c (List.mem_of_mem_drop hc)
set_option maxHeartbeats 16000000 in
theorem tdelf_spec (g : FuncId) (c0 : List Cell) (q : Tk → Bool) (xs : List Tk) (hg : ∀ x ∈ xs, FnSpec Tryz.prog g [tkt x, .one (.gptr c0 0)] [] (b1 (q x)) []) (hl : xs.length ≤ 1000000) : FnSpec Tryz.prog 81 [.one (.osl 0 0 xs.length none), .one (.fn g [.gptr c0 0])] [⟨Cs xs, 4⟩] (gr (xs.filter (fun x => !q x)) none) [none] := by
 refine FnSpec.capk (fun c hc => ?_)
 have h1 := fun k => tk_ix g c0 q xs (fun x hx => hg x hx) k (by omega)
 have hcl := tk_len xs
 by_cases hno : ∀ x ∈ xs, q x = false
 · have e1 : xs.filter (fun x => !q x) = xs := List.filter_eq_self.2 fun x hx => by simp [hno x hx]
   rw [e1]
   simp only [ixR_no q xs 0 hno] at h1
   refine fnspec_of mixed TT_ok TT_cl ⟨fun _ => false, fun _ => [], 1, fun _ => false, fun _ => false⟩ Tryz.func81 rfl (by kernel_rfl) rfl 42 rfl [.tmp 4] rfl ?_
   simp only [go_sem, zaa, zak, zal, zam, zas, zad, ↓reduceIte, reduceCtorEq, zab, zac, zat, zau, zav]
   repeat' (first
 | (apply cl_show
    case ha => exact yfc
    case hs => exact yfi
    case h => exact yfd
    case hg => exact yfj)
 | ((first | refine s1_id ?_ | refine swp_id ?_ | refine sops_id ?_ | refine s2_id ?_); simp only [zai, zao, zah, zap, zar, zaf, zag, zae, zay, zaA, zan, zaj, go_sem, zaa, zak, zal, zam, zas, zad, ↓reduceIte, reduceCtorEq, zab, zac, zat, zau, zav, zaM, zaN, zaK, zaL, renO, bk, back, outUpsFrom, Ints_ren])
 | exact yfb | fail)
   (refine fs_frz 0 ⟨Cs xs, 4⟩ (by simp only [zaP, lookR, zaa, if_true, if_false, ↓reduceIte]) (by first | exact Ints_isG _ | exact Bools_isG _ | exact Cs_isG _ | (simp [zbf]; done)) ?_; simp only [frzTm, SV.frz, SV.frzL, zbc, frzHp, frzO, Ints_frz, Bools_frz, zaw, zaz, zaa, if_true, if_false, ↓reduceIte])
   refine fs_res (res0 := .one (.gsl (Cs xs) 0 xs.length (some c))) (svw_of (cw_cap _ _ _ _)) ?_
   (refine fs_mk [0] (by simp) (by decide) (by simp only [go_sem, resV, resS, zaM, zaN, zaK, St.tmF, zaP, idx, renO, zaL, evS, slot, lookR, zaa, ↓reduceIte, reduceCtorEq, if_true, if_false, zaS, zaT, zaw, zaz, sLoad, readAt, readNeed, Ints_ren, Ints_length, Ints_getD, and_true, true_and, zaQ, zaR]; try decide) ?_ ?_ ?_ <;> (try simp only [go_sem, resV, resS, zaM, zaN, zaK, St.tmF, zaP, idx, renO, zaL, evS, slot, lookR, zaa, ↓reduceIte, reduceCtorEq, if_true, if_false, zaS, zaT, zaw, zaz, sLoad, readAt, readNeed, Ints_ren, Ints_length, Ints_getD, and_true, true_and, zaQ, zaR, zaP, lookR, renO, zaL, zaK, idx, zaw, zaz, Ints_ren, zaq, zax, false_implies, implies_true, Option.some.injEq, forall_eq', and_true, true_and, frzHp, frzO, Cs_ren]) <;> (try rfl) <;> (try ((repeat' apply zaD) <;> (first | trivial | exact fun c hc q hq => absurd hq (Ints_refs0 _ _ c hc) | (simp [zaO]; done)))))
 · obtain ⟨t, e1, ht, hb, hq⟩ := ixR_yes q xs 0 hno
   rw [Nat.zero_add] at e1
   simp only [e1] at h1
   refine fnspec_of mixed TT_ok TT_cl ⟨fun _ => false, fun _ => [], 1, fun _ => false, fun _ => false⟩ Tryz.func81 rfl (by kernel_rfl) rfl 42 rfl [.tmp 4] rfl ?_
   simp only [go_sem, zaa, zak, zal, zam, zas, zad, ↓reduceIte, reduceCtorEq, zab, zac, zat, zau, zav]
   repeat' (first
 | with_reducible refine zaD ?_ ?_
 | (apply cl_show
    case ha => exact yfc
    case hs => exact yfi
    case h => exact yfd
    case hg => exact yfj)
 | ((first | refine s1_id ?_ | refine swp_id ?_ | refine sops_id ?_ | refine s2_id ?_); simp only [zai, zao, zah, zap, zar, zaf, zag, zae, zay, zaA, zan, zaj, go_sem, zaa, zak, zal, zam, zas, zad, ↓reduceIte, reduceCtorEq, zab, zac, zat, zau, zav, zaM, zaN, zaK, zaL, renO, bk, back, outUpsFrom, Ints_ren])
 | exact yfe
 | exact yfb | fail)
   refine w_loop (ι := Nat × Nat × List Tk) (fun s => ⟨[(0, .one (.osl 0 0 xs.length (some c))), (1, .one (.fn g [.gptr c0 0])), (5, i1 s.2.1), (6, i1 s.1)], [(0, some ⟨Cs s.2.2, 4⟩)], 1⟩) (fun s => s.1 ≤ xs.length ∧ s.2.1 < s.1 ∧ s.2.2.length = xs.length ∧ s.2.2.take s.2.1 = (xs.take s.1).filter (fun x => !q x) ∧ s.2.2.drop s.1 = xs.drop s.1) (fun s => xs.length - s.1) (t + 1, t, xs) ?_ ⟨ht, Nat.lt_succ_self t, rfl, ?_, rfl⟩ ?_
   · (refine imp_ren _ _ _ [(0, 0, ⟨Cs xs, 4⟩)] (by simp) (by simp) (by simp) (zaE rfl) ?_ rfl (by simp only [zaq, zax, false_implies, implies_true, and_true, zaP, lookR, zaa, if_true, if_false, ↓reduceIte, Cs_flat] <;> (repeat' apply zaD) <;> (first | rfl | trivial)) (by simp only [zaq, zax, false_implies, implies_true, and_true, true_and, flat_cons, flat_nil, flat_ints, flat_bools, flat_app, zaO, and_self, eq_self_iff_true, zah, Cs_flat]); simp only [zaw, zaz, zaq, zax, false_implies, implies_true, and_true, lk, slot, zaM, zaK, toN, zaa, if_true, if_false, ↓reduceIte, reduceCtorEq])
     all_goals ((repeat' apply zaD) <;> (first | rfl | trivial | (simp only [zaI]; done) | (simp only [zaI]; rfl) | (simp only [zaI]; trivial)));;
   · show xs.take t = _
     rw [kp_take q xs t ht, if_pos hq, zah, filter_take_all (by omega) hb]
   clear h1
   rintro ⟨j, i, R⟩ ⟨hj, hij, hRl, hRt, hRd⟩
   simp only at hj hij hRl hRt hRd ⊢
   have hrl := tk_len R
   rcases zaU j xs.length with hlt | hge
   case inr =>
     have cc : ¬ (j : Int) < (xs.length : Int) := by omega
     rw [List.take_of_length_le hge] at hRt
     rw [← hRt]
     have hM : ∀ m, (layAt (Cs R) (i * 4) m).take (i * 4) = Cs (R.take i) := fun m => by
       rw [lay_take _ _ _ (by rw [hrl]; exact Nat.mul_le_mul_right 4 (by omega))]; exact Cs_take R i
     have t0 : Int.toNat 0 = 0 := rfl
     have hti : (R.take i).length = i := by rw [zaX]; omega
     simp only [go_sem, zaa, zak, zal, zam, zas, zad, ↓reduceIte, reduceCtorEq, zab, zac, zat, zau, zav, decide_eq_false cc]
     repeat' (first
 | with_reducible refine zaD ?_ ?_
 | exact yfe
 | exact yfb | fail)
     all_goals try (intro row hrow; cases hrow; rfl)
     rw [show gr (R.take i) none = .one (.gsl (Cs (R.take i)) 0 i none) from by show SV.one (.gsl (Cs (R.take i)) 0 (R.take i).length none) = _; rw [hti], ← hM ((zba (xs.length - i) [zaW (Value.int IntKind.i64 0), zaW (Value.int IntKind.i64 0), zaW (Value.int IntKind.i64 0), zaW (Value.int IntKind.i64 0)]).flatten)]
     have hZ : ∀ z ∈ layAt (Cs R) (i * 4) ((zba (xs.length - i) [zaW (Value.int IntKind.i64 0), zaW (Value.int IntKind.i64 0), zaW (Value.int IntKind.i64 0), zaW (Value.int IntKind.i64 0)]).flatten), z.isG = true := lay_g (Cs_isG R) (flat_g _ _ (fun z hz => by
       simp only [List.mem_cons, zax, or_false] at hz
       rcases hz with rfl | rfl | rfl | rfl <;> rfl))
     have hZf : ∀ r cs, (layAt (Cs R) (i * 4) ((zba (xs.length - i) [zaW (Value.int IntKind.i64 0), zaW (Value.int IntKind.i64 0), zaW (Value.int IntKind.i64 0), zaW (Value.int IntKind.i64 0)]).flatten)).map (zbc r cs) = layAt (Cs R) (i * 4) ((zba (xs.length - i) [zaW (Value.int IntKind.i64 0), zaW (Value.int IntKind.i64 0), zaW (Value.int IntKind.i64 0), zaW (Value.int IntKind.i64 0)]).flatten) := fun r cs => map_id_of (fun z hz => isG_frz (hZ z hz) r cs)
     clear hM
     generalize layAt (Cs R) (i * 4) ((zba (xs.length - i) [zaW (Value.int IntKind.i64 0), zaW (Value.int IntKind.i64 0), zaW (Value.int IntKind.i64 0), zaW (Value.int IntKind.i64 0)]).flatten) = M at *
     refine fs_res (res0 := .one (.gsl M 0 i (some c))) (svw_of (cw_trans (cw_take _ _ _ _ _) (cw_cap _ _ _ _))) ?_
     refine fs_frz 0 ⟨M, 4⟩ (by first | (simp only [zaP, lookR, zaa, if_true, if_false, ↓reduceIte, reduceCtorEq]; done) | rfl) hZ ?_
     simp only [frzTm, SV.frz, SV.frzL, zbc, frzHp, frzO, hZf, Cs_frz, zaw, zaz, zaa, if_true, if_false, ↓reduceIte]
     (refine fs_mk [0] (by simp) (by decide) (by simp only [go_sem, resV, resS, zaM, zaN, zaK, St.tmF, zaP, idx, renO, zaL, evS, slot, lookR, zaa, ↓reduceIte, reduceCtorEq, if_true, if_false, zaS, zaT, zaw, zaz, sLoad, readAt, readNeed, Ints_ren, Ints_length, Ints_getD, and_true, true_and, zaQ, zaR]; try decide) ?_ ?_ ?_ <;> (try simp only [go_sem, resV, resS, zaM, zaN, zaK, St.tmF, zaP, idx, renO, zaL, evS, slot, lookR, zaa, ↓reduceIte, reduceCtorEq, if_true, if_false, zaS, zaT, zaw, zaz, sLoad, readAt, readNeed, Ints_ren, Ints_length, Ints_getD, and_true, true_and, zaQ, zaR, zaP, lookR, renO, zaL, zaK, idx, zaw, zaz, Ints_ren, zaq, zax, false_implies, implies_true, Option.some.injEq, forall_eq', and_true, true_and, frzHp, frzO, hZf]) <;> (try rfl) <;> (try ((repeat' apply zaD) <;> (first | trivial | exact fun c hc q hq => absurd hq (Ints_refs0 _ _ c hc) | (simp [zaO]; done)))))
   have cc : (j : Int) < (xs.length : Int) := by omega
   have hv : gT R j = gT xs j := by
     have e := congrArg (fun l => l.getD 0 ztk) hRd
     simp only [List.getD_eq_getElem?_getD, List.getElem?_drop, Nat.add_zero] at e
     simpa only [List.getD_eq_getElem?_getD] using e
   have hat : List.take 4 (List.drop (j * 4) (Cs R)) = tkc (gT R j) := tk_td R j (by omega)
   rw [hv] at hat
   have hg1 := hg _ (getD_mem xs j ztk hlt)
   have hg1 : FnSpec Tryz.prog g [tkt (gT xs j), .one (.gptr c0 0)] [] (b1 (q (gT xs j))) [] := hg1
   have hkt := kp_take q xs j hlt
   have hRd2 : R.drop (j + 1) = xs.drop (j + 1) := by
     have e := congrArg (fun l => l.drop 1) hRd
     simpa only [List.drop_drop] using e
   have hset : putAt (Cs R) (i * 4) (tkc (gT xs j)) = Cs (R.set i (gT xs j)) := Cs_set R i (gT xs j) (by omega)
   have hsl : (R.set i (gT xs j)).length = xs.length := by rw [List.length_set]; exact hRl
   have hst : (R.set i (gT xs j)).take (i + 1) = R.take i ++ [gT xs j] := by
     rw [take_getD _ i ztk (by rw [List.length_set]; omega), List.take_set_of_le (by omega)]
     congr 1
     rw [List.getD_eq_getElem?_getD, List.getElem?_set_self (by omega)]; rfl
   have hsd : (R.set i (gT xs j)).drop (j + 1) = xs.drop (j + 1) := by rw [List.drop_set_of_lt (by omega)]; exact hRd2
   generalize R.set i (gT xs j) = R2 at *
   cases hqv : q (gT xs j) with
   | true =>
     rw [hqv] at hg1
     rw [hqv, if_pos rfl, zah] at hkt
     clear hst hset
     generalize gT xs j = x at *
     obtain ⟨xp, xg, xn, xa⟩ := x
     simp only [tkc] at hat hg1
     simp only [go_sem, zaa, zak, zal, zam, zas, zad, ↓reduceIte, reduceCtorEq, zab, zac, zat, zau, zav, decide_eq_true cc, hat]
     repeat' (first
 | with_reducible refine zaD ?_ ?_
 | (apply cl_plain
    case hs => rfl
    case ha => exact yfc
    case h => (first | exact hg1 ..))
 | ((first | refine s1_id ?_ | refine swp_id ?_ | refine sops_id ?_ | refine s2_id ?_); simp only [decide_eq_true cc, hat, zai, zao, zah, zap, zar, zaf, zag, zae, zay, zaA, zan, zaj, go_sem, zaa, zak, zal, zam, zas, zad, ↓reduceIte, reduceCtorEq, zab, zac, zat, zau, zav, zaM, zaN, zaK, zaL, renO, bk, back, outUpsFrom, Ints_ren])
 | exact yfe
 | exact yfb | fail)
     refine le_mk (j + 1, i, R) ?_ ⟨hlt, by show i < j + 1; omega, hRl, hRt.trans hkt.symm, hRd2⟩ (by show xs.length - (j + 1) < xs.length - j; omega)
     (refine imp_ren _ _ _ [(0, 0, ⟨Cs R, 4⟩)] (by simp) (by simp) (by simp) (zaE rfl) ?_ rfl (by simp only [zaq, zax, false_implies, implies_true, and_true, zaP, lookR, zaa, if_true, if_false, ↓reduceIte, Cs_flat] <;> (repeat' apply zaD) <;> (first | rfl | trivial)) (by simp only [zaq, zax, false_implies, implies_true, and_true, true_and, flat_cons, flat_nil, flat_ints, flat_bools, flat_app, zaO, and_self, eq_self_iff_true, zah, Cs_flat]); simp only [zaw, zaz, zaq, zax, false_implies, implies_true, and_true, lk, slot, zaM, zaK, toN, zaa, if_true, if_false, ↓reduceIte, reduceCtorEq])
     all_goals ((repeat' apply zaD) <;> (first | rfl | trivial | (simp only [zaI]; done) | (simp only [zaI]; rfl) | (simp only [zaI]; trivial)))
   | false =>
     rw [hqv] at hg1
     rw [hqv, if_neg (by decide), ← hRt, ← hst] at hkt
     clear hst
     generalize gT xs j = x at *
     obtain ⟨xp, xg, xn, xa⟩ := x
     simp only [tkc] at hat hg1 hset
     simp only [go_sem, zaa, zak, zal, zam, zas, zad, ↓reduceIte, reduceCtorEq, zab, zac, zat, zau, zav, decide_eq_true cc, hat, hset]
     repeat' (first
 | with_reducible refine zaD ?_ ?_
 | (apply cl_plain
    case hs => rfl
    case ha => exact yfc
    case h => (first | exact hg1 ..))
 | ((first | refine s1_id ?_ | refine swp_id ?_ | refine sops_id ?_ | refine s2_id ?_); simp only [decide_eq_true cc, hat, hset, zai, zao, zah, zap, zar, zaf, zag, zae, zay, zaA, zan, zaj, go_sem, zaa, zak, zal, zam, zas, zad, ↓reduceIte, reduceCtorEq, zab, zac, zat, zau, zav, zaM, zaN, zaK, zaL, renO, bk, back, outUpsFrom, Ints_ren])
 | exact yfe
 | exact yfb | fail)
     refine le_mk (j + 1, i + 1, R2) ?_ ⟨hlt, by show i + 1 < j + 1; omega, hsl, hkt.symm, hsd⟩ (by show xs.length - (j + 1) < xs.length - j; omega)
     (refine imp_ren _ _ _ [(0, 0, ⟨Cs R2, 4⟩)] (by simp) (by simp) (by simp) (zaE rfl) ?_ rfl (by simp only [zaq, zax, false_implies, implies_true, and_true, zaP, lookR, zaa, if_true, if_false, ↓reduceIte, Cs_flat] <;> (repeat' apply zaD) <;> (first | rfl | trivial)) (by simp only [zaq, zax, false_implies, implies_true, and_true, true_and, flat_cons, flat_nil, flat_ints, flat_bools, flat_app, zaO, and_self, eq_self_iff_true, zah, Cs_flat]); simp only [zaw, zaz, zaq, zax, false_implies, implies_true, and_true, lk, slot, zaM, zaK, toN, zaa, if_true, if_false, ↓reduceIte, reduceCtorEq])
     all_goals ((repeat' apply zaD) <;> (first | rfl | trivial | (simp only [zaI]; done) | (simp only [zaI]; rfl) | (simp only [zaI]; trivial)))
def goB (t : Int) (x : Tk) : Bool := decide (x.i = t) || decide (x.p = t)
theorem gone_spec (t : Int) (x : Tk) : FnSpec Tryz.prog 80 [.agg (tkc x), .one (.gptr [int t] 0)] [] (b1 (goB t x)) [] := by
 unfold goB
 obtain ⟨i, p, g, u⟩ := x
 simp only [tkc]
 by_cases c : i = t
 · rw [decide_eq_true c, zbd]
   refine fnspec_of mixed TT_ok TT_cl ⟨fun _ => false, fun _ => [], 0, fun _ => false, fun _ => false⟩ Tryz.func80 rfl (by kernel_rfl) rfl 14 rfl [.tmp 3] rfl ?_
   simp only [go_sem, zaa, zak, zal, zam, zas, zad, ↓reduceIte, reduceCtorEq, zab, zac, zat, zau, zav, decide_eq_true c]
   repeat' (first
 | exact fs_nil trivial rfl
 | fail)
 · rw [decide_eq_false c, zaZ]
   refine fnspec_of mixed TT_ok TT_cl ⟨fun _ => false, fun _ => [], 0, fun _ => false, fun _ => false⟩ Tryz.func80 rfl (by kernel_rfl) rfl 14 rfl [.tmp 3] rfl ?_
   simp only [go_sem, zaa, zak, zal, zam, zas, zad, ↓reduceIte, reduceCtorEq, zab, zac, zat, zau, zav, decide_eq_false c]
   repeat' (first
 | exact fs_nil trivial rfl
 | fail)
def exR (l : List Nd) (n : Int) (T : List Tk) (h t : Int) : Hy × Int := if hyM l n T h = true then (if bsF Tk.i T t = true then ((l, n, T.filter (fun x => !goB t x), h), 0) else (z6, 4)) else (z6, 1)
set_option maxHeartbeats 8000000 in
theorem mexit_spec (l : List Nd) (n : Int) (T : List Tk) (h t : Int) (hl : l.length ≤ 1000000) (hT : T.length ≤ 1000000) (hnm : NmR l) (hct : CtR l) : FnSpec Tryz.prog 36 [hyV l none n T none h, i1 t] [] (.tup [hyQ (exR l n T h t).1, i1 (exR l n T h t).2]) [] := by
 have h1 := mcheck_spec l n T h hl (by omega) hnm hct
 unfold exR
 cases hv : hyM l n T h with
 | false =>
   rw [hv] at h1
   rw [if_neg (by decide)]
   simp only [Cs_nil, zaj]
   refine fnspec_of mixed TT_ok TT_cl ⟨fun _ => false, fun _ => [], 0, fun _ => false, fun _ => false⟩ Tryz.func36 rfl (by kernel_rfl) rfl 32 rfl [.cell 4 28, .tmp 5] rfl ?_
   simp only [go_sem, zaa, zak, zal, zam, zas, zad, ↓reduceIte, reduceCtorEq, zab, zac, zat, zau, zav]
   repeat' (first
 | (apply cl_plain
    case hs => rfl
    case ha => exact yfc
    case h => exact yfd)
 | ((first | refine s1_id ?_ | refine swp_id ?_ | refine sops_id ?_ | refine s2_id ?_); simp only [zai, zao, zah, zap, zar, zaf, zag, zae, zay, zaA, zan, zaj, go_sem, zaa, zak, zal, zam, zas, zad, ↓reduceIte, reduceCtorEq, zab, zac, zat, zau, zav, zaM, zaN, zaK, zaL, renO, bk, back, outUpsFrom, Ints_ren])
 | exact yfb | fail)
   repeat' (first
 | exact yfa
 | fail)
 | true =>
 rw [hv] at h1
 rw [if_pos rfl]
 have h2 := mindex_spec l none n T none h t (by omega)
 cases hb : bsF Tk.i T t with
 | false =>
   rw [hb] at h2
   rw [if_neg (by decide)]
   simp only [Cs_nil, zaj]
   refine fnspec_of mixed TT_ok TT_cl ⟨fun _ => false, fun _ => [], 0, fun _ => false, fun _ => false⟩ Tryz.func36 rfl (by kernel_rfl) rfl 32 rfl [.cell 4 28, .tmp 5] rfl ?_
   simp only [go_sem, zaa, zak, zal, zam, zas, zad, ↓reduceIte, reduceCtorEq, zab, zac, zat, zau, zav]
   repeat' (first
 | (apply cl_plain
    case hs => rfl
    case ha => exact yfc
    case h => exact yfg)
 | ((first | refine s1_id ?_ | refine swp_id ?_ | refine sops_id ?_ | refine s2_id ?_); simp only [zai, zao, zah, zap, zar, zaf, zag, zae, zay, zaA, zan, zaj, go_sem, zaa, zak, zal, zam, zas, zad, ↓reduceIte, reduceCtorEq, zab, zac, zat, zau, zav, zaM, zaN, zaK, zaL, renO, bk, back, outUpsFrom, Ints_ren])
 | exact yfb | fail)
   repeat' (first
 | exact yfa
 | fail)
 | true =>
 rw [hb] at h2
 rw [if_pos rfl]
 have h3 := chier_spec l n T h hl hT
 have h4 := tdelf_spec 80 [int t] (goB t) T (fun x _ => gone_spec t x) hT
 generalize T.filter (fun x => !goB t x) = R at *
 refine fnspec_of mixed TT_ok TT_cl ⟨fun _ => false, fun f => if f = 81 then [0] else [], 0 , fun _ => false, fun i => if i = 7 then true else false⟩ Tryz.func36 rfl (by kernel_rfl) rfl 32 rfl [.cell 4 28, .tmp 5] rfl ?_
 simp only [go_sem, zaa, zak, zal, zam, zas, zad, ↓reduceIte, reduceCtorEq, zab, zac, zat, zau, zav]
 repeat' (first
 | (apply cl_plain
    case hs => rfl
    case ha => exact yfc
    case h => exact yff)
 | ((first | refine s1_id ?_ | refine swp_id ?_ | refine sops_id ?_ | refine s2_id ?_); simp only [zai, zao, zah, zap, zar, zaf, zag, zae, zay, zaA, zan, zaj, go_sem, zaa, zak, zal, zam, zas, zad, ↓reduceIte, reduceCtorEq, zab, zac, zat, zau, zav, zaM, zaN, zaK, zaL, renO, bk, back, outUpsFrom, Ints_ren])
 | exact yfb | fail)
 (refine rgf_t _ (imp_frz _ _ 1 ⟨[int t], 1⟩ (by simp only [zaP, lookR, zaa, if_true, if_false, ↓reduceIte]) (by first | exact Ints_isG _ | exact Bools_isG _ | exact Cs_isG _ | (simp [zbf]; done))) ?_; simp only [frzTm, SV.frz, SV.frzL, zbc, frzHp, frzO, Ints_frz, Bools_frz, zaw, zaz, zaa, if_true, if_false, ↓reduceIte])
 simp only [go_sem, zaa, zak, zal, zam, zas, zad, ↓reduceIte, reduceCtorEq, zab, zac, zat, zau, zav]
 repeat' (first
 | (apply cl_lend
    case hr => (simp only [zaw, zaz, hpL', lookR, zaa, if_true, if_false]; first | exact map1 _ | exact map2 _ _ | exact map3 _ _ _)
    case ha => exact yfc
    case hs => rfl
    case hn => decide
    case h => (first | exact h4 ..)
    case hf => (simp only [zaq, zax, false_implies, implies_true, and_true, true_and, flat_cons, flat_nil, flat_ints, flat_bools, flat_app, Cs_flat, zaO, and_self, eq_self_iff_true, zah])
    case hl => (simp only [zan, zaj]; decide))
 | ((first | refine s1_id ?_ | refine swp_id ?_ | refine sops_id ?_ | refine s2_id ?_); simp only [zai, zao, zah, zap, zar, zaf, zag, zae, zay, zaA, zan, zaj, go_sem, zaa, zak, zal, zam, zas, zad, ↓reduceIte, reduceCtorEq, zab, zac, zat, zau, zav, zaM, zaN, zaK, zaL, renO, bk, back, outUpsFrom, Ints_ren])
 | exact yfb | fail)
 (refine fs_frz 18 ⟨Cs l, 6⟩ (by simp only [zaP, lookR, zaa, if_true, if_false, ↓reduceIte]) (by first | exact Ints_isG _ | exact Bools_isG _ | exact Cs_isG _ | (simp [zbf]; done)) ?_; simp only [frzTm, SV.frz, SV.frzL, zbc, frzHp, frzO, Ints_frz, Bools_frz, zaw, zaz, zaa, if_true, if_false, ↓reduceIte])
 simp only [frzHp, frzO, Cs_frz, zaw, zaz]
 repeat' (first
 | exact yfa
 | fail)
def upG {α : Type} (f : α → α) (l : List α) (m : Nat) : List α := (l.take m).map f ++ l.drop m
theorem upG_pack {α : Type} (z : α) (f : α → α) (l : List α) : ∃ U : Nat → List α, U 0 = l ∧ U l.length = l.map f ∧ (∀ m, (U m).length = l.length) ∧ ∀ m, m < l.length → (U m).getD m z = l.getD m z ∧ U (m + 1) = (U m).set m (f (l.getD m z)) := by
 have hlen : ∀ m, (upG f l m).length = l.length := fun m => by
   unfold upG; rw [List.length_append, zbb, zaX, List.length_drop]; omega
 refine ⟨upG f l, rfl, ?_, hlen, fun m h => ?_⟩
 · unfold upG; rw [List.take_length, List.drop_length, zah]
 · have h1 : ((l.take m).map f).length = m := by rw [zbb, zaX]; omega
   constructor
   · unfold upG
     simp only [List.getD_eq_getElem?_getD]
     rw [List.getElem?_append_right (by omega), h1, Nat.sub_self, List.getElem?_drop, Nat.add_zero]
   · unfold upG
     rw [List.set_append_right _ _ (by omega), h1, Nat.sub_self, drop_getD l m z h, zaf, take_getD l m z h, List.map_append, List.append_assoc]
     rfl
theorem set_self {α : Type} (l : List α) (i : Nat) (z : α) (h : i < l.length) : l.set i (l.getD i z) = l := by
 rw [getD_at l i z h]; exact List.set_getElem_self h
theorem fmG_pack {α β : Type} (z : α) (q : α → Bool) (f : α → β) (l : List α) : ∃ K : Nat → List β, K 0 = [] ∧ K l.length = (l.filter q).map f ∧ (∀ m, (K m).length ≤ m) ∧ ∀ m, m < l.length → (q (l.getD m z) = true → K (m + 1) = K m ++ [f (l.getD m z)]) ∧ (q (l.getD m z) = false → K (m + 1) = K m) := by
 refine ⟨fun m => ((l.take m).filter q).map f, rfl, by simp only [List.take_length], fun m => ?_, fun m h => ⟨fun e => ?_, fun e => ?_⟩⟩
 · show (((l.take m).filter q).map f).length ≤ m
   rw [zbb]
   exact Nat.le_trans (List.length_filter_le _ _) (by rw [zaX]; omega)
 · show ((l.take (m + 1)).filter q).map f = ((l.take m).filter q).map f ++ [f (l.getD m z)]
   rw [take_getD l m z h, List.filter_append, List.map_append, List.filter_cons_of_pos e]; rfl
 · show ((l.take (m + 1)).filter q).map f = ((l.take m).filter q).map f
   rw [take_getD l m z h, List.filter_append, List.map_append, List.filter_cons_of_neg (by rw [e]; decide)]; simp
theorem snoc_len {α : Type} (l : List α) (x : α) : (l ++ [x]).length = l.length + 1 := by simp
theorem Ints_all (l : List Int) : List.take l.length (Ints l) = Ints l := List.take_of_length_le (by rw [Ints_length]; exact Nat.le_refl _)
def stF (x y : Nd) : Nd := if y.i = x.i then x else y
def setN (l : List Nd) (x : Nd) : List Nd := l.map (stF x)
set_option maxHeartbeats 8000000 in
theorem rset5_spec (l : List Nd) (k : Option Nat) (n : Int) (x : Nd) (h1 : 1 ≤ l.length) (hl : l.length ≤ 1000000) : FnSpec Tryz.prog 91 [trV l k n, .agg (ndc x)] [] (trV (setN l x) none n) [] := by
 have h2 := trcopy_spec l k n h1 hl
 obtain ⟨U, hU0, hUe, hUl, hUs⟩ := upG_pack zn (stF x) l
 have hle : (setN l x).length = l.length := zbb _
 rw [show l.map (stF x) = setN l x from rfl] at hUe
 generalize setN l x = W at *
 show FnSpec Tryz.prog _ _ _ (.agg [.gsl (Cs W) 0 W.length none, int n]) _
 rw [hle]
 obtain ⟨xi, xp, xm, xc, xk, xo⟩ := x
 simp only [ndc]
 refine fnspec_of mixed TT_ok TT_cl ⟨fun _ => false, fun _ => [], 0, fun _ => false, fun _ => false⟩ Tryz.func91 rfl (by kernel_rfl) rfl 31 rfl [.cell 4 25] rfl ?_
 simp only [go_sem, zaa, zak, zal, zam, zas, zad, ↓reduceIte, reduceCtorEq, zab, zac, zat, zau, zav, zai, zao, zah, zap, zar, zaf, zag, zae, zay, zaA, zan, zaj]
 repeat' (first
 | (apply cl_plain
    case hs => rfl
    case ha => exact yfc
    case h => (first | exact h2 ..))
 | ((first | refine s1_id ?_ | refine swp_id ?_ | refine sops_id ?_ | refine s2_id ?_); simp only [zai, zao, zah, zap, zar, zaf, zag, zae, zay, zaA, zan, zaj, go_sem, zaa, zak, zal, zam, zas, zad, ↓reduceIte, reduceCtorEq, zab, zac, zat, zau, zav, zaM, zaN, zaK, zaL, renO, bk, back, outUpsFrom, Ints_ren])
 | exact yfb | fail)
 refine w_loop (ι := Nat) (fun m => ⟨[(3, .one (.optr 1 0)), (4, .one (.optr 3 0)), (5, .one (.optr 2 0)), (6, i1 m)], [(0, some ⟨Cs (U m), 6⟩), (1, some ⟨[int xi, int xp, st xm, int xc, int xk, int xo], 6⟩), (2, some ⟨[.osl 0 0 l.length none, int n], 2⟩), (3, some ⟨[.sc (.slice none 0 0), int 0], 2⟩)], 4⟩) (fun m => m ≤ l.length) (fun m => l.length - m) 0 ?_ (zaV _) ?_
 · (refine imp_sub _ _ _ [(0, 4), (1, 1), (2, 5), (3, 2)] (by simp) (by simp) (by simp) (zaE rfl) ?_ (by simp only [zaw, zaz, zaP, lookR, renO, zaL, zaK, toN, Ints_ren, Bools_ren, zaa, if_true, if_false, ↓reduceIte, Cs_ren, Cs_flat, hU0] <;> (try rfl)) (by simp only [zaq, zax, false_implies, implies_true, and_true, zaP, lookR, zaa, if_true, if_false, ↓reduceIte, Option.some.injEq, forall_eq'] <;> ((repeat' with_reducible apply zaD) <;> (first | with_reducible trivial | exact fun c hc q hq => absurd hq (Ints_refs0 _ _ c hc) | exact fun c hc q hq => absurd hq (by rw [Cs_flat _ c hc]; exact zax) | (simp [zaO, toN]; done)))); simp only [zaw, zaz, zaq, zax, false_implies, implies_true, and_true, lk, slot, zaM, zaK, toN, zaa, if_true, if_false, ↓reduceIte, reduceCtorEq])
   all_goals ((repeat' apply zaD) <;> (first | rfl | trivial))
 rintro m hm
 simp only at hm ⊢
 rcases zaU m l.length with hlt | hge
 case inr =>
   have c : ¬ (m : Int) < (l.length : Int) := by omega
   obtain rfl : m = l.length := by omega
   rw [hUe]
   simp only [go_sem, zaa, zak, zal, zam, zas, zad, ↓reduceIte, reduceCtorEq, zab, zac, zat, zau, zav, decide_eq_false c, zai, zao, zah, zap, zar, zaf, zag, zae, zay, zaA, zan, zaj]
   repeat' (first
 | exact yfb | fail)
   (refine fs_frz 0 ⟨Cs W, 6⟩ (by simp only [zaP, lookR, zaa, if_true, if_false, ↓reduceIte]) (by first | exact Ints_isG _ | exact Bools_isG _ | exact Cs_isG _ | (simp [zbf]; done)) ?_; simp only [frzTm, SV.frz, SV.frzL, zbc, frzHp, frzO, Ints_frz, Bools_frz, zaw, zaz, zaa, if_true, if_false, ↓reduceIte])
   repeat' (first
 | exact yfa
 | fail)
 have c : (m : Int) < (l.length : Int) := by omega
 obtain ⟨hat, hS⟩ := hUs m hlt
 have hl2 := hUl m
 have hpt : putAt (Cs (U m)) (m * 6) [int xi, int xp, st xm, int xc, int xk, int xo] = Cs ((U m).set m ⟨xi, xp, xm, xc, xk, xo⟩) := Cs_set (U m) m ⟨xi, xp, xm, xc, xk, xo⟩ (by omega)
 obtain ⟨q0, _⟩ := nd_f (U m) m (by omega) (.sc (.int .i64 0))
 have hself := set_self (U m) m zn (by omega)
 have hlc := nd_len (U m)
 rw [show gN (U m) m = gN l m from hat] at q0
 rw [hat] at hself
 by_cases e : (gN l m).i = xi
 · (try rw [if_pos e])
   rw [show stF ⟨xi, xp, xm, xc, xk, xo⟩ (l.getD m zn) = ⟨xi, xp, xm, xc, xk, xo⟩ from if_pos e] at hS
   rw [← hS] at hpt
   simp only [go_sem, zaa, zak, zal, zam, zas, zad, ↓reduceIte, reduceCtorEq, zab, zac, zat, zau, zav, decide_eq_true c, q0, decide_eq_true e, hpt, hlc, hl2, zai, zao, zah, zap, zar, zaf, zag, zae, zay, zaA, zan, zaj]
   repeat' (first
 | with_reducible refine zaD ?_ ?_
 | (unfold OKC; kernel_rfl)
 | (unfold EDG; kernel_rfl)
 | exact yfe
 | exact yfb | fail)
   refine le_mk (m + 1) ?_ hlt (by show l.length - (m + 1) < l.length - m; omega)
   (refine imp_sub _ _ _ [(0, 0), (1, 1), (2, 2), (3, 3)] (by simp) (by simp) (by simp) (zaE rfl) ?_ (by simp only [zaw, zaz, zaP, lookR, renO, zaL, zaK, toN, Ints_ren, Bools_ren, zaa, if_true, if_false, ↓reduceIte, hS, Cs_ren, Cs_flat] <;> (try rfl)) (by simp only [zaq, zax, false_implies, implies_true, and_true, zaP, lookR, zaa, if_true, if_false, ↓reduceIte, Option.some.injEq, forall_eq'] <;> ((repeat' with_reducible apply zaD) <;> (first | with_reducible trivial | exact fun c hc q hq => absurd hq (Ints_refs0 _ _ c hc) | exact fun c hc q hq => absurd hq (by rw [Cs_flat _ c hc]; exact zax) | (simp [zaO, toN]; done)))); simp only [zaw, zaz, zaq, zax, false_implies, implies_true, and_true, lk, slot, zaM, zaK, toN, zaa, if_true, if_false, ↓reduceIte, reduceCtorEq])
   all_goals ((repeat' apply zaD) <;> (first | rfl | trivial | (simp only [zaI]; done) | (simp only [zaI]; rfl) | (simp only [zaI]; trivial)))
 (try rw [if_neg e])
 rw [show stF ⟨xi, xp, xm, xc, xk, xo⟩ (l.getD m zn) = l.getD m zn from if_neg e, hself] at hS
 simp only [go_sem, zaa, zak, zal, zam, zas, zad, ↓reduceIte, reduceCtorEq, zab, zac, zat, zau, zav, decide_eq_true c, q0, decide_eq_false e, zai, zao, zah, zap, zar, zaf, zag, zae, zay, zaA, zan, zaj]
 repeat' (first
 | with_reducible refine zaD ?_ ?_
 | (unfold OKC; kernel_rfl)
 | (unfold EDG; kernel_rfl)
 | exact yfe
 | exact yfb | fail)
 rw [← hS]
 refine le_mk (m + 1) ?_ hlt (by show l.length - (m + 1) < l.length - m; omega)
 (refine imp_sub _ _ _ [(0, 0), (1, 1), (2, 2), (3, 3)] (by simp) (by simp) (by simp) (zaE rfl) ?_ (by simp only [zaw, zaz, zaP, lookR, renO, zaL, zaK, toN, Ints_ren, Bools_ren, zaa, if_true, if_false, ↓reduceIte, hS, Cs_ren, Cs_flat] <;> (try rfl)) (by simp only [zaq, zax, false_implies, implies_true, and_true, zaP, lookR, zaa, if_true, if_false, ↓reduceIte, Option.some.injEq, forall_eq'] <;> ((repeat' with_reducible apply zaD) <;> (first | with_reducible trivial | exact fun c hc q hq => absurd hq (Ints_refs0 _ _ c hc) | exact fun c hc q hq => absurd hq (by rw [Cs_flat _ c hc]; exact zax) | (simp [zaO, toN]; done)))); simp only [zaw, zaz, zaq, zax, false_implies, implies_true, and_true, lk, slot, zaM, zaK, toN, zaa, if_true, if_false, ↓reduceIte, reduceCtorEq])
 all_goals ((repeat' apply zaD) <;> (first | rfl | trivial | (simp only [zaI]; done) | (simp only [zaI]; rfl) | (simp only [zaI]; trivial)))
theorem tk_q (T : List Tk) (m : Nat) (h : m < T.length) (d : Cell) : (Cs T).getD (m * 4) d = int (gT T m).i ∧ (Cs T).getD (m * 4 + 1) d = int (gT T m).p ∧ (Cs T).getD (m * 4 + 2) d = int (gT T m).g ∧ (Cs T).getD (m * 4 + 3) d = int (gT T m).u :=
  ⟨tk_f T m 0 d h (by decide), tk_f T m 1 d h (by decide), tk_f T m 2 d h (by decide), tk_f T m 3 d h (by decide)⟩
def inG (g : Int) (x : Tk) : Bool := decide (x.g = g)
def tsM (l : List Nd) (n : Int) (T : List Tk) (h g : Int) : List Int := if hyM l n T h = true then (T.filter (inG g)).map Tk.i else []
set_option maxHeartbeats 8000000 in
theorem rtasks6_spec (l : List Nd) (n : Int) (T : List Tk) (h g : Int) (hl : l.length ≤ 1000000) (hT : T.length ≤ 1000000) (hnm : NmR l) : FnSpec Tryz.prog 19 [hyV l none n T none h, i1 g] [] (gi (tsM l n T h g) none) [] := by
 have h1 := rcheck6 l n T h hl (by omega) hnm
 have hcl := tk_len T
 unfold tsM
 cases hv : hyM l n T h with
 | false =>
   (try rw [hv] at h1)
   (try rw [if_neg (by decide)])
   refine fnspec_of mixed TT_ok TT_cl ⟨fun _ => false, fun _ => [], 0, fun _ => false, fun _ => false⟩ Tryz.func19 rfl (by kernel_rfl) rfl 35 rfl [.tmp 4] rfl ?_
   simp only [go_sem, zaa, zak, zal, zam, zas, zad, ↓reduceIte, reduceCtorEq, zab, zac, zat, zau, zav, zai, zao, zah, zap, zar, zaf, zag, zae, zay, zaA, zan, zaj]
   repeat' (first
 | (apply cl_plain
    case hs => rfl
    case ha => exact yfc
    case h => exact yfd)
 | ((first | refine s1_id ?_ | refine swp_id ?_ | refine sops_id ?_ | refine s2_id ?_); simp only [zai, zao, zah, zap, zar, zaf, zag, zae, zay, zaA, zan, zaj, go_sem, zaa, zak, zal, zam, zas, zad, ↓reduceIte, reduceCtorEq, zab, zac, zat, zau, zav, zaM, zaN, zaK, zaL, renO, bk, back, outUpsFrom, Ints_ren])
 | exact yfb | fail)
   repeat' (first
 | exact fs_w trivial (svw_of cw_gnil)
 | fail)
 | true =>
 (try rw [hv] at h1)
 (try rw [if_pos rfl])
 obtain ⟨_, hTl, _⟩ := hy_all hv
 obtain ⟨K, hK0, hKe, hKl, hKs⟩ := fmG_pack ztk (inG g) Tk.i T
 generalize (T.filter (inG g)).map Tk.i = W at *
 refine fnspec_of mixed TT_ok TT_cl ⟨fun _ => false, fun _ => [], 0, fun _ => false, fun _ => false⟩ Tryz.func19 rfl (by kernel_rfl) rfl 35 rfl [.tmp 4] rfl ?_
 simp only [go_sem, zaa, zak, zal, zam, zas, zad, ↓reduceIte, reduceCtorEq, zab, zac, zat, zau, zav, zai, zao, zah, zap, zar, zaf, zag, zae, zay, zaA, zan, zaj]
 repeat' (first
 | (apply cl_plain
    case hs => rfl
    case ha => exact yfc
    case h => exact yfd)
 | ((first | refine s1_id ?_ | refine swp_id ?_ | refine sops_id ?_ | refine s2_id ?_); simp only [zai, zao, zah, zap, zar, zaf, zag, zae, zay, zaA, zan, zaj, go_sem, zaa, zak, zal, zam, zas, zad, ↓reduceIte, reduceCtorEq, zab, zac, zat, zau, zav, zaM, zaN, zaK, zaL, renO, bk, back, outUpsFrom, Ints_ren])
 | exact yfb | fail)
 refine w_loop (ι := Nat) (fun m => ⟨[(1, i1 g), (2, .one (.optr 0 0)), (5, .one (.osl 1 0 (K m).length none)), (6, i1 m)], [(0, some ⟨hyc l none n T none h, 4⟩), (1, some ⟨Ints (K m), 1⟩)], 2⟩) (fun m => m ≤ T.length) (fun m => T.length - m) 0 ?_ (zaV _) ?_
 · simp only [hK0]; (refine Imp.trans (imp_nilA _ _ 5 1 99 (by simp only []; omega) rfl) ?_)
   (refine imp_ren _ _ _ [(0, 0, ⟨hyc l none n T none h, 4⟩), (1, 99, ⟨[], 1⟩)] (by simp) (by simp) (by simp) (zaE rfl) ?_ rfl (by simp only [zaq, zax, false_implies, implies_true, and_true, zaP, lookR, zaa, if_true, if_false, ↓reduceIte] <;> (repeat' apply zaD) <;> (first | rfl | trivial)) (by simp only [zaq, zax, false_implies, implies_true, and_true, true_and, flat_cons, flat_nil, flat_ints, flat_bools, flat_app, zaO, and_self, eq_self_iff_true, zah]); simp only [zaw, zaz, zaq, zax, false_implies, implies_true, and_true, lk, slot, zaM, zaK, toN, zaa, if_true, if_false, ↓reduceIte, reduceCtorEq])
   all_goals ((repeat' apply zaD) <;> (first | rfl | trivial))
 rintro m hm
 simp only at hm ⊢
 rcases zaU m T.length with hlt | hge
 case inr =>
   have c : ¬ (m : Int) < (T.length : Int) := by omega
   obtain rfl : m = T.length := by omega
   rw [hKe]
   simp only [go_sem, zaa, zak, zal, zam, zas, zad, ↓reduceIte, reduceCtorEq, zab, zac, zat, zau, zav, decide_eq_false c, zai, zao, zah, zap, zar, zaf, zag, zae, zay, zaA, zan, zaj]
   repeat' (first
 | exact yfb | fail)
   (refine fs_frz 1 ⟨Ints W, 1⟩ (by simp only [zaP, lookR, zaa, if_true, if_false, ↓reduceIte]) (by first | exact Ints_isG _ | exact Bools_isG _ | exact Cs_isG _ | (simp [zbf]; done)) ?_; simp only [frzTm, SV.frz, SV.frzL, zbc, frzHp, frzO, Ints_frz, Bools_frz, zaw, zaz, zaa, if_true, if_false, ↓reduceIte])
   repeat' (first
 | exact yfa
 | fail)
 have c : (m : Int) < (T.length : Int) := by omega
 obtain ⟨q0, _, q2, _⟩ := tk_q T m hlt (.sc (.int .i64 0))
 obtain ⟨s1, s2⟩ := hKs m hlt
 have hk := hKl m
 have ha := Ints_all (K m)
 have hla := snoc_len (K m) (gT T m).i
 rw [show T.getD m ztk = gT T m from rfl] at s1 s2
 by_cases e : (gT T m).g = g
 · (try rw [if_pos e])
   have s1 := s1 (decide_eq_true e)
   rw [← s1] at hla
   simp only [go_sem, zaa, zak, zal, zam, zas, zad, ↓reduceIte, reduceCtorEq, zab, zac, zat, zau, zav, decide_eq_true c, q0, q2, decide_eq_true e, ha, ← s1, zai, zao, zah, zap, zar, zaf, zag, zae, zay, zaA, zan, zaj]
   repeat' (first
 | with_reducible refine zaD ?_ ?_
 | exact yfe
 | exact yfb | fail)
   refine le_mk (m + 1) ?_ hlt (by show T.length - (m + 1) < T.length - m; omega)
   (refine imp_ren _ _ _ [(0, 0, ⟨hyc l none n T none h, 4⟩), (1, 23, ⟨Ints (K (m + 1)), 1⟩)] (by simp) (by simp) (by simp) (zaE rfl) ?_ rfl (by simp only [zaq, zax, false_implies, implies_true, and_true, zaP, lookR, zaa, if_true, if_false, ↓reduceIte] <;> (repeat' apply zaD) <;> (first | rfl | trivial)) (by simp only [zaq, zax, false_implies, implies_true, and_true, true_and, flat_cons, flat_nil, flat_ints, flat_bools, flat_app, zaO, and_self, eq_self_iff_true, zah]); simp only [zaw, zaz, zaq, zax, false_implies, implies_true, and_true, lk, slot, zaM, zaK, toN, zaa, if_true, if_false, ↓reduceIte, reduceCtorEq])
   all_goals ((repeat' apply zaD) <;> (first | rfl | trivial | (simp only [zaI, hla]; done) | (simp only [zaI, hla]; rfl) | (simp only [zaI, hla]; trivial)))
 (try rw [if_neg e])
 have s2 := s2 (decide_eq_false e)
 simp only [go_sem, zaa, zak, zal, zam, zas, zad, ↓reduceIte, reduceCtorEq, zab, zac, zat, zau, zav, decide_eq_true c, q0, q2, decide_eq_false e, zai, zao, zah, zap, zar, zaf, zag, zae, zay, zaA, zan, zaj]
 repeat' (first
 | with_reducible refine zaD ?_ ?_
 | exact yfe
 | exact yfb | fail)
 rw [← s2]
 refine le_mk (m + 1) ?_ hlt (by show T.length - (m + 1) < T.length - m; omega)
 (refine imp_ren _ _ _ [(0, 0, ⟨hyc l none n T none h, 4⟩), (1, 1, ⟨Ints (K (m + 1)), 1⟩)] (by simp) (by simp) (by simp) (zaE rfl) ?_ rfl (by simp only [zaq, zax, false_implies, implies_true, and_true, zaP, lookR, zaa, if_true, if_false, ↓reduceIte] <;> (repeat' apply zaD) <;> (first | rfl | trivial)) (by simp only [zaq, zax, false_implies, implies_true, and_true, true_and, flat_cons, flat_nil, flat_ints, flat_bools, flat_app, zaO, and_self, eq_self_iff_true, zah]); simp only [zaw, zaz, zaq, zax, false_implies, implies_true, and_true, lk, slot, zaM, zaK, toN, zaa, if_true, if_false, ↓reduceIte, reduceCtorEq])
 all_goals ((repeat' apply zaD) <;> (first | rfl | trivial | (simp only [zaI]; done) | (simp only [zaI]; rfl) | (simp only [zaI]; trivial)))
def ptF (t g : Int) (y : Tk) : Tk := if y.i = t then ⟨y.i, y.p, g, y.u⟩ else y
def plR (l : List Nd) (n : Int) (T : List Tk) (h t g : Int) : Hy × Int := if hyM l n T h = true then (if bsF Tk.i T t = true then (if bsF Nd.i l g = true then ((l, n, T.map (ptF t g), h), 0) else (z6, 4)) else (z6, 4)) else (z6, 1)
set_option maxHeartbeats 8000000 in
theorem rplace6_spec (l : List Nd) (n : Int) (T : List Tk) (h t g : Int) (hl : l.length ≤ 1000000) (hT : T.length ≤ 1000000) (hnm : NmR l) : FnSpec Tryz.prog 39 [hyV l none n T none h, i1 t, i1 g] [] (.tup [hyQ (plR l n T h t g).1, i1 (plR l n T h t g).2]) [] := by
 have h1 := rcheck6 l n T h hl (by omega) hnm
 unfold plR
 cases hv : hyM l n T h with
 | false =>
   (try rw [hv] at h1)
   (try rw [if_neg (by decide)])
   simp only [Cs_nil, zaj]
   refine fnspec_of mixed TT_ok TT_cl ⟨fun _ => false, fun _ => [], 0, fun _ => false, fun _ => false⟩ Tryz.func39 rfl (by kernel_rfl) rfl 56 rfl [.cell 6 28, .tmp 7] rfl ?_
   simp only [go_sem, zaa, zak, zal, zam, zas, zad, ↓reduceIte, reduceCtorEq, zab, zac, zat, zau, zav, zai, zao, zah, zap, zar, zaf, zag, zae, zay, zaA, zan, zaj]
   repeat' (first
 | (apply cl_plain
    case hs => rfl
    case ha => exact yfc
    case h => exact yfd)
 | ((first | refine s1_id ?_ | refine swp_id ?_ | refine sops_id ?_ | refine s2_id ?_); simp only [zai, zao, zah, zap, zar, zaf, zag, zae, zay, zaA, zan, zaj, go_sem, zaa, zak, zal, zam, zas, zad, ↓reduceIte, reduceCtorEq, zab, zac, zat, zau, zav, zaM, zaN, zaK, zaL, renO, bk, back, outUpsFrom, Ints_ren])
 | exact yfb | fail)
   repeat' (first
 | exact yfa
 | fail)
 | true =>
 (try rw [hv] at h1)
 (try rw [if_pos rfl])
 obtain ⟨hV, hTl, hh1, hh2, hpw⟩ := hy_all hv
 have h2 := rfind6_spec l n T h t hl hT hnm
 unfold fiR at h2
 rw [if_pos hv] at h2
 cases hb : bsF Tk.i T t with
 | false =>
   (try rw [hb] at h2)
   (try rw [if_neg (by decide)])
   rw [if_neg (by decide)] at h2
   simp only [Cs_nil, zaj]
   refine fnspec_of mixed TT_ok TT_cl ⟨fun _ => false, fun _ => [], 0, fun _ => false, fun _ => false⟩ Tryz.func39 rfl (by kernel_rfl) rfl 56 rfl [.cell 6 28, .tmp 7] rfl ?_
   simp only [go_sem, zaa, zak, zal, zam, zas, zad, ↓reduceIte, reduceCtorEq, zab, zac, zat, zau, zav, zai, zao, zah, zap, zar, zaf, zag, zae, zay, zaA, zan, zaj]
   repeat' (first
 | (apply cl_plain
    case hs => rfl
    case ha => exact yfc
    case h => exact yfg)
 | ((first | refine s1_id ?_ | refine swp_id ?_ | refine sops_id ?_ | refine s2_id ?_); simp only [zai, zao, zah, zap, zar, zaf, zag, zae, zay, zaA, zan, zaj, go_sem, zaa, zak, zal, zam, zas, zad, ↓reduceIte, reduceCtorEq, zab, zac, zat, zau, zav, zaM, zaN, zaK, zaL, renO, bk, back, outUpsFrom, Ints_ren])
 | exact yfb | fail)
   repeat' (first
 | exact yfa
 | fail)
 | true =>
 (try rw [hb] at h2)
 (try rw [if_pos rfl])
 rw [if_pos rfl] at h2
 have h3 := rhas_spec l none n g hl hnm
 rw [has_bs6 ((chkT_iff l n).2 hV)] at h3
 generalize gT T (bsV Tk.i T t) = fx at h2
 obtain ⟨f0, f1, f2, f3⟩ := fx
 simp only [tkc] at h2
 cases hc : bsF Nd.i l g with
 | false =>
   (try rw [hc] at h3)
   (try rw [if_neg (by decide)])
   simp only [Cs_nil, zaj]
   refine fnspec_of mixed TT_ok TT_cl ⟨fun _ => false, fun _ => [], 0, fun _ => false, fun _ => false⟩ Tryz.func39 rfl (by kernel_rfl) rfl 56 rfl [.cell 6 28, .tmp 7] rfl ?_
   simp only [go_sem, zaa, zak, zal, zam, zas, zad, ↓reduceIte, reduceCtorEq, zab, zac, zat, zau, zav, zai, zao, zah, zap, zar, zaf, zag, zae, zay, zaA, zan, zaj]
   repeat' (first
 | (apply cg_tp
    case hl => rfl
    case ha => exact yfc
    case hs => rfl
    case h => exact yff)
 | (apply cl_plain
    case hs => rfl
    case ha => exact yfc
    case h => exact yff)
 | ((first | refine s1_id ?_ | refine swp_id ?_ | refine sops_id ?_ | refine s2_id ?_); simp only [zai, zao, zah, zap, zar, zaf, zag, zae, zay, zaA, zan, zaj, go_sem, zaa, zak, zal, zam, zas, zad, ↓reduceIte, reduceCtorEq, zab, zac, zat, zau, zav, zaM, zaN, zaK, zaL, renO, bk, back, outUpsFrom, Ints_ren])
 | exact yfb | fail)
   repeat' (first
 | exact yfa
 | fail)
 | true =>
 (try rw [hc] at h3)
 (try rw [if_pos rfl])
 have h4 := rhcopy_spec l n T h hV.ne hl hT
 obtain ⟨U, hU0, hUe, hUl, hUs⟩ := upG_pack ztk (ptF t g) T
 have hle : (T.map (ptF t g)).length = T.length := zbb _
 generalize T.map (ptF t g) = W at *
 show FnSpec Tryz.prog _ _ _ (.tup [.agg [.gsl (Cs l) 0 l.length none, int n, .gsl (Cs W) 0 W.length none, int h], i1 0]) _
 rw [hle]
 refine fnspec_of mixed TT_ok TT_cl ⟨fun _ => false, fun _ => [], 0, fun _ => false, fun _ => false⟩ Tryz.func39 rfl (by kernel_rfl) rfl 56 rfl [.cell 6 28, .tmp 7] rfl ?_
 simp only [go_sem, zaa, zak, zal, zam, zas, zad, ↓reduceIte, reduceCtorEq, zab, zac, zat, zau, zav, zai, zao, zah, zap, zar, zaf, zag, zae, zay, zaA, zan, zaj]
 repeat' (first
 | (apply cg_tp
    case hl => rfl
    case ha => exact yfc
    case hs => rfl
    case h => exact yfh)
 | (apply cl_plain
    case hs => rfl
    case ha => exact yfc
    case h => exact yfh)
 | ((first | refine s1_id ?_ | refine swp_id ?_ | refine sops_id ?_ | refine s2_id ?_); simp only [zai, zao, zah, zap, zar, zaf, zag, zae, zay, zaA, zan, zaj, go_sem, zaa, zak, zal, zam, zas, zad, ↓reduceIte, reduceCtorEq, zab, zac, zat, zau, zav, zaM, zaN, zaK, zaL, renO, bk, back, outUpsFrom, Ints_ren])
 | exact yfb | fail)
 refine w_loop (ι := Nat) (fun m => ⟨[(1, i1 t), (2, i1 g), (6, .one (.optr 0 0)), (10, .one (.optr 1 0)), (11, i1 m)], [(0, some ⟨[.sc (.slice none 0 0), int 0, .sc (.slice none 0 0), int 0], 4⟩), (1, some ⟨[.osl 2 0 l.length none, int n, .osl 3 0 T.length none, int h], 4⟩), (2, some ⟨Cs l, 6⟩), (3, some ⟨Cs (U m), 4⟩)], 4⟩) (fun m => m ≤ T.length) (fun m => T.length - m) 0 ?_ (zaV _) ?_
 · (refine imp_sub _ _ _ [(0, 1), (1, 27), (2, 25), (3, 26)] (by simp) (by simp) (by simp) (zaE rfl) ?_ (by simp only [zaw, zaz, zaP, lookR, renO, zaL, zaK, toN, Ints_ren, Bools_ren, zaa, if_true, if_false, ↓reduceIte, Cs_ren, Cs_flat, hU0] <;> (try rfl)) (by simp only [zaq, zax, false_implies, implies_true, and_true, zaP, lookR, zaa, if_true, if_false, ↓reduceIte, Option.some.injEq, forall_eq'] <;> ((repeat' with_reducible apply zaD) <;> (first | with_reducible trivial | exact fun c hc q hq => absurd hq (Ints_refs0 _ _ c hc) | exact fun c hc q hq => absurd hq (by rw [Cs_flat _ c hc]; exact zax) | (simp [zaO, toN]; done)))); simp only [zaw, zaz, zaq, zax, false_implies, implies_true, and_true, lk, slot, zaM, zaK, toN, zaa, if_true, if_false, ↓reduceIte, reduceCtorEq])
   all_goals ((repeat' apply zaD) <;> (first | rfl | trivial))
 rintro m hm
 simp only at hm ⊢
 rcases zaU m T.length with hlt | hge
 case inr =>
   have c : ¬ (m : Int) < (T.length : Int) := by omega
   obtain rfl : m = T.length := by omega
   rw [hUe]
   simp only [go_sem, zaa, zak, zal, zam, zas, zad, ↓reduceIte, reduceCtorEq, zab, zac, zat, zau, zav, decide_eq_false c, zai, zao, zah, zap, zar, zaf, zag, zae, zay, zaA, zan, zaj]
   repeat' (first
 | exact yfb | fail)
   (refine fs_frz 2 ⟨Cs l, 6⟩ (by simp only [zaP, lookR, zaa, if_true, if_false, ↓reduceIte]) (by first | exact Ints_isG _ | exact Bools_isG _ | exact Cs_isG _ | (simp [zbf]; done)) ?_; simp only [frzTm, SV.frz, SV.frzL, zbc, frzHp, frzO, Ints_frz, Bools_frz, zaw, zaz, zaa, if_true, if_false, ↓reduceIte])
   simp only [frzHp, frzO, Cs_frz, zaw, zaz]
   (refine fs_frz 3 ⟨Cs W, 4⟩ (by simp only [zaP, lookR, zaa, if_true, if_false, ↓reduceIte]) (by first | exact Ints_isG _ | exact Bools_isG _ | exact Cs_isG _ | (simp [zbf]; done)) ?_; simp only [frzTm, SV.frz, SV.frzL, zbc, frzHp, frzO, Ints_frz, Bools_frz, zaw, zaz, zaa, if_true, if_false, ↓reduceIte])
   repeat' (first
 | exact yfa
 | fail)
 have c : (m : Int) < (T.length : Int) := by omega
 obtain ⟨hat, hS⟩ := hUs m hlt
 have hl2 := hUl m
 have hlc := tk_len (U m)
 obtain ⟨q0, _⟩ := tk_q (U m) m (by omega) (.sc (.int .i64 0))
 rw [show gT (U m) m = gT T m from hat] at q0
 have hself := set_self (U m) m ztk (by omega)
 rw [hat] at hself
 have hpt := Cs_setf (U m) m 2 (⟨(gT T m).i, (gT T m).p, g, (gT T m).u⟩ : Tk) (int g) (by omega) (by decide) (by rw [show (U m).getD m Rec.z = gT T m from hat]; rfl)
 have hpt : (Cs (U m)).set (m * 4 + 2) (int g) = Cs ((U m).set m ⟨(gT T m).i, (gT T m).p, g, (gT T m).u⟩) := hpt
 by_cases e : (gT T m).i = t
 · (try rw [if_pos e])
   rw [show ptF t g (T.getD m ztk) = ⟨(gT T m).i, (gT T m).p, g, (gT T m).u⟩ from if_pos e] at hS
   rw [← hS] at hpt
   simp only [go_sem, zaa, zak, zal, zam, zas, zad, ↓reduceIte, reduceCtorEq, zab, zac, zat, zau, zav, decide_eq_true c, q0, decide_eq_true e, hpt, hlc, hl2, zai, zao, zah, zap, zar, zaf, zag, zae, zay, zaA, zan, zaj]
   repeat' (first
 | with_reducible refine zaD ?_ ?_
 | exact yfe
 | exact yfb | fail)
   refine le_mk (m + 1) ?_ hlt (by show T.length - (m + 1) < T.length - m; omega)
   (refine imp_sub _ _ _ [(0, 0), (1, 1), (2, 2), (3, 3)] (by simp) (by simp) (by simp) (zaE rfl) ?_ (by simp only [zaw, zaz, zaP, lookR, renO, zaL, zaK, toN, Ints_ren, Bools_ren, zaa, if_true, if_false, ↓reduceIte, hS, Cs_ren, Cs_flat] <;> (try rfl)) (by simp only [zaq, zax, false_implies, implies_true, and_true, zaP, lookR, zaa, if_true, if_false, ↓reduceIte, Option.some.injEq, forall_eq'] <;> ((repeat' with_reducible apply zaD) <;> (first | with_reducible trivial | exact fun c hc q hq => absurd hq (Ints_refs0 _ _ c hc) | exact fun c hc q hq => absurd hq (by rw [Cs_flat _ c hc]; exact zax) | (simp [zaO, toN]; done)))); simp only [zaw, zaz, zaq, zax, false_implies, implies_true, and_true, lk, slot, zaM, zaK, toN, zaa, if_true, if_false, ↓reduceIte, reduceCtorEq])
   all_goals ((repeat' apply zaD) <;> (first | rfl | trivial | (simp only [zaI]; done) | (simp only [zaI]; rfl) | (simp only [zaI]; trivial)))
 (try rw [if_neg e])
 rw [show ptF t g (T.getD m ztk) = T.getD m ztk from if_neg e, hself] at hS
 simp only [go_sem, zaa, zak, zal, zam, zas, zad, ↓reduceIte, reduceCtorEq, zab, zac, zat, zau, zav, decide_eq_true c, q0, decide_eq_false e, zai, zao, zah, zap, zar, zaf, zag, zae, zay, zaA, zan, zaj]
 repeat' (first
 | with_reducible refine zaD ?_ ?_
 | exact yfe
 | exact yfb | fail)
 rw [← hS]
 refine le_mk (m + 1) ?_ hlt (by show T.length - (m + 1) < T.length - m; omega)
 (refine imp_sub _ _ _ [(0, 0), (1, 1), (2, 2), (3, 3)] (by simp) (by simp) (by simp) (zaE rfl) ?_ (by simp only [zaw, zaz, zaP, lookR, renO, zaL, zaK, toN, Ints_ren, Bools_ren, zaa, if_true, if_false, ↓reduceIte, hS, Cs_ren, Cs_flat] <;> (try rfl)) (by simp only [zaq, zax, false_implies, implies_true, and_true, zaP, lookR, zaa, if_true, if_false, ↓reduceIte, Option.some.injEq, forall_eq'] <;> ((repeat' with_reducible apply zaD) <;> (first | with_reducible trivial | exact fun c hc q hq => absurd hq (Ints_refs0 _ _ c hc) | exact fun c hc q hq => absurd hq (by rw [Cs_flat _ c hc]; exact zax) | (simp [zaO, toN]; done)))); simp only [zaw, zaz, zaq, zax, false_implies, implies_true, and_true, lk, slot, zaM, zaK, toN, zaa, if_true, if_false, ↓reduceIte, reduceCtorEq])
 all_goals ((repeat' apply zaD) <;> (first | rfl | trivial | (simp only [zaI]; done) | (simp only [zaI]; rfl) | (simp only [zaI]; trivial)))
theorem ftG_pack {α : Type} (z : α) (q : α → Bool) (l : List α) : ∃ K : Nat → List α, K 0 = [] ∧ K l.length = l.filter q ∧ (∀ m, (K m).length ≤ m) ∧ ∀ m, m < l.length → (q (l.getD m z) = true → K (m + 1) = K m ++ [l.getD m z]) ∧ (q (l.getD m z) = false → K (m + 1) = K m) := by
 obtain ⟨K, h0, h1, h2, h3⟩ := fmG_pack z q id l
 exact ⟨K, h0, by rw [h1, List.map_id], h2, h3⟩
theorem tk_snoc (K : List Tk) (x : Tk) : Cs K ++ [int x.i, int x.p, int x.g, int x.u] = Cs (K ++ [x]) := Cs_snoc K x
theorem tk_all (K : List Tk) : List.take (K.length * 4) (Cs K) = Cs K := Cs_all K _ (Nat.le_refl _)
set_option maxHeartbeats 8000000 in
theorem rexit6_spec (l : List Nd) (n : Int) (T : List Tk) (h t : Int) (hl : l.length ≤ 1000000) (hT : T.length ≤ 1000000) (hnm : NmR l) : FnSpec Tryz.prog 37 [hyV l none n T none h, i1 t] [] (.tup [hyQ (exR l n T h t).1, i1 (exR l n T h t).2]) [] := by
 have h1 := rcheck6 l n T h hl (by omega) hnm
 have hcl := tk_len T
 unfold exR
 cases hv : hyM l n T h with
 | false =>
   (try rw [hv] at h1)
   (try rw [if_neg (by decide)])
   simp only [Cs_nil, zaj]
   refine fnspec_of mixed TT_ok TT_cl ⟨fun _ => false, fun _ => [], 0, fun _ => false, fun _ => false⟩ Tryz.func37 rfl (by kernel_rfl) rfl 59 rfl [.cell 4 28, .tmp 5] rfl ?_
   simp only [go_sem, zaa, zak, zal, zam, zas, zad, ↓reduceIte, reduceCtorEq, zab, zac, zat, zau, zav, zai, zao, zah, zap, zar, zaf, zag, zae, zay, zaA, zan, zaj]
   repeat' (first
 | (apply cl_plain
    case hs => rfl
    case ha => exact yfc
    case h => exact yfd)
 | ((first | refine s1_id ?_ | refine swp_id ?_ | refine sops_id ?_ | refine s2_id ?_); simp only [zai, zao, zah, zap, zar, zaf, zag, zae, zay, zaA, zan, zaj, go_sem, zaa, zak, zal, zam, zas, zad, ↓reduceIte, reduceCtorEq, zab, zac, zat, zau, zav, zaM, zaN, zaK, zaL, renO, bk, back, outUpsFrom, Ints_ren])
 | exact yfb | fail)
   repeat' (first
 | exact yfa
 | fail)
 | true =>
 (try rw [hv] at h1)
 (try rw [if_pos rfl])
 obtain ⟨hV, hTl, hh1, hh2, hpw⟩ := hy_all hv
 have h2 := rfind6_spec l n T h t hl hT hnm
 unfold fiR at h2
 rw [if_pos hv] at h2
 cases hb : bsF Tk.i T t with
 | false =>
   (try rw [hb] at h2)
   (try rw [if_neg (by decide)])
   rw [if_neg (by decide)] at h2
   simp only [Cs_nil, zaj]
   refine fnspec_of mixed TT_ok TT_cl ⟨fun _ => false, fun _ => [], 0, fun _ => false, fun _ => false⟩ Tryz.func37 rfl (by kernel_rfl) rfl 59 rfl [.cell 4 28, .tmp 5] rfl ?_
   simp only [go_sem, zaa, zak, zal, zam, zas, zad, ↓reduceIte, reduceCtorEq, zab, zac, zat, zau, zav, zai, zao, zah, zap, zar, zaf, zag, zae, zay, zaA, zan, zaj]
   repeat' (first
 | (apply cl_plain
    case hs => rfl
    case ha => exact yfc
    case h => exact yfg)
 | ((first | refine s1_id ?_ | refine swp_id ?_ | refine sops_id ?_ | refine s2_id ?_); simp only [zai, zao, zah, zap, zar, zaf, zag, zae, zay, zaA, zan, zaj, go_sem, zaa, zak, zal, zam, zas, zad, ↓reduceIte, reduceCtorEq, zab, zac, zat, zau, zav, zaM, zaN, zaK, zaL, renO, bk, back, outUpsFrom, Ints_ren])
 | exact yfb | fail)
   repeat' (first
 | exact yfa
 | fail)
 | true =>
 (try rw [hb] at h2)
 (try rw [if_pos rfl])
 rw [if_pos rfl] at h2
 generalize gT T (bsV Tk.i T t) = fx at h2
 obtain ⟨f0, f1, f2, f3⟩ := fx
 simp only [tkc] at h2
 have h3 := trcopy_spec l none n hV.ne hl
 obtain ⟨K, hK0, hKe, hKl, hKs⟩ := ftG_pack ztk (fun x => !goB t x) T
 generalize T.filter (fun x => !goB t x) = W at *
 refine fnspec_of mixed TT_ok TT_cl ⟨fun _ => false, fun _ => [], 0, fun _ => false, fun _ => false⟩ Tryz.func37 rfl (by kernel_rfl) rfl 59 rfl [.cell 4 28, .tmp 5] rfl ?_
 simp only [go_sem, zaa, zak, zal, zam, zas, zad, ↓reduceIte, reduceCtorEq, zab, zac, zat, zau, zav, zai, zao, zah, zap, zar, zaf, zag, zae, zay, zaA, zan, zaj]
 repeat' (first
 | with_reducible refine zaD ?_ ?_
 | (unfold OKC; kernel_rfl)
 | (unfold EDG; kernel_rfl)
 | (apply cl_plain
    case hs => rfl
    case ha => exact yfc
    case h => exact yff)
 | ((first | refine s1_id ?_ | refine swp_id ?_ | refine sops_id ?_ | refine s2_id ?_); simp only [zai, zao, zah, zap, zar, zaf, zag, zae, zay, zaA, zan, zaj, go_sem, zaa, zak, zal, zam, zas, zad, ↓reduceIte, reduceCtorEq, zab, zac, zat, zau, zav, zaM, zaN, zaK, zaL, renO, bk, back, outUpsFrom, Ints_ren])
 | exact yfb | fail)
 refine w_loop (ι := Nat) (fun m => ⟨[(1, i1 t), (2, .one (.optr 0 0)), (4, .one (.optr 1 0)), (8, .one (.optr 2 0)), (9, i1 m)], [(0, some ⟨hyc l none n T none h, 4⟩), (1, some ⟨[.sc (.slice none 0 0), int 0, .sc (.slice none 0 0), int 0], 4⟩), (2, some ⟨[.osl 3 0 l.length none, int n, .osl 4 0 (K m).length none, int h], 4⟩), (3, some ⟨Cs l, 6⟩), (4, some ⟨Cs (K m), 4⟩)], 5⟩) (fun m => m ≤ T.length) (fun m => T.length - m) 0 ?_ (zaV _) ?_
 · simp only [hK0]; (refine Imp.trans (imp_nilC _ _ 23 2 4 99 (by simp only []; omega) (by simp only [zaP, lookR, zaa, if_true, if_false, ↓reduceIte]; rfl) rfl) ?_)
   (refine imp_sub _ _ _ [(0, 0), (1, 1), (2, 23), (3, 19), (4, 99)] (by simp) (by simp) (by simp) (zaE rfl) ?_ (by simp only [zaw, zaz, zaP, lookR, renO, zaL, zaK, toN, Ints_ren, Bools_ren, zaa, if_true, if_false, ↓reduceIte, Cs_ren, Cs_flat, zaf, zag, Cs_nil] <;> (try rfl)) (by simp only [zaq, zax, false_implies, implies_true, and_true, zaP, lookR, zaa, if_true, if_false, ↓reduceIte, Option.some.injEq, forall_eq'] <;> ((repeat' with_reducible apply zaD) <;> (first | with_reducible trivial | exact fun c hc q hq => absurd hq (Ints_refs0 _ _ c hc) | exact fun c hc q hq => absurd hq (by rw [Cs_flat _ c hc]; exact zax) | (simp [zaO, toN]; done)))); simp only [zaw, zaz, zaq, zax, false_implies, implies_true, and_true, lk, slot, zaM, zaK, toN, zaa, if_true, if_false, ↓reduceIte, reduceCtorEq])
   all_goals ((repeat' apply zaD) <;> (first | rfl | trivial))
 rintro m hm
 simp only at hm ⊢
 rcases zaU m T.length with hlt | hge
 case inr =>
   have c : ¬ (m : Int) < (T.length : Int) := by omega
   obtain rfl : m = T.length := by omega
   rw [hKe]
   simp only [go_sem, zaa, zak, zal, zam, zas, zad, ↓reduceIte, reduceCtorEq, zab, zac, zat, zau, zav, decide_eq_false c, zai, zao, zah, zap, zar, zaf, zag, zae, zay, zaA, zan, zaj]
   repeat' (first
 | exact yfb | fail)
   (refine fs_frz 3 ⟨Cs l, 6⟩ (by simp only [zaP, lookR, zaa, if_true, if_false, ↓reduceIte]) (by first | exact Ints_isG _ | exact Bools_isG _ | exact Cs_isG _ | (simp [zbf]; done)) ?_; simp only [frzTm, SV.frz, SV.frzL, zbc, frzHp, frzO, Ints_frz, Bools_frz, zaw, zaz, zaa, if_true, if_false, ↓reduceIte])
   simp only [frzHp, frzO, Cs_frz, zaw, zaz]
   (refine fs_frz 4 ⟨Cs W, 4⟩ (by simp only [zaP, lookR, zaa, if_true, if_false, ↓reduceIte]) (by first | exact Ints_isG _ | exact Bools_isG _ | exact Cs_isG _ | (simp [zbf]; done)) ?_; simp only [frzTm, SV.frz, SV.frzL, zbc, frzHp, frzO, Ints_frz, Bools_frz, zaw, zaz, zaa, if_true, if_false, ↓reduceIte])
   repeat' (first
 | exact yfa
 | fail)
 have c : (m : Int) < (T.length : Int) := by omega
 obtain ⟨q0, q1, _, _⟩ := tk_q T m hlt (.sc (.int .i64 0))
 have hat := tk_td T m hlt
 obtain ⟨s1, s2⟩ := hKs m hlt
 have hk := hKl m
 have hp := tk_snoc (K m) (gT T m)
 have ha := tk_all (K m)
 have hla := snoc_len (K m) (gT T m)
 have hlc := tk_len (K m)
 rw [show T.getD m ztk = gT T m from rfl] at s1 s2
 unfold goB at s1 s2
 generalize gT T m = x at *
 obtain ⟨xi, xp, xg, xu⟩ := x
 simp only [tkc] at hat s1 s2 hp hla
 by_cases e1 : xi = t
 case neg =>
   (try rw [if_neg e1])
   by_cases e2 : xp = t
   · (try rw [if_pos e2])
     have s2 := s2 (by rw [decide_eq_true e2, Bool.or_true]; rfl)
     simp only [go_sem, zaa, zak, zal, zam, zas, zad, ↓reduceIte, reduceCtorEq, zab, zac, zat, zau, zav, decide_eq_true c, hat, decide_eq_false e1, decide_eq_true e2, zai, zao, zah, zap, zar, zaf, zag, zae, zay, zaA, zan, zaj]
     repeat' (first
 | with_reducible refine zaD ?_ ?_
 | exact yfe
 | exact yfb | fail)
     rw [← s2]
     refine le_mk (m + 1) ?_ hlt (by show T.length - (m + 1) < T.length - m; omega)
     (refine imp_sub _ _ _ [(0, 0), (1, 1), (2, 2), (3, 3), (4, 4)] (by simp) (by simp) (by simp) (zaE rfl) ?_ (by simp only [zaw, zaz, zaP, lookR, renO, zaL, zaK, toN, Ints_ren, Bools_ren, zaa, if_true, if_false, ↓reduceIte, Cs_ren, Cs_flat] <;> (try rfl)) (by simp only [zaq, zax, false_implies, implies_true, and_true, zaP, lookR, zaa, if_true, if_false, ↓reduceIte, Option.some.injEq, forall_eq'] <;> ((repeat' with_reducible apply zaD) <;> (first | with_reducible trivial | exact fun c hc q hq => absurd hq (Ints_refs0 _ _ c hc) | exact fun c hc q hq => absurd hq (by rw [Cs_flat _ c hc]; exact zax) | (simp [zaO, toN]; done)))); simp only [zaw, zaz, zaq, zax, false_implies, implies_true, and_true, lk, slot, zaM, zaK, toN, zaa, if_true, if_false, ↓reduceIte, reduceCtorEq])
     all_goals ((repeat' apply zaD) <;> (first | rfl | trivial | (simp only [zaI]; done) | (simp only [zaI]; rfl) | (simp only [zaI]; trivial)))
   (try rw [if_neg e2])
   have s1 := s1 (by rw [decide_eq_false e1, decide_eq_false e2]; rfl)
   rw [← s1] at hp hla
   simp only [go_sem, zaa, zak, zal, zam, zas, zad, ↓reduceIte, reduceCtorEq, zab, zac, zat, zau, zav, decide_eq_true c, hat, decide_eq_false e1, decide_eq_false e2, hp, ha, zai, zao, zah, zap, zar, zaf, zag, zae, zay, zaA, zan, zaj]
   repeat' (first
 | with_reducible refine zaD ?_ ?_
 | exact yfe
 | exact yfb | fail)
   refine le_mk (m + 1) ?_ hlt (by show T.length - (m + 1) < T.length - m; omega)
   (refine imp_sub _ _ _ [(0, 0), (1, 1), (2, 2), (3, 3), (4, 31)] (by simp) (by simp) (by simp) (zaE rfl) ?_ (by simp only [zaw, zaz, zaP, lookR, renO, zaL, zaK, toN, Ints_ren, Bools_ren, zaa, if_true, if_false, ↓reduceIte, Cs_ren, Cs_flat, zaf, zag, Cs_nil, hla] <;> (try rfl)) (by simp only [zaq, zax, false_implies, implies_true, and_true, zaP, lookR, zaa, if_true, if_false, ↓reduceIte, Option.some.injEq, forall_eq'] <;> ((repeat' with_reducible apply zaD) <;> (first | with_reducible trivial | exact fun c hc q hq => absurd hq (Ints_refs0 _ _ c hc) | exact fun c hc q hq => absurd hq (by rw [Cs_flat _ c hc]; exact zax) | (simp [zaO, toN]; done)))); simp only [zaw, zaz, zaq, zax, false_implies, implies_true, and_true, lk, slot, zaM, zaK, toN, zaa, if_true, if_false, ↓reduceIte, reduceCtorEq])
   all_goals ((repeat' apply zaD) <;> (first | rfl | trivial | (simp only [zaI, hla]; done) | (simp only [zaI, hla]; rfl) | (simp only [zaI, hla]; trivial)))
 (try rw [if_pos e1])
 have s2 := s2 (by rw [decide_eq_true e1]; rfl)
 simp only [go_sem, zaa, zak, zal, zam, zas, zad, ↓reduceIte, reduceCtorEq, zab, zac, zat, zau, zav, decide_eq_true c, hat, decide_eq_true e1, zai, zao, zah, zap, zar, zaf, zag, zae, zay, zaA, zan, zaj]
 repeat' (first
 | with_reducible refine zaD ?_ ?_
 | exact yfe
 | exact yfb | fail)
 rw [← s2]
 refine le_mk (m + 1) ?_ hlt (by show T.length - (m + 1) < T.length - m; omega)
 (refine imp_sub _ _ _ [(0, 0), (1, 1), (2, 2), (3, 3), (4, 4)] (by simp) (by simp) (by simp) (zaE rfl) ?_ (by simp only [zaw, zaz, zaP, lookR, renO, zaL, zaK, toN, Ints_ren, Bools_ren, zaa, if_true, if_false, ↓reduceIte, Cs_ren, Cs_flat] <;> (try rfl)) (by simp only [zaq, zax, false_implies, implies_true, and_true, zaP, lookR, zaa, if_true, if_false, ↓reduceIte, Option.some.injEq, forall_eq'] <;> ((repeat' with_reducible apply zaD) <;> (first | with_reducible trivial | exact fun c hc q hq => absurd hq (Ints_refs0 _ _ c hc) | exact fun c hc q hq => absurd hq (by rw [Cs_flat _ c hc]; exact zax) | (simp [zaO, toN]; done)))); simp only [zaw, zaz, zaq, zax, false_implies, implies_true, and_true, lk, slot, zaM, zaK, toN, zaa, if_true, if_false, ↓reduceIte, reduceCtorEq])
 all_goals ((repeat' apply zaD) <;> (first | rfl | trivial | (simp only [zaI]; done) | (simp only [zaI]; rfl) | (simp only [zaI]; trivial)))
def bAn (a b : Int) : Int := IntKind.i64.wrap (((BitVec.ofInt 64 a &&& ~~~ BitVec.ofInt 64 b).toNat : Nat) : Int)
def bAd (a b : Int) : Int := IntKind.i64.wrap (((BitVec.ofInt 64 a &&& BitVec.ofInt 64 b).toNat : Nat) : Int)
def bOr (a b : Int) : Int := IntKind.i64.wrap (((BitVec.ofInt 64 a ||| BitVec.ofInt 64 b).toNat : Nat) : Int)
theorem bAn_f (a b : Int) : IntKind.i64.wrap (((@HAnd.hAnd (BitVec 64) (BitVec 64) (BitVec 64) (@instHAndOfAndOp (BitVec IntKind.i64.bits) (@BitVec.instAndOp IntKind.i64.bits)) (BitVec.ofInt 64 a) (@Complement.complement (BitVec 64) (@BitVec.instComplement IntKind.i64.bits) (BitVec.ofInt 64 b))).toNat : Nat) : Int) = bAn a b := rfl
theorem bAd_f (a b : Int) : IntKind.i64.wrap (((@HAnd.hAnd (BitVec 64) (BitVec 64) (BitVec 64) (@instHAndOfAndOp (BitVec IntKind.i64.bits) (@BitVec.instAndOp IntKind.i64.bits)) (BitVec.ofInt 64 a) (BitVec.ofInt 64 b)).toNat : Nat) : Int) = bAd a b := rfl
theorem bOr_f (a b : Int) : IntKind.i64.wrap (((@HOr.hOr (BitVec 64) (BitVec 64) (BitVec 64) (@instHOrOfOrOp (BitVec IntKind.i64.bits) (@BitVec.instOrOp IntKind.i64.bits)) (BitVec.ofInt 64 a) (BitVec.ofInt 64 b)).toNat : Nat) : Int) = bOr a b := rfl
def ndM (l : List Nd) (n a : Int) : Nd := (fdM l n a).1
def actM (l : List Nd) (n id : Int) : Int := if hasM l n id = true then (if id = 1 then 0 else (if (ndM l n id).k = 1 then bAn (ndM l n (ndM l n id).p).c 6 else (ndM l n (ndM l n id).p).c)) else 0
set_option maxHeartbeats 8000000 in
theorem r7act_spec (l : List Nd) (k : Option Nat) (n id : Int) (hl : l.length ≤ 1000000) (hnm : NmR l) : FnSpec Tryz.prog 127 [trV l k n, i1 id] [] (i1 (actM l n id)) [] := by
 have h1 := rfindT_spec l k n id hl hnm
 rw [fdM_2] at h1
 unfold actM
 rw [show (fdM l n id).1 = ndM l n id from rfl] at h1
 cases hv : hasM l n id with
 | false =>
   (try rw [hv] at h1)
   (try rw [if_neg (by decide)])
   generalize ndM l n id = x at *
   obtain ⟨xi, xp, xm, xc, xk, xo⟩ := x
   simp only [ndc] at h1
   refine fnspec_of mixed TT_ok TT_cl ⟨fun _ => false, fun _ => [], 0, fun _ => false, fun _ => false⟩ Tryz.func127 rfl (by kernel_rfl) rfl 36 rfl [.tmp 4] rfl ?_
   simp only [go_sem, zaa, zak, zal, zam, zas, zad, ↓reduceIte, reduceCtorEq, zab, zac, zat, zau, zav, zai, zao, zah, zap, zar, zaf, zag, zae, zay, zaA, zan, zaj]
   repeat' (first
 | (apply cl_plain
    case hs => rfl
    case ha => exact yfc
    case h => exact yfd)
 | ((first | refine s1_id ?_ | refine swp_id ?_ | refine sops_id ?_ | refine s2_id ?_); simp only [zai, zao, zah, zap, zar, zaf, zag, zae, zay, zaA, zan, zaj, go_sem, zaa, zak, zal, zam, zas, zad, ↓reduceIte, reduceCtorEq, zab, zac, zat, zau, zav, zaM, zaN, zaK, zaL, renO, bk, back, outUpsFrom, Ints_ren])
 | exact fs_nil trivial rfl
 | fail)
 | true =>
 (try rw [hv] at h1)
 (try rw [if_pos rfl])
 have h2 := rfindT_spec l k n (ndM l n id).p hl hnm
 rw [show (fdM l n (ndM l n id).p).1 = ndM l n (ndM l n id).p from rfl] at h2
 generalize (fdM l n (ndM l n id).p).2 = pb at *
 generalize ndM l n (ndM l n id).p = y at *
 generalize ndM l n id = x at *
 obtain ⟨xi, xp, xm, xc, xk, xo⟩ := x
 obtain ⟨yi, yp, ym, yc, yk, yo⟩ := y
 simp only [ndc] at h1 h2
 by_cases e1 : id = 1
 · (try rw [if_pos e1])
   refine fnspec_of mixed TT_ok TT_cl ⟨fun _ => false, fun _ => [], 0, fun _ => false, fun _ => false⟩ Tryz.func127 rfl (by kernel_rfl) rfl 36 rfl [.tmp 4] rfl ?_
   simp only [go_sem, zaa, zak, zal, zam, zas, zad, ↓reduceIte, reduceCtorEq, zab, zac, zat, zau, zav, bAn_f, decide_eq_true e1, zai, zao, zah, zap, zar, zaf, zag, zae, zay, zaA, zan, zaj]
   repeat' (first
 | (apply cl_plain
    case hs => rfl
    case ha => exact yfc
    case h => exact yfd)
 | ((first | refine s1_id ?_ | refine swp_id ?_ | refine sops_id ?_ | refine s2_id ?_); simp only [bAn_f, decide_eq_true e1, zai, zao, zah, zap, zar, zaf, zag, zae, zay, zaA, zan, zaj, go_sem, zaa, zak, zal, zam, zas, zad, ↓reduceIte, reduceCtorEq, zab, zac, zat, zau, zav, zaM, zaN, zaK, zaL, renO, bk, back, outUpsFrom, Ints_ren])
 | exact fs_nil trivial rfl
 | fail)
 (try rw [if_neg e1])
 by_cases e2 : xk = 1
 · (try rw [if_pos e2])
   refine fnspec_of mixed TT_ok TT_cl ⟨fun _ => false, fun _ => [], 0, fun _ => false, fun _ => false⟩ Tryz.func127 rfl (by kernel_rfl) rfl 36 rfl [.tmp 4] rfl ?_
   simp only [go_sem, zaa, zak, zal, zam, zas, zad, ↓reduceIte, reduceCtorEq, zab, zac, zat, zau, zav, bAn_f, decide_eq_false e1, decide_eq_true e2, zai, zao, zah, zap, zar, zaf, zag, zae, zay, zaA, zan, zaj]
   repeat' (first
 | (apply cl_plain
    case hs => rfl
    case ha => exact yfc
    case h => exact yfg)
 | ((first | refine s1_id ?_ | refine swp_id ?_ | refine sops_id ?_ | refine s2_id ?_); simp only [bAn_f, decide_eq_false e1, decide_eq_true e2, zai, zao, zah, zap, zar, zaf, zag, zae, zay, zaA, zan, zaj, go_sem, zaa, zak, zal, zam, zas, zad, ↓reduceIte, reduceCtorEq, zab, zac, zat, zau, zav, zaM, zaN, zaK, zaL, renO, bk, back, outUpsFrom, Ints_ren])
 | exact fs_nil trivial rfl
 | fail)
 (try rw [if_neg e2])
 refine fnspec_of mixed TT_ok TT_cl ⟨fun _ => false, fun _ => [], 0, fun _ => false, fun _ => false⟩ Tryz.func127 rfl (by kernel_rfl) rfl 36 rfl [.tmp 4] rfl ?_
 simp only [go_sem, zaa, zak, zal, zam, zas, zad, ↓reduceIte, reduceCtorEq, zab, zac, zat, zau, zav, bAn_f, decide_eq_false e1, decide_eq_false e2, zai, zao, zah, zap, zar, zaf, zag, zae, zay, zaA, zan, zaj]
 repeat' (first
 | (apply cl_plain
    case hs => rfl
    case ha => exact yfc
    case h => exact yfg)
 | ((first | refine s1_id ?_ | refine swp_id ?_ | refine sops_id ?_ | refine s2_id ?_); simp only [bAn_f, decide_eq_false e1, decide_eq_false e2, zai, zao, zah, zap, zar, zaf, zag, zae, zay, zaA, zan, zaj, go_sem, zaa, zak, zal, zam, zas, zad, ↓reduceIte, reduceCtorEq, zab, zac, zat, zau, zav, zaM, zaN, zaK, zaL, renO, bk, back, outUpsFrom, Ints_ren])
 | exact fs_nil trivial rfl
 | fail)
def avM (l : List Nd) (n id : Int) : Int := if hasM l n id = true then (if (ndM l n id).k = 1 then bAn (if id = 1 then 31 else actM l n id) 6 else (if id = 1 then 31 else actM l n id)) else 0
set_option maxHeartbeats 8000000 in
theorem r7av_spec (l : List Nd) (k : Option Nat) (n id : Int) (hl : l.length ≤ 1000000) (hnm : NmR l) : FnSpec Tryz.prog 123 [trV l k n, i1 id] [] (i1 (avM l n id)) [] := by
 have h1 := rfindT_spec l k n id hl hnm
 have h2 := r7act_spec l k n id hl hnm
 rw [fdM_2] at h1
 unfold avM
 rw [show (fdM l n id).1 = ndM l n id from rfl] at h1
 generalize ndM l n id = x at *
 obtain ⟨xi, xp, xm, xc, xk, xo⟩ := x
 simp only [ndc] at h1
 cases hv : hasM l n id with
 | false =>
   (try rw [hv] at h1)
   (try rw [if_neg (by decide)])
   refine fnspec_of mixed TT_ok TT_cl ⟨fun _ => false, fun _ => [], 0, fun _ => false, fun _ => false⟩ Tryz.func123 rfl (by kernel_rfl) rfl 27 rfl [.tmp 4] rfl ?_
   simp only [go_sem, zaa, zak, zal, zam, zas, zad, ↓reduceIte, reduceCtorEq, zab, zac, zat, zau, zav, zai, zao, zah, zap, zar, zaf, zag, zae, zay, zaA, zan, zaj]
   repeat' (first
 | (apply cl_plain
    case hs => rfl
    case ha => exact yfc
    case h => exact yfd)
 | ((first | refine s1_id ?_ | refine swp_id ?_ | refine sops_id ?_ | refine s2_id ?_); simp only [zai, zao, zah, zap, zar, zaf, zag, zae, zay, zaA, zan, zaj, go_sem, zaa, zak, zal, zam, zas, zad, ↓reduceIte, reduceCtorEq, zab, zac, zat, zau, zav, zaM, zaN, zaK, zaL, renO, bk, back, outUpsFrom, Ints_ren])
 | exact fs_nil trivial rfl
 | fail)
 | true =>
 (try rw [hv] at h1)
 (try rw [if_pos rfl])
 by_cases e2 : xk = 1
 · (try rw [if_pos e2])
   by_cases e1 : id = 1
   · (try rw [if_pos e1])
     refine fnspec_of mixed TT_ok TT_cl ⟨fun _ => false, fun _ => [], 0, fun _ => false, fun _ => false⟩ Tryz.func123 rfl (by kernel_rfl) rfl 27 rfl [.tmp 4] rfl ?_
     simp only [go_sem, zaa, zak, zal, zam, zas, zad, ↓reduceIte, reduceCtorEq, zab, zac, zat, zau, zav, bAn_f, decide_eq_true e2, decide_eq_true e1, zai, zao, zah, zap, zar, zaf, zag, zae, zay, zaA, zan, zaj]
     repeat' (first
 | (apply cl_plain
    case hs => rfl
    case ha => exact yfc
    case h => exact yfd)
 | ((first | refine s1_id ?_ | refine swp_id ?_ | refine sops_id ?_ | refine s2_id ?_); simp only [bAn_f, decide_eq_true e2, decide_eq_true e1, zai, zao, zah, zap, zar, zaf, zag, zae, zay, zaA, zan, zaj, go_sem, zaa, zak, zal, zam, zas, zad, ↓reduceIte, reduceCtorEq, zab, zac, zat, zau, zav, zaM, zaN, zaK, zaL, renO, bk, back, outUpsFrom, Ints_ren])
 | exact fs_nil trivial rfl
 | fail)
   (try rw [if_neg e1])
   refine fnspec_of mixed TT_ok TT_cl ⟨fun _ => false, fun _ => [], 0, fun _ => false, fun _ => false⟩ Tryz.func123 rfl (by kernel_rfl) rfl 27 rfl [.tmp 4] rfl ?_
   simp only [go_sem, zaa, zak, zal, zam, zas, zad, ↓reduceIte, reduceCtorEq, zab, zac, zat, zau, zav, bAn_f, decide_eq_true e2, decide_eq_false e1, zai, zao, zah, zap, zar, zaf, zag, zae, zay, zaA, zan, zaj]
   repeat' (first
 | (apply cl_plain
    case hs => rfl
    case ha => exact yfc
    case h => exact yfg)
 | ((first | refine s1_id ?_ | refine swp_id ?_ | refine sops_id ?_ | refine s2_id ?_); simp only [bAn_f, decide_eq_true e2, decide_eq_false e1, zai, zao, zah, zap, zar, zaf, zag, zae, zay, zaA, zan, zaj, go_sem, zaa, zak, zal, zam, zas, zad, ↓reduceIte, reduceCtorEq, zab, zac, zat, zau, zav, zaM, zaN, zaK, zaL, renO, bk, back, outUpsFrom, Ints_ren])
 | exact fs_nil trivial rfl
 | fail)
 (try rw [if_neg e2])
 by_cases e1 : id = 1
 · (try rw [if_pos e1])
   refine fnspec_of mixed TT_ok TT_cl ⟨fun _ => false, fun _ => [], 0, fun _ => false, fun _ => false⟩ Tryz.func123 rfl (by kernel_rfl) rfl 27 rfl [.tmp 4] rfl ?_
   simp only [go_sem, zaa, zak, zal, zam, zas, zad, ↓reduceIte, reduceCtorEq, zab, zac, zat, zau, zav, bAn_f, decide_eq_false e2, decide_eq_true e1, zai, zao, zah, zap, zar, zaf, zag, zae, zay, zaA, zan, zaj]
   repeat' (first
 | (apply cl_plain
    case hs => rfl
    case ha => exact yfc
    case h => exact yfd)
 | ((first | refine s1_id ?_ | refine swp_id ?_ | refine sops_id ?_ | refine s2_id ?_); simp only [bAn_f, decide_eq_false e2, decide_eq_true e1, zai, zao, zah, zap, zar, zaf, zag, zae, zay, zaA, zan, zaj, go_sem, zaa, zak, zal, zam, zas, zad, ↓reduceIte, reduceCtorEq, zab, zac, zat, zau, zav, zaM, zaN, zaK, zaL, renO, bk, back, outUpsFrom, Ints_ren])
 | exact fs_nil trivial rfl
 | fail)
 (try rw [if_neg e1])
 refine fnspec_of mixed TT_ok TT_cl ⟨fun _ => false, fun _ => [], 0, fun _ => false, fun _ => false⟩ Tryz.func123 rfl (by kernel_rfl) rfl 27 rfl [.tmp 4] rfl ?_
 simp only [go_sem, zaa, zak, zal, zam, zas, zad, ↓reduceIte, reduceCtorEq, zab, zac, zat, zau, zav, bAn_f, decide_eq_false e2, decide_eq_false e1, zai, zao, zah, zap, zar, zaf, zag, zae, zay, zaA, zan, zaj]
 repeat' (first
 | (apply cl_plain
    case hs => rfl
    case ha => exact yfc
    case h => exact yfg)
 | ((first | refine s1_id ?_ | refine swp_id ?_ | refine sops_id ?_ | refine s2_id ?_); simp only [bAn_f, decide_eq_false e2, decide_eq_false e1, zai, zao, zah, zap, zar, zaf, zag, zae, zay, zaA, zan, zaj, go_sem, zaa, zak, zal, zam, zas, zad, ↓reduceIte, reduceCtorEq, zab, zac, zat, zau, zav, zaM, zaN, zaK, zaL, renO, bk, back, outUpsFrom, Ints_ren])
 | exact fs_nil trivial rfl
 | fail)
set_option maxHeartbeats 8000000 in
theorem r7set_spec (a : Int) : FnSpec Tryz.prog 122 [i1 a] [] (b1 (decide (0 ≤ a) && decide (a ≤ 31))) [] := by
 by_cases e1 : 0 ≤ a
 · (try rw [if_pos e1])
   refine fnspec_of mixed TT_ok TT_cl ⟨fun _ => false, fun _ => [], 0, fun _ => false, fun _ => false⟩ Tryz.func122 rfl (by kernel_rfl) rfl 9 rfl [.tmp 2] rfl ?_
   simp only [go_sem, zaa, zak, zal, zam, zas, zad, ↓reduceIte, reduceCtorEq, zab, zac, zat, zau, zav, ge_iff_le, decide_eq_true e1, zai, zao, zah, zap, zar, zaf, zag, zae, zay, zaA, zan, zaj]
   repeat' (first
 | exact fs_nil trivial rfl
 | fail)
 (try rw [if_neg e1])
 refine fnspec_of mixed TT_ok TT_cl ⟨fun _ => false, fun _ => [], 0, fun _ => false, fun _ => false⟩ Tryz.func122 rfl (by kernel_rfl) rfl 9 rfl [.tmp 2] rfl ?_
 simp only [go_sem, zaa, zak, zal, zam, zas, zad, ↓reduceIte, reduceCtorEq, zab, zac, zat, zau, zav, ge_iff_le, decide_eq_false e1, zai, zao, zah, zap, zar, zaf, zag, zae, zay, zaA, zan, zaj]
 repeat' (first
 | exact fs_nil trivial rfl
 | fail)
def okS (l : List Nd) (n : Int) (T : List Tk) (h : Int) (x : Nd) : Bool := decide (bAn x.c (avM l n x.i) = 0) && (decide (x.i = 1) || decide (bAd x.c 6 = 0) || decide ((tsM l n T h x.i).length = 0))
def soM (l : List Nd) (n : Int) (T : List Tk) (h : Int) : Bool := hyM l n T h && l.all (okS l n T h)
set_option maxHeartbeats 8000000 in
theorem r7sound_spec (l : List Nd) (n : Int) (T : List Tk) (h : Int) (hl : l.length ≤ 1000000) (hT : T.length ≤ 1000000) (hnm : NmR l) : FnSpec Tryz.prog 116 [hyV l none n T none h] [] (b1 (soM l n T h)) [] := by
 have h1 := rcheck6 l n T h hl (by omega) hnm
 have hcl := nd_len l
 unfold soM
 cases hv : hyM l n T h with
 | false =>
   (try rw [hv] at h1)
   (try rw [if_neg (by decide)])
   refine fnspec_of mixed TT_ok TT_cl ⟨fun _ => false, fun _ => [], 0, fun _ => false, fun _ => false⟩ Tryz.func116 rfl (by kernel_rfl) rfl 50 rfl [.tmp 2] rfl ?_
   simp only [go_sem, zaa, zak, zal, zam, zas, zad, ↓reduceIte, reduceCtorEq, zab, zac, zat, zau, zav, zai, zao, zah, zap, zar, zaf, zag, zae, zay, zaA, zan, zaj]
   repeat' (first
 | (apply cl_plain
    case hs => rfl
    case ha => exact yfc
    case h => exact yfd)
 | ((first | refine s1_id ?_ | refine swp_id ?_ | refine sops_id ?_ | refine s2_id ?_); simp only [zai, zao, zah, zap, zar, zaf, zag, zae, zay, zaA, zan, zaj, go_sem, zaa, zak, zal, zam, zas, zad, ↓reduceIte, reduceCtorEq, zab, zac, zat, zau, zav, zaM, zaN, zaK, zaL, renO, bk, back, outUpsFrom, Ints_ren])
 | exact fs_nil trivial rfl
 | fail)
 | true =>
 (try rw [hv] at h1)
 (try rw [if_pos rfl])
 rw [zbe]
 obtain ⟨R, hR⟩ : ∃ R, l.all (okS l n T h) = R := ⟨_, rfl⟩
 rw [hR]
 refine fnspec_of mixed TT_ok TT_cl ⟨fun _ => false, fun _ => [], 0, fun _ => false, fun _ => false⟩ Tryz.func116 rfl (by kernel_rfl) rfl 50 rfl [.tmp 2] rfl ?_
 simp only [go_sem, zaa, zak, zal, zam, zas, zad, ↓reduceIte, reduceCtorEq, zab, zac, zat, zau, zav, zai, zao, zah, zap, zar, zaf, zag, zae, zay, zaA, zan, zaj]
 repeat' (first
 | (apply cl_plain
    case hs => rfl
    case ha => exact yfc
    case h => exact yfd)
 | ((first | refine s1_id ?_ | refine swp_id ?_ | refine sops_id ?_ | refine s2_id ?_); simp only [zai, zao, zah, zap, zar, zaf, zag, zae, zay, zaA, zan, zaj, go_sem, zaa, zak, zal, zam, zas, zad, ↓reduceIte, reduceCtorEq, zab, zac, zat, zau, zav, zaM, zaN, zaK, zaL, renO, bk, back, outUpsFrom, Ints_ren])
 | exact yfb | fail)
 refine w_loop (ι := Nat) (fun m => ⟨[(1, .one (.optr 0 0)), (3, i1 m)], [(0, some ⟨hyc l none n T none h, 4⟩)], 1⟩) (fun m => m ≤ l.length ∧ (l.drop m).all (okS l n T h) = R) (fun m => l.length - m) 0 ?_ ⟨zaV _, hR⟩ ?_
 · (refine imp_ren _ _ _ [(0, 0, ⟨hyc l none n T none h, 4⟩)] (by simp) (by simp) (by simp) (zaE rfl) ?_ rfl (by simp only [zaq, zax, false_implies, implies_true, and_true, zaP, lookR, zaa, if_true, if_false, ↓reduceIte] <;> (repeat' apply zaD) <;> (first | rfl | trivial)) (by simp only [zaq, zax, false_implies, implies_true, and_true, true_and, flat_cons, flat_nil, flat_ints, flat_bools, flat_app, zaO, and_self, eq_self_iff_true, zah]); simp only [zaw, zaz, zaq, zax, false_implies, implies_true, and_true, lk, slot, zaM, zaK, toN, zaa, if_true, if_false, ↓reduceIte, reduceCtorEq])
   all_goals ((repeat' apply zaD) <;> (first | rfl | trivial))
 clear h1 hR
 rintro m ⟨hm, hI⟩
 simp only at hm hI ⊢
 rcases zaU m l.length with hlt | hge
 case inr =>
   have c : ¬ (m : Int) < (l.length : Int) := by omega
   rw [zaY hge] at hI
   have hI : true = R := hI
   subst hI
   simp only [go_sem, zaa, zak, zal, zam, zas, zad, ↓reduceIte, reduceCtorEq, zab, zac, zat, zau, zav, decide_eq_false c, zai, zao, zah, zap, zar, zaf, zag, zae, zay, zaA, zan, zaj]
   repeat' (first
 | exact fs_nil trivial rfl
 | fail)
 have c : (m : Int) < (l.length : Int) := by omega
 have hat := nd_td l m hlt
 rw [drop_getD l m zn hlt, List.all_cons] at hI
 have h2 := r7av_spec l none n (gN l m).i hl hnm
 have h3 := rtasks6_spec l n T h (gN l m).i hl hT hnm
 unfold okS at hI
 rw [show l.getD m zn = gN l m from rfl] at hI
 generalize avM l n (gN l m).i = av at *
 generalize tsM l n T h (gN l m).i = K at *
 generalize gN l m = x at *
 obtain ⟨xi, xp, xm, xc, xk, xo⟩ := x
 simp only [ndc] at hat hI
 by_cases e1 : bAn xc av = 0
 case neg =>
   (try rw [if_neg e1])
   rw [decide_eq_false e1, Bool.false_and, Bool.false_and] at hI
   rw [← hI]
   simp only [go_sem, zaa, zak, zal, zam, zas, zad, ↓reduceIte, reduceCtorEq, zab, zac, zat, zau, zav, decide_eq_true c, hat, bAn_f, bAd_f, decide_eq_false e1, zai, zao, zah, zap, zar, zaf, zag, zae, zay, zaA, zan, zaj]
   repeat' (first
 | with_reducible refine zaD ?_ ?_
 | (unfold OKC; kernel_rfl)
 | (unfold EDG; kernel_rfl)
 | (apply cl_plain
    case hs => rfl
    case ha => exact yfc
    case h => (first | exact h2 ..))
 | ((first | refine s1_id ?_ | refine swp_id ?_ | refine sops_id ?_ | refine s2_id ?_); simp only [decide_eq_true c, hat, bAn_f, bAd_f, decide_eq_false e1, zai, zao, zah, zap, zar, zaf, zag, zae, zay, zaA, zan, zaj, go_sem, zaa, zak, zal, zam, zas, zad, ↓reduceIte, reduceCtorEq, zab, zac, zat, zau, zav, zaM, zaN, zaK, zaL, renO, bk, back, outUpsFrom, Ints_ren])
 | exact yfe
 | exact fs_nil trivial rfl
 | fail)
 (try rw [if_pos e1])
 rw [decide_eq_true e1, zbe] at hI
 by_cases e2 : xi = 1
 · (try rw [if_pos e2])
   rw [decide_eq_true e2, zbd, zbd, zbe] at hI
   simp only [go_sem, zaa, zak, zal, zam, zas, zad, ↓reduceIte, reduceCtorEq, zab, zac, zat, zau, zav, decide_eq_true c, hat, bAn_f, bAd_f, decide_eq_true e1, decide_eq_true e2, zai, zao, zah, zap, zar, zaf, zag, zae, zay, zaA, zan, zaj]
   repeat' (first
 | with_reducible refine zaD ?_ ?_
 | (unfold OKC; kernel_rfl)
 | (unfold EDG; kernel_rfl)
 | (apply cl_plain
    case hs => rfl
    case ha => exact yfc
    case h => (first | exact h2 ..))
 | ((first | refine s1_id ?_ | refine swp_id ?_ | refine sops_id ?_ | refine s2_id ?_); simp only [decide_eq_true c, hat, bAn_f, bAd_f, decide_eq_true e1, decide_eq_true e2, zai, zao, zah, zap, zar, zaf, zag, zae, zay, zaA, zan, zaj, go_sem, zaa, zak, zal, zam, zas, zad, ↓reduceIte, reduceCtorEq, zab, zac, zat, zau, zav, zaM, zaN, zaK, zaL, renO, bk, back, outUpsFrom, Ints_ren])
 | exact yfe
 | exact yfb | fail)
   refine le_mk (m + 1) ?_ ⟨hlt, hI⟩ (by show l.length - (m + 1) < l.length - m; omega)
   (refine imp_ren _ _ _ [(0, 0, ⟨hyc l none n T none h, 4⟩)] (by simp) (by simp) (by simp) (zaE rfl) ?_ rfl (by simp only [zaq, zax, false_implies, implies_true, and_true, zaP, lookR, zaa, if_true, if_false, ↓reduceIte] <;> (repeat' apply zaD) <;> (first | rfl | trivial)) (by simp only [zaq, zax, false_implies, implies_true, and_true, true_and, flat_cons, flat_nil, flat_ints, flat_bools, flat_app, zaO, and_self, eq_self_iff_true, zah]); simp only [zaw, zaz, zaq, zax, false_implies, implies_true, and_true, lk, slot, zaM, zaK, toN, zaa, if_true, if_false, ↓reduceIte, reduceCtorEq])
   all_goals ((repeat' apply zaD) <;> (first | rfl | trivial | (simp only [zaI]; done) | (simp only [zaI]; rfl) | (simp only [zaI]; trivial)))
 (try rw [if_neg e2])
 rw [decide_eq_false e2, zaZ] at hI
 by_cases e3 : bAd xc 6 = 0
 · (try rw [if_pos e3])
   rw [decide_eq_true e3, zbd, zbe] at hI
   simp only [go_sem, zaa, zak, zal, zam, zas, zad, ↓reduceIte, reduceCtorEq, zab, zac, zat, zau, zav, decide_eq_true c, hat, bAn_f, bAd_f, decide_eq_true e1, decide_eq_false e2, decide_eq_true e3, zai, zao, zah, zap, zar, zaf, zag, zae, zay, zaA, zan, zaj]
   repeat' (first
 | with_reducible refine zaD ?_ ?_
 | (unfold OKC; kernel_rfl)
 | (unfold EDG; kernel_rfl)
 | (apply cl_plain
    case hs => rfl
    case ha => exact yfc
    case h => (first | exact h2 ..))
 | ((first | refine s1_id ?_ | refine swp_id ?_ | refine sops_id ?_ | refine s2_id ?_); simp only [decide_eq_true c, hat, bAn_f, bAd_f, decide_eq_true e1, decide_eq_false e2, decide_eq_true e3, zai, zao, zah, zap, zar, zaf, zag, zae, zay, zaA, zan, zaj, go_sem, zaa, zak, zal, zam, zas, zad, ↓reduceIte, reduceCtorEq, zab, zac, zat, zau, zav, zaM, zaN, zaK, zaL, renO, bk, back, outUpsFrom, Ints_ren])
 | exact yfe
 | exact yfb | fail)
   refine le_mk (m + 1) ?_ ⟨hlt, hI⟩ (by show l.length - (m + 1) < l.length - m; omega)
   (refine imp_ren _ _ _ [(0, 0, ⟨hyc l none n T none h, 4⟩)] (by simp) (by simp) (by simp) (zaE rfl) ?_ rfl (by simp only [zaq, zax, false_implies, implies_true, and_true, zaP, lookR, zaa, if_true, if_false, ↓reduceIte] <;> (repeat' apply zaD) <;> (first | rfl | trivial)) (by simp only [zaq, zax, false_implies, implies_true, and_true, true_and, flat_cons, flat_nil, flat_ints, flat_bools, flat_app, zaO, and_self, eq_self_iff_true, zah]); simp only [zaw, zaz, zaq, zax, false_implies, implies_true, and_true, lk, slot, zaM, zaK, toN, zaa, if_true, if_false, ↓reduceIte, reduceCtorEq])
   all_goals ((repeat' apply zaD) <;> (first | rfl | trivial | (simp only [zaI]; done) | (simp only [zaI]; rfl) | (simp only [zaI]; trivial)))
 (try rw [if_neg e3])
 rw [decide_eq_false e3, zaZ] at hI
 by_cases e4 : 0 < (K.length : Int)
 · (try rw [if_pos e4])
   rw [decide_eq_false (by omega : ¬ K.length = 0), Bool.false_and] at hI
   rw [← hI]
   simp only [go_sem, zaa, zak, zal, zam, zas, zad, ↓reduceIte, reduceCtorEq, zab, zac, zat, zau, zav, decide_eq_true c, hat, bAn_f, bAd_f, decide_eq_true e1, decide_eq_false e2, decide_eq_false e3, decide_eq_true e4, zai, zao, zah, zap, zar, zaf, zag, zae, zay, zaA, zan, zaj]
   repeat' (first
 | with_reducible refine zaD ?_ ?_
 | (unfold OKC; kernel_rfl)
 | (unfold EDG; kernel_rfl)
 | (apply cg_tp
    case hl => rfl
    case ha => exact yfc
    case hs => rfl
    case h => exact yfk)
 | (apply cl_plain
    case hs => rfl
    case ha => exact yfc
    case h => exact yfk)
 | ((first | refine s1_id ?_ | refine swp_id ?_ | refine sops_id ?_ | refine s2_id ?_); simp only [decide_eq_true c, hat, bAn_f, bAd_f, decide_eq_true e1, decide_eq_false e2, decide_eq_false e3, decide_eq_true e4, zai, zao, zah, zap, zar, zaf, zag, zae, zay, zaA, zan, zaj, go_sem, zaa, zak, zal, zam, zas, zad, ↓reduceIte, reduceCtorEq, zab, zac, zat, zau, zav, zaM, zaN, zaK, zaL, renO, bk, back, outUpsFrom, Ints_ren])
 | exact yfe
 | exact fs_nil trivial rfl
 | fail)
 (try rw [if_neg e4])
 rw [decide_eq_true (by omega : K.length = 0), zbe] at hI
 simp only [go_sem, zaa, zak, zal, zam, zas, zad, ↓reduceIte, reduceCtorEq, zab, zac, zat, zau, zav, decide_eq_true c, hat, bAn_f, bAd_f, decide_eq_true e1, decide_eq_false e2, decide_eq_false e3, decide_eq_false e4, zai, zao, zah, zap, zar, zaf, zag, zae, zay, zaA, zan, zaj]
 repeat' (first
 | with_reducible refine zaD ?_ ?_
 | (unfold OKC; kernel_rfl)
 | (unfold EDG; kernel_rfl)
 | (apply cg_tp
    case hl => rfl
    case ha => exact yfc
    case hs => rfl
    case h => exact yfk)
 | (apply cl_plain
    case hs => rfl
    case ha => exact yfc
    case h => exact yfk)
 | ((first | refine s1_id ?_ | refine swp_id ?_ | refine sops_id ?_ | refine s2_id ?_); simp only [decide_eq_true c, hat, bAn_f, bAd_f, decide_eq_true e1, decide_eq_false e2, decide_eq_false e3, decide_eq_false e4, zai, zao, zah, zap, zar, zaf, zag, zae, zay, zaA, zan, zaj, go_sem, zaa, zak, zal, zam, zas, zad, ↓reduceIte, reduceCtorEq, zab, zac, zat, zau, zav, zaM, zaN, zaK, zaL, renO, bk, back, outUpsFrom, Ints_ren])
 | exact yfe
 | exact yfb | fail)
 refine le_mk (m + 1) ?_ ⟨hlt, hI⟩ (by show l.length - (m + 1) < l.length - m; omega)
 (refine imp_ren _ _ _ [(0, 0, ⟨hyc l none n T none h, 4⟩)] (by simp) (by simp) (by simp) (zaE rfl) ?_ rfl (by simp only [zaq, zax, false_implies, implies_true, and_true, zaP, lookR, zaa, if_true, if_false, ↓reduceIte] <;> (repeat' apply zaD) <;> (first | rfl | trivial)) (by simp only [zaq, zax, false_implies, implies_true, and_true, true_and, flat_cons, flat_nil, flat_ints, flat_bools, flat_app, zaO, and_self, eq_self_iff_true, zah]); simp only [zaw, zaz, zaq, zax, false_implies, implies_true, and_true, lk, slot, zaM, zaK, toN, zaa, if_true, if_false, ↓reduceIte, reduceCtorEq])
 all_goals ((repeat' apply zaD) <;> (first | rfl | trivial | (simp only [zaI]; done) | (simp only [zaI]; rfl) | (simp only [zaI]; trivial)))
def thK (l : List Nd) (n a : Int) : Bool := decide ((ndM l n a).k = 1)
theorem ndM_no {l : List Nd} {n a : Int} (h : hasM l n a = false) : ndM l n a = zn := by
 rw [← fdM_2] at h
 unfold ndM fdM at *
 by_cases c : chkT l n = true
 · rw [if_pos c] at h ⊢
   cases hf : l.find? (hasI a) with
   | none => rfl
   | some x => rw [hf] at h; cases h
 · rw [if_neg c] at h ⊢
theorem ndM_at {l : List Nd} {n : Int} (h : VT l n) {i : Nat} (hi : i < l.length) : ndM l n (gN l i).i = gN l i := by
 have hb : bsF Nd.i l (gN l i).i = true ∧ bsV Nd.i l (gN l i).i = i := by
   have := bs_found Nd.i l (fun i j hij hj => h.asc i j hij hj) i hi
   exact ⟨this.2, this.1⟩
 unfold ndM
 rw [fd_ix h hb.1, hb.2]
theorem has_at {l : List Nd} {n : Int} (h : VT l n) {i : Nat} (hi : i < l.length) : hasM l n (gN l i).i = true := hasM_iff.2 ⟨(chkT_iff l n).2 h, _, getD_mem l i zn hi, rfl⟩
theorem has_ix {l : List Nd} {n a : Int} (h : hasM l n a = true) : VT l n ∧ ∃ i, i < l.length ∧ (gN l i).i = a := by
 obtain ⟨h1, x, hx, e⟩ := hasM_iff.1 h
 obtain ⟨i, hi, e2⟩ := gN_mem l x hx
 exact ⟨(chkT_iff l n).1 h1, i, hi, by rw [e2, e]⟩
theorem has_no0 {l : List Nd} {n : Int} : hasM l n 0 = false := by
 cases hh : hasM l n 0 with
 | false => rfl
 | true =>
   obtain ⟨hV, i, hi, e⟩ := has_ix hh
   have := hV.pos hi
   omega
theorem par_ix {l : List Nd} {n : Int} (h : VT l n) {i : Nat} (hi : i < l.length) (h0 : i ≠ 0) : ∃ j, j < i ∧ (gN l j).i = (gN l i).p := (h.ch hi h0).par
def tyM (l : List Nd) (n id : Int) : Int := if hasM l n id = true then (if (ndM l n id).k = 1 then 2 else if (upL l (ndM l n id).p).any (thK l n) = true then 3 else if (kidsL l id).any (thK l n) = true then 1 else 0) else 0
theorem ty_iff3 {l : List Nd} {n : Int} (h : VT l n) {i : Nat} (hi : i < l.length) : tyM l n (gN l i).i = 3 ↔ ((gN l i).k ≠ 1 ∧ (upL l (gN l i).p).any (thK l n) = true) := by
 unfold tyM
 rw [has_at h hi, if_pos rfl, ndM_at h hi]
 by_cases c1 : (gN l i).k = 1
 · rw [if_pos c1]; constructor
   · intro e; omega
   · rintro ⟨e, _⟩; exact absurd c1 e
 · rw [if_neg c1]
   by_cases c2 : (upL l (gN l i).p).any (thK l n) = true
   · rw [if_pos c2]; exact ⟨fun _ => ⟨c1, c2⟩, fun _ => rfl⟩
   · rw [if_neg c2]
     constructor
     · intro e; by_cases c3 : (kidsL l (gN l i).i).any (thK l n) = true
       · rw [if_pos c3] at e; omega
       · rw [if_neg c3] at e; omega
     · rintro ⟨_, e⟩; exact absurd e c2
theorem up_any {l : List Nd} {n : Int} (h : VT l n) {i : Nat} (hi : i < l.length) : (upL l (gN l i).i).any (thK l n) = ((decide ((gN l i).k = 1)) || (upL l (gN l i).p).any (thK l n)) := by
 by_cases h0 : i = 0
 · subst h0
   obtain ⟨r1, r2, _, r4⟩ := h.root
   rw [r1, r2, h.up0, upL_no l 0 (fun j hj e => by have := h.pos hj; omega)]
   show (thK l n 1 || false) = (decide ((gN l 0).k = 1) || false)
   unfold thK
   rw [show ndM l n 1 = gN l 0 from by rw [← r1]; exact ndM_at h hi]
 · rw [h.up hi h0, List.any_cons]
   unfold thK
   rw [ndM_at h hi]
theorem ty_par {l : List Nd} {n : Int} (h : VT l n) {j : Nat} (hj : j < l.length) : (decide ((gN l j).k = 1) || decide (tyM l n (gN l j).i = 3)) = (upL l (gN l j).i).any (thK l n) := by
 rw [up_any h hj]
 by_cases c1 : (gN l j).k = 1
 · rw [decide_eq_true c1]; rfl
 · rw [decide_eq_false c1, zaZ, zaZ]
   rw [Bool.eq_iff_iff, decide_eq_true_eq, ty_iff3 h hj]
   exact ⟨fun e => e.2, fun e => ⟨c1, e⟩⟩
set_option maxHeartbeats 8000000 in
theorem r8type_ix (l : List Nd) (k : Option Nat) (n : Int) (h : VT l n) (hnm : NmR l) : ∀ (f i : Nat), i < f → i < l.length → FnSpec Tryz.prog 93 [trV l k n, i1 (gN l i).i] [] (i1 (tyM l n (gN l i).i)) []
  | 0, i, hf, _ => by omega
  | f + 1, i, hf, hi => by
    have hl : l.length ≤ 1000000 := by have := h.le; omega
    have h1 := rfindT_spec l k n (gN l i).i hl hnm
    rw [fdM_2, has_at h hi, show (fdM l n (gN l i).i).1 = gN l i from ndM_at h hi] at h1
    have h2 := rfindT_spec l k n (gN l i).p hl hnm
    rw [fdM_2, show (fdM l n (gN l i).p).1 = ndM l n (gN l i).p from rfl] at h2
    have h4 := rkids_spec l k n (gN l i).i hl hnm
    unfold chM at h4
    rw [has_at h hi, if_pos rfl] at h4
    have hpar : i ≠ 0 → ∃ j, j < i ∧ j < l.length ∧ (gN l j).i = (gN l i).p := fun h0 => by
      obtain ⟨j, hj, e⟩ := par_ix h hi h0
      exact ⟨j, hj, by omega, e⟩
    have hroot : i = 0 → (gN l i).p = 0 := fun e => by rw [e]; exact h.root.2.1
    have hup0 : upL l 0 = [] := upL_no l 0 (fun j hj e => by have := h.pos hj; omega)
    unfold tyM
    rw [has_at h hi, if_pos rfl, ndM_at h hi]
    have hih := r8type_ix l k n h hnm f
    have htp := fun j (hj : j < l.length) => ty_par h hj
    have hat := fun j (hj : j < l.length) => ndM_at h hj
    have hha := fun j (hj : j < l.length) => has_at h hj
    have hkl := kidsL_len l (gN l i).i
    generalize (gN l i).i = id at *
    generalize kidsL l id = K at *
    generalize hx : gN l i = x at *
    obtain ⟨xi, xp, xm, xc, xk, xo⟩ := x
    simp only at hpar hroot h1 h2 ⊢
    simp only [ndc] at h1 h2
    by_cases c1 : xk = 1
    · rw [if_pos c1]
      refine fnspec_of mixed TT_ok TT_cl ⟨fun _ => false, fun _ => [], 0, fun _ => false, fun _ => false⟩ Tryz.func93 rfl (by kernel_rfl) rfl 65 rfl [.tmp 4] rfl ?_
      simp only [go_sem, zaa, zak, zal, zam, zas, zad, ↓reduceIte, reduceCtorEq, zab, zac, zat, zau, zav, decide_eq_true c1]
      repeat' (first
 | (apply cl_plain
    case hs => rfl
    case ha => exact yfc
    case h => exact yfd)
 | ((first | refine s1_id ?_ | refine swp_id ?_ | refine sops_id ?_ | refine s2_id ?_); simp only [decide_eq_true c1, zai, zao, zah, zap, zar, zaf, zag, zae, zay, zaA, zan, zaj, go_sem, zaa, zak, zal, zam, zas, zad, ↓reduceIte, reduceCtorEq, zab, zac, zat, zau, zav, zaM, zaN, zaK, zaL, renO, bk, back, outUpsFrom, Ints_ren])
 | exact fs_nil trivial rfl
 | fail)
    rw [if_neg c1]
    rcases (Nat.eq_zero_or_pos i).imp_right Nat.pos_iff_ne_zero.1 with h0 | h0
    case' inl =>
      have hxp := hroot h0
      subst hxp
      have hA : (upL l 0).any (thK l n) = false := by rw [hup0]; rfl
      rw [has_no0, ndM_no has_no0] at h2
      refine fnspec_of mixed TT_ok TT_cl ⟨fun _ => false, fun _ => [], 0, fun _ => false, fun _ => false⟩ Tryz.func93 rfl (by kernel_rfl) rfl 65 rfl [.tmp 4] rfl ?_
      simp only [go_sem, zaa, zak, zal, zam, zas, zad, ↓reduceIte, reduceCtorEq, zab, zac, zat, zau, zav, decide_eq_false c1, zai, zao, zah, zap, zar, zaf, zag, zae, zay, zaA, zan, zaj]
      repeat' (first
 | (apply cl_plain
    case hs => rfl
    case ha => exact yfc
    case h => (first | exact h1 .. | exact h2 .. | exact h4 ..))
 | ((first | refine s1_id ?_ | refine swp_id ?_ | refine sops_id ?_ | refine s2_id ?_); simp only [decide_eq_false c1, zai, zao, zah, zap, zar, zaf, zag, zae, zay, zaA, zan, zaj, go_sem, zaa, zak, zal, zam, zas, zad, ↓reduceIte, reduceCtorEq, zab, zac, zat, zau, zav, zaM, zaN, zaK, zaL, renO, bk, back, outUpsFrom, Ints_ren])
 | exact yfb | fail)
    case' inr =>
      obtain ⟨j, hj, hjl, ej⟩ := hpar h0
      have h3 := hih j (by omega) hjl
      have htj := htp j hjl
      rw [← ej, hha j hjl, hat j hjl] at h2
      rw [ej] at h2 h3 htj
      have eji : (gN l j).i = xp := ej
      clear hpar hih htp hat hha
      generalize gN l j = y at *
      obtain ⟨yi, yp, ym, yc, yk, yo⟩ := y
      simp only [ndc] at h2 eji htj
      subst eji
      generalize (upL l yi).any (thK l n) = A at *
      generalize tyM l n yi = ty at *
      by_cases d1 : yk = 1
      · rw [decide_eq_true d1, zbd] at htj
        rw [← htj, if_pos rfl]
        refine fnspec_of mixed TT_ok TT_cl ⟨fun _ => false, fun _ => [], 0, fun _ => false, fun _ => false⟩ Tryz.func93 rfl (by kernel_rfl) rfl 65 rfl [.tmp 4] rfl ?_
        simp only [go_sem, zaa, zak, zal, zam, zas, zad, ↓reduceIte, reduceCtorEq, zab, zac, zat, zau, zav, decide_eq_false c1, decide_eq_true d1, zai, zao, zah, zap, zar, zaf, zag, zae, zay, zaA, zan, zaj]
        repeat' (first
 | (apply cl_plain
    case hs => rfl
    case ha => exact yfc
    case h => exact yfg)
 | ((first | refine s1_id ?_ | refine swp_id ?_ | refine sops_id ?_ | refine s2_id ?_); simp only [decide_eq_false c1, decide_eq_true d1, zai, zao, zah, zap, zar, zaf, zag, zae, zay, zaA, zan, zaj, go_sem, zaa, zak, zal, zam, zas, zad, ↓reduceIte, reduceCtorEq, zab, zac, zat, zau, zav, zaM, zaN, zaK, zaL, renO, bk, back, outUpsFrom, Ints_ren])
 | exact fs_nil trivial rfl
 | fail)
      rw [decide_eq_false d1, zaZ] at htj
      by_cases d2 : ty = 3
      · rw [decide_eq_true d2] at htj
        rw [← htj, if_pos rfl]
        refine fnspec_of mixed TT_ok TT_cl ⟨fun _ => false, fun _ => [], 0, fun _ => false, fun _ => false⟩ Tryz.func93 rfl (by kernel_rfl) rfl 65 rfl [.tmp 4] rfl ?_
        simp only [go_sem, zaa, zak, zal, zam, zas, zad, ↓reduceIte, reduceCtorEq, zab, zac, zat, zau, zav, decide_eq_false c1, decide_eq_false d1, decide_eq_true d2, zai, zao, zah, zap, zar, zaf, zag, zae, zay, zaA, zan, zaj]
        repeat' (first
 | (apply cg_tp
    case hl => rfl
    case ha => exact yfc
    case hs => rfl
    case h => exact yff)
 | (apply cl_plain
    case hs => rfl
    case ha => exact yfc
    case h => exact yff)
 | ((first | refine s1_id ?_ | refine swp_id ?_ | refine sops_id ?_ | refine s2_id ?_); simp only [decide_eq_false c1, decide_eq_false d1, decide_eq_true d2, zai, zao, zah, zap, zar, zaf, zag, zae, zay, zaA, zan, zaj, go_sem, zaa, zak, zal, zam, zas, zad, ↓reduceIte, reduceCtorEq, zab, zac, zat, zau, zav, zaM, zaN, zaK, zaL, renO, bk, back, outUpsFrom, Ints_ren])
 | exact fs_nil trivial rfl
 | fail)
      rw [decide_eq_false d2] at htj
      have hA : A = false := htj.symm
      refine fnspec_of mixed TT_ok TT_cl ⟨fun _ => false, fun _ => [], 0, fun _ => false, fun _ => false⟩ Tryz.func93 rfl (by kernel_rfl) rfl 65 rfl [.tmp 4] rfl ?_
      simp only [go_sem, zaa, zak, zal, zam, zas, zad, ↓reduceIte, reduceCtorEq, zab, zac, zat, zau, zav, decide_eq_false c1, decide_eq_false d1, decide_eq_false d2, zai, zao, zah, zap, zar, zaf, zag, zae, zay, zaA, zan, zaj]
      repeat' (first
 | (apply cg_tp
    case hl => rfl
    case ha => exact yfc
    case hs => rfl
    case h => exact yfh)
 | (apply cl_plain
    case hs => rfl
    case ha => exact yfc
    case h => exact yfh)
 | ((first | refine s1_id ?_ | refine swp_id ?_ | refine sops_id ?_ | refine s2_id ?_); simp only [decide_eq_false c1, decide_eq_false d1, decide_eq_false d2, zai, zao, zah, zap, zar, zaf, zag, zae, zay, zaA, zan, zaj, go_sem, zaa, zak, zal, zam, zas, zad, ↓reduceIte, reduceCtorEq, zab, zac, zat, zau, zav, zaM, zaN, zaK, zaL, renO, bk, back, outUpsFrom, Ints_ren])
 | exact yfb | fail)
    all_goals
      rw [if_neg (by rw [hA]; decide)]
      clear h1 h2
      obtain ⟨R, hR⟩ : ∃ R, K.any (thK l n) = R := ⟨_, rfl⟩
      rw [hR]
      refine w_loop (ι := Nat) (fun m => ⟨[(2, .one (.optr 0 0)), (9, gi K none), (10, i1 m)], [(0, some ⟨[.gsl (Cs l) 0 l.length k, int n], 2⟩)], 1⟩) (fun m => m ≤ K.length ∧ (K.drop m).any (thK l n) = R) (fun m => K.length - m) 0 ?_ ⟨zaV _, hR⟩ ?_
      · (refine imp_ren _ _ _ [(0, 0, ⟨[.gsl (Cs l) 0 l.length k, int n], 2⟩)] (by simp) (by simp) (by simp) (zaE rfl) ?_ rfl (by simp only [zaq, zax, false_implies, implies_true, and_true, zaP, lookR, zaa, if_true, if_false, ↓reduceIte] <;> (repeat' apply zaD) <;> (first | rfl | trivial)) (by simp only [zaq, zax, false_implies, implies_true, and_true, true_and, flat_cons, flat_nil, flat_ints, flat_bools, flat_app, zaO, and_self, eq_self_iff_true, zah]); simp only [zaw, zaz, zaq, zax, false_implies, implies_true, and_true, lk, slot, zaM, zaK, toN, zaa, if_true, if_false, ↓reduceIte, reduceCtorEq])
        all_goals ((repeat' apply zaD) <;> (first | rfl | trivial))
      clear hR
      rintro m ⟨hm, hI⟩
      simp only at hm hI ⊢
      rcases zaU m K.length with hlt | hge
      case inr =>
        have c : ¬ (m : Int) < (K.length : Int) := by omega
        rw [zaY hge] at hI
        have hI : false = R := hI
        subst hI
        simp only [go_sem, zaa, zak, zal, zam, zas, zad, ↓reduceIte, reduceCtorEq, zab, zac, zat, zau, zav, decide_eq_false c]
        repeat' (first
 | exact fs_nil trivial rfl
 | fail)
      have c : (m : Int) < (K.length : Int) := by omega
      rw [drop_getD K m 0 hlt, List.any_cons] at hI
      have h5 := rfindT_spec l k n (K.getD m 0) hl hnm
      rw [show (fdM l n (K.getD m 0)).1 = ndM l n (K.getD m 0) from rfl] at h5
      unfold thK at hI
      generalize (fdM l n (K.getD m 0)).2 = cb at *
      generalize ndM l n (K.getD m 0) = z at *
      obtain ⟨zi, zp, zm, zc, zk, zo⟩ := z
      simp only [ndc] at h5 hI
      by_cases e : zk = 1
      · rw [decide_eq_true e, zbd] at hI
        rw [← hI]
        simp only [go_sem, zaa, zak, zal, zam, zas, zad, ↓reduceIte, reduceCtorEq, zab, zac, zat, zau, zav, decide_eq_true c, decide_eq_true e]
        repeat' (first
 | with_reducible refine zaD ?_ ?_
 | (unfold OKC; kernel_rfl)
 | (unfold EDG; kernel_rfl)
 | (apply cl_plain
    case hs => rfl
    case ha => exact yfc
    case h => (first | exact h5 ..))
 | ((first | refine s1_id ?_ | refine swp_id ?_ | refine sops_id ?_ | refine s2_id ?_); simp only [decide_eq_true c, decide_eq_true e, zai, zao, zah, zap, zar, zaf, zag, zae, zay, zaA, zan, zaj, go_sem, zaa, zak, zal, zam, zas, zad, ↓reduceIte, reduceCtorEq, zab, zac, zat, zau, zav, zaM, zaN, zaK, zaL, renO, bk, back, outUpsFrom, Ints_ren])
 | exact yfe
 | exact fs_nil trivial rfl
 | fail)
      rw [decide_eq_false e, zaZ] at hI
      simp only [go_sem, zaa, zak, zal, zam, zas, zad, ↓reduceIte, reduceCtorEq, zab, zac, zat, zau, zav, decide_eq_true c, decide_eq_false e]
      repeat' (first
 | with_reducible refine zaD ?_ ?_
 | (unfold OKC; kernel_rfl)
 | (unfold EDG; kernel_rfl)
 | (apply cl_plain
    case hs => rfl
    case ha => exact yfc
    case h => (first | exact h5 ..))
 | ((first | refine s1_id ?_ | refine swp_id ?_ | refine sops_id ?_ | refine s2_id ?_); simp only [decide_eq_true c, decide_eq_false e, zai, zao, zah, zap, zar, zaf, zag, zae, zay, zaA, zan, zaj, go_sem, zaa, zak, zal, zam, zas, zad, ↓reduceIte, reduceCtorEq, zab, zac, zat, zau, zav, zaM, zaN, zaK, zaL, renO, bk, back, outUpsFrom, Ints_ren])
 | exact yfe
 | exact yfb | fail)
      refine le_mk (m + 1) ?_ ⟨hlt, hI⟩ (by show K.length - (m + 1) < K.length - m; omega)
      (refine imp_ren _ _ _ [(0, 0, ⟨[.gsl (Cs l) 0 l.length k, int n], 2⟩)] (by simp) (by simp) (by simp) (zaE rfl) ?_ rfl (by simp only [zaq, zax, false_implies, implies_true, and_true, zaP, lookR, zaa, if_true, if_false, ↓reduceIte] <;> (repeat' apply zaD) <;> (first | rfl | trivial)) (by simp only [zaq, zax, false_implies, implies_true, and_true, true_and, flat_cons, flat_nil, flat_ints, flat_bools, flat_app, zaO, and_self, eq_self_iff_true, zah]); simp only [zaw, zaz, zaq, zax, false_implies, implies_true, and_true, lk, slot, zaM, zaK, toN, zaa, if_true, if_false, ↓reduceIte, reduceCtorEq])
      all_goals ((repeat' apply zaD) <;> (first | rfl | trivial | (simp only [zaI]; done) | (simp only [zaI]; rfl) | (simp only [zaI]; trivial)))
theorem r8type_spec (l : List Nd) (k : Option Nat) (n id : Int) (hl : l.length ≤ 1000000) (hnm : NmR l) : FnSpec Tryz.prog 93 [trV l k n, i1 id] [] (i1 (tyM l n id)) [] := by
 cases hh : hasM l n id with
 | true =>
   obtain ⟨hV, i, hi, e⟩ := has_ix hh
   rw [← e]
   exact r8type_ix l k n hV hnm (i + 1) i (by omega) hi
 | false =>
   have h1 := rfindT_spec l k n id hl hnm
   rw [fdM_2, hh] at h1
   unfold tyM
   rw [hh, if_neg (by decide)]
   generalize (fdM l n id).1 = x at h1
   obtain ⟨xi, xp, xm, xc, xk, xo⟩ := x
   simp only [ndc] at h1
   refine fnspec_of mixed TT_ok TT_cl ⟨fun _ => false, fun _ => [], 0, fun _ => false, fun _ => false⟩ Tryz.func93 rfl (by kernel_rfl) rfl 65 rfl [.tmp 4] rfl ?_
   simp only [go_sem, zaa, zak, zal, zam, zas, zad, ↓reduceIte, reduceCtorEq, zab, zac, zat, zau, zav, zai, zao, zah, zap, zar, zaf, zag, zae, zay, zaA, zan, zaj]
   repeat' (first
 | (apply cl_plain
    case hs => rfl
    case ha => exact yfc
    case h => exact yfd)
 | ((first | refine s1_id ?_ | refine swp_id ?_ | refine sops_id ?_ | refine s2_id ?_); simp only [zai, zao, zah, zap, zar, zaf, zag, zae, zay, zaA, zan, zaj, go_sem, zaa, zak, zal, zam, zas, zad, ↓reduceIte, reduceCtorEq, zab, zac, zat, zau, zav, zaM, zaN, zaK, zaL, renO, bk, back, outUpsFrom, Ints_ren])
 | exact fs_nil trivial rfl
 | fail)
def dmF (l : List Nd) (n : Int) (U : List Int) : Int × Bool := match U.find? (fun a => !thK l n a) with
  | some a => (a, true)
  | none => (0, false)
def dmM (l : List Nd) (n id : Int) : Int × Bool := dmF l n (ancM l n id)
theorem dmF_cons (l : List Nd) (n a : Int) (U : List Int) : dmF l n (a :: U) = if thK l n a = true then dmF l n U else (a, true) := by
 unfold dmF
 rw [List.find?_cons]
 cases thK l n a <;> rfl
set_option maxHeartbeats 8000000 in
theorem r8dom_spec (l : List Nd) (k : Option Nat) (n id : Int) (hl : l.length ≤ 1000000) (hnm : NmR l) : FnSpec Tryz.prog 94 [trV l k n, i1 id] [] (.tup [i1 (dmM l n id).1, b1 (dmM l n id).2]) [] := by
 have h1 := ranc_spec l k n id hl hnm
 have hal := ancM_len l n id
 unfold dmM
 generalize ancM l n id = U at *
 obtain ⟨R, hR⟩ : ∃ R, dmF l n U = R := ⟨_, rfl⟩
 rw [hR]
 refine fnspec_of mixed TT_ok TT_cl ⟨fun _ => false, fun _ => [], 0, fun _ => false, fun _ => false⟩ Tryz.func94 rfl (by kernel_rfl) rfl 35 rfl [.tmp 4, .tmp 5] rfl ?_
 simp only [go_sem, zaa, zak, zal, zam, zas, zad, ↓reduceIte, reduceCtorEq, zab, zac, zat, zau, zav, zai, zao, zah, zap, zar, zaf, zag, zae, zay, zaA, zan, zaj]
 repeat' (first
 | (apply cl_plain
    case hs => rfl
    case ha => exact yfc
    case h => exact yfd)
 | ((first | refine s1_id ?_ | refine swp_id ?_ | refine sops_id ?_ | refine s2_id ?_); simp only [zai, zao, zah, zap, zar, zaf, zag, zae, zay, zaA, zan, zaj, go_sem, zaa, zak, zal, zam, zas, zad, ↓reduceIte, reduceCtorEq, zab, zac, zat, zau, zav, zaM, zaN, zaK, zaL, renO, bk, back, outUpsFrom, Ints_ren])
 | exact yfb | fail)
 refine w_loop (ι := Nat) (fun m => ⟨[(2, .one (.optr 0 0)), (6, gi U none), (7, i1 m)], [(0, some ⟨[.gsl (Cs l) 0 l.length k, int n], 2⟩)], 1⟩) (fun m => m ≤ U.length ∧ dmF l n (U.drop m) = R) (fun m => U.length - m) 0 ?_ ⟨zaV _, hR⟩ ?_
 · (refine imp_ren _ _ _ [(0, 0, ⟨[.gsl (Cs l) 0 l.length k, int n], 2⟩)] (by simp) (by simp) (by simp) (zaE rfl) ?_ rfl (by simp only [zaq, zax, false_implies, implies_true, and_true, zaP, lookR, zaa, if_true, if_false, ↓reduceIte] <;> (repeat' apply zaD) <;> (first | rfl | trivial)) (by simp only [zaq, zax, false_implies, implies_true, and_true, true_and, flat_cons, flat_nil, flat_ints, flat_bools, flat_app, zaO, and_self, eq_self_iff_true, zah]); simp only [zaw, zaz, zaq, zax, false_implies, implies_true, and_true, lk, slot, zaM, zaK, toN, zaa, if_true, if_false, ↓reduceIte, reduceCtorEq])
   all_goals ((repeat' apply zaD) <;> (first | rfl | trivial))
 clear h1 hR
 rintro m ⟨hm, hI⟩
 simp only at hm hI ⊢
 rcases zaU m U.length with hlt | hge
 case inr =>
   have c : ¬ (m : Int) < (U.length : Int) := by omega
   rw [zaY hge] at hI
   have hI : (0, false) = R := hI
   subst hI
   simp only [go_sem, zaa, zak, zal, zam, zas, zad, ↓reduceIte, reduceCtorEq, zab, zac, zat, zau, zav, decide_eq_false c, zai, zao, zah, zap, zar, zaf, zag, zae, zay, zaA, zan, zaj]
   repeat' (first
 | exact fs_nil trivial rfl
 | fail)
 have c : (m : Int) < (U.length : Int) := by omega
 rw [drop_getD U m 0 hlt, dmF_cons] at hI
 have h5 := rfindT_spec l k n (U.getD m 0) hl hnm
 rw [show (fdM l n (U.getD m 0)).1 = ndM l n (U.getD m 0) from rfl] at h5
 unfold thK at hI
 generalize (fdM l n (U.getD m 0)).2 = cb at *
 generalize ndM l n (U.getD m 0) = z at *
 obtain ⟨zi, zp, zm, zc, zk, zo⟩ := z
 simp only [ndc] at h5 hI
 by_cases e : zk = 1
 case neg =>
   (try rw [if_neg e])
   rw [decide_eq_false e, if_neg (by decide)] at hI
   rw [← hI]
   simp only [go_sem, zaa, zak, zal, zam, zas, zad, ↓reduceIte, reduceCtorEq, zab, zac, zat, zau, zav, decide_eq_true c, decide_eq_false e, zai, zao, zah, zap, zar, zaf, zag, zae, zay, zaA, zan, zaj]
   repeat' (first
 | with_reducible refine zaD ?_ ?_
 | (unfold OKC; kernel_rfl)
 | (unfold EDG; kernel_rfl)
 | (apply cl_plain
    case hs => rfl
    case ha => exact yfc
    case h => (first | exact h5 ..))
 | ((first | refine s1_id ?_ | refine swp_id ?_ | refine sops_id ?_ | refine s2_id ?_); simp only [decide_eq_true c, decide_eq_false e, zai, zao, zah, zap, zar, zaf, zag, zae, zay, zaA, zan, zaj, go_sem, zaa, zak, zal, zam, zas, zad, ↓reduceIte, reduceCtorEq, zab, zac, zat, zau, zav, zaM, zaN, zaK, zaL, renO, bk, back, outUpsFrom, Ints_ren])
 | exact yfe
 | exact fs_nil trivial rfl
 | fail)
 (try rw [if_pos e])
 rw [decide_eq_true e, if_pos rfl] at hI
 simp only [go_sem, zaa, zak, zal, zam, zas, zad, ↓reduceIte, reduceCtorEq, zab, zac, zat, zau, zav, decide_eq_true c, decide_eq_true e, zai, zao, zah, zap, zar, zaf, zag, zae, zay, zaA, zan, zaj]
 repeat' (first
 | with_reducible refine zaD ?_ ?_
 | (unfold OKC; kernel_rfl)
 | (unfold EDG; kernel_rfl)
 | (apply cl_plain
    case hs => rfl
    case ha => exact yfc
    case h => (first | exact h5 ..))
 | ((first | refine s1_id ?_ | refine swp_id ?_ | refine sops_id ?_ | refine s2_id ?_); simp only [decide_eq_true c, decide_eq_true e, zai, zao, zah, zap, zar, zaf, zag, zae, zay, zaA, zan, zaj, go_sem, zaa, zak, zal, zam, zas, zad, ↓reduceIte, reduceCtorEq, zab, zac, zat, zau, zav, zaM, zaN, zaK, zaL, renO, bk, back, outUpsFrom, Ints_ren])
 | exact yfe
 | exact yfb | fail)
 refine le_mk (m + 1) ?_ ⟨hlt, hI⟩ (by show U.length - (m + 1) < U.length - m; omega)
 (refine imp_ren _ _ _ [(0, 0, ⟨[.gsl (Cs l) 0 l.length k, int n], 2⟩)] (by simp) (by simp) (by simp) (zaE rfl) ?_ rfl (by simp only [zaq, zax, false_implies, implies_true, and_true, zaP, lookR, zaa, if_true, if_false, ↓reduceIte] <;> (repeat' apply zaD) <;> (first | rfl | trivial)) (by simp only [zaq, zax, false_implies, implies_true, and_true, true_and, flat_cons, flat_nil, flat_ints, flat_bools, flat_app, zaO, and_self, eq_self_iff_true, zah]); simp only [zaw, zaz, zaq, zax, false_implies, implies_true, and_true, lk, slot, zaM, zaK, toN, zaa, if_true, if_false, ↓reduceIte, reduceCtorEq])
 all_goals ((repeat' apply zaD) <;> (first | rfl | trivial | (simp only [zaI]; done) | (simp only [zaI]; rfl) | (simp only [zaI]; trivial)))
end Go.Proofs.YtnahpejlhfeleabGreat
