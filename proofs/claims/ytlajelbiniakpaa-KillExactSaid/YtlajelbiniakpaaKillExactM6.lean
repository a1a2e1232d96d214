/- Contracts of functions, told of values, on the way to KillExact (part 6). -/
import Derived.Test.YtlajelbiniakpaaKillExactM3
import Derived.Test.YtlajelbiniakpaaKillExactM4
import Derived.Test.YtlajelbiniakpaaKillExactM5
-- short names of the library's lemmas
open Nat renaming reduceEqDiff → zaa, reduceLeDiff → zaj, reduceAdd → zam, reduceSub → zan, reduceMul → zao, reduceLT → zaq, le_of_ble_eq_true → zax, le_refl → zbf, lt_succ_self → zbg, zero_le → zbh
open List renaming map_cons → zab, map_nil → zac, forall_mem_cons → zad, not_mem_nil → zae, reduceReplicate → zaf, append_nil → zah, getD_cons_zero → zak, getD_cons_succ → zal, length_nil → zap, cons_append → zau, length_cons → zay, nil_append → zaC, flatMap_cons → zaH, flatMap_nil → zaJ, take_succ_cons → zaN, set_cons_zero → zaO, set_cons_succ → zaP, flatten_cons → zaQ, flatten_nil → zaT, take_zero → zaV, take_nil → zaZ, take_of_length_le → zbd, length_append → zbe
open Int renaming cast_ofNat_Int → zai, reduceEq → zar, reduceLT → zas, reduceLE → zat, toNat_natCast → zaU, natCast_add → zbc
open Option renaming getD_some → zav, getD_none → zaw
open Bool renaming and_eq_false_iff → zaz, or_eq_false_iff → zaA, not_eq_true' → zaE, not_eq_false' → zaF, and_eq_true → zaG, or_eq_true → zaI
open And renaming intro → zag
open Go.Proofs.Ytlajelbiniakpaa.Sh.Cell renaming refs → zaB, ren → zaD, noG → zaS, isG → zaY
open Go.Proofs.Ytlajelbiniakpaa.Sh.SV renaming renL → zaL, ren → zaM, refs → zaW, noGL → zaX, noG → zbb
open Go.Proofs.Ytlajelbiniakpaa.Sh.Row renaming ren → zaK
open Go.Proofs.Ytlajelbiniakpaa.Sh.St renaming hpF → zaR, tmF → zba
-- NEWGO
-- PRUNE: cl_lendx cl_use
-- ISG: Cs_isG
-- FLAT: Cs_flat
namespace Go.Proofs.Ytlajelbiniakpaa
set_option linter.unusedVariables false
set_option linter.unusedSimpArgs false
open Go.Proofs.Ytlajelbiniakpaa.Sh
set_option maxRecDepth 20000
abbrev newN (n p : Int) (s : Str) : Nd := ⟨n, p, s, 0, 0, 0⟩
def addM (l : List Nd) (n p : Int) (s : Str) : (List Nd × Int) × Int × Int :=
  if (chkT l n && nmOk s) = false then (([], 0), 0, 1)
  else if hasM l n p = false then (([], 0), 0, 4)
  else if l.any (same1 p s) = true then (([], 0), 0, 5)
  else if 8 ≤ ((ancM l n p).length : Int) - 1 ∨ 64 ≤ (l.length : Int) ∨ 2147483647 < n then (([], 0), 0, 7)
  else ((l ++ [newN n p s], n + 1), n, 0)
abbrev adV (x : (List Nd × Int) × Int × Int) : SV := .tup [trV x.1.1 none x.1.2, i1 x.2.1, i1 x.2.2]
set_option maxHeartbeats 16000000 in
theorem radd_spec (l : List Nd) (k : Option Nat) (n p : Int) (s : Str) (hl : l.length ≤ 1000000) (hnm : NmR l) (hs : s.length ≤ 9223372036854775807) : FnSpec Try.prog 25 [trV l k n, i1 p, s1 s] [] (adV (addM l n p s)) [] := by
  have h1 := trcheck_spec l k n hl hnm
  have h2 := rvalid_spec s (by omega)
  have hnl := nd_len l
  unfold addM
  cases hc : chkT l n with
  | false =>
    rw [hc] at h1
    rw [Bool.false_and, if_pos rfl]
    refine fnspec_of mixed TT_ok TT_cl ⟨fun _ => false, fun _ => [], 0, fun _ => false, fun _ => false⟩ Try.func25 rfl (by kernel_rfl) rfl 86 rfl [.cell 6 25, .tmp 7, .tmp 8] rfl ?_
    simp only [go_sem, zaa, zam, zan, zao, zaq, zaj, ↓reduceIte, reduceCtorEq, zaf, zai, zar, zas, zat]
    repeat' (first
 | with_reducible refine zag ?_ ?_
 | (unfold OKC; kernel_rfl)
 | (apply okc_up <;> (first | ((repeat (first | exact Sub.nil | apply Sub.gfp | apply Sub.same)); done) | kernel_rfl))
 | (unfold EDG; kernel_rfl)
 | (refine gt_if (fun h => ?_) (fun h => ?_) <;> (try simp only [h]))
 | (refine pt_if (fun h => ?_) (fun h => ?_) <;> (try simp only [h]))
 | (refine cd_if (fun h => ?_) (fun h => ?_) <;> (try simp only [h]))
 | (apply cg_tp
    case hl => rfl
    case ha => (simp only [zab, zac, prepV, prepC, idx, hpL', lookR, zaa, if_true, if_false]; rfl)
    case hs => rfl
    case h => (first | exact h1 .. | exact h2 ..))
 | (apply cg_ts
    case hl => rfl
    case ha => (simp only [zab, zac, prepV, prepC, idx, hpL', lookR, zaa, if_true, if_false]; rfl)
    case hs => (simp only [snaps_nil, zaH, zaJ, zaW, zaB, zaC, zau, zah]; rfl)
    case h => (first | exact h1 .. | exact h2 ..)
    case hf => ((simp only [zad, zae, false_implies, implies_true, and_true, hpL', lookR, zaa, if_true, if_false]) <;> (repeat' apply zag) <;> (first | exact ⟨_, rfl, Ints_isG _⟩ | exact ⟨_, rfl, Cs_isG _⟩ | exact ⟨_, rfl, by simp [zaY]⟩))
    case hg => simp [zbb, zaX, zaS])
 | (apply cg_any
    case hl => rfl
    case ha => (intro hb; simp only [zab, zac, cnd, hb, if_true, prepV, prepC, idx, hpL', lookR, zaa, if_false]; rfl)
    case hs => (intro hb; simp only [cnd, hb, if_true]; rfl)
    case h => (first | exact h1 .. | exact h2 ..))
 | (apply cg_show
    case hl => rfl
    case ha => (intro hb; simp only [zab, zac, cnd, hb, if_true, prepV, prepC, idx, hpL', lookR, zaa, if_false]; rfl)
    case hs => (intro hb; simp only [cnd, hb, if_true, snaps_nil, zaH, zaJ, zaW, zaB, zaC, zau, zah]; rfl)
    case h => (first | exact h1 .. | exact h2 ..)
    case hf => ((simp only [zad, zae, false_implies, implies_true, and_true, hpL', lookR, zaa, if_true, if_false]) <;> (repeat' apply zag) <;> (first | exact ⟨_, rfl, Ints_isG _⟩ | exact ⟨_, rfl, Cs_isG _⟩ | exact ⟨_, rfl, by simp [zaY]⟩))
    case hg => simp [zbb, zaX, zaS])
 | (apply cl_plain
    case hs => rfl
    case ha => (simp only [zab, zac, prepV, prepC, idx, hpL', lookR, zaa, if_true, if_false]; rfl)
    case h => (first | exact h1 .. | exact h2 ..))
 | (apply cl_lend
    case hr => (simp only [zab, zac, hpL', lookR, zaa, if_true, if_false]; first | exact map1 _ | exact map2 _ _ | exact map3 _ _ _)
    case ha => (simp only [zab, zac, prepV, prepC, idx, hpL', lookR, zaa, if_true, if_false]; rfl)
    case hs => rfl
    case hn => decide
    case h => (first | exact h1 .. | exact h2 ..)
    case hf => (simp only [zad, zae, false_implies, implies_true, and_true, true_and, flat_cons, flat_nil, flat_ints, flat_bools, flat_app, Cs_flat, zaB, and_self, eq_self_iff_true, zah])
    case hl => (simp only [zay, zap]; decide))
 | (apply cl_show
    case ha => (simp only [zab, zac, prepV, prepC, idx, hpL', lookR, zaa, if_true, if_false]; rfl)
    case hs => ((simp [snaps, zaW, zaB, idx, hpL', lookR]) <;> (repeat' apply zag) <;> (first | exact Ints_isG _ | exact Cs_isG _))
    case h => (first | exact h1 .. | exact h2 ..)
    case hg => ((simp [zbb, zaX, zaS]) <;> (repeat' apply zag) <;> exact Ints_noG _))
 | ((first | refine s1_id ?_ | refine swp_id ?_ | refine sops_id ?_ | refine s2_id ?_); simp only [go_sem, zaa, zam, zan, zao, zaq, zaj, ↓reduceIte, reduceCtorEq, zaf, zai, zar, zas, zat, zaM, zaL, zaD, zaK, renO, bk, back, outUpsFrom, Ints_ren])
 | (intros; omega)
 | (intros; (try simp only [zaG, zaI, zaE, zaF, zaz, zaA, decide_eq_true_eq, decide_eq_false_iff_not] at *); omega))
    repeat' (first
 | exact fs_w trivial (svw_of cw_gnil)
 | exact fs_w trivial (svw_of (zag cw_gnil (zag (cw_rfl _) trivial)))
 | (refine fs_w ?h1 (svw_of ?h2); (case h1 => repeat' (first | exact trivial | exact rfl | exact zax rfl | apply zag)); (case h2 => repeat' (first | ((with_reducible refine (?_ : CW _ _)); first | exact cw_gnil | exact cw_rfl _ | exact cw_niln _ _ | exact cw_cap _ _ _ _) | exact trivial | (show _ ∧ SWL _ _; apply zag) | (show _ ∧ CWL _ _; apply zag) | show CW _ _)))
 | (refine fs_w ?h1 ?h2; (case h1 => repeat' (first | exact trivial | exact rfl | exact zax rfl | apply zag)); simp only [go_sem, resV, resS, zaM, zaL, zaD, zba, zaR, idx, renO, zaK, evS, slot, lookR, zaa, ↓reduceIte, reduceCtorEq, if_true, if_false, zav, zaw, zab, zac, sLoad, readAt, readNeed, Ints_ren, Ints_length, Ints_getD, and_true, true_and, zak, zal]; refine svw_of ?_; simp only [sw_tup, swl_cons, swl_nil, sw_one, sw_agg, cwl_cons, cwl_nil, cw_id, cw_nil0, cw_cap0, zap, and_true, true_and, and_self] <;> (try ((repeat' with_reducible apply zag) <;> (first | with_reducible trivial | exact cw_rfl _ | exact cw_gnil | exact cw_niln _ _ | exact cw_cap _ _ _ _ | (refine cw_eq ?_; congr; done)))))
 | (refine fs_w (by simp only [go_sem, resV, resS, zaM, zaL, zaD, zba, zaR, idx, renO, zaK, evS, slot, lookR, zaa, ↓reduceIte, reduceCtorEq, if_true, if_false, zav, zaw, zab, zac, sLoad, readAt, readNeed, Ints_ren, Ints_length, Ints_getD, and_true, true_and, zak, zal]; try trivial) ?_; simp only [go_sem, resV, resS, zaM, zaL, zaD, zba, zaR, idx, renO, zaK, evS, slot, lookR, zaa, ↓reduceIte, reduceCtorEq, if_true, if_false, zav, zaw, zab, zac, sLoad, readAt, readNeed, Ints_ren, Ints_length, Ints_getD, and_true, true_and, zak, zal]; refine svw_of ?_; simp only [sw_tup, swl_cons, swl_nil, sw_one, sw_agg, cwl_cons, cwl_nil, cw_id, cw_nil0, cw_cap0, zap, and_true, true_and, and_self] <;> (try ((repeat' with_reducible apply zag) <;> (first | with_reducible trivial | exact cw_rfl _ | exact cw_gnil | exact cw_niln _ _ | exact cw_cap _ _ _ _ | (refine cw_eq ?_; congr; done)))))
 | fail)
  | true =>
  rw [hc] at h1
  rw [Bool.true_and]
  have hV := (chkT_iff l n).1 hc
  cases hv : nmOk s with
  | false =>
    rw [hv] at h2
    rw [if_pos rfl]
    refine fnspec_of mixed TT_ok TT_cl ⟨fun _ => false, fun _ => [], 0, fun _ => false, fun _ => false⟩ Try.func25 rfl (by kernel_rfl) rfl 86 rfl [.cell 6 25, .tmp 7, .tmp 8] rfl ?_
    simp only [go_sem, zaa, zam, zan, zao, zaq, zaj, ↓reduceIte, reduceCtorEq, zaf, zai, zar, zas, zat]
    repeat' (first
 | with_reducible refine zag ?_ ?_
 | (unfold OKC; kernel_rfl)
 | (apply okc_up <;> (first | ((repeat (first | exact Sub.nil | apply Sub.gfp | apply Sub.same)); done) | kernel_rfl))
 | (unfold EDG; kernel_rfl)
 | (refine gt_if (fun h => ?_) (fun h => ?_) <;> (try simp only [h]))
 | (refine pt_if (fun h => ?_) (fun h => ?_) <;> (try simp only [h]))
 | (refine cd_if (fun h => ?_) (fun h => ?_) <;> (try simp only [h]))
 | (apply cg_tp
    case hl => rfl
    case ha => (simp only [zab, zac, prepV, prepC, idx, hpL', lookR, zaa, if_true, if_false]; rfl)
    case hs => rfl
    case h => (first | exact h1 .. | exact h2 ..))
 | (apply cg_ts
    case hl => rfl
    case ha => (simp only [zab, zac, prepV, prepC, idx, hpL', lookR, zaa, if_true, if_false]; rfl)
    case hs => (simp only [snaps_nil, zaH, zaJ, zaW, zaB, zaC, zau, zah]; rfl)
    case h => (first | exact h1 .. | exact h2 ..)
    case hf => ((simp only [zad, zae, false_implies, implies_true, and_true, hpL', lookR, zaa, if_true, if_false]) <;> (repeat' apply zag) <;> (first | exact ⟨_, rfl, Ints_isG _⟩ | exact ⟨_, rfl, Cs_isG _⟩ | exact ⟨_, rfl, by simp [zaY]⟩))
    case hg => simp [zbb, zaX, zaS])
 | (apply cg_any
    case hl => rfl
    case ha => (intro hb; simp only [zab, zac, cnd, hb, if_true, prepV, prepC, idx, hpL', lookR, zaa, if_false]; rfl)
    case hs => (intro hb; simp only [cnd, hb, if_true]; rfl)
    case h => (first | exact h1 .. | exact h2 ..))
 | (apply cg_show
    case hl => rfl
    case ha => (intro hb; simp only [zab, zac, cnd, hb, if_true, prepV, prepC, idx, hpL', lookR, zaa, if_false]; rfl)
    case hs => (intro hb; simp only [cnd, hb, if_true, snaps_nil, zaH, zaJ, zaW, zaB, zaC, zau, zah]; rfl)
    case h => (first | exact h1 .. | exact h2 ..)
    case hf => ((simp only [zad, zae, false_implies, implies_true, and_true, hpL', lookR, zaa, if_true, if_false]) <;> (repeat' apply zag) <;> (first | exact ⟨_, rfl, Ints_isG _⟩ | exact ⟨_, rfl, Cs_isG _⟩ | exact ⟨_, rfl, by simp [zaY]⟩))
    case hg => simp [zbb, zaX, zaS])
 | (apply cl_plain
    case hs => rfl
    case ha => (simp only [zab, zac, prepV, prepC, idx, hpL', lookR, zaa, if_true, if_false]; rfl)
    case h => (first | exact h1 .. | exact h2 ..))
 | (apply cl_lend
    case hr => (simp only [zab, zac, hpL', lookR, zaa, if_true, if_false]; first | exact map1 _ | exact map2 _ _ | exact map3 _ _ _)
    case ha => (simp only [zab, zac, prepV, prepC, idx, hpL', lookR, zaa, if_true, if_false]; rfl)
    case hs => rfl
    case hn => decide
    case h => (first | exact h1 .. | exact h2 ..)
    case hf => (simp only [zad, zae, false_implies, implies_true, and_true, true_and, flat_cons, flat_nil, flat_ints, flat_bools, flat_app, Cs_flat, zaB, and_self, eq_self_iff_true, zah])
    case hl => (simp only [zay, zap]; decide))
 | (apply cl_show
    case ha => (simp only [zab, zac, prepV, prepC, idx, hpL', lookR, zaa, if_true, if_false]; rfl)
    case hs => ((simp [snaps, zaW, zaB, idx, hpL', lookR]) <;> (repeat' apply zag) <;> (first | exact Ints_isG _ | exact Cs_isG _))
    case h => (first | exact h1 .. | exact h2 ..)
    case hg => ((simp [zbb, zaX, zaS]) <;> (repeat' apply zag) <;> exact Ints_noG _))
 | ((first | refine s1_id ?_ | refine swp_id ?_ | refine sops_id ?_ | refine s2_id ?_); simp only [go_sem, zaa, zam, zan, zao, zaq, zaj, ↓reduceIte, reduceCtorEq, zaf, zai, zar, zas, zat, zaM, zaL, zaD, zaK, renO, bk, back, outUpsFrom, Ints_ren])
 | (intros; omega)
 | (intros; (try simp only [zaG, zaI, zaE, zaF, zaz, zaA, decide_eq_true_eq, decide_eq_false_iff_not] at *); omega))
    repeat' (first
 | exact fs_w trivial (svw_of cw_gnil)
 | exact fs_w trivial (svw_of (zag cw_gnil (zag (cw_rfl _) trivial)))
 | (refine fs_w ?h1 (svw_of ?h2); (case h1 => repeat' (first | exact trivial | exact rfl | exact zax rfl | apply zag)); (case h2 => repeat' (first | ((with_reducible refine (?_ : CW _ _)); first | exact cw_gnil | exact cw_rfl _ | exact cw_niln _ _ | exact cw_cap _ _ _ _) | exact trivial | (show _ ∧ SWL _ _; apply zag) | (show _ ∧ CWL _ _; apply zag) | show CW _ _)))
 | (refine fs_w ?h1 ?h2; (case h1 => repeat' (first | exact trivial | exact rfl | exact zax rfl | apply zag)); simp only [go_sem, resV, resS, zaM, zaL, zaD, zba, zaR, idx, renO, zaK, evS, slot, lookR, zaa, ↓reduceIte, reduceCtorEq, if_true, if_false, zav, zaw, zab, zac, sLoad, readAt, readNeed, Ints_ren, Ints_length, Ints_getD, and_true, true_and, zak, zal]; refine svw_of ?_; simp only [sw_tup, swl_cons, swl_nil, sw_one, sw_agg, cwl_cons, cwl_nil, cw_id, cw_nil0, cw_cap0, zap, and_true, true_and, and_self] <;> (try ((repeat' with_reducible apply zag) <;> (first | with_reducible trivial | exact cw_rfl _ | exact cw_gnil | exact cw_niln _ _ | exact cw_cap _ _ _ _ | (refine cw_eq ?_; congr; done)))))
 | (refine fs_w (by simp only [go_sem, resV, resS, zaM, zaL, zaD, zba, zaR, idx, renO, zaK, evS, slot, lookR, zaa, ↓reduceIte, reduceCtorEq, if_true, if_false, zav, zaw, zab, zac, sLoad, readAt, readNeed, Ints_ren, Ints_length, Ints_getD, and_true, true_and, zak, zal]; try trivial) ?_; simp only [go_sem, resV, resS, zaM, zaL, zaD, zba, zaR, idx, renO, zaK, evS, slot, lookR, zaa, ↓reduceIte, reduceCtorEq, if_true, if_false, zav, zaw, zab, zac, sLoad, readAt, readNeed, Ints_ren, Ints_length, Ints_getD, and_true, true_and, zak, zal]; refine svw_of ?_; simp only [sw_tup, swl_cons, swl_nil, sw_one, sw_agg, cwl_cons, cwl_nil, cw_id, cw_nil0, cw_cap0, zap, and_true, true_and, and_self] <;> (try ((repeat' with_reducible apply zag) <;> (first | with_reducible trivial | exact cw_rfl _ | exact cw_gnil | exact cw_niln _ _ | exact cw_cap _ _ _ _ | (refine cw_eq ?_; congr; done)))))
 | fail)
  | true =>
  rw [hv] at h2
  rw [if_neg (by decide)]
  have h3 := rhas_spec l k n p hl hnm
  cases hh : hasM l n p with
  | false =>
    rw [hh] at h3
    rw [if_pos rfl]
    refine fnspec_of mixed TT_ok TT_cl ⟨fun _ => false, fun _ => [], 0, fun _ => false, fun _ => false⟩ Try.func25 rfl (by kernel_rfl) rfl 86 rfl [.cell 6 25, .tmp 7, .tmp 8] rfl ?_
    simp only [go_sem, zaa, zam, zan, zao, zaq, zaj, ↓reduceIte, reduceCtorEq, zaf, zai, zar, zas, zat]
    repeat' (first
 | with_reducible refine zag ?_ ?_
 | (unfold OKC; kernel_rfl)
 | (apply okc_up <;> (first | ((repeat (first | exact Sub.nil | apply Sub.gfp | apply Sub.same)); done) | kernel_rfl))
 | (unfold EDG; kernel_rfl)
 | (refine gt_if (fun h => ?_) (fun h => ?_) <;> (try simp only [h]))
 | (refine pt_if (fun h => ?_) (fun h => ?_) <;> (try simp only [h]))
 | (refine cd_if (fun h => ?_) (fun h => ?_) <;> (try simp only [h]))
 | (apply cg_tp
    case hl => rfl
    case ha => (simp only [zab, zac, prepV, prepC, idx, hpL', lookR, zaa, if_true, if_false]; rfl)
    case hs => rfl
    case h => (first | exact h1 .. | exact h2 .. | exact h3 ..))
 | (apply cg_ts
    case hl => rfl
    case ha => (simp only [zab, zac, prepV, prepC, idx, hpL', lookR, zaa, if_true, if_false]; rfl)
    case hs => (simp only [snaps_nil, zaH, zaJ, zaW, zaB, zaC, zau, zah]; rfl)
    case h => (first | exact h1 .. | exact h2 .. | exact h3 ..)
    case hf => ((simp only [zad, zae, false_implies, implies_true, and_true, hpL', lookR, zaa, if_true, if_false]) <;> (repeat' apply zag) <;> (first | exact ⟨_, rfl, Ints_isG _⟩ | exact ⟨_, rfl, Cs_isG _⟩ | exact ⟨_, rfl, by simp [zaY]⟩))
    case hg => simp [zbb, zaX, zaS])
 | (apply cg_any
    case hl => rfl
    case ha => (intro hb; simp only [zab, zac, cnd, hb, if_true, prepV, prepC, idx, hpL', lookR, zaa, if_false]; rfl)
    case hs => (intro hb; simp only [cnd, hb, if_true]; rfl)
    case h => (first | exact h1 .. | exact h2 .. | exact h3 ..))
 | (apply cg_show
    case hl => rfl
    case ha => (intro hb; simp only [zab, zac, cnd, hb, if_true, prepV, prepC, idx, hpL', lookR, zaa, if_false]; rfl)
    case hs => (intro hb; simp only [cnd, hb, if_true, snaps_nil, zaH, zaJ, zaW, zaB, zaC, zau, zah]; rfl)
    case h => (first | exact h1 .. | exact h2 .. | exact h3 ..)
    case hf => ((simp only [zad, zae, false_implies, implies_true, and_true, hpL', lookR, zaa, if_true, if_false]) <;> (repeat' apply zag) <;> (first | exact ⟨_, rfl, Ints_isG _⟩ | exact ⟨_, rfl, Cs_isG _⟩ | exact ⟨_, rfl, by simp [zaY]⟩))
    case hg => simp [zbb, zaX, zaS])
 | (apply cl_plain
    case hs => rfl
    case ha => (simp only [zab, zac, prepV, prepC, idx, hpL', lookR, zaa, if_true, if_false]; rfl)
    case h => (first | exact h1 .. | exact h2 .. | exact h3 ..))
 | (apply cl_lend
    case hr => (simp only [zab, zac, hpL', lookR, zaa, if_true, if_false]; first | exact map1 _ | exact map2 _ _ | exact map3 _ _ _)
    case ha => (simp only [zab, zac, prepV, prepC, idx, hpL', lookR, zaa, if_true, if_false]; rfl)
    case hs => rfl
    case hn => decide
    case h => (first | exact h1 .. | exact h2 .. | exact h3 ..)
    case hf => (simp only [zad, zae, false_implies, implies_true, and_true, true_and, flat_cons, flat_nil, flat_ints, flat_bools, flat_app, Cs_flat, zaB, and_self, eq_self_iff_true, zah])
    case hl => (simp only [zay, zap]; decide))
 | (apply cl_show
    case ha => (simp only [zab, zac, prepV, prepC, idx, hpL', lookR, zaa, if_true, if_false]; rfl)
    case hs => ((simp [snaps, zaW, zaB, idx, hpL', lookR]) <;> (repeat' apply zag) <;> (first | exact Ints_isG _ | exact Cs_isG _))
    case h => (first | exact h1 .. | exact h2 .. | exact h3 ..)
    case hg => ((simp [zbb, zaX, zaS]) <;> (repeat' apply zag) <;> exact Ints_noG _))
 | ((first | refine s1_id ?_ | refine swp_id ?_ | refine sops_id ?_ | refine s2_id ?_); simp only [go_sem, zaa, zam, zan, zao, zaq, zaj, ↓reduceIte, reduceCtorEq, zaf, zai, zar, zas, zat, zaM, zaL, zaD, zaK, renO, bk, back, outUpsFrom, Ints_ren])
 | (intros; omega)
 | (intros; (try simp only [zaG, zaI, zaE, zaF, zaz, zaA, decide_eq_true_eq, decide_eq_false_iff_not] at *); omega))
    repeat' (first
 | exact fs_w trivial (svw_of cw_gnil)
 | exact fs_w trivial (svw_of (zag cw_gnil (zag (cw_rfl _) trivial)))
 | (refine fs_w ?h1 (svw_of ?h2); (case h1 => repeat' (first | exact trivial | exact rfl | exact zax rfl | apply zag)); (case h2 => repeat' (first | ((with_reducible refine (?_ : CW _ _)); first | exact cw_gnil | exact cw_rfl _ | exact cw_niln _ _ | exact cw_cap _ _ _ _) | exact trivial | (show _ ∧ SWL _ _; apply zag) | (show _ ∧ CWL _ _; apply zag) | show CW _ _)))
 | (refine fs_w ?h1 ?h2; (case h1 => repeat' (first | exact trivial | exact rfl | exact zax rfl | apply zag)); simp only [go_sem, resV, resS, zaM, zaL, zaD, zba, zaR, idx, renO, zaK, evS, slot, lookR, zaa, ↓reduceIte, reduceCtorEq, if_true, if_false, zav, zaw, zab, zac, sLoad, readAt, readNeed, Ints_ren, Ints_length, Ints_getD, and_true, true_and, zak, zal]; refine svw_of ?_; simp only [sw_tup, swl_cons, swl_nil, sw_one, sw_agg, cwl_cons, cwl_nil, cw_id, cw_nil0, cw_cap0, zap, and_true, true_and, and_self] <;> (try ((repeat' with_reducible apply zag) <;> (first | with_reducible trivial | exact cw_rfl _ | exact cw_gnil | exact cw_niln _ _ | exact cw_cap _ _ _ _ | (refine cw_eq ?_; congr; done)))))
 | (refine fs_w (by simp only [go_sem, resV, resS, zaM, zaL, zaD, zba, zaR, idx, renO, zaK, evS, slot, lookR, zaa, ↓reduceIte, reduceCtorEq, if_true, if_false, zav, zaw, zab, zac, sLoad, readAt, readNeed, Ints_ren, Ints_length, Ints_getD, and_true, true_and, zak, zal]; try trivial) ?_; simp only [go_sem, resV, resS, zaM, zaL, zaD, zba, zaR, idx, renO, zaK, evS, slot, lookR, zaa, ↓reduceIte, reduceCtorEq, if_true, if_false, zav, zaw, zab, zac, sLoad, readAt, readNeed, Ints_ren, Ints_length, Ints_getD, and_true, true_and, zak, zal]; refine svw_of ?_; simp only [sw_tup, swl_cons, swl_nil, sw_one, sw_agg, cwl_cons, cwl_nil, cw_id, cw_nil0, cw_cap0, zap, and_true, true_and, and_self] <;> (try ((repeat' with_reducible apply zag) <;> (first | with_reducible trivial | exact cw_rfl _ | exact cw_gnil | exact cw_niln _ _ | exact cw_cap _ _ _ _ | (refine cw_eq ?_; congr; done)))))
 | fail)
  | true =>
  rw [hh] at h3
  rw [if_neg (by decide)]
  have h4 := rdepth_spec l k n p hl hnm
  refine fnspec_of mixed TT_ok TT_cl ⟨fun _ => false, fun _ => [], 0, fun _ => false, fun _ => false⟩ Try.func25 rfl (by kernel_rfl) rfl 86 rfl [.cell 6 25, .tmp 7, .tmp 8] rfl ?_
  simp only [go_sem, zaa, zam, zan, zao, zaq, zaj, ↓reduceIte, reduceCtorEq, zaf, zai, zar, zas, zat]
  repeat' (first
 | with_reducible refine zag ?_ ?_
 | (unfold OKC; kernel_rfl)
 | (apply okc_up <;> (first | ((repeat (first | exact Sub.nil | apply Sub.gfp | apply Sub.same)); done) | kernel_rfl))
 | (unfold EDG; kernel_rfl)
 | (refine gt_if (fun h => ?_) (fun h => ?_) <;> (try simp only [h]))
 | (refine pt_if (fun h => ?_) (fun h => ?_) <;> (try simp only [h]))
 | (refine cd_if (fun h => ?_) (fun h => ?_) <;> (try simp only [h]))
 | (apply cg_tp
    case hl => rfl
    case ha => (simp only [zab, zac, prepV, prepC, idx, hpL', lookR, zaa, if_true, if_false]; rfl)
    case hs => rfl
    case h => (first | exact h1 .. | exact h2 .. | exact h3 ..))
 | (apply cg_ts
    case hl => rfl
    case ha => (simp only [zab, zac, prepV, prepC, idx, hpL', lookR, zaa, if_true, if_false]; rfl)
    case hs => (simp only [snaps_nil, zaH, zaJ, zaW, zaB, zaC, zau, zah]; rfl)
    case h => (first | exact h1 .. | exact h2 .. | exact h3 ..)
    case hf => ((simp only [zad, zae, false_implies, implies_true, and_true, hpL', lookR, zaa, if_true, if_false]) <;> (repeat' apply zag) <;> (first | exact ⟨_, rfl, Ints_isG _⟩ | exact ⟨_, rfl, Cs_isG _⟩ | exact ⟨_, rfl, by simp [zaY]⟩))
    case hg => simp [zbb, zaX, zaS])
 | (apply cg_any
    case hl => rfl
    case ha => (intro hb; simp only [zab, zac, cnd, hb, if_true, prepV, prepC, idx, hpL', lookR, zaa, if_false]; rfl)
    case hs => (intro hb; simp only [cnd, hb, if_true]; rfl)
    case h => (first | exact h1 .. | exact h2 .. | exact h3 ..))
 | (apply cg_show
    case hl => rfl
    case ha => (intro hb; simp only [zab, zac, cnd, hb, if_true, prepV, prepC, idx, hpL', lookR, zaa, if_false]; rfl)
    case hs => (intro hb; simp only [cnd, hb, if_true, snaps_nil, zaH, zaJ, zaW, zaB, zaC, zau, zah]; rfl)
    case h => (first | exact h1 .. | exact h2 .. | exact h3 ..)
    case hf => ((simp only [zad, zae, false_implies, implies_true, and_true, hpL', lookR, zaa, if_true, if_false]) <;> (repeat' apply zag) <;> (first | exact ⟨_, rfl, Ints_isG _⟩ | exact ⟨_, rfl, Cs_isG _⟩ | exact ⟨_, rfl, by simp [zaY]⟩))
    case hg => simp [zbb, zaX, zaS])
 | (apply cl_plain
    case hs => rfl
    case ha => (simp only [zab, zac, prepV, prepC, idx, hpL', lookR, zaa, if_true, if_false]; rfl)
    case h => (first | exact h1 .. | exact h2 .. | exact h3 ..))
 | (apply cl_lend
    case hr => (simp only [zab, zac, hpL', lookR, zaa, if_true, if_false]; first | exact map1 _ | exact map2 _ _ | exact map3 _ _ _)
    case ha => (simp only [zab, zac, prepV, prepC, idx, hpL', lookR, zaa, if_true, if_false]; rfl)
    case hs => rfl
    case hn => decide
    case h => (first | exact h1 .. | exact h2 .. | exact h3 ..)
    case hf => (simp only [zad, zae, false_implies, implies_true, and_true, true_and, flat_cons, flat_nil, flat_ints, flat_bools, flat_app, Cs_flat, zaB, and_self, eq_self_iff_true, zah])
    case hl => (simp only [zay, zap]; decide))
 | (apply cl_show
    case ha => (simp only [zab, zac, prepV, prepC, idx, hpL', lookR, zaa, if_true, if_false]; rfl)
    case hs => ((simp [snaps, zaW, zaB, idx, hpL', lookR]) <;> (repeat' apply zag) <;> (first | exact Ints_isG _ | exact Cs_isG _))
    case h => (first | exact h1 .. | exact h2 .. | exact h3 ..)
    case hg => ((simp [zbb, zaX, zaS]) <;> (repeat' apply zag) <;> exact Ints_noG _))
 | ((first | refine s1_id ?_ | refine swp_id ?_ | refine sops_id ?_ | refine s2_id ?_); simp only [go_sem, zaa, zam, zan, zao, zaq, zaj, ↓reduceIte, reduceCtorEq, zaf, zai, zar, zas, zat, zaM, zaL, zaD, zaK, renO, bk, back, outUpsFrom, Ints_ren])
 | (intros; omega)
 | (intros; (try simp only [zaG, zaI, zaE, zaF, zaz, zaA, decide_eq_true_eq, decide_eq_false_iff_not] at *); omega))
  refine w_loop (ι := Nat) (fun m => ⟨[(1, i1 p), (2, s1 s), (3, .one (.optr 0 0)), (6, .one (.optr 1 0)), (9, i1 m)], [(0, some ⟨[.gsl (Cs l) 0 l.length k, int n], 2⟩), (1, some ⟨[.sc (.slice none 0 0), int 0], 2⟩)], 2⟩) (fun m => m ≤ l.length ∧ (l.take m).any (same1 p s) = false) (fun m => l.length - m) 0 ?_ ⟨zbh _, rfl⟩ ?_
  · (refine imp_ren _ _ _ [(0, 0, ⟨[.gsl (Cs l) 0 l.length k, int n], 2⟩), (1, 1, ⟨[.sc (.slice none 0 0), int 0], 2⟩)] (by simp) (by simp) (by simp) (zax rfl) ?_ rfl (by simp only [zad, zae, false_implies, implies_true, and_true, zaR, lookR, zaa, if_true, if_false, ↓reduceIte] <;> (repeat' apply zag) <;> (first | rfl | trivial)) (by simp only [zad, zae, false_implies, implies_true, and_true, true_and, flat_cons, flat_nil, flat_ints, flat_bools, flat_app, zaB, and_self, eq_self_iff_true, zah]); simp only [zab, zac, zad, zae, false_implies, implies_true, and_true, lk, slot, zaM, zaD, toN, zaa, if_true, if_false, ↓reduceIte, reduceCtorEq])
    all_goals ((repeat' apply zag) <;> (first | rfl | trivial))
  clear h1 h2 h3
  rintro m ⟨hm, hno⟩
  simp only at hm hno ⊢
  rcases Nat.lt_or_ge m l.length with hlt | hge
  case inl =>
    have c : (m : Int) < (l.length : Int) := by omega
    obtain ⟨_, g2, _⟩ := nd_f l m hlt (.sc (.int .i64 0))
    have g3 := (nd_f l m hlt (.sc (.string (bs [])))).2.2.1
    have hs2 := any_take_succ l m hlt (same1 p s)
    have hsm : same1 p s (gN l m) = (decide ((gN l m).p = p) && decide ((gN l m).nm = s)) := rfl
    rw [hno, Bool.false_or] at hs2
    cases hdup : same1 p s (gN l m) with
    | true =>
      have hany : l.any (same1 p s) = true := List.any_eq_true.2 ⟨gN l m, getD_mem l m zn hlt, hdup⟩
      rw [if_pos hany]
      rw [hsm] at hdup
      simp only [go_sem, zaa, zam, zan, zao, zaq, zaj, ↓reduceIte, reduceCtorEq, zaf, zai, zar, zas, zat, decide_eq_true c, g2, g3, hdup]
      repeat' (first
 | with_reducible refine zag ?_ ?_
 | (unfold OKC; kernel_rfl)
 | (apply okc_up <;> (first | ((repeat (first | exact Sub.nil | apply Sub.gfp | apply Sub.same)); done) | kernel_rfl))
 | (unfold EDG; kernel_rfl)
 | (refine gt_if (fun h => ?_) (fun h => ?_) <;> (try simp only [h]))
 | (refine pt_if (fun h => ?_) (fun h => ?_) <;> (try simp only [h]))
 | (refine cd_if (fun h => ?_) (fun h => ?_) <;> (try simp only [h]))
 | (apply cg_tp
    case hl => rfl
    case ha => (simp only [zab, zac, prepV, prepC, idx, hpL', lookR, zaa, if_true, if_false]; rfl)
    case hs => rfl
    case h => (first | fail))
 | (apply cg_ts
    case hl => rfl
    case ha => (simp only [zab, zac, prepV, prepC, idx, hpL', lookR, zaa, if_true, if_false]; rfl)
    case hs => (simp only [snaps_nil, zaH, zaJ, zaW, zaB, zaC, zau, zah]; rfl)
    case h => (first | fail)
    case hf => ((simp only [zad, zae, false_implies, implies_true, and_true, hpL', lookR, zaa, if_true, if_false]) <;> (repeat' apply zag) <;> (first | exact ⟨_, rfl, Ints_isG _⟩ | exact ⟨_, rfl, Cs_isG _⟩ | exact ⟨_, rfl, by simp [zaY]⟩))
    case hg => simp [zbb, zaX, zaS])
 | (apply cg_any
    case hl => rfl
    case ha => (intro hb; simp only [zab, zac, cnd, hb, if_true, prepV, prepC, idx, hpL', lookR, zaa, if_false]; rfl)
    case hs => (intro hb; simp only [cnd, hb, if_true]; rfl)
    case h => (first | fail))
 | (apply cg_show
    case hl => rfl
    case ha => (intro hb; simp only [zab, zac, cnd, hb, if_true, prepV, prepC, idx, hpL', lookR, zaa, if_false]; rfl)
    case hs => (intro hb; simp only [cnd, hb, if_true, snaps_nil, zaH, zaJ, zaW, zaB, zaC, zau, zah]; rfl)
    case h => (first | fail)
    case hf => ((simp only [zad, zae, false_implies, implies_true, and_true, hpL', lookR, zaa, if_true, if_false]) <;> (repeat' apply zag) <;> (first | exact ⟨_, rfl, Ints_isG _⟩ | exact ⟨_, rfl, Cs_isG _⟩ | exact ⟨_, rfl, by simp [zaY]⟩))
    case hg => simp [zbb, zaX, zaS])
 | (apply cl_plain
    case hs => rfl
    case ha => (simp only [zab, zac, prepV, prepC, idx, hpL', lookR, zaa, if_true, if_false]; rfl)
    case h => (first | fail))
 | (apply cl_lend
    case hr => (simp only [zab, zac, hpL', lookR, zaa, if_true, if_false]; first | exact map1 _ | exact map2 _ _ | exact map3 _ _ _)
    case ha => (simp only [zab, zac, prepV, prepC, idx, hpL', lookR, zaa, if_true, if_false]; rfl)
    case hs => rfl
    case hn => decide
    case h => (first | fail)
    case hf => (simp only [zad, zae, false_implies, implies_true, and_true, true_and, flat_cons, flat_nil, flat_ints, flat_bools, flat_app, Cs_flat, zaB, and_self, eq_self_iff_true, zah])
    case hl => (simp only [zay, zap]; decide))
 | (apply cl_show
    case ha => (simp only [zab, zac, prepV, prepC, idx, hpL', lookR, zaa, if_true, if_false]; rfl)
    case hs => ((simp [snaps, zaW, zaB, idx, hpL', lookR]) <;> (repeat' apply zag) <;> (first | exact Ints_isG _ | exact Cs_isG _))
    case h => (first | fail)
    case hg => ((simp [zbb, zaX, zaS]) <;> (repeat' apply zag) <;> exact Ints_noG _))
 | ((first | refine s1_id ?_ | refine swp_id ?_ | refine sops_id ?_ | refine s2_id ?_); simp only [decide_eq_true c, g2, g3, hdup, go_sem, zaa, zam, zan, zao, zaq, zaj, ↓reduceIte, reduceCtorEq, zaf, zai, zar, zas, zat, zaM, zaL, zaD, zaK, renO, bk, back, outUpsFrom, Ints_ren])
 | (intros; omega)
 | (intros; (try simp only [zaG, zaI, zaE, zaF, zaz, zaA, decide_eq_true_eq, decide_eq_false_iff_not] at *); omega))
      repeat' (first
 | exact fs_w trivial (svw_of cw_gnil)
 | exact fs_w trivial (svw_of (zag cw_gnil (zag (cw_rfl _) trivial)))
 | (refine fs_w ?h1 (svw_of ?h2); (case h1 => repeat' (first | exact trivial | exact rfl | exact zax rfl | apply zag)); (case h2 => repeat' (first | ((with_reducible refine (?_ : CW _ _)); first | exact cw_gnil | exact cw_rfl _ | exact cw_niln _ _ | exact cw_cap _ _ _ _) | exact trivial | (show _ ∧ SWL _ _; apply zag) | (show _ ∧ CWL _ _; apply zag) | show CW _ _)))
 | (refine fs_w ?h1 ?h2; (case h1 => repeat' (first | exact trivial | exact rfl | exact zax rfl | apply zag)); simp only [go_sem, resV, resS, zaM, zaL, zaD, zba, zaR, idx, renO, zaK, evS, slot, lookR, zaa, ↓reduceIte, reduceCtorEq, if_true, if_false, zav, zaw, zab, zac, sLoad, readAt, readNeed, Ints_ren, Ints_length, Ints_getD, and_true, true_and, zak, zal]; refine svw_of ?_; simp only [sw_tup, swl_cons, swl_nil, sw_one, sw_agg, cwl_cons, cwl_nil, cw_id, cw_nil0, cw_cap0, zap, and_true, true_and, and_self] <;> (try ((repeat' with_reducible apply zag) <;> (first | with_reducible trivial | exact cw_rfl _ | exact cw_gnil | exact cw_niln _ _ | exact cw_cap _ _ _ _ | (refine cw_eq ?_; congr; done)))))
 | (refine fs_w (by simp only [go_sem, resV, resS, zaM, zaL, zaD, zba, zaR, idx, renO, zaK, evS, slot, lookR, zaa, ↓reduceIte, reduceCtorEq, if_true, if_false, zav, zaw, zab, zac, sLoad, readAt, readNeed, Ints_ren, Ints_length, Ints_getD, and_true, true_and, zak, zal]; try trivial) ?_; simp only [go_sem, resV, resS, zaM, zaL, zaD, zba, zaR, idx, renO, zaK, evS, slot, lookR, zaa, ↓reduceIte, reduceCtorEq, if_true, if_false, zav, zaw, zab, zac, sLoad, readAt, readNeed, Ints_ren, Ints_length, Ints_getD, and_true, true_and, zak, zal]; refine svw_of ?_; simp only [sw_tup, swl_cons, swl_nil, sw_one, sw_agg, cwl_cons, cwl_nil, cw_id, cw_nil0, cw_cap0, zap, and_true, true_and, and_self] <;> (try ((repeat' with_reducible apply zag) <;> (first | with_reducible trivial | exact cw_rfl _ | exact cw_gnil | exact cw_niln _ _ | exact cw_cap _ _ _ _ | (refine cw_eq ?_; congr; done)))))
 | fail)
    | false =>
      rw [hdup] at hs2
      rw [hsm] at hdup
      simp only [go_sem, zaa, zam, zan, zao, zaq, zaj, ↓reduceIte, reduceCtorEq, zaf, zai, zar, zas, zat, decide_eq_true c, g2, g3, hdup]
      repeat' (first
 | with_reducible refine zag ?_ ?_
 | (unfold OKC; kernel_rfl)
 | (apply okc_up <;> (first | ((repeat (first | exact Sub.nil | apply Sub.gfp | apply Sub.same)); done) | kernel_rfl))
 | (unfold EDG; kernel_rfl)
 | (refine gt_if (fun h => ?_) (fun h => ?_) <;> (try simp only [h]))
 | (refine pt_if (fun h => ?_) (fun h => ?_) <;> (try simp only [h]))
 | (refine cd_if (fun h => ?_) (fun h => ?_) <;> (try simp only [h]))
 | (apply cg_tp
    case hl => rfl
    case ha => (simp only [zab, zac, prepV, prepC, idx, hpL', lookR, zaa, if_true, if_false]; rfl)
    case hs => rfl
    case h => (first | fail))
 | (apply cg_ts
    case hl => rfl
    case ha => (simp only [zab, zac, prepV, prepC, idx, hpL', lookR, zaa, if_true, if_false]; rfl)
    case hs => (simp only [snaps_nil, zaH, zaJ, zaW, zaB, zaC, zau, zah]; rfl)
    case h => (first | fail)
    case hf => ((simp only [zad, zae, false_implies, implies_true, and_true, hpL', lookR, zaa, if_true, if_false]) <;> (repeat' apply zag) <;> (first | exact ⟨_, rfl, Ints_isG _⟩ | exact ⟨_, rfl, Cs_isG _⟩ | exact ⟨_, rfl, by simp [zaY]⟩))
    case hg => simp [zbb, zaX, zaS])
 | (apply cg_any
    case hl => rfl
    case ha => (intro hb; simp only [zab, zac, cnd, hb, if_true, prepV, prepC, idx, hpL', lookR, zaa, if_false]; rfl)
    case hs => (intro hb; simp only [cnd, hb, if_true]; rfl)
    case h => (first | fail))
 | (apply cg_show
    case hl => rfl
    case ha => (intro hb; simp only [zab, zac, cnd, hb, if_true, prepV, prepC, idx, hpL', lookR, zaa, if_false]; rfl)
    case hs => (intro hb; simp only [cnd, hb, if_true, snaps_nil, zaH, zaJ, zaW, zaB, zaC, zau, zah]; rfl)
    case h => (first | fail)
    case hf => ((simp only [zad, zae, false_implies, implies_true, and_true, hpL', lookR, zaa, if_true, if_false]) <;> (repeat' apply zag) <;> (first | exact ⟨_, rfl, Ints_isG _⟩ | exact ⟨_, rfl, Cs_isG _⟩ | exact ⟨_, rfl, by simp [zaY]⟩))
    case hg => simp [zbb, zaX, zaS])
 | (apply cl_plain
    case hs => rfl
    case ha => (simp only [zab, zac, prepV, prepC, idx, hpL', lookR, zaa, if_true, if_false]; rfl)
    case h => (first | fail))
 | (apply cl_lend
    case hr => (simp only [zab, zac, hpL', lookR, zaa, if_true, if_false]; first | exact map1 _ | exact map2 _ _ | exact map3 _ _ _)
    case ha => (simp only [zab, zac, prepV, prepC, idx, hpL', lookR, zaa, if_true, if_false]; rfl)
    case hs => rfl
    case hn => decide
    case h => (first | fail)
    case hf => (simp only [zad, zae, false_implies, implies_true, and_true, true_and, flat_cons, flat_nil, flat_ints, flat_bools, flat_app, Cs_flat, zaB, and_self, eq_self_iff_true, zah])
    case hl => (simp only [zay, zap]; decide))
 | (apply cl_show
    case ha => (simp only [zab, zac, prepV, prepC, idx, hpL', lookR, zaa, if_true, if_false]; rfl)
    case hs => ((simp [snaps, zaW, zaB, idx, hpL', lookR]) <;> (repeat' apply zag) <;> (first | exact Ints_isG _ | exact Cs_isG _))
    case h => (first | fail)
    case hg => ((simp [zbb, zaX, zaS]) <;> (repeat' apply zag) <;> exact Ints_noG _))
 | ((first | refine s1_id ?_ | refine swp_id ?_ | refine sops_id ?_ | refine s2_id ?_); simp only [decide_eq_true c, g2, g3, hdup, go_sem, zaa, zam, zan, zao, zaq, zaj, ↓reduceIte, reduceCtorEq, zaf, zai, zar, zas, zat, zaM, zaL, zaD, zaK, renO, bk, back, outUpsFrom, Ints_ren])
 | (intros; omega)
 | (intros; (try simp only [zaG, zaI, zaE, zaF, zaz, zaA, decide_eq_true_eq, decide_eq_false_iff_not] at *); omega))
      refine le_mk (m + 1) ?_ ⟨hlt, hs2⟩ (by omega)
      (refine imp_ren _ _ _ [(0, 0, ⟨[.gsl (Cs l) 0 l.length k, int n], 2⟩), (1, 1, ⟨[.sc (.slice none 0 0), int 0], 2⟩)] (by simp) (by simp) (by simp) (zax rfl) ?_ rfl (by simp only [zad, zae, false_implies, implies_true, and_true, zaR, lookR, zaa, if_true, if_false, ↓reduceIte] <;> (repeat' apply zag) <;> (first | rfl | trivial)) (by simp only [zad, zae, false_implies, implies_true, and_true, true_and, flat_cons, flat_nil, flat_ints, flat_bools, flat_app, zaB, and_self, eq_self_iff_true, zah]); simp only [zab, zac, zad, zae, false_implies, implies_true, and_true, lk, slot, zaM, zaD, toN, zaa, if_true, if_false, ↓reduceIte, reduceCtorEq])
      all_goals ((repeat' apply zag) <;> (first | rfl | trivial | (simp only [zbc]; done) | (simp only [zbc]; rfl) | (simp only [zbc]; trivial)))
  have c : ¬ (m : Int) < (l.length : Int) := by omega
  rw [zbd hge] at hno
  rw [if_neg (by rw [hno]; decide)]
  have h5 := trcopy_spec l k n hV.ne hl
  have hmx := hV.mx
  have hpos := hV.nx
  have hp1 := hV.pos (i := l.length - 1) (by have := hV.ne; omega)
  by_cases hd : 8 ≤ ((ancM l n p).length : Int) - 1 ∨ 64 ≤ (l.length : Int) ∨ 2147483647 < n
  · rw [if_pos hd]
    have hdd : (decide (8 ≤ ((ancM l n p).length : Int) - 1) || decide (64 ≤ (l.length : Int)) || decide (2147483647 < n)) = true := by
      simp only [zaI, decide_eq_true_eq]; omega
    simp only [go_sem, zaa, zam, zan, zao, zaq, zaj, ↓reduceIte, reduceCtorEq, zaf, zai, zar, zas, zat, decide_eq_false c, hdd]
    repeat' (first
 | with_reducible refine zag ?_ ?_
 | (unfold OKC; kernel_rfl)
 | (apply okc_up <;> (first | ((repeat (first | exact Sub.nil | apply Sub.gfp | apply Sub.same)); done) | kernel_rfl))
 | (unfold EDG; kernel_rfl)
 | (refine gt_if (fun h => ?_) (fun h => ?_) <;> (try simp only [h]))
 | (refine pt_if (fun h => ?_) (fun h => ?_) <;> (try simp only [h]))
 | (refine cd_if (fun h => ?_) (fun h => ?_) <;> (try simp only [h]))
 | (apply cg_tp
    case hl => rfl
    case ha => (simp only [zab, zac, prepV, prepC, idx, hpL', lookR, zaa, if_true, if_false]; rfl)
    case hs => rfl
    case h => (first | exact h4 ..))
 | (apply cg_ts
    case hl => rfl
    case ha => (simp only [zab, zac, prepV, prepC, idx, hpL', lookR, zaa, if_true, if_false]; rfl)
    case hs => (simp only [snaps_nil, zaH, zaJ, zaW, zaB, zaC, zau, zah]; rfl)
    case h => (first | exact h4 ..)
    case hf => ((simp only [zad, zae, false_implies, implies_true, and_true, hpL', lookR, zaa, if_true, if_false]) <;> (repeat' apply zag) <;> (first | exact ⟨_, rfl, Ints_isG _⟩ | exact ⟨_, rfl, Cs_isG _⟩ | exact ⟨_, rfl, by simp [zaY]⟩))
    case hg => simp [zbb, zaX, zaS])
 | (apply cg_any
    case hl => rfl
    case ha => (intro hb; simp only [zab, zac, cnd, hb, if_true, prepV, prepC, idx, hpL', lookR, zaa, if_false]; rfl)
    case hs => (intro hb; simp only [cnd, hb, if_true]; rfl)
    case h => (first | exact h4 ..))
 | (apply cg_show
    case hl => rfl
    case ha => (intro hb; simp only [zab, zac, cnd, hb, if_true, prepV, prepC, idx, hpL', lookR, zaa, if_false]; rfl)
    case hs => (intro hb; simp only [cnd, hb, if_true, snaps_nil, zaH, zaJ, zaW, zaB, zaC, zau, zah]; rfl)
    case h => (first | exact h4 ..)
    case hf => ((simp only [zad, zae, false_implies, implies_true, and_true, hpL', lookR, zaa, if_true, if_false]) <;> (repeat' apply zag) <;> (first | exact ⟨_, rfl, Ints_isG _⟩ | exact ⟨_, rfl, Cs_isG _⟩ | exact ⟨_, rfl, by simp [zaY]⟩))
    case hg => simp [zbb, zaX, zaS])
 | (apply cl_plain
    case hs => rfl
    case ha => (simp only [zab, zac, prepV, prepC, idx, hpL', lookR, zaa, if_true, if_false]; rfl)
    case h => (first | exact h4 ..))
 | (apply cl_lend
    case hr => (simp only [zab, zac, hpL', lookR, zaa, if_true, if_false]; first | exact map1 _ | exact map2 _ _ | exact map3 _ _ _)
    case ha => (simp only [zab, zac, prepV, prepC, idx, hpL', lookR, zaa, if_true, if_false]; rfl)
    case hs => rfl
    case hn => decide
    case h => (first | exact h4 ..)
    case hf => (simp only [zad, zae, false_implies, implies_true, and_true, true_and, flat_cons, flat_nil, flat_ints, flat_bools, flat_app, Cs_flat, zaB, and_self, eq_self_iff_true, zah])
    case hl => (simp only [zay, zap]; decide))
 | (apply cl_show
    case ha => (simp only [zab, zac, prepV, prepC, idx, hpL', lookR, zaa, if_true, if_false]; rfl)
    case hs => ((simp [snaps, zaW, zaB, idx, hpL', lookR]) <;> (repeat' apply zag) <;> (first | exact Ints_isG _ | exact Cs_isG _))
    case h => (first | exact h4 ..)
    case hg => ((simp [zbb, zaX, zaS]) <;> (repeat' apply zag) <;> exact Ints_noG _))
 | ((first | refine s1_id ?_ | refine swp_id ?_ | refine sops_id ?_ | refine s2_id ?_); simp only [decide_eq_false c, hdd, go_sem, zaa, zam, zan, zao, zaq, zaj, ↓reduceIte, reduceCtorEq, zaf, zai, zar, zas, zat, zaM, zaL, zaD, zaK, renO, bk, back, outUpsFrom, Ints_ren])
 | (intros; omega)
 | (intros; (try simp only [zaG, zaI, zaE, zaF, zaz, zaA, decide_eq_true_eq, decide_eq_false_iff_not] at *); omega))
    repeat' (first
 | exact fs_w trivial (svw_of cw_gnil)
 | exact fs_w trivial (svw_of (zag cw_gnil (zag (cw_rfl _) trivial)))
 | (refine fs_w ?h1 (svw_of ?h2); (case h1 => repeat' (first | exact trivial | exact rfl | exact zax rfl | apply zag)); (case h2 => repeat' (first | ((with_reducible refine (?_ : CW _ _)); first | exact cw_gnil | exact cw_rfl _ | exact cw_niln _ _ | exact cw_cap _ _ _ _) | exact trivial | (show _ ∧ SWL _ _; apply zag) | (show _ ∧ CWL _ _; apply zag) | show CW _ _)))
 | (refine fs_w ?h1 ?h2; (case h1 => repeat' (first | exact trivial | exact rfl | exact zax rfl | apply zag)); simp only [go_sem, resV, resS, zaM, zaL, zaD, zba, zaR, idx, renO, zaK, evS, slot, lookR, zaa, ↓reduceIte, reduceCtorEq, if_true, if_false, zav, zaw, zab, zac, sLoad, readAt, readNeed, Ints_ren, Ints_length, Ints_getD, and_true, true_and, zak, zal]; refine svw_of ?_; simp only [sw_tup, swl_cons, swl_nil, sw_one, sw_agg, cwl_cons, cwl_nil, cw_id, cw_nil0, cw_cap0, zap, and_true, true_and, and_self] <;> (try ((repeat' with_reducible apply zag) <;> (first | with_reducible trivial | exact cw_rfl _ | exact cw_gnil | exact cw_niln _ _ | exact cw_cap _ _ _ _ | (refine cw_eq ?_; congr; done)))))
 | (refine fs_w (by simp only [go_sem, resV, resS, zaM, zaL, zaD, zba, zaR, idx, renO, zaK, evS, slot, lookR, zaa, ↓reduceIte, reduceCtorEq, if_true, if_false, zav, zaw, zab, zac, sLoad, readAt, readNeed, Ints_ren, Ints_length, Ints_getD, and_true, true_and, zak, zal]; try trivial) ?_; simp only [go_sem, resV, resS, zaM, zaL, zaD, zba, zaR, idx, renO, zaK, evS, slot, lookR, zaa, ↓reduceIte, reduceCtorEq, if_true, if_false, zav, zaw, zab, zac, sLoad, readAt, readNeed, Ints_ren, Ints_length, Ints_getD, and_true, true_and, zak, zal]; refine svw_of ?_; simp only [sw_tup, swl_cons, swl_nil, sw_one, sw_agg, cwl_cons, cwl_nil, cw_id, cw_nil0, cw_cap0, zap, and_true, true_and, and_self] <;> (try ((repeat' with_reducible apply zag) <;> (first | with_reducible trivial | exact cw_rfl _ | exact cw_gnil | exact cw_niln _ _ | exact cw_cap _ _ _ _ | (refine cw_eq ?_; congr; done)))))
 | fail)
  · rw [if_neg hd]
    have hdd : (decide (8 ≤ ((ancM l n p).length : Int) - 1) || decide (64 ≤ (l.length : Int)) || decide (2147483647 < n)) = false := by
      simp only [zaA, decide_eq_false_iff_not]; omega
    have hca : List.take (l.length * 6) (Cs l) = Cs l := Cs_all l _ (zbf _)
    have hpp : Cs l ++ [int n, int p, st s, int 0, int 0, int 0] = Cs (l ++ [newN n p s]) := Cs_snoc l (newN n p s)
    have hla : (l ++ [newN n p s]).length = l.length + 1 := by simp
    simp only [go_sem, zaa, zam, zan, zao, zaq, zaj, ↓reduceIte, reduceCtorEq, zaf, zai, zar, zas, zat, decide_eq_false c, hdd]
    repeat' (first
 | with_reducible refine zag ?_ ?_
 | (unfold OKC; kernel_rfl)
 | (apply okc_up <;> (first | ((repeat (first | exact Sub.nil | apply Sub.gfp | apply Sub.same)); done) | kernel_rfl))
 | (unfold EDG; kernel_rfl)
 | (refine gt_if (fun h => ?_) (fun h => ?_) <;> (try simp only [h]))
 | (refine pt_if (fun h => ?_) (fun h => ?_) <;> (try simp only [h]))
 | (refine cd_if (fun h => ?_) (fun h => ?_) <;> (try simp only [h]))
 | (apply cg_tp
    case hl => rfl
    case ha => (simp only [zab, zac, prepV, prepC, idx, hpL', lookR, zaa, if_true, if_false]; rfl)
    case hs => rfl
    case h => (first | exact h4 .. | exact h5 ..))
 | (apply cg_ts
    case hl => rfl
    case ha => (simp only [zab, zac, prepV, prepC, idx, hpL', lookR, zaa, if_true, if_false]; rfl)
    case hs => (simp only [snaps_nil, zaH, zaJ, zaW, zaB, zaC, zau, zah]; rfl)
    case h => (first | exact h4 .. | exact h5 ..)
    case hf => ((simp only [zad, zae, false_implies, implies_true, and_true, hpL', lookR, zaa, if_true, if_false]) <;> (repeat' apply zag) <;> (first | exact ⟨_, rfl, Ints_isG _⟩ | exact ⟨_, rfl, Cs_isG _⟩ | exact ⟨_, rfl, by simp [zaY]⟩))
    case hg => simp [zbb, zaX, zaS])
 | (apply cg_any
    case hl => rfl
    case ha => (intro hb; simp only [zab, zac, cnd, hb, if_true, prepV, prepC, idx, hpL', lookR, zaa, if_false]; rfl)
    case hs => (intro hb; simp only [cnd, hb, if_true]; rfl)
    case h => (first | exact h4 .. | exact h5 ..))
 | (apply cg_show
    case hl => rfl
    case ha => (intro hb; simp only [zab, zac, cnd, hb, if_true, prepV, prepC, idx, hpL', lookR, zaa, if_false]; rfl)
    case hs => (intro hb; simp only [cnd, hb, if_true, snaps_nil, zaH, zaJ, zaW, zaB, zaC, zau, zah]; rfl)
    case h => (first | exact h4 .. | exact h5 ..)
    case hf => ((simp only [zad, zae, false_implies, implies_true, and_true, hpL', lookR, zaa, if_true, if_false]) <;> (repeat' apply zag) <;> (first | exact ⟨_, rfl, Ints_isG _⟩ | exact ⟨_, rfl, Cs_isG _⟩ | exact ⟨_, rfl, by simp [zaY]⟩))
    case hg => simp [zbb, zaX, zaS])
 | (apply cl_plain
    case hs => rfl
    case ha => (simp only [zab, zac, prepV, prepC, idx, hpL', lookR, zaa, if_true, if_false]; rfl)
    case h => (first | exact h4 .. | exact h5 ..))
 | (apply cl_lend
    case hr => (simp only [zab, zac, hpL', lookR, zaa, if_true, if_false]; first | exact map1 _ | exact map2 _ _ | exact map3 _ _ _)
    case ha => (simp only [zab, zac, prepV, prepC, idx, hpL', lookR, zaa, if_true, if_false]; rfl)
    case hs => rfl
    case hn => decide
    case h => (first | exact h4 .. | exact h5 ..)
    case hf => (simp only [zad, zae, false_implies, implies_true, and_true, true_and, flat_cons, flat_nil, flat_ints, flat_bools, flat_app, Cs_flat, zaB, and_self, eq_self_iff_true, zah])
    case hl => (simp only [zay, zap]; decide))
 | (apply cl_show
    case ha => (simp only [zab, zac, prepV, prepC, idx, hpL', lookR, zaa, if_true, if_false]; rfl)
    case hs => ((simp [snaps, zaW, zaB, idx, hpL', lookR]) <;> (repeat' apply zag) <;> (first | exact Ints_isG _ | exact Cs_isG _))
    case h => (first | exact h4 .. | exact h5 ..)
    case hg => ((simp [zbb, zaX, zaS]) <;> (repeat' apply zag) <;> exact Ints_noG _))
 | ((first | refine s1_id ?_ | refine swp_id ?_ | refine sops_id ?_ | refine s2_id ?_); simp only [decide_eq_false c, hdd, hca, hpp, zaQ, zaT, zah, zau, zaC, zaO, zaP, zaN, zaV, zaZ, zay, zap, go_sem, zaa, zam, zan, zao, zaq, zaj, ↓reduceIte, reduceCtorEq, zaf, zai, zar, zas, zat, zaM, zaL, zaD, zaK, renO, bk, back, outUpsFrom, Ints_ren])
 | (intros; omega)
 | (intros; (try simp only [zaG, zaI, zaE, zaF, zaz, zaA, decide_eq_true_eq, decide_eq_false_iff_not] at *); omega))
    simp only [adV, trV, hla]
    (refine fs_frz 34 ⟨Cs (l ++ [newN n p s]), 6⟩ (by simp only [zaR, lookR, zaa, if_true, if_false, ↓reduceIte]) (by first | exact Ints_isG _ | exact Bools_isG _ | exact Cs_isG _ | (simp [zaY]; done)) ?_; simp only [frzTm, SV.frz, SV.frzL, Cell.frz, frzHp, frzO, Ints_frz, Bools_frz, zab, zac, zaa, if_true, if_false, ↓reduceIte])
    apply fs_nil <;> (try simp only [go_sem, resV, resS, zaM, zaL, zaD, zba, zaR, idx, renO, zaK, evS, slot, lookR, zaa, ↓reduceIte, reduceCtorEq, if_true, if_false, zav, zaw, zab, zac, sLoad, readAt, readNeed, Ints_ren, Ints_length, Ints_getD, and_true, true_and, zak, zal]) <;> (first | rfl | decide | skip)
def rmM (l : List Nd) (n id : Int) : (List Nd × Int) × Int :=
  if chkT l n = false then (([], 0), 1)
  else if hasM l n id = false then (([], 0), 4)
  else if id = 1 then (([], 0), 9)
  else if 0 < ((chM l n id).length : Int) then (([], 0), 6)
  else ((rmN l id, n), 0)
abbrev rmV (x : (List Nd × Int) × Int) : SV := .tup [trV x.1.1 none x.1.2, i1 x.2]
theorem rmN_take (l : List Nd) (m : Nat) (h : m < l.length) (id : Int) : rmN (l.take (m + 1)) id = rmN (l.take m) id ++ (if (gN l m).i = id then [] else [gN l m]) := by
  unfold rmN
  rw [take_getD l m zn h, List.filter_append]
  by_cases c : (gN l m).i = id
  · rw [if_pos c, List.filter_cons_of_neg (by simp only [zaE, decide_eq_false_iff_not]; exact fun e => e c)]; rfl
  · rw [if_neg c, List.filter_cons_of_pos (by simp only [zaE, decide_eq_false_iff_not]; exact c)]; rfl
theorem rmN_len (l : List Nd) (id : Int) : (rmN l id).length ≤ l.length := List.length_filter_le _ _
set_option maxHeartbeats 16000000 in
theorem rrem_spec (l : List Nd) (k : Option Nat) (n id : Int) (hl : l.length ≤ 1000000) (hnm : NmR l) : FnSpec Try.prog 28 [trV l k n, i1 id] [] (rmV (rmM l n id)) [] := by
  have h1 := trcheck_spec l k n hl hnm
  have hnl := nd_len l
  unfold rmM
  cases hc : chkT l n with
  | false =>
    rw [hc] at h1
    rw [if_pos rfl]
    refine fnspec_of mixed TT_ok TT_cl ⟨fun _ => false, fun _ => [], 0, fun _ => false, fun _ => false⟩ Try.func28 rfl (by kernel_rfl) rfl 59 rfl [.cell 4 25, .tmp 5] rfl ?_
    simp only [go_sem, zaa, zam, zan, zao, zaq, zaj, ↓reduceIte, reduceCtorEq, zaf, zai, zar, zas, zat]
    repeat' (first
 | with_reducible refine zag ?_ ?_
 | (unfold OKC; kernel_rfl)
 | (apply okc_up <;> (first | ((repeat (first | exact Sub.nil | apply Sub.gfp | apply Sub.same)); done) | kernel_rfl))
 | (unfold EDG; kernel_rfl)
 | (refine gt_if (fun h => ?_) (fun h => ?_) <;> (try simp only [h]))
 | (refine pt_if (fun h => ?_) (fun h => ?_) <;> (try simp only [h]))
 | (refine cd_if (fun h => ?_) (fun h => ?_) <;> (try simp only [h]))
 | (apply cg_tp
    case hl => rfl
    case ha => (simp only [zab, zac, prepV, prepC, idx, hpL', lookR, zaa, if_true, if_false]; rfl)
    case hs => rfl
    case h => (first | exact h1 ..))
 | (apply cg_ts
    case hl => rfl
    case ha => (simp only [zab, zac, prepV, prepC, idx, hpL', lookR, zaa, if_true, if_false]; rfl)
    case hs => (simp only [snaps_nil, zaH, zaJ, zaW, zaB, zaC, zau, zah]; rfl)
    case h => (first | exact h1 ..)
    case hf => ((simp only [zad, zae, false_implies, implies_true, and_true, hpL', lookR, zaa, if_true, if_false]) <;> (repeat' apply zag) <;> (first | exact ⟨_, rfl, Ints_isG _⟩ | exact ⟨_, rfl, Cs_isG _⟩ | exact ⟨_, rfl, by simp [zaY]⟩))
    case hg => simp [zbb, zaX, zaS])
 | (apply cg_any
    case hl => rfl
    case ha => (intro hb; simp only [zab, zac, cnd, hb, if_true, prepV, prepC, idx, hpL', lookR, zaa, if_false]; rfl)
    case hs => (intro hb; simp only [cnd, hb, if_true]; rfl)
    case h => (first | exact h1 ..))
 | (apply cg_show
    case hl => rfl
    case ha => (intro hb; simp only [zab, zac, cnd, hb, if_true, prepV, prepC, idx, hpL', lookR, zaa, if_false]; rfl)
    case hs => (intro hb; simp only [cnd, hb, if_true, snaps_nil, zaH, zaJ, zaW, zaB, zaC, zau, zah]; rfl)
    case h => (first | exact h1 ..)
    case hf => ((simp only [zad, zae, false_implies, implies_true, and_true, hpL', lookR, zaa, if_true, if_false]) <;> (repeat' apply zag) <;> (first | exact ⟨_, rfl, Ints_isG _⟩ | exact ⟨_, rfl, Cs_isG _⟩ | exact ⟨_, rfl, by simp [zaY]⟩))
    case hg => simp [zbb, zaX, zaS])
 | (apply cl_plain
    case hs => rfl
    case ha => (simp only [zab, zac, prepV, prepC, idx, hpL', lookR, zaa, if_true, if_false]; rfl)
    case h => (first | exact h1 ..))
 | (apply cl_lend
    case hr => (simp only [zab, zac, hpL', lookR, zaa, if_true, if_false]; first | exact map1 _ | exact map2 _ _ | exact map3 _ _ _)
    case ha => (simp only [zab, zac, prepV, prepC, idx, hpL', lookR, zaa, if_true, if_false]; rfl)
    case hs => rfl
    case hn => decide
    case h => (first | exact h1 ..)
    case hf => (simp only [zad, zae, false_implies, implies_true, and_true, true_and, flat_cons, flat_nil, flat_ints, flat_bools, flat_app, Cs_flat, zaB, and_self, eq_self_iff_true, zah])
    case hl => (simp only [zay, zap]; decide))
 | (apply cl_show
    case ha => (simp only [zab, zac, prepV, prepC, idx, hpL', lookR, zaa, if_true, if_false]; rfl)
    case hs => ((simp [snaps, zaW, zaB, idx, hpL', lookR]) <;> (repeat' apply zag) <;> (first | exact Ints_isG _ | exact Cs_isG _))
    case h => (first | exact h1 ..)
    case hg => ((simp [zbb, zaX, zaS]) <;> (repeat' apply zag) <;> exact Ints_noG _))
 | ((first | refine s1_id ?_ | refine swp_id ?_ | refine sops_id ?_ | refine s2_id ?_); simp only [go_sem, zaa, zam, zan, zao, zaq, zaj, ↓reduceIte, reduceCtorEq, zaf, zai, zar, zas, zat, zaM, zaL, zaD, zaK, renO, bk, back, outUpsFrom, Ints_ren])
 | (intros; omega)
 | (intros; (try simp only [zaG, zaI, zaE, zaF, zaz, zaA, decide_eq_true_eq, decide_eq_false_iff_not] at *); omega))
    repeat' (first
 | exact fs_w trivial (svw_of cw_gnil)
 | exact fs_w trivial (svw_of (zag cw_gnil (zag (cw_rfl _) trivial)))
 | (refine fs_w ?h1 (svw_of ?h2); (case h1 => repeat' (first | exact trivial | exact rfl | exact zax rfl | apply zag)); (case h2 => repeat' (first | ((with_reducible refine (?_ : CW _ _)); first | exact cw_gnil | exact cw_rfl _ | exact cw_niln _ _ | exact cw_cap _ _ _ _) | exact trivial | (show _ ∧ SWL _ _; apply zag) | (show _ ∧ CWL _ _; apply zag) | show CW _ _)))
 | (refine fs_w ?h1 ?h2; (case h1 => repeat' (first | exact trivial | exact rfl | exact zax rfl | apply zag)); simp only [go_sem, resV, resS, zaM, zaL, zaD, zba, zaR, idx, renO, zaK, evS, slot, lookR, zaa, ↓reduceIte, reduceCtorEq, if_true, if_false, zav, zaw, zab, zac, sLoad, readAt, readNeed, Ints_ren, Ints_length, Ints_getD, and_true, true_and, zak, zal]; refine svw_of ?_; simp only [sw_tup, swl_cons, swl_nil, sw_one, sw_agg, cwl_cons, cwl_nil, cw_id, cw_nil0, cw_cap0, zap, and_true, true_and, and_self] <;> (try ((repeat' with_reducible apply zag) <;> (first | with_reducible trivial | exact cw_rfl _ | exact cw_gnil | exact cw_niln _ _ | exact cw_cap _ _ _ _ | (refine cw_eq ?_; congr; done)))))
 | (refine fs_w (by simp only [go_sem, resV, resS, zaM, zaL, zaD, zba, zaR, idx, renO, zaK, evS, slot, lookR, zaa, ↓reduceIte, reduceCtorEq, if_true, if_false, zav, zaw, zab, zac, sLoad, readAt, readNeed, Ints_ren, Ints_length, Ints_getD, and_true, true_and, zak, zal]; try trivial) ?_; simp only [go_sem, resV, resS, zaM, zaL, zaD, zba, zaR, idx, renO, zaK, evS, slot, lookR, zaa, ↓reduceIte, reduceCtorEq, if_true, if_false, zav, zaw, zab, zac, sLoad, readAt, readNeed, Ints_ren, Ints_length, Ints_getD, and_true, true_and, zak, zal]; refine svw_of ?_; simp only [sw_tup, swl_cons, swl_nil, sw_one, sw_agg, cwl_cons, cwl_nil, cw_id, cw_nil0, cw_cap0, zap, and_true, true_and, and_self] <;> (try ((repeat' with_reducible apply zag) <;> (first | with_reducible trivial | exact cw_rfl _ | exact cw_gnil | exact cw_niln _ _ | exact cw_cap _ _ _ _ | (refine cw_eq ?_; congr; done)))))
 | fail)
  | true =>
  rw [hc] at h1
  rw [if_neg (by decide)]
  have h3 := rhas_spec l k n id hl hnm
  cases hh : hasM l n id with
  | false =>
    rw [hh] at h3
    rw [if_pos rfl]
    refine fnspec_of mixed TT_ok TT_cl ⟨fun _ => false, fun _ => [], 0, fun _ => false, fun _ => false⟩ Try.func28 rfl (by kernel_rfl) rfl 59 rfl [.cell 4 25, .tmp 5] rfl ?_
    simp only [go_sem, zaa, zam, zan, zao, zaq, zaj, ↓reduceIte, reduceCtorEq, zaf, zai, zar, zas, zat]
    repeat' (first
 | with_reducible refine zag ?_ ?_
 | (unfold OKC; kernel_rfl)
 | (apply okc_up <;> (first | ((repeat (first | exact Sub.nil | apply Sub.gfp | apply Sub.same)); done) | kernel_rfl))
 | (unfold EDG; kernel_rfl)
 | (refine gt_if (fun h => ?_) (fun h => ?_) <;> (try simp only [h]))
 | (refine pt_if (fun h => ?_) (fun h => ?_) <;> (try simp only [h]))
 | (refine cd_if (fun h => ?_) (fun h => ?_) <;> (try simp only [h]))
 | (apply cg_tp
    case hl => rfl
    case ha => (simp only [zab, zac, prepV, prepC, idx, hpL', lookR, zaa, if_true, if_false]; rfl)
    case hs => rfl
    case h => (first | exact h1 .. | exact h3 ..))
 | (apply cg_ts
    case hl => rfl
    case ha => (simp only [zab, zac, prepV, prepC, idx, hpL', lookR, zaa, if_true, if_false]; rfl)
    case hs => (simp only [snaps_nil, zaH, zaJ, zaW, zaB, zaC, zau, zah]; rfl)
    case h => (first | exact h1 .. | exact h3 ..)
    case hf => ((simp only [zad, zae, false_implies, implies_true, and_true, hpL', lookR, zaa, if_true, if_false]) <;> (repeat' apply zag) <;> (first | exact ⟨_, rfl, Ints_isG _⟩ | exact ⟨_, rfl, Cs_isG _⟩ | exact ⟨_, rfl, by simp [zaY]⟩))
    case hg => simp [zbb, zaX, zaS])
 | (apply cg_any
    case hl => rfl
    case ha => (intro hb; simp only [zab, zac, cnd, hb, if_true, prepV, prepC, idx, hpL', lookR, zaa, if_false]; rfl)
    case hs => (intro hb; simp only [cnd, hb, if_true]; rfl)
    case h => (first | exact h1 .. | exact h3 ..))
 | (apply cg_show
    case hl => rfl
    case ha => (intro hb; simp only [zab, zac, cnd, hb, if_true, prepV, prepC, idx, hpL', lookR, zaa, if_false]; rfl)
    case hs => (intro hb; simp only [cnd, hb, if_true, snaps_nil, zaH, zaJ, zaW, zaB, zaC, zau, zah]; rfl)
    case h => (first | exact h1 .. | exact h3 ..)
    case hf => ((simp only [zad, zae, false_implies, implies_true, and_true, hpL', lookR, zaa, if_true, if_false]) <;> (repeat' apply zag) <;> (first | exact ⟨_, rfl, Ints_isG _⟩ | exact ⟨_, rfl, Cs_isG _⟩ | exact ⟨_, rfl, by simp [zaY]⟩))
    case hg => simp [zbb, zaX, zaS])
 | (apply cl_plain
    case hs => rfl
    case ha => (simp only [zab, zac, prepV, prepC, idx, hpL', lookR, zaa, if_true, if_false]; rfl)
    case h => (first | exact h1 .. | exact h3 ..))
 | (apply cl_lend
    case hr => (simp only [zab, zac, hpL', lookR, zaa, if_true, if_false]; first | exact map1 _ | exact map2 _ _ | exact map3 _ _ _)
    case ha => (simp only [zab, zac, prepV, prepC, idx, hpL', lookR, zaa, if_true, if_false]; rfl)
    case hs => rfl
    case hn => decide
    case h => (first | exact h1 .. | exact h3 ..)
    case hf => (simp only [zad, zae, false_implies, implies_true, and_true, true_and, flat_cons, flat_nil, flat_ints, flat_bools, flat_app, Cs_flat, zaB, and_self, eq_self_iff_true, zah])
    case hl => (simp only [zay, zap]; decide))
 | (apply cl_show
    case ha => (simp only [zab, zac, prepV, prepC, idx, hpL', lookR, zaa, if_true, if_false]; rfl)
    case hs => ((simp [snaps, zaW, zaB, idx, hpL', lookR]) <;> (repeat' apply zag) <;> (first | exact Ints_isG _ | exact Cs_isG _))
    case h => (first | exact h1 .. | exact h3 ..)
    case hg => ((simp [zbb, zaX, zaS]) <;> (repeat' apply zag) <;> exact Ints_noG _))
 | ((first | refine s1_id ?_ | refine swp_id ?_ | refine sops_id ?_ | refine s2_id ?_); simp only [go_sem, zaa, zam, zan, zao, zaq, zaj, ↓reduceIte, reduceCtorEq, zaf, zai, zar, zas, zat, zaM, zaL, zaD, zaK, renO, bk, back, outUpsFrom, Ints_ren])
 | (intros; omega)
 | (intros; (try simp only [zaG, zaI, zaE, zaF, zaz, zaA, decide_eq_true_eq, decide_eq_false_iff_not] at *); omega))
    repeat' (first
 | exact fs_w trivial (svw_of cw_gnil)
 | exact fs_w trivial (svw_of (zag cw_gnil (zag (cw_rfl _) trivial)))
 | (refine fs_w ?h1 (svw_of ?h2); (case h1 => repeat' (first | exact trivial | exact rfl | exact zax rfl | apply zag)); (case h2 => repeat' (first | ((with_reducible refine (?_ : CW _ _)); first | exact cw_gnil | exact cw_rfl _ | exact cw_niln _ _ | exact cw_cap _ _ _ _) | exact trivial | (show _ ∧ SWL _ _; apply zag) | (show _ ∧ CWL _ _; apply zag) | show CW _ _)))
 | (refine fs_w ?h1 ?h2; (case h1 => repeat' (first | exact trivial | exact rfl | exact zax rfl | apply zag)); simp only [go_sem, resV, resS, zaM, zaL, zaD, zba, zaR, idx, renO, zaK, evS, slot, lookR, zaa, ↓reduceIte, reduceCtorEq, if_true, if_false, zav, zaw, zab, zac, sLoad, readAt, readNeed, Ints_ren, Ints_length, Ints_getD, and_true, true_and, zak, zal]; refine svw_of ?_; simp only [sw_tup, swl_cons, swl_nil, sw_one, sw_agg, cwl_cons, cwl_nil, cw_id, cw_nil0, cw_cap0, zap, and_true, true_and, and_self] <;> (try ((repeat' with_reducible apply zag) <;> (first | with_reducible trivial | exact cw_rfl _ | exact cw_gnil | exact cw_niln _ _ | exact cw_cap _ _ _ _ | (refine cw_eq ?_; congr; done)))))
 | (refine fs_w (by simp only [go_sem, resV, resS, zaM, zaL, zaD, zba, zaR, idx, renO, zaK, evS, slot, lookR, zaa, ↓reduceIte, reduceCtorEq, if_true, if_false, zav, zaw, zab, zac, sLoad, readAt, readNeed, Ints_ren, Ints_length, Ints_getD, and_true, true_and, zak, zal]; try trivial) ?_; simp only [go_sem, resV, resS, zaM, zaL, zaD, zba, zaR, idx, renO, zaK, evS, slot, lookR, zaa, ↓reduceIte, reduceCtorEq, if_true, if_false, zav, zaw, zab, zac, sLoad, readAt, readNeed, Ints_ren, Ints_length, Ints_getD, and_true, true_and, zak, zal]; refine svw_of ?_; simp only [sw_tup, swl_cons, swl_nil, sw_one, sw_agg, cwl_cons, cwl_nil, cw_id, cw_nil0, cw_cap0, zap, and_true, true_and, and_self] <;> (try ((repeat' with_reducible apply zag) <;> (first | with_reducible trivial | exact cw_rfl _ | exact cw_gnil | exact cw_niln _ _ | exact cw_cap _ _ _ _ | (refine cw_eq ?_; congr; done)))))
 | fail)
  | true =>
  rw [hh] at h3
  rw [if_neg (by decide)]
  by_cases hid : id = 1
  · rw [if_pos hid]
    refine fnspec_of mixed TT_ok TT_cl ⟨fun _ => false, fun _ => [], 0, fun _ => false, fun _ => false⟩ Try.func28 rfl (by kernel_rfl) rfl 59 rfl [.cell 4 25, .tmp 5] rfl ?_
    simp only [go_sem, zaa, zam, zan, zao, zaq, zaj, ↓reduceIte, reduceCtorEq, zaf, zai, zar, zas, zat, decide_eq_true hid]
    repeat' (first
 | with_reducible refine zag ?_ ?_
 | (unfold OKC; kernel_rfl)
 | (apply okc_up <;> (first | ((repeat (first | exact Sub.nil | apply Sub.gfp | apply Sub.same)); done) | kernel_rfl))
 | (unfold EDG; kernel_rfl)
 | (refine gt_if (fun h => ?_) (fun h => ?_) <;> (try simp only [h]))
 | (refine pt_if (fun h => ?_) (fun h => ?_) <;> (try simp only [h]))
 | (refine cd_if (fun h => ?_) (fun h => ?_) <;> (try simp only [h]))
 | (apply cg_tp
    case hl => rfl
    case ha => (simp only [zab, zac, prepV, prepC, idx, hpL', lookR, zaa, if_true, if_false]; rfl)
    case hs => rfl
    case h => (first | exact h1 .. | exact h3 ..))
 | (apply cg_ts
    case hl => rfl
    case ha => (simp only [zab, zac, prepV, prepC, idx, hpL', lookR, zaa, if_true, if_false]; rfl)
    case hs => (simp only [snaps_nil, zaH, zaJ, zaW, zaB, zaC, zau, zah]; rfl)
    case h => (first | exact h1 .. | exact h3 ..)
    case hf => ((simp only [zad, zae, false_implies, implies_true, and_true, hpL', lookR, zaa, if_true, if_false]) <;> (repeat' apply zag) <;> (first | exact ⟨_, rfl, Ints_isG _⟩ | exact ⟨_, rfl, Cs_isG _⟩ | exact ⟨_, rfl, by simp [zaY]⟩))
    case hg => simp [zbb, zaX, zaS])
 | (apply cg_any
    case hl => rfl
    case ha => (intro hb; simp only [zab, zac, cnd, hb, if_true, prepV, prepC, idx, hpL', lookR, zaa, if_false]; rfl)
    case hs => (intro hb; simp only [cnd, hb, if_true]; rfl)
    case h => (first | exact h1 .. | exact h3 ..))
 | (apply cg_show
    case hl => rfl
    case ha => (intro hb; simp only [zab, zac, cnd, hb, if_true, prepV, prepC, idx, hpL', lookR, zaa, if_false]; rfl)
    case hs => (intro hb; simp only [cnd, hb, if_true, snaps_nil, zaH, zaJ, zaW, zaB, zaC, zau, zah]; rfl)
    case h => (first | exact h1 .. | exact h3 ..)
    case hf => ((simp only [zad, zae, false_implies, implies_true, and_true, hpL', lookR, zaa, if_true, if_false]) <;> (repeat' apply zag) <;> (first | exact ⟨_, rfl, Ints_isG _⟩ | exact ⟨_, rfl, Cs_isG _⟩ | exact ⟨_, rfl, by simp [zaY]⟩))
    case hg => simp [zbb, zaX, zaS])
 | (apply cl_plain
    case hs => rfl
    case ha => (simp only [zab, zac, prepV, prepC, idx, hpL', lookR, zaa, if_true, if_false]; rfl)
    case h => (first | exact h1 .. | exact h3 ..))
 | (apply cl_lend
    case hr => (simp only [zab, zac, hpL', lookR, zaa, if_true, if_false]; first | exact map1 _ | exact map2 _ _ | exact map3 _ _ _)
    case ha => (simp only [zab, zac, prepV, prepC, idx, hpL', lookR, zaa, if_true, if_false]; rfl)
    case hs => rfl
    case hn => decide
    case h => (first | exact h1 .. | exact h3 ..)
    case hf => (simp only [zad, zae, false_implies, implies_true, and_true, true_and, flat_cons, flat_nil, flat_ints, flat_bools, flat_app, Cs_flat, zaB, and_self, eq_self_iff_true, zah])
    case hl => (simp only [zay, zap]; decide))
 | (apply cl_show
    case ha => (simp only [zab, zac, prepV, prepC, idx, hpL', lookR, zaa, if_true, if_false]; rfl)
    case hs => ((simp [snaps, zaW, zaB, idx, hpL', lookR]) <;> (repeat' apply zag) <;> (first | exact Ints_isG _ | exact Cs_isG _))
    case h => (first | exact h1 .. | exact h3 ..)
    case hg => ((simp [zbb, zaX, zaS]) <;> (repeat' apply zag) <;> exact Ints_noG _))
 | ((first | refine s1_id ?_ | refine swp_id ?_ | refine sops_id ?_ | refine s2_id ?_); simp only [decide_eq_true hid, go_sem, zaa, zam, zan, zao, zaq, zaj, ↓reduceIte, reduceCtorEq, zaf, zai, zar, zas, zat, zaM, zaL, zaD, zaK, renO, bk, back, outUpsFrom, Ints_ren])
 | (intros; omega)
 | (intros; (try simp only [zaG, zaI, zaE, zaF, zaz, zaA, decide_eq_true_eq, decide_eq_false_iff_not] at *); omega))
    repeat' (first
 | exact fs_w trivial (svw_of cw_gnil)
 | exact fs_w trivial (svw_of (zag cw_gnil (zag (cw_rfl _) trivial)))
 | (refine fs_w ?h1 (svw_of ?h2); (case h1 => repeat' (first | exact trivial | exact rfl | exact zax rfl | apply zag)); (case h2 => repeat' (first | ((with_reducible refine (?_ : CW _ _)); first | exact cw_gnil | exact cw_rfl _ | exact cw_niln _ _ | exact cw_cap _ _ _ _) | exact trivial | (show _ ∧ SWL _ _; apply zag) | (show _ ∧ CWL _ _; apply zag) | show CW _ _)))
 | (refine fs_w ?h1 ?h2; (case h1 => repeat' (first | exact trivial | exact rfl | exact zax rfl | apply zag)); simp only [go_sem, resV, resS, zaM, zaL, zaD, zba, zaR, idx, renO, zaK, evS, slot, lookR, zaa, ↓reduceIte, reduceCtorEq, if_true, if_false, zav, zaw, zab, zac, sLoad, readAt, readNeed, Ints_ren, Ints_length, Ints_getD, and_true, true_and, zak, zal]; refine svw_of ?_; simp only [sw_tup, swl_cons, swl_nil, sw_one, sw_agg, cwl_cons, cwl_nil, cw_id, cw_nil0, cw_cap0, zap, and_true, true_and, and_self] <;> (try ((repeat' with_reducible apply zag) <;> (first | with_reducible trivial | exact cw_rfl _ | exact cw_gnil | exact cw_niln _ _ | exact cw_cap _ _ _ _ | (refine cw_eq ?_; congr; done)))))
 | (refine fs_w (by simp only [go_sem, resV, resS, zaM, zaL, zaD, zba, zaR, idx, renO, zaK, evS, slot, lookR, zaa, ↓reduceIte, reduceCtorEq, if_true, if_false, zav, zaw, zab, zac, sLoad, readAt, readNeed, Ints_ren, Ints_length, Ints_getD, and_true, true_and, zak, zal]; try trivial) ?_; simp only [go_sem, resV, resS, zaM, zaL, zaD, zba, zaR, idx, renO, zaK, evS, slot, lookR, zaa, ↓reduceIte, reduceCtorEq, if_true, if_false, zav, zaw, zab, zac, sLoad, readAt, readNeed, Ints_ren, Ints_length, Ints_getD, and_true, true_and, zak, zal]; refine svw_of ?_; simp only [sw_tup, swl_cons, swl_nil, sw_one, sw_agg, cwl_cons, cwl_nil, cw_id, cw_nil0, cw_cap0, zap, and_true, true_and, and_self] <;> (try ((repeat' with_reducible apply zag) <;> (first | with_reducible trivial | exact cw_rfl _ | exact cw_gnil | exact cw_niln _ _ | exact cw_cap _ _ _ _ | (refine cw_eq ?_; congr; done)))))
 | fail)
  rw [if_neg hid]
  have h4 := rkids_spec l k n id hl hnm
  generalize chM l n id = K at *
  by_cases hk : 0 < (K.length : Int)
  · rw [if_pos hk]
    refine fnspec_of mixed TT_ok TT_cl ⟨fun _ => false, fun _ => [], 0, fun _ => false, fun _ => false⟩ Try.func28 rfl (by kernel_rfl) rfl 59 rfl [.cell 4 25, .tmp 5] rfl ?_
    simp only [go_sem, zaa, zam, zan, zao, zaq, zaj, ↓reduceIte, reduceCtorEq, zaf, zai, zar, zas, zat, decide_eq_false hid, decide_eq_true hk]
    repeat' (first
 | with_reducible refine zag ?_ ?_
 | (unfold OKC; kernel_rfl)
 | (apply okc_up <;> (first | ((repeat (first | exact Sub.nil | apply Sub.gfp | apply Sub.same)); done) | kernel_rfl))
 | (unfold EDG; kernel_rfl)
 | (refine gt_if (fun h => ?_) (fun h => ?_) <;> (try simp only [h]))
 | (refine pt_if (fun h => ?_) (fun h => ?_) <;> (try simp only [h]))
 | (refine cd_if (fun h => ?_) (fun h => ?_) <;> (try simp only [h]))
 | (apply cg_tp
    case hl => rfl
    case ha => (simp only [zab, zac, prepV, prepC, idx, hpL', lookR, zaa, if_true, if_false]; rfl)
    case hs => rfl
    case h => (first | exact h1 .. | exact h3 .. | exact h4 ..))
 | (apply cg_ts
    case hl => rfl
    case ha => (simp only [zab, zac, prepV, prepC, idx, hpL', lookR, zaa, if_true, if_false]; rfl)
    case hs => (simp only [snaps_nil, zaH, zaJ, zaW, zaB, zaC, zau, zah]; rfl)
    case h => (first | exact h1 .. | exact h3 .. | exact h4 ..)
    case hf => ((simp only [zad, zae, false_implies, implies_true, and_true, hpL', lookR, zaa, if_true, if_false]) <;> (repeat' apply zag) <;> (first | exact ⟨_, rfl, Ints_isG _⟩ | exact ⟨_, rfl, Cs_isG _⟩ | exact ⟨_, rfl, by simp [zaY]⟩))
    case hg => simp [zbb, zaX, zaS])
 | (apply cg_any
    case hl => rfl
    case ha => (intro hb; simp only [zab, zac, cnd, hb, if_true, prepV, prepC, idx, hpL', lookR, zaa, if_false]; rfl)
    case hs => (intro hb; simp only [cnd, hb, if_true]; rfl)
    case h => (first | exact h1 .. | exact h3 .. | exact h4 ..))
 | (apply cg_show
    case hl => rfl
    case ha => (intro hb; simp only [zab, zac, cnd, hb, if_true, prepV, prepC, idx, hpL', lookR, zaa, if_false]; rfl)
    case hs => (intro hb; simp only [cnd, hb, if_true, snaps_nil, zaH, zaJ, zaW, zaB, zaC, zau, zah]; rfl)
    case h => (first | exact h1 .. | exact h3 .. | exact h4 ..)
    case hf => ((simp only [zad, zae, false_implies, implies_true, and_true, hpL', lookR, zaa, if_true, if_false]) <;> (repeat' apply zag) <;> (first | exact ⟨_, rfl, Ints_isG _⟩ | exact ⟨_, rfl, Cs_isG _⟩ | exact ⟨_, rfl, by simp [zaY]⟩))
    case hg => simp [zbb, zaX, zaS])
 | (apply cl_plain
    case hs => rfl
    case ha => (simp only [zab, zac, prepV, prepC, idx, hpL', lookR, zaa, if_true, if_false]; rfl)
    case h => (first | exact h1 .. | exact h3 .. | exact h4 ..))
 | (apply cl_lend
    case hr => (simp only [zab, zac, hpL', lookR, zaa, if_true, if_false]; first | exact map1 _ | exact map2 _ _ | exact map3 _ _ _)
    case ha => (simp only [zab, zac, prepV, prepC, idx, hpL', lookR, zaa, if_true, if_false]; rfl)
    case hs => rfl
    case hn => decide
    case h => (first | exact h1 .. | exact h3 .. | exact h4 ..)
    case hf => (simp only [zad, zae, false_implies, implies_true, and_true, true_and, flat_cons, flat_nil, flat_ints, flat_bools, flat_app, Cs_flat, zaB, and_self, eq_self_iff_true, zah])
    case hl => (simp only [zay, zap]; decide))
 | (apply cl_show
    case ha => (simp only [zab, zac, prepV, prepC, idx, hpL', lookR, zaa, if_true, if_false]; rfl)
    case hs => ((simp [snaps, zaW, zaB, idx, hpL', lookR]) <;> (repeat' apply zag) <;> (first | exact Ints_isG _ | exact Cs_isG _))
    case h => (first | exact h1 .. | exact h3 .. | exact h4 ..)
    case hg => ((simp [zbb, zaX, zaS]) <;> (repeat' apply zag) <;> exact Ints_noG _))
 | ((first | refine s1_id ?_ | refine swp_id ?_ | refine sops_id ?_ | refine s2_id ?_); simp only [decide_eq_false hid, decide_eq_true hk, go_sem, zaa, zam, zan, zao, zaq, zaj, ↓reduceIte, reduceCtorEq, zaf, zai, zar, zas, zat, zaM, zaL, zaD, zaK, renO, bk, back, outUpsFrom, Ints_ren])
 | (intros; omega)
 | (intros; (try simp only [zaG, zaI, zaE, zaF, zaz, zaA, decide_eq_true_eq, decide_eq_false_iff_not] at *); omega))
    repeat' (first
 | exact fs_w trivial (svw_of cw_gnil)
 | exact fs_w trivial (svw_of (zag cw_gnil (zag (cw_rfl _) trivial)))
 | (refine fs_w ?h1 (svw_of ?h2); (case h1 => repeat' (first | exact trivial | exact rfl | exact zax rfl | apply zag)); (case h2 => repeat' (first | ((with_reducible refine (?_ : CW _ _)); first | exact cw_gnil | exact cw_rfl _ | exact cw_niln _ _ | exact cw_cap _ _ _ _) | exact trivial | (show _ ∧ SWL _ _; apply zag) | (show _ ∧ CWL _ _; apply zag) | show CW _ _)))
 | (refine fs_w ?h1 ?h2; (case h1 => repeat' (first | exact trivial | exact rfl | exact zax rfl | apply zag)); simp only [go_sem, resV, resS, zaM, zaL, zaD, zba, zaR, idx, renO, zaK, evS, slot, lookR, zaa, ↓reduceIte, reduceCtorEq, if_true, if_false, zav, zaw, zab, zac, sLoad, readAt, readNeed, Ints_ren, Ints_length, Ints_getD, and_true, true_and, zak, zal]; refine svw_of ?_; simp only [sw_tup, swl_cons, swl_nil, sw_one, sw_agg, cwl_cons, cwl_nil, cw_id, cw_nil0, cw_cap0, zap, and_true, true_and, and_self] <;> (try ((repeat' with_reducible apply zag) <;> (first | with_reducible trivial | exact cw_rfl _ | exact cw_gnil | exact cw_niln _ _ | exact cw_cap _ _ _ _ | (refine cw_eq ?_; congr; done)))))
 | (refine fs_w (by simp only [go_sem, resV, resS, zaM, zaL, zaD, zba, zaR, idx, renO, zaK, evS, slot, lookR, zaa, ↓reduceIte, reduceCtorEq, if_true, if_false, zav, zaw, zab, zac, sLoad, readAt, readNeed, Ints_ren, Ints_length, Ints_getD, and_true, true_and, zak, zal]; try trivial) ?_; simp only [go_sem, resV, resS, zaM, zaL, zaD, zba, zaR, idx, renO, zaK, evS, slot, lookR, zaa, ↓reduceIte, reduceCtorEq, if_true, if_false, zav, zaw, zab, zac, sLoad, readAt, readNeed, Ints_ren, Ints_length, Ints_getD, and_true, true_and, zak, zal]; refine svw_of ?_; simp only [sw_tup, swl_cons, swl_nil, sw_one, sw_agg, cwl_cons, cwl_nil, cw_id, cw_nil0, cw_cap0, zap, and_true, true_and, and_self] <;> (try ((repeat' with_reducible apply zag) <;> (first | with_reducible trivial | exact cw_rfl _ | exact cw_gnil | exact cw_niln _ _ | exact cw_cap _ _ _ _ | (refine cw_eq ?_; congr; done)))))
 | fail)
  rw [if_neg hk]
  refine fnspec_of mixed TT_ok TT_cl ⟨fun _ => false, fun _ => [], 0, fun _ => false, fun _ => false⟩ Try.func28 rfl (by kernel_rfl) rfl 59 rfl [.cell 4 25, .tmp 5] rfl ?_
  simp only [go_sem, zaa, zam, zan, zao, zaq, zaj, ↓reduceIte, reduceCtorEq, zaf, zai, zar, zas, zat, decide_eq_false hid, decide_eq_false hk]
  repeat' (first
 | with_reducible refine zag ?_ ?_
 | (unfold OKC; kernel_rfl)
 | (apply okc_up <;> (first | ((repeat (first | exact Sub.nil | apply Sub.gfp | apply Sub.same)); done) | kernel_rfl))
 | (unfold EDG; kernel_rfl)
 | (refine gt_if (fun h => ?_) (fun h => ?_) <;> (try simp only [h]))
 | (refine pt_if (fun h => ?_) (fun h => ?_) <;> (try simp only [h]))
 | (refine cd_if (fun h => ?_) (fun h => ?_) <;> (try simp only [h]))
 | (apply cg_tp
    case hl => rfl
    case ha => (simp only [zab, zac, prepV, prepC, idx, hpL', lookR, zaa, if_true, if_false]; rfl)
    case hs => rfl
    case h => (first | exact h1 .. | exact h3 .. | exact h4 ..))
 | (apply cg_ts
    case hl => rfl
    case ha => (simp only [zab, zac, prepV, prepC, idx, hpL', lookR, zaa, if_true, if_false]; rfl)
    case hs => (simp only [snaps_nil, zaH, zaJ, zaW, zaB, zaC, zau, zah]; rfl)
    case h => (first | exact h1 .. | exact h3 .. | exact h4 ..)
    case hf => ((simp only [zad, zae, false_implies, implies_true, and_true, hpL', lookR, zaa, if_true, if_false]) <;> (repeat' apply zag) <;> (first | exact ⟨_, rfl, Ints_isG _⟩ | exact ⟨_, rfl, Cs_isG _⟩ | exact ⟨_, rfl, by simp [zaY]⟩))
    case hg => simp [zbb, zaX, zaS])
 | (apply cg_any
    case hl => rfl
    case ha => (intro hb; simp only [zab, zac, cnd, hb, if_true, prepV, prepC, idx, hpL', lookR, zaa, if_false]; rfl)
    case hs => (intro hb; simp only [cnd, hb, if_true]; rfl)
    case h => (first | exact h1 .. | exact h3 .. | exact h4 ..))
 | (apply cg_show
    case hl => rfl
    case ha => (intro hb; simp only [zab, zac, cnd, hb, if_true, prepV, prepC, idx, hpL', lookR, zaa, if_false]; rfl)
    case hs => (intro hb; simp only [cnd, hb, if_true, snaps_nil, zaH, zaJ, zaW, zaB, zaC, zau, zah]; rfl)
    case h => (first | exact h1 .. | exact h3 .. | exact h4 ..)
    case hf => ((simp only [zad, zae, false_implies, implies_true, and_true, hpL', lookR, zaa, if_true, if_false]) <;> (repeat' apply zag) <;> (first | exact ⟨_, rfl, Ints_isG _⟩ | exact ⟨_, rfl, Cs_isG _⟩ | exact ⟨_, rfl, by simp [zaY]⟩))
    case hg => simp [zbb, zaX, zaS])
 | (apply cl_plain
    case hs => rfl
    case ha => (simp only [zab, zac, prepV, prepC, idx, hpL', lookR, zaa, if_true, if_false]; rfl)
    case h => (first | exact h1 .. | exact h3 .. | exact h4 ..))
 | (apply cl_lend
    case hr => (simp only [zab, zac, hpL', lookR, zaa, if_true, if_false]; first | exact map1 _ | exact map2 _ _ | exact map3 _ _ _)
    case ha => (simp only [zab, zac, prepV, prepC, idx, hpL', lookR, zaa, if_true, if_false]; rfl)
    case hs => rfl
    case hn => decide
    case h => (first | exact h1 .. | exact h3 .. | exact h4 ..)
    case hf => (simp only [zad, zae, false_implies, implies_true, and_true, true_and, flat_cons, flat_nil, flat_ints, flat_bools, flat_app, Cs_flat, zaB, and_self, eq_self_iff_true, zah])
    case hl => (simp only [zay, zap]; decide))
 | (apply cl_show
    case ha => (simp only [zab, zac, prepV, prepC, idx, hpL', lookR, zaa, if_true, if_false]; rfl)
    case hs => ((simp [snaps, zaW, zaB, idx, hpL', lookR]) <;> (repeat' apply zag) <;> (first | exact Ints_isG _ | exact Cs_isG _))
    case h => (first | exact h1 .. | exact h3 .. | exact h4 ..)
    case hg => ((simp [zbb, zaX, zaS]) <;> (repeat' apply zag) <;> exact Ints_noG _))
 | ((first | refine s1_id ?_ | refine swp_id ?_ | refine sops_id ?_ | refine s2_id ?_); simp only [decide_eq_false hid, decide_eq_false hk, go_sem, zaa, zam, zan, zao, zaq, zaj, ↓reduceIte, reduceCtorEq, zaf, zai, zar, zas, zat, zaM, zaL, zaD, zaK, renO, bk, back, outUpsFrom, Ints_ren])
 | (intros; omega)
 | (intros; (try simp only [zaG, zaI, zaE, zaF, zaz, zaA, decide_eq_true_eq, decide_eq_false_iff_not] at *); omega))
  refine w_loop (ι := Nat) (fun m => ⟨[(1, i1 id), (2, .one (.optr 0 0)), (4, .one (.optr 1 0)), (6, .one (.optr 2 0)), (7, i1 m)], [(0, some ⟨[.gsl (Cs l) 0 l.length k, int n], 2⟩), (1, some ⟨[.sc (.slice none 0 0), int 0], 2⟩), (2, some ⟨[.osl 3 0 (rmN (l.take m) id).length none, int n], 2⟩), (3, some ⟨Cs (rmN (l.take m) id), 6⟩)], 4⟩) (fun m => m ≤ l.length) (fun m => l.length - m) 0 ?_ (zbh _) ?_
  · (refine Imp.trans (imp_nilC _ _ 24 0 6 99 (by simp only []; omega) (by simp only [zaR, lookR, zaa, if_true, if_false, ↓reduceIte]; rfl) rfl) ?_)
    (refine imp_sub _ _ _ [(0, 0), (1, 1), (2, 24), (3, 99)] (by simp) (by simp) (by simp) (zax rfl) ?_ (by simp only [zab, zac, zaR, lookR, renO, zaK, zaD, toN, Ints_ren, Bools_ren, zaa, if_true, if_false, ↓reduceIte, Cs_ren, Cs_flat, zaO] <;> (try rfl)) (by simp only [zad, zae, false_implies, implies_true, and_true, zaR, lookR, zaa, if_true, if_false, ↓reduceIte, Option.some.injEq, forall_eq'] <;> ((repeat' with_reducible apply zag) <;> (first | with_reducible trivial | exact fun c hc q hq => absurd hq (Ints_refs0 _ _ c hc) | exact fun c hc q hq => absurd hq (by rw [Cs_flat _ c hc]; exact zae) | (simp [zaB, toN]; done)))); simp only [zab, zac, zad, zae, false_implies, implies_true, and_true, lk, slot, zaM, zaD, toN, zaa, if_true, if_false, ↓reduceIte, reduceCtorEq])
    all_goals ((repeat' apply zag) <;> (first | rfl | trivial))
  clear h1 h3 h4
  intro m hm
  simp only at hm ⊢
  rcases Nat.lt_or_ge m l.length with hlt | hge
  case inr =>
    have c : ¬ (m : Int) < (l.length : Int) := by omega
    rw [zbd hge]
    simp only [go_sem, zaa, zam, zan, zao, zaq, zaj, ↓reduceIte, reduceCtorEq, zaf, zai, zar, zas, zat, decide_eq_false c]
    repeat' (first
 | with_reducible refine zag ?_ ?_
 | (unfold OKC; kernel_rfl)
 | (apply okc_up <;> (first | ((repeat (first | exact Sub.nil | apply Sub.gfp | apply Sub.same)); done) | kernel_rfl))
 | (unfold EDG; kernel_rfl)
 | (refine gt_if (fun h => ?_) (fun h => ?_) <;> (try simp only [h]))
 | (refine pt_if (fun h => ?_) (fun h => ?_) <;> (try simp only [h]))
 | (refine cd_if (fun h => ?_) (fun h => ?_) <;> (try simp only [h]))
 | (apply cg_tp
    case hl => rfl
    case ha => (simp only [zab, zac, prepV, prepC, idx, hpL', lookR, zaa, if_true, if_false]; rfl)
    case hs => rfl
    case h => (first | fail))
 | (apply cg_ts
    case hl => rfl
    case ha => (simp only [zab, zac, prepV, prepC, idx, hpL', lookR, zaa, if_true, if_false]; rfl)
    case hs => (simp only [snaps_nil, zaH, zaJ, zaW, zaB, zaC, zau, zah]; rfl)
    case h => (first | fail)
    case hf => ((simp only [zad, zae, false_implies, implies_true, and_true, hpL', lookR, zaa, if_true, if_false]) <;> (repeat' apply zag) <;> (first | exact ⟨_, rfl, Ints_isG _⟩ | exact ⟨_, rfl, Cs_isG _⟩ | exact ⟨_, rfl, by simp [zaY]⟩))
    case hg => simp [zbb, zaX, zaS])
 | (apply cg_any
    case hl => rfl
    case ha => (intro hb; simp only [zab, zac, cnd, hb, if_true, prepV, prepC, idx, hpL', lookR, zaa, if_false]; rfl)
    case hs => (intro hb; simp only [cnd, hb, if_true]; rfl)
    case h => (first | fail))
 | (apply cg_show
    case hl => rfl
    case ha => (intro hb; simp only [zab, zac, cnd, hb, if_true, prepV, prepC, idx, hpL', lookR, zaa, if_false]; rfl)
    case hs => (intro hb; simp only [cnd, hb, if_true, snaps_nil, zaH, zaJ, zaW, zaB, zaC, zau, zah]; rfl)
    case h => (first | fail)
    case hf => ((simp only [zad, zae, false_implies, implies_true, and_true, hpL', lookR, zaa, if_true, if_false]) <;> (repeat' apply zag) <;> (first | exact ⟨_, rfl, Ints_isG _⟩ | exact ⟨_, rfl, Cs_isG _⟩ | exact ⟨_, rfl, by simp [zaY]⟩))
    case hg => simp [zbb, zaX, zaS])
 | (apply cl_plain
    case hs => rfl
    case ha => (simp only [zab, zac, prepV, prepC, idx, hpL', lookR, zaa, if_true, if_false]; rfl)
    case h => (first | fail))
 | (apply cl_lend
    case hr => (simp only [zab, zac, hpL', lookR, zaa, if_true, if_false]; first | exact map1 _ | exact map2 _ _ | exact map3 _ _ _)
    case ha => (simp only [zab, zac, prepV, prepC, idx, hpL', lookR, zaa, if_true, if_false]; rfl)
    case hs => rfl
    case hn => decide
    case h => (first | fail)
    case hf => (simp only [zad, zae, false_implies, implies_true, and_true, true_and, flat_cons, flat_nil, flat_ints, flat_bools, flat_app, Cs_flat, zaB, and_self, eq_self_iff_true, zah])
    case hl => (simp only [zay, zap]; decide))
 | (apply cl_show
    case ha => (simp only [zab, zac, prepV, prepC, idx, hpL', lookR, zaa, if_true, if_false]; rfl)
    case hs => ((simp [snaps, zaW, zaB, idx, hpL', lookR]) <;> (repeat' apply zag) <;> (first | exact Ints_isG _ | exact Cs_isG _))
    case h => (first | fail)
    case hg => ((simp [zbb, zaX, zaS]) <;> (repeat' apply zag) <;> exact Ints_noG _))
 | ((first | refine s1_id ?_ | refine swp_id ?_ | refine sops_id ?_ | refine s2_id ?_); simp only [decide_eq_false c, go_sem, zaa, zam, zan, zao, zaq, zaj, ↓reduceIte, reduceCtorEq, zaf, zai, zar, zas, zat, zaM, zaL, zaD, zaK, renO, bk, back, outUpsFrom, Ints_ren])
 | (intros; omega)
 | (intros; (try simp only [zaG, zaI, zaE, zaF, zaz, zaA, decide_eq_true_eq, decide_eq_false_iff_not] at *); omega))
    (refine fs_frz 3 ⟨Cs (rmN l id), 6⟩ (by simp only [zaR, lookR, zaa, if_true, if_false, ↓reduceIte]) (by first | exact Ints_isG _ | exact Bools_isG _ | exact Cs_isG _ | (simp [zaY]; done)) ?_; simp only [frzTm, SV.frz, SV.frzL, Cell.frz, frzHp, frzO, Ints_frz, Bools_frz, zab, zac, zaa, if_true, if_false, ↓reduceIte])
    apply fs_nil <;> (try simp only [go_sem, resV, resS, zaM, zaL, zaD, zba, zaR, idx, renO, zaK, evS, slot, lookR, zaa, ↓reduceIte, reduceCtorEq, if_true, if_false, zav, zaw, zab, zac, sLoad, readAt, readNeed, Ints_ren, Ints_length, Ints_getD, and_true, true_and, zak, zal]) <;> (first | rfl | decide | skip)
  have c : (m : Int) < (l.length : Int) := by omega
  obtain ⟨g1, _⟩ := nd_f l m hlt (.sc (.int .i64 0))
  have hN := nd_td l m hlt
  have ht := rmN_take l m hlt id
  have htl := rmN_len (l.take m) id
  rw [List.length_take] at htl
  generalize rmN (l.take m) id = K2 at *
  by_cases hi : (gN l m).i = id
  · rw [if_pos hi, zah] at ht
    simp only [go_sem, zaa, zam, zan, zao, zaq, zaj, ↓reduceIte, reduceCtorEq, zaf, zai, zar, zas, zat, decide_eq_true c, g1, decide_eq_true hi]
    repeat' (first
 | with_reducible refine zag ?_ ?_
 | (unfold OKC; kernel_rfl)
 | (apply okc_up <;> (first | ((repeat (first | exact Sub.nil | apply Sub.gfp | apply Sub.same)); done) | kernel_rfl))
 | (unfold EDG; kernel_rfl)
 | (refine gt_if (fun h => ?_) (fun h => ?_) <;> (try simp only [h]))
 | (refine pt_if (fun h => ?_) (fun h => ?_) <;> (try simp only [h]))
 | (refine cd_if (fun h => ?_) (fun h => ?_) <;> (try simp only [h]))
 | (apply cg_tp
    case hl => rfl
    case ha => (simp only [zab, zac, prepV, prepC, idx, hpL', lookR, zaa, if_true, if_false]; rfl)
    case hs => rfl
    case h => (first | fail))
 | (apply cg_ts
    case hl => rfl
    case ha => (simp only [zab, zac, prepV, prepC, idx, hpL', lookR, zaa, if_true, if_false]; rfl)
    case hs => (simp only [snaps_nil, zaH, zaJ, zaW, zaB, zaC, zau, zah]; rfl)
    case h => (first | fail)
    case hf => ((simp only [zad, zae, false_implies, implies_true, and_true, hpL', lookR, zaa, if_true, if_false]) <;> (repeat' apply zag) <;> (first | exact ⟨_, rfl, Ints_isG _⟩ | exact ⟨_, rfl, Cs_isG _⟩ | exact ⟨_, rfl, by simp [zaY]⟩))
    case hg => simp [zbb, zaX, zaS])
 | (apply cg_any
    case hl => rfl
    case ha => (intro hb; simp only [zab, zac, cnd, hb, if_true, prepV, prepC, idx, hpL', lookR, zaa, if_false]; rfl)
    case hs => (intro hb; simp only [cnd, hb, if_true]; rfl)
    case h => (first | fail))
 | (apply cg_show
    case hl => rfl
    case ha => (intro hb; simp only [zab, zac, cnd, hb, if_true, prepV, prepC, idx, hpL', lookR, zaa, if_false]; rfl)
    case hs => (intro hb; simp only [cnd, hb, if_true, snaps_nil, zaH, zaJ, zaW, zaB, zaC, zau, zah]; rfl)
    case h => (first | fail)
    case hf => ((simp only [zad, zae, false_implies, implies_true, and_true, hpL', lookR, zaa, if_true, if_false]) <;> (repeat' apply zag) <;> (first | exact ⟨_, rfl, Ints_isG _⟩ | exact ⟨_, rfl, Cs_isG _⟩ | exact ⟨_, rfl, by simp [zaY]⟩))
    case hg => simp [zbb, zaX, zaS])
 | (apply cl_plain
    case hs => rfl
    case ha => (simp only [zab, zac, prepV, prepC, idx, hpL', lookR, zaa, if_true, if_false]; rfl)
    case h => (first | fail))
 | (apply cl_lend
    case hr => (simp only [zab, zac, hpL', lookR, zaa, if_true, if_false]; first | exact map1 _ | exact map2 _ _ | exact map3 _ _ _)
    case ha => (simp only [zab, zac, prepV, prepC, idx, hpL', lookR, zaa, if_true, if_false]; rfl)
    case hs => rfl
    case hn => decide
    case h => (first | fail)
    case hf => (simp only [zad, zae, false_implies, implies_true, and_true, true_and, flat_cons, flat_nil, flat_ints, flat_bools, flat_app, Cs_flat, zaB, and_self, eq_self_iff_true, zah])
    case hl => (simp only [zay, zap]; decide))
 | (apply cl_show
    case ha => (simp only [zab, zac, prepV, prepC, idx, hpL', lookR, zaa, if_true, if_false]; rfl)
    case hs => ((simp [snaps, zaW, zaB, idx, hpL', lookR]) <;> (repeat' apply zag) <;> (first | exact Ints_isG _ | exact Cs_isG _))
    case h => (first | fail)
    case hg => ((simp [zbb, zaX, zaS]) <;> (repeat' apply zag) <;> exact Ints_noG _))
 | ((first | refine s1_id ?_ | refine swp_id ?_ | refine sops_id ?_ | refine s2_id ?_); simp only [decide_eq_true c, g1, decide_eq_true hi, go_sem, zaa, zam, zan, zao, zaq, zaj, ↓reduceIte, reduceCtorEq, zaf, zai, zar, zas, zat, zaM, zaL, zaD, zaK, renO, bk, back, outUpsFrom, Ints_ren])
 | (intros; omega)
 | (intros; (try simp only [zaG, zaI, zaE, zaF, zaz, zaA, decide_eq_true_eq, decide_eq_false_iff_not] at *); omega))
    refine le_mk (m + 1) ?_ hlt (by omega)
    simp only [ht]
    (refine imp_sub _ _ _ [(0, 0), (1, 1), (2, 2), (3, 3)] (by simp) (by simp) (by simp) (zax rfl) ?_ (by simp only [zab, zac, zaR, lookR, renO, zaK, zaD, toN, Ints_ren, Bools_ren, zaa, if_true, if_false, ↓reduceIte, Cs_ren, Cs_flat] <;> (try rfl)) (by simp only [zad, zae, false_implies, implies_true, and_true, zaR, lookR, zaa, if_true, if_false, ↓reduceIte, Option.some.injEq, forall_eq'] <;> ((repeat' with_reducible apply zag) <;> (first | with_reducible trivial | exact fun c hc q hq => absurd hq (Ints_refs0 _ _ c hc) | exact fun c hc q hq => absurd hq (by rw [Cs_flat _ c hc]; exact zae) | (simp [zaB, toN]; done)))); simp only [zab, zac, zad, zae, false_implies, implies_true, and_true, lk, slot, zaM, zaD, toN, zaa, if_true, if_false, ↓reduceIte, reduceCtorEq])
    all_goals ((repeat' apply zag) <;> (first | rfl | trivial | (simp only [zbc]; done) | (simp only [zbc]; rfl) | (simp only [zbc]; trivial)))
  · rw [if_neg hi] at ht
    have hca : List.take (K2.length * 6) (Cs K2) = Cs K2 := Cs_all K2 _ (zbf _)
    have hck : (Cs K2).length = K2.length * 6 := Cs_len K2
    have hla : (K2 ++ [gN l m]).length = K2.length + 1 := by simp
    have hpp : Cs K2 ++ ndc (gN l m) = Cs (K2 ++ [gN l m]) := Cs_snoc K2 _
    simp only [ndc] at hN hpp
    simp only [go_sem, zaa, zam, zan, zao, zaq, zaj, ↓reduceIte, reduceCtorEq, zaf, zai, zar, zas, zat, decide_eq_true c, g1, decide_eq_false hi, hN]
    repeat' (first
 | with_reducible refine zag ?_ ?_
 | (unfold OKC; kernel_rfl)
 | (apply okc_up <;> (first | ((repeat (first | exact Sub.nil | apply Sub.gfp | apply Sub.same)); done) | kernel_rfl))
 | (unfold EDG; kernel_rfl)
 | (refine gt_if (fun h => ?_) (fun h => ?_) <;> (try simp only [h]))
 | (refine pt_if (fun h => ?_) (fun h => ?_) <;> (try simp only [h]))
 | (refine cd_if (fun h => ?_) (fun h => ?_) <;> (try simp only [h]))
 | (apply cg_tp
    case hl => rfl
    case ha => (simp only [zab, zac, prepV, prepC, idx, hpL', lookR, zaa, if_true, if_false]; rfl)
    case hs => rfl
    case h => (first | fail))
 | (apply cg_ts
    case hl => rfl
    case ha => (simp only [zab, zac, prepV, prepC, idx, hpL', lookR, zaa, if_true, if_false]; rfl)
    case hs => (simp only [snaps_nil, zaH, zaJ, zaW, zaB, zaC, zau, zah]; rfl)
    case h => (first | fail)
    case hf => ((simp only [zad, zae, false_implies, implies_true, and_true, hpL', lookR, zaa, if_true, if_false]) <;> (repeat' apply zag) <;> (first | exact ⟨_, rfl, Ints_isG _⟩ | exact ⟨_, rfl, Cs_isG _⟩ | exact ⟨_, rfl, by simp [zaY]⟩))
    case hg => simp [zbb, zaX, zaS])
 | (apply cg_any
    case hl => rfl
    case ha => (intro hb; simp only [zab, zac, cnd, hb, if_true, prepV, prepC, idx, hpL', lookR, zaa, if_false]; rfl)
    case hs => (intro hb; simp only [cnd, hb, if_true]; rfl)
    case h => (first | fail))
 | (apply cg_show
    case hl => rfl
    case ha => (intro hb; simp only [zab, zac, cnd, hb, if_true, prepV, prepC, idx, hpL', lookR, zaa, if_false]; rfl)
    case hs => (intro hb; simp only [cnd, hb, if_true, snaps_nil, zaH, zaJ, zaW, zaB, zaC, zau, zah]; rfl)
    case h => (first | fail)
    case hf => ((simp only [zad, zae, false_implies, implies_true, and_true, hpL', lookR, zaa, if_true, if_false]) <;> (repeat' apply zag) <;> (first | exact ⟨_, rfl, Ints_isG _⟩ | exact ⟨_, rfl, Cs_isG _⟩ | exact ⟨_, rfl, by simp [zaY]⟩))
    case hg => simp [zbb, zaX, zaS])
 | (apply cl_plain
    case hs => rfl
    case ha => (simp only [zab, zac, prepV, prepC, idx, hpL', lookR, zaa, if_true, if_false]; rfl)
    case h => (first | fail))
 | (apply cl_lend
    case hr => (simp only [zab, zac, hpL', lookR, zaa, if_true, if_false]; first | exact map1 _ | exact map2 _ _ | exact map3 _ _ _)
    case ha => (simp only [zab, zac, prepV, prepC, idx, hpL', lookR, zaa, if_true, if_false]; rfl)
    case hs => rfl
    case hn => decide
    case h => (first | fail)
    case hf => (simp only [zad, zae, false_implies, implies_true, and_true, true_and, flat_cons, flat_nil, flat_ints, flat_bools, flat_app, Cs_flat, zaB, and_self, eq_self_iff_true, zah])
    case hl => (simp only [zay, zap]; decide))
 | (apply cl_show
    case ha => (simp only [zab, zac, prepV, prepC, idx, hpL', lookR, zaa, if_true, if_false]; rfl)
    case hs => ((simp [snaps, zaW, zaB, idx, hpL', lookR]) <;> (repeat' apply zag) <;> (first | exact Ints_isG _ | exact Cs_isG _))
    case h => (first | fail)
    case hg => ((simp [zbb, zaX, zaS]) <;> (repeat' apply zag) <;> exact Ints_noG _))
 | ((first | refine s1_id ?_ | refine swp_id ?_ | refine sops_id ?_ | refine s2_id ?_); simp only [decide_eq_true c, g1, decide_eq_false hi, hN, hca, hpp, zaQ, zaT, zah, zau, zaC, zaO, zaP, zaN, zaV, zaZ, zay, zap, go_sem, zaa, zam, zan, zao, zaq, zaj, ↓reduceIte, reduceCtorEq, zaf, zai, zar, zas, zat, zaM, zaL, zaD, zaK, renO, bk, back, outUpsFrom, Ints_ren])
 | (intros; omega)
 | (intros; (try simp only [zaG, zaI, zaE, zaF, zaz, zaA, decide_eq_true_eq, decide_eq_false_iff_not] at *); omega))
    all_goals try (exact zbf _)
    all_goals try (rw [hck]; exact zbf _)
    all_goals try (show List.length _ = 6; rfl)
    refine le_mk (m + 1) ?_ hlt (by omega)
    simp only [ht, hla, hca, zaQ, zaT, zah, zau, zaC, zaO, zaP, zaN, zaV, zaZ, zay, zap]
    simp only [hpp]
    (refine imp_sub _ _ _ [(0, 0), (1, 1), (2, 2), (3, 25)] (by simp) (by simp) (by simp) (zax rfl) ?_ (by simp only [zab, zac, zaR, lookR, renO, zaK, zaD, toN, Ints_ren, Bools_ren, zaa, if_true, if_false, ↓reduceIte, Cs_ren, Cs_flat] <;> (try rfl)) (by simp only [zad, zae, false_implies, implies_true, and_true, zaR, lookR, zaa, if_true, if_false, ↓reduceIte, Option.some.injEq, forall_eq'] <;> ((repeat' with_reducible apply zag) <;> (first | with_reducible trivial | exact fun c hc q hq => absurd hq (Ints_refs0 _ _ c hc) | exact fun c hc q hq => absurd hq (by rw [Cs_flat _ c hc]; exact zae) | (simp [zaB, toN]; done)))); simp only [zab, zac, zad, zae, false_implies, implies_true, and_true, lk, slot, zaM, zaD, toN, zaa, if_true, if_false, ↓reduceIte, reduceCtorEq])
    all_goals ((repeat' apply zag) <;> (first | rfl | trivial | (simp only [zbc]; done) | (simp only [zbc]; rfl) | (simp only [zbc]; trivial)))
end Go.Proofs.Ytlajelbiniakpaa
namespace Go.Proofs.Ytlajelbiniakpaa
set_option linter.unusedVariables false
set_option linter.unusedSimpArgs false
open Go.Proofs.Ytlajelbiniakpaa.Sh
abbrev dice (l : List Int) (i : Nat) : Row := ⟨[.gsl (Ints l) 0 l.length none, int i], 2⟩
abbrev dp : SV := .one (.optr 0 0)
def nxS (l : List Int) (i : Nat) (n : Int) : Bool := decide ((l.length : Int) ≤ i) || decide (n < 1)
def nxV (l : List Int) (i : Nat) (n : Int) : Int := if nxS l i n = true then 0 else l.getD i 0 % n
def nxA (l : List Int) (i : Nat) (n : Int) : Nat := if nxS l i n = true then i else i + 1
theorem roll_spec (l : List Int) : FnSpec Try.prog 9 [gi l none] [] dp [some (dice l 0)] := by
  refine fnspec_of mixed TT_ok TT_cl ⟨fun _ => false, fun _ => [], 0, fun _ => false, fun _ => false⟩ Try.func9 rfl (by kernel_rfl) rfl 6 rfl [.tmp 2] rfl ?_
  simp only [go_sem, zaa, zam, zan, zao, zaq, zaj, ↓reduceIte, reduceCtorEq, zaf, zai, zar, zas, zat]
  repeat' (first
 | fail)
  all_goals (refine fs_flat [(3, dice l 0)] (by simp) (by simp only [zab, zac]; decide) (by simp only [go_sem, resV, resS, zaM, zaL, zaD, zba, zaR, idx, renO, zaK, evS, slot, lookR, zaa, ↓reduceIte, reduceCtorEq, if_true, if_false, zav, zaw, zab, zac, sLoad, readAt, readNeed, Ints_ren, Ints_length, Ints_getD, and_true, true_and, zak, zal]; try decide) ?_ (by simp only [zad, zae, false_implies, implies_true, and_true, zaR, lookR, zaa, if_true, if_false, ↓reduceIte] <;> (repeat' apply zag) <;> (first | rfl | trivial)) (by simp only [zad, zae, false_implies, implies_true, and_true, true_and, flat_cons, flat_nil, flat_ints, flat_bools, flat_app, zaB, and_self, eq_self_iff_true, zah]) ?_ <;> (try simp only [go_sem, resV, resS, zaM, zaL, zaD, zba, zaR, idx, renO, zaK, evS, slot, lookR, zaa, ↓reduceIte, reduceCtorEq, if_true, if_false, zav, zaw, zab, zac, sLoad, readAt, readNeed, Ints_ren, Ints_length, Ints_getD, and_true, true_and, zak, zal]) <;> (try rfl))
theorem light_spec (l : List Int) (c : Option Nat) : FnSpec Try.prog 7 [gi l c] [] (b1 (decide ((l.length : Int) ≤ 600))) [] := by
  refine fnspec_of mixed TT_ok TT_cl ⟨fun _ => false, fun _ => [], 0, fun _ => false, fun _ => false⟩ Try.func7 rfl (by kernel_rfl) rfl 6 rfl [.tmp 2] rfl ?_
  simp only [go_sem, zaa, zam, zan, zao, zaq, zaj, ↓reduceIte, reduceCtorEq, zaf, zai, zar, zas, zat]
  repeat' (first
 | exact fs_nil trivial rfl
 | fail)
theorem tmod_emod (x n : Int) (h : 0 < n) : (if x.tmod n < 0 then x.tmod n + n else x.tmod n) = x % n := by
  have h1 := Int.emod_nonneg x (show n ≠ 0 by omega)
  have h2 := Int.emod_lt_of_pos x h
  rw [Int.tmod_eq_emod]
  split <;> split <;> omega
theorem next_spec (l : List Int) (i : Nat) (n : Int) (hl : l.length ≤ 600) (hr : ∀ x ∈ l, -9223372036854775808 ≤ x ∧ x ≤ 9223372036854775807) (hn : n ≤ 9223372036854775807) : FnSpec Try.prog 12 [dp, i1 n] [dice l i] (i1 (nxV l i n)) [some (dice l (nxA l i n))] := by
  refine fnspec_of mixed TT_ok TT_cl ⟨fun _ => false, fun _ => [], 1, fun _ => false, fun _ => false⟩ Try.func12 rfl (by kernel_rfl) rfl 46 rfl [.tmp 4] rfl ?_
  simp only [go_sem, zaa, zam, zan, zao, zaq, zaj, ↓reduceIte, reduceCtorEq, zaf, zai, zar, zas, zat]
  repeat' (first
 | with_reducible refine zag ?_ ?_
 | (unfold OKC; kernel_rfl)
 | (unfold EDG; kernel_rfl)
 | (refine gt_if (fun h => ?_) (fun h => ?_) <;> (first | (simp only [h, go_sem, zaa, zam, zan, zao, zaq, zaj, ↓reduceIte, reduceCtorEq, zaf, zai, zar, zas, zat]; done) | simp only [h, go_sem, zaa, zam, zan, zao, zaq, zaj, ↓reduceIte, reduceCtorEq, zaf, zai, zar, zas, zat] | skip))
 | (intros; omega)
 | (intros; (try simp only [zaG, zaI, zaE, zaF, zaz, zaA, decide_eq_true_eq, decide_eq_false_iff_not] at *); omega)
 | fail)
  · (refine fs_flat [(0, dice l i)] (by simp) (by simp only [zab, zac]; decide) (by simp only [go_sem, resV, resS, zaM, zaL, zaD, zba, zaR, idx, renO, zaK, evS, slot, lookR, zaa, ↓reduceIte, reduceCtorEq, if_true, if_false, zav, zaw, zab, zac, sLoad, readAt, readNeed, Ints_ren, Ints_length, Ints_getD, and_true, true_and, zak, zal]; try decide) ?_ (by simp only [zad, zae, false_implies, implies_true, and_true, zaR, lookR, zaa, if_true, if_false, ↓reduceIte] <;> (repeat' apply zag) <;> (first | rfl | trivial)) (by simp only [zad, zae, false_implies, implies_true, and_true, true_and, flat_cons, flat_nil, flat_ints, flat_bools, flat_app, zaB, and_self, eq_self_iff_true, zah]) ?_ <;> (try simp only [go_sem, resV, resS, zaM, zaL, zaD, zba, zaR, idx, renO, zaK, evS, slot, lookR, zaa, ↓reduceIte, reduceCtorEq, if_true, if_false, zav, zaw, zab, zac, sLoad, readAt, readNeed, Ints_ren, Ints_length, Ints_getD, and_true, true_and, zak, zal]) <;> (try rfl))
    · simp only [nxV, nxS, h, if_true]
    · simp only [nxA, nxS, h, if_true]
  all_goals
    rename_i h0
    have h1 : nxS l i n = false := h0
    simp only [zaA, decide_eq_false_iff_not] at h0
    have e := tmod_emod (l.getD i 0) n (by omega)
    have b1 := Int.tmod_lt_of_pos (l.getD i 0) (b := n) (by omega)
    have b2 := Int.lt_tmod_of_pos (l.getD i 0) (b := n) (by omega)
    simp only [decide_eq_true_eq, decide_eq_false_iff_not] at h
    first
    | omega
    | rw [if_pos h] at e
      (refine fs_flat [(0, dice l (i + 1))] (by simp) (by simp only [zab, zac]; decide) (by simp only [go_sem, resV, resS, zaM, zaL, zaD, zba, zaR, idx, renO, zaK, evS, slot, lookR, zaa, ↓reduceIte, reduceCtorEq, if_true, if_false, zav, zaw, zab, zac, sLoad, readAt, readNeed, Ints_ren, Ints_length, Ints_getD, and_true, true_and, zak, zal]; try decide) ?_ (by simp only [zad, zae, false_implies, implies_true, and_true, zaR, lookR, zaa, if_true, if_false, ↓reduceIte] <;> (repeat' apply zag) <;> (first | rfl | trivial)) (by simp only [zad, zae, false_implies, implies_true, and_true, true_and, flat_cons, flat_nil, flat_ints, flat_bools, flat_app, zaB, and_self, eq_self_iff_true, zah]) ?_ <;> (try simp only [go_sem, resV, resS, zaM, zaL, zaD, zba, zaR, idx, renO, zaK, evS, slot, lookR, zaa, ↓reduceIte, reduceCtorEq, if_true, if_false, zav, zaw, zab, zac, sLoad, readAt, readNeed, Ints_ren, Ints_length, Ints_getD, and_true, true_and, zak, zal]) <;> (try rfl))
      all_goals simp only [nxV, nxA, h1, if_false, Bool.false_eq_true, e]
    | rw [if_neg h] at e
      (refine fs_flat [(0, dice l (i + 1))] (by simp) (by simp only [zab, zac]; decide) (by simp only [go_sem, resV, resS, zaM, zaL, zaD, zba, zaR, idx, renO, zaK, evS, slot, lookR, zaa, ↓reduceIte, reduceCtorEq, if_true, if_false, zav, zaw, zab, zac, sLoad, readAt, readNeed, Ints_ren, Ints_length, Ints_getD, and_true, true_and, zak, zal]; try decide) ?_ (by simp only [zad, zae, false_implies, implies_true, and_true, zaR, lookR, zaa, if_true, if_false, ↓reduceIte] <;> (repeat' apply zag) <;> (first | rfl | trivial)) (by simp only [zad, zae, false_implies, implies_true, and_true, true_and, flat_cons, flat_nil, flat_ints, flat_bools, flat_app, zaB, and_self, eq_self_iff_true, zah]) ?_ <;> (try simp only [go_sem, resV, resS, zaM, zaL, zaD, zba, zaR, idx, renO, zaK, evS, slot, lookR, zaa, ↓reduceIte, reduceCtorEq, if_true, if_false, zav, zaw, zab, zac, sLoad, readAt, readNeed, Ints_ren, Ints_length, Ints_getD, and_true, true_and, zak, zal]) <;> (try rfl))
      all_goals simp only [nxV, nxA, h1, if_false, Bool.false_eq_true, e]
theorem bool_spec (l : List Int) (i : Nat) (n : Int) (hl : l.length ≤ 600) (hr : ∀ x ∈ l, -9223372036854775808 ≤ x ∧ x ≤ 9223372036854775807) (hn : 0 ≤ n ∧ n ≤ 65536) : FnSpec Try.prog 27 [dp, i1 n] [dice l i] (b1 (decide (nxV l i n = n - 1))) [some (dice l (nxA l i n))] := by
  refine fnspec_of mixed TT_ok TT_cl ⟨fun _ => false, fun f => if f = 12 then [0] else [], 1, fun _ => false, fun _ => false⟩ Try.func27 rfl (by kernel_rfl) rfl 11 rfl [.tmp 4] rfl ?_
  simp only [go_sem, zaa, zam, zan, zao, zaq, zaj, ↓reduceIte, reduceCtorEq, zaf, zai, zar, zas, zat]
  repeat' (first
 | with_reducible refine zag ?_ ?_
 | (apply cl_lend
    case hr => (simp only [zab, zac, hpL', lookR, zaa, if_true, if_false]; first | exact map1 _ | exact map2 _ _ | exact map3 _ _ _)
    case ha => (simp only [zab, zac, prepV, prepC, idx, hpL', lookR, zaa, if_true, if_false]; rfl)
    case hs => rfl
    case hn => decide
    case h => (first | exact next_spec _ _ _ hl hr (by omega))
    case hf => (simp only [zad, zae, false_implies, implies_true, and_true, true_and, flat_cons, flat_nil, flat_ints, flat_bools, flat_app, zaB, and_self, eq_self_iff_true, zah])
    case hl => (simp only [zay, zap]; decide)
    case' hk => simp only [go_sem, zaa, zam, zan, zao, zaq, zaj, ↓reduceIte, reduceCtorEq, zaf, zai, zar, zas, zat, zaM, zaL, zaD, zaK, renO, bk, back, outUpsFrom, Ints_ren])
 | (intros; omega)
 | fail)
  (refine fs_flat [(0, dice l (nxA l i n))] (by simp) (by simp only [zab, zac]; decide) (by simp only [go_sem, resV, resS, zaM, zaL, zaD, zba, zaR, idx, renO, zaK, evS, slot, lookR, zaa, ↓reduceIte, reduceCtorEq, if_true, if_false, zav, zaw, zab, zac, sLoad, readAt, readNeed, Ints_ren, Ints_length, Ints_getD, and_true, true_and, zak, zal]; try decide) ?_ (by simp only [zad, zae, false_implies, implies_true, and_true, zaR, lookR, zaa, if_true, if_false, ↓reduceIte] <;> (repeat' apply zag) <;> (first | rfl | trivial)) (by simp only [zad, zae, false_implies, implies_true, and_true, true_and, flat_cons, flat_nil, flat_ints, flat_bools, flat_app, zaB, and_self, eq_self_iff_true, zah]) ?_ <;> (try simp only [go_sem, resV, resS, zaM, zaL, zaD, zba, zaR, idx, renO, zaK, evS, slot, lookR, zaa, ↓reduceIte, reduceCtorEq, if_true, if_false, zav, zaw, zab, zac, sLoad, readAt, readNeed, Ints_ren, Ints_length, Ints_getD, and_true, true_and, zak, zal]) <;> (try rfl))
end Go.Proofs.Ytlajelbiniakpaa
-- NEWGO
-- PRUNE: cl_lendx cl_use
-- ISG: Strs_isG
-- FLAT: Strs_flat
namespace Go.Proofs.Ytlajelbiniakpaa
set_option linter.unusedVariables false
set_option linter.unusedSimpArgs false
open Go.Proofs.Ytlajelbiniakpaa.Sh
set_option maxRecDepth 20000
def nmL : List Str := [[97], [98], [99], [119, 101, 98], [100, 98, 45, 49], [88, 95, 57]]
theorem nx_rng (l : List Int) (i : Nat) (n : Int) (hn : 0 < n) : 0 ≤ nxV l i n ∧ nxV l i n < n := by
  unfold nxV
  split
  · omega
  · exact ⟨Int.emod_nonneg _ (by omega), Int.emod_lt_of_pos _ hn⟩
def nmV (l : List Int) (i : Nat) : Str := nmL.getD (nxV l i 6).toNat []
theorem getD_len (L : List Str) (n : Nat) (h : ∀ s ∈ L, s.length ≤ n) (j : Nat) : (L.getD j []).length ≤ n := by
  rw [List.getD_eq_getElem?_getD]
  cases hx : L[j]? with
  | none => exact zbh _
  | some s => exact h s (List.mem_of_getElem? hx)
theorem nmV_len (l : List Int) (i : Nat) : (nmV l i).length ≤ 4 := getD_len nmL 4 (by decide) _
variable {l : List Int} (hl : l.length ≤ 600) (hr : ∀ x ∈ l, -9223372036854775808 ≤ x ∧ x ≤ 9223372036854775807)
include hl hr
theorem name_spec (i : Nat) : FnSpec Try.prog 26 [dp] [dice l i] (s1 (nmV l i)) [some (dice l (nxA l i 6))] := by
  have h1 := next_spec l i 6 hl hr (by omega)
  have h2 := nx_rng l i 6 (by omega)
  have hat := Strs_getD' nmL (nxV l i 6).toNat (.sc (.string (bs []))) (by show _ < 6; omega)
  simp only [Strs, nmL, zab, zac] at hat
  unfold nmV nmL
  generalize nxV l i 6 = x at *
  generalize nxA l i 6 = j at *
  refine fnspec_of mixed TT_ok TT_cl ⟨fun _ => false, fun f => if f = 12 then [0] else [], 1, fun _ => false, fun _ => false⟩ Try.func26 rfl (by kernel_rfl) rfl 8 rfl [.tmp 2] rfl ?_
  simp only [go_sem, zaa, zam, zan, zao, zaq, zaj, ↓reduceIte, reduceCtorEq, zaf, zai, zar, zas, zat]
  repeat' (first
 | with_reducible refine zag ?_ ?_
 | (apply cl_lend
    case hr => (simp only [zab, zac, hpL', lookR, zaa, if_true, if_false]; first | exact map1 _ | exact map2 _ _ | exact map3 _ _ _)
    case ha => (simp only [zab, zac, prepV, prepC, idx, hpL', lookR, zaa, if_true, if_false]; rfl)
    case hs => rfl
    case hn => decide
    case h => (first | exact h1 ..)
    case hf => (simp only [zad, zae, false_implies, implies_true, and_true, true_and, flat_cons, flat_nil, flat_ints, flat_bools, flat_app, Strs_flat, zaB, and_self, eq_self_iff_true, zah])
    case hl => (simp only [zay, zap]; decide))
 | ((first | refine s1_id ?_ | refine swp_id ?_ | refine sops_id ?_ | refine s2_id ?_); simp only [hat, dice, go_sem, zaa, zam, zan, zao, zaq, zaj, ↓reduceIte, reduceCtorEq, zaf, zai, zar, zas, zat, zaM, zaL, zaD, zaK, renO, bk, back, outUpsFrom, Ints_ren])
 | (intros; omega)
 | fail)
  (refine fs_flat [(0, dice l j)] (by simp) (by simp only [zab, zac]; decide) (by simp only [go_sem, resV, resS, zaM, zaL, zaD, zba, zaR, idx, renO, zaK, evS, slot, lookR, zaa, ↓reduceIte, reduceCtorEq, if_true, if_false, zav, zaw, zab, zac, sLoad, readAt, readNeed, Ints_ren, Ints_length, Ints_getD, and_true, true_and, zak, zal]; try decide) ?_ (by simp only [zad, zae, false_implies, implies_true, and_true, zaR, lookR, zaa, if_true, if_false, ↓reduceIte] <;> (repeat' apply zag) <;> (first | rfl | trivial)) (by simp only [zad, zae, false_implies, implies_true, and_true, true_and, flat_cons, flat_nil, flat_ints, flat_bools, flat_app, zaB, and_self, eq_self_iff_true, zah]) ?_ <;> (try simp only [go_sem, resV, resS, zaM, zaL, zaD, zba, zaR, idx, renO, zaK, evS, slot, lookR, zaa, ↓reduceIte, reduceCtorEq, if_true, if_false, zav, zaw, zab, zac, sLoad, readAt, readNeed, Ints_ren, Ints_length, Ints_getD, and_true, true_and, zak, zal]) <;> (try rfl))
end Go.Proofs.Ytlajelbiniakpaa
-- NEWGO
-- PRUNE: cl_lendx cl_use
-- ISG: Cs_isG
-- FLAT: Cs_flat
namespace Go.Proofs.Ytlajelbiniakpaa
set_option linter.unusedVariables false
set_option linter.unusedSimpArgs false
open Go.Proofs.Ytlajelbiniakpaa.Sh
set_option maxRecDepth 20000
abbrev TrS := (List Nd × Int) × Nat
def tPk (L : List Int) (s : TrS) : Int := (gN s.1.1 (nxV L s.2 s.1.1.length).toNat).i
def tAddM (L : List Int) (s : TrS) : (List Nd × Int) × Int × Int := addM s.1.1 s.1.2 (tPk L s) (nmV L (nxA L s.2 s.1.1.length))
def tAdd (L : List Int) (s : TrS) : TrS := (if (tAddM L s).2.2 = 0 then (tAddM L s).1 else s.1, nxA L (nxA L s.2 s.1.1.length) 6)
def tRemM (L : List Int) (s : TrS) : (List Nd × Int) × Int := rmM s.1.1 s.1.2 (tPk L (s.1, nxA L s.2 6))
def tRem (L : List Int) (s : TrS) : TrS := if nxV L s.2 6 = 5 then (if (tRemM L s).2 = 0 then (tRemM L s).1 else s.1, nxA L (nxA L s.2 6) s.1.1.length) else (s.1, nxA L s.2 6)
def tLp (L : List Int) : Nat → TrS → TrS
  | 0, s => s
  | m + 1, s => tLp L m (tRem L (tAdd L s))
def mkT (L : List Int) (j : Nat) (N : Nat) : TrS := tLp L (nxV L j ((N : Int) + 1)).toNat (([⟨1, 0, [], 0, 0, 0⟩], 2), nxA L j ((N : Int) + 1))
structure TI (l : List Nd) (n : Int) (B : Nat) : Prop where
  v : VL l n
  nm : ∀ x ∈ l, x.nm.length ≤ 4
  b : l.length ≤ B
  z : ∀ x ∈ l, x.c = 0 ∧ x.k = 0 ∧ x.o = 0
theorem TI.nr {l : List Nd} {n : Int} {B : Nat} (h : TI l n B) : NmR l := fun x hx => by have := h.nm x hx; omega
theorem TI.len {l : List Nd} {n : Int} {B : Nat} (h : TI l n B) : 1 ≤ l.length ∧ l.length ≤ 64 := ⟨h.v.ne, h.v.le⟩
theorem TI.mono {l : List Nd} {n : Int} {B C : Nat} (h : TI l n B) (hc : B ≤ C) : TI l n C := ⟨h.v, h.nm, Nat.le_trans h.b hc, h.z⟩
theorem hasM_iff {l : List Nd} {n id : Int} : hasM l n id = true ↔ chkT l n = true ∧ ∃ y ∈ l, y.i = id := by
  unfold hasM
  rw [zaG, List.any_eq_true]
  simp only [hasI, decide_eq_true_eq]
theorem addM_ok {l : List Nd} {n p : Int} {s : Str} (h : (addM l n p s).2.2 = 0) : addM l n p s = ((l ++ [newN n p s], n + 1), n, 0) ∧ chkT l n = true ∧ nmOk s = true ∧ (∃ y ∈ l, y.i = p) ∧ (∀ y ∈ l, ¬ (y.p = p ∧ y.nm = s)) ∧ (upL l p).length ≤ 8 ∧ l.length < 64 ∧ n ≤ 2147483647 := by
  unfold addM at h ⊢
  by_cases h1 : (chkT l n && nmOk s) = false
  · rw [if_pos h1] at h; cases h
  rw [if_neg h1] at h ⊢
  by_cases h2 : hasM l n p = false
  · rw [if_pos h2] at h; cases h
  rw [if_neg h2] at h ⊢
  by_cases h3 : l.any (same1 p s) = true
  · rw [if_pos h3] at h; cases h
  rw [if_neg h3] at h ⊢
  by_cases h4 : 8 ≤ ((ancM l n p).length : Int) - 1 ∨ 64 ≤ (l.length : Int) ∨ 2147483647 < n
  · rw [if_pos h4] at h; cases h
  rw [if_neg h4]
  have h1' : (chkT l n && nmOk s) = true := by revert h1; cases (chkT l n && nmOk s) <;> simp
  rw [zaG] at h1'
  have h2' : hasM l n p = true := by revert h2; cases hasM l n p <;> simp
  have ha : ancM l n p = upL l p := if_pos h2'
  rw [ha] at h4
  refine ⟨rfl, h1'.1, h1'.2, (hasM_iff.1 h2').2, fun y hy hh => h3 (List.any_eq_true.2 ⟨y, hy, ?_⟩), by omega, by omega, by omega⟩
  unfold same1
  rw [decide_eq_true hh.1, decide_eq_true hh.2]; rfl
theorem rmM_ok {l : List Nd} {n id : Int} (h : (rmM l n id).2 = 0) : rmM l n id = ((rmN l id, n), 0) ∧ chkT l n = true ∧ (∃ y ∈ l, y.i = id) ∧ id ≠ 1 ∧ ∀ x ∈ l, x.p ≠ id := by
  unfold rmM at h ⊢
  by_cases h1 : chkT l n = false
  · rw [if_pos h1] at h; cases h
  rw [if_neg h1] at h ⊢
  by_cases h2 : hasM l n id = false
  · rw [if_pos h2] at h; cases h
  rw [if_neg h2] at h ⊢
  by_cases h3 : id = 1
  · rw [if_pos h3] at h; cases h
  rw [if_neg h3] at h ⊢
  by_cases h4 : 0 < ((chM l n id).length : Int)
  · rw [if_pos h4] at h; cases h
  rw [if_neg h4]
  have h2' : hasM l n id = true := by revert h2; cases hasM l n id <;> simp
  have hc : chM l n id = kidsL l id := if_pos h2'
  rw [hc] at h4
  refine ⟨rfl, (hasM_iff.1 h2').1, (hasM_iff.1 h2').2, h3, fun x hx e => h4 ?_⟩
  have : x.i ∈ kidsL l id := List.mem_map_of_mem (List.mem_filter.2 ⟨hx, decide_eq_true e⟩)
  have := List.length_pos_of_mem this
  omega
theorem TI.add {l : List Nd} {n p : Int} {s : Str} {B : Nat} (h : TI l n B) (hs : s.length ≤ 4) (he : (addM l n p s).2.2 = 0) : TI (addM l n p s).1.1 (addM l n p s).1.2 (B + 1) := by
  obtain ⟨e, h1, h2, h3, h4, h5, h6, h7⟩ := addM_ok he
  rw [e]
  refine ⟨h.v.add h2 h3 h4 h5 h6 h7, fun x hx => ?_, by rw [zbe, List.length_singleton]; have := h.b; omega, fun x hx => ?_⟩
  · rcases List.mem_append.1 hx with hx | hx
    · exact h.nm x hx
    · rw [List.mem_singleton.1 hx]; exact hs
  · rcases List.mem_append.1 hx with hx | hx
    · exact h.z x hx
    · rw [List.mem_singleton.1 hx]; exact ⟨rfl, rfl, rfl⟩
theorem TI.rem {l : List Nd} {n id : Int} {B : Nat} (h : TI l n B) (he : (rmM l n id).2 = 0) : TI (rmM l n id).1.1 (rmM l n id).1.2 B := by
  obtain ⟨e, h1, h2, h3, h4⟩ := rmM_ok he
  rw [e]
  refine ⟨h.v.rm h3 h4, fun x hx => h.nm x ((rmN_mem l id x).1 hx).1, Nat.le_trans (rmN_len l id) h.b, fun x hx => h.z x ((rmN_mem l id x).1 hx).1⟩
theorem tAdd_ok (L : List Int) {s : TrS} {B : Nat} (h : TI s.1.1 s.1.2 B) : TI (tAdd L s).1.1 (tAdd L s).1.2 (B + 1) := by
  unfold tAdd
  simp only
  by_cases he : (tAddM L s).2.2 = 0
  · rw [if_pos he]
    exact h.add (nmV_len _ _) he
  · rw [if_neg he]; exact h.mono (Nat.le_succ B)
theorem tRem_ok (L : List Int) {s : TrS} {B : Nat} (h : TI s.1.1 s.1.2 B) : TI (tRem L s).1.1 (tRem L s).1.2 B := by
  unfold tRem
  by_cases hb : nxV L s.2 6 = 5
  · rw [if_pos hb]
    simp only
    by_cases he : (tRemM L s).2 = 0
    · rw [if_pos he]; exact h.rem he
    · rw [if_neg he]; exact h
  · rw [if_neg hb]; exact h
theorem tLp_ok (L : List Int) : ∀ (m : Nat) (s : TrS) (B : Nat), TI s.1.1 s.1.2 B → TI (tLp L m s).1.1 (tLp L m s).1.2 (B + m)
  | 0, s, B, h => h
  | m + 1, s, B, h => by
    have := tLp_ok L m _ _ (tRem_ok L (tAdd_ok L h))
    rw [show B + 1 + m = B + (m + 1) by omega] at this
    exact this
theorem TI_new : TI [⟨1, 0, [], 0, 0, 0⟩] 2 1 := ⟨VL_new, fun x hx => by rw [List.mem_singleton.1 hx]; decide, zbf _, fun x hx => by rw [List.mem_singleton.1 hx]; exact ⟨rfl, rfl, rfl⟩⟩
theorem mkT_ok (L : List Int) (j N : Nat) : TI (mkT L j N).1.1 (mkT L j N).1.2 (N + 1) := by
  have h := tLp_ok L (nxV L j ((N : Int) + 1)).toNat (([⟨1, 0, [], 0, 0, 0⟩], 2), nxA L j ((N : Int) + 1)) 1 TI_new
  have h2 := nx_rng L j ((N : Int) + 1) (by omega)
  exact h.mono (by omega)
def lendT : FuncId → List Nat := fun f => if f = 12 then [0] else if f = 26 then [0] else if f = 27 then [0] else []
set_option maxHeartbeats 32000000 in
theorem tree_spec (L : List Int) (hl : L.length ≤ 600) (hr : ∀ x ∈ L, -9223372036854775808 ≤ x ∧ x ≤ 9223372036854775807) (j N : Nat) (hN : N ≤ 50) :
    FnSpec Try.prog 10 [dp, i1 N] [dice L j] (trV (mkT L j N).1.1 none (mkT L j N).1.2) [some (dice L (mkT L j N).2)] := by
  have n0 := next_spec L j ((N : Int) + 1) hl hr (by omega)
  have r0 := nx_rng L j ((N : Int) + 1) (by omega)
  obtain ⟨T, hT⟩ : ∃ T, mkT L j N = T := ⟨_, rfl⟩
  have hT0 := hT
  rw [hT]
  unfold mkT at hT
  obtain ⟨c0, hc0, hc1⟩ : ∃ c : Nat, nxV L j ((N : Int) + 1) = c ∧ c ≤ N := ⟨(nxV L j ((N : Int) + 1)).toNat, by omega, by omega⟩
  rw [hc0, zaU] at hT
  rw [hc0] at n0
  refine fnspec_of mixed TT_ok TT_cl ⟨fun _ => false, lendT, 1, fun _ => false, fun _ => false⟩ Try.func10 rfl (by kernel_rfl) rfl 65 rfl [.cell 4 25] rfl ?_
  simp only [go_sem, zaa, zam, zan, zao, zaq, zaj, ↓reduceIte, reduceCtorEq, zaf, zai, zar, zas, zat, lendT]
  repeat' (first
 | with_reducible refine zag ?_ ?_
 | (apply cl_plain
    case hs => rfl
    case ha => (simp only [zab, zac, prepV, prepC, idx, hpL', lookR, zaa, if_true, if_false]; rfl)
    case h => (first | exact trnew_spec .. | exact n0 ..))
 | (apply cl_lend
    case hr => (simp only [zab, zac, hpL', lookR, zaa, if_true, if_false]; first | exact map1 _ | exact map2 _ _ | exact map3 _ _ _)
    case ha => (simp only [zab, zac, prepV, prepC, idx, hpL', lookR, zaa, if_true, if_false]; rfl)
    case hs => rfl
    case hn => decide
    case h => (first | exact trnew_spec .. | exact n0 ..)
    case hf => (simp only [zad, zae, false_implies, implies_true, and_true, true_and, flat_cons, flat_nil, flat_ints, flat_bools, flat_app, Cs_flat, zaB, and_self, eq_self_iff_true, zah])
    case hl => (simp only [zay, zap]; decide))
 | ((first | refine s1_id ?_ | refine swp_id ?_ | refine sops_id ?_ | refine s2_id ?_); simp only [lendT, dice, go_sem, zaa, zam, zan, zao, zaq, zaj, ↓reduceIte, reduceCtorEq, zaf, zai, zar, zas, zat, zaM, zaL, zaD, zaK, renO, bk, back, outUpsFrom, Ints_ren])
 | (intros; omega)
 | (intros; (try simp only [zaG, zaI, zaE, zaF, zaz, zaA, decide_eq_true_eq, decide_eq_false_iff_not] at *); omega))
  refine w_loop (ι := Nat × TrS) (fun s => ⟨[(0, dp), (4, .one (.optr 1 0)), (5, .one (.optr 2 0)), (6, i1 s.1)], [(0, some (dice L s.2.2)), (1, some ⟨[.sc (.slice none 0 0), int 0], 2⟩), (2, some ⟨[.gsl (Cs s.2.1.1) 0 s.2.1.1.length none, int s.2.1.2], 2⟩)], 3⟩) (fun s => T = tLp L s.1 s.2 ∧ TI s.2.1.1 s.2.1.2 (N + 1 - s.1) ∧ s.1 ≤ N) (fun s => s.1) (c0, (([⟨1, 0, [], 0, 0, 0⟩], 2), nxA L j ((N : Int) + 1))) ?_ ⟨hT.symm, TI_new.mono (by omega), hc1⟩ ?_
  · (refine imp_ren _ _ _ [(0, 0, dice L (nxA L j ((N : Int) + 1))), (1, 1, ⟨[.sc (.slice none 0 0), int 0], 2⟩), (2, 3, ⟨[.gsl (Cs ([⟨1, 0, [], 0, 0, 0⟩] : List Nd)) 0 1 none, int 2], 2⟩)] (by simp) (by simp) (by simp) (zax rfl) ?_ rfl (by simp only [zad, zae, false_implies, implies_true, and_true, zaR, lookR, zaa, if_true, if_false, ↓reduceIte, dice] <;> (repeat' apply zag) <;> (first | rfl | trivial)) (by simp only [zad, zae, false_implies, implies_true, and_true, true_and, flat_cons, flat_nil, flat_ints, flat_bools, flat_app, zaB, and_self, eq_self_iff_true, zah, dice]); simp only [zab, zac, zad, zae, false_implies, implies_true, and_true, lk, slot, zaM, zaD, toN, zaa, if_true, if_false, ↓reduceIte, reduceCtorEq])
    all_goals ((repeat' apply zag) <;> (first | rfl | trivial))
  clear n0 r0 hT hT0 hc0
  rintro ⟨m, ⟨⟨l, n⟩, i⟩⟩ ⟨hI, hti, hmN⟩
  simp only at hI hti hmN ⊢
  cases m with
  | zero =>
    rw [tLp] at hI
    subst hI
    simp only [go_sem, zaa, zam, zan, zao, zaq, zaj, ↓reduceIte, reduceCtorEq, zaf, zai, zar, zas, zat, lendT]
    repeat' (first
 | (intros; (try simp only [zaG, zaI, zaE, zaF, zaz, zaA, decide_eq_true_eq, decide_eq_false_iff_not] at *); omega))
    (refine fs_flat [(0, dice L i)] (by simp) (by simp only [zab, zac]; decide) (by simp only [go_sem, resV, resS, zaM, zaL, zaD, zba, zaR, idx, renO, zaK, evS, slot, lookR, zaa, ↓reduceIte, reduceCtorEq, if_true, if_false, zav, zaw, zab, zac, sLoad, readAt, readNeed, Ints_ren, Ints_length, Ints_getD, and_true, true_and, zak, zal]; try decide) ?_ (by simp only [zad, zae, false_implies, implies_true, and_true, zaR, lookR, zaa, if_true, if_false, ↓reduceIte, dice] <;> (repeat' apply zag) <;> (first | rfl | trivial)) (by simp only [zad, zae, false_implies, implies_true, and_true, true_and, flat_cons, flat_nil, flat_ints, flat_bools, flat_app, zaB, and_self, eq_self_iff_true, zah, dice]) ?_ <;> (try simp only [go_sem, resV, resS, zaM, zaL, zaD, zba, zaR, idx, renO, zaK, evS, slot, lookR, zaa, ↓reduceIte, reduceCtorEq, if_true, if_false, zav, zaw, zab, zac, sLoad, readAt, readNeed, Ints_ren, Ints_length, Ints_getD, and_true, true_and, zak, zal]) <;> (try rfl))
  | succ m =>
  have c : (0 : Int) < ((m + 1 : Nat) : Int) := by omega
  have e2 : ((m + 1 : Nat) : Int) - 1 = (m : Int) := by omega
  have hlen := hti.len
  rw [tLp] at hI
  have hta := tAdd_ok L (s := ((l, n), i)) hti
  have htr := tRem_ok L hta
  have hnl := nd_len l
  have n1 := next_spec L i l.length hl hr (by omega)
  have r1 := nx_rng L i l.length (by omega)
  obtain ⟨x, hx, hxl⟩ : ∃ x : Nat, nxV L i l.length = x ∧ x < l.length := ⟨(nxV L i l.length).toNat, by omega, by omega⟩
  obtain ⟨g1, _⟩ := nd_f l x hxl (.sc (.int .i64 0))
  have hA0 : tAddM L ((l, n), i) = addM l n (gN l x).i (nmV L (nxA L i l.length)) := by unfold tAddM tPk; simp only; rw [hx, zaU]
  rw [hx] at n1
  have n2 := name_spec (l := L) hl hr (nxA L i l.length)
  have s1' := nmV_len L (nxA L i l.length)
  have a1 := radd_spec l none n (gN l x).i (nmV L (nxA L i l.length)) (by omega) hti.nr (by omega)
  rw [← hA0] at a1
  have hj2 : (tAdd L ((l, n), i)).2 = nxA L (nxA L i l.length) 6 := rfl
  have ht1 : (tAdd L ((l, n), i)).1 = if (tAddM L ((l, n), i)).2.2 = 0 then (tAddM L ((l, n), i)).1 else (l, n) := rfl
  generalize nmV L (nxA L i l.length) = nam at *
  generalize tAddM L ((l, n), i) = AM at *
  obtain ⟨⟨la, na⟩, ia, ea⟩ := AM
  clear hA0
  simp only [adV] at a1
  obtain ⟨S1, hS1⟩ : ∃ S1, tAdd L ((l, n), i) = S1 := ⟨_, rfl⟩
  rw [hS1] at hI hta htr hj2 ht1
  clear hS1
  obtain ⟨⟨l1, n1'⟩, j2⟩ := S1
  simp only at hta hj2 ht1
  subst hj2
  have hlen1 := hta.len
  have n3 := bool_spec L (nxA L (nxA L i l.length) 6) 6 hl hr (by decide)
  generalize nxA L (nxA L i l.length) 6 = j2 at *
  have htr2 : tRem L ((l1, n1'), j2) = if nxV L j2 6 = 5 then (if (tRemM L ((l1, n1'), j2)).2 = 0 then (tRemM L ((l1, n1'), j2)).1 else (l1, n1'), nxA L (nxA L j2 6) l1.length) else ((l1, n1'), nxA L j2 6) := rfl
  have hnl1 := nd_len l1
  have n4 := next_spec L (nxA L j2 6) l1.length hl hr (by omega)
  have r4 := nx_rng L (nxA L j2 6) l1.length (by omega)
  obtain ⟨y, hy, hyl⟩ : ∃ y : Nat, nxV L (nxA L j2 6) l1.length = y ∧ y < l1.length := ⟨(nxV L (nxA L j2 6) l1.length).toNat, by omega, by omega⟩
  obtain ⟨g2, _⟩ := nd_f l1 y hyl (.sc (.int .i64 0))
  have hR0 : tRemM L ((l1, n1'), j2) = rmM l1 n1' (gN l1 y).i := by unfold tRemM tPk; simp only; rw [hy, zaU]
  rw [hy] at n4
  have a2 := rrem_spec l1 none n1' (gN l1 y).i (by omega) hta.nr
  rw [← hR0] at a2
  generalize tRemM L ((l1, n1'), j2) = RM at *
  obtain ⟨⟨lr, nr⟩, er⟩ := RM
  clear hR0
  simp only [rmV] at a2
  simp only at ht1 htr2
  obtain ⟨S2, hS2⟩ : ∃ S2, tRem L ((l1, n1'), j2) = S2 := ⟨_, rfl⟩
  rw [hS2] at hI htr htr2
  clear hS2
  have hBB : TI S2.1.1 S2.1.2 (N + 1 - m) := htr.mono (by omega)
  obtain ⟨⟨l2, n2'⟩, j3⟩ := S2
  simp only at hBB
  clear htr hta hti
  by_cases hea : ea = 0
  · rw [if_pos hea] at ht1
    obtain ⟨rfl, rfl⟩ := Prod.mk.inj ht1
    by_cases hb : nxV L j2 6 = 5
    · rw [if_pos hb] at htr2
      rw [decide_eq_true (by omega : nxV L j2 6 = 6 - 1)] at n3
      by_cases her : er = 0
      · rw [if_pos her] at htr2
        obtain ⟨e1, rfl⟩ := Prod.mk.inj htr2
        obtain ⟨rfl, rfl⟩ := Prod.mk.inj e1
        simp only [go_sem, zaa, zam, zan, zao, zaq, zaj, ↓reduceIte, reduceCtorEq, zaf, zai, zar, zas, zat, decide_eq_true c, e2, lendT, g1, g2, zaU, decide_eq_true hea, decide_eq_true her]
        repeat' (first
 | with_reducible refine zag ?_ ?_
 | (unfold OKC; kernel_rfl)
 | (unfold EDG; kernel_rfl)
 | (apply cl_plain
    case hs => rfl
    case ha => (simp only [zab, zac, prepV, prepC, idx, hpL', lookR, zaa, if_true, if_false]; rfl)
    case h => (first | exact n1 .. | exact n2 .. | exact a1 .. | exact n3 .. | exact n4 .. | exact a2 ..))
 | (apply cl_lend
    case hr => (simp only [zab, zac, hpL', lookR, zaa, if_true, if_false]; first | exact map1 _ | exact map2 _ _ | exact map3 _ _ _)
    case ha => (simp only [zab, zac, prepV, prepC, idx, hpL', lookR, zaa, if_true, if_false]; rfl)
    case hs => rfl
    case hn => decide
    case h => (first | exact n1 .. | exact n2 .. | exact a1 .. | exact n3 .. | exact n4 .. | exact a2 ..)
    case hf => (simp only [zad, zae, false_implies, implies_true, and_true, true_and, flat_cons, flat_nil, flat_ints, flat_bools, flat_app, Cs_flat, zaB, and_self, eq_self_iff_true, zah])
    case hl => (simp only [zay, zap]; decide))
 | ((first | refine s1_id ?_ | refine swp_id ?_ | refine sops_id ?_ | refine s2_id ?_); simp only [decide_eq_true c, e2, lendT, g1, g2, dice, zaU, decide_eq_true hea, decide_eq_true her, zaQ, zaT, zah, zau, zaC, zaO, zaP, zaN, zaV, zaZ, zay, zap, go_sem, zaa, zam, zan, zao, zaq, zaj, ↓reduceIte, reduceCtorEq, zaf, zai, zar, zas, zat, zaM, zaL, zaD, zaK, renO, bk, back, outUpsFrom, Ints_ren])
 | (intros; omega)
 | (intros; (try simp only [zaG, zaI, zaE, zaF, zaz, zaA, decide_eq_true_eq, decide_eq_false_iff_not] at *); omega))
        refine le_mk (m, ((l2, n2'), (nxA L (nxA L j2 6) l1.length))) ?_ ⟨hI, hBB, by show m ≤ N; omega⟩ (zbg m)
        (refine imp_ren _ _ _ [(0, 0, dice L (nxA L (nxA L j2 6) l1.length)), (1, 1, ⟨[.sc (.slice none 0 0), int 0], 2⟩), (2, 2, ⟨[.gsl (Cs l2) 0 l2.length none, int n2'], 2⟩)] (by simp) (by simp) (by simp) (zax rfl) ?_ rfl (by simp only [zad, zae, false_implies, implies_true, and_true, zaR, lookR, zaa, if_true, if_false, ↓reduceIte, dice] <;> (repeat' apply zag) <;> (first | rfl | trivial)) (by simp only [zad, zae, false_implies, implies_true, and_true, true_and, flat_cons, flat_nil, flat_ints, flat_bools, flat_app, zaB, and_self, eq_self_iff_true, zah, dice]); simp only [zab, zac, zad, zae, false_implies, implies_true, and_true, lk, slot, zaM, zaD, toN, zaa, if_true, if_false, ↓reduceIte, reduceCtorEq])
        all_goals ((repeat' apply zag) <;> (first | rfl | trivial | (simp only []; done) | (simp only []; rfl) | (simp only []; trivial)))
      · rw [if_neg her] at htr2
        obtain ⟨e1, rfl⟩ := Prod.mk.inj htr2
        obtain ⟨rfl, rfl⟩ := Prod.mk.inj e1
        simp only [go_sem, zaa, zam, zan, zao, zaq, zaj, ↓reduceIte, reduceCtorEq, zaf, zai, zar, zas, zat, decide_eq_true c, e2, lendT, g1, g2, zaU, decide_eq_true hea, decide_eq_false her]
        repeat' (first
 | with_reducible refine zag ?_ ?_
 | (unfold OKC; kernel_rfl)
 | (unfold EDG; kernel_rfl)
 | (apply cl_plain
    case hs => rfl
    case ha => (simp only [zab, zac, prepV, prepC, idx, hpL', lookR, zaa, if_true, if_false]; rfl)
    case h => (first | exact n1 .. | exact n2 .. | exact a1 .. | exact n3 .. | exact n4 .. | exact a2 ..))
 | (apply cl_lend
    case hr => (simp only [zab, zac, hpL', lookR, zaa, if_true, if_false]; first | exact map1 _ | exact map2 _ _ | exact map3 _ _ _)
    case ha => (simp only [zab, zac, prepV, prepC, idx, hpL', lookR, zaa, if_true, if_false]; rfl)
    case hs => rfl
    case hn => decide
    case h => (first | exact n1 .. | exact n2 .. | exact a1 .. | exact n3 .. | exact n4 .. | exact a2 ..)
    case hf => (simp only [zad, zae, false_implies, implies_true, and_true, true_and, flat_cons, flat_nil, flat_ints, flat_bools, flat_app, Cs_flat, zaB, and_self, eq_self_iff_true, zah])
    case hl => (simp only [zay, zap]; decide))
 | ((first | refine s1_id ?_ | refine swp_id ?_ | refine sops_id ?_ | refine s2_id ?_); simp only [decide_eq_true c, e2, lendT, g1, g2, dice, zaU, decide_eq_true hea, decide_eq_false her, zaQ, zaT, zah, zau, zaC, zaO, zaP, zaN, zaV, zaZ, zay, zap, go_sem, zaa, zam, zan, zao, zaq, zaj, ↓reduceIte, reduceCtorEq, zaf, zai, zar, zas, zat, zaM, zaL, zaD, zaK, renO, bk, back, outUpsFrom, Ints_ren])
 | (intros; omega)
 | (intros; (try simp only [zaG, zaI, zaE, zaF, zaz, zaA, decide_eq_true_eq, decide_eq_false_iff_not] at *); omega))
        refine le_mk (m, ((l2, n2'), (nxA L (nxA L j2 6) l2.length))) ?_ ⟨hI, hBB, by show m ≤ N; omega⟩ (zbg m)
        (refine imp_ren _ _ _ [(0, 0, dice L (nxA L (nxA L j2 6) l2.length)), (1, 1, ⟨[.sc (.slice none 0 0), int 0], 2⟩), (2, 2, ⟨[.gsl (Cs l2) 0 l2.length none, int n2'], 2⟩)] (by simp) (by simp) (by simp) (zax rfl) ?_ rfl (by simp only [zad, zae, false_implies, implies_true, and_true, zaR, lookR, zaa, if_true, if_false, ↓reduceIte, dice] <;> (repeat' apply zag) <;> (first | rfl | trivial)) (by simp only [zad, zae, false_implies, implies_true, and_true, true_and, flat_cons, flat_nil, flat_ints, flat_bools, flat_app, zaB, and_self, eq_self_iff_true, zah, dice]); simp only [zab, zac, zad, zae, false_implies, implies_true, and_true, lk, slot, zaM, zaD, toN, zaa, if_true, if_false, ↓reduceIte, reduceCtorEq])
        all_goals ((repeat' apply zag) <;> (first | rfl | trivial | (simp only []; done) | (simp only []; rfl) | (simp only []; trivial)))
    · rw [if_neg hb] at htr2
      rw [decide_eq_false (by omega : ¬ nxV L j2 6 = 6 - 1)] at n3
      obtain ⟨e1, rfl⟩ := Prod.mk.inj htr2
      obtain ⟨rfl, rfl⟩ := Prod.mk.inj e1
      simp only [go_sem, zaa, zam, zan, zao, zaq, zaj, ↓reduceIte, reduceCtorEq, zaf, zai, zar, zas, zat, decide_eq_true c, e2, lendT, g1, g2, zaU, decide_eq_true hea]
      repeat' (first
 | with_reducible refine zag ?_ ?_
 | (unfold OKC; kernel_rfl)
 | (unfold EDG; kernel_rfl)
 | (apply cl_plain
    case hs => rfl
    case ha => (simp only [zab, zac, prepV, prepC, idx, hpL', lookR, zaa, if_true, if_false]; rfl)
    case h => (first | exact n1 .. | exact n2 .. | exact a1 .. | exact n3 ..))
 | (apply cl_lend
    case hr => (simp only [zab, zac, hpL', lookR, zaa, if_true, if_false]; first | exact map1 _ | exact map2 _ _ | exact map3 _ _ _)
    case ha => (simp only [zab, zac, prepV, prepC, idx, hpL', lookR, zaa, if_true, if_false]; rfl)
    case hs => rfl
    case hn => decide
    case h => (first | exact n1 .. | exact n2 .. | exact a1 .. | exact n3 ..)
    case hf => (simp only [zad, zae, false_implies, implies_true, and_true, true_and, flat_cons, flat_nil, flat_ints, flat_bools, flat_app, Cs_flat, zaB, and_self, eq_self_iff_true, zah])
    case hl => (simp only [zay, zap]; decide))
 | ((first | refine s1_id ?_ | refine swp_id ?_ | refine sops_id ?_ | refine s2_id ?_); simp only [decide_eq_true c, e2, lendT, g1, g2, dice, zaU, decide_eq_true hea, zaQ, zaT, zah, zau, zaC, zaO, zaP, zaN, zaV, zaZ, zay, zap, go_sem, zaa, zam, zan, zao, zaq, zaj, ↓reduceIte, reduceCtorEq, zaf, zai, zar, zas, zat, zaM, zaL, zaD, zaK, renO, bk, back, outUpsFrom, Ints_ren])
 | (intros; omega)
 | (intros; (try simp only [zaG, zaI, zaE, zaF, zaz, zaA, decide_eq_true_eq, decide_eq_false_iff_not] at *); omega))
      refine le_mk (m, ((l2, n2'), (nxA L j2 6))) ?_ ⟨hI, hBB, by show m ≤ N; omega⟩ (zbg m)
      (refine imp_ren _ _ _ [(0, 0, dice L (nxA L j2 6)), (1, 1, ⟨[.sc (.slice none 0 0), int 0], 2⟩), (2, 2, ⟨[.gsl (Cs l2) 0 l2.length none, int n2'], 2⟩)] (by simp) (by simp) (by simp) (zax rfl) ?_ rfl (by simp only [zad, zae, false_implies, implies_true, and_true, zaR, lookR, zaa, if_true, if_false, ↓reduceIte, dice] <;> (repeat' apply zag) <;> (first | rfl | trivial)) (by simp only [zad, zae, false_implies, implies_true, and_true, true_and, flat_cons, flat_nil, flat_ints, flat_bools, flat_app, zaB, and_self, eq_self_iff_true, zah, dice]); simp only [zab, zac, zad, zae, false_implies, implies_true, and_true, lk, slot, zaM, zaD, toN, zaa, if_true, if_false, ↓reduceIte, reduceCtorEq])
      all_goals ((repeat' apply zag) <;> (first | rfl | trivial | (simp only []; done) | (simp only []; rfl) | (simp only []; trivial)))
  · rw [if_neg hea] at ht1
    obtain ⟨rfl, rfl⟩ := Prod.mk.inj ht1
    by_cases hb : nxV L j2 6 = 5
    · rw [if_pos hb] at htr2
      rw [decide_eq_true (by omega : nxV L j2 6 = 6 - 1)] at n3
      by_cases her : er = 0
      · rw [if_pos her] at htr2
        obtain ⟨e1, rfl⟩ := Prod.mk.inj htr2
        obtain ⟨rfl, rfl⟩ := Prod.mk.inj e1
        simp only [go_sem, zaa, zam, zan, zao, zaq, zaj, ↓reduceIte, reduceCtorEq, zaf, zai, zar, zas, zat, decide_eq_true c, e2, lendT, g1, g2, zaU, decide_eq_false hea, decide_eq_true her]
        repeat' (first
 | with_reducible refine zag ?_ ?_
 | (unfold OKC; kernel_rfl)
 | (unfold EDG; kernel_rfl)
 | (apply cl_plain
    case hs => rfl
    case ha => (simp only [zab, zac, prepV, prepC, idx, hpL', lookR, zaa, if_true, if_false]; rfl)
    case h => (first | exact n1 .. | exact n2 .. | exact a1 .. | exact n3 .. | exact n4 .. | exact a2 ..))
 | (apply cl_lend
    case hr => (simp only [zab, zac, hpL', lookR, zaa, if_true, if_false]; first | exact map1 _ | exact map2 _ _ | exact map3 _ _ _)
    case ha => (simp only [zab, zac, prepV, prepC, idx, hpL', lookR, zaa, if_true, if_false]; rfl)
    case hs => rfl
    case hn => decide
    case h => (first | exact n1 .. | exact n2 .. | exact a1 .. | exact n3 .. | exact n4 .. | exact a2 ..)
    case hf => (simp only [zad, zae, false_implies, implies_true, and_true, true_and, flat_cons, flat_nil, flat_ints, flat_bools, flat_app, Cs_flat, zaB, and_self, eq_self_iff_true, zah])
    case hl => (simp only [zay, zap]; decide))
 | ((first | refine s1_id ?_ | refine swp_id ?_ | refine sops_id ?_ | refine s2_id ?_); simp only [decide_eq_true c, e2, lendT, g1, g2, dice, zaU, decide_eq_false hea, decide_eq_true her, zaQ, zaT, zah, zau, zaC, zaO, zaP, zaN, zaV, zaZ, zay, zap, go_sem, zaa, zam, zan, zao, zaq, zaj, ↓reduceIte, reduceCtorEq, zaf, zai, zar, zas, zat, zaM, zaL, zaD, zaK, renO, bk, back, outUpsFrom, Ints_ren])
 | (intros; omega)
 | (intros; (try simp only [zaG, zaI, zaE, zaF, zaz, zaA, decide_eq_true_eq, decide_eq_false_iff_not] at *); omega))
        refine le_mk (m, ((l2, n2'), (nxA L (nxA L j2 6) l1.length))) ?_ ⟨hI, hBB, by show m ≤ N; omega⟩ (zbg m)
        (refine imp_ren _ _ _ [(0, 0, dice L (nxA L (nxA L j2 6) l1.length)), (1, 1, ⟨[.sc (.slice none 0 0), int 0], 2⟩), (2, 2, ⟨[.gsl (Cs l2) 0 l2.length none, int n2'], 2⟩)] (by simp) (by simp) (by simp) (zax rfl) ?_ rfl (by simp only [zad, zae, false_implies, implies_true, and_true, zaR, lookR, zaa, if_true, if_false, ↓reduceIte, dice] <;> (repeat' apply zag) <;> (first | rfl | trivial)) (by simp only [zad, zae, false_implies, implies_true, and_true, true_and, flat_cons, flat_nil, flat_ints, flat_bools, flat_app, zaB, and_self, eq_self_iff_true, zah, dice]); simp only [zab, zac, zad, zae, false_implies, implies_true, and_true, lk, slot, zaM, zaD, toN, zaa, if_true, if_false, ↓reduceIte, reduceCtorEq])
        all_goals ((repeat' apply zag) <;> (first | rfl | trivial | (simp only []; done) | (simp only []; rfl) | (simp only []; trivial)))
      · rw [if_neg her] at htr2
        obtain ⟨e1, rfl⟩ := Prod.mk.inj htr2
        obtain ⟨rfl, rfl⟩ := Prod.mk.inj e1
        simp only [go_sem, zaa, zam, zan, zao, zaq, zaj, ↓reduceIte, reduceCtorEq, zaf, zai, zar, zas, zat, decide_eq_true c, e2, lendT, g1, g2, zaU, decide_eq_false hea, decide_eq_false her]
        repeat' (first
 | with_reducible refine zag ?_ ?_
 | (unfold OKC; kernel_rfl)
 | (unfold EDG; kernel_rfl)
 | (apply cl_plain
    case hs => rfl
    case ha => (simp only [zab, zac, prepV, prepC, idx, hpL', lookR, zaa, if_true, if_false]; rfl)
    case h => (first | exact n1 .. | exact n2 .. | exact a1 .. | exact n3 .. | exact n4 .. | exact a2 ..))
 | (apply cl_lend
    case hr => (simp only [zab, zac, hpL', lookR, zaa, if_true, if_false]; first | exact map1 _ | exact map2 _ _ | exact map3 _ _ _)
    case ha => (simp only [zab, zac, prepV, prepC, idx, hpL', lookR, zaa, if_true, if_false]; rfl)
    case hs => rfl
    case hn => decide
    case h => (first | exact n1 .. | exact n2 .. | exact a1 .. | exact n3 .. | exact n4 .. | exact a2 ..)
    case hf => (simp only [zad, zae, false_implies, implies_true, and_true, true_and, flat_cons, flat_nil, flat_ints, flat_bools, flat_app, Cs_flat, zaB, and_self, eq_self_iff_true, zah])
    case hl => (simp only [zay, zap]; decide))
 | ((first | refine s1_id ?_ | refine swp_id ?_ | refine sops_id ?_ | refine s2_id ?_); simp only [decide_eq_true c, e2, lendT, g1, g2, dice, zaU, decide_eq_false hea, decide_eq_false her, zaQ, zaT, zah, zau, zaC, zaO, zaP, zaN, zaV, zaZ, zay, zap, go_sem, zaa, zam, zan, zao, zaq, zaj, ↓reduceIte, reduceCtorEq, zaf, zai, zar, zas, zat, zaM, zaL, zaD, zaK, renO, bk, back, outUpsFrom, Ints_ren])
 | (intros; omega)
 | (intros; (try simp only [zaG, zaI, zaE, zaF, zaz, zaA, decide_eq_true_eq, decide_eq_false_iff_not] at *); omega))
        refine le_mk (m, ((l2, n2'), (nxA L (nxA L j2 6) l2.length))) ?_ ⟨hI, hBB, by show m ≤ N; omega⟩ (zbg m)
        (refine imp_ren _ _ _ [(0, 0, dice L (nxA L (nxA L j2 6) l2.length)), (1, 1, ⟨[.sc (.slice none 0 0), int 0], 2⟩), (2, 2, ⟨[.gsl (Cs l2) 0 l2.length none, int n2'], 2⟩)] (by simp) (by simp) (by simp) (zax rfl) ?_ rfl (by simp only [zad, zae, false_implies, implies_true, and_true, zaR, lookR, zaa, if_true, if_false, ↓reduceIte, dice] <;> (repeat' apply zag) <;> (first | rfl | trivial)) (by simp only [zad, zae, false_implies, implies_true, and_true, true_and, flat_cons, flat_nil, flat_ints, flat_bools, flat_app, zaB, and_self, eq_self_iff_true, zah, dice]); simp only [zab, zac, zad, zae, false_implies, implies_true, and_true, lk, slot, zaM, zaD, toN, zaa, if_true, if_false, ↓reduceIte, reduceCtorEq])
        all_goals ((repeat' apply zag) <;> (first | rfl | trivial | (simp only []; done) | (simp only []; rfl) | (simp only []; trivial)))
    · rw [if_neg hb] at htr2
      rw [decide_eq_false (by omega : ¬ nxV L j2 6 = 6 - 1)] at n3
      obtain ⟨e1, rfl⟩ := Prod.mk.inj htr2
      obtain ⟨rfl, rfl⟩ := Prod.mk.inj e1
      simp only [go_sem, zaa, zam, zan, zao, zaq, zaj, ↓reduceIte, reduceCtorEq, zaf, zai, zar, zas, zat, decide_eq_true c, e2, lendT, g1, g2, zaU, decide_eq_false hea]
      repeat' (first
 | with_reducible refine zag ?_ ?_
 | (unfold OKC; kernel_rfl)
 | (unfold EDG; kernel_rfl)
 | (apply cl_plain
    case hs => rfl
    case ha => (simp only [zab, zac, prepV, prepC, idx, hpL', lookR, zaa, if_true, if_false]; rfl)
    case h => (first | exact n1 .. | exact n2 .. | exact a1 .. | exact n3 ..))
 | (apply cl_lend
    case hr => (simp only [zab, zac, hpL', lookR, zaa, if_true, if_false]; first | exact map1 _ | exact map2 _ _ | exact map3 _ _ _)
    case ha => (simp only [zab, zac, prepV, prepC, idx, hpL', lookR, zaa, if_true, if_false]; rfl)
    case hs => rfl
    case hn => decide
    case h => (first | exact n1 .. | exact n2 .. | exact a1 .. | exact n3 ..)
    case hf => (simp only [zad, zae, false_implies, implies_true, and_true, true_and, flat_cons, flat_nil, flat_ints, flat_bools, flat_app, Cs_flat, zaB, and_self, eq_self_iff_true, zah])
    case hl => (simp only [zay, zap]; decide))
 | ((first | refine s1_id ?_ | refine swp_id ?_ | refine sops_id ?_ | refine s2_id ?_); simp only [decide_eq_true c, e2, lendT, g1, g2, dice, zaU, decide_eq_false hea, zaQ, zaT, zah, zau, zaC, zaO, zaP, zaN, zaV, zaZ, zay, zap, go_sem, zaa, zam, zan, zao, zaq, zaj, ↓reduceIte, reduceCtorEq, zaf, zai, zar, zas, zat, zaM, zaL, zaD, zaK, renO, bk, back, outUpsFrom, Ints_ren])
 | (intros; omega)
 | (intros; (try simp only [zaG, zaI, zaE, zaF, zaz, zaA, decide_eq_true_eq, decide_eq_false_iff_not] at *); omega))
      refine le_mk (m, ((l2, n2'), (nxA L j2 6))) ?_ ⟨hI, hBB, by show m ≤ N; omega⟩ (zbg m)
      (refine imp_ren _ _ _ [(0, 0, dice L (nxA L j2 6)), (1, 1, ⟨[.sc (.slice none 0 0), int 0], 2⟩), (2, 2, ⟨[.gsl (Cs l2) 0 l2.length none, int n2'], 2⟩)] (by simp) (by simp) (by simp) (zax rfl) ?_ rfl (by simp only [zad, zae, false_implies, implies_true, and_true, zaR, lookR, zaa, if_true, if_false, ↓reduceIte, dice] <;> (repeat' apply zag) <;> (first | rfl | trivial)) (by simp only [zad, zae, false_implies, implies_true, and_true, true_and, flat_cons, flat_nil, flat_ints, flat_bools, flat_app, zaB, and_self, eq_self_iff_true, zah, dice]); simp only [zab, zac, zad, zae, false_implies, implies_true, and_true, lk, slot, zaM, zaD, toN, zaa, if_true, if_false, ↓reduceIte, reduceCtorEq])
      all_goals ((repeat' apply zag) <;> (first | rfl | trivial | (simp only []; done) | (simp only []; rfl) | (simp only []; trivial)))
end Go.Proofs.Ytlajelbiniakpaa
-- NEWGO
-- PRUNE: cl_lendx cl_use
-- ISG: Cs_isG
-- FLAT: Cs_flat
namespace Go.Proofs.Ytlajelbiniakpaa
set_option linter.unusedVariables false
set_option linter.unusedSimpArgs false
open Go.Proofs.Ytlajelbiniakpaa.Sh
set_option maxRecDepth 20000
theorem fd_ix {l : List Nd} {n id : Int} (h : VT l n) (hb : bsF Nd.i l id = true) : fdM l n id = (gN l (bsV Nd.i l id), true) := by
  obtain ⟨h1, h2⟩ := bsF_at Nd.i l id hb
  have h2' : (gN l (bsV Nd.i l id)).i = id := h2
  unfold fdM
  rw [(chkT_iff l n).2 h, if_pos rfl]
  have : l.find? (hasI id) = some (gN l (bsV Nd.i l id)) := by
    rw [List.find?_eq_some_iff_getElem]
    refine ⟨decide_eq_true h2', bsV Nd.i l id, h1, (getD_at l _ zn h1).symm, fun j hj => ?_⟩
    have h3 := h.asc j _ hj h1
    rw [h2', show gN l j = l[j] from getD_at l j zn (by omega)] at h3
    simp only [zaE, decide_eq_false_iff_not]; omega
  rw [this]
theorem fd_no {l : List Nd} {n id : Int} (h : VT l n) (hb : bsF Nd.i l id = false) : fdM l n id = (zn, false) := by
  unfold fdM
  rw [(chkT_iff l n).2 h, if_pos rfl]
  rw [bs_any Nd.i l (fun i j hij hj => h.asc i j hij hj) id] at hb
  rw [List.find?_eq_none.2 fun x hx e => List.any_eq_false.1 hb x hx e]
theorem hasM_bs {l : List Nd} {n id : Int} (h : VT l n) : hasM l n id = bsF Nd.i l id := by
  rw [bs_any Nd.i l (fun i j hij hj => h.asc i j hij hj) id]
  unfold hasM
  rw [(chkT_iff l n).2 h, Bool.true_and]
set_option maxHeartbeats 8000000 in
theorem tfind_spec (l : List Nd) (n id : Int) (hl : l.length ≤ 1000000) (hnm : NmR l) (hct : CtR l) : FnSpec Try.prog 59 [trV l none n, i1 id] [] (.tup [.agg (ndc (fdM l n id).1), b1 (fdM l n id).2]) [] := by
  have h1 := tchk_spec l n hl hnm hct
  have h2 := index_spec l none id hl
  have hnl := nd_len l
  cases hb : bsF Nd.i l id with
  | false =>
    have e : fdM l n id = (zn, false) := by
      cases hc : chkT l n with
      | false => unfold fdM; rw [hc]; rfl
      | true => exact fd_no ((chkT_iff l n).1 hc) hb
    rw [e]
    rw [hb] at h2
    generalize bsV Nd.i l id = v at *
    refine fnspec_of mixed TT_ok TT_cl ⟨fun _ => false, fun _ => [], 0, fun _ => false, fun _ => false⟩ Try.func59 rfl (by kernel_rfl) rfl 28 rfl [.cell 4 44, .tmp 5] rfl ?_
    simp only [go_sem, zaa, zam, zan, zao, zaq, zaj, ↓reduceIte, reduceCtorEq, zaf, zai, zar, zas, zat]
    repeat' (first
 | with_reducible refine zag ?_ ?_
 | (apply cl_plain
    case hs => rfl
    case ha => (simp only [zab, zac, prepV, prepC, idx, hpL', lookR, zaa, if_true, if_false]; rfl)
    case h => (first | exact h2 ..))
 | ((first | refine s1_id ?_ | refine swp_id ?_ | refine sops_id ?_ | refine s2_id ?_); simp only [zaQ, zaT, zah, zau, zaC, zaO, zaP, zaN, zaV, zaZ, zay, zap, go_sem, zaa, zam, zan, zao, zaq, zaj, ↓reduceIte, reduceCtorEq, zaf, zai, zar, zas, zat, zaM, zaL, zaD, zaK, renO, bk, back, outUpsFrom, Ints_ren])
 | (intros; omega)
 | (apply fs_nil <;> (try simp only [go_sem, resV, resS, zaM, zaL, zaD, zba, zaR, idx, renO, zaK, evS, slot, lookR, zaa, ↓reduceIte, reduceCtorEq, if_true, if_false, zav, zaw, zab, zac, sLoad, readAt, readNeed, Ints_ren, Ints_length, Ints_getD, and_true, true_and, zak, zal]) <;> (try rfl))
 | fail)
  | true =>
  rw [hb] at h2
  cases hc : chkT l n with
  | false =>
    have e : fdM l n id = (zn, false) := by unfold fdM; rw [hc]; rfl
    rw [e]
    rw [hc] at h1
    generalize bsV Nd.i l id = v at *
    refine fnspec_of mixed TT_ok TT_cl ⟨fun _ => false, fun _ => [], 0, fun _ => false, fun _ => false⟩ Try.func59 rfl (by kernel_rfl) rfl 28 rfl [.cell 4 44, .tmp 5] rfl ?_
    simp only [go_sem, zaa, zam, zan, zao, zaq, zaj, ↓reduceIte, reduceCtorEq, zaf, zai, zar, zas, zat]
    repeat' (first
 | with_reducible refine zag ?_ ?_
 | (apply cg_tp
    case hl => rfl
    case ha => (simp only [zab, zac, prepV, prepC, idx, hpL', lookR, zaa, if_true, if_false]; rfl)
    case hs => rfl
    case h => (first | exact h1 .. | exact h2 ..))
 | (apply cl_plain
    case hs => rfl
    case ha => (simp only [zab, zac, prepV, prepC, idx, hpL', lookR, zaa, if_true, if_false]; rfl)
    case h => (first | exact h1 .. | exact h2 ..))
 | ((first | refine s1_id ?_ | refine swp_id ?_ | refine sops_id ?_ | refine s2_id ?_); simp only [zaQ, zaT, zah, zau, zaC, zaO, zaP, zaN, zaV, zaZ, zay, zap, go_sem, zaa, zam, zan, zao, zaq, zaj, ↓reduceIte, reduceCtorEq, zaf, zai, zar, zas, zat, zaM, zaL, zaD, zaK, renO, bk, back, outUpsFrom, Ints_ren])
 | (intros; omega)
 | (apply fs_nil <;> (try simp only [go_sem, resV, resS, zaM, zaL, zaD, zba, zaR, idx, renO, zaK, evS, slot, lookR, zaa, ↓reduceIte, reduceCtorEq, if_true, if_false, zav, zaw, zab, zac, sLoad, readAt, readNeed, Ints_ren, Ints_length, Ints_getD, and_true, true_and, zak, zal]) <;> (try rfl))
 | fail)
  | true =>
  rw [fd_ix ((chkT_iff l n).1 hc) hb]
  rw [hc] at h1
  have hlt := (bsF_at Nd.i l id hb).1
  generalize bsV Nd.i l id = v at *
  have hN := nd_td l v hlt
  generalize gN l v = x at *
  obtain ⟨xi, xp, xn, xc, xk, xo⟩ := x
  simp only [ndc] at hN ⊢
  refine fnspec_of mixed TT_ok TT_cl ⟨fun _ => false, fun _ => [], 0, fun _ => false, fun _ => false⟩ Try.func59 rfl (by kernel_rfl) rfl 28 rfl [.cell 4 44, .tmp 5] rfl ?_
  simp only [go_sem, zaa, zam, zan, zao, zaq, zaj, ↓reduceIte, reduceCtorEq, zaf, zai, zar, zas, zat, hN]
  repeat' (first
 | with_reducible refine zag ?_ ?_
 | (apply cg_tp
    case hl => rfl
    case ha => (simp only [zab, zac, prepV, prepC, idx, hpL', lookR, zaa, if_true, if_false]; rfl)
    case hs => rfl
    case h => (first | exact h1 .. | exact h2 ..))
 | (apply cl_plain
    case hs => rfl
    case ha => (simp only [zab, zac, prepV, prepC, idx, hpL', lookR, zaa, if_true, if_false]; rfl)
    case h => (first | exact h1 .. | exact h2 ..))
 | ((first | refine s1_id ?_ | refine swp_id ?_ | refine sops_id ?_ | refine s2_id ?_); simp only [hN, zaQ, zaT, zah, zau, zaC, zaO, zaP, zaN, zaV, zaZ, zay, zap, go_sem, zaa, zam, zan, zao, zaq, zaj, ↓reduceIte, reduceCtorEq, zaf, zai, zar, zas, zat, zaM, zaL, zaD, zaK, renO, bk, back, outUpsFrom, Ints_ren])
 | (intros; omega)
 | (apply fs_nil <;> (try simp only [go_sem, resV, resS, zaM, zaL, zaD, zba, zaR, idx, renO, zaK, evS, slot, lookR, zaa, ↓reduceIte, reduceCtorEq, if_true, if_false, zav, zaw, zab, zac, sLoad, readAt, readNeed, Ints_ren, Ints_length, Ints_getD, and_true, true_and, zak, zal]) <;> (try rfl))
 | fail)
def upT (l : List Nd) (t : Nat) : List Int := if t = 0 then [] else upL l (gN l t).p
theorem VT.upT {l : List Nd} {n : Int} (h : VT l n) {t : Nat} (ht : t < l.length) : upL l (gN l t).i = (gN l t).i :: upT l t := by
  unfold Go.Proofs.Ytlajelbiniakpaa.upT
  by_cases h0 : t = 0
  · subst h0
    rw [if_pos rfl, h.root.1, h.up0]
  · rw [if_neg h0, h.up ht h0]
set_option maxHeartbeats 16000000 in
theorem tanc_spec (l : List Nd) (n id : Int) (hl : l.length ≤ 1000000) (hnm : NmR l) (hct : CtR l) : FnSpec Try.prog 41 [trV l none n, i1 id] [] (gi (ancM l n id) none) [] := by
  have h1 := tfind_spec l n id hl hnm hct
  have h2 := fdM_2 l n id
  have hnl := nd_len l
  unfold ancM
  cases hh : hasM l n id with
  | false =>
    rw [hh] at h2
    rw [if_neg Bool.false_ne_true]
    generalize fdM l n id = u at *
    obtain ⟨⟨xi, xp, xn, xc, xk, xo⟩, b⟩ := u
    simp only at h2
    subst h2
    simp only [ndc] at h1
    refine fnspec_of mixed TT_ok TT_cl ⟨fun _ => false, fun _ => [], 0, fun _ => false, fun _ => false⟩ Try.func41 rfl (by kernel_rfl) rfl 42 rfl [.tmp 4] rfl ?_
    simp only [go_sem, zaa, zam, zan, zao, zaq, zaj, ↓reduceIte, reduceCtorEq, zaf, zai, zar, zas, zat]
    repeat' (first
 | (apply cl_plain
    case hs => rfl
    case ha => (simp only [zab, zac, prepV, prepC, idx, hpL', lookR, zaa, if_true, if_false]; rfl)
    case h => (first | exact h1 ..))
 | ((first | refine s1_id ?_ | refine swp_id ?_ | refine sops_id ?_ | refine s2_id ?_); simp only [zaQ, zaT, zah, zau, zaC, zaO, zaP, zaN, zaV, zaZ, zay, zap, go_sem, zaa, zam, zan, zao, zaq, zaj, ↓reduceIte, reduceCtorEq, zaf, zai, zar, zas, zat, zaM, zaL, zaD, zaK, renO, bk, back, outUpsFrom, Ints_ren])
 | (intros; (try simp only [zaG, zaI, zaE, zaF, zaz, zaA, decide_eq_true_eq, decide_eq_false_iff_not] at *); omega))
    repeat' (first
 | exact fs_w trivial (svw_of cw_gnil)
 | fail)
  | true =>
  rw [if_pos rfl]
  have hk : chkT l n = true := (hasM_iff.1 hh).1
  have hV := (chkT_iff l n).1 hk
  have hb : bsF Nd.i l id = true := by rw [← hasM_bs hV, hh]
  obtain ⟨b1', b2'⟩ := bsF_at Nd.i l id hb
  rw [fd_ix hV hb] at h1
  generalize bsV Nd.i l id = v at *
  have e0 : (gN l v).i = id := b2'
  have hu := hV.upT b1'
  rw [e0] at hu
  obtain ⟨U, hU⟩ : ∃ U, upL l id = U := ⟨_, rfl⟩
  have hUl : U.length ≤ l.length := by rw [← hU]; have := upR_len l.reverse id; rw [List.length_reverse] at this; exact this
  rw [hU] at hu ⊢
  simp only at h1
  generalize hx : gN l v = x at *
  obtain ⟨xi, xp, xn, xc, xk, xo⟩ := x
  simp only [ndc] at h1
  refine fnspec_of mixed TT_ok TT_cl ⟨fun _ => false, fun _ => [], 0, fun _ => false, fun _ => false⟩ Try.func41 rfl (by kernel_rfl) rfl 42 rfl [.tmp 4] rfl ?_
  simp only [go_sem, zaa, zam, zan, zao, zaq, zaj, ↓reduceIte, reduceCtorEq, zaf, zai, zar, zas, zat]
  repeat' (first
 | (apply cl_plain
    case hs => rfl
    case ha => (simp only [zab, zac, prepV, prepC, idx, hpL', lookR, zaa, if_true, if_false]; rfl)
    case h => (first | exact h1 ..))
 | ((first | refine s1_id ?_ | refine swp_id ?_ | refine sops_id ?_ | refine s2_id ?_); simp only [zaQ, zaT, zah, zau, zaC, zaO, zaP, zaN, zaV, zaZ, zay, zap, go_sem, zaa, zam, zan, zao, zaq, zaj, ↓reduceIte, reduceCtorEq, zaf, zai, zar, zas, zat, zaM, zaL, zaD, zaK, renO, bk, back, outUpsFrom, Ints_ren])
 | (intros; (try simp only [zaG, zaI, zaE, zaF, zaz, zaA, decide_eq_true_eq, decide_eq_false_iff_not] at *); omega))
  refine w_loop (ι := Nat × List Int) (fun s => ⟨[(2, .one (.optr 0 0)), (5, .one (.optr 1 0)), (7, .one (.osl 2 0 s.2.length none))], [(0, some ⟨[.gsl (Cs l) 0 l.length none, int n], 2⟩), (1, some ⟨ndc (gN l s.1), 6⟩), (2, some ⟨Ints s.2, 1⟩)], 3⟩) (fun s => s.1 < l.length ∧ U = s.2 ++ upT l s.1) (fun s => s.1) (v, [id]) ?_ ⟨b1', hu⟩ ?_
  · refine Imp.trans (t := ⟨[(2, .one (.optr 0 0)), (5, .one (.optr 1 0)), (7, .one (.osl 2 0 1 (some 1)))], [(0, some ⟨[.gsl (Cs l) 0 l.length none, int n], 2⟩), (1, some ⟨[int xi, int xp, st xn, int xc, int xk, int xo], 6⟩), (2, some ⟨Ints [id], 1⟩)], 3⟩) ?_ (imp_w _ _ _ ?_ (by rw [hx]) (zbf _))
    · skip
      (refine imp_ren _ _ _ [(0, 0, ⟨[.gsl (Cs l) 0 l.length none, int n], 2⟩), (1, 8, ⟨[int xi, int xp, st xn, int xc, int xk, int xo], 6⟩), (2, 14, ⟨Ints [id], 1⟩)] (by simp) (by simp) (by simp) (zax rfl) ?_ rfl (by simp only [zad, zae, false_implies, implies_true, and_true, zaR, lookR, zaa, if_true, if_false, ↓reduceIte] <;> (repeat' apply zag) <;> (first | rfl | trivial)) (by simp only [zad, zae, false_implies, implies_true, and_true, true_and, flat_cons, flat_nil, flat_ints, flat_bools, flat_app, zaB, and_self, eq_self_iff_true, zah]); simp only [zab, zac, zad, zae, false_implies, implies_true, and_true, lk, slot, zaM, zaD, toN, zaa, if_true, if_false, ↓reduceIte, reduceCtorEq])
      all_goals ((repeat' apply zag) <;> (first | rfl | trivial))
    · intro x hx
      simp only [List.mem_cons, zae, or_false] at hx
      rcases hx with rfl | rfl | rfl <;> first | exact ⟨_, rfl, SVW.refl _⟩ | exact ⟨_, rfl, svw_of (cw_ocap _ _ _ _)⟩
  clear h1 hx hu e0
  rintro ⟨t, W⟩ ⟨ht, hW⟩
  simp only at ht hW ⊢
  have hWl : W.length ≤ l.length := by rw [hW, zbe] at hUl; omega
  by_cases h0 : t = 0
  · subst h0
    have hr := hV.root.1
    rw [show upT l 0 = [] from rfl, zah] at hW
    subst hW
    generalize gN l 0 = y at *
    obtain ⟨yi, yp, yn, yc, yk, yo⟩ := y
    simp only at hr
    subst hr
    simp only [go_sem, zaa, zam, zan, zao, zaq, zaj, ↓reduceIte, reduceCtorEq, zaf, zai, zar, zas, zat, ndc]
    repeat' (first
 | (intros; (try simp only [zaG, zaI, zaE, zaF, zaz, zaA, decide_eq_true_eq, decide_eq_false_iff_not] at *); omega))
    (refine fs_frz 2 ⟨Ints U, 1⟩ (by simp only [zaR, lookR, zaa, if_true, if_false, ↓reduceIte]) (by first | exact Ints_isG _ | exact Bools_isG _ | exact Cs_isG _ | (simp [zaY]; done)) ?_; simp only [frzTm, SV.frz, SV.frzL, Cell.frz, frzHp, frzO, Ints_frz, Bools_frz, zab, zac, zaa, if_true, if_false, ↓reduceIte])
    apply fs_nil <;> (try simp only [go_sem, resV, resS, zaM, zaL, zaD, zba, zaR, idx, renO, zaK, evS, slot, lookR, zaa, ↓reduceIte, reduceCtorEq, if_true, if_false, zav, zaw, zab, zac, sLoad, readAt, readNeed, Ints_ren, Ints_length, Ints_getD, and_true, true_and, zak, zal]) <;> (try rfl)
  · have hne : ¬ (gN l t).i = 1 := by
      have := hV.asc 0 t (by omega) ht
      rw [hV.root.1] at this; omega
    obtain ⟨j, hj, hp⟩ := (hV.ch ht h0).par
    obtain ⟨q1, q2⟩ := bs_found Nd.i l (fun i j hij hj => hV.asc i j hij hj) j (by omega)
    have q1' : bsV Nd.i l (gN l j).i = j := q1
    have q2' : bsF Nd.i l (gN l j).i = true := q2
    have h3 := index_spec l none (gN l j).i hl
    rw [q1', q2', hp] at h3
    have hW2 : U = (W ++ [(gN l t).p]) ++ upT l j := by
      rw [hW, show upT l t = upL l (gN l t).p from if_neg h0, ← hp, hV.upT (by omega), List.append_assoc]; rfl
    have hN := nd_td l j (by omega)
    generalize gN l t = y at *
    obtain ⟨yi, yp, yn, yc, yk, yo⟩ := y
    simp only at hne h3 hW2 hp
    have htk : List.take W.length (Ints W) = Ints W := zbd (by rw [Ints_length]; exact zbf _)
    have hpp : Ints W ++ [int yp] = Ints (W ++ [yp]) := by simp [Ints]
    have hla : (W ++ [yp]).length = W.length + 1 := by simp
    simp only [go_sem, zaa, zam, zan, zao, zaq, zaj, ↓reduceIte, reduceCtorEq, zaf, zai, zar, zas, zat, ndc, decide_eq_false hne, hN]
    repeat' (first
 | with_reducible refine zag ?_ ?_
 | (apply cl_plain
    case hs => rfl
    case ha => (simp only [zab, zac, prepV, prepC, idx, hpL', lookR, zaa, if_true, if_false]; rfl)
    case h => (first | exact h3 ..))
 | ((first | refine s1_id ?_ | refine swp_id ?_ | refine sops_id ?_ | refine s2_id ?_); simp only [ndc, decide_eq_false hne, htk, hpp, hN, zaQ, zaT, zah, zau, zaC, zaO, zaP, zaN, zaV, zaZ, zay, zap, go_sem, zaa, zam, zan, zao, zaq, zaj, ↓reduceIte, reduceCtorEq, zaf, zai, zar, zas, zat, zaM, zaL, zaD, zaK, renO, bk, back, outUpsFrom, Ints_ren])
 | (intros; omega)
 | (intros; (try simp only [zaG, zaI, zaE, zaF, zaz, zaA, decide_eq_true_eq, decide_eq_false_iff_not] at *); omega))
    refine le_mk (j, W ++ [yp]) ?_ ⟨by omega, hW2⟩ hj
    simp only [hla]
    (refine imp_ren _ _ _ [(0, 0, ⟨[.gsl (Cs l) 0 l.length none, int n], 2⟩), (1, 1, ⟨ndc (gN l j), 6⟩), (2, 10, ⟨Ints (W ++ [yp]), 1⟩)] (by simp) (by simp) (by simp) (zax rfl) ?_ rfl (by simp only [zad, zae, false_implies, implies_true, and_true, zaR, lookR, zaa, if_true, if_false, ↓reduceIte, ndc] <;> (repeat' apply zag) <;> (first | rfl | trivial)) (by simp only [zad, zae, false_implies, implies_true, and_true, true_and, flat_cons, flat_nil, flat_ints, flat_bools, flat_app, zaB, and_self, eq_self_iff_true, zah, ndc]); simp only [zab, zac, zad, zae, false_implies, implies_true, and_true, lk, slot, zaM, zaD, toN, zaa, if_true, if_false, ↓reduceIte, reduceCtorEq])
    all_goals ((repeat' apply zag) <;> (first | rfl | trivial | (simp only [ndc]; done) | (simp only [ndc]; rfl) | (simp only [ndc]; trivial)))
end Go.Proofs.Ytlajelbiniakpaa
-- NEWGO
-- PRUNE: cl_lendx cl_use
-- ISG: Cs_isG
-- FLAT: Cs_flat
namespace Go.Proofs.Ytlajelbiniakpaa
set_option linter.unusedVariables false
set_option linter.unusedSimpArgs false
open Go.Proofs.Ytlajelbiniakpaa.Sh
set_option maxRecDepth 20000
theorem agg_sl (e : Nat) : (TK.slice e).isAgg = false := rfl
theorem bel_kids (l : List Nd) (g : Int) : (mget (.int .i64 g) (gcN (belowM l)) = none ∧ kidsL l g = []) ∨ mget (.int .i64 g) (gcN (belowM l)) = some (.gsl (Ints (kidsL l g)) 0 (kidsL l g).length none) := by
  have := mget_gc g (belowM l)
  rw [belowM_kg] at this
  exact this
end Go.Proofs.Ytlajelbiniakpaa
-- NEWGO
-- PRUNE: cl_lendx cl_use
-- ISG: Cs_isG
-- FLAT: hfl
namespace Go.Proofs.Ytlajelbiniakpaa
set_option linter.unusedVariables false
set_option linter.unusedSimpArgs false
open Go.Proofs.Ytlajelbiniakpaa.Sh
set_option maxRecDepth 20000
set_option maxHeartbeats 16000000 in
theorem walk_spec (l : List Nd) (n : Int) (h : VT l n) : ∀ (f i : Nat), i < l.length → l.length - i ≤ f → FnSpec Try.prog 74 [.one (.mp 0 false), i1 (gN l i).i] [⟨gcN (belowM l), 0⟩] (gi (subF l f (gN l i).i) none) [some ⟨gcN (belowM l), 0⟩]
  | 0, i, hi, hf => absurd hf (by omega)
  | f + 1, i, hi, hf => by
    have ih : ∀ x ∈ kidsL l (gN l i).i, FnSpec Try.prog 74 [.one (.mp 0 false), i1 x] [⟨gcN (belowM l), 0⟩] (gi (subF l f x) none) [some ⟨gcN (belowM l), 0⟩] := fun x hx => by
      obtain ⟨j, hj, hp, rfl⟩ := kidsL_mem.1 hx
      exact walk_spec l n h f j hj (by have := h.kid hi hj hp; omega)
    have hlen := subF_len h (f + 1) i hi
    have hun : subF l (f + 1) (gN l i).i = (gN l i).i :: (kidsL l (gN l i).i).flatMap (subF l f) := rfl
    rw [hun] at hlen ⊢
    have hle := h.le
    have hmk := mkeys_gc (belowM l)
    have hk := bel_kids l (gN l i).i
    have hfl := gcN_flat (belowM l)
    have hren : ∀ ρ, (gcN (belowM l)).map (zaD ρ) = gcN (belowM l) := fun ρ => flat_ren (gcN_flat _) ρ
    have hfrz : ∀ r cs, (gcN (belowM l)).map (Cell.frz r cs) = gcN (belowM l) := fun r cs => map_id_of (fun c hc => isG_frz (gcN_g _ c hc) r cs)
    have hkl := kidsL_len l (gN l i).i
    generalize (gN l i).i = id' at *
    generalize kidsL l id' = K at *
    generalize gcN (belowM l) = M at *
    have hun2 : ∀ m, m < K.length → (id' :: (K.take (m + 1)).flatMap (subF l f)) = (id' :: (K.take m).flatMap (subF l f)) ++ subF l f (K.getD m 0) := fun m hm => by
      rw [take_getD K m 0 hm, List.flatMap_append, List.flatMap_singleton]; rfl
    have hlm : ∀ m, (id' :: (K.take m).flatMap (subF l f)).length ≤ l.length := fun m => by
      refine Nat.le_trans ?_ hlen
      rw [zay, zay]
      have e : K = K.take m ++ K.drop m := (List.take_append_drop m K).symm
      rw [show (K.flatMap (subF l f)) = (K.take m).flatMap (subF l f) ++ (K.drop m).flatMap (subF l f) by rw [← List.flatMap_append, ← e], zbe]
      omega
    clear hun hlen
    rcases hk with ⟨e1, hK⟩ | e1
    focus
      refine fnspec_of mixed TT_ok TT_cl ⟨fun _ => false, fun f => if f = 74 then [0] else [], 1, fun _ => false, fun _ => false⟩ Try.func74 rfl (by kernel_rfl) rfl 25 rfl [.tmp 4] rfl ?_
      simp only [go_sem, zaa, zam, zan, zao, zaq, zaj, ↓reduceIte, reduceCtorEq, zaf, zai, zar, zas, zat, e1, hmk, hren, agg_sl, mval_none]
      repeat' (first
 | (intros; (try simp only [zaG, zaI, zaE, zaF, zaz, zaA, decide_eq_true_eq, decide_eq_false_iff_not] at *); omega))
      refine w_loop (ι := Nat) (fun m => ⟨[(0, .one (.mp 0 false)), (5, .one (.osl 1 0 (id' :: (K.take m).flatMap (subF l f)).length none)), (12, gi K none), (13, i1 K.length), (14, i1 m)], [(0, some ⟨M, 0⟩), (1, some ⟨Ints (id' :: (K.take m).flatMap (subF l f)), 1⟩)], 2⟩) (fun m => m ≤ K.length) (fun m => K.length - m) 0 ?_ (zbh _) ?_
      focus
        refine Imp.trans (t := ⟨[(0, .one (.mp 0 false)), (5, .one (.osl 1 0 1 (some 1))), (12, .one (.sc (.slice none 0 0))), (13, i1 (0 : Nat)), (14, i1 (0 : Nat))], [(0, some ⟨M, 0⟩), (1, some ⟨Ints [id'], 1⟩)], 2⟩) ?_ (imp_w _ _ _ ?_ rfl (zbf _))
        · skip
          (refine imp_ren _ _ _ [(0, 0, ⟨M, 0⟩), (1, 3, ⟨Ints [id'], 1⟩)] (by simp) (by simp) (by simp) (zax rfl) ?_ rfl (by simp only [zad, zae, false_implies, implies_true, and_true, zaR, lookR, zaa, if_true, if_false, ↓reduceIte, hfl] <;> (repeat' apply zag) <;> (first | rfl | trivial)) (by simp only [zad, zae, false_implies, implies_true, and_true, true_and, flat_cons, flat_nil, flat_ints, flat_bools, flat_app, zaB, and_self, eq_self_iff_true, zah, hfl]); simp only [zab, zac, zad, zae, false_implies, implies_true, and_true, lk, slot, zaM, zaD, toN, zaa, if_true, if_false, ↓reduceIte, reduceCtorEq])
          all_goals ((repeat' apply zag) <;> (first | rfl | trivial))
        · rw [hK]
          intro x hx
          simp only [List.mem_cons, zae, or_false] at hx
          rcases hx with rfl | rfl | rfl | rfl | rfl <;> first | exact ⟨_, rfl, SVW.refl _⟩ | exact ⟨_, rfl, svw_of (cw_ocap _ _ _ _)⟩ | exact ⟨_, rfl, svw_of cw_gnil⟩
    rotate_left
    focus
      refine fnspec_of mixed TT_ok TT_cl ⟨fun _ => false, fun f => if f = 74 then [0] else [], 1, fun _ => false, fun _ => false⟩ Try.func74 rfl (by kernel_rfl) rfl 25 rfl [.tmp 4] rfl ?_
      simp only [go_sem, zaa, zam, zan, zao, zaq, zaj, ↓reduceIte, reduceCtorEq, zaf, zai, zar, zas, zat, e1, hmk, hren, agg_sl, mval_some]
      repeat' (first
 | (intros; (try simp only [zaG, zaI, zaE, zaF, zaz, zaA, decide_eq_true_eq, decide_eq_false_iff_not] at *); omega))
      refine w_loop (ι := Nat) (fun m => ⟨[(0, .one (.mp 0 false)), (5, .one (.osl 1 0 (id' :: (K.take m).flatMap (subF l f)).length none)), (12, gi K none), (13, i1 K.length), (14, i1 m)], [(0, some ⟨M, 0⟩), (1, some ⟨Ints (id' :: (K.take m).flatMap (subF l f)), 1⟩)], 2⟩) (fun m => m ≤ K.length) (fun m => K.length - m) 0 ?_ (zbh _) ?_
      focus
        refine Imp.trans (t := ⟨[(0, .one (.mp 0 false)), (5, .one (.osl 1 0 1 (some 1))), (12, gi K none), (13, i1 K.length), (14, i1 (0 : Nat))], [(0, some ⟨M, 0⟩), (1, some ⟨Ints [id'], 1⟩)], 2⟩) ?_ (imp_w _ _ _ ?_ rfl (zbf _))
        · skip
          (refine imp_ren _ _ _ [(0, 0, ⟨M, 0⟩), (1, 3, ⟨Ints [id'], 1⟩)] (by simp) (by simp) (by simp) (zax rfl) ?_ rfl (by simp only [zad, zae, false_implies, implies_true, and_true, zaR, lookR, zaa, if_true, if_false, ↓reduceIte, hfl] <;> (repeat' apply zag) <;> (first | rfl | trivial)) (by simp only [zad, zae, false_implies, implies_true, and_true, true_and, flat_cons, flat_nil, flat_ints, flat_bools, flat_app, zaB, and_self, eq_self_iff_true, zah, hfl]); simp only [zab, zac, zad, zae, false_implies, implies_true, and_true, lk, slot, zaM, zaD, toN, zaa, if_true, if_false, ↓reduceIte, reduceCtorEq])
          all_goals ((repeat' apply zag) <;> (first | rfl | trivial))
        · intro x hx
          simp only [List.mem_cons, zae, or_false] at hx
          rcases hx with rfl | rfl | rfl | rfl | rfl <;> first | exact ⟨_, rfl, SVW.refl _⟩ | exact ⟨_, rfl, svw_of (cw_ocap _ _ _ _)⟩
    rotate_left
    all_goals (
      intro m hm
      simp only at hm ⊢
      rcases Nat.lt_or_ge m K.length with hlt | hge
      case inr =>
        have c : ¬ (m : Int) < (K.length : Int) := by omega
        rw [zbd hge]
        simp only [go_sem, zaa, zam, zan, zao, zaq, zaj, ↓reduceIte, reduceCtorEq, zaf, zai, zar, zas, zat, decide_eq_false c]
        repeat' (first
 | (intros; (try simp only [zaG, zaI, zaE, zaF, zaz, zaA, decide_eq_true_eq, decide_eq_false_iff_not] at *); omega))
        (refine fs_frz 1 ⟨Ints (id' :: K.flatMap (subF l f)), 1⟩ (by simp only [zaR, lookR, zaa, if_true, if_false, ↓reduceIte]) (by first | exact Ints_isG _ | exact Bools_isG _ | exact Cs_isG _ | (simp [zaY]; done)) ?_; simp only [frzTm, SV.frz, SV.frzL, Cell.frz, frzHp, frzO, Ints_frz, Bools_frz, zab, zac, zaa, if_true, if_false, ↓reduceIte])
        (refine fs_flat [(0, ⟨M, 0⟩)] (by simp) (by simp only [zab, zac]; decide) (by simp only [go_sem, resV, resS, zaM, zaL, zaD, zba, zaR, idx, renO, zaK, evS, slot, lookR, zaa, ↓reduceIte, reduceCtorEq, if_true, if_false, zav, zaw, zab, zac, sLoad, readAt, readNeed, Ints_ren, Ints_length, Ints_getD, and_true, true_and, zak, zal]; try decide) ?_ (by simp only [zad, zae, false_implies, implies_true, and_true, zaR, lookR, zaa, if_true, if_false, ↓reduceIte, hfl, hfrz] <;> (repeat' apply zag) <;> (first | rfl | trivial)) (by simp only [zad, zae, false_implies, implies_true, and_true, true_and, flat_cons, flat_nil, flat_ints, flat_bools, flat_app, zaB, and_self, eq_self_iff_true, zah, hfl, hfrz]) ?_ <;> (try simp only [go_sem, resV, resS, zaM, zaL, zaD, zba, zaR, idx, renO, zaK, evS, slot, lookR, zaa, ↓reduceIte, reduceCtorEq, if_true, if_false, zav, zaw, zab, zac, sLoad, readAt, readNeed, Ints_ren, Ints_length, Ints_getD, and_true, true_and, zak, zal]) <;> (try rfl))
      have c : (m : Int) < (K.length : Int) := by omega
      have h3 := ih _ (getD_mem K m 0 hlt)
      have h4 := hun2 m hlt
      have h4l : (List.flatMap (subF l f) (List.take (m + 1) K)).length + 1 = (id' :: (K.take m).flatMap (subF l f)).length + (subF l f (K.getD m 0)).length := by rw [← zbe, ← h4, zay]
      have h5 := hlm m
      have h6 := hlm (m + 1)
      rw [h4] at h6
      generalize (id' :: (K.take m).flatMap (subF l f)) = A at *
      generalize subF l f (K.getD m 0) = B at *
      have htk : List.take A.length (Ints A) = Ints A := zbd (by rw [Ints_length]; exact zbf _)
      have htb : List.take B.length (Ints B) = Ints B := zbd (by rw [Ints_length]; exact zbf _)
      have hpp : Ints A ++ Ints B = Ints (A ++ B) := by simp [Ints]
      rw [zbe] at h6
      have hla : (A ++ B).length = A.length + B.length := zbe
      clear ih hun2 hlm
      simp only [go_sem, zaa, zam, zan, zao, zaq, zaj, ↓reduceIte, reduceCtorEq, zaf, zai, zar, zas, zat, decide_eq_true c]
      repeat' (first
 | with_reducible refine zag ?_ ?_
 | (apply cl_lend
    case hr => (simp only [zab, zac, hpL', lookR, zaa, if_true, if_false]; first | exact map1 _ | exact map2 _ _ | exact map3 _ _ _)
    case ha => (simp only [zab, zac, prepV, prepC, idx, hpL', lookR, zaa, if_true, if_false]; rfl)
    case hs => rfl
    case hn => decide
    case h => (first | exact h3 ..)
    case hf => (simp only [zad, zae, false_implies, implies_true, and_true, true_and, flat_cons, flat_nil, flat_ints, flat_bools, flat_app, hfl, zaB, and_self, eq_self_iff_true, zah])
    case hl => (simp only [zay, zap]; decide))
 | ((first | refine s1_id ?_ | refine swp_id ?_ | refine sops_id ?_ | refine s2_id ?_); simp only [decide_eq_true c, hren, htk, htb, hpp, hfl, zaQ, zaT, zah, zau, zaC, zaO, zaP, zaN, zaV, zaZ, zay, zap, go_sem, zaa, zam, zan, zao, zaq, zaj, ↓reduceIte, reduceCtorEq, zaf, zai, zar, zas, zat, zaM, zaL, zaD, zaK, renO, bk, back, outUpsFrom, Ints_ren])
 | (intros; omega)
 | (intros; (try simp only [zaG, zaI, zaE, zaF, zaz, zaA, decide_eq_true_eq, decide_eq_false_iff_not] at *); omega))
      refine le_mk (m + 1) ?_ hlt (by show K.length - (m + 1) < K.length - m; omega)
      simp only [h4, h4l, hla]
      (refine imp_ren _ _ _ [(0, 0, ⟨M, 0⟩), (1, 10, ⟨Ints (A ++ B), 1⟩)] (by simp) (by simp) (by simp) (zax rfl) ?_ rfl (by simp only [zad, zae, false_implies, implies_true, and_true, zaR, lookR, zaa, if_true, if_false, ↓reduceIte, hfl] <;> (repeat' apply zag) <;> (first | rfl | trivial)) (by simp only [zad, zae, false_implies, implies_true, and_true, true_and, flat_cons, flat_nil, flat_ints, flat_bools, flat_app, zaB, and_self, eq_self_iff_true, zah, hfl]); simp only [zab, zac, zad, zae, false_implies, implies_true, and_true, lk, slot, zaM, zaD, toN, zaa, if_true, if_false, ↓reduceIte, reduceCtorEq])
      all_goals ((repeat' apply zag) <;> (first | rfl | trivial | (simp only [zbc]; done) | (simp only [zbc]; rfl) | (simp only [zbc]; trivial))))
end Go.Proofs.Ytlajelbiniakpaa
-- NEWGO
-- PRUNE: cl_lendx cl_use
-- ISG: Cs_isG
-- FLAT: hfl
namespace Go.Proofs.Ytlajelbiniakpaa
set_option linter.unusedVariables false
set_option linter.unusedSimpArgs false
open Go.Proofs.Ytlajelbiniakpaa.Sh
set_option maxRecDepth 20000
def subM (l : List Nd) (n g : Int) : List Int := if hasM l n g = true then subF l l.length g else []
theorem subM_len (l : List Nd) (n g : Int) : (subM l n g).length ≤ l.length := by
  unfold subM
  split
  · rename_i h
    obtain ⟨hk, y, hy, rfl⟩ := hasM_iff.1 h
    obtain ⟨i, hi, rfl⟩ := gN_mem l y hy
    exact subF_len ((chkT_iff l n).1 hk) _ i hi
  · exact zbh _
set_option maxHeartbeats 8000000 in
theorem tsub_spec (l : List Nd) (n g : Int) (hl : l.length ≤ 1000000) (hnm : NmR l) (hct : CtR l) : FnSpec Try.prog 61 [trV l none n, i1 g] [] (gi (subM l n g) none) [] := by
  have hfl := gcN_flat (belowM l)
  have h1 := tfind_spec l n g hl hnm hct
  rw [fdM_2] at h1
  generalize (fdM l n g).1 = nd at *
  obtain ⟨xi, xp, xn, xc, xk, xo⟩ := nd
  simp only [ndc] at h1
  unfold subM
  cases hh : hasM l n g with
  | false =>
    rw [hh] at h1
    rw [if_neg (by decide)]
    refine fnspec_of mixed TT_ok TT_cl ⟨fun _ => false, fun _ => [], 0, fun _ => false, fun _ => false⟩ Try.func61 rfl (by kernel_rfl) rfl 19 rfl [.tmp 4] rfl ?_
    simp only [go_sem, zaa, zam, zan, zao, zaq, zaj, ↓reduceIte, reduceCtorEq, zaf, zai, zar, zas, zat]
    repeat' (first
 | (apply cl_plain
    case hs => rfl
    case ha => (simp only [zab, zac, prepV, prepC, idx, hpL', lookR, zaa, if_true, if_false]; rfl)
    case h => (first | exact h1 ..))
 | ((first | refine s1_id ?_ | refine swp_id ?_ | refine sops_id ?_ | refine s2_id ?_); simp only [zaQ, zaT, zah, zau, zaC, zaO, zaP, zaN, zaV, zaZ, zay, zap, go_sem, zaa, zam, zan, zao, zaq, zaj, ↓reduceIte, reduceCtorEq, zaf, zai, zar, zas, zat, zaM, zaL, zaD, zaK, renO, bk, back, outUpsFrom, Ints_ren])
 | (intros; (try simp only [zaG, zaI, zaE, zaF, zaz, zaA, decide_eq_true_eq, decide_eq_false_iff_not] at *); omega))
    repeat' (first
 | exact fs_w trivial (svw_of cw_gnil)
 | fail)
  | true =>
  rw [hh] at h1
  rw [if_pos rfl]
  have hV := (chkT_iff l n).1 (hasM_iff.1 hh).1
  have h2 := below_spec l n hV.le
  obtain ⟨_, y, hy, rfl⟩ := hasM_iff.1 hh
  obtain ⟨i, hi, rfl⟩ := gN_mem l y hy
  have h3 := walk_spec l n hV l.length i hi (by omega)
  have hren : ∀ ρ, (gcN (belowM l)).map (zaD ρ) = gcN (belowM l) := fun ρ => flat_ren (gcN_flat _) ρ
  generalize subF l l.length (gN l i).i = S at *
  generalize (gN l i).i = g at *
  generalize gcN (belowM l) = M at *
  refine fnspec_of mixed TT_ok TT_cl ⟨fun _ => false, fun f => if f = 74 then [0] else [], 0, fun _ => false, fun _ => false⟩ Try.func61 rfl (by kernel_rfl) rfl 19 rfl [.tmp 4] rfl ?_
  simp only [go_sem, zaa, zam, zan, zao, zaq, zaj, ↓reduceIte, reduceCtorEq, zaf, zai, zar, zas, zat, hren]
  repeat' (first
 | (apply cl_plain
    case hs => rfl
    case ha => (simp only [zab, zac, prepV, prepC, idx, hpL', lookR, zaa, if_true, if_false]; rfl)
    case h => (first | exact h1 .. | exact h2 .. | exact h3 ..))
 | (apply cl_lend
    case hr => (simp only [zab, zac, hpL', lookR, zaa, if_true, if_false]; first | exact map1 _ | exact map2 _ _ | exact map3 _ _ _)
    case ha => (simp only [zab, zac, prepV, prepC, idx, hpL', lookR, zaa, if_true, if_false]; rfl)
    case hs => rfl
    case hn => decide
    case h => (first | exact h1 .. | exact h2 .. | exact h3 ..)
    case hf => (simp only [zad, zae, false_implies, implies_true, and_true, true_and, flat_cons, flat_nil, flat_ints, flat_bools, flat_app, hfl, zaB, and_self, eq_self_iff_true, zah])
    case hl => (simp only [zay, zap]; decide))
 | ((first | refine s1_id ?_ | refine swp_id ?_ | refine sops_id ?_ | refine s2_id ?_); simp only [hren, hfl, zaQ, zaT, zah, zau, zaC, zaO, zaP, zaN, zaV, zaZ, zay, zap, go_sem, zaa, zam, zan, zao, zaq, zaj, ↓reduceIte, reduceCtorEq, zaf, zai, zar, zas, zat, zaM, zaL, zaD, zaK, renO, bk, back, outUpsFrom, Ints_ren])
 | exact fs_nil trivial rfl
 | fail)
end Go.Proofs.Ytlajelbiniakpaa
