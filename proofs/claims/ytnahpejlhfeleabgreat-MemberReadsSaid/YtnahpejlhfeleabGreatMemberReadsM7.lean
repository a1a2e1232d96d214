/- Contracts of functions, told of values, on the way to MemberReads (part 7). -/
import Derived.Test.YtnahpejlhfeleabGreatMemberReadsM3
import Derived.Test.YtnahpejlhfeleabGreatMemberReadsM6
import Derived.Test.YtnahpejlhfeleabGreatMemberReadsM5
namespace Go.Proofs.YtnahpejlhfeleabGreat
theorem yga {p : Prop} (h : p := by first | (refine fs_w ?h1 (svw_of ?h2); (case h1 => repeat' (first | exact trivial | exact rfl | exact zaI rfl | apply zaE)); (case h2 => repeat' (first | ((with_reducible refine (?_ : CW _ _)); first | exact cw_gnil | exact cw_rfl _ | exact cw_niln _ _ | exact cw_cap _ _ _ _) | exact trivial | (show _ ∧ SWL _ _; apply zaE) | (show _ ∧ CWL _ _; apply zaE) | show CW _ _))) | fail) : p := h
theorem ygb {p : Prop} (h : p := by first | (simp only [zaj, zao, prepV, prepC, idx, hpL', lookR, zaa, if_true, if_false]; rfl) | fail) : p := h
theorem ygc {p : Prop} (h : p := by first | (intros; (try simp only [zaD, zaH, zaG, zaF, zaB, zaC, decide_eq_true_eq, decide_eq_false_iff_not] at *); omega) | fail) : p := h
theorem ygd {p : Prop} (h : p := by first | (simp only [zar, zaA, false_implies, implies_true, and_true, true_and, flat_cons, flat_nil, flat_ints, flat_bools, flat_app, Cs_flat, zaR, and_self, eq_self_iff_true, zac]) | fail) : p := h
theorem yge {p : Prop} (h : p := by first | (simp only [zaj, zao, hpL', lookR, zaa, if_true, if_false]; first | exact map1 _ | exact map2 _ _ | exact map3 _ _ _) | fail) : p := h
theorem ygf {p : Prop} (h : p := by first | (intro hb; simp only [zaj, zao, cnd, hb, if_true, prepV, prepC, idx, hpL', lookR, zaa, if_false]; rfl) | fail) : p := h
theorem ygg {p : Prop} (h : p := by first | (intro hb; simp only [cnd, hb, if_true]; rfl) | fail) : p := h
theorem ygh {p : Prop} (h : p := by first | (first | exact h1 .. | exact n1 .. | exact h2 .. | exact h3 ..) | fail) : p := h
theorem ygi {p : Prop} (h : p := by first | (first | exact h1 .. | exact h2 .. | exact h3 .. | exact h4 .. | exact h5 .. | exact h6 .. | exact h7 .. | exact h8 ..) | fail) : p := h
theorem ygj {p : Prop} (h : p := by first | ((simp only [zar, zaA, false_implies, implies_true, and_true, hpL', lookR, zaa, if_true, if_false]) <;> (repeat' apply zaE) <;> (first | exact ⟨_, rfl, Ints_isG _⟩ | exact ⟨_, rfl, Cs_isG _⟩ | exact ⟨_, rfl, by simp [Cell.isG]⟩)) | fail) : p := h
theorem ygk {p : Prop} (h : p := by first | (simp only [zag, zad]; decide) | fail) : p := h
theorem ygl {p : Prop} (h : p := by first | (first | exact h1 .. | exact ha .. | exact hb .. | exact h2 .. | exact h3 .. | exact h4 ..) | fail) : p := h
theorem ygm {p : Prop} (h : p := by first | (first | exact h2 .. | exact h3 .. | exact h4 .. | exact h5 ..) | fail) : p := h
theorem ygn {p : Prop} (h : p := by first | (first | exact h1 .. | exact h2 .. | exact h3 .. | exact h4 ..) | fail) : p := h
theorem ygo {p : Prop} (h : p := by first | (intro hb; simp only [cnd, hb, if_true, snaps_nil, List.flatMap_cons, List.flatMap_nil, SV.refs, zaR, zap, zam, zac]; rfl) | fail) : p := h
theorem ygp {p : Prop} (h : p := by first | (first | exact h1 .. | exact ha .. | exact hb .. | exact h2 .. | exact h3 ..) | fail) : p := h
theorem ygq {p : Prop} (h : p := by first | (first | exact h1 .. | exact h2 .. | exact h3 .. | exact h4 .. | exact h5 .. | exact h6 .. | exact h7 ..) | fail) : p := h
theorem ygr {p : Prop} (h : p := by first | (first | exact h2 .. | exact h3 .. | exact h4 ..) | fail) : p := h
theorem ygs {p : Prop} (h : p := by first | (first | exact h1 .. | exact h2 .. | exact h3 ..) | fail) : p := h
theorem ygt {p : Prop} (h : p := by first | (first | exact h1 .. | exact n1 .. | exact h4 ..) | fail) : p := h
theorem ygu {p : Prop} (h : p := by first | (intros; omega) | fail) : p := h
theorem ygv {p : Prop} (h : p := by first | (first | exact h1 .. | exact ha .. | exact hb .. | exact h2 ..) | fail) : p := h
theorem ygw {p : Prop} (h : p := by first | (first | exact h1 .. | exact h2 .. | exact h3 .. | exact h4 .. | exact h5 .. | exact h6 ..) | fail) : p := h
theorem ygx {p : Prop} (h : p := by first | (first | exact h1 ..) | fail) : p := h
theorem ygy {p : Prop} (h : p := by first | (first | exact h1 .. | exact ha .. | exact hb ..) | fail) : p := h
theorem ygz {p : Prop} (h : p := by first | (first | exact h1 .. | exact h2 .. | exact h4 ..) | fail) : p := h
theorem ygaa {p : Prop} (h : p := by first | (first | exact h1 .. | exact h2 ..) | fail) : p := h
end Go.Proofs.YtnahpejlhfeleabGreat
-- short names of the library's lemmas
open Nat renaming reduceEqDiff → zaa, reduceLeDiff → zal, reduceAdd → zas, reduceSub → zat, reduceMul → zau, reduceLT → zaw, le_of_ble_eq_true → zaI
open List renaming reduceReplicate → zab, append_nil → zac, length_nil → zad, take_succ_cons → zae, length_cons → zag, set_cons_zero → zah, set_cons_succ → zai, map_cons → zaj, flatten_cons → zak, cons_append → zam, flatten_nil → zan, map_nil → zao, nil_append → zap, take_zero → zaq, forall_mem_cons → zar, take_nil → zav, not_mem_nil → zaA, getD_cons_zero → zaJ, getD_cons_succ → zaK, length_map → zaV, drop_of_length_le → zaW
open Int renaming cast_ofNat_Int → zaf, reduceEq → zax, reduceLT → zay, reduceLE → zaz, natCast_add → zaT
open Option renaming getD_some → zaM, getD_none → zaN
open Bool renaming and_eq_false_iff → zaB, or_eq_false_iff → zaC, and_eq_true → zaD, not_eq_false' → zaF, not_eq_true' → zaG, or_eq_true → zaH
open And renaming intro → zaE
open Go.Proofs.YtnahpejlhfeleabGreat.Sh.Cell renaming ren → zaL, refs → zaR
open Go.Proofs.YtnahpejlhfeleabGreat.Sh.SV renaming renL → zaO, ren → zaQ
open Go.Proofs.YtnahpejlhfeleabGreat.Sh.Row renaming ren → zaP
open Go.Proofs.YtnahpejlhfeleabGreat.Sh.St renaming hpF → zaS, tmF → zaU
set_option linter.unusedSimpArgs false
set_option linter.unusedVariables false
namespace Go.Proofs.YtnahpejlhfeleabGreat
open Go.Proofs.YtnahpejlhfeleabGreat.Sh
set_option maxRecDepth 20000
def ft1 (l : List Nd) (n : Int) (T : List Tk) (h : Int) (x : Tk) : Bool := decide ((dmM l n x.g).1 = (dmM l n (fiR l n T h x.p).1.g).1)
def bd1 (l : List Nd) (n : Int) (T : List Tk) (h : Int) (x : Nd) : Bool := decide (tyM l n x.i = 3) && (!decide (x.c = 0) || decide (0 < ((tsM l n T h x.i).length : Int)))
def bd2 (l : List Nd) (n : Int) (x : Nd) : Bool := decide (x.k = 1) && (!decide ((ndM l n x.p).i = 1) && !decide (bAd (ndM l n x.p).c 6 = 0) || decide (tyM l n (ndM l n x.p).i = 3))
def ft2 (l : List Nd) (n : Int) (T : List Tk) (h : Int) (x : Nd) : Bool := !bd1 l n T h x && !bd2 l n x
def ftM (l : List Nd) (n : Int) (T : List Tk) (h : Int) : Bool := soM l n T h && (T.all (ft1 l n T h) && l.all (ft2 l n T h))
set_option maxHeartbeats 8000000 in
theorem r8fits_spec (l : List Nd) (n : Int) (T : List Tk) (h : Int) (hl : l.length ≤ 1000000) (hT : T.length ≤ 1000000) (hnm : NmR l) : FnSpec Tryz.prog 92 [hyV l none n T none h] [] (b1 (ftM l n T h)) [] := by
 have h1 := r7sound_spec l n T h hl hT hnm
 have hcl := nd_len l
 have hct := tk_len T
 unfold ftM
 cases hv : soM l n T h with
 | false =>
   (try rw [hv] at h1)
   (try rw [if_neg (by decide)])
   refine fnspec_of mixed TT_ok TT_cl ⟨fun _ => false, fun _ => [], 0, fun _ => false, fun _ => false⟩ Tryz.func92 rfl (by kernel_rfl) rfl 121 rfl [.tmp 2] rfl ?_
   simp only [go_sem, zaa, zas, zat, zau, zaw, zal, ↓reduceIte, reduceCtorEq, zab, zaf, zax, zay, zaz, zak, zan, zac, zam, zap, zah, zai, zae, zaq, zav, zag, zad]
   repeat' (first
 | (apply cl_plain
    case hs => rfl
    case ha => exact ygb
    case h => exact ygx)
 | ((first | refine s1_id ?_ | refine swp_id ?_ | refine sops_id ?_ | refine s2_id ?_); simp only [zak, zan, zac, zam, zap, zah, zai, zae, zaq, zav, zag, zad, go_sem, zaa, zas, zat, zau, zaw, zal, ↓reduceIte, reduceCtorEq, zab, zaf, zax, zay, zaz, zaQ, zaO, zaL, zaP, renO, bk, back, outUpsFrom, Ints_ren])
 | exact fs_nil trivial rfl
 | fail)
 | true =>
 (try rw [hv] at h1)
 (try rw [if_pos rfl])
 rw [Bool.true_and]
 obtain ⟨S, hS⟩ : ∃ S, l.all (ft2 l n T h) = S := ⟨_, rfl⟩
 rw [hS]
 obtain ⟨R, hR⟩ : ∃ R, T.all (ft1 l n T h) = R := ⟨_, rfl⟩
 rw [hR]
 refine fnspec_of mixed TT_ok TT_cl ⟨fun _ => false, fun _ => [], 0, fun _ => false, fun _ => false⟩ Tryz.func92 rfl (by kernel_rfl) rfl 121 rfl [.tmp 2] rfl ?_
 simp only [go_sem, zaa, zas, zat, zau, zaw, zal, ↓reduceIte, reduceCtorEq, zab, zaf, zax, zay, zaz, zak, zan, zac, zam, zap, zah, zai, zae, zaq, zav, zag, zad]
 repeat' (first
 | (apply cl_plain
    case hs => rfl
    case ha => exact ygb
    case h => exact ygx)
 | ((first | refine s1_id ?_ | refine swp_id ?_ | refine sops_id ?_ | refine s2_id ?_); simp only [zak, zan, zac, zam, zap, zah, zai, zae, zaq, zav, zag, zad, go_sem, zaa, zas, zat, zau, zaw, zal, ↓reduceIte, reduceCtorEq, zab, zaf, zax, zay, zaz, zaQ, zaO, zaL, zaP, renO, bk, back, outUpsFrom, Ints_ren])
 | exact ygc | fail)
 refine w_loop (ι := Nat) (fun m => ⟨[(1, .one (.optr 0 0)), (3, i1 m)], [(0, some ⟨hyc l none n T none h, 4⟩)], 1⟩) (fun m => m ≤ T.length ∧ (T.drop m).all (ft1 l n T h) = R) (fun m => T.length - m) 0 ?_ ⟨Nat.zero_le _, hR⟩ ?_
 · (refine imp_ren _ _ _ [(0, 0, ⟨hyc l none n T none h, 4⟩)] (by simp) (by simp) (by simp) (zaI rfl) ?_ rfl (by simp only [zar, zaA, false_implies, implies_true, and_true, zaS, lookR, zaa, if_true, if_false, ↓reduceIte] <;> (repeat' apply zaE) <;> (first | rfl | trivial)) (by simp only [zar, zaA, false_implies, implies_true, and_true, true_and, flat_cons, flat_nil, flat_ints, flat_bools, flat_app, zaR, and_self, eq_self_iff_true, zac]); simp only [zaj, zao, zar, zaA, false_implies, implies_true, and_true, lk, slot, zaQ, zaL, toN, zaa, if_true, if_false, ↓reduceIte, reduceCtorEq])
   all_goals ((repeat' apply zaE) <;> (first | rfl | trivial))
 clear h1 hR
 rintro m ⟨hm, hI⟩
 simp only at hm hI ⊢
 rcases Nat.lt_or_ge m T.length with hlt | hge
 case inr =>
   have c : ¬ (m : Int) < (T.length : Int) := by omega
   rw [zaW hge] at hI
   have hI : true = R := hI
   subst hI
   rw [Bool.true_and]
   simp only [go_sem, zaa, zas, zat, zau, zaw, zal, ↓reduceIte, reduceCtorEq, zab, zaf, zax, zay, zaz, decide_eq_false c, zak, zan, zac, zam, zap, zah, zai, zae, zaq, zav, zag, zad]
   repeat' (first
 | exact ygc | fail)
   clear hI hm hge
   refine w_loop (ι := Nat) (fun j => ⟨[(1, .one (.optr 0 0)), (10, i1 j)], [(0, some ⟨hyc l none n T none h, 4⟩)], 1⟩) (fun j => j ≤ l.length ∧ (l.drop j).all (ft2 l n T h) = S) (fun j => l.length - j) 0 ?_ ⟨Nat.zero_le _, hS⟩ ?_
   · (refine imp_ren _ _ _ [(0, 0, ⟨hyc l none n T none h, 4⟩)] (by simp) (by simp) (by simp) (zaI rfl) ?_ rfl (by simp only [zar, zaA, false_implies, implies_true, and_true, zaS, lookR, zaa, if_true, if_false, ↓reduceIte] <;> (repeat' apply zaE) <;> (first | rfl | trivial)) (by simp only [zar, zaA, false_implies, implies_true, and_true, true_and, flat_cons, flat_nil, flat_ints, flat_bools, flat_app, zaR, and_self, eq_self_iff_true, zac]); simp only [zaj, zao, zar, zaA, false_implies, implies_true, and_true, lk, slot, zaQ, zaL, toN, zaa, if_true, if_false, ↓reduceIte, reduceCtorEq])
     all_goals ((repeat' apply zaE) <;> (first | rfl | trivial))
   clear hS
   rintro j ⟨hm2, hI2⟩
   simp only at hm2 hI2 ⊢
   rcases Nat.lt_or_ge j l.length with hlt2 | hge2
   case inr =>
     have c2 : ¬ (j : Int) < (l.length : Int) := by omega
     rw [zaW hge2] at hI2
     have hI2 : true = S := hI2
     subst hI2
     simp only [go_sem, zaa, zas, zat, zau, zaw, zal, ↓reduceIte, reduceCtorEq, zab, zaf, zax, zay, zaz, decide_eq_false c, decide_eq_false c2, zak, zan, zac, zam, zap, zah, zai, zae, zaq, zav, zag, zad]
     repeat' (first
 | exact fs_nil trivial rfl
 | fail)
   have c2 : (j : Int) < (l.length : Int) := by omega
   have hat := nd_td l j hlt2
   rw [drop_getD l j zn hlt2, List.all_cons] at hI2
   have h2 := rfindT_spec l none n (gN l j).p hl hnm
   have h3 := r8type_spec l none n (gN l j).i hl hnm
   have h4 := rtasks6_spec l n T h (gN l j).i hl hT hnm
   have h5 := r8type_spec l none n (ndM l n (gN l j).p).i hl hnm
   rw [show (fdM l n (gN l j).p).1 = ndM l n (gN l j).p from rfl] at h2
   unfold ft2 bd1 bd2 at hI2
   rw [show l.getD j zn = gN l j from rfl] at hI2
   generalize (fdM l n (gN l j).p).2 = pb at *
   generalize tyM l n (ndM l n (gN l j).p).i = ty2 at *
   generalize tyM l n (gN l j).i = ty at *
   generalize tsM l n T h (gN l j).i = K at *
   generalize ndM l n (gN l j).p = y at *
   generalize gN l j = x at *
   obtain ⟨xi, xp, xm, xc, xk, xo⟩ := x
   obtain ⟨yi, yp, ym, yc, yk, yo⟩ := y
   simp only [ndc] at hat h2 h3 h4 h5 hI2
   cases hE1 : (decide (ty = 3) && (!decide (xc = 0) || decide (0 < (K.length : Int)))) with
   | true =>
     (try rw [if_pos rfl])
     rw [hE1] at hI2
     have hI2 : false = S := hI2
     rw [← hI2]
     simp only [go_sem, zaa, zas, zat, zau, zaw, zal, ↓reduceIte, reduceCtorEq, zab, zaf, zax, zay, zaz, decide_eq_false c, decide_eq_true c2, hat, bAd_f, hE1, zak, zan, zac, zam, zap, zah, zai, zae, zaq, zav, zag, zad]
     repeat' (first
 | with_reducible refine zaE ?_ ?_
 | (apply cg_any
    case hl => rfl
    case ha => exact ygf
    case hs => exact ygg
    case h => exact ygr)
 | (apply cl_plain
    case hs => rfl
    case ha => exact ygb
    case h => exact ygr)
 | ((first | refine s1_id ?_ | refine swp_id ?_ | refine sops_id ?_ | refine s2_id ?_); simp only [decide_eq_false c, decide_eq_true c2, hat, bAd_f, hE1, zak, zan, zac, zam, zap, zah, zai, zae, zaq, zav, zag, zad, go_sem, zaa, zas, zat, zau, zaw, zal, ↓reduceIte, reduceCtorEq, zab, zaf, zax, zay, zaz, zaQ, zaO, zaL, zaP, renO, bk, back, outUpsFrom, Ints_ren])
 | exact ygu
 | exact fs_nil trivial rfl
 | fail)
   | false =>
   (try rw [if_neg (by decide)])
   rw [hE1] at hI2
   cases hE2 : (decide (xk = 1) && (!decide (yi = 1) && !decide (bAd yc 6 = 0) || decide (ty2 = 3))) with
   | true =>
     (try rw [if_pos rfl])
     rw [hE2] at hI2
     have hI2 : false = S := hI2
     rw [← hI2]
     simp only [go_sem, zaa, zas, zat, zau, zaw, zal, ↓reduceIte, reduceCtorEq, zab, zaf, zax, zay, zaz, decide_eq_false c, decide_eq_true c2, hat, bAd_f, hE1, hE2, zak, zan, zac, zam, zap, zah, zai, zae, zaq, zav, zag, zad]
     repeat' (first
 | with_reducible refine zaE ?_ ?_
 | (apply cg_any
    case hl => rfl
    case ha => exact ygf
    case hs => exact ygg
    case h => exact ygm)
 | (apply cl_plain
    case hs => rfl
    case ha => exact ygb
    case h => exact ygm)
 | ((first | refine s1_id ?_ | refine swp_id ?_ | refine sops_id ?_ | refine s2_id ?_); simp only [decide_eq_false c, decide_eq_true c2, hat, bAd_f, hE1, hE2, zak, zan, zac, zam, zap, zah, zai, zae, zaq, zav, zag, zad, go_sem, zaa, zas, zat, zau, zaw, zal, ↓reduceIte, reduceCtorEq, zab, zaf, zax, zay, zaz, zaQ, zaO, zaL, zaP, renO, bk, back, outUpsFrom, Ints_ren])
 | exact ygu
 | exact fs_nil trivial rfl
 | fail)
   | false =>
   (try rw [if_neg (by decide)])
   rw [hE2] at hI2
   have hI2 : _ = S := hI2
   simp only [go_sem, zaa, zas, zat, zau, zaw, zal, ↓reduceIte, reduceCtorEq, zab, zaf, zax, zay, zaz, decide_eq_false c, decide_eq_true c2, hat, bAd_f, hE1, hE2, zak, zan, zac, zam, zap, zah, zai, zae, zaq, zav, zag, zad]
   repeat' (first
 | with_reducible refine zaE ?_ ?_
 | (apply cg_any
    case hl => rfl
    case ha => exact ygf
    case hs => exact ygg
    case h => exact ygm)
 | (apply cl_plain
    case hs => rfl
    case ha => exact ygb
    case h => exact ygm)
 | ((first | refine s1_id ?_ | refine swp_id ?_ | refine sops_id ?_ | refine s2_id ?_); simp only [decide_eq_false c, decide_eq_true c2, hat, bAd_f, hE1, hE2, zak, zan, zac, zam, zap, zah, zai, zae, zaq, zav, zag, zad, go_sem, zaa, zas, zat, zau, zaw, zal, ↓reduceIte, reduceCtorEq, zab, zaf, zax, zay, zaz, zaQ, zaO, zaL, zaP, renO, bk, back, outUpsFrom, Ints_ren])
 | exact ygu
 | exact ygc | fail)
   refine le_mk (j + 1) ?_ ⟨hlt2, hI2⟩ (by show l.length - (j + 1) < l.length - j; omega)
   (refine imp_ren _ _ _ [(0, 0, ⟨hyc l none n T none h, 4⟩)] (by simp) (by simp) (by simp) (zaI rfl) ?_ rfl (by simp only [zar, zaA, false_implies, implies_true, and_true, zaS, lookR, zaa, if_true, if_false, ↓reduceIte] <;> (repeat' apply zaE) <;> (first | rfl | trivial)) (by simp only [zar, zaA, false_implies, implies_true, and_true, true_and, flat_cons, flat_nil, flat_ints, flat_bools, flat_app, zaR, and_self, eq_self_iff_true, zac]); simp only [zaj, zao, zar, zaA, false_implies, implies_true, and_true, lk, slot, zaQ, zaL, toN, zaa, if_true, if_false, ↓reduceIte, reduceCtorEq])
   all_goals ((repeat' apply zaE) <;> (first | rfl | trivial | (simp only [zaT]; done) | (simp only [zaT]; rfl) | (simp only [zaT]; trivial)))
 have c : (m : Int) < (T.length : Int) := by omega
 obtain ⟨_, q1, q2, _⟩ := tk_q T m hlt (.sc (.int .i64 0))
 rw [drop_getD T m ztk hlt, List.all_cons] at hI
 have h2 := rfind6_spec l n T h (gT T m).p hl hT hnm
 have h3 := r8dom_spec l none n (gT T m).g hl hnm
 have h4 := r8dom_spec l none n (fiR l n T h (gT T m).p).1.g hl hnm
 unfold ft1 at hI
 rw [show T.getD m ztk = gT T m from rfl] at hI
 generalize (dmM l n (fiR l n T h (gT T m).p).1.g) = b at *
 generalize (dmM l n (gT T m).g) = a at *
 generalize (fiR l n T h (gT T m).p) = y at *
 obtain ⟨⟨yi, yp, yg, yu⟩, yb⟩ := y
 obtain ⟨a, a'⟩ := a
 obtain ⟨b, b'⟩ := b
 simp only [tkc] at h2 h3 h4 hI
 by_cases e : a = b
 case neg =>
   (try rw [if_neg e])
   rw [decide_eq_false e, Bool.false_and] at hI
   rw [← hI, Bool.false_and]
   simp only [go_sem, zaa, zas, zat, zau, zaw, zal, ↓reduceIte, reduceCtorEq, zab, zaf, zax, zay, zaz, decide_eq_true c, q1, q2, decide_eq_false e, zak, zan, zac, zam, zap, zah, zai, zae, zaq, zav, zag, zad]
   repeat' (first
 | with_reducible refine zaE ?_ ?_
 | (unfold OKC; kernel_rfl)
 | (unfold EDG; kernel_rfl)
 | (apply cl_plain
    case hs => rfl
    case ha => exact ygb
    case h => exact ygr)
 | ((first | refine s1_id ?_ | refine swp_id ?_ | refine sops_id ?_ | refine s2_id ?_); simp only [decide_eq_true c, q1, q2, decide_eq_false e, zak, zan, zac, zam, zap, zah, zai, zae, zaq, zav, zag, zad, go_sem, zaa, zas, zat, zau, zaw, zal, ↓reduceIte, reduceCtorEq, zab, zaf, zax, zay, zaz, zaQ, zaO, zaL, zaP, renO, bk, back, outUpsFrom, Ints_ren])
 | exact ygu
 | exact fs_nil trivial rfl
 | fail)
 (try rw [if_pos e])
 rw [decide_eq_true e, Bool.true_and] at hI
 simp only [go_sem, zaa, zas, zat, zau, zaw, zal, ↓reduceIte, reduceCtorEq, zab, zaf, zax, zay, zaz, decide_eq_true c, q1, q2, decide_eq_true e, zak, zan, zac, zam, zap, zah, zai, zae, zaq, zav, zag, zad]
 repeat' (first
 | with_reducible refine zaE ?_ ?_
 | (unfold OKC; kernel_rfl)
 | (unfold EDG; kernel_rfl)
 | (apply cl_plain
    case hs => rfl
    case ha => exact ygb
    case h => exact ygr)
 | ((first | refine s1_id ?_ | refine swp_id ?_ | refine sops_id ?_ | refine s2_id ?_); simp only [decide_eq_true c, q1, q2, decide_eq_true e, zak, zan, zac, zam, zap, zah, zai, zae, zaq, zav, zag, zad, go_sem, zaa, zas, zat, zau, zaw, zal, ↓reduceIte, reduceCtorEq, zab, zaf, zax, zay, zaz, zaQ, zaO, zaL, zaP, renO, bk, back, outUpsFrom, Ints_ren])
 | exact ygu
 | exact ygc | fail)
 refine le_mk (m + 1) ?_ ⟨hlt, hI⟩ (by show T.length - (m + 1) < T.length - m; omega)
 (refine imp_ren _ _ _ [(0, 0, ⟨hyc l none n T none h, 4⟩)] (by simp) (by simp) (by simp) (zaI rfl) ?_ rfl (by simp only [zar, zaA, false_implies, implies_true, and_true, zaS, lookR, zaa, if_true, if_false, ↓reduceIte] <;> (repeat' apply zaE) <;> (first | rfl | trivial)) (by simp only [zar, zaA, false_implies, implies_true, and_true, true_and, flat_cons, flat_nil, flat_ints, flat_bools, flat_app, zaR, and_self, eq_self_iff_true, zac]); simp only [zaj, zao, zar, zaA, false_implies, implies_true, and_true, lk, slot, zaQ, zaL, toN, zaa, if_true, if_false, ↓reduceIte, reduceCtorEq])
 all_goals ((repeat' apply zaE) <;> (first | rfl | trivial | (simp only [zaT]; done) | (simp only [zaT]; rfl) | (simp only [zaT]; trivial)))
def inS (a : Int) : Bool := decide (0 ≤ a) && decide (a ≤ 31)
def wrC (l : List Nd) (n id add drop : Int) : Int := bOr (bAn (ndM l n id).c drop) add
def wrX (l : List Nd) (n id add drop : Int) : Nd := ⟨(ndM l n id).i, (ndM l n id).p, (ndM l n id).nm, wrC l n id add drop, (ndM l n id).k, (ndM l n id).o⟩
def wrB (l : List Nd) (n : Int) (T : List Tk) (h id add drop : Int) : Bool := !decide (bAn (bAd (wrC l n id add drop) 6) (ndM l n id).c = 0) && !decide (id = 1) && decide (0 < ((tsM l n T h id).length : Int))
def kdC (l : List Nd) (n drop a : Int) : Bool := !decide (bAd (ndM l n a).c drop = 0)
def wrM (l : List Nd) (n : Int) (T : List Tk) (h id add drop : Int) : Hy × Int :=
  if soM l n T h = true then
    if (!inS add || !inS drop || !decide (bAd add drop = 0)) = true then (z6, 1)
    else if hasM l n id = true then
      if (!decide (bAn add (avM l n id) = 0)) = true then (z6, 9)
      else if (kidsL l id).any (kdC l n drop) = true then (z6, 9)
      else if wrB l n T h id add drop = true then (z6, 6)
      else ((setN l (wrX l n id add drop), n, T, h), 0)
    else (z6, 4)
  else (z6, 1)
theorem so_hy {l : List Nd} {n : Int} {T : List Tk} {h : Int} (hs : soM l n T h = true) : hyM l n T h = true := by
 unfold soM at hs
 rw [zaD] at hs
 exact hs.1
set_option maxHeartbeats 8000000 in
theorem r7write_spec (l : List Nd) (n : Int) (T : List Tk) (h id add drop : Int) (hl : l.length ≤ 1000000) (hT : T.length ≤ 1000000) (hnm : NmR l) : FnSpec Tryz.prog 115 [hyV l none n T none h, i1 id, i1 add, i1 drop] [] (.tup [hyQ (wrM l n T h id add drop).1, i1 (wrM l n T h id add drop).2]) [] := by
 have h1 := r7sound_spec l n T h hl hT hnm
 have ha := r7set_spec add
 have hb := r7set_spec drop
 rw [show (decide (0 ≤ add) && decide (add ≤ 31)) = inS add from rfl] at ha
 rw [show (decide (0 ≤ drop) && decide (drop ≤ 31)) = inS drop from rfl] at hb
 unfold wrM
 cases hv : soM l n T h with
 | false =>
   (try rw [hv] at h1)
   (try rw [if_neg (by decide)])
   simp only [Cs_nil, zad]
   refine fnspec_of mixed TT_ok TT_cl ⟨fun _ => false, fun _ => [], 0, fun _ => false, fun _ => false⟩ Tryz.func115 rfl (by kernel_rfl) rfl 118 rfl [.cell 8 28, .tmp 9] rfl ?_
   simp only [go_sem, zaa, zas, zat, zau, zaw, zal, ↓reduceIte, reduceCtorEq, zab, zaf, zax, zay, zaz, zak, zan, zac, zam, zap, zah, zai, zae, zaq, zav, zag, zad]
   repeat' (first
 | (apply cl_plain
    case hs => rfl
    case ha => exact ygb
    case h => exact ygx)
 | ((first | refine s1_id ?_ | refine swp_id ?_ | refine sops_id ?_ | refine s2_id ?_); simp only [zak, zan, zac, zam, zap, zah, zai, zae, zaq, zav, zag, zad, go_sem, zaa, zas, zat, zau, zaw, zal, ↓reduceIte, reduceCtorEq, zab, zaf, zax, zay, zaz, zaQ, zaO, zaL, zaP, renO, bk, back, outUpsFrom, Ints_ren])
 | exact ygc | fail)
   repeat' (first
 | exact yga
 | fail)
 | true =>
 (try rw [hv] at h1)
 (try rw [if_pos rfl])
 obtain ⟨hV, hTl, hh1, hh2, hpw⟩ := hy_all (so_hy hv)
 generalize inS add = A at *
 generalize inS drop = B at *
 cases hE1 : (!A || !B || !decide (bAd add drop = 0)) with
 | true =>
   (try rw [if_pos rfl])
   simp only [Cs_nil, zad]
   refine fnspec_of mixed TT_ok TT_cl ⟨fun _ => false, fun _ => [], 0, fun _ => false, fun _ => false⟩ Tryz.func115 rfl (by kernel_rfl) rfl 118 rfl [.cell 8 28, .tmp 9] rfl ?_
   simp only [go_sem, zaa, zas, zat, zau, zaw, zal, ↓reduceIte, reduceCtorEq, zab, zaf, zax, zay, zaz, bAn_f, bAd_f, bOr_f, hE1, zak, zan, zac, zam, zap, zah, zai, zae, zaq, zav, zag, zad]
   repeat' (first
 | (apply cg_tp
    case hl => rfl
    case ha => exact ygb
    case hs => rfl
    case h => exact ygy)
 | (apply cg_any
    case hl => rfl
    case ha => exact ygf
    case hs => exact ygg
    case h => exact ygy)
 | (apply cl_plain
    case hs => rfl
    case ha => exact ygb
    case h => exact ygy)
 | ((first | refine s1_id ?_ | refine swp_id ?_ | refine sops_id ?_ | refine s2_id ?_); simp only [bAn_f, bAd_f, bOr_f, hE1, zak, zan, zac, zam, zap, zah, zai, zae, zaq, zav, zag, zad, go_sem, zaa, zas, zat, zau, zaw, zal, ↓reduceIte, reduceCtorEq, zab, zaf, zax, zay, zaz, zaQ, zaO, zaL, zaP, renO, bk, back, outUpsFrom, Ints_ren])
 | exact ygc | fail)
   repeat' (first
 | exact yga
 | fail)
 | false =>
 (try rw [if_neg (by decide)])
 have h2 := rfindT_spec l none n id hl hnm
 rw [fdM_2, show (fdM l n id).1 = ndM l n id from rfl] at h2
 have h3 := r7av_spec l none n id hl hnm
 have h4 := rkids_spec l none n id hl hnm
 have h5 := rtasks6_spec l n T h id hl hT hnm
 have h6 := rhcopy_spec l n T h hV.ne hl hT
 have h7 := rset5_spec l none n (wrX l n id add drop) hV.ne hl
 have hsl : (setN l (wrX l n id add drop)).length = l.length := zaV _
 have hkl := kidsL_len l id
 unfold chM at h4
 cases hc : hasM l n id with
 | false =>
   (try rw [hc] at h2)
   (try rw [hc] at h4)
   (try rw [if_neg (by decide)])
   simp only [Cs_nil, zad]
   generalize ndM l n id = x at *
   obtain ⟨xi, xp, xm, xc, xk, xo⟩ := x
   simp only [ndc] at h2
   refine fnspec_of mixed TT_ok TT_cl ⟨fun _ => false, fun _ => [], 0, fun _ => false, fun _ => false⟩ Tryz.func115 rfl (by kernel_rfl) rfl 118 rfl [.cell 8 28, .tmp 9] rfl ?_
   simp only [go_sem, zaa, zas, zat, zau, zaw, zal, ↓reduceIte, reduceCtorEq, zab, zaf, zax, zay, zaz, bAn_f, bAd_f, bOr_f, hE1, zak, zan, zac, zam, zap, zah, zai, zae, zaq, zav, zag, zad]
   repeat' (first
 | (apply cg_tp
    case hl => rfl
    case ha => exact ygb
    case hs => rfl
    case h => exact ygv)
 | (apply cg_any
    case hl => rfl
    case ha => exact ygf
    case hs => exact ygg
    case h => exact ygv)
 | (apply cl_plain
    case hs => rfl
    case ha => exact ygb
    case h => exact ygv)
 | ((first | refine s1_id ?_ | refine swp_id ?_ | refine sops_id ?_ | refine s2_id ?_); simp only [bAn_f, bAd_f, bOr_f, hE1, zak, zan, zac, zam, zap, zah, zai, zae, zaq, zav, zag, zad, go_sem, zaa, zas, zat, zau, zaw, zal, ↓reduceIte, reduceCtorEq, zab, zaf, zax, zay, zaz, zaQ, zaO, zaL, zaP, renO, bk, back, outUpsFrom, Ints_ren])
 | exact ygc | fail)
   repeat' (first
 | exact yga
 | fail)
 | true =>
 (try rw [hc] at h2)
 (try rw [hc] at h4)
 (try rw [if_pos rfl])
 rw [if_pos rfl] at h4
 unfold wrX wrB wrC at *
 generalize avM l n id = av at *
 generalize tsM l n T h id = K at *
 generalize ndM l n id = x at *
 obtain ⟨xi, xp, xm, xc, xk, xo⟩ := x
 simp only [ndc] at h2 h7 hsl ⊢
 generalize hW : setN l ⟨xi, xp, xm, bOr (bAn xc drop) add, xk, xo⟩ = W at *
 cases hE2 : (!decide (bAn add av = 0)) with
 | true =>
   (try rw [if_pos rfl])
   simp only [Cs_nil, zad]
   refine fnspec_of mixed TT_ok TT_cl ⟨fun _ => false, fun _ => [], 0, fun _ => false, fun _ => false⟩ Tryz.func115 rfl (by kernel_rfl) rfl 118 rfl [.cell 8 28, .tmp 9] rfl ?_
   simp only [go_sem, zaa, zas, zat, zau, zaw, zal, ↓reduceIte, reduceCtorEq, zab, zaf, zax, zay, zaz, bAn_f, bAd_f, bOr_f, hE1, hE2, zak, zan, zac, zam, zap, zah, zai, zae, zaq, zav, zag, zad]
   repeat' (first
 | (apply cg_tp
    case hl => rfl
    case ha => exact ygb
    case hs => rfl
    case h => exact ygp)
 | (apply cg_any
    case hl => rfl
    case ha => exact ygf
    case hs => exact ygg
    case h => exact ygp)
 | (apply cl_plain
    case hs => rfl
    case ha => exact ygb
    case h => exact ygp)
 | ((first | refine s1_id ?_ | refine swp_id ?_ | refine sops_id ?_ | refine s2_id ?_); simp only [bAn_f, bAd_f, bOr_f, hE1, hE2, zak, zan, zac, zam, zap, zah, zai, zae, zaq, zav, zag, zad, go_sem, zaa, zas, zat, zau, zaw, zal, ↓reduceIte, reduceCtorEq, zab, zaf, zax, zay, zaz, zaQ, zaO, zaL, zaP, renO, bk, back, outUpsFrom, Ints_ren])
 | exact ygc | fail)
   repeat' (first
 | exact yga
 | fail)
 | false =>
 (try rw [if_neg (by decide)])
 generalize kidsL l id = D at *
 obtain ⟨R, hR⟩ : ∃ R, D.any (kdC l n drop) = R := ⟨_, rfl⟩
 rw [hR]
 refine fnspec_of mixed TT_ok TT_cl ⟨fun _ => false, fun _ => [], 0, fun _ => false, fun _ => false⟩ Tryz.func115 rfl (by kernel_rfl) rfl 118 rfl [.cell 8 28, .tmp 9] rfl ?_
 simp only [go_sem, zaa, zas, zat, zau, zaw, zal, ↓reduceIte, reduceCtorEq, zab, zaf, zax, zay, zaz, bAn_f, bAd_f, bOr_f, hE1, hE2, zak, zan, zac, zam, zap, zah, zai, zae, zaq, zav, zag, zad]
 repeat' (first
 | (apply cg_tp
    case hl => rfl
    case ha => exact ygb
    case hs => rfl
    case h => exact ygl)
 | (apply cg_any
    case hl => rfl
    case ha => exact ygf
    case hs => exact ygg
    case h => exact ygl)
 | (apply cl_plain
    case hs => rfl
    case ha => exact ygb
    case h => exact ygl)
 | ((first | refine s1_id ?_ | refine swp_id ?_ | refine sops_id ?_ | refine s2_id ?_); simp only [bAn_f, bAd_f, bOr_f, hE1, hE2, zak, zan, zac, zam, zap, zah, zai, zae, zaq, zav, zag, zad, go_sem, zaa, zas, zat, zau, zaw, zal, ↓reduceIte, reduceCtorEq, zab, zaf, zax, zay, zaz, zaQ, zaO, zaL, zaP, renO, bk, back, outUpsFrom, Ints_ren])
 | exact ygc | fail)
 refine w_loop (ι := Nat) (fun m => ⟨[(1, i1 id), (2, i1 add), (3, i1 drop), (4, .one (.optr 0 0)), (8, .one (.optr 1 0)), (10, .one (.optr 2 0)), (12, gi D none), (13, i1 m)], [(0, some ⟨hyc l none n T none h, 4⟩), (1, some ⟨[.sc (.slice none 0 0), int 0, .sc (.slice none 0 0), int 0], 4⟩), (2, some ⟨[int xi, int xp, st xm, int xc, int xk, int xo], 6⟩)], 3⟩) (fun m => m ≤ D.length ∧ (D.drop m).any (kdC l n drop) = R) (fun m => D.length - m) 0 ?_ ⟨Nat.zero_le _, hR⟩ ?_
 · (refine imp_ren _ _ _ [(0, 0, ⟨hyc l none n T none h, 4⟩), (1, 1, ⟨[.sc (.slice none 0 0), int 0, .sc (.slice none 0 0), int 0], 4⟩), (2, 29, ⟨[int xi, int xp, st xm, int xc, int xk, int xo], 6⟩)] (by simp) (by simp) (by simp) (zaI rfl) ?_ rfl (by simp only [zar, zaA, false_implies, implies_true, and_true, zaS, lookR, zaa, if_true, if_false, ↓reduceIte] <;> (repeat' apply zaE) <;> (first | rfl | trivial)) (by simp only [zar, zaA, false_implies, implies_true, and_true, true_and, flat_cons, flat_nil, flat_ints, flat_bools, flat_app, zaR, and_self, eq_self_iff_true, zac]); simp only [zaj, zao, zar, zaA, false_implies, implies_true, and_true, lk, slot, zaQ, zaL, toN, zaa, if_true, if_false, ↓reduceIte, reduceCtorEq])
   all_goals ((repeat' apply zaE) <;> (first | rfl | trivial))
 clear h1 ha hb h2 h3 h4 hR
 rintro m ⟨hm, hI⟩
 simp only at hm hI ⊢
 rcases Nat.lt_or_ge m D.length with hlt | hge
 case inr =>
   have c : ¬ (m : Int) < (D.length : Int) := by omega
   rw [zaW hge] at hI
   have hI : false = R := hI
   rw [← hI, if_neg (by decide)]
   cases hE3 : (!decide (bAn (bAd (bOr (bAn xc drop) add) 6) xc = 0) && !decide (id = 1) && decide (0 < (K.length : Int))) with
   | true =>
     (try rw [if_pos rfl])
     simp only [Cs_nil, zad]
     simp only [go_sem, zaa, zas, zat, zau, zaw, zal, ↓reduceIte, reduceCtorEq, zab, zaf, zax, zay, zaz, bAn_f, bAd_f, bOr_f, hE1, hE2, decide_eq_false c, hE3, zak, zan, zac, zam, zap, zah, zai, zae, zaq, zav, zag, zad]
     repeat' (first
 | (apply cg_any
    case hl => rfl
    case ha => exact ygf
    case hs => exact ygg
    case h => (first | exact h5 ..))
 | ((first | refine s1_id ?_ | refine swp_id ?_ | refine sops_id ?_ | refine s2_id ?_); simp only [bAn_f, bAd_f, bOr_f, hE1, hE2, decide_eq_false c, hE3, zak, zan, zac, zam, zap, zah, zai, zae, zaq, zav, zag, zad, go_sem, zaa, zas, zat, zau, zaw, zal, ↓reduceIte, reduceCtorEq, zab, zaf, zax, zay, zaz, zaQ, zaO, zaL, zaP, renO, bk, back, outUpsFrom, Ints_ren])
 | exact ygc | fail)
     repeat' (first
 | exact yga
 | fail)
   | false =>
   (try rw [if_neg (by decide)])
   simp only [go_sem, zaa, zas, zat, zau, zaw, zal, ↓reduceIte, reduceCtorEq, zab, zaf, zax, zay, zaz, bAn_f, bAd_f, bOr_f, hE1, hE2, decide_eq_false c, hE3, zak, zan, zac, zam, zap, zah, zai, zae, zaq, zav, zag, zad]
   repeat' (first
 | (apply cg_any
    case hl => rfl
    case ha => exact ygf
    case hs => exact ygg
    case h => (first | exact h5 .. | exact h6 .. | exact h7 ..))
 | (apply cl_plain
    case hs => rfl
    case ha => exact ygb
    case h => (first | exact h5 .. | exact h6 .. | exact h7 ..))
 | ((first | refine s1_id ?_ | refine swp_id ?_ | refine sops_id ?_ | refine s2_id ?_); simp only [bAn_f, bAd_f, bOr_f, hE1, hE2, decide_eq_false c, hE3, zak, zan, zac, zam, zap, zah, zai, zae, zaq, zav, zag, zad, go_sem, zaa, zas, zat, zau, zaw, zal, ↓reduceIte, reduceCtorEq, zab, zaf, zax, zay, zaz, zaQ, zaO, zaL, zaP, renO, bk, back, outUpsFrom, Ints_ren])
 | exact ygc | fail)
   (refine fs_frz 38 ⟨Cs T, 4⟩ (by simp only [zaS, lookR, zaa, if_true, if_false, ↓reduceIte]) (by first | exact Ints_isG _ | exact Bools_isG _ | exact Cs_isG _ | (simp [Cell.isG]; done)) ?_; simp only [frzTm, SV.frz, SV.frzL, Cell.frz, frzHp, frzO, Ints_frz, Bools_frz, zaj, zao, zaa, if_true, if_false, ↓reduceIte])
   repeat' (first
 | exact yga
 | fail)
 have c : (m : Int) < (D.length : Int) := by omega
 rw [drop_getD D m 0 hlt, List.any_cons] at hI
 have h8 := rfindT_spec l none n (D.getD m 0) hl hnm
 rw [show (fdM l n (D.getD m 0)).1 = ndM l n (D.getD m 0) from rfl] at h8
 unfold kdC at hI
 generalize (fdM l n (D.getD m 0)).2 = cb at *
 generalize ndM l n (D.getD m 0) = z at *
 obtain ⟨zi, zp, zm, zc, zk, zo⟩ := z
 simp only [ndc] at h8 hI
 by_cases e : bAd zc drop = 0
 case neg =>
   (try rw [if_neg e])
   rw [decide_eq_false e, Bool.not_false, Bool.true_or] at hI
   rw [← hI, if_pos rfl]
   simp only [Cs_nil, zad]
   simp only [go_sem, zaa, zas, zat, zau, zaw, zal, ↓reduceIte, reduceCtorEq, zab, zaf, zax, zay, zaz, bAn_f, bAd_f, bOr_f, hE1, hE2, decide_eq_true c, decide_eq_false e, zak, zan, zac, zam, zap, zah, zai, zae, zaq, zav, zag, zad]
   repeat' (first
 | with_reducible refine zaE ?_ ?_
 | (unfold OKC; kernel_rfl)
 | (unfold EDG; kernel_rfl)
 | (apply cl_plain
    case hs => rfl
    case ha => exact ygb
    case h => (first | exact h8 ..))
 | ((first | refine s1_id ?_ | refine swp_id ?_ | refine sops_id ?_ | refine s2_id ?_); simp only [bAn_f, bAd_f, bOr_f, hE1, hE2, decide_eq_true c, decide_eq_false e, zak, zan, zac, zam, zap, zah, zai, zae, zaq, zav, zag, zad, go_sem, zaa, zas, zat, zau, zaw, zal, ↓reduceIte, reduceCtorEq, zab, zaf, zax, zay, zaz, zaQ, zaO, zaL, zaP, renO, bk, back, outUpsFrom, Ints_ren])
 | exact ygu
 | exact ygc | fail)
   repeat' (first
 | exact yga
 | fail)
 (try rw [if_pos e])
 rw [decide_eq_true e, Bool.not_true, Bool.false_or] at hI
 simp only [go_sem, zaa, zas, zat, zau, zaw, zal, ↓reduceIte, reduceCtorEq, zab, zaf, zax, zay, zaz, bAn_f, bAd_f, bOr_f, hE1, hE2, decide_eq_true c, decide_eq_true e, zak, zan, zac, zam, zap, zah, zai, zae, zaq, zav, zag, zad]
 repeat' (first
 | with_reducible refine zaE ?_ ?_
 | (unfold OKC; kernel_rfl)
 | (unfold EDG; kernel_rfl)
 | (apply cl_plain
    case hs => rfl
    case ha => exact ygb
    case h => (first | exact h8 ..))
 | ((first | refine s1_id ?_ | refine swp_id ?_ | refine sops_id ?_ | refine s2_id ?_); simp only [bAn_f, bAd_f, bOr_f, hE1, hE2, decide_eq_true c, decide_eq_true e, zak, zan, zac, zam, zap, zah, zai, zae, zaq, zav, zag, zad, go_sem, zaa, zas, zat, zau, zaw, zal, ↓reduceIte, reduceCtorEq, zab, zaf, zax, zay, zaz, zaQ, zaO, zaL, zaP, renO, bk, back, outUpsFrom, Ints_ren])
 | exact ygu
 | exact ygc | fail)
 refine le_mk (m + 1) ?_ ⟨hlt, hI⟩ (by show D.length - (m + 1) < D.length - m; omega)
 (refine imp_ren _ _ _ [(0, 0, ⟨hyc l none n T none h, 4⟩), (1, 1, ⟨[.sc (.slice none 0 0), int 0, .sc (.slice none 0 0), int 0], 4⟩), (2, 2, ⟨[int xi, int xp, st xm, int xc, int xk, int xo], 6⟩)] (by simp) (by simp) (by simp) (zaI rfl) ?_ rfl (by simp only [zar, zaA, false_implies, implies_true, and_true, zaS, lookR, zaa, if_true, if_false, ↓reduceIte] <;> (repeat' apply zaE) <;> (first | rfl | trivial)) (by simp only [zar, zaA, false_implies, implies_true, and_true, true_and, flat_cons, flat_nil, flat_ints, flat_bools, flat_app, zaR, and_self, eq_self_iff_true, zac]); simp only [zaj, zao, zar, zaA, false_implies, implies_true, and_true, lk, slot, zaQ, zaL, toN, zaa, if_true, if_false, ↓reduceIte, reduceCtorEq])
 all_goals ((repeat' apply zaE) <;> (first | rfl | trivial | (simp only [zaT]; done) | (simp only [zaT]; rfl) | (simp only [zaT]; trivial)))
structure HyB (q : Hy) : Prop where
  l : q.1.length ≤ 1000000
  t : q.2.2.1.length ≤ 1000000
  nm : NmR q.1
theorem HyB_z : HyB z6 := ⟨by decide, by decide, fun x hx => by cases hx⟩
theorem ndM_mem (l : List Nd) (n a : Int) : ndM l n a ∈ l ∨ ndM l n a = zn := by
 cases hh : hasM l n a with
 | false => exact Or.inr (ndM_no hh)
 | true =>
   obtain ⟨hV, i, hi, e⟩ := has_ix hh
   rw [← e, ndM_at hV hi]
   exact Or.inl (getD_mem l i zn hi)
theorem NmR.nd {l : List Nd} (h : NmR l) (n a : Int) : (ndM l n a).nm.length ≤ 9223372036854775807 := by
 rcases ndM_mem l n a with e | e
 · exact h _ e
 · rw [e]; decide
theorem NmR.set {l : List Nd} (h : NmR l) (x : Nd) (hx : x.nm.length ≤ 9223372036854775807) : NmR (setN l x) := by
 intro y hy
 obtain ⟨z, hz, e⟩ := List.mem_map.1 hy
 unfold stF at e
 by_cases c : z.i = x.i
 · rw [if_pos c] at e; rw [← e]; exact hx
 · rw [if_neg c] at e; rw [← e]; exact h z hz
theorem HyB.set {l : List Nd} {n : Int} {T : List Tk} {h : Int} (hb : HyB (l, n, T, h)) (x : Nd) (hx : x.nm.length ≤ 9223372036854775807) : HyB (setN l x, n, T, h) :=
  ⟨by show (setN l x).length ≤ 1000000; unfold setN; rw [zaV]; exact hb.l, hb.t, hb.nm.set x hx⟩
theorem HyB.write {l : List Nd} {n : Int} {T : List Tk} {h : Int} (hb : HyB (l, n, T, h)) (id add drop : Int) : HyB (wrM l n T h id add drop).1 := by
 unfold wrM
 repeat' split
 all_goals first
   | exact HyB_z
   | exact hb.set _ (hb.nm.nd n id)
def enM (l : List Nd) (n : Int) (T : List Tk) (h id add drop : Int) : Hy × Int :=
  if ftM l n T h = true then
    if (wrM l n T h id add drop).2 = 0 then
      if ftM (wrM l n T h id add drop).1.1 (wrM l n T h id add drop).1.2.1 (wrM l n T h id add drop).1.2.2.1 (wrM l n T h id add drop).1.2.2.2 = true then ((wrM l n T h id add drop).1, 0) else (z6, 10)
    else (z6, (wrM l n T h id add drop).2)
  else (z6, 1)
set_option maxHeartbeats 8000000 in
theorem r8enable_spec (l : List Nd) (n : Int) (T : List Tk) (h id add drop : Int) (hb : HyB (l, n, T, h)) : FnSpec Tryz.prog 88 [hyV l none n T none h, i1 id, i1 add, i1 drop] [] (.tup [hyQ (enM l n T h id add drop).1, i1 (enM l n T h id add drop).2]) [] := by
 have h1 := r8fits_spec l n T h hb.l hb.t hb.nm
 unfold enM
 cases hv : ftM l n T h with
 | false =>
   (try rw [hv] at h1)
   (try rw [if_neg (by decide)])
   simp only [Cs_nil, zad]
   refine fnspec_of mixed TT_ok TT_cl ⟨fun _ => false, fun _ => [], 0, fun _ => false, fun _ => false⟩ Tryz.func88 rfl (by kernel_rfl) rfl 33 rfl [.cell 8 28, .tmp 9] rfl ?_
   simp only [go_sem, zaa, zas, zat, zau, zaw, zal, ↓reduceIte, reduceCtorEq, zab, zaf, zax, zay, zaz, zak, zan, zac, zam, zap, zah, zai, zae, zaq, zav, zag, zad]
   repeat' (first
 | (apply cl_plain
    case hs => rfl
    case ha => exact ygb
    case h => exact ygx)
 | ((first | refine s1_id ?_ | refine swp_id ?_ | refine sops_id ?_ | refine s2_id ?_); simp only [zak, zan, zac, zam, zap, zah, zai, zae, zaq, zav, zag, zad, go_sem, zaa, zas, zat, zau, zaw, zal, ↓reduceIte, reduceCtorEq, zab, zaf, zax, zay, zaz, zaQ, zaO, zaL, zaP, renO, bk, back, outUpsFrom, Ints_ren])
 | exact ygc | fail)
   repeat' (first
 | exact yga
 | fail)
 | true =>
 (try rw [hv] at h1)
 (try rw [if_pos rfl])
 have h2 := r7write_spec l n T h id add drop hb.l hb.t hb.nm
 have hw := hb.write id add drop
 have h3 := r8fits_spec (wrM l n T h id add drop).1.1 (wrM l n T h id add drop).1.2.1 (wrM l n T h id add drop).1.2.2.1 (wrM l n T h id add drop).1.2.2.2 hw.l hw.t hw.nm
 generalize wrM l n T h id add drop = W at *
 obtain ⟨⟨l', n', T', h'⟩, e'⟩ := W
 simp only at h2 h3 ⊢
 by_cases e : e' = 0
 case neg =>
   (try rw [if_neg e])
   simp only [Cs_nil, zad]
   refine fnspec_of mixed TT_ok TT_cl ⟨fun _ => false, fun _ => [], 0, fun _ => false, fun _ => false⟩ Tryz.func88 rfl (by kernel_rfl) rfl 33 rfl [.cell 8 28, .tmp 9] rfl ?_
   simp only [go_sem, zaa, zas, zat, zau, zaw, zal, ↓reduceIte, reduceCtorEq, zab, zaf, zax, zay, zaz, decide_eq_false e, zak, zan, zac, zam, zap, zah, zai, zae, zaq, zav, zag, zad]
   repeat' (first
 | (apply cl_plain
    case hs => rfl
    case ha => exact ygb
    case h => exact ygaa)
 | ((first | refine s1_id ?_ | refine swp_id ?_ | refine sops_id ?_ | refine s2_id ?_); simp only [decide_eq_false e, zak, zan, zac, zam, zap, zah, zai, zae, zaq, zav, zag, zad, go_sem, zaa, zas, zat, zau, zaw, zal, ↓reduceIte, reduceCtorEq, zab, zaf, zax, zay, zaz, zaQ, zaO, zaL, zaP, renO, bk, back, outUpsFrom, Ints_ren])
 | exact ygc | fail)
   repeat' (first
 | exact yga
 | fail)
 (try rw [if_pos e])
 cases hf : ftM l' n' T' h' with
 | false =>
   (try rw [hf] at h3)
   (try rw [if_neg (by decide)])
   simp only [Cs_nil, zad]
   refine fnspec_of mixed TT_ok TT_cl ⟨fun _ => false, fun _ => [], 0, fun _ => false, fun _ => false⟩ Tryz.func88 rfl (by kernel_rfl) rfl 33 rfl [.cell 8 28, .tmp 9] rfl ?_
   simp only [go_sem, zaa, zas, zat, zau, zaw, zal, ↓reduceIte, reduceCtorEq, zab, zaf, zax, zay, zaz, decide_eq_true e, zak, zan, zac, zam, zap, zah, zai, zae, zaq, zav, zag, zad]
   repeat' (first
 | (apply cl_plain
    case hs => rfl
    case ha => exact ygb
    case h => exact ygs)
 | ((first | refine s1_id ?_ | refine swp_id ?_ | refine sops_id ?_ | refine s2_id ?_); simp only [decide_eq_true e, zak, zan, zac, zam, zap, zah, zai, zae, zaq, zav, zag, zad, go_sem, zaa, zas, zat, zau, zaw, zal, ↓reduceIte, reduceCtorEq, zab, zaf, zax, zay, zaz, zaQ, zaO, zaL, zaP, renO, bk, back, outUpsFrom, Ints_ren])
 | exact ygc | fail)
   repeat' (first
 | exact yga
 | fail)
 | true =>
 (try rw [hf] at h3)
 (try rw [if_pos rfl])
 refine fnspec_of mixed TT_ok TT_cl ⟨fun _ => false, fun _ => [], 0, fun _ => false, fun _ => false⟩ Tryz.func88 rfl (by kernel_rfl) rfl 33 rfl [.cell 8 28, .tmp 9] rfl ?_
 simp only [go_sem, zaa, zas, zat, zau, zaw, zal, ↓reduceIte, reduceCtorEq, zab, zaf, zax, zay, zaz, decide_eq_true e, zak, zan, zac, zam, zap, zah, zai, zae, zaq, zav, zag, zad]
 repeat' (first
 | (apply cl_plain
    case hs => rfl
    case ha => exact ygb
    case h => exact ygs)
 | ((first | refine s1_id ?_ | refine swp_id ?_ | refine sops_id ?_ | refine s2_id ?_); simp only [decide_eq_true e, zak, zan, zac, zam, zap, zah, zai, zae, zaq, zav, zag, zad, go_sem, zaa, zas, zat, zau, zaw, zal, ↓reduceIte, reduceCtorEq, zab, zaf, zax, zay, zaz, zaQ, zaO, zaL, zaP, renO, bk, back, outUpsFrom, Ints_ren])
 | exact ygc | fail)
 repeat' (first
 | exact yga
 | fail)
def cvX (l : List Nd) (n id : Int) : Nd := ⟨(ndM l n id).i, (ndM l n id).p, (ndM l n id).nm, (ndM l n id).c, 1, (ndM l n id).o⟩
def cvM (l : List Nd) (n : Int) (T : List Tk) (h id : Int) : Hy × Int :=
  if ftM l n T h = true then
    if hasM l n id = true then
      if (decide (id = 1) || decide ((ndM l n id).k = 1)) = true then (z6, 9)
      else if (decide (tyM l n (ndM l n (ndM l n id).p).i = 3) || !decide ((ndM l n (ndM l n id).p).i = 1) && !decide (bAd (ndM l n (ndM l n id).p).c 6 = 0)) = true then (z6, 10)
      else if bAd (ndM l n id).c 6 = 0 then
        if (decide (0 < ((tsM l n T h id).length : Int)) || !ftM (setN l (cvX l n id)) n T h) = true then (z6, 6) else ((setN l (cvX l n id), n, T, h), 0)
      else (z6, 9)
    else (z6, 4)
  else (z6, 1)
theorem ft_hy {l : List Nd} {n : Int} {T : List Tk} {h : Int} (hs : ftM l n T h = true) : hyM l n T h = true := by
 unfold ftM at hs
 rw [zaD] at hs
 exact so_hy hs.1
set_option maxHeartbeats 8000000 in
theorem r8conv_spec (l : List Nd) (n : Int) (T : List Tk) (h id : Int) (hb : HyB (l, n, T, h)) : FnSpec Tryz.prog 89 [hyV l none n T none h, i1 id] [] (.tup [hyQ (cvM l n T h id).1, i1 (cvM l n T h id).2]) [] := by
 have h1 := r8fits_spec l n T h hb.l hb.t hb.nm
 unfold cvM
 cases hv : ftM l n T h with
 | false =>
   (try rw [hv] at h1)
   (try rw [if_neg (by decide)])
   simp only [Cs_nil, zad]
   refine fnspec_of mixed TT_ok TT_cl ⟨fun _ => false, fun _ => [], 0, fun _ => false, fun _ => false⟩ Tryz.func89 rfl (by kernel_rfl) rfl 84 rfl [.cell 4 28, .tmp 5] rfl ?_
   simp only [go_sem, zaa, zas, zat, zau, zaw, zal, ↓reduceIte, reduceCtorEq, zab, zaf, zax, zay, zaz, zak, zan, zac, zam, zap, zah, zai, zae, zaq, zav, zag, zad]
   repeat' (first
 | (apply cl_plain
    case hs => rfl
    case ha => exact ygb
    case h => exact ygx)
 | ((first | refine s1_id ?_ | refine swp_id ?_ | refine sops_id ?_ | refine s2_id ?_); simp only [zak, zan, zac, zam, zap, zah, zai, zae, zaq, zav, zag, zad, go_sem, zaa, zas, zat, zau, zaw, zal, ↓reduceIte, reduceCtorEq, zab, zaf, zax, zay, zaz, zaQ, zaO, zaL, zaP, renO, bk, back, outUpsFrom, Ints_ren])
 | exact ygc | fail)
   repeat' (first
 | exact yga
 | fail)
 | true =>
 (try rw [hv] at h1)
 (try rw [if_pos rfl])
 obtain ⟨hV, hTl, hh1, hh2, hpw⟩ := hy_all (ft_hy hv)
 have h2 := rfindT_spec l none n id hb.l hb.nm
 rw [fdM_2, show (fdM l n id).1 = ndM l n id from rfl] at h2
 cases hc : hasM l n id with
 | false =>
   (try rw [hc] at h2)
   (try rw [if_neg (by decide)])
   simp only [Cs_nil, zad]
   generalize ndM l n id = x at *
   obtain ⟨xi, xp, xm, xc, xk, xo⟩ := x
   simp only [ndc] at h2
   refine fnspec_of mixed TT_ok TT_cl ⟨fun _ => false, fun _ => [], 0, fun _ => false, fun _ => false⟩ Tryz.func89 rfl (by kernel_rfl) rfl 84 rfl [.cell 4 28, .tmp 5] rfl ?_
   simp only [go_sem, zaa, zas, zat, zau, zaw, zal, ↓reduceIte, reduceCtorEq, zab, zaf, zax, zay, zaz, zak, zan, zac, zam, zap, zah, zai, zae, zaq, zav, zag, zad]
   repeat' (first
 | (apply cl_plain
    case hs => rfl
    case ha => exact ygb
    case h => exact ygaa)
 | ((first | refine s1_id ?_ | refine swp_id ?_ | refine sops_id ?_ | refine s2_id ?_); simp only [zak, zan, zac, zam, zap, zah, zai, zae, zaq, zav, zag, zad, go_sem, zaa, zas, zat, zau, zaw, zal, ↓reduceIte, reduceCtorEq, zab, zaf, zax, zay, zaz, zaQ, zaO, zaL, zaP, renO, bk, back, outUpsFrom, Ints_ren])
 | exact ygc | fail)
   repeat' (first
 | exact yga
 | fail)
 | true =>
 (try rw [hc] at h2)
 (try rw [if_pos rfl])
 have h3 := rfindT_spec l none n (ndM l n id).p hb.l hb.nm
 rw [fdM_2, show (fdM l n (ndM l n id).p).1 = ndM l n (ndM l n id).p from rfl] at h3
 have h4 := r8type_spec l none n (ndM l n (ndM l n id).p).i hb.l hb.nm
 have h5 := rtasks6_spec l n T h id hb.l hb.t hb.nm
 have h6 := rhcopy_spec l n T h hV.ne hb.l hb.t
 have h7 := rset5_spec l none n (cvX l n id) hV.ne hb.l
 have hw := hb.set (cvX l n id) (hb.nm.nd n id)
 have h8 := r8fits_spec (setN l (cvX l n id)) n T h hw.l hw.t hw.nm
 unfold cvX at *
 generalize tyM l n (ndM l n (ndM l n id).p).i = ty at *
 generalize tsM l n T h id = K at *
 generalize hasM l n (ndM l n id).p = pb at *
 generalize ndM l n (ndM l n id).p = y at *
 generalize ndM l n id = x at *
 obtain ⟨xi, xp, xm, xc, xk, xo⟩ := x
 obtain ⟨yi, yp, ym, yc, yk, yo⟩ := y
 simp only [ndc] at h2 h3 h4 h7 h8 hw ⊢
 generalize setN l ⟨xi, xp, xm, xc, 1, xo⟩ = W at *
 generalize ftM W n T h = F at *
 cases hE1 : (decide (id = 1) || decide (xk = 1)) with
 | true =>
   (try rw [if_pos rfl])
   simp only [Cs_nil, zad]
   refine fnspec_of mixed TT_ok TT_cl ⟨fun _ => false, fun _ => [], 0, fun _ => false, fun _ => false⟩ Tryz.func89 rfl (by kernel_rfl) rfl 84 rfl [.cell 4 28, .tmp 5] rfl ?_
   simp only [go_sem, zaa, zas, zat, zau, zaw, zal, ↓reduceIte, reduceCtorEq, zab, zaf, zax, zay, zaz, bAd_f, hE1, zak, zan, zac, zam, zap, zah, zai, zae, zaq, zav, zag, zad]
   repeat' (first
 | (apply cl_plain
    case hs => rfl
    case ha => exact ygb
    case h => exact ygaa)
 | ((first | refine s1_id ?_ | refine swp_id ?_ | refine sops_id ?_ | refine s2_id ?_); simp only [bAd_f, hE1, zak, zan, zac, zam, zap, zah, zai, zae, zaq, zav, zag, zad, go_sem, zaa, zas, zat, zau, zaw, zal, ↓reduceIte, reduceCtorEq, zab, zaf, zax, zay, zaz, zaQ, zaO, zaL, zaP, renO, bk, back, outUpsFrom, Ints_ren])
 | exact ygc | fail)
   repeat' (first
 | exact yga
 | fail)
 | false =>
 (try rw [if_neg (by decide)])
 cases hE2 : (decide (ty = 3) || !decide (yi = 1) && !decide (bAd yc 6 = 0)) with
 | true =>
   (try rw [if_pos rfl])
   simp only [Cs_nil, zad]
   refine fnspec_of mixed TT_ok TT_cl ⟨fun _ => false, fun _ => [], 0, fun _ => false, fun _ => false⟩ Tryz.func89 rfl (by kernel_rfl) rfl 84 rfl [.cell 4 28, .tmp 5] rfl ?_
   simp only [go_sem, zaa, zas, zat, zau, zaw, zal, ↓reduceIte, reduceCtorEq, zab, zaf, zax, zay, zaz, bAd_f, hE1, hE2, zak, zan, zac, zam, zap, zah, zai, zae, zaq, zav, zag, zad]
   repeat' (first
 | (apply cl_plain
    case hs => rfl
    case ha => exact ygb
    case h => exact ygn)
 | ((first | refine s1_id ?_ | refine swp_id ?_ | refine sops_id ?_ | refine s2_id ?_); simp only [bAd_f, hE1, hE2, zak, zan, zac, zam, zap, zah, zai, zae, zaq, zav, zag, zad, go_sem, zaa, zas, zat, zau, zaw, zal, ↓reduceIte, reduceCtorEq, zab, zaf, zax, zay, zaz, zaQ, zaO, zaL, zaP, renO, bk, back, outUpsFrom, Ints_ren])
 | exact ygc | fail)
   repeat' (first
 | exact yga
 | fail)
 | false =>
 (try rw [if_neg (by decide)])
 by_cases e3 : bAd xc 6 = 0
 case neg =>
   (try rw [if_neg e3])
   simp only [Cs_nil, zad]
   refine fnspec_of mixed TT_ok TT_cl ⟨fun _ => false, fun _ => [], 0, fun _ => false, fun _ => false⟩ Tryz.func89 rfl (by kernel_rfl) rfl 84 rfl [.cell 4 28, .tmp 5] rfl ?_
   simp only [go_sem, zaa, zas, zat, zau, zaw, zal, ↓reduceIte, reduceCtorEq, zab, zaf, zax, zay, zaz, bAd_f, hE1, hE2, decide_eq_false e3, zak, zan, zac, zam, zap, zah, zai, zae, zaq, zav, zag, zad]
   repeat' (first
 | (apply cl_plain
    case hs => rfl
    case ha => exact ygb
    case h => exact ygn)
 | ((first | refine s1_id ?_ | refine swp_id ?_ | refine sops_id ?_ | refine s2_id ?_); simp only [bAd_f, hE1, hE2, decide_eq_false e3, zak, zan, zac, zam, zap, zah, zai, zae, zaq, zav, zag, zad, go_sem, zaa, zas, zat, zau, zaw, zal, ↓reduceIte, reduceCtorEq, zab, zaf, zax, zay, zaz, zaQ, zaO, zaL, zaP, renO, bk, back, outUpsFrom, Ints_ren])
 | exact ygc | fail)
   repeat' (first
 | exact yga
 | fail)
 (try rw [if_pos e3])
 cases hE4 : (decide (0 < (K.length : Int)) || !F) with
 | true =>
   (try rw [if_pos rfl])
   simp only [Cs_nil, zad]
   refine fnspec_of mixed TT_ok TT_cl ⟨fun _ => false, fun _ => [], 0, fun _ => false, fun _ => false⟩ Tryz.func89 rfl (by kernel_rfl) rfl 84 rfl [.cell 4 28, .tmp 5] rfl ?_
   simp only [go_sem, zaa, zas, zat, zau, zaw, zal, ↓reduceIte, reduceCtorEq, zab, zaf, zax, zay, zaz, bAd_f, hE1, hE2, decide_eq_true e3, hE4, zak, zan, zac, zam, zap, zah, zai, zae, zaq, zav, zag, zad]
   repeat' (first
 | (apply cg_show
    case hl => rfl
    case ha => exact ygf
    case hs => exact ygo
    case h => exact ygi
    case hf => exact ygj
    case hg => simp [SV.noG, SV.noGL, Cell.noG])
 | (apply cl_plain
    case hs => rfl
    case ha => exact ygb
    case h => exact ygi)
 | ((first | refine s1_id ?_ | refine swp_id ?_ | refine sops_id ?_ | refine s2_id ?_); simp only [bAd_f, hE1, hE2, decide_eq_true e3, hE4, zak, zan, zac, zam, zap, zah, zai, zae, zaq, zav, zag, zad, go_sem, zaa, zas, zat, zau, zaw, zal, ↓reduceIte, reduceCtorEq, zab, zaf, zax, zay, zaz, zaQ, zaO, zaL, zaP, renO, bk, back, outUpsFrom, Ints_ren])
 | exact ygc | fail)
   repeat' (first
 | exact yga
 | fail)
 | false =>
 (try rw [if_neg (by decide)])
 refine fnspec_of mixed TT_ok TT_cl ⟨fun _ => false, fun _ => [], 0, fun _ => false, fun _ => false⟩ Tryz.func89 rfl (by kernel_rfl) rfl 84 rfl [.cell 4 28, .tmp 5] rfl ?_
 simp only [go_sem, zaa, zas, zat, zau, zaw, zal, ↓reduceIte, reduceCtorEq, zab, zaf, zax, zay, zaz, bAd_f, hE1, hE2, decide_eq_true e3, hE4, zak, zan, zac, zam, zap, zah, zai, zae, zaq, zav, zag, zad]
 repeat' (first
 | (apply cg_show
    case hl => rfl
    case ha => exact ygf
    case hs => exact ygo
    case h => exact ygi
    case hf => exact ygj
    case hg => simp [SV.noG, SV.noGL, Cell.noG])
 | (apply cl_plain
    case hs => rfl
    case ha => exact ygb
    case h => exact ygi)
 | ((first | refine s1_id ?_ | refine swp_id ?_ | refine sops_id ?_ | refine s2_id ?_); simp only [bAd_f, hE1, hE2, decide_eq_true e3, hE4, zak, zan, zac, zam, zap, zah, zai, zae, zaq, zav, zag, zad, go_sem, zaa, zas, zat, zau, zaw, zal, ↓reduceIte, reduceCtorEq, zab, zaf, zax, zay, zaz, zaQ, zaO, zaL, zaP, renO, bk, back, outUpsFrom, Ints_ren])
 | exact ygc | fail)
 (refine fs_frz 61 ⟨Cs T, 4⟩ (by simp only [zaS, lookR, zaa, if_true, if_false, ↓reduceIte]) (by first | exact Ints_isG _ | exact Bools_isG _ | exact Cs_isG _ | (simp [Cell.isG]; done)) ?_; simp only [frzTm, SV.frz, SV.frzL, Cell.frz, frzHp, frzO, Ints_frz, Bools_frz, zaj, zao, zaa, if_true, if_false, ↓reduceIte])
 repeat' (first
 | exact yga
 | fail)
def amM (l : List Nd) (n : Int) (T : List Tk) (h g : Int) : Int :=
  if ftM l n T h = true then
    if hasM l n g = true then
      if tyM l n g = 3 then 10 else if (!decide (g = 1) && !decide (bAd (ndM l n g).c 6 = 0)) = true then 6 else 0
    else 4
  else 1
set_option maxHeartbeats 8000000 in
theorem r8admits_spec (l : List Nd) (n : Int) (T : List Tk) (h id : Int) (hb : HyB (l, n, T, h)) : FnSpec Tryz.prog 46 [hyV l none n T none h, i1 id] [] (i1 (amM l n T h id)) [] := by
 have h1 := r8fits_spec l n T h hb.l hb.t hb.nm
 unfold amM
 cases hv : ftM l n T h with
 | false =>
   (try rw [hv] at h1)
   (try rw [if_neg (by decide)])
   refine fnspec_of mixed TT_ok TT_cl ⟨fun _ => false, fun _ => [], 0, fun _ => false, fun _ => false⟩ Tryz.func46 rfl (by kernel_rfl) rfl 35 rfl [.tmp 4] rfl ?_
   simp only [go_sem, zaa, zas, zat, zau, zaw, zal, ↓reduceIte, reduceCtorEq, zab, zaf, zax, zay, zaz, zak, zan, zac, zam, zap, zah, zai, zae, zaq, zav, zag, zad]
   repeat' (first
 | (apply cl_plain
    case hs => rfl
    case ha => exact ygb
    case h => exact ygx)
 | ((first | refine s1_id ?_ | refine swp_id ?_ | refine sops_id ?_ | refine s2_id ?_); simp only [zak, zan, zac, zam, zap, zah, zai, zae, zaq, zav, zag, zad, go_sem, zaa, zas, zat, zau, zaw, zal, ↓reduceIte, reduceCtorEq, zab, zaf, zax, zay, zaz, zaQ, zaO, zaL, zaP, renO, bk, back, outUpsFrom, Ints_ren])
 | exact fs_nil trivial rfl
 | fail)
 | true =>
 (try rw [hv] at h1)
 (try rw [if_pos rfl])
 have h2 := rfindT_spec l none n id hb.l hb.nm
 rw [fdM_2, show (fdM l n id).1 = ndM l n id from rfl] at h2
 have h4 := r8type_spec l none n id hb.l hb.nm
 generalize tyM l n id = ty at *
 generalize ndM l n id = x at *
 obtain ⟨xi, xp, xm, xc, xk, xo⟩ := x
 simp only [ndc] at h2
 cases hc : hasM l n id with
 | false =>
   (try rw [hc] at h2)
   (try rw [if_neg (by decide)])
   refine fnspec_of mixed TT_ok TT_cl ⟨fun _ => false, fun _ => [], 0, fun _ => false, fun _ => false⟩ Tryz.func46 rfl (by kernel_rfl) rfl 35 rfl [.tmp 4] rfl ?_
   simp only [go_sem, zaa, zas, zat, zau, zaw, zal, ↓reduceIte, reduceCtorEq, zab, zaf, zax, zay, zaz, bAd_f, zak, zan, zac, zam, zap, zah, zai, zae, zaq, zav, zag, zad]
   repeat' (first
 | (apply cl_plain
    case hs => rfl
    case ha => exact ygb
    case h => exact ygaa)
 | ((first | refine s1_id ?_ | refine swp_id ?_ | refine sops_id ?_ | refine s2_id ?_); simp only [bAd_f, zak, zan, zac, zam, zap, zah, zai, zae, zaq, zav, zag, zad, go_sem, zaa, zas, zat, zau, zaw, zal, ↓reduceIte, reduceCtorEq, zab, zaf, zax, zay, zaz, zaQ, zaO, zaL, zaP, renO, bk, back, outUpsFrom, Ints_ren])
 | exact fs_nil trivial rfl
 | fail)
 | true =>
 (try rw [hc] at h2)
 (try rw [if_pos rfl])
 by_cases e1 : ty = 3
 · (try rw [if_pos e1])
   refine fnspec_of mixed TT_ok TT_cl ⟨fun _ => false, fun _ => [], 0, fun _ => false, fun _ => false⟩ Tryz.func46 rfl (by kernel_rfl) rfl 35 rfl [.tmp 4] rfl ?_
   simp only [go_sem, zaa, zas, zat, zau, zaw, zal, ↓reduceIte, reduceCtorEq, zab, zaf, zax, zay, zaz, bAd_f, decide_eq_true e1, zak, zan, zac, zam, zap, zah, zai, zae, zaq, zav, zag, zad]
   repeat' (first
 | (apply cl_plain
    case hs => rfl
    case ha => exact ygb
    case h => exact ygz)
 | ((first | refine s1_id ?_ | refine swp_id ?_ | refine sops_id ?_ | refine s2_id ?_); simp only [bAd_f, decide_eq_true e1, zak, zan, zac, zam, zap, zah, zai, zae, zaq, zav, zag, zad, go_sem, zaa, zas, zat, zau, zaw, zal, ↓reduceIte, reduceCtorEq, zab, zaf, zax, zay, zaz, zaQ, zaO, zaL, zaP, renO, bk, back, outUpsFrom, Ints_ren])
 | exact fs_nil trivial rfl
 | fail)
 (try rw [if_neg e1])
 cases hE : (!decide (id = 1) && !decide (bAd xc 6 = 0)) with
 | true =>
   (try rw [if_pos rfl])
   refine fnspec_of mixed TT_ok TT_cl ⟨fun _ => false, fun _ => [], 0, fun _ => false, fun _ => false⟩ Tryz.func46 rfl (by kernel_rfl) rfl 35 rfl [.tmp 4] rfl ?_
   simp only [go_sem, zaa, zas, zat, zau, zaw, zal, ↓reduceIte, reduceCtorEq, zab, zaf, zax, zay, zaz, bAd_f, decide_eq_false e1, hE, zak, zan, zac, zam, zap, zah, zai, zae, zaq, zav, zag, zad]
   repeat' (first
 | (apply cl_plain
    case hs => rfl
    case ha => exact ygb
    case h => exact ygz)
 | ((first | refine s1_id ?_ | refine swp_id ?_ | refine sops_id ?_ | refine s2_id ?_); simp only [bAd_f, decide_eq_false e1, hE, zak, zan, zac, zam, zap, zah, zai, zae, zaq, zav, zag, zad, go_sem, zaa, zas, zat, zau, zaw, zal, ↓reduceIte, reduceCtorEq, zab, zaf, zax, zay, zaz, zaQ, zaO, zaL, zaP, renO, bk, back, outUpsFrom, Ints_ren])
 | exact fs_nil trivial rfl
 | fail)
 | false =>
 (try rw [if_neg (by decide)])
 refine fnspec_of mixed TT_ok TT_cl ⟨fun _ => false, fun _ => [], 0, fun _ => false, fun _ => false⟩ Tryz.func46 rfl (by kernel_rfl) rfl 35 rfl [.tmp 4] rfl ?_
 simp only [go_sem, zaa, zas, zat, zau, zaw, zal, ↓reduceIte, reduceCtorEq, zab, zaf, zax, zay, zaz, bAd_f, decide_eq_false e1, hE, zak, zan, zac, zam, zap, zah, zai, zae, zaq, zav, zag, zad]
 repeat' (first
 | (apply cl_plain
    case hs => rfl
    case ha => exact ygb
    case h => exact ygz)
 | ((first | refine s1_id ?_ | refine swp_id ?_ | refine sops_id ?_ | refine s2_id ?_); simp only [bAd_f, decide_eq_false e1, hE, zak, zan, zac, zam, zap, zah, zai, zae, zaq, zav, zag, zad, go_sem, zaa, zas, zat, zau, zaw, zal, ↓reduceIte, reduceCtorEq, zab, zaf, zax, zay, zaz, zaQ, zaO, zaL, zaP, renO, bk, back, outUpsFrom, Ints_ren])
 | exact fs_nil trivial rfl
 | fail)
def atM (l : List Nd) (n : Int) (T : List Tk) (h t g : Int) : Hy × Int :=
  if ftM l n T h = true then
    if (!(fiR l n T h t).2 || !hasM l n g) = true then (z6, 4)
    else if amM l n T h g = 0 then
      if (dmM l n g).1 = (dmM l n (fiR l n T h t).1.g).1 then plR l n T h t g else (z6, 9)
    else (z6, amM l n T h g)
  else (z6, 1)
set_option maxHeartbeats 8000000 in
theorem r8at_spec (l : List Nd) (n : Int) (T : List Tk) (h t g : Int) (hb : HyB (l, n, T, h)) : FnSpec Tryz.prog 48 [hyV l none n T none h, i1 t, i1 g] [] (.tup [hyQ (atM l n T h t g).1, i1 (atM l n T h t g).2]) [] := by
 have h1 := r8fits_spec l n T h hb.l hb.t hb.nm
 unfold atM
 cases hv : ftM l n T h with
 | false =>
   (try rw [hv] at h1)
   (try rw [if_neg (by decide)])
   simp only [Cs_nil, zad]
   refine fnspec_of mixed TT_ok TT_cl ⟨fun _ => false, fun _ => [], 0, fun _ => false, fun _ => false⟩ Tryz.func48 rfl (by kernel_rfl) rfl 67 rfl [.cell 6 28, .tmp 7] rfl ?_
   simp only [go_sem, zaa, zas, zat, zau, zaw, zal, ↓reduceIte, reduceCtorEq, zab, zaf, zax, zay, zaz, zak, zan, zac, zam, zap, zah, zai, zae, zaq, zav, zag, zad]
   repeat' (first
 | (apply cl_plain
    case hs => rfl
    case ha => exact ygb
    case h => exact ygx)
 | ((first | refine s1_id ?_ | refine swp_id ?_ | refine sops_id ?_ | refine s2_id ?_); simp only [zak, zan, zac, zam, zap, zah, zai, zae, zaq, zav, zag, zad, go_sem, zaa, zas, zat, zau, zaw, zal, ↓reduceIte, reduceCtorEq, zab, zaf, zax, zay, zaz, zaQ, zaO, zaL, zaP, renO, bk, back, outUpsFrom, Ints_ren])
 | exact ygc | fail)
   repeat' (first
 | exact yga
 | fail)
 | true =>
 (try rw [hv] at h1)
 (try rw [if_pos rfl])
 have h2 := rfind6_spec l n T h t hb.l hb.t hb.nm
 have h3 := rhas_spec l none n g hb.l hb.nm
 have h4 := r8admits_spec l n T h g hb
 have h5 := r8dom_spec l none n g hb.l hb.nm
 have h6 := r8dom_spec l none n (fiR l n T h t).1.g hb.l hb.nm
 have h7 := rplace6_spec l n T h t g hb.l hb.t hb.nm
 generalize plR l n T h t g = q at *
 generalize dmM l n (fiR l n T h t).1.g = b at *
 generalize dmM l n g = a at *
 generalize amM l n T h g = e' at *
 generalize hasM l n g = hg at *
 generalize fiR l n T h t = y at *
 obtain ⟨⟨yi, yp, yg, yu⟩, yb⟩ := y
 obtain ⟨a, a'⟩ := a
 obtain ⟨b, b'⟩ := b
 obtain ⟨⟨l', n', T', h'⟩, e2⟩ := q
 simp only [tkc] at h2 h5 h6 h7 ⊢
 cases hE : (!yb || !hg) with
 | true =>
   (try rw [if_pos rfl])
   simp only [Cs_nil, zad]
   refine fnspec_of mixed TT_ok TT_cl ⟨fun _ => false, fun _ => [], 0, fun _ => false, fun _ => false⟩ Tryz.func48 rfl (by kernel_rfl) rfl 67 rfl [.cell 6 28, .tmp 7] rfl ?_
   simp only [go_sem, zaa, zas, zat, zau, zaw, zal, ↓reduceIte, reduceCtorEq, zab, zaf, zax, zay, zaz, hE, zak, zan, zac, zam, zap, zah, zai, zae, zaq, zav, zag, zad]
   repeat' (first
 | (apply cg_any
    case hl => rfl
    case ha => exact ygf
    case hs => exact ygg
    case h => exact ygs)
 | (apply cl_plain
    case hs => rfl
    case ha => exact ygb
    case h => exact ygs)
 | ((first | refine s1_id ?_ | refine swp_id ?_ | refine sops_id ?_ | refine s2_id ?_); simp only [hE, zak, zan, zac, zam, zap, zah, zai, zae, zaq, zav, zag, zad, go_sem, zaa, zas, zat, zau, zaw, zal, ↓reduceIte, reduceCtorEq, zab, zaf, zax, zay, zaz, zaQ, zaO, zaL, zaP, renO, bk, back, outUpsFrom, Ints_ren])
 | exact ygc | fail)
   repeat' (first
 | exact yga
 | fail)
 | false =>
 (try rw [if_neg (by decide)])
 by_cases e : e' = 0
 case neg =>
   (try rw [if_neg e])
   simp only [Cs_nil, zad]
   refine fnspec_of mixed TT_ok TT_cl ⟨fun _ => false, fun _ => [], 0, fun _ => false, fun _ => false⟩ Tryz.func48 rfl (by kernel_rfl) rfl 67 rfl [.cell 6 28, .tmp 7] rfl ?_
   simp only [go_sem, zaa, zas, zat, zau, zaw, zal, ↓reduceIte, reduceCtorEq, zab, zaf, zax, zay, zaz, hE, decide_eq_false e, zak, zan, zac, zam, zap, zah, zai, zae, zaq, zav, zag, zad]
   repeat' (first
 | (apply cg_any
    case hl => rfl
    case ha => exact ygf
    case hs => exact ygg
    case h => exact ygn)
 | (apply cl_plain
    case hs => rfl
    case ha => exact ygb
    case h => exact ygn)
 | ((first | refine s1_id ?_ | refine swp_id ?_ | refine sops_id ?_ | refine s2_id ?_); simp only [hE, decide_eq_false e, zak, zan, zac, zam, zap, zah, zai, zae, zaq, zav, zag, zad, go_sem, zaa, zas, zat, zau, zaw, zal, ↓reduceIte, reduceCtorEq, zab, zaf, zax, zay, zaz, zaQ, zaO, zaL, zaP, renO, bk, back, outUpsFrom, Ints_ren])
 | exact ygc | fail)
   repeat' (first
 | exact yga
 | fail)
 (try rw [if_pos e])
 by_cases e3 : a = b
 case neg =>
   (try rw [if_neg e3])
   simp only [Cs_nil, zad]
   refine fnspec_of mixed TT_ok TT_cl ⟨fun _ => false, fun _ => [], 0, fun _ => false, fun _ => false⟩ Tryz.func48 rfl (by kernel_rfl) rfl 67 rfl [.cell 6 28, .tmp 7] rfl ?_
   simp only [go_sem, zaa, zas, zat, zau, zaw, zal, ↓reduceIte, reduceCtorEq, zab, zaf, zax, zay, zaz, hE, decide_eq_true e, decide_eq_false e3, zak, zan, zac, zam, zap, zah, zai, zae, zaq, zav, zag, zad]
   repeat' (first
 | (apply cg_any
    case hl => rfl
    case ha => exact ygf
    case hs => exact ygg
    case h => exact ygw)
 | (apply cl_plain
    case hs => rfl
    case ha => exact ygb
    case h => exact ygw)
 | ((first | refine s1_id ?_ | refine swp_id ?_ | refine sops_id ?_ | refine s2_id ?_); simp only [hE, decide_eq_true e, decide_eq_false e3, zak, zan, zac, zam, zap, zah, zai, zae, zaq, zav, zag, zad, go_sem, zaa, zas, zat, zau, zaw, zal, ↓reduceIte, reduceCtorEq, zab, zaf, zax, zay, zaz, zaQ, zaO, zaL, zaP, renO, bk, back, outUpsFrom, Ints_ren])
 | exact ygc | fail)
   repeat' (first
 | exact yga
 | fail)
 (try rw [if_pos e3])
 refine fnspec_of mixed TT_ok TT_cl ⟨fun _ => false, fun _ => [], 0, fun _ => false, fun _ => false⟩ Tryz.func48 rfl (by kernel_rfl) rfl 67 rfl [.cell 6 28, .tmp 7] rfl ?_
 simp only [go_sem, zaa, zas, zat, zau, zaw, zal, ↓reduceIte, reduceCtorEq, zab, zaf, zax, zay, zaz, hE, decide_eq_true e, decide_eq_true e3, zak, zan, zac, zam, zap, zah, zai, zae, zaq, zav, zag, zad]
 repeat' (first
 | (apply cg_any
    case hl => rfl
    case ha => exact ygf
    case hs => exact ygg
    case h => exact ygq)
 | (apply cl_plain
    case hs => rfl
    case ha => exact ygb
    case h => exact ygq)
 | ((first | refine s1_id ?_ | refine swp_id ?_ | refine sops_id ?_ | refine s2_id ?_); simp only [hE, decide_eq_true e, decide_eq_true e3, zak, zan, zac, zam, zap, zah, zai, zae, zaq, zav, zag, zad, go_sem, zaa, zas, zat, zau, zaw, zal, ↓reduceIte, reduceCtorEq, zab, zaf, zax, zay, zaz, zaQ, zaO, zaL, zaP, renO, bk, back, outUpsFrom, Ints_ren])
 | exact ygc | fail)
 repeat' (first
 | exact yga
 | fail)
structure HyP (l : List Nd) (n : Int) (T : List Tk) (h : Int) : Prop where
  v : VT l n
  le : T.length ≤ 128
  asc : T.Pairwise (fun x y => x.i < y.i)
  pos : ∀ x ∈ T, 1 ≤ x.i
  nx : ∀ x ∈ T, x.i < h
  h1 : 1 ≤ h
  h2 : h ≤ 2147483648
  g : ∀ x ∈ T, ∃ y ∈ l, y.i = x.g
  u : ∀ x ∈ T, 0 ≤ x.u ∧ x.u ≤ 1048576
  p : ∀ x ∈ T, ∃ z ∈ T, z.i = x.p ∧ z.p = x.p ∧ z.u = x.u
theorem bs_nd {l : List Nd} {n : Int} (h : VT l n) (a : Int) : bsF Nd.i l a = true ↔ ∃ y ∈ l, y.i = a := by
 rw [bs_any Nd.i l (fun i j hij hj => h.asc i j hij hj), List.any_eq_true]
 constructor
 · rintro ⟨y, hy, e⟩; exact ⟨y, hy, of_decide_eq_true e⟩
 · rintro ⟨y, hy, e⟩; exact ⟨y, hy, decide_eq_true e⟩
theorem bs_tk {T : List Tk} (h : T.Pairwise (fun x y => x.i < y.i)) (a : Int) : bsF Tk.i T a = true ↔ ∃ y ∈ T, y.i = a := by
 rw [bs_any Tk.i T (pw_ix h), List.any_eq_true]
 constructor
 · rintro ⟨y, hy, e⟩; exact ⟨y, hy, of_decide_eq_true e⟩
 · rintro ⟨y, hy, e⟩; exact ⟨y, hy, decide_eq_true e⟩
theorem tk_inj {T : List Tk} (h : T.Pairwise (fun x y => x.i < y.i)) {x y : Tk} (hx : x ∈ T) (hy : y ∈ T) (e : x.i = y.i) : x = y := by
 obtain ⟨i, hi, ei⟩ := List.getElem_of_mem hx
 obtain ⟨j, hj, ej⟩ := List.getElem_of_mem hy
 rcases Nat.lt_trichotomy i j with c | c | c
 · have := List.pairwise_iff_getElem.1 h i j hi hj c; rw [ei, ej] at this; omega
 · subst c; rw [← ei, ← ej]
 · have := List.pairwise_iff_getElem.1 h j i hj hi c; rw [ei, ej] at this; omega
theorem tk_at {T : List Tk} (h : T.Pairwise (fun x y => x.i < y.i)) {x : Tk} (hx : x ∈ T) : bsF Tk.i T x.i = true ∧ gT T (bsV Tk.i T x.i) = x := by
 have hb := (bs_tk h x.i).2 ⟨x, hx, rfl⟩
 obtain ⟨h1, h2⟩ := bsF_at Tk.i T x.i hb
 exact ⟨hb, tk_inj h (getD_mem T _ ztk h1) hx h2⟩
theorem tas_of {T : List Tk} (h : T.Pairwise (fun x y => x.i < y.i)) : ∀ (last : Int), (∀ x ∈ T, last < x.i) → tasF T last = true := by
 induction T with
 | nil => intro _ _; rfl
 | cons x r ih =>
   intro last hl
   have hp := List.pairwise_cons.1 h
   rw [tasF, zaD, decide_eq_true_eq]
   exact ⟨hl x List.mem_cons_self, ih hp.2 x.i hp.1⟩
theorem hyM_iff (l : List Nd) (n : Int) (T : List Tk) (h : Int) : hyM l n T h = true ↔ HyP l n T h := by
 constructor
 · intro hv
   obtain ⟨hV, hle, hh1, hh2, hpw⟩ := hy_all hv
   unfold hyM at hv
   simp only [zaD, decide_eq_true_eq, zaG] at hv
   obtain ⟨_, _, hta, hlt, _, hst⟩ := hv
   have htg := (tas_gt T 0 hta).1
   have hok : ∀ x ∈ T, plB l x = true ∧ ldB T x = true := fun x hx => by
     have : stB l T x = false := Bool.eq_false_iff.2 (fun e => by
       have h2 := List.any_eq_true.2 ⟨x, hx, e⟩
       rw [hst] at h2; cases h2)
     unfold stB at this
     simp only [zaC, zaF] at this
     exact this
   refine ⟨hV, hle, hpw, fun x hx => by have := htg x hx; omega, fun x hx => ?_, hh1, hh2, fun x hx => ?_, fun x hx => ?_, fun x hx => ?_⟩
   · have h0 : T ≠ [] := fun e => by rw [e] at hx; cases hx
     have hL : lstI T = (gT T (T.length - 1)).i := lst_at T 0 h0
     rw [hL] at hlt
     obtain ⟨i, hi, ei⟩ := List.getElem_of_mem hx
     rcases Nat.lt_or_ge i (T.length - 1) with c | c
     · have := pw_ix hpw i (T.length - 1) c (by omega)
       rw [show T.getD i Rec.z = x from by rw [← ei]; exact getD_at T i Rec.z hi] at this
       have e2 : (T.getD (T.length - 1) Rec.z).i = (gT T (T.length - 1)).i := rfl
       rw [e2] at this
       omega
     · have e : i = T.length - 1 := by omega
       subst e
       rw [show gT T (T.length - 1) = x from by rw [← ei]; exact getD_at T _ ztk hi] at hlt
       exact hlt
   · have := (hok x hx).1
     unfold plB at this
     rw [zaD] at this
     exact (bs_nd hV x.g).1 this.1
   · have := (hok x hx).1
     unfold plB at this
     simp only [zaD, decide_eq_true_eq] at this
     exact this.2
   · have := (hok x hx).2
     unfold ldB at this
     simp only [zaD, decide_eq_true_eq] at this
     obtain ⟨a, b, c⟩ := this
     obtain ⟨h1, h2⟩ := bsF_at Tk.i T x.p a
     exact ⟨_, getD_mem T _ ztk h1, h2, b, c⟩
 · intro P
   unfold hyM
   simp only [zaD, decide_eq_true_eq, zaG]
   refine ⟨(chkT_iff l n).2 P.v, P.le, tas_of P.asc 0 (fun x hx => by have := P.pos x hx; omega), ?_, P.h2, Bool.eq_false_iff.2 (fun e => ?_)⟩
   · by_cases h0 : T = []
     · rw [h0]; show (0 : Int) < h; have := P.h1; omega
     · rw [show lstI T = (gT T (T.length - 1)).i from lst_at T 0 h0]
       exact P.nx _ (getD_mem T _ ztk (by have : T.length ≠ 0 := fun e => h0 (List.length_eq_zero_iff.1 e); omega))
   · obtain ⟨x, hx, ex⟩ := List.any_eq_true.1 e
     unfold stB at ex
     have e1 : plB l x = true := by
       unfold plB
       simp only [zaD, decide_eq_true_eq]
       exact ⟨(bs_nd P.v x.g).2 (P.g x hx), P.u x hx⟩
     have e2 : ldB T x = true := by
       unfold ldB
       obtain ⟨z, hz, z1, z2, z3⟩ := P.p x hx
       obtain ⟨t1, t2⟩ := tk_at P.asc hz
       rw [z1] at t1 t2
       simp only [zaD, decide_eq_true_eq]
       rw [t2]
       exact ⟨t1, z2, z3⟩
     rw [e1, e2] at ex
     cases ex
theorem HyP.add {l : List Nd} {n : Int} {T : List Tk} {h : Int} (P : HyP l n T h) (k : Tk) (hk : k.i = h) (hg : ∃ y ∈ l, y.i = k.g) (hu : 0 ≤ k.u ∧ k.u ≤ 1048576) (hp : (k.p = h) ∨ ∃ z ∈ T, z.i = k.p ∧ z.p = k.p ∧ z.u = k.u) (h1 : T.length ≠ 128) (h2 : h ≤ 2147483647) : HyP l n (T ++ [k]) (h + 1) where
  v := P.v
  le := by rw [snoc_len]; have := P.le; omega
  asc := List.pairwise_append.2 ⟨P.asc, List.pairwise_singleton _ _, fun x hx y hy => by rw [List.mem_singleton.1 hy, hk]; exact P.nx x hx⟩
  pos := fun x hx => by
    rcases List.mem_append.1 hx with e | e
    · exact P.pos x e
    · rw [List.mem_singleton.1 e, hk]; exact P.h1
  nx := fun x hx => by
    rcases List.mem_append.1 hx with e | e
    · have := P.nx x e; omega
    · rw [List.mem_singleton.1 e, hk]; omega
  h1 := by have := P.h1; omega
  h2 := by omega
  g := fun x hx => by
    rcases List.mem_append.1 hx with e | e
    · exact P.g x e
    · rw [List.mem_singleton.1 e]; exact hg
  u := fun x hx => by
    rcases List.mem_append.1 hx with e | e
    · exact P.u x e
    · rw [List.mem_singleton.1 e]; exact hu
  p := fun x hx => by
    rcases List.mem_append.1 hx with e | e
    · obtain ⟨z, hz, e3⟩ := P.p x e
      exact ⟨z, List.mem_append_left _ hz, e3⟩
    · rw [List.mem_singleton.1 e]
      rcases hp with c | ⟨z, hz, e3⟩
      · exact ⟨k, List.mem_append_right _ List.mem_cons_self, by rw [hk, c], rfl, rfl⟩
      · exact ⟨z, List.mem_append_left _ hz, e3⟩
theorem HyP.spawn {l : List Nd} {n : Int} {T : List Tk} {h : Int} (P : HyP l n T h) {g u : Int} (he : (spR l n T h g u).2.2 = 0) : spR l n T h g u = ((l, n, T ++ [⟨h, h, g, u⟩], h + 1), h, 0) ∧ HyP l n (T ++ [⟨h, h, g, u⟩]) (h + 1) := by
 unfold spR at *
 rw [if_pos ((hyM_iff l n T h).2 P)] at he ⊢
 by_cases hu : 0 ≤ u ∧ u ≤ 1048576
 · rw [if_pos hu] at he ⊢
   by_cases hb : bsF Nd.i l g = true
   · rw [if_pos hb] at he ⊢
     unfold adR at *
     by_cases c1 : T.length = 128
     · rw [if_pos c1] at he; cases he
     rw [if_neg c1] at he ⊢
     by_cases c2 : 2147483647 < h
     · rw [if_pos c2] at he; cases he
     rw [if_neg c2]
     exact ⟨rfl, P.add ⟨h, h, g, u⟩ rfl ((bs_nd P.v g).1 hb) hu (Or.inl rfl) c1 (by omega)⟩
   · rw [if_neg hb] at he; cases he
 · rw [if_neg hu] at he; cases he
theorem HyP.clone {l : List Nd} {n : Int} {T : List Tk} {h : Int} (P : HyP l n T h) {t : Int} (he : (clR l n T h t).2.2 = 0) : ∃ x ∈ T, x.i = t ∧ clR l n T h t = ((l, n, T ++ [⟨h, x.p, x.g, x.u⟩], h + 1), h, 0) ∧ HyP l n (T ++ [⟨h, x.p, x.g, x.u⟩]) (h + 1) := by
 unfold clR at *
 rw [if_pos ((hyM_iff l n T h).2 P)] at he ⊢
 by_cases hb : bsF Tk.i T t = true
 · rw [if_pos hb] at he ⊢
   obtain ⟨h1, h2⟩ := bsF_at Tk.i T t hb
   have hm := getD_mem T _ ztk h1
   refine ⟨_, hm, h2, ?_⟩
   rw [show T.getD (bsV Tk.i T t) ztk = gT T (bsV Tk.i T t) from rfl] at hm ⊢
   generalize gT T (bsV Tk.i T t) = x at *
   unfold adR at *
   by_cases c1 : T.length = 128
   · rw [if_pos c1] at he; cases he
   rw [if_neg c1] at he ⊢
   by_cases c2 : 2147483647 < h
   · rw [if_pos c2] at he; cases he
   rw [if_neg c2]
   exact ⟨rfl, P.add ⟨h, x.p, x.g, x.u⟩ rfl (P.g x hm) (P.u x hm) (Or.inr (P.p x hm)) c1 (by omega)⟩
 · rw [if_neg hb] at he; cases he
theorem HyP.map {l l' : List Nd} {n : Int} {T : List Tk} {h : Int} (P : HyP l n T h) (hV : VT l' n) (f : Tk → Tk) (hf : ∀ x, (f x).i = x.i ∧ (f x).p = x.p ∧ (f x).u = x.u) (hg : ∀ x ∈ T, ∃ y ∈ l', y.i = (f x).g) : HyP l' n (T.map f) h where
  v := hV
  le := by rw [zaV]; exact P.le
  asc := by
    rw [List.pairwise_map]
    exact P.asc.imp (fun {x y} e => by rw [(hf x).1, (hf y).1]; exact e)
  pos := fun x hx => by obtain ⟨y, hy, rfl⟩ := List.mem_map.1 hx; rw [(hf y).1]; exact P.pos y hy
  nx := fun x hx => by obtain ⟨y, hy, rfl⟩ := List.mem_map.1 hx; rw [(hf y).1]; exact P.nx y hy
  h1 := P.h1
  h2 := P.h2
  g := fun x hx => by obtain ⟨y, hy, rfl⟩ := List.mem_map.1 hx; exact hg y hy
  u := fun x hx => by obtain ⟨y, hy, rfl⟩ := List.mem_map.1 hx; rw [(hf y).2.2]; exact P.u y hy
  p := fun x hx => by
    obtain ⟨y, hy, rfl⟩ := List.mem_map.1 hx
    obtain ⟨z, hz, z1, z2, z3⟩ := P.p y hy
    exact ⟨f z, List.mem_map_of_mem hz, by rw [(hf z).1, (hf y).2.1, z1], by rw [(hf z).2.1, (hf y).2.1, z2], by rw [(hf z).2.2, (hf y).2.2, z3]⟩
theorem HyP.place {l : List Nd} {n : Int} {T : List Tk} {h : Int} (P : HyP l n T h) {t g : Int} (he : (plR l n T h t g).2 = 0) : plR l n T h t g = ((l, n, T.map (ptF t g), h), 0) ∧ (∃ x ∈ T, x.i = t) ∧ (∃ y ∈ l, y.i = g) ∧ HyP l n (T.map (ptF t g)) h := by
 unfold plR at *
 rw [if_pos ((hyM_iff l n T h).2 P)] at he ⊢
 by_cases hb : bsF Tk.i T t = true
 · rw [if_pos hb] at he ⊢
   by_cases hc : bsF Nd.i l g = true
   · rw [if_pos hc]
     have hg := (bs_nd P.v g).1 hc
     refine ⟨rfl, (bs_tk P.asc t).1 hb, hg, P.map P.v (ptF t g) (fun x => ?_) (fun x hx => ?_)⟩
     · unfold ptF; split <;> exact ⟨rfl, rfl, rfl⟩
     · unfold ptF; split
       · exact hg
       · exact P.g x hx
   · rw [if_neg hc] at he; cases he
 · rw [if_neg hb] at he; cases he
theorem HyP.exit {l : List Nd} {n : Int} {T : List Tk} {h : Int} (P : HyP l n T h) {t : Int} (he : (exR l n T h t).2 = 0) : exR l n T h t = ((l, n, T.filter (fun x => !goB t x), h), 0) ∧ (∃ x ∈ T, x.i = t) ∧ HyP l n (T.filter (fun x => !goB t x)) h := by
 unfold exR at *
 rw [if_pos ((hyM_iff l n T h).2 P)] at he ⊢
 by_cases hb : bsF Tk.i T t = true
 · rw [if_pos hb]
   have hs : ∀ x ∈ T.filter (fun x => !goB t x), x ∈ T := fun x hx => (List.mem_filter.1 hx).1
   refine ⟨rfl, (bs_tk P.asc t).1 hb, P.v, Nat.le_trans (List.length_filter_le _ _) P.le, P.asc.filter _, fun x hx => P.pos x (hs x hx), fun x hx => P.nx x (hs x hx), P.h1, P.h2, fun x hx => P.g x (hs x hx), fun x hx => P.u x (hs x hx), fun x hx => ?_⟩
   obtain ⟨z, hz, z1, z2, z3⟩ := P.p x (hs x hx)
   refine ⟨z, List.mem_filter.2 ⟨hz, ?_⟩, z1, z2, z3⟩
   have hx2 := (List.mem_filter.1 hx).2
   unfold goB at hx2 ⊢
   rw [z1, z2, Bool.or_self]
   simp only [zaG, zaC] at hx2 ⊢
   exact hx2.2
 · rw [if_neg hb] at he; cases he
theorem upR_map (f : Nd → Nd) (hf : ∀ x, (f x).i = x.i ∧ (f x).p = x.p) : ∀ (l : List Nd) (id : Int), upR (l.map f) id = upR l id
  | [], _ => rfl
  | x :: r, id => by
    rw [zaj, upR, upR, (hf x).1, (hf x).2, upR_map f hf r, upR_map f hf r]
theorem upL_map (f : Nd → Nd) (hf : ∀ x, (f x).i = x.i ∧ (f x).p = x.p) (l : List Nd) (id : Int) : upL (l.map f) id = upL l id := by
 unfold upL; rw [← List.map_reverse]; exact upR_map f hf _ id
theorem VL.map {l : List Nd} {n : Int} (h : VL l n) (f : Nd → Nd) (hf : ∀ x, (f x).i = x.i ∧ (f x).p = x.p ∧ (f x).nm = x.nm) (hk : ∀ x ∈ l, kdOk (f x) = true ∧ rngOk (f x) = true) (h0 : (f (gN l 0)).k = 0) : VL (l.map f) n where
  ne := by rw [zaV]; exact h.ne
  rt := by
    have e : gN (l.map f) 0 = f (gN l 0) := by
      have h1 : 0 < l.length := h.ne
      rw [show gN (l.map f) 0 = (l.map f)[0]'(by rw [zaV]; exact h1) from getD_at _ 0 zn _, List.getElem_map, show gN l 0 = l[0] from getD_at l 0 zn h1]
    rw [e]
    obtain ⟨a, b, c, _⟩ := h.rt
    obtain ⟨x, y, z⟩ := hf (gN l 0)
    exact ⟨by rw [x, a], by rw [y, b], by rw [z, c], h0⟩
  le := by rw [zaV]; exact h.le
  all := fun x hx => by obtain ⟨y, hy, rfl⟩ := List.mem_map.1 hx; exact hk y hy
  asc := by rw [List.pairwise_map]; exact h.asc.imp (fun {x y} e => by rw [(hf x).1, (hf y).1]; exact e)
  ch := fun x hx e => by
    obtain ⟨y, hy, rfl⟩ := List.mem_map.1 hx
    rw [(hf y).1] at e
    obtain ⟨a, z, hz, b, c⟩ := h.ch y hy e
    exact ⟨by rw [(hf y).2.2]; exact a, f z, List.mem_map_of_mem hz, by rw [(hf z).1, (hf y).2.1]; exact b, by rw [(hf z).1, (hf y).1]; exact c⟩
  new := by rw [List.pairwise_map]; exact h.new.imp (fun {x y} e => by rw [(hf x).2.1, (hf y).2.1, (hf x).2.2, (hf y).2.2]; exact e)
  dp := fun x hx => by
    obtain ⟨y, hy, rfl⟩ := List.mem_map.1 hx
    rw [upL_map f (fun x => ⟨(hf x).1, (hf x).2.1⟩), (hf y).1]
    exact h.dp y hy
  nx := fun x hx => by obtain ⟨y, hy, rfl⟩ := List.mem_map.1 hx; rw [(hf y).1]; exact h.nx y hy
  mx := h.mx
def lendD : FuncId → List Nat := fun f => if f = 42 then [0] else if f = 47 then [0] else []
def lendN : FuncId → List Nat := fun f => if f = 42 then [0] else []
def dgV (L : List Int) (l : List Nd) (j : Nat) : Int := if nxV L j 15 = 14 then nxV L (nxA L j 15) 9 - 1 else (gN l (nxV L (nxA L j 15) l.length).toNat).i
def dgA (L : List Int) (l : List Nd) (j : Nat) : Nat := if nxV L j 15 = 14 then nxA L (nxA L j 15) 9 else nxA L (nxA L j 15) l.length
set_option maxHeartbeats 8000000 in
theorem dgroup_spec (L : List Int) (hl : L.length ≤ 600) (hr : ∀ x ∈ L, -9223372036854775808 ≤ x ∧ x ≤ 9223372036854775807) (j : Nat) (l : List Nd) (n : Int) (h1 : 1 ≤ l.length) (hll : l.length ≤ 64) : FnSpec Tryz.prog 13 [dp, trV l none n] [dice L j] (i1 (dgV L l j)) [some (dice L (dgA L l j))] := by
 have hnl := nd_len l
 have n1 := bool_spec L j 15 hl hr (by decide)
 unfold dgV dgA
 generalize nxA L j 15 = j2 at *
 have c0 : ¬ (l.length : Int) = 0 := by omega
 by_cases hb : nxV L j 15 = 14
 · rw [decide_eq_true (by omega : nxV L j 15 = 15 - 1)] at n1
   have n2 := next_spec L j2 9 hl hr (by decide)
   have r2 := nx_rng L j2 9 (by decide)
   rw [if_pos hb, if_pos hb]
   generalize nxV L j2 9 = v at *
   refine fnspec_of mixed TT_ok TT_cl ⟨fun _ => false, lendD, 1, fun _ => false, fun _ => false⟩ Tryz.func13 rfl (by kernel_rfl) rfl 26 rfl [.tmp 4] rfl ?_
   simp only [go_sem, zaa, zas, zat, zau, zaw, zal, ↓reduceIte, reduceCtorEq, zab, zaf, zax, zay, zaz, lendD]
   repeat' (first
 | with_reducible refine zaE ?_ ?_
 | (apply cl_lend
    case hr => exact yge
    case ha => exact ygb
    case hs => rfl
    case hn => decide
    case h => (first | exact n1 .. | exact n2 ..)
    case hf => exact ygd
    case hl => exact ygk)
 | ((first | refine s1_id ?_ | refine swp_id ?_ | refine sops_id ?_ | refine s2_id ?_); simp only [lendD, dice, go_sem, zaa, zas, zat, zau, zaw, zal, ↓reduceIte, reduceCtorEq, zab, zaf, zax, zay, zaz, zaQ, zaO, zaL, zaP, renO, bk, back, outUpsFrom, Ints_ren])
 | exact ygu
 | exact ygc | fail)
   (refine fs_flat [(0, dice L (nxA L j2 9))] (by simp) (by simp only [zaj, zao]; decide) (by simp only [go_sem, resV, resS, zaQ, zaO, zaL, zaU, zaS, idx, renO, zaP, evS, slot, lookR, zaa, ↓reduceIte, reduceCtorEq, if_true, if_false, zaM, zaN, zaj, zao, sLoad, readAt, readNeed, Ints_ren, Ints_length, Ints_getD, and_true, true_and, zaJ, zaK]; try decide) ?_ (by simp only [zar, zaA, false_implies, implies_true, and_true, zaS, lookR, zaa, if_true, if_false, ↓reduceIte, dice] <;> (repeat' apply zaE) <;> (first | rfl | trivial)) (by simp only [zar, zaA, false_implies, implies_true, and_true, true_and, flat_cons, flat_nil, flat_ints, flat_bools, flat_app, zaR, and_self, eq_self_iff_true, zac, dice]) ?_ <;> (try simp only [go_sem, resV, resS, zaQ, zaO, zaL, zaU, zaS, idx, renO, zaP, evS, slot, lookR, zaa, ↓reduceIte, reduceCtorEq, if_true, if_false, zaM, zaN, zaj, zao, sLoad, readAt, readNeed, Ints_ren, Ints_length, Ints_getD, and_true, true_and, zaJ, zaK]) <;> (try rfl))
 · rw [decide_eq_false (by omega : ¬ nxV L j 15 = 15 - 1)] at n1
   have n2 := next_spec L j2 l.length hl hr (by omega)
   have r2 := nx_rng L j2 l.length (by omega)
   obtain ⟨v, hv⟩ : ∃ v : Nat, nxV L j2 l.length = v := ⟨(nxV L j2 l.length).toNat, by omega⟩
   rw [hv] at n2 r2 ⊢
   obtain ⟨g1, _⟩ := nd_f l v (by omega) (.sc (.int .i64 0))
   rw [if_neg hb, if_neg hb]
   rw [Int.toNat_natCast]
   refine fnspec_of mixed TT_ok TT_cl ⟨fun _ => false, lendD, 1, fun _ => false, fun _ => false⟩ Tryz.func13 rfl (by kernel_rfl) rfl 26 rfl [.tmp 4] rfl ?_
   simp only [go_sem, zaa, zas, zat, zau, zaw, zal, ↓reduceIte, reduceCtorEq, zab, zaf, zax, zay, zaz, lendD, decide_eq_false c0, g1]
   repeat' (first
 | with_reducible refine zaE ?_ ?_
 | (unfold OKC; kernel_rfl)
 | (unfold EDG; kernel_rfl)
 | (apply cl_lend
    case hr => exact yge
    case ha => exact ygb
    case hs => rfl
    case hn => decide
    case h => (first | exact n1 .. | exact n2 ..)
    case hf => exact ygd
    case hl => exact ygk)
 | ((first | refine s1_id ?_ | refine swp_id ?_ | refine sops_id ?_ | refine s2_id ?_); simp only [lendD, dice, decide_eq_false c0, g1, Int.toNat_natCast, go_sem, zaa, zas, zat, zau, zaw, zal, ↓reduceIte, reduceCtorEq, zab, zaf, zax, zay, zaz, zaQ, zaO, zaL, zaP, renO, bk, back, outUpsFrom, Ints_ren])
 | exact ygu
 | exact ygc | fail)
   (refine fs_flat [(0, dice L (nxA L j2 l.length))] (by simp) (by simp only [zaj, zao]; decide) (by simp only [go_sem, resV, resS, zaQ, zaO, zaL, zaU, zaS, idx, renO, zaP, evS, slot, lookR, zaa, ↓reduceIte, reduceCtorEq, if_true, if_false, zaM, zaN, zaj, zao, sLoad, readAt, readNeed, Ints_ren, Ints_length, Ints_getD, and_true, true_and, zaJ, zaK]; try decide) ?_ (by simp only [zar, zaA, false_implies, implies_true, and_true, zaS, lookR, zaa, if_true, if_false, ↓reduceIte, dice] <;> (repeat' apply zaE) <;> (first | rfl | trivial)) (by simp only [zar, zaA, false_implies, implies_true, and_true, true_and, flat_cons, flat_nil, flat_ints, flat_bools, flat_app, zaR, and_self, eq_self_iff_true, zac, dice]) ?_ <;> (try simp only [go_sem, resV, resS, zaQ, zaO, zaL, zaU, zaS, idx, renO, zaP, evS, slot, lookR, zaa, ↓reduceIte, reduceCtorEq, if_true, if_false, zaM, zaN, zaj, zao, sLoad, readAt, readNeed, Ints_ren, Ints_length, Ints_getD, and_true, true_and, zaJ, zaK]) <;> (try rfl))
def ctV (D : List Int) (j : Nat) : Int := [1, 9, 31, 2, 25, 4, 0, 32, -1].getD (nxV D j 9).toNat 0
theorem ctl_spec (D : List Int) (j : Nat) (hl : D.length ≤ 600) (hr : ∀ x ∈ D, -9223372036854775808 ≤ x ∧ x ≤ 9223372036854775807) : FnSpec Tryz.prog 51 [dp] [dice D j] (i1 (ctV D j)) [some (dice D (nxA D j 9))] := by
 have h := next_spec D j 9 hl hr (by decide)
 have hn := nx_rng D j 9 (by decide)
 unfold ctV
 obtain ⟨x, hx⟩ : ∃ x, nxV D j 9 = x := ⟨_, rfl⟩
 rw [hx] at h hn
 rw [hx]
 clear hx
 have hc : x = 0 ∨ x = 1 ∨ x = 2 ∨ x = 3 ∨ x = 4 ∨ x = 5 ∨ x = 6 ∨ x = 7 ∨ x = 8 := by omega
 rcases hc with rfl | rfl | rfl | rfl | rfl | rfl | rfl | rfl | rfl <;>
 · refine fnspec_of mixed TT_ok TT_cl ⟨fun _ => false, lendN, 1, fun _ => false, fun _ => false⟩ Tryz.func51 rfl (by kernel_rfl) rfl 8 rfl [.tmp 2] rfl ?_
   simp only [go_sem, zaa, zas, zat, zau, zaw, zal, ↓reduceIte, reduceCtorEq, zab, zaf, zax, zay, zaz, lendN]
   repeat' (first
 | with_reducible refine zaE ?_ ?_
 | (apply cl_lend
    case hr => exact yge
    case ha => exact ygb
    case hs => rfl
    case hn => decide
    case h => (first | exact h ..)
    case hf => exact ygd
    case hl => exact ygk)
 | ((first | refine s1_id ?_ | refine swp_id ?_ | refine sops_id ?_ | refine s2_id ?_); simp only [lendN, dice, zak, zan, zac, zam, zap, zah, zai, zae, zaq, zav, zag, zad, go_sem, zaa, zas, zat, zau, zaw, zal, ↓reduceIte, reduceCtorEq, zab, zaf, zax, zay, zaz, zaQ, zaO, zaL, zaP, renO, bk, back, outUpsFrom, Ints_ren])
 | exact ygu
 | exact ygc | fail)
   (refine fs_flat [(0, dice D (nxA D j 9))] (by simp) (by simp only [zaj, zao]; decide) (by simp only [go_sem, resV, resS, zaQ, zaO, zaL, zaU, zaS, idx, renO, zaP, evS, slot, lookR, zaa, ↓reduceIte, reduceCtorEq, if_true, if_false, zaM, zaN, zaj, zao, sLoad, readAt, readNeed, Ints_ren, Ints_length, Ints_getD, and_true, true_and, zaJ, zaK]; try decide) ?_ (by simp only [zar, zaA, false_implies, implies_true, and_true, zaS, lookR, zaa, if_true, if_false, ↓reduceIte, dice] <;> (repeat' apply zaE) <;> (first | rfl | trivial)) (by simp only [zar, zaA, false_implies, implies_true, and_true, true_and, flat_cons, flat_nil, flat_ints, flat_bools, flat_app, zaR, and_self, eq_self_iff_true, zac, dice]) ?_ <;> (try simp only [go_sem, resV, resS, zaQ, zaO, zaL, zaU, zaS, idx, renO, zaP, evS, slot, lookR, zaa, ↓reduceIte, reduceCtorEq, if_true, if_false, zaM, zaN, zaj, zao, sLoad, readAt, readNeed, Ints_ren, Ints_length, Ints_getD, and_true, true_and, zaJ, zaK]) <;> (try rfl))
def dtB (L : List Int) (T : List Tk) (j : Nat) : Bool := decide (nxV L j 15 = 14) || decide (T.length = 0)
def dtV (L : List Int) (T : List Tk) (j : Nat) : Int := if dtB L T j = true then nxV L (nxA L j 15) 9 - 1 else (gT T (nxV L (nxA L j 15) T.length).toNat).i
def dtA (L : List Int) (T : List Tk) (j : Nat) : Nat := if dtB L T j = true then nxA L (nxA L j 15) 9 else nxA L (nxA L j 15) T.length
set_option maxHeartbeats 8000000 in
theorem dtask_spec (L : List Int) (hl : L.length ≤ 600) (hr : ∀ x ∈ L, -9223372036854775808 ≤ x ∧ x ≤ 9223372036854775807) (j : Nat) (l : List Nd) (n : Int) (T : List Tk) (h : Int) (hT : T.length ≤ 1000000) : FnSpec Tryz.prog 14 [dp, hyV l none n T none h] [dice L j] (i1 (dtV L T j)) [some (dice L (dtA L T j))] := by
 have b1' := bool_spec L j 15 hl hr (by decide)
 have hcl := tk_len T
 unfold dtV dtA dtB
 have n2 := next_spec L (nxA L j 15) 9 hl hr (by decide)
 have r2 := nx_rng L (nxA L j 15) 9 (by decide)
 have n3 := next_spec L (nxA L j 15) T.length hl hr (by omega)
 have r3 := nx_rng L (nxA L j 15) T.length
 generalize nxA L j 15 = j1 at *
 generalize nxV L j1 9 = v at *
 generalize nxA L j1 9 = j2 at *
 rw [show (15 : Int) - 1 = 14 from rfl] at b1'
 by_cases e1 : nxV L j 15 = 14
 · (try rw [if_pos e1])
   rw [decide_eq_true e1] at b1' ⊢
   rw [Bool.true_or, if_pos rfl, if_pos rfl]
   refine fnspec_of mixed TT_ok TT_cl ⟨fun _ => false, lendD, 1, fun _ => false, fun _ => false⟩ Tryz.func14 rfl (by kernel_rfl) rfl 26 rfl [.tmp 4] rfl ?_
   simp only [go_sem, zaa, zas, zat, zau, zaw, zal, ↓reduceIte, reduceCtorEq, zab, zaf, zax, zay, zaz, lendD, dice, decide_eq_true e1, zak, zan, zac, zam, zap, zah, zai, zae, zaq, zav, zag, zad]
   repeat' (first
 | with_reducible refine zaE ?_ ?_
 | (apply cl_lend
    case hr => exact yge
    case ha => exact ygb
    case hs => rfl
    case hn => decide
    case h => (first | exact b1' .. | exact n2 ..)
    case hf => exact ygd
    case hl => exact ygk)
 | ((first | refine s1_id ?_ | refine swp_id ?_ | refine sops_id ?_ | refine s2_id ?_); simp only [lendD, dice, decide_eq_true e1, zak, zan, zac, zam, zap, zah, zai, zae, zaq, zav, zag, zad, go_sem, zaa, zas, zat, zau, zaw, zal, ↓reduceIte, reduceCtorEq, zab, zaf, zax, zay, zaz, zaQ, zaO, zaL, zaP, renO, bk, back, outUpsFrom, Ints_ren])
 | exact ygu
 | exact ygc | fail)
   (refine fs_flat [(0, dice L j2)] (by simp) (by simp only [zaj, zao]; decide) (by simp only [go_sem, resV, resS, zaQ, zaO, zaL, zaU, zaS, idx, renO, zaP, evS, slot, lookR, zaa, ↓reduceIte, reduceCtorEq, if_true, if_false, zaM, zaN, zaj, zao, sLoad, readAt, readNeed, Ints_ren, Ints_length, Ints_getD, and_true, true_and, zaJ, zaK]; try decide) ?_ (by simp only [zar, zaA, false_implies, implies_true, and_true, zaS, lookR, zaa, if_true, if_false, ↓reduceIte, dice] <;> (repeat' apply zaE) <;> (first | rfl | trivial)) (by simp only [zar, zaA, false_implies, implies_true, and_true, true_and, flat_cons, flat_nil, flat_ints, flat_bools, flat_app, zaR, and_self, eq_self_iff_true, zac, dice]) ?_ <;> (try simp only [go_sem, resV, resS, zaQ, zaO, zaL, zaU, zaS, idx, renO, zaP, evS, slot, lookR, zaa, ↓reduceIte, reduceCtorEq, if_true, if_false, zaM, zaN, zaj, zao, sLoad, readAt, readNeed, Ints_ren, Ints_length, Ints_getD, and_true, true_and, zaJ, zaK]) <;> (try rfl))
 (try rw [if_neg e1])
 rw [decide_eq_false e1] at b1' ⊢
 rw [Bool.false_or]
 by_cases e2 : T.length = 0
 · (try rw [if_pos e2])
   have e2' : (T.length : Int) = 0 := by omega
   rw [decide_eq_true e2, if_pos rfl, if_pos rfl]
   refine fnspec_of mixed TT_ok TT_cl ⟨fun _ => false, lendD, 1, fun _ => false, fun _ => false⟩ Tryz.func14 rfl (by kernel_rfl) rfl 26 rfl [.tmp 4] rfl ?_
   simp only [go_sem, zaa, zas, zat, zau, zaw, zal, ↓reduceIte, reduceCtorEq, zab, zaf, zax, zay, zaz, lendD, dice, decide_eq_false e1, decide_eq_true e2, decide_eq_true e2', zak, zan, zac, zam, zap, zah, zai, zae, zaq, zav, zag, zad]
   repeat' (first
 | with_reducible refine zaE ?_ ?_
 | (apply cl_lend
    case hr => exact yge
    case ha => exact ygb
    case hs => rfl
    case hn => decide
    case h => (first | exact b1' .. | exact n2 ..)
    case hf => exact ygd
    case hl => exact ygk)
 | ((first | refine s1_id ?_ | refine swp_id ?_ | refine sops_id ?_ | refine s2_id ?_); simp only [lendD, dice, decide_eq_false e1, decide_eq_true e2, decide_eq_true e2', zak, zan, zac, zam, zap, zah, zai, zae, zaq, zav, zag, zad, go_sem, zaa, zas, zat, zau, zaw, zal, ↓reduceIte, reduceCtorEq, zab, zaf, zax, zay, zaz, zaQ, zaO, zaL, zaP, renO, bk, back, outUpsFrom, Ints_ren])
 | exact ygu
 | exact ygc | fail)
   (refine fs_flat [(0, dice L j2)] (by simp) (by simp only [zaj, zao]; decide) (by simp only [go_sem, resV, resS, zaQ, zaO, zaL, zaU, zaS, idx, renO, zaP, evS, slot, lookR, zaa, ↓reduceIte, reduceCtorEq, if_true, if_false, zaM, zaN, zaj, zao, sLoad, readAt, readNeed, Ints_ren, Ints_length, Ints_getD, and_true, true_and, zaJ, zaK]; try decide) ?_ (by simp only [zar, zaA, false_implies, implies_true, and_true, zaS, lookR, zaa, if_true, if_false, ↓reduceIte, dice] <;> (repeat' apply zaE) <;> (first | rfl | trivial)) (by simp only [zar, zaA, false_implies, implies_true, and_true, true_and, flat_cons, flat_nil, flat_ints, flat_bools, flat_app, zaR, and_self, eq_self_iff_true, zac, dice]) ?_ <;> (try simp only [go_sem, resV, resS, zaQ, zaO, zaL, zaU, zaS, idx, renO, zaP, evS, slot, lookR, zaa, ↓reduceIte, reduceCtorEq, if_true, if_false, zaM, zaN, zaj, zao, sLoad, readAt, readNeed, Ints_ren, Ints_length, Ints_getD, and_true, true_and, zaJ, zaK]) <;> (try rfl))
 (try rw [if_neg e2])
 have e2' : ¬ (T.length : Int) = 0 := by omega
 rw [decide_eq_false e2, if_neg (by decide), if_neg (by decide)]
 have r3 := r3 (by omega)
 generalize nxA L j1 T.length = j3 at *
 obtain ⟨x, hx, hxl⟩ : ∃ x : Nat, nxV L j1 T.length = x ∧ x < T.length := ⟨(nxV L j1 T.length).toNat, by omega, by omega⟩
 rw [hx] at n3 ⊢
 rw [Int.toNat_natCast]
 obtain ⟨q0, _⟩ := tk_q T x hxl (.sc (.int .i64 0))
 refine fnspec_of mixed TT_ok TT_cl ⟨fun _ => false, lendD, 1, fun _ => false, fun _ => false⟩ Tryz.func14 rfl (by kernel_rfl) rfl 26 rfl [.tmp 4] rfl ?_
 simp only [go_sem, zaa, zas, zat, zau, zaw, zal, ↓reduceIte, reduceCtorEq, zab, zaf, zax, zay, zaz, lendD, dice, decide_eq_false e1, decide_eq_false e2, decide_eq_false e2', q0, zak, zan, zac, zam, zap, zah, zai, zae, zaq, zav, zag, zad]
 repeat' (first
 | with_reducible refine zaE ?_ ?_
 | (unfold OKC; kernel_rfl)
 | (unfold EDG; kernel_rfl)
 | (apply cl_lend
    case hr => exact yge
    case ha => exact ygb
    case hs => rfl
    case hn => decide
    case h => (first | exact b1' .. | exact n3 ..)
    case hf => exact ygd
    case hl => exact ygk)
 | ((first | refine s1_id ?_ | refine swp_id ?_ | refine sops_id ?_ | refine s2_id ?_); simp only [lendD, dice, decide_eq_false e1, decide_eq_false e2, decide_eq_false e2', q0, zak, zan, zac, zam, zap, zah, zai, zae, zaq, zav, zag, zad, go_sem, zaa, zas, zat, zau, zaw, zal, ↓reduceIte, reduceCtorEq, zab, zaf, zax, zay, zaz, zaQ, zaO, zaL, zaP, renO, bk, back, outUpsFrom, Ints_ren])
 | exact ygu
 | exact ygc | fail)
 (refine fs_flat [(0, dice L j3)] (by simp) (by simp only [zaj, zao]; decide) (by simp only [go_sem, resV, resS, zaQ, zaO, zaL, zaU, zaS, idx, renO, zaP, evS, slot, lookR, zaa, ↓reduceIte, reduceCtorEq, if_true, if_false, zaM, zaN, zaj, zao, sLoad, readAt, readNeed, Ints_ren, Ints_length, Ints_getD, and_true, true_and, zaJ, zaK]; try decide) ?_ (by simp only [zar, zaA, false_implies, implies_true, and_true, zaS, lookR, zaa, if_true, if_false, ↓reduceIte, dice] <;> (repeat' apply zaE) <;> (first | rfl | trivial)) (by simp only [zar, zaA, false_implies, implies_true, and_true, true_and, flat_cons, flat_nil, flat_ints, flat_bools, flat_app, zaR, and_self, eq_self_iff_true, zac, dice]) ?_ <;> (try simp only [go_sem, resV, resS, zaQ, zaO, zaL, zaU, zaS, idx, renO, zaP, evS, slot, lookR, zaa, ↓reduceIte, reduceCtorEq, if_true, if_false, zaM, zaN, zaj, zao, sLoad, readAt, readNeed, Ints_ren, Ints_length, Ints_getD, and_true, true_and, zaJ, zaK]) <;> (try rfl))
structure HI (q : Hy) : Prop where
  p : HyP q.1 q.2.1 q.2.2.1 q.2.2.2
  nm : ∀ x ∈ q.1, x.nm.length ≤ 4
theorem HI.b {q : Hy} (h : HI q) : HyB q := ⟨by have := h.p.v.le; omega, by have := h.p.le; omega, fun x hx => by have := h.nm x hx; omega⟩
theorem HI.len {q : Hy} (h : HI q) : 1 ≤ q.1.length ∧ q.1.length ≤ 64 := ⟨h.p.v.ne, h.p.v.le⟩
theorem nm_nd {l : List Nd} (h : ∀ x ∈ l, x.nm.length ≤ 4) (n a : Int) : (ndM l n a).nm.length ≤ 4 := by
 rcases ndM_mem l n a with e | e
 · exact h _ e
 · rw [e]; decide
theorem nm_set {l : List Nd} (h : ∀ x ∈ l, x.nm.length ≤ 4) (x : Nd) (hx : x.nm.length ≤ 4) : ∀ y ∈ setN l x, y.nm.length ≤ 4 := by
 intro y hy
 obtain ⟨z, hz, e⟩ := List.mem_map.1 hy
 unfold stF at e
 by_cases c : z.i = x.i
 · rw [if_pos c] at e; rw [← e]; exact hx
 · rw [if_neg c] at e; rw [← e]; exact h z hz
theorem setN_eq {l : List Nd} {n : Int} (h : VT l n) {i : Nat} (hi : i < l.length) (f : Nd → Nd) (hf : ∀ x, (f x).i = x.i) : setN l (f (gN l i)) = l.map (fun y => if y.i = (gN l i).i then f y else y) := by
 unfold setN
 apply List.map_congr_left
 intro y hy
 unfold stF
 rw [hf]
 by_cases c : y.i = (gN l i).i
 · rw [if_pos c, if_pos c, h.vl.inj hy (getD_mem l i zn hi) c]
 · rw [if_neg c, if_neg c]
theorem VT.setO {l : List Nd} {n id v : Int} (h : VT l n) (hh : hasM l n id = true) (hv : 0 ≤ v ∧ v ≤ 1048576) : VT (setN l ⟨(ndM l n id).i, (ndM l n id).p, (ndM l n id).nm, (ndM l n id).c, (ndM l n id).k, v⟩) n := by
 obtain ⟨_, i, hi, e⟩ := has_ix hh
 rw [← e, ndM_at h hi]
 rw [setN_eq h hi (fun x : Nd => (⟨x.i, x.p, x.nm, x.c, x.k, v⟩ : Nd)) (fun _ => rfl)]
 refine (h.vl.map _ (fun x => ?_) (fun x hx => ?_) ?_).vt
 · split <;> exact ⟨rfl, rfl, rfl⟩
 · obtain ⟨a, b⟩ := h.vl.all x hx
   split
   · refine ⟨a, ?_⟩
     unfold rngOk at *
     simp only [zaD, decide_eq_true_eq] at *
     omega
   · exact ⟨a, b⟩
 · split
   · exact h.vl.rt.2.2.2
   · exact h.vl.rt.2.2.2
theorem set_mem {l : List Nd} {a : Int} (x : Nd) : (∃ y ∈ l, y.i = a) → ∃ y ∈ setN l x, y.i = a := by
 rintro ⟨y, hy, e⟩
 refine ⟨stF x y, List.mem_map_of_mem hy, ?_⟩
 unfold stF
 split
 · omega
 · exact e
theorem enM_ok {l : List Nd} {n : Int} {T : List Tk} {h id add drop : Int} (he : (enM l n T h id add drop).2 = 0) : ftM l n T h = true ∧ (wrM l n T h id add drop).2 = 0 ∧ (enM l n T h id add drop).1 = (wrM l n T h id add drop).1 ∧ ftM (wrM l n T h id add drop).1.1 (wrM l n T h id add drop).1.2.1 (wrM l n T h id add drop).1.2.2.1 (wrM l n T h id add drop).1.2.2.2 = true := by
 unfold enM at *
 by_cases c : ftM l n T h = true
 · rw [if_pos c] at he ⊢
   by_cases d : (wrM l n T h id add drop).2 = 0
   · rw [if_pos d] at he ⊢
     by_cases f : ftM (wrM l n T h id add drop).1.1 (wrM l n T h id add drop).1.2.1 (wrM l n T h id add drop).1.2.2.1 (wrM l n T h id add drop).1.2.2.2 = true
     · rw [if_pos f]; exact ⟨c, d, rfl, f⟩
     · rw [if_neg f] at he; cases he
   · rw [if_neg d] at he; exact absurd he d
 · rw [if_neg c] at he; cases he
theorem wrM_ok {l : List Nd} {n : Int} {T : List Tk} {h id add drop : Int} (he : (wrM l n T h id add drop).2 = 0) : (wrM l n T h id add drop).1 = (setN l (wrX l n id add drop), n, T, h) := by
 unfold wrM at *
 repeat' split at he
 all_goals first
   | (exfalso; revert he; decide)
   | skip
 rename_i a b c d e f
 rw [if_pos a, if_neg b, if_pos c, if_neg d, if_neg e, if_neg f]
theorem cvM_ok {l : List Nd} {n : Int} {T : List Tk} {h id : Int} (he : (cvM l n T h id).2 = 0) : ftM l n T h = true ∧ hasM l n id = true ∧ (cvM l n T h id).1 = (setN l (cvX l n id), n, T, h) ∧ ftM (setN l (cvX l n id)) n T h = true := by
 unfold cvM at *
 repeat' split at he
 all_goals first
   | (exfalso; revert he; decide)
   | skip
 rename_i a b c d e f
 rw [if_pos a, if_pos b, if_neg c, if_neg d, if_pos e, if_neg f]
 refine ⟨a, b, rfl, ?_⟩
 simp only [zaH, zaG, not_or, Bool.not_eq_false] at f
 exact f.2
def stM (L : List Int) (s : Hy × Nat) : Hy × Nat :=
  let g := dgV L s.1.1 s.2
  let j1 := dgA L s.1.1 s.2
  let v := nxV L j1 5
  let j2 := nxA L j1 5
  if v = 0 ∨ v = 1 then (if (enM s.1.1 s.1.2.1 s.1.2.2.1 s.1.2.2.2 g (ctV L j2) 0).2 = 0 then (enM s.1.1 s.1.2.1 s.1.2.2.1 s.1.2.2.2 g (ctV L j2) 0).1 else s.1, nxA L j2 9)
  else if v = 2 then (if (cvM s.1.1 s.1.2.1 s.1.2.2.1 s.1.2.2.2 g).2 = 0 then (cvM s.1.1 s.1.2.1 s.1.2.2.1 s.1.2.2.2 g).1 else s.1, j2)
  else if v = 3 then (if (hasM s.1.1 s.1.2.1 g && !decide (g = 1)) = true then ((setN s.1.1 ⟨(ndM s.1.1 s.1.2.1 g).i, (ndM s.1.1 s.1.2.1 g).p, (ndM s.1.1 s.1.2.1 g).nm, (ndM s.1.1 s.1.2.1 g).c, (ndM s.1.1 s.1.2.1 g).k, nxV L j2 3⟩, s.1.2.1, s.1.2.2.1, s.1.2.2.2), nxA L j2 3) else (s.1, j2))
  else (s.1, j2)
theorem stM_ok (L : List Int) (s : Hy × Nat) (hs : HI s.1) : HI (stM L s).1 := by
 obtain ⟨⟨l, n, T, h⟩, j⟩ := s
 unfold stM
 simp only
 generalize dgV L l j = g
 generalize dgA L l j = j1
 generalize nxV L j1 5 = v
 generalize nxA L j1 5 = j2
 have hnm : ∀ x ∈ l, x.nm.length ≤ 4 := hs.nm
 have hP : HyP l n T h := hs.p
 by_cases c1 : v = 0 ∨ v = 1
 · rw [if_pos c1]
   by_cases d : (enM l n T h g (ctV L j2) 0).2 = 0
   · rw [if_pos d]
     obtain ⟨_, e1, e2, e3⟩ := enM_ok d
     rw [wrM_ok e1] at e2 e3
     rw [e2]
     exact ⟨(hyM_iff _ _ _ _).1 (ft_hy e3), nm_set hnm _ (nm_nd hnm n g)⟩
   · rw [if_neg d]; exact hs
 rw [if_neg c1]
 by_cases c2 : v = 2
 · rw [if_pos c2]
   by_cases d : (cvM l n T h g).2 = 0
   · rw [if_pos d]
     obtain ⟨_, _, e2, e3⟩ := cvM_ok d
     rw [e2]
     exact ⟨(hyM_iff _ _ _ _).1 (ft_hy e3), nm_set hnm _ (nm_nd hnm n g)⟩
   · rw [if_neg d]; exact hs
 rw [if_neg c2]
 by_cases c3 : v = 3
 · rw [if_pos c3]
   by_cases d : (hasM l n g && !decide (g = 1)) = true
   · rw [if_pos d]
     rw [zaD] at d
     have hn := nx_rng L j2 3 (by decide)
     refine ⟨?_, nm_set hnm _ (nm_nd hnm n g)⟩
     have hV := hP.v.setO d.1 (v := nxV L j2 3) (by omega)
     have := hP.map hV id (fun _ => ⟨rfl, rfl, rfl⟩) (fun x hx => set_mem _ (hP.g x hx))
     rw [List.map_id] at this
     exact this
   · rw [if_neg d]; exact hs
 rw [if_neg c3]
 exact hs
def lendS : FuncId → List Nat := fun f => if f = 42 then [0] else if f = 13 then [0] else if f = 51 then [0] else []
set_option maxHeartbeats 8000000 in
theorem hstep_spec (L : List Int) (hl : L.length ≤ 600) (hr : ∀ x ∈ L, -9223372036854775808 ≤ x ∧ x ≤ 9223372036854775807) (j : Nat) (q : Hy) (hq : HI q) : FnSpec Tryz.prog 45 [dp, hyQ q] [dice L j] (hyQ (stM L (q, j)).1) [some (dice L (stM L (q, j)).2)] := by
 have hb := hq.b
 have hln := hq.len
 obtain ⟨l, n, T, h⟩ := q
 have h1 := dgroup_spec L hl hr j l n hln.1 hln.2
 unfold stM
 simp only
 generalize dgV L l j = g at *
 generalize dgA L l j = j1 at *
 have n1 := next_spec L j1 5 hl hr (by decide)
 have r1 := nx_rng L j1 5 (by decide)
 generalize nxV L j1 5 = v at *
 generalize nxA L j1 5 = j2 at *
 have h2 := ctl_spec L j2 hl hr
 have h3 := r8enable_spec l n T h g (ctV L j2) 0 hb
 have h4 := r8conv_spec l n T h g hb
 have h5 := rfindT_spec l none n g hb.l hb.nm
 rw [fdM_2, show (fdM l n g).1 = ndM l n g from rfl] at h5
 have n3 := next_spec L j2 3 hl hr (by decide)
 have hsl : ∀ x, (setN l x).length = l.length := fun x => zaV _
 have h6 := fun v => rset5_spec l none n ⟨(ndM l n g).i, (ndM l n g).p, (ndM l n g).nm, (ndM l n g).c, (ndM l n g).k, v⟩ hln.1 hb.l
 generalize ctV L j2 = cv at *
 generalize enM l n T h g cv 0 = E at *
 generalize cvM l n T h g = C at *
 obtain ⟨⟨el, en, eT, eh⟩, ee⟩ := E
 obtain ⟨⟨cl', cn, cT, ch⟩, ce⟩ := C
 generalize nxA L j2 9 = j9 at *
 generalize nxA L j2 3 = j3 at *
 generalize nxV L j2 3 = ow at *
 have h6 := h6 ow
 generalize hasM l n g = hg at *
 simp only at h3 h4 ⊢
 by_cases e0 : v = 0
 · (try rw [if_pos e0])
   rw [if_pos (Or.inl e0)]
   by_cases d : ee = 0
   · (try rw [if_pos d])
     refine fnspec_of mixed TT_ok TT_cl ⟨fun _ => false, lendS, 1, fun _ => false, fun _ => false⟩ Tryz.func45 rfl (by kernel_rfl) rfl 66 rfl [.cell 4 28] rfl ?_
     simp only [go_sem, zaa, zas, zat, zau, zaw, zal, ↓reduceIte, reduceCtorEq, zab, zaf, zax, zay, zaz, lendS, dice, decide_eq_true e0, decide_eq_true d, zak, zan, zac, zam, zap, zah, zai, zae, zaq, zav, zag, zad]
     repeat' (first
 | with_reducible refine zaE ?_ ?_
 | (unfold OKC; kernel_rfl)
 | (unfold EDG; kernel_rfl)
 | (apply cl_plain
    case hs => rfl
    case ha => exact ygb
    case h => exact ygh)
 | (apply cl_lend
    case hr => exact yge
    case ha => exact ygb
    case hs => rfl
    case hn => decide
    case h => exact ygh
    case hf => exact ygd
    case hl => exact ygk)
 | ((first | refine s1_id ?_ | refine swp_id ?_ | refine sops_id ?_ | refine s2_id ?_); simp only [lendS, dice, decide_eq_true e0, decide_eq_true d, zak, zan, zac, zam, zap, zah, zai, zae, zaq, zav, zag, zad, go_sem, zaa, zas, zat, zau, zaw, zal, ↓reduceIte, reduceCtorEq, zab, zaf, zax, zay, zaz, zaQ, zaO, zaL, zaP, renO, bk, back, outUpsFrom, Ints_ren])
 | exact ygc | fail)
     (refine fs_flat [(0, dice L j9)] (by simp) (by simp only [zaj, zao]; decide) (by simp only [go_sem, resV, resS, zaQ, zaO, zaL, zaU, zaS, idx, renO, zaP, evS, slot, lookR, zaa, ↓reduceIte, reduceCtorEq, if_true, if_false, zaM, zaN, zaj, zao, sLoad, readAt, readNeed, Ints_ren, Ints_length, Ints_getD, and_true, true_and, zaJ, zaK]; try decide) ?_ (by simp only [zar, zaA, false_implies, implies_true, and_true, zaS, lookR, zaa, if_true, if_false, ↓reduceIte, dice] <;> (repeat' apply zaE) <;> (first | rfl | trivial)) (by simp only [zar, zaA, false_implies, implies_true, and_true, true_and, flat_cons, flat_nil, flat_ints, flat_bools, flat_app, zaR, and_self, eq_self_iff_true, zac, dice]) ?_ <;> (try simp only [go_sem, resV, resS, zaQ, zaO, zaL, zaU, zaS, idx, renO, zaP, evS, slot, lookR, zaa, ↓reduceIte, reduceCtorEq, if_true, if_false, zaM, zaN, zaj, zao, sLoad, readAt, readNeed, Ints_ren, Ints_length, Ints_getD, and_true, true_and, zaJ, zaK]) <;> (try rfl))
   (try rw [if_neg d])
   refine fnspec_of mixed TT_ok TT_cl ⟨fun _ => false, lendS, 1, fun _ => false, fun _ => false⟩ Tryz.func45 rfl (by kernel_rfl) rfl 66 rfl [.cell 4 28] rfl ?_
   simp only [go_sem, zaa, zas, zat, zau, zaw, zal, ↓reduceIte, reduceCtorEq, zab, zaf, zax, zay, zaz, lendS, dice, decide_eq_true e0, decide_eq_false d, zak, zan, zac, zam, zap, zah, zai, zae, zaq, zav, zag, zad]
   repeat' (first
 | with_reducible refine zaE ?_ ?_
 | (unfold OKC; kernel_rfl)
 | (unfold EDG; kernel_rfl)
 | (apply cl_plain
    case hs => rfl
    case ha => exact ygb
    case h => exact ygh)
 | (apply cl_lend
    case hr => exact yge
    case ha => exact ygb
    case hs => rfl
    case hn => decide
    case h => exact ygh
    case hf => exact ygd
    case hl => exact ygk)
 | ((first | refine s1_id ?_ | refine swp_id ?_ | refine sops_id ?_ | refine s2_id ?_); simp only [lendS, dice, decide_eq_true e0, decide_eq_false d, zak, zan, zac, zam, zap, zah, zai, zae, zaq, zav, zag, zad, go_sem, zaa, zas, zat, zau, zaw, zal, ↓reduceIte, reduceCtorEq, zab, zaf, zax, zay, zaz, zaQ, zaO, zaL, zaP, renO, bk, back, outUpsFrom, Ints_ren])
 | exact ygc | fail)
   (refine fs_flat [(0, dice L j9)] (by simp) (by simp only [zaj, zao]; decide) (by simp only [go_sem, resV, resS, zaQ, zaO, zaL, zaU, zaS, idx, renO, zaP, evS, slot, lookR, zaa, ↓reduceIte, reduceCtorEq, if_true, if_false, zaM, zaN, zaj, zao, sLoad, readAt, readNeed, Ints_ren, Ints_length, Ints_getD, and_true, true_and, zaJ, zaK]; try decide) ?_ (by simp only [zar, zaA, false_implies, implies_true, and_true, zaS, lookR, zaa, if_true, if_false, ↓reduceIte, dice] <;> (repeat' apply zaE) <;> (first | rfl | trivial)) (by simp only [zar, zaA, false_implies, implies_true, and_true, true_and, flat_cons, flat_nil, flat_ints, flat_bools, flat_app, zaR, and_self, eq_self_iff_true, zac, dice]) ?_ <;> (try simp only [go_sem, resV, resS, zaQ, zaO, zaL, zaU, zaS, idx, renO, zaP, evS, slot, lookR, zaa, ↓reduceIte, reduceCtorEq, if_true, if_false, zaM, zaN, zaj, zao, sLoad, readAt, readNeed, Ints_ren, Ints_length, Ints_getD, and_true, true_and, zaJ, zaK]) <;> (try rfl))
 (try rw [if_neg e0])
 by_cases e1 : v = 1
 · (try rw [if_pos e1])
   rw [if_pos (Or.inr e1)]
   by_cases d : ee = 0
   · (try rw [if_pos d])
     refine fnspec_of mixed TT_ok TT_cl ⟨fun _ => false, lendS, 1, fun _ => false, fun _ => false⟩ Tryz.func45 rfl (by kernel_rfl) rfl 66 rfl [.cell 4 28] rfl ?_
     simp only [go_sem, zaa, zas, zat, zau, zaw, zal, ↓reduceIte, reduceCtorEq, zab, zaf, zax, zay, zaz, lendS, dice, decide_eq_false e0, decide_eq_true e1, decide_eq_true d, zak, zan, zac, zam, zap, zah, zai, zae, zaq, zav, zag, zad]
     repeat' (first
 | with_reducible refine zaE ?_ ?_
 | (unfold OKC; kernel_rfl)
 | (unfold EDG; kernel_rfl)
 | (apply cl_plain
    case hs => rfl
    case ha => exact ygb
    case h => exact ygh)
 | (apply cl_lend
    case hr => exact yge
    case ha => exact ygb
    case hs => rfl
    case hn => decide
    case h => exact ygh
    case hf => exact ygd
    case hl => exact ygk)
 | ((first | refine s1_id ?_ | refine swp_id ?_ | refine sops_id ?_ | refine s2_id ?_); simp only [lendS, dice, decide_eq_false e0, decide_eq_true e1, decide_eq_true d, zak, zan, zac, zam, zap, zah, zai, zae, zaq, zav, zag, zad, go_sem, zaa, zas, zat, zau, zaw, zal, ↓reduceIte, reduceCtorEq, zab, zaf, zax, zay, zaz, zaQ, zaO, zaL, zaP, renO, bk, back, outUpsFrom, Ints_ren])
 | exact ygc | fail)
     (refine fs_flat [(0, dice L j9)] (by simp) (by simp only [zaj, zao]; decide) (by simp only [go_sem, resV, resS, zaQ, zaO, zaL, zaU, zaS, idx, renO, zaP, evS, slot, lookR, zaa, ↓reduceIte, reduceCtorEq, if_true, if_false, zaM, zaN, zaj, zao, sLoad, readAt, readNeed, Ints_ren, Ints_length, Ints_getD, and_true, true_and, zaJ, zaK]; try decide) ?_ (by simp only [zar, zaA, false_implies, implies_true, and_true, zaS, lookR, zaa, if_true, if_false, ↓reduceIte, dice] <;> (repeat' apply zaE) <;> (first | rfl | trivial)) (by simp only [zar, zaA, false_implies, implies_true, and_true, true_and, flat_cons, flat_nil, flat_ints, flat_bools, flat_app, zaR, and_self, eq_self_iff_true, zac, dice]) ?_ <;> (try simp only [go_sem, resV, resS, zaQ, zaO, zaL, zaU, zaS, idx, renO, zaP, evS, slot, lookR, zaa, ↓reduceIte, reduceCtorEq, if_true, if_false, zaM, zaN, zaj, zao, sLoad, readAt, readNeed, Ints_ren, Ints_length, Ints_getD, and_true, true_and, zaJ, zaK]) <;> (try rfl))
   (try rw [if_neg d])
   refine fnspec_of mixed TT_ok TT_cl ⟨fun _ => false, lendS, 1, fun _ => false, fun _ => false⟩ Tryz.func45 rfl (by kernel_rfl) rfl 66 rfl [.cell 4 28] rfl ?_
   simp only [go_sem, zaa, zas, zat, zau, zaw, zal, ↓reduceIte, reduceCtorEq, zab, zaf, zax, zay, zaz, lendS, dice, decide_eq_false e0, decide_eq_true e1, decide_eq_false d, zak, zan, zac, zam, zap, zah, zai, zae, zaq, zav, zag, zad]
   repeat' (first
 | with_reducible refine zaE ?_ ?_
 | (unfold OKC; kernel_rfl)
 | (unfold EDG; kernel_rfl)
 | (apply cl_plain
    case hs => rfl
    case ha => exact ygb
    case h => exact ygh)
 | (apply cl_lend
    case hr => exact yge
    case ha => exact ygb
    case hs => rfl
    case hn => decide
    case h => exact ygh
    case hf => exact ygd
    case hl => exact ygk)
 | ((first | refine s1_id ?_ | refine swp_id ?_ | refine sops_id ?_ | refine s2_id ?_); simp only [lendS, dice, decide_eq_false e0, decide_eq_true e1, decide_eq_false d, zak, zan, zac, zam, zap, zah, zai, zae, zaq, zav, zag, zad, go_sem, zaa, zas, zat, zau, zaw, zal, ↓reduceIte, reduceCtorEq, zab, zaf, zax, zay, zaz, zaQ, zaO, zaL, zaP, renO, bk, back, outUpsFrom, Ints_ren])
 | exact ygc | fail)
   (refine fs_flat [(0, dice L j9)] (by simp) (by simp only [zaj, zao]; decide) (by simp only [go_sem, resV, resS, zaQ, zaO, zaL, zaU, zaS, idx, renO, zaP, evS, slot, lookR, zaa, ↓reduceIte, reduceCtorEq, if_true, if_false, zaM, zaN, zaj, zao, sLoad, readAt, readNeed, Ints_ren, Ints_length, Ints_getD, and_true, true_and, zaJ, zaK]; try decide) ?_ (by simp only [zar, zaA, false_implies, implies_true, and_true, zaS, lookR, zaa, if_true, if_false, ↓reduceIte, dice] <;> (repeat' apply zaE) <;> (first | rfl | trivial)) (by simp only [zar, zaA, false_implies, implies_true, and_true, true_and, flat_cons, flat_nil, flat_ints, flat_bools, flat_app, zaR, and_self, eq_self_iff_true, zac, dice]) ?_ <;> (try simp only [go_sem, resV, resS, zaQ, zaO, zaL, zaU, zaS, idx, renO, zaP, evS, slot, lookR, zaa, ↓reduceIte, reduceCtorEq, if_true, if_false, zaM, zaN, zaj, zao, sLoad, readAt, readNeed, Ints_ren, Ints_length, Ints_getD, and_true, true_and, zaJ, zaK]) <;> (try rfl))
 (try rw [if_neg e1])
 rw [if_neg (by omega)]
 by_cases e2 : v = 2
 · (try rw [if_pos e2])
   by_cases d : ce = 0
   · (try rw [if_pos d])
     refine fnspec_of mixed TT_ok TT_cl ⟨fun _ => false, lendS, 1, fun _ => false, fun _ => false⟩ Tryz.func45 rfl (by kernel_rfl) rfl 66 rfl [.cell 4 28] rfl ?_
     simp only [go_sem, zaa, zas, zat, zau, zaw, zal, ↓reduceIte, reduceCtorEq, zab, zaf, zax, zay, zaz, lendS, dice, decide_eq_false e0, decide_eq_false e1, decide_eq_true e2, decide_eq_true d, zak, zan, zac, zam, zap, zah, zai, zae, zaq, zav, zag, zad]
     repeat' (first
 | (apply cl_plain
    case hs => rfl
    case ha => exact ygb
    case h => exact ygt)
 | (apply cl_lend
    case hr => exact yge
    case ha => exact ygb
    case hs => rfl
    case hn => decide
    case h => exact ygt
    case hf => exact ygd
    case hl => exact ygk)
 | ((first | refine s1_id ?_ | refine swp_id ?_ | refine sops_id ?_ | refine s2_id ?_); simp only [lendS, dice, decide_eq_false e0, decide_eq_false e1, decide_eq_true e2, decide_eq_true d, zak, zan, zac, zam, zap, zah, zai, zae, zaq, zav, zag, zad, go_sem, zaa, zas, zat, zau, zaw, zal, ↓reduceIte, reduceCtorEq, zab, zaf, zax, zay, zaz, zaQ, zaO, zaL, zaP, renO, bk, back, outUpsFrom, Ints_ren])
 | exact ygc | fail)
     (refine fs_flat [(0, dice L j2)] (by simp) (by simp only [zaj, zao]; decide) (by simp only [go_sem, resV, resS, zaQ, zaO, zaL, zaU, zaS, idx, renO, zaP, evS, slot, lookR, zaa, ↓reduceIte, reduceCtorEq, if_true, if_false, zaM, zaN, zaj, zao, sLoad, readAt, readNeed, Ints_ren, Ints_length, Ints_getD, and_true, true_and, zaJ, zaK]; try decide) ?_ (by simp only [zar, zaA, false_implies, implies_true, and_true, zaS, lookR, zaa, if_true, if_false, ↓reduceIte, dice] <;> (repeat' apply zaE) <;> (first | rfl | trivial)) (by simp only [zar, zaA, false_implies, implies_true, and_true, true_and, flat_cons, flat_nil, flat_ints, flat_bools, flat_app, zaR, and_self, eq_self_iff_true, zac, dice]) ?_ <;> (try simp only [go_sem, resV, resS, zaQ, zaO, zaL, zaU, zaS, idx, renO, zaP, evS, slot, lookR, zaa, ↓reduceIte, reduceCtorEq, if_true, if_false, zaM, zaN, zaj, zao, sLoad, readAt, readNeed, Ints_ren, Ints_length, Ints_getD, and_true, true_and, zaJ, zaK]) <;> (try rfl))
   (try rw [if_neg d])
   refine fnspec_of mixed TT_ok TT_cl ⟨fun _ => false, lendS, 1, fun _ => false, fun _ => false⟩ Tryz.func45 rfl (by kernel_rfl) rfl 66 rfl [.cell 4 28] rfl ?_
   simp only [go_sem, zaa, zas, zat, zau, zaw, zal, ↓reduceIte, reduceCtorEq, zab, zaf, zax, zay, zaz, lendS, dice, decide_eq_false e0, decide_eq_false e1, decide_eq_true e2, decide_eq_false d, zak, zan, zac, zam, zap, zah, zai, zae, zaq, zav, zag, zad]
   repeat' (first
 | (apply cl_plain
    case hs => rfl
    case ha => exact ygb
    case h => exact ygt)
 | (apply cl_lend
    case hr => exact yge
    case ha => exact ygb
    case hs => rfl
    case hn => decide
    case h => exact ygt
    case hf => exact ygd
    case hl => exact ygk)
 | ((first | refine s1_id ?_ | refine swp_id ?_ | refine sops_id ?_ | refine s2_id ?_); simp only [lendS, dice, decide_eq_false e0, decide_eq_false e1, decide_eq_true e2, decide_eq_false d, zak, zan, zac, zam, zap, zah, zai, zae, zaq, zav, zag, zad, go_sem, zaa, zas, zat, zau, zaw, zal, ↓reduceIte, reduceCtorEq, zab, zaf, zax, zay, zaz, zaQ, zaO, zaL, zaP, renO, bk, back, outUpsFrom, Ints_ren])
 | exact ygc | fail)
   (refine fs_flat [(0, dice L j2)] (by simp) (by simp only [zaj, zao]; decide) (by simp only [go_sem, resV, resS, zaQ, zaO, zaL, zaU, zaS, idx, renO, zaP, evS, slot, lookR, zaa, ↓reduceIte, reduceCtorEq, if_true, if_false, zaM, zaN, zaj, zao, sLoad, readAt, readNeed, Ints_ren, Ints_length, Ints_getD, and_true, true_and, zaJ, zaK]; try decide) ?_ (by simp only [zar, zaA, false_implies, implies_true, and_true, zaS, lookR, zaa, if_true, if_false, ↓reduceIte, dice] <;> (repeat' apply zaE) <;> (first | rfl | trivial)) (by simp only [zar, zaA, false_implies, implies_true, and_true, true_and, flat_cons, flat_nil, flat_ints, flat_bools, flat_app, zaR, and_self, eq_self_iff_true, zac, dice]) ?_ <;> (try simp only [go_sem, resV, resS, zaQ, zaO, zaL, zaU, zaS, idx, renO, zaP, evS, slot, lookR, zaa, ↓reduceIte, reduceCtorEq, if_true, if_false, zaM, zaN, zaj, zao, sLoad, readAt, readNeed, Ints_ren, Ints_length, Ints_getD, and_true, true_and, zaJ, zaK]) <;> (try rfl))
 (try rw [if_neg e2])
 generalize ndM l n g = x at *
 obtain ⟨xi, xp, xm, xc, xk, xo⟩ := x
 simp only [ndc] at h5 h6 ⊢
 generalize setN l ⟨xi, xp, xm, xc, xk, ow⟩ = W at *
 by_cases e3 : v = 3
 · (try rw [if_pos e3])
   cases hE : (hg && !decide (g = 1)) with
   | true =>
     (try rw [if_pos rfl])
     refine fnspec_of mixed TT_ok TT_cl ⟨fun _ => false, lendS, 1, fun _ => false, fun _ => false⟩ Tryz.func45 rfl (by kernel_rfl) rfl 66 rfl [.cell 4 28] rfl ?_
     simp only [go_sem, zaa, zas, zat, zau, zaw, zal, ↓reduceIte, reduceCtorEq, zab, zaf, zax, zay, zaz, lendS, dice, decide_eq_false e0, decide_eq_false e1, decide_eq_false e2, decide_eq_true e3, hE, zak, zan, zac, zam, zap, zah, zai, zae, zaq, zav, zag, zad]
     repeat' (first
 | (apply cl_plain
    case hs => rfl
    case ha => exact ygb
    case h => (first | exact h1 .. | exact n1 .. | exact h5 .. | exact n3 .. | exact h6 ..))
 | (apply cl_lend
    case hr => exact yge
    case ha => exact ygb
    case hs => rfl
    case hn => decide
    case h => (first | exact h1 .. | exact n1 .. | exact h5 .. | exact n3 .. | exact h6 ..)
    case hf => exact ygd
    case hl => exact ygk)
 | ((first | refine s1_id ?_ | refine swp_id ?_ | refine sops_id ?_ | refine s2_id ?_); simp only [lendS, dice, decide_eq_false e0, decide_eq_false e1, decide_eq_false e2, decide_eq_true e3, hE, zak, zan, zac, zam, zap, zah, zai, zae, zaq, zav, zag, zad, go_sem, zaa, zas, zat, zau, zaw, zal, ↓reduceIte, reduceCtorEq, zab, zaf, zax, zay, zaz, zaQ, zaO, zaL, zaP, renO, bk, back, outUpsFrom, Ints_ren])
 | exact ygc | fail)
     (refine fs_flat [(0, dice L j3)] (by simp) (by simp only [zaj, zao]; decide) (by simp only [go_sem, resV, resS, zaQ, zaO, zaL, zaU, zaS, idx, renO, zaP, evS, slot, lookR, zaa, ↓reduceIte, reduceCtorEq, if_true, if_false, zaM, zaN, zaj, zao, sLoad, readAt, readNeed, Ints_ren, Ints_length, Ints_getD, and_true, true_and, zaJ, zaK]; try decide) ?_ (by simp only [zar, zaA, false_implies, implies_true, and_true, zaS, lookR, zaa, if_true, if_false, ↓reduceIte, dice] <;> (repeat' apply zaE) <;> (first | rfl | trivial)) (by simp only [zar, zaA, false_implies, implies_true, and_true, true_and, flat_cons, flat_nil, flat_ints, flat_bools, flat_app, zaR, and_self, eq_self_iff_true, zac, dice]) ?_ <;> (try simp only [go_sem, resV, resS, zaQ, zaO, zaL, zaU, zaS, idx, renO, zaP, evS, slot, lookR, zaa, ↓reduceIte, reduceCtorEq, if_true, if_false, zaM, zaN, zaj, zao, sLoad, readAt, readNeed, Ints_ren, Ints_length, Ints_getD, and_true, true_and, zaJ, zaK]) <;> (try rfl))
   | false =>
   (try rw [if_neg (by decide)])
   refine fnspec_of mixed TT_ok TT_cl ⟨fun _ => false, lendS, 1, fun _ => false, fun _ => false⟩ Tryz.func45 rfl (by kernel_rfl) rfl 66 rfl [.cell 4 28] rfl ?_
   simp only [go_sem, zaa, zas, zat, zau, zaw, zal, ↓reduceIte, reduceCtorEq, zab, zaf, zax, zay, zaz, lendS, dice, decide_eq_false e0, decide_eq_false e1, decide_eq_false e2, decide_eq_true e3, hE, zak, zan, zac, zam, zap, zah, zai, zae, zaq, zav, zag, zad]
   repeat' (first
 | (apply cl_plain
    case hs => rfl
    case ha => exact ygb
    case h => (first | exact h1 .. | exact n1 .. | exact h5 ..))
 | (apply cl_lend
    case hr => exact yge
    case ha => exact ygb
    case hs => rfl
    case hn => decide
    case h => (first | exact h1 .. | exact n1 .. | exact h5 ..)
    case hf => exact ygd
    case hl => exact ygk)
 | ((first | refine s1_id ?_ | refine swp_id ?_ | refine sops_id ?_ | refine s2_id ?_); simp only [lendS, dice, decide_eq_false e0, decide_eq_false e1, decide_eq_false e2, decide_eq_true e3, hE, zak, zan, zac, zam, zap, zah, zai, zae, zaq, zav, zag, zad, go_sem, zaa, zas, zat, zau, zaw, zal, ↓reduceIte, reduceCtorEq, zab, zaf, zax, zay, zaz, zaQ, zaO, zaL, zaP, renO, bk, back, outUpsFrom, Ints_ren])
 | exact ygc | fail)
   (refine fs_flat [(0, dice L j2)] (by simp) (by simp only [zaj, zao]; decide) (by simp only [go_sem, resV, resS, zaQ, zaO, zaL, zaU, zaS, idx, renO, zaP, evS, slot, lookR, zaa, ↓reduceIte, reduceCtorEq, if_true, if_false, zaM, zaN, zaj, zao, sLoad, readAt, readNeed, Ints_ren, Ints_length, Ints_getD, and_true, true_and, zaJ, zaK]; try decide) ?_ (by simp only [zar, zaA, false_implies, implies_true, and_true, zaS, lookR, zaa, if_true, if_false, ↓reduceIte, dice] <;> (repeat' apply zaE) <;> (first | rfl | trivial)) (by simp only [zar, zaA, false_implies, implies_true, and_true, true_and, flat_cons, flat_nil, flat_ints, flat_bools, flat_app, zaR, and_self, eq_self_iff_true, zac, dice]) ?_ <;> (try simp only [go_sem, resV, resS, zaQ, zaO, zaL, zaU, zaS, idx, renO, zaP, evS, slot, lookR, zaa, ↓reduceIte, reduceCtorEq, if_true, if_false, zaM, zaN, zaj, zao, sLoad, readAt, readNeed, Ints_ren, Ints_length, Ints_getD, and_true, true_and, zaJ, zaK]) <;> (try rfl))
 (try rw [if_neg e3])
 refine fnspec_of mixed TT_ok TT_cl ⟨fun _ => false, lendS, 1, fun _ => false, fun _ => false⟩ Tryz.func45 rfl (by kernel_rfl) rfl 66 rfl [.cell 4 28] rfl ?_
 simp only [go_sem, zaa, zas, zat, zau, zaw, zal, ↓reduceIte, reduceCtorEq, zab, zaf, zax, zay, zaz, lendS, dice, decide_eq_false e0, decide_eq_false e1, decide_eq_false e2, decide_eq_false e3, zak, zan, zac, zam, zap, zah, zai, zae, zaq, zav, zag, zad]
 repeat' (first
 | (apply cl_lend
    case hr => exact yge
    case ha => exact ygb
    case hs => rfl
    case hn => decide
    case h => (first | exact h1 .. | exact n1 ..)
    case hf => exact ygd
    case hl => exact ygk)
 | ((first | refine s1_id ?_ | refine swp_id ?_ | refine sops_id ?_ | refine s2_id ?_); simp only [lendS, dice, decide_eq_false e0, decide_eq_false e1, decide_eq_false e2, decide_eq_false e3, zak, zan, zac, zam, zap, zah, zai, zae, zaq, zav, zag, zad, go_sem, zaa, zas, zat, zau, zaw, zal, ↓reduceIte, reduceCtorEq, zab, zaf, zax, zay, zaz, zaQ, zaO, zaL, zaP, renO, bk, back, outUpsFrom, Ints_ren])
 | exact ygc | fail)
 (refine fs_flat [(0, dice L j2)] (by simp) (by simp only [zaj, zao]; decide) (by simp only [go_sem, resV, resS, zaQ, zaO, zaL, zaU, zaS, idx, renO, zaP, evS, slot, lookR, zaa, ↓reduceIte, reduceCtorEq, if_true, if_false, zaM, zaN, zaj, zao, sLoad, readAt, readNeed, Ints_ren, Ints_length, Ints_getD, and_true, true_and, zaJ, zaK]; try decide) ?_ (by simp only [zar, zaA, false_implies, implies_true, and_true, zaS, lookR, zaa, if_true, if_false, ↓reduceIte, dice] <;> (repeat' apply zaE) <;> (first | rfl | trivial)) (by simp only [zar, zaA, false_implies, implies_true, and_true, true_and, flat_cons, flat_nil, flat_ints, flat_bools, flat_app, zaR, and_self, eq_self_iff_true, zac, dice]) ?_ <;> (try simp only [go_sem, resV, resS, zaQ, zaO, zaL, zaU, zaS, idx, renO, zaP, evS, slot, lookR, zaa, ↓reduceIte, reduceCtorEq, if_true, if_false, zaM, zaN, zaj, zao, sLoad, readAt, readNeed, Ints_ren, Ints_length, Ints_getD, and_true, true_and, zaJ, zaK]) <;> (try rfl))
abbrev kR : List Nd := [⟨1, 0, [], 0, 0, 0⟩]
theorem kR_N : NmR kR := fun x hx => by simp only [List.mem_cons, zaA, or_false] at hx; subst hx; decide
theorem kR_C : CtR kR := fun x hx => by simp only [List.mem_cons, zaA, or_false] at hx; subst hx; decide
set_option maxHeartbeats 8000000 in
theorem sane6_spec : FnSpec Tryz.prog 7 [] [] (b1 true) [] := by
 have a0 := mnew_spec
 have a1 := mspawn_spec kR 2 [] 1 1 0 (by decide) (by decide) kR_N kR_C
 rw [show spR kR 2 [] 1 1 0 = ((kR, 2, [⟨1, 1, 1, 0⟩], 2), 1, 0) from by kernel_rfl] at a1
 have a2 := mclone_spec kR 2 [⟨1, 1, 1, 0⟩] 2 1 (by decide) (by decide) kR_N kR_C
 rw [show clR kR 2 [⟨1, 1, 1, 0⟩] 2 1 = ((kR, 2, [⟨1, 1, 1, 0⟩, ⟨2, 1, 1, 0⟩], 3), 2, 0) from by kernel_rfl] at a2
 have a3 := mexit_spec kR 2 [⟨1, 1, 1, 0⟩, ⟨2, 1, 1, 0⟩] 3 1 (by decide) (by decide) kR_N kR_C
 rw [show exR kR 2 [⟨1, 1, 1, 0⟩, ⟨2, 1, 1, 0⟩] 3 1 = ((kR, 2, [], 3), 0) from by kernel_rfl] at a3
 simp only [zag, zad, Nat.zero_add, zas] at a0 a1 a2 a3
 refine fnspec_of mixed TT_ok TT_cl ⟨fun _ => false, fun _ => [], 0, fun _ => false, fun _ => false⟩ Tryz.func7 rfl (by kernel_rfl) rfl 56 rfl [.tmp 0] rfl ?_
 simp only [go_sem, zaa, zas, zat, zau, zaw, zal, ↓reduceIte, reduceCtorEq, zab, zaf, zax, zay, zaz]
 repeat' (first
 | (apply cl_plain
    case hs => rfl
    case ha => exact ygb
    case h => (first | exact a0 .. | exact a1 .. | exact a2 .. | exact a3 ..))
 | ((first | refine s1_id ?_ | refine swp_id ?_ | refine sops_id ?_ | refine s2_id ?_); simp only [zak, zan, zac, zam, zap, zah, zai, zae, zaq, zav, zag, zad, decide_true, go_sem, zaa, zas, zat, zau, zaw, zal, ↓reduceIte, reduceCtorEq, zab, zaf, zax, zay, zaz, zaQ, zaO, zaL, zaP, renO, bk, back, outUpsFrom, Ints_ren])
 | exact fs_nil trivial rfl
 | fail)
end Go.Proofs.YtnahpejlhfeleabGreat
