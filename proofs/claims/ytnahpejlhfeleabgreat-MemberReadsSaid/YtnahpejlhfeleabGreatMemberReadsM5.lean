/- Contracts of functions, told of values, on the way to MemberReads (part 5). -/
import Derived.Test.YtnahpejlhfeleabGreatMemberReadsM3
import Derived.Test.YtnahpejlhfeleabGreatMemberReadsM4
namespace Go.Proofs.YtnahpejlhfeleabGreat
theorem yea {p : Prop} (h : p := by first | (simp only [zah, zam, prepV, prepC, idx, hpL', lookR, zaa, if_true, if_false]; rfl) | fail) : p := h
theorem yeb {p : Prop} (h : p := by first | (intros; (try simp only [zaD, zaI, zaF, zaC, zax, zaA, decide_eq_true_eq, decide_eq_false_iff_not] at *); omega) | fail) : p := h
theorem yec {p : Prop} (h : p := by first | (refine fs_w ?h1 (svw_of ?h2); (case h1 => repeat' (first | exact trivial | exact rfl | exact zaH rfl | apply zaw)); (case h2 => repeat' (first | ((with_reducible refine (?_ : CW _ _)); first | exact cw_gnil | exact cw_rfl _ | exact cw_niln _ _ | exact cw_cap _ _ _ _) | exact trivial | (show _ ∧ SWL _ _; apply zaw) | (show _ ∧ CWL _ _; apply zaw) | show CW _ _))) | fail) : p := h
theorem yed {p : Prop} (h : p := by first | (simp only [zan, zap, false_implies, implies_true, and_true, true_and, flat_cons, flat_nil, flat_ints, flat_bools, flat_app, Cs_flat, zaV, and_self, eq_self_iff_true, zao]) | fail) : p := h
theorem yee {p : Prop} (h : p := by first | (first | exact k1 .. | exact k2 ..) | fail) : p := h
theorem yef {p : Prop} (h : p := by first | (simp only [zah, zam, hpL', lookR, zaa, if_true, if_false]; first | exact map1 _ | exact map2 _ _ | exact map3 _ _ _) | fail) : p := h
theorem yeg {p : Prop} (h : p := by first | (first | exact n1 .. | exact n2 .. | exact a1 .. | exact n3 .. | exact n4 .. | exact a2 ..) | fail) : p := h
theorem yeh {p : Prop} (h : p := by first | (intros; omega) | fail) : p := h
theorem yei {p : Prop} (h : p := by first | (first | exact h1 ..) | fail) : p := h
theorem yej {p : Prop} (h : p := by first | (first | exact h1 .. | exact h2 ..) | fail) : p := h
theorem yek {p : Prop} (h : p := by first | (first | exact n1 .. | exact n2 .. | exact a1 .. | exact n3 ..) | fail) : p := h
theorem yel {p : Prop} (h : p := by first | (simp only [zau, zar]; decide) | fail) : p := h
end Go.Proofs.YtnahpejlhfeleabGreat
-- short names of the library's lemmas
open Nat renaming reduceEqDiff → zaa, reduceLeDiff → zad, reduceAdd → zae, reduceSub → zaf, reduceMul → zag, reduceLT → zai, le_of_ble_eq_true → zaH, le_refl → zaX, lt_succ_self → zaY, zero_le → zbc
open List renaming reduceReplicate → zab, map_cons → zah, map_nil → zam, forall_mem_cons → zan, append_nil → zao, not_mem_nil → zap, take_succ_cons → zaq, length_nil → zar, set_cons_zero → zas, set_cons_succ → zat, length_cons → zau, flatten_cons → zav, flatten_nil → zay, cons_append → zaz, nil_append → zaB, take_zero → zaE, take_nil → zaG, getD_cons_zero → zaL, getD_cons_succ → zaM, drop_of_length_le → zaZ, take_of_length_le → zbb, take → zbd
open Int renaming cast_ofNat_Int → zac, reduceEq → zaj, reduceLT → zak, reduceLE → zal, natCast_add → zaT, toNat_natCast → zaU
open Option renaming getD_some → zaR, getD_none → zaS
open Bool renaming and_eq_false_iff → zax, or_eq_false_iff → zaA, not_eq_false' → zaC, and_eq_true → zaD, not_eq_true' → zaF, or_eq_true → zaI, true_and → zaK, false_and → zaQ
open And renaming intro → zaw
open Go.Proofs.YtnahpejlhfeleabGreat.Sh.Cell renaming ren → zaJ, refs → zaV, isG → zbe, frz → zbf
open Go.Proofs.YtnahpejlhfeleabGreat.Sh.SV renaming renL → zaN, ren → zaP
open Go.Proofs.YtnahpejlhfeleabGreat.Sh.Row renaming ren → zaO
open Go.Proofs.YtnahpejlhfeleabGreat.Sh.St renaming hpF → zaW, tmF → zba
set_option linter.unusedSimpArgs false
set_option linter.unusedVariables false
namespace Go.Proofs.YtnahpejlhfeleabGreat
open Go.Proofs.YtnahpejlhfeleabGreat.Sh
set_option maxRecDepth 20000
abbrev TrS := (List Nd × Int) × Nat
def tPk (L : List Int) (s : TrS) : Int := (gN s.1.1 (nxV L s.2 s.1.1.length).toNat).i
def tAddM (L : List Int) (s : TrS) : (List Nd × Int) × Int × Int := addM s.1.1 s.1.2 (tPk L s) (nmV L (nxA L s.2 s.1.1.length))
def tAdd (L : List Int) (s : TrS) : TrS := (if (tAddM L s).2.2 = 0 then (tAddM L s).1 else s.1, nxA L (nxA L s.2 s.1.1.length) 6)
def tRemM (L : List Int) (s : TrS) : (List Nd × Int) × Int := rmM s.1.1 s.1.2 (tPk L (s.1, nxA L s.2 6))
def tRem (L : List Int) (s : TrS) : TrS := if nxV L s.2 6 = 5 then (if (tRemM L s).2 = 0 then (tRemM L s).1 else s.1, nxA L (nxA L s.2 6) s.1.1.length) else (s.1, nxA L s.2 6)
def tLp (L : List Int) : Nat → TrS → TrS
  | 0, s => s
  | m + 1, s => tLp L m (tRem L (tAdd L s))
def mkT (L : List Int) (j : Nat) (N : Nat) : TrS := tLp L (nxV L j ((N : Int) + 1)).toNat (([⟨1, 0, [], 0, 0, 0⟩], 2), nxA L j ((N : Int) + 1))
structure TI (l : List Nd) (n : Int) (B : Nat) : Prop where
  v : VL l n
  nm : ∀ x ∈ l, x.nm.length ≤ 4
  b : l.length ≤ B
  z : ∀ x ∈ l, x.c = 0 ∧ x.k = 0 ∧ x.o = 0
theorem TI.nr {l : List Nd} {n : Int} {B : Nat} (h : TI l n B) : NmR l := fun x hx => by have := h.nm x hx; omega
theorem TI.len {l : List Nd} {n : Int} {B : Nat} (h : TI l n B) : 1 ≤ l.length ∧ l.length ≤ 64 := ⟨h.v.ne, h.v.le⟩
theorem TI.mono {l : List Nd} {n : Int} {B C : Nat} (h : TI l n B) (hc : B ≤ C) : TI l n C := ⟨h.v, h.nm, Nat.le_trans h.b hc, h.z⟩
theorem hasM_iff {l : List Nd} {n id : Int} : hasM l n id = true ↔ chkT l n = true ∧ ∃ y ∈ l, y.i = id := by
 unfold hasM
 rw [zaD, List.any_eq_true]
 simp only [hasI, decide_eq_true_eq]
theorem addM_ok {l : List Nd} {n p : Int} {s : Str} (h : (addM l n p s).2.2 = 0) : addM l n p s = ((l ++ [newN n p s], n + 1), n, 0) ∧ chkT l n = true ∧ nmOk s = true ∧ (∃ y ∈ l, y.i = p) ∧ (∀ y ∈ l, ¬ (y.p = p ∧ y.nm = s)) ∧ (upL l p).length ≤ 8 ∧ l.length < 64 ∧ n ≤ 2147483647 := by
 unfold addM at h ⊢
 by_cases h1 : (chkT l n && nmOk s) = false
 · rw [if_pos h1] at h; cases h
 rw [if_neg h1] at h ⊢
 by_cases h2 : hasM l n p = false
 · rw [if_pos h2] at h; cases h
 rw [if_neg h2] at h ⊢
 by_cases h3 : l.any (same1 p s) = true
 · rw [if_pos h3] at h; cases h
 rw [if_neg h3] at h ⊢
 by_cases h4 : 8 ≤ ((ancM l n p).length : Int) - 1 ∨ 64 ≤ (l.length : Int) ∨ 2147483647 < n
 · rw [if_pos h4] at h; cases h
 rw [if_neg h4]
 have h1' : (chkT l n && nmOk s) = true := by revert h1; cases (chkT l n && nmOk s) <;> simp
 rw [zaD] at h1'
 have h2' : hasM l n p = true := by revert h2; cases hasM l n p <;> simp
 have ha : ancM l n p = upL l p := if_pos h2'
 rw [ha] at h4
 refine ⟨rfl, h1'.1, h1'.2, (hasM_iff.1 h2').2, fun y hy hh => h3 (List.any_eq_true.2 ⟨y, hy, ?_⟩), by omega, by omega, by omega⟩
 unfold same1
 rw [decide_eq_true hh.1, decide_eq_true hh.2]; rfl
theorem rmM_ok {l : List Nd} {n id : Int} (h : (rmM l n id).2 = 0) : rmM l n id = ((rmN l id, n), 0) ∧ chkT l n = true ∧ (∃ y ∈ l, y.i = id) ∧ id ≠ 1 ∧ ∀ x ∈ l, x.p ≠ id := by
 unfold rmM at h ⊢
 by_cases h1 : chkT l n = false
 · rw [if_pos h1] at h; cases h
 rw [if_neg h1] at h ⊢
 by_cases h2 : hasM l n id = false
 · rw [if_pos h2] at h; cases h
 rw [if_neg h2] at h ⊢
 by_cases h3 : id = 1
 · rw [if_pos h3] at h; cases h
 rw [if_neg h3] at h ⊢
 by_cases h4 : 0 < ((chM l n id).length : Int)
 · rw [if_pos h4] at h; cases h
 rw [if_neg h4]
 have h2' : hasM l n id = true := by revert h2; cases hasM l n id <;> simp
 have hc : chM l n id = kidsL l id := if_pos h2'
 rw [hc] at h4
 refine ⟨rfl, (hasM_iff.1 h2').1, (hasM_iff.1 h2').2, h3, fun x hx e => h4 ?_⟩
 have : x.i ∈ kidsL l id := List.mem_map_of_mem (List.mem_filter.2 ⟨hx, decide_eq_true e⟩)
 have := List.length_pos_of_mem this
 omega
theorem TI.add {l : List Nd} {n p : Int} {s : Str} {B : Nat} (h : TI l n B) (hs : s.length ≤ 4) (he : (addM l n p s).2.2 = 0) : TI (addM l n p s).1.1 (addM l n p s).1.2 (B + 1) := by
 obtain ⟨e, h1, h2, h3, h4, h5, h6, h7⟩ := addM_ok he
 rw [e]
 refine ⟨h.v.add h2 h3 h4 h5 h6 h7, fun x hx => ?_, by rw [List.length_append, List.length_singleton]; have := h.b; omega, fun x hx => ?_⟩
 · rcases List.mem_append.1 hx with hx | hx
   · exact h.nm x hx
   · rw [List.mem_singleton.1 hx]; exact hs
 · rcases List.mem_append.1 hx with hx | hx
   · exact h.z x hx
   · rw [List.mem_singleton.1 hx]; exact ⟨rfl, rfl, rfl⟩
theorem TI.rem {l : List Nd} {n id : Int} {B : Nat} (h : TI l n B) (he : (rmM l n id).2 = 0) : TI (rmM l n id).1.1 (rmM l n id).1.2 B := by
 obtain ⟨e, h1, h2, h3, h4⟩ := rmM_ok he
 rw [e]
 refine ⟨h.v.rm h3 h4, fun x hx => h.nm x ((rmN_mem l id x).1 hx).1, Nat.le_trans (rmN_len l id) h.b, fun x hx => h.z x ((rmN_mem l id x).1 hx).1⟩
theorem tAdd_ok (L : List Int) {s : TrS} {B : Nat} (h : TI s.1.1 s.1.2 B) : TI (tAdd L s).1.1 (tAdd L s).1.2 (B + 1) := by
 unfold tAdd
 simp only
 by_cases he : (tAddM L s).2.2 = 0
 · rw [if_pos he]
   exact h.add (nmV_len _ _) he
 · rw [if_neg he]; exact h.mono (Nat.le_succ B)
theorem tRem_ok (L : List Int) {s : TrS} {B : Nat} (h : TI s.1.1 s.1.2 B) : TI (tRem L s).1.1 (tRem L s).1.2 B := by
 unfold tRem
 by_cases hb : nxV L s.2 6 = 5
 · rw [if_pos hb]
   simp only
   by_cases he : (tRemM L s).2 = 0
   · rw [if_pos he]; exact h.rem he
   · rw [if_neg he]; exact h
 · rw [if_neg hb]; exact h
theorem tLp_ok (L : List Int) : ∀ (m : Nat) (s : TrS) (B : Nat), TI s.1.1 s.1.2 B → TI (tLp L m s).1.1 (tLp L m s).1.2 (B + m)
  | 0, s, B, h => h
  | m + 1, s, B, h => by
    have := tLp_ok L m _ _ (tRem_ok L (tAdd_ok L h))
    rw [show B + 1 + m = B + (m + 1) by omega] at this
    exact this
theorem TI_new : TI [⟨1, 0, [], 0, 0, 0⟩] 2 1 := ⟨VL_new, fun x hx => by rw [List.mem_singleton.1 hx]; decide, zaX _, fun x hx => by rw [List.mem_singleton.1 hx]; exact ⟨rfl, rfl, rfl⟩⟩
theorem mkT_ok (L : List Int) (j N : Nat) : TI (mkT L j N).1.1 (mkT L j N).1.2 (N + 1) := by
 have h := tLp_ok L (nxV L j ((N : Int) + 1)).toNat (([⟨1, 0, [], 0, 0, 0⟩], 2), nxA L j ((N : Int) + 1)) 1 TI_new
 have h2 := nx_rng L j ((N : Int) + 1) (by omega)
 exact h.mono (by omega)
def lendT : FuncId → List Nat := fun f => if f = 42 then [0] else if f = 87 then [0] else if f = 47 then [0] else []
set_option maxHeartbeats 32000000 in
theorem tree_spec (L : List Int) (hl : L.length ≤ 600) (hr : ∀ x ∈ L, -9223372036854775808 ≤ x ∧ x ≤ 9223372036854775807) (j N : Nat) (hN : N ≤ 50) : FnSpec Tryz.prog 44 [dp, i1 N] [dice L j] (trV (mkT L j N).1.1 none (mkT L j N).1.2) [some (dice L (mkT L j N).2)] := by
 have n0 := next_spec L j ((N : Int) + 1) hl hr (by omega)
 have r0 := nx_rng L j ((N : Int) + 1) (by omega)
 obtain ⟨T, hT⟩ : ∃ T, mkT L j N = T := ⟨_, rfl⟩
 have hT0 := hT
 rw [hT]
 unfold mkT at hT
 obtain ⟨c0, hc0, hc1⟩ : ∃ c : Nat, nxV L j ((N : Int) + 1) = c ∧ c ≤ N := ⟨(nxV L j ((N : Int) + 1)).toNat, by omega, by omega⟩
 rw [hc0, zaU] at hT
 rw [hc0] at n0
 refine fnspec_of mixed TT_ok TT_cl ⟨fun _ => false, lendT, 1, fun _ => false, fun _ => false⟩ Tryz.func44 rfl (by kernel_rfl) rfl 65 rfl [.cell 4 25] rfl ?_
 simp only [go_sem, zaa, zae, zaf, zag, zai, zad, ↓reduceIte, reduceCtorEq, zab, zac, zaj, zak, zal, lendT]
 repeat' (first
 | with_reducible refine zaw ?_ ?_
 | (apply cl_plain
    case hs => rfl
    case ha => exact yea
    case h => (first | exact trnew_spec .. | exact n0 ..))
 | (apply cl_lend
    case hr => exact yef
    case ha => exact yea
    case hs => rfl
    case hn => decide
    case h => (first | exact trnew_spec .. | exact n0 ..)
    case hf => exact yed
    case hl => exact yel)
 | ((first | refine s1_id ?_ | refine swp_id ?_ | refine sops_id ?_ | refine s2_id ?_); simp only [lendT, dice, go_sem, zaa, zae, zaf, zag, zai, zad, ↓reduceIte, reduceCtorEq, zab, zac, zaj, zak, zal, zaP, zaN, zaJ, zaO, renO, bk, back, outUpsFrom, Ints_ren])
 | exact yeh
 | exact yeb | fail)
 refine w_loop (ι := Nat × TrS) (fun s => ⟨[(0, dp), (4, .one (.optr 1 0)), (5, .one (.optr 2 0)), (6, i1 s.1)], [(0, some (dice L s.2.2)), (1, some ⟨[.sc (.slice none 0 0), int 0], 2⟩), (2, some ⟨[.gsl (Cs s.2.1.1) 0 s.2.1.1.length none, int s.2.1.2], 2⟩)], 3⟩) (fun s => T = tLp L s.1 s.2 ∧ TI s.2.1.1 s.2.1.2 (N + 1 - s.1) ∧ s.1 ≤ N) (fun s => s.1) (c0, (([⟨1, 0, [], 0, 0, 0⟩], 2), nxA L j ((N : Int) + 1))) ?_ ⟨hT.symm, TI_new.mono (by omega), hc1⟩ ?_
 · (refine imp_ren _ _ _ [(0, 0, dice L (nxA L j ((N : Int) + 1))), (1, 1, ⟨[.sc (.slice none 0 0), int 0], 2⟩), (2, 3, ⟨[.gsl (Cs ([⟨1, 0, [], 0, 0, 0⟩] : List Nd)) 0 1 none, int 2], 2⟩)] (by simp) (by simp) (by simp) (zaH rfl) ?_ rfl (by simp only [zan, zap, false_implies, implies_true, and_true, zaW, lookR, zaa, if_true, if_false, ↓reduceIte, dice] <;> (repeat' apply zaw) <;> (first | rfl | trivial)) (by simp only [zan, zap, false_implies, implies_true, and_true, true_and, flat_cons, flat_nil, flat_ints, flat_bools, flat_app, zaV, and_self, eq_self_iff_true, zao, dice]); simp only [zah, zam, zan, zap, false_implies, implies_true, and_true, lk, slot, zaP, zaJ, toN, zaa, if_true, if_false, ↓reduceIte, reduceCtorEq])
   all_goals ((repeat' apply zaw) <;> (first | rfl | trivial))
 clear n0 r0 hT hT0 hc0
 rintro ⟨m, ⟨⟨l, n⟩, i⟩⟩ ⟨hI, hti, hmN⟩
 simp only at hI hti hmN ⊢
 cases m with
 | zero =>
   rw [tLp] at hI
   subst hI
   simp only [go_sem, zaa, zae, zaf, zag, zai, zad, ↓reduceIte, reduceCtorEq, zab, zac, zaj, zak, zal, lendT]
   repeat' (first
 | exact yeb | fail)
   (refine fs_flat [(0, dice L i)] (by simp) (by simp only [zah, zam]; decide) (by simp only [go_sem, resV, resS, zaP, zaN, zaJ, zba, zaW, idx, renO, zaO, evS, slot, lookR, zaa, ↓reduceIte, reduceCtorEq, if_true, if_false, zaR, zaS, zah, zam, sLoad, readAt, readNeed, Ints_ren, Ints_length, Ints_getD, and_true, true_and, zaL, zaM]; try decide) ?_ (by simp only [zan, zap, false_implies, implies_true, and_true, zaW, lookR, zaa, if_true, if_false, ↓reduceIte, dice] <;> (repeat' apply zaw) <;> (first | rfl | trivial)) (by simp only [zan, zap, false_implies, implies_true, and_true, true_and, flat_cons, flat_nil, flat_ints, flat_bools, flat_app, zaV, and_self, eq_self_iff_true, zao, dice]) ?_ <;> (try simp only [go_sem, resV, resS, zaP, zaN, zaJ, zba, zaW, idx, renO, zaO, evS, slot, lookR, zaa, ↓reduceIte, reduceCtorEq, if_true, if_false, zaR, zaS, zah, zam, sLoad, readAt, readNeed, Ints_ren, Ints_length, Ints_getD, and_true, true_and, zaL, zaM]) <;> (try rfl))
 | succ m =>
 have c : (0 : Int) < ((m + 1 : Nat) : Int) := by omega
 have e2 : ((m + 1 : Nat) : Int) - 1 = (m : Int) := by omega
 have hlen := hti.len
 rw [tLp] at hI
 have hta := tAdd_ok L (s := ((l, n), i)) hti
 have htr := tRem_ok L hta
 have hnl := nd_len l
 have n1 := next_spec L i l.length hl hr (by omega)
 have r1 := nx_rng L i l.length (by omega)
 obtain ⟨x, hx, hxl⟩ : ∃ x : Nat, nxV L i l.length = x ∧ x < l.length := ⟨(nxV L i l.length).toNat, by omega, by omega⟩
 obtain ⟨g1, _⟩ := nd_f l x hxl (.sc (.int .i64 0))
 have hA0 : tAddM L ((l, n), i) = addM l n (gN l x).i (nmV L (nxA L i l.length)) := by unfold tAddM tPk; simp only; rw [hx, zaU]
 rw [hx] at n1
 have n2 := name_spec (l := L) hl hr (nxA L i l.length)
 have s1' := nmV_len L (nxA L i l.length)
 have a1 := radd_spec l none n (gN l x).i (nmV L (nxA L i l.length)) (by omega) hti.nr (by omega)
 rw [← hA0] at a1
 have hj2 : (tAdd L ((l, n), i)).2 = nxA L (nxA L i l.length) 6 := rfl
 have ht1 : (tAdd L ((l, n), i)).1 = if (tAddM L ((l, n), i)).2.2 = 0 then (tAddM L ((l, n), i)).1 else (l, n) := rfl
 generalize nmV L (nxA L i l.length) = nam at *
 generalize tAddM L ((l, n), i) = AM at *
 obtain ⟨⟨la, na⟩, ia, ea⟩ := AM
 clear hA0
 simp only [adV] at a1
 obtain ⟨S1, hS1⟩ : ∃ S1, tAdd L ((l, n), i) = S1 := ⟨_, rfl⟩
 rw [hS1] at hI hta htr hj2 ht1
 clear hS1
 obtain ⟨⟨l1, n1'⟩, j2⟩ := S1
 simp only at hta hj2 ht1
 subst hj2
 have hlen1 := hta.len
 have n3 := bool_spec L (nxA L (nxA L i l.length) 6) 6 hl hr (by decide)
 generalize nxA L (nxA L i l.length) 6 = j2 at *
 have htr2 : tRem L ((l1, n1'), j2) = if nxV L j2 6 = 5 then (if (tRemM L ((l1, n1'), j2)).2 = 0 then (tRemM L ((l1, n1'), j2)).1 else (l1, n1'), nxA L (nxA L j2 6) l1.length) else ((l1, n1'), nxA L j2 6) := rfl
 have hnl1 := nd_len l1
 have n4 := next_spec L (nxA L j2 6) l1.length hl hr (by omega)
 have r4 := nx_rng L (nxA L j2 6) l1.length (by omega)
 obtain ⟨y, hy, hyl⟩ : ∃ y : Nat, nxV L (nxA L j2 6) l1.length = y ∧ y < l1.length := ⟨(nxV L (nxA L j2 6) l1.length).toNat, by omega, by omega⟩
 obtain ⟨g2, _⟩ := nd_f l1 y hyl (.sc (.int .i64 0))
 have hR0 : tRemM L ((l1, n1'), j2) = rmM l1 n1' (gN l1 y).i := by unfold tRemM tPk; simp only; rw [hy, zaU]
 rw [hy] at n4
 have a2 := rrem_spec l1 none n1' (gN l1 y).i (by omega) hta.nr
 rw [← hR0] at a2
 generalize tRemM L ((l1, n1'), j2) = RM at *
 obtain ⟨⟨lr, nr⟩, er⟩ := RM
 clear hR0
 simp only [rmV] at a2
 simp only at ht1 htr2
 obtain ⟨S2, hS2⟩ : ∃ S2, tRem L ((l1, n1'), j2) = S2 := ⟨_, rfl⟩
 rw [hS2] at hI htr htr2
 clear hS2
 have hBB : TI S2.1.1 S2.1.2 (N + 1 - m) := htr.mono (by omega)
 obtain ⟨⟨l2, n2'⟩, j3⟩ := S2
 simp only at hBB
 clear htr hta hti
 by_cases hea : ea = 0
 · rw [if_pos hea] at ht1
   obtain ⟨rfl, rfl⟩ := Prod.mk.inj ht1
   by_cases hb : nxV L j2 6 = 5
   · rw [if_pos hb] at htr2
     rw [decide_eq_true (by omega : nxV L j2 6 = 6 - 1)] at n3
     by_cases her : er = 0
     · rw [if_pos her] at htr2
       obtain ⟨e1, rfl⟩ := Prod.mk.inj htr2
       obtain ⟨rfl, rfl⟩ := Prod.mk.inj e1
       simp only [go_sem, zaa, zae, zaf, zag, zai, zad, ↓reduceIte, reduceCtorEq, zab, zac, zaj, zak, zal, decide_eq_true c, e2, lendT, g1, g2, zaU, decide_eq_true hea, decide_eq_true her]
       repeat' (first
 | with_reducible refine zaw ?_ ?_
 | (unfold OKC; kernel_rfl)
 | (unfold EDG; kernel_rfl)
 | (apply cl_plain
    case hs => rfl
    case ha => exact yea
    case h => exact yeg)
 | (apply cl_lend
    case hr => exact yef
    case ha => exact yea
    case hs => rfl
    case hn => decide
    case h => exact yeg
    case hf => exact yed
    case hl => exact yel)
 | ((first | refine s1_id ?_ | refine swp_id ?_ | refine sops_id ?_ | refine s2_id ?_); simp only [decide_eq_true c, e2, lendT, g1, g2, dice, zaU, decide_eq_true hea, decide_eq_true her, zav, zay, zao, zaz, zaB, zas, zat, zaq, zaE, zaG, zau, zar, go_sem, zaa, zae, zaf, zag, zai, zad, ↓reduceIte, reduceCtorEq, zab, zac, zaj, zak, zal, zaP, zaN, zaJ, zaO, renO, bk, back, outUpsFrom, Ints_ren])
 | exact yeh
 | exact yeb | fail)
       refine le_mk (m, ((l2, n2'), (nxA L (nxA L j2 6) l1.length))) ?_ ⟨hI, hBB, by show m ≤ N; omega⟩ (zaY m)
       (refine imp_ren _ _ _ [(0, 0, dice L (nxA L (nxA L j2 6) l1.length)), (1, 1, ⟨[.sc (.slice none 0 0), int 0], 2⟩), (2, 2, ⟨[.gsl (Cs l2) 0 l2.length none, int n2'], 2⟩)] (by simp) (by simp) (by simp) (zaH rfl) ?_ rfl (by simp only [zan, zap, false_implies, implies_true, and_true, zaW, lookR, zaa, if_true, if_false, ↓reduceIte, dice] <;> (repeat' apply zaw) <;> (first | rfl | trivial)) (by simp only [zan, zap, false_implies, implies_true, and_true, true_and, flat_cons, flat_nil, flat_ints, flat_bools, flat_app, zaV, and_self, eq_self_iff_true, zao, dice]); simp only [zah, zam, zan, zap, false_implies, implies_true, and_true, lk, slot, zaP, zaJ, toN, zaa, if_true, if_false, ↓reduceIte, reduceCtorEq])
       all_goals ((repeat' apply zaw) <;> (first | rfl | trivial | (simp only []; done) | (simp only []; rfl) | (simp only []; trivial)))
     · rw [if_neg her] at htr2
       obtain ⟨e1, rfl⟩ := Prod.mk.inj htr2
       obtain ⟨rfl, rfl⟩ := Prod.mk.inj e1
       simp only [go_sem, zaa, zae, zaf, zag, zai, zad, ↓reduceIte, reduceCtorEq, zab, zac, zaj, zak, zal, decide_eq_true c, e2, lendT, g1, g2, zaU, decide_eq_true hea, decide_eq_false her]
       repeat' (first
 | with_reducible refine zaw ?_ ?_
 | (unfold OKC; kernel_rfl)
 | (unfold EDG; kernel_rfl)
 | (apply cl_plain
    case hs => rfl
    case ha => exact yea
    case h => exact yeg)
 | (apply cl_lend
    case hr => exact yef
    case ha => exact yea
    case hs => rfl
    case hn => decide
    case h => exact yeg
    case hf => exact yed
    case hl => exact yel)
 | ((first | refine s1_id ?_ | refine swp_id ?_ | refine sops_id ?_ | refine s2_id ?_); simp only [decide_eq_true c, e2, lendT, g1, g2, dice, zaU, decide_eq_true hea, decide_eq_false her, zav, zay, zao, zaz, zaB, zas, zat, zaq, zaE, zaG, zau, zar, go_sem, zaa, zae, zaf, zag, zai, zad, ↓reduceIte, reduceCtorEq, zab, zac, zaj, zak, zal, zaP, zaN, zaJ, zaO, renO, bk, back, outUpsFrom, Ints_ren])
 | exact yeh
 | exact yeb | fail)
       refine le_mk (m, ((l2, n2'), (nxA L (nxA L j2 6) l2.length))) ?_ ⟨hI, hBB, by show m ≤ N; omega⟩ (zaY m)
       (refine imp_ren _ _ _ [(0, 0, dice L (nxA L (nxA L j2 6) l2.length)), (1, 1, ⟨[.sc (.slice none 0 0), int 0], 2⟩), (2, 2, ⟨[.gsl (Cs l2) 0 l2.length none, int n2'], 2⟩)] (by simp) (by simp) (by simp) (zaH rfl) ?_ rfl (by simp only [zan, zap, false_implies, implies_true, and_true, zaW, lookR, zaa, if_true, if_false, ↓reduceIte, dice] <;> (repeat' apply zaw) <;> (first | rfl | trivial)) (by simp only [zan, zap, false_implies, implies_true, and_true, true_and, flat_cons, flat_nil, flat_ints, flat_bools, flat_app, zaV, and_self, eq_self_iff_true, zao, dice]); simp only [zah, zam, zan, zap, false_implies, implies_true, and_true, lk, slot, zaP, zaJ, toN, zaa, if_true, if_false, ↓reduceIte, reduceCtorEq])
       all_goals ((repeat' apply zaw) <;> (first | rfl | trivial | (simp only []; done) | (simp only []; rfl) | (simp only []; trivial)))
   · rw [if_neg hb] at htr2
     rw [decide_eq_false (by omega : ¬ nxV L j2 6 = 6 - 1)] at n3
     obtain ⟨e1, rfl⟩ := Prod.mk.inj htr2
     obtain ⟨rfl, rfl⟩ := Prod.mk.inj e1
     simp only [go_sem, zaa, zae, zaf, zag, zai, zad, ↓reduceIte, reduceCtorEq, zab, zac, zaj, zak, zal, decide_eq_true c, e2, lendT, g1, g2, zaU, decide_eq_true hea]
     repeat' (first
 | with_reducible refine zaw ?_ ?_
 | (unfold OKC; kernel_rfl)
 | (unfold EDG; kernel_rfl)
 | (apply cl_plain
    case hs => rfl
    case ha => exact yea
    case h => exact yek)
 | (apply cl_lend
    case hr => exact yef
    case ha => exact yea
    case hs => rfl
    case hn => decide
    case h => exact yek
    case hf => exact yed
    case hl => exact yel)
 | ((first | refine s1_id ?_ | refine swp_id ?_ | refine sops_id ?_ | refine s2_id ?_); simp only [decide_eq_true c, e2, lendT, g1, g2, dice, zaU, decide_eq_true hea, zav, zay, zao, zaz, zaB, zas, zat, zaq, zaE, zaG, zau, zar, go_sem, zaa, zae, zaf, zag, zai, zad, ↓reduceIte, reduceCtorEq, zab, zac, zaj, zak, zal, zaP, zaN, zaJ, zaO, renO, bk, back, outUpsFrom, Ints_ren])
 | exact yeh
 | exact yeb | fail)
     refine le_mk (m, ((l2, n2'), (nxA L j2 6))) ?_ ⟨hI, hBB, by show m ≤ N; omega⟩ (zaY m)
     (refine imp_ren _ _ _ [(0, 0, dice L (nxA L j2 6)), (1, 1, ⟨[.sc (.slice none 0 0), int 0], 2⟩), (2, 2, ⟨[.gsl (Cs l2) 0 l2.length none, int n2'], 2⟩)] (by simp) (by simp) (by simp) (zaH rfl) ?_ rfl (by simp only [zan, zap, false_implies, implies_true, and_true, zaW, lookR, zaa, if_true, if_false, ↓reduceIte, dice] <;> (repeat' apply zaw) <;> (first | rfl | trivial)) (by simp only [zan, zap, false_implies, implies_true, and_true, true_and, flat_cons, flat_nil, flat_ints, flat_bools, flat_app, zaV, and_self, eq_self_iff_true, zao, dice]); simp only [zah, zam, zan, zap, false_implies, implies_true, and_true, lk, slot, zaP, zaJ, toN, zaa, if_true, if_false, ↓reduceIte, reduceCtorEq])
     all_goals ((repeat' apply zaw) <;> (first | rfl | trivial | (simp only []; done) | (simp only []; rfl) | (simp only []; trivial)))
 · rw [if_neg hea] at ht1
   obtain ⟨rfl, rfl⟩ := Prod.mk.inj ht1
   by_cases hb : nxV L j2 6 = 5
   · rw [if_pos hb] at htr2
     rw [decide_eq_true (by omega : nxV L j2 6 = 6 - 1)] at n3
     by_cases her : er = 0
     · rw [if_pos her] at htr2
       obtain ⟨e1, rfl⟩ := Prod.mk.inj htr2
       obtain ⟨rfl, rfl⟩ := Prod.mk.inj e1
       simp only [go_sem, zaa, zae, zaf, zag, zai, zad, ↓reduceIte, reduceCtorEq, zab, zac, zaj, zak, zal, decide_eq_true c, e2, lendT, g1, g2, zaU, decide_eq_false hea, decide_eq_true her]
       repeat' (first
 | with_reducible refine zaw ?_ ?_
 | (unfold OKC; kernel_rfl)
 | (unfold EDG; kernel_rfl)
 | (apply cl_plain
    case hs => rfl
    case ha => exact yea
    case h => exact yeg)
 | (apply cl_lend
    case hr => exact yef
    case ha => exact yea
    case hs => rfl
    case hn => decide
    case h => exact yeg
    case hf => exact yed
    case hl => exact yel)
 | ((first | refine s1_id ?_ | refine swp_id ?_ | refine sops_id ?_ | refine s2_id ?_); simp only [decide_eq_true c, e2, lendT, g1, g2, dice, zaU, decide_eq_false hea, decide_eq_true her, zav, zay, zao, zaz, zaB, zas, zat, zaq, zaE, zaG, zau, zar, go_sem, zaa, zae, zaf, zag, zai, zad, ↓reduceIte, reduceCtorEq, zab, zac, zaj, zak, zal, zaP, zaN, zaJ, zaO, renO, bk, back, outUpsFrom, Ints_ren])
 | exact yeh
 | exact yeb | fail)
       refine le_mk (m, ((l2, n2'), (nxA L (nxA L j2 6) l1.length))) ?_ ⟨hI, hBB, by show m ≤ N; omega⟩ (zaY m)
       (refine imp_ren _ _ _ [(0, 0, dice L (nxA L (nxA L j2 6) l1.length)), (1, 1, ⟨[.sc (.slice none 0 0), int 0], 2⟩), (2, 2, ⟨[.gsl (Cs l2) 0 l2.length none, int n2'], 2⟩)] (by simp) (by simp) (by simp) (zaH rfl) ?_ rfl (by simp only [zan, zap, false_implies, implies_true, and_true, zaW, lookR, zaa, if_true, if_false, ↓reduceIte, dice] <;> (repeat' apply zaw) <;> (first | rfl | trivial)) (by simp only [zan, zap, false_implies, implies_true, and_true, true_and, flat_cons, flat_nil, flat_ints, flat_bools, flat_app, zaV, and_self, eq_self_iff_true, zao, dice]); simp only [zah, zam, zan, zap, false_implies, implies_true, and_true, lk, slot, zaP, zaJ, toN, zaa, if_true, if_false, ↓reduceIte, reduceCtorEq])
       all_goals ((repeat' apply zaw) <;> (first | rfl | trivial | (simp only []; done) | (simp only []; rfl) | (simp only []; trivial)))
     · rw [if_neg her] at htr2
       obtain ⟨e1, rfl⟩ := Prod.mk.inj htr2
       obtain ⟨rfl, rfl⟩ := Prod.mk.inj e1
       simp only [go_sem, zaa, zae, zaf, zag, zai, zad, ↓reduceIte, reduceCtorEq, zab, zac, zaj, zak, zal, decide_eq_true c, e2, lendT, g1, g2, zaU, decide_eq_false hea, decide_eq_false her]
       repeat' (first
 | with_reducible refine zaw ?_ ?_
 | (unfold OKC; kernel_rfl)
 | (unfold EDG; kernel_rfl)
 | (apply cl_plain
    case hs => rfl
    case ha => exact yea
    case h => exact yeg)
 | (apply cl_lend
    case hr => exact yef
    case ha => exact yea
    case hs => rfl
    case hn => decide
    case h => exact yeg
    case hf => exact yed
    case hl => exact yel)
 | ((first | refine s1_id ?_ | refine swp_id ?_ | refine sops_id ?_ | refine s2_id ?_); simp only [decide_eq_true c, e2, lendT, g1, g2, dice, zaU, decide_eq_false hea, decide_eq_false her, zav, zay, zao, zaz, zaB, zas, zat, zaq, zaE, zaG, zau, zar, go_sem, zaa, zae, zaf, zag, zai, zad, ↓reduceIte, reduceCtorEq, zab, zac, zaj, zak, zal, zaP, zaN, zaJ, zaO, renO, bk, back, outUpsFrom, Ints_ren])
 | exact yeh
 | exact yeb | fail)
       refine le_mk (m, ((l2, n2'), (nxA L (nxA L j2 6) l2.length))) ?_ ⟨hI, hBB, by show m ≤ N; omega⟩ (zaY m)
       (refine imp_ren _ _ _ [(0, 0, dice L (nxA L (nxA L j2 6) l2.length)), (1, 1, ⟨[.sc (.slice none 0 0), int 0], 2⟩), (2, 2, ⟨[.gsl (Cs l2) 0 l2.length none, int n2'], 2⟩)] (by simp) (by simp) (by simp) (zaH rfl) ?_ rfl (by simp only [zan, zap, false_implies, implies_true, and_true, zaW, lookR, zaa, if_true, if_false, ↓reduceIte, dice] <;> (repeat' apply zaw) <;> (first | rfl | trivial)) (by simp only [zan, zap, false_implies, implies_true, and_true, true_and, flat_cons, flat_nil, flat_ints, flat_bools, flat_app, zaV, and_self, eq_self_iff_true, zao, dice]); simp only [zah, zam, zan, zap, false_implies, implies_true, and_true, lk, slot, zaP, zaJ, toN, zaa, if_true, if_false, ↓reduceIte, reduceCtorEq])
       all_goals ((repeat' apply zaw) <;> (first | rfl | trivial | (simp only []; done) | (simp only []; rfl) | (simp only []; trivial)))
   · rw [if_neg hb] at htr2
     rw [decide_eq_false (by omega : ¬ nxV L j2 6 = 6 - 1)] at n3
     obtain ⟨e1, rfl⟩ := Prod.mk.inj htr2
     obtain ⟨rfl, rfl⟩ := Prod.mk.inj e1
     simp only [go_sem, zaa, zae, zaf, zag, zai, zad, ↓reduceIte, reduceCtorEq, zab, zac, zaj, zak, zal, decide_eq_true c, e2, lendT, g1, g2, zaU, decide_eq_false hea]
     repeat' (first
 | with_reducible refine zaw ?_ ?_
 | (unfold OKC; kernel_rfl)
 | (unfold EDG; kernel_rfl)
 | (apply cl_plain
    case hs => rfl
    case ha => exact yea
    case h => exact yek)
 | (apply cl_lend
    case hr => exact yef
    case ha => exact yea
    case hs => rfl
    case hn => decide
    case h => exact yek
    case hf => exact yed
    case hl => exact yel)
 | ((first | refine s1_id ?_ | refine swp_id ?_ | refine sops_id ?_ | refine s2_id ?_); simp only [decide_eq_true c, e2, lendT, g1, g2, dice, zaU, decide_eq_false hea, zav, zay, zao, zaz, zaB, zas, zat, zaq, zaE, zaG, zau, zar, go_sem, zaa, zae, zaf, zag, zai, zad, ↓reduceIte, reduceCtorEq, zab, zac, zaj, zak, zal, zaP, zaN, zaJ, zaO, renO, bk, back, outUpsFrom, Ints_ren])
 | exact yeh
 | exact yeb | fail)
     refine le_mk (m, ((l2, n2'), (nxA L j2 6))) ?_ ⟨hI, hBB, by show m ≤ N; omega⟩ (zaY m)
     (refine imp_ren _ _ _ [(0, 0, dice L (nxA L j2 6)), (1, 1, ⟨[.sc (.slice none 0 0), int 0], 2⟩), (2, 2, ⟨[.gsl (Cs l2) 0 l2.length none, int n2'], 2⟩)] (by simp) (by simp) (by simp) (zaH rfl) ?_ rfl (by simp only [zan, zap, false_implies, implies_true, and_true, zaW, lookR, zaa, if_true, if_false, ↓reduceIte, dice] <;> (repeat' apply zaw) <;> (first | rfl | trivial)) (by simp only [zan, zap, false_implies, implies_true, and_true, true_and, flat_cons, flat_nil, flat_ints, flat_bools, flat_app, zaV, and_self, eq_self_iff_true, zao, dice]); simp only [zah, zam, zan, zap, false_implies, implies_true, and_true, lk, slot, zaP, zaJ, toN, zaa, if_true, if_false, ↓reduceIte, reduceCtorEq])
     all_goals ((repeat' apply zaw) <;> (first | rfl | trivial | (simp only []; done) | (simp only []; rfl) | (simp only []; trivial)))
theorem nd_cl (xs : List (Nd)) (c : Option Nat) (hl : xs.length ≤ 1000000) : FnSpec Tryz.prog 112 [gr xs c] [] (.one (.osl 0 0 xs.length none)) [some ⟨Cs xs, 6⟩] := by
 have hts : zbd (xs.length * 6) (Cs xs) = Cs xs := Cs_all xs _ (zaX _)
 have hil : (Cs xs).length = xs.length * 6 := Cs_len xs
 by_cases h0 : 0 < xs.length
 · refine fnspec_of mixed TT_ok TT_cl ⟨fun _ => false, fun _ => [], 0, fun _ => false, fun _ => false⟩ Tryz.func112 rfl (by kernel_rfl) rfl 8 rfl [.tmp 2] rfl ?_
   simp only [go_sem, zaa, zae, zaf, zag, zai, zad, ↓reduceIte, reduceCtorEq, zab, zac, zaj, zak, zal, hts, hil]
   repeat' (first
 | with_reducible refine zaw ?_ ?_
 | exact yeh
 | exact yeb | fail)
   (refine fs_flat [(5, ⟨Cs xs, 6⟩)] (by simp) (by simp only [zah, zam]; decide) (by simp only [go_sem, resV, resS, zaP, zaN, zaJ, zba, zaW, idx, renO, zaO, evS, slot, lookR, zaa, ↓reduceIte, reduceCtorEq, if_true, if_false, zaR, zaS, zah, zam, sLoad, readAt, readNeed, Ints_ren, Ints_length, Ints_getD, and_true, true_and, zaL, zaM]; try decide) ?_ (by simp only [zan, zap, false_implies, implies_true, and_true, zaW, lookR, zaa, if_true, if_false, ↓reduceIte, Cs_flat] <;> (repeat' apply zaw) <;> (first | rfl | trivial)) (by simp only [zan, zap, false_implies, implies_true, and_true, true_and, flat_cons, flat_nil, flat_ints, flat_bools, flat_app, zaV, and_self, eq_self_iff_true, zao, Cs_flat]) ?_ <;> (try simp only [go_sem, resV, resS, zaP, zaN, zaJ, zba, zaW, idx, renO, zaO, evS, slot, lookR, zaa, ↓reduceIte, reduceCtorEq, if_true, if_false, zaR, zaS, zah, zam, sLoad, readAt, readNeed, Ints_ren, Ints_length, Ints_getD, and_true, true_and, zaL, zaM]) <;> (try rfl))
 · have hn : xs = [] := List.length_eq_zero_iff.1 (by omega)
   subst hn
   refine FnSpec.niln (FnSpec.nilrow 6 ?_) (fun ad cc => ?_)
   · refine fnspec_of mixed TT_ok TT_cl ⟨fun _ => false, fun _ => [], 0, fun _ => false, fun _ => false⟩ Tryz.func112 rfl (by kernel_rfl) rfl 8 rfl [.tmp 2] rfl ?_
     simp only [go_sem, zaa, zae, zaf, zag, zai, zad, ↓reduceIte, reduceCtorEq, zab, zac, zaj, zak, zal]
     repeat' (first
 | exact fs_nil trivial rfl
 | fail)
   · refine fnspec_of mixed TT_ok TT_cl ⟨fun _ => false, fun _ => [], 0, fun _ => false, fun _ => false⟩ Tryz.func112 rfl (by kernel_rfl) rfl 8 rfl [.tmp 2] rfl ?_
     simp only [go_sem, zaa, zae, zaf, zag, zai, zad, ↓reduceIte, reduceCtorEq, zab, zac, zaj, zak, zal]
     repeat' (first
 | exact yeb | fail)
     (refine fs_flat [(5, ⟨[], 6⟩)] (by simp) (by simp only [zah, zam]; decide) (by simp only [go_sem, resV, resS, zaP, zaN, zaJ, zba, zaW, idx, renO, zaO, evS, slot, lookR, zaa, ↓reduceIte, reduceCtorEq, if_true, if_false, zaR, zaS, zah, zam, sLoad, readAt, readNeed, Ints_ren, Ints_length, Ints_getD, and_true, true_and, zaL, zaM]; try decide) ?_ (by simp only [zan, zap, false_implies, implies_true, and_true, zaW, lookR, zaa, if_true, if_false, ↓reduceIte, Cs_flat] <;> (repeat' apply zaw) <;> (first | rfl | trivial)) (by simp only [zan, zap, false_implies, implies_true, and_true, true_and, flat_cons, flat_nil, flat_ints, flat_bools, flat_app, zaV, and_self, eq_self_iff_true, zao, Cs_flat]) ?_ <;> (try simp only [go_sem, resV, resS, zaP, zaN, zaJ, zba, zaW, idx, renO, zaO, evS, slot, lookR, zaa, ↓reduceIte, reduceCtorEq, if_true, if_false, zaR, zaS, zah, zam, sLoad, readAt, readNeed, Ints_ren, Ints_length, Ints_getD, and_true, true_and, zaL, zaM]) <;> (try rfl))
theorem fd_ix {l : List Nd} {n id : Int} (h : VT l n) (hb : bsF Nd.i l id = true) : fdM l n id = (gN l (bsV Nd.i l id), true) := by
 obtain ⟨h1, h2⟩ := bsF_at Nd.i l id hb
 have h2' : (gN l (bsV Nd.i l id)).i = id := h2
 unfold fdM
 rw [(chkT_iff l n).2 h, if_pos rfl]
 have : l.find? (hasI id) = some (gN l (bsV Nd.i l id)) := by
   rw [List.find?_eq_some_iff_getElem]
   refine ⟨decide_eq_true h2', bsV Nd.i l id, h1, (getD_at l _ zn h1).symm, fun j hj => ?_⟩
   have h3 := h.asc j _ hj h1
   rw [h2', show gN l j = l[j] from getD_at l j zn (by omega)] at h3
   simp only [zaF, decide_eq_false_iff_not]; omega
 rw [this]
theorem fd_no {l : List Nd} {n id : Int} (h : VT l n) (hb : bsF Nd.i l id = false) : fdM l n id = (zn, false) := by
 unfold fdM
 rw [(chkT_iff l n).2 h, if_pos rfl]
 rw [bs_any Nd.i l (fun i j hij hj => h.asc i j hij hj) id] at hb
 rw [List.find?_eq_none.2 fun x hx e => List.any_eq_false.1 hb x hx e]
set_option maxHeartbeats 8000000 in
theorem tfind_spec (l : List Nd) (n id : Int) (hl : l.length ≤ 1000000) (hnm : NmR l) (hct : CtR l) : FnSpec Tryz.prog 76 [trV l none n, i1 id] [] (.tup [.agg (ndc (fdM l n id).1), b1 (fdM l n id).2]) [] := by
 have h1 := tchk_spec l n hl hnm hct
 have h2 := index_spec l none id hl
 have hnl := nd_len l
 cases hb : bsF Nd.i l id with
 | false =>
   have e : fdM l n id = (zn, false) := by
     cases hc : chkT l n with
     | false => unfold fdM; rw [hc]; rfl
     | true => exact fd_no ((chkT_iff l n).1 hc) hb
   rw [e]
   rw [hb] at h2
   generalize bsV Nd.i l id = v at *
   refine fnspec_of mixed TT_ok TT_cl ⟨fun _ => false, fun _ => [], 0, fun _ => false, fun _ => false⟩ Tryz.func76 rfl (by kernel_rfl) rfl 28 rfl [.cell 4 61, .tmp 5] rfl ?_
   simp only [go_sem, zaa, zae, zaf, zag, zai, zad, ↓reduceIte, reduceCtorEq, zab, zac, zaj, zak, zal]
   repeat' (first
 | with_reducible refine zaw ?_ ?_
 | (apply cl_plain
    case hs => rfl
    case ha => exact yea
    case h => (first | exact h2 ..))
 | ((first | refine s1_id ?_ | refine swp_id ?_ | refine sops_id ?_ | refine s2_id ?_); simp only [zav, zay, zao, zaz, zaB, zas, zat, zaq, zaE, zaG, zau, zar, go_sem, zaa, zae, zaf, zag, zai, zad, ↓reduceIte, reduceCtorEq, zab, zac, zaj, zak, zal, zaP, zaN, zaJ, zaO, renO, bk, back, outUpsFrom, Ints_ren])
 | exact yeh
 | (apply fs_nil <;> (try simp only [go_sem, resV, resS, zaP, zaN, zaJ, zba, zaW, idx, renO, zaO, evS, slot, lookR, zaa, ↓reduceIte, reduceCtorEq, if_true, if_false, zaR, zaS, zah, zam, sLoad, readAt, readNeed, Ints_ren, Ints_length, Ints_getD, and_true, true_and, zaL, zaM]) <;> (try rfl))
 | fail)
 | true =>
 rw [hb] at h2
 cases hc : chkT l n with
 | false =>
   have e : fdM l n id = (zn, false) := by unfold fdM; rw [hc]; rfl
   rw [e]
   rw [hc] at h1
   generalize bsV Nd.i l id = v at *
   refine fnspec_of mixed TT_ok TT_cl ⟨fun _ => false, fun _ => [], 0, fun _ => false, fun _ => false⟩ Tryz.func76 rfl (by kernel_rfl) rfl 28 rfl [.cell 4 61, .tmp 5] rfl ?_
   simp only [go_sem, zaa, zae, zaf, zag, zai, zad, ↓reduceIte, reduceCtorEq, zab, zac, zaj, zak, zal]
   repeat' (first
 | with_reducible refine zaw ?_ ?_
 | (apply cg_tp
    case hl => rfl
    case ha => exact yea
    case hs => rfl
    case h => exact yej)
 | (apply cl_plain
    case hs => rfl
    case ha => exact yea
    case h => exact yej)
 | ((first | refine s1_id ?_ | refine swp_id ?_ | refine sops_id ?_ | refine s2_id ?_); simp only [zav, zay, zao, zaz, zaB, zas, zat, zaq, zaE, zaG, zau, zar, go_sem, zaa, zae, zaf, zag, zai, zad, ↓reduceIte, reduceCtorEq, zab, zac, zaj, zak, zal, zaP, zaN, zaJ, zaO, renO, bk, back, outUpsFrom, Ints_ren])
 | exact yeh
 | (apply fs_nil <;> (try simp only [go_sem, resV, resS, zaP, zaN, zaJ, zba, zaW, idx, renO, zaO, evS, slot, lookR, zaa, ↓reduceIte, reduceCtorEq, if_true, if_false, zaR, zaS, zah, zam, sLoad, readAt, readNeed, Ints_ren, Ints_length, Ints_getD, and_true, true_and, zaL, zaM]) <;> (try rfl))
 | fail)
 | true =>
 rw [fd_ix ((chkT_iff l n).1 hc) hb]
 rw [hc] at h1
 have hlt := (bsF_at Nd.i l id hb).1
 generalize bsV Nd.i l id = v at *
 have hN := nd_td l v hlt
 generalize gN l v = x at *
 obtain ⟨xi, xp, xn, xc, xk, xo⟩ := x
 simp only [ndc] at hN ⊢
 refine fnspec_of mixed TT_ok TT_cl ⟨fun _ => false, fun _ => [], 0, fun _ => false, fun _ => false⟩ Tryz.func76 rfl (by kernel_rfl) rfl 28 rfl [.cell 4 61, .tmp 5] rfl ?_
 simp only [go_sem, zaa, zae, zaf, zag, zai, zad, ↓reduceIte, reduceCtorEq, zab, zac, zaj, zak, zal, hN]
 repeat' (first
 | with_reducible refine zaw ?_ ?_
 | (apply cg_tp
    case hl => rfl
    case ha => exact yea
    case hs => rfl
    case h => exact yej)
 | (apply cl_plain
    case hs => rfl
    case ha => exact yea
    case h => exact yej)
 | ((first | refine s1_id ?_ | refine swp_id ?_ | refine sops_id ?_ | refine s2_id ?_); simp only [hN, zav, zay, zao, zaz, zaB, zas, zat, zaq, zaE, zaG, zau, zar, go_sem, zaa, zae, zaf, zag, zai, zad, ↓reduceIte, reduceCtorEq, zab, zac, zaj, zak, zal, zaP, zaN, zaJ, zaO, renO, bk, back, outUpsFrom, Ints_ren])
 | exact yeh
 | (apply fs_nil <;> (try simp only [go_sem, resV, resS, zaP, zaN, zaJ, zba, zaW, idx, renO, zaO, evS, slot, lookR, zaa, ↓reduceIte, reduceCtorEq, if_true, if_false, zaR, zaS, zah, zam, sLoad, readAt, readNeed, Ints_ren, Ints_length, Ints_getD, and_true, true_and, zaL, zaM]) <;> (try rfl))
 | fail)
theorem tnew_spec : FnSpec Tryz.prog 74 [] [] (trV [⟨1, 0, [], 0, 0, 0⟩] none 2) [] := by
 refine fnspec_of mixed TT_ok TT_cl ⟨fun _ => false, fun _ => [], 0, fun _ => false, fun _ => false⟩ Tryz.func74 rfl (by kernel_rfl) rfl 4 rfl [.cell 0 25] rfl ?_
 simp only [go_sem, zaa, zae, zaf, zag, zai, zad, ↓reduceIte, reduceCtorEq, zab, zac, zaj, zak, zal]
 repeat' (first
 | with_reducible refine zaw ?_ ?_
 | exact yeb | fail)
 all_goals try (exact zaX _)
 simp only [zav, zay, zao, zaz, zaB, zas, zat, zaq, zaE, zaG, zau, zar]
 (refine fs_frz 2 ⟨[int 1, int 0, st [], int 0, int 0, int 0], 6⟩ (by simp only [zaW, lookR, zaa, if_true, if_false, ↓reduceIte]) (by first | exact Ints_isG _ | exact Bools_isG _ | exact Cs_isG _ | (simp [zbe]; done)) ?_; simp only [frzTm, SV.frz, SV.frzL, zbf, frzHp, frzO, Ints_frz, Bools_frz, zah, zam, zaa, if_true, if_false, ↓reduceIte])
 repeat' (first
 | exact yec
 | fail)
structure Tk where
  i : Int
  p : Int
  g : Int
  u : Int
abbrev tkc (x : Tk) : List Cell := [int x.i, int x.p, int x.g, int x.u]
abbrev ztk : Tk := ⟨0, 0, 0, 0⟩
instance : Rec Tk := ⟨tkc, 4, ztk, fun _ => rfl, fun x c h => by
  simp only [tkc, List.mem_cons, zap, or_false] at h
  rcases h with rfl | rfl | rfl | rfl <;> rfl⟩
abbrev gT (T : List Tk) (i : Nat) : Tk := T.getD i ztk
theorem tk_td (l : List Tk) (i : Nat) (h : i < l.length) : zbd 4 (List.drop (i * 4) (Cs l)) = tkc (gT l i) := Cs_td l i h
theorem tk_len (l : List Tk) : (Cs l).length = l.length * 4 := Cs_len l
theorem tk_f (l : List Tk) (i o : Nat) (d : Cell) (h : i < l.length) (ho : o < 4) : (Cs l).getD (i * 4 + o) d = (tkc (gT l i)).getD o d := Cs_fld l i o d h ho
abbrev hyc (l : List Nd) (kl : Option Nat) (n : Int) (T : List Tk) (kt : Option Nat) (h : Int) : List Cell := [.gsl (Cs l) 0 l.length kl, int n, .gsl (Cs T) 0 T.length kt, int h]
abbrev hyV (l : List Nd) (kl : Option Nat) (n : Int) (T : List Tk) (kt : Option Nat) (h : Int) : SV := .agg (hyc l kl n T kt h)
set_option maxHeartbeats 4000000 in
theorem tk_bs (g : FuncId) (xs : List (Tk)) (id : Int) (hg : ∀ x ∈ xs, FnSpec Tryz.prog g [.agg (Rec.cs x), i1 id] [] (i1 (cmpv (Tk.i x) id)) []) (cap : Option Nat) (hl : xs.length ≤ 4611686018427387904) : FnSpec Tryz.prog 105 [gr xs cap, i1 id, .one (.fn g [])] [] (.tup [i1 (bsV Tk.i xs id), b1 (bsF Tk.i xs id)]) [] := by
 have hil : (Cs xs).length = xs.length * 4 := Cs_len xs
 refine fnspec_of mixed TT_ok TT_cl ⟨fun _ => false, fun _ => [], 0, fun _ => false, fun _ => false⟩ Tryz.func105 rfl (by kernel_rfl) rfl 49 rfl [.tmp 6, .tmp 7] rfl ?_
 simp only [go_sem, zaa, zae, zaf, zag, zai, zad, ↓reduceIte, reduceCtorEq, zab, zac, zaj, zak, zal]
 repeat' (first
 | exact yeb | fail)
 refine w_loop (ι := Nat × Nat) (fun s => ⟨[(0, gr xs cap), (1, i1 id), (2, .one (.fn g [])), (8, i1 xs.length), (9, i1 s.1), (10, i1 s.2)], [], 0⟩) (fun s => s.1 ≤ s.2 ∧ s.2 ≤ xs.length ∧ bsG (fun i => Tk.i (xs.getD i Rec.z)) id (s.2 - s.1) s.1 s.2 = bsV Tk.i xs id) (fun s => s.2 - s.1) (0, xs.length) ?_ ⟨zbc _, zaX _, rfl⟩ ?_
 · (refine imp_ren _ _ _ [] (by simp) (by simp) (by simp) (zaH rfl) ?_ rfl (by simp only [zan, zap, false_implies, implies_true, and_true, zaW, lookR, zaa, if_true, if_false, ↓reduceIte] <;> (repeat' apply zaw) <;> (first | rfl | trivial)) (by simp only [zan, zap, false_implies, implies_true, and_true, true_and, flat_cons, flat_nil, flat_ints, flat_bools, flat_app, zaV, and_self, eq_self_iff_true, zao]); simp only [zah, zam, zan, zap, false_implies, implies_true, and_true, lk, slot, zaP, zaJ, toN, zaa, if_true, if_false, ↓reduceIte, reduceCtorEq])
   all_goals ((repeat' apply zaw) <;> (first | rfl | trivial))
 rintro ⟨i, j⟩ ⟨hij, hjl, hb⟩
 simp only at hij hjl hb ⊢
 by_cases hlt : i < j
 · have hlt' : (i : Int) < (j : Int) := by omega
   have hsh : ((i : Int) + j).fdiv (2 ^ min (Int.toNat 1) 64) = (((i + j) / 2 : Nat) : Int) := by
     have e : (2 : Int) ^ min (Int.toNat 1) 64 = 2 := rfl
     rw [e, Int.fdiv_eq_ediv_of_nonneg _ (by omega)]; omega
   obtain ⟨h, hh⟩ : ∃ h, h = (i + j) / 2 := ⟨_, rfl⟩
   rw [← hh] at hsh
   have hhl : h < xs.length := by omega
   have hat : zbd 4 (List.drop (h * 4) (Cs xs)) = Rec.cs (xs.getD h Rec.z) := Cs_td xs h hhl
   have hhi : (h : Int) < (xs.length : Int) := by omega
   have hb' := bsG_fuel (fun i => Tk.i (xs.getD i Rec.z)) id (j - i) (j - i - 1 + 1) i j (zaX _) (by omega)
   rw [hb, bsG, if_pos hlt, ← hh] at hb'
   have hix := hg _ (getD_mem xs h Rec.z hhl)
   obtain ⟨b, hbb⟩ : ∃ b, xs.getD h Rec.z = b := ⟨_, rfl⟩
   rw [hbb] at hat hix hb'
   have hcs : Rec.cs b = [int b.i, int b.p, int b.g, int b.u] := rfl
   rw [hcs] at hat hix
   have hcl := cmpv_lt (Tk.i b) id
   by_cases hc : Tk.i b < id
   · rw [if_pos hc] at hb'
     rw [decide_eq_true hc] at hcl
     generalize cmpv (Tk.i b) id = cv at *
     simp only [go_sem, zaa, zae, zaf, zag, zai, zad, ↓reduceIte, reduceCtorEq, zab, zac, zaj, zak, zal, decide_eq_true hlt', hsh, hat]
     repeat' (first
 | with_reducible refine zaw ?_ ?_
 | (apply cl_plain
    case hs => rfl
    case ha => exact yea
    case h => (first | exact hix ..))
 | ((first | refine s1_id ?_ | refine swp_id ?_ | refine sops_id ?_ | refine s2_id ?_); simp only [decide_eq_true hlt', hsh, hat, hcl, go_sem, zaa, zae, zaf, zag, zai, zad, ↓reduceIte, reduceCtorEq, zab, zac, zaj, zak, zal, zaP, zaN, zaJ, zaO, renO, bk, back, outUpsFrom, Ints_ren])
 | exact yeh
 | exact yeb | fail)
     refine le_mk (h + 1, j) ?_ ⟨by show h + 1 ≤ j; omega, hjl, by show bsG _ id (j - (h + 1)) (h + 1) j = bsV Tk.i xs id; rw [hb']; exact bsG_fuel _ id _ _ _ _ (zaX _) (by omega)⟩ (by show j - (h + 1) < j - i; omega)
     (refine imp_ren _ _ _ [] (by simp) (by simp) (by simp) (zaH rfl) ?_ rfl (by simp only [zan, zap, false_implies, implies_true, and_true, zaW, lookR, zaa, if_true, if_false, ↓reduceIte] <;> (repeat' apply zaw) <;> (first | rfl | trivial)) (by simp only [zan, zap, false_implies, implies_true, and_true, true_and, flat_cons, flat_nil, flat_ints, flat_bools, flat_app, zaV, and_self, eq_self_iff_true, zao]); simp only [zah, zam, zan, zap, false_implies, implies_true, and_true, lk, slot, zaP, zaJ, toN, zaa, if_true, if_false, ↓reduceIte, reduceCtorEq])
     all_goals ((repeat' apply zaw) <;> (first | rfl | trivial | (simp only [zaT]; done) | (simp only [zaT]; rfl) | (simp only [zaT]; trivial)))
   · rw [if_neg hc] at hb'
     rw [decide_eq_false hc] at hcl
     generalize cmpv (Tk.i b) id = cv at *
     simp only [go_sem, zaa, zae, zaf, zag, zai, zad, ↓reduceIte, reduceCtorEq, zab, zac, zaj, zak, zal, decide_eq_true hlt', hsh, hat]
     repeat' (first
 | with_reducible refine zaw ?_ ?_
 | (apply cl_plain
    case hs => rfl
    case ha => exact yea
    case h => (first | exact hix ..))
 | ((first | refine s1_id ?_ | refine swp_id ?_ | refine sops_id ?_ | refine s2_id ?_); simp only [decide_eq_true hlt', hsh, hat, hcl, go_sem, zaa, zae, zaf, zag, zai, zad, ↓reduceIte, reduceCtorEq, zab, zac, zaj, zak, zal, zaP, zaN, zaJ, zaO, renO, bk, back, outUpsFrom, Ints_ren])
 | exact yeh
 | exact yeb | fail)
     refine le_mk (i, h) ?_ ⟨by show i ≤ h; omega, by show h ≤ xs.length; omega, by show bsG _ id (h - i) i h = bsV Tk.i xs id; rw [hb']; exact bsG_fuel _ id _ _ _ _ (zaX _) (by omega)⟩ (by show h - i < j - i; omega)
     (refine imp_ren _ _ _ [] (by simp) (by simp) (by simp) (zaH rfl) ?_ rfl (by simp only [zan, zap, false_implies, implies_true, and_true, zaW, lookR, zaa, if_true, if_false, ↓reduceIte] <;> (repeat' apply zaw) <;> (first | rfl | trivial)) (by simp only [zan, zap, false_implies, implies_true, and_true, true_and, flat_cons, flat_nil, flat_ints, flat_bools, flat_app, zaV, and_self, eq_self_iff_true, zao]); simp only [zah, zam, zan, zap, false_implies, implies_true, and_true, lk, slot, zaP, zaJ, toN, zaa, if_true, if_false, ↓reduceIte, reduceCtorEq])
     all_goals ((repeat' apply zaw) <;> (first | rfl | trivial))
 · have hlt' : ¬ (i : Int) < (j : Int) := by omega
   have hi : i = bsV Tk.i xs id := by
     have e : j - i = 0 := by omega
     rw [e] at hb
     exact hb
   subst hi
   unfold bsF
   by_cases hin : bsV Tk.i xs id < xs.length
   · have hin' : ((bsV Tk.i xs id : Nat) : Int) < (xs.length : Int) := by omega
     have hat : zbd 4 (List.drop (bsV Tk.i xs id * 4) (Cs xs)) = Rec.cs (xs.getD (bsV Tk.i xs id) Rec.z) := Cs_td xs _ hin
     have hix := hg _ (getD_mem xs (bsV Tk.i xs id) Rec.z hin)
     rw [decide_eq_true hin, zaK]
     obtain ⟨b, hbb⟩ : ∃ b, xs.getD (bsV Tk.i xs id) Rec.z = b := ⟨_, rfl⟩
     rw [hbb] at hat hix ⊢
     have hcs : Rec.cs b = [int b.i, int b.p, int b.g, int b.u] := rfl
     rw [hcs] at hat hix
     have hce := cmpv_eq (Tk.i b) id
     generalize cmpv (Tk.i b) id = cv at *
     generalize bsV Tk.i xs id = v at *
     simp only [go_sem, zaa, zae, zaf, zag, zai, zad, ↓reduceIte, reduceCtorEq, zab, zac, zaj, zak, zal, decide_eq_false hlt', decide_eq_true hin', hat]
     repeat' (first
 | with_reducible refine zaw ?_ ?_
 | (apply cg_tp
    case hl => rfl
    case ha => exact yea
    case hs => rfl
    case h => (first | exact hix ..))
 | ((first | refine s1_id ?_ | refine swp_id ?_ | refine sops_id ?_ | refine s2_id ?_); simp only [decide_eq_false hlt', decide_eq_true hin', hat, hce, go_sem, zaa, zae, zaf, zag, zai, zad, ↓reduceIte, reduceCtorEq, zab, zac, zaj, zak, zal, zaP, zaN, zaJ, zaO, renO, bk, back, outUpsFrom, Ints_ren])
 | exact yeh
 | exact fs_nil trivial rfl
 | fail)
   · have hin' : ¬ ((bsV Tk.i xs id : Nat) : Int) < (xs.length : Int) := by omega
     rw [decide_eq_false hin, zaQ]
     generalize bsV Tk.i xs id = v at *
     simp only [go_sem, zaa, zae, zaf, zag, zai, zad, ↓reduceIte, reduceCtorEq, zab, zac, zaj, zak, zal, decide_eq_false hlt', decide_eq_false hin']
     repeat' (first
 | exact fs_nil trivial rfl
 | fail)
set_option maxHeartbeats 4000000 in
theorem tk_ix (g : FuncId) (c0 : List Cell) (q : Tk → Bool) (xs : List (Tk)) (hg : ∀ x ∈ xs, FnSpec Tryz.prog g [.agg (Rec.cs x), .one (.gptr c0 0)] [] (b1 (q x)) []) (cap : Option Nat) (hs : xs.length ≤ 9223372036854775807) : FnSpec Tryz.prog 102 [gr xs cap, .one (.fn g [.gptr c0 0])] [] (i1 (ixR q xs 0)) [] := by
 refine fnspec_of mixed TT_ok TT_cl ⟨fun _ => false, fun _ => [], 0, fun _ => false, fun _ => false⟩ Tryz.func102 rfl (by kernel_rfl) rfl 19 rfl [.tmp 4] rfl ?_
 simp only [go_sem, zaa, zae, zaf, zag, zai, zad, ↓reduceIte, reduceCtorEq, zab, zac, zaj, zak, zal]
 repeat' (first
 | exact yeb | fail)
 refine w_loop (ι := Nat) (fun i => ⟨[(0, gr xs cap), (1, .one (.fn g [.gptr c0 0])), (7, i1 xs.length), (8, i1 i)], [], 0⟩) (fun i => i ≤ xs.length ∧ ixR q xs 0 = ixR q (xs.drop i) i) (fun i => xs.length - i) 0 ?_ ⟨zbc _, rfl⟩ ?_
 · (refine imp_sub _ _ _ [] (by simp) (by simp) (by simp) (zbc _) ?_ rfl (by simp); simp only [zan, zap, false_implies, implies_true, and_true, lk, slot, zaP, zaJ, zaa, if_true, if_false, ↓reduceIte, reduceCtorEq])
   all_goals ((repeat' apply zaw) <;> (first | rfl | trivial))
 rintro i ⟨hi, he⟩
 simp only at hi he ⊢
 rcases Nat.lt_or_ge i xs.length with hlt | hge
 case inr =>
   have hlt' : ¬ (i : Int) < (xs.length : Int) := by omega
   rw [zaZ hge] at he
   rw [he]
   simp only [go_sem, zaa, zae, zaf, zag, zai, zad, ↓reduceIte, reduceCtorEq, zab, zac, zaj, zak, zal, decide_eq_false hlt', ixR]
   repeat' (first
 | exact fs_nil trivial rfl
 | fail)
 have hlt' : (i : Int) < (xs.length : Int) := by omega
 have hcl : (Cs xs).length = xs.length * 4 := Cs_len xs
 have hat : zbd 4 (List.drop (i * 4) (Cs xs)) = Rec.cs (xs.getD i Rec.z) := Cs_td xs i hlt
 have hm := getD_mem xs i Rec.z hlt
 have hc := hg _ hm
 rw [drop_getD xs i Rec.z hlt, ixR] at he
 have hrl : (Rec.cs (xs.getD i Rec.z)).length = 4 := Rec.len _
 have hrg := Rec.g (xs.getD i Rec.z)
 generalize xs.getD i Rec.z = b at *
 have hcs : Rec.cs b = [int b.i, int b.p, int b.g, int b.u] := rfl
 rw [hcs] at hat hc
 clear hrl hrg
 cases hqb : q b with
 | true =>
   rw [hqb] at hc he
   simp only [if_true] at he
   rw [he]
   simp only [go_sem, zaa, zae, zaf, zag, zai, zad, ↓reduceIte, reduceCtorEq, zab, zac, zaj, zak, zal, decide_eq_true hlt', hat]
   repeat' (first
 | with_reducible refine zaw ?_ ?_
 | (apply cl_plain
    case hs => rfl
    case ha => exact yea
    case h => (first | exact hc ..))
 | ((first | refine s1_id ?_ | refine swp_id ?_ | refine sops_id ?_ | refine s2_id ?_); simp only [decide_eq_true hlt', hat, go_sem, zaa, zae, zaf, zag, zai, zad, ↓reduceIte, reduceCtorEq, zab, zac, zaj, zak, zal, zaP, zaN, zaJ, zaO, renO, bk, back, outUpsFrom, Ints_ren])
 | exact yeh
 | exact fs_nil trivial rfl
 | fail)
 | false =>
   rw [hqb] at hc he
   simp only [Bool.false_eq_true, if_false] at he
   simp only [go_sem, zaa, zae, zaf, zag, zai, zad, ↓reduceIte, reduceCtorEq, zab, zac, zaj, zak, zal, decide_eq_true hlt', hat]
   repeat' (first
 | with_reducible refine zaw ?_ ?_
 | (apply cl_plain
    case hs => rfl
    case ha => exact yea
    case h => (first | exact hc ..))
 | ((first | refine s1_id ?_ | refine swp_id ?_ | refine sops_id ?_ | refine s2_id ?_); simp only [decide_eq_true hlt', hat, go_sem, zaa, zae, zaf, zag, zai, zad, ↓reduceIte, reduceCtorEq, zab, zac, zaj, zak, zal, zaP, zaN, zaJ, zaO, renO, bk, back, outUpsFrom, Ints_ren])
 | exact yeh
 | exact yeb | fail)
   refine le_mk (i + 1) ?_ ⟨by omega, he⟩ (by omega)
   (refine imp_sub _ _ _ [] (by simp) (by simp) (by simp) (zbc _) ?_ rfl (by simp); simp only [zan, zap, false_implies, implies_true, and_true, lk, slot, zaP, zaJ, zaa, if_true, if_false, ↓reduceIte, reduceCtorEq])
   all_goals ((repeat' apply zaw) <;> (first | rfl | trivial | (simp only [zaT]; done) | (simp only [zaT]; rfl) | (simp only [zaT]; trivial)))
theorem tk_ct (g : FuncId) (c0 : List Cell) (q : Tk → Bool) (xs : List (Tk)) (hg : ∀ x ∈ xs, FnSpec Tryz.prog g [.agg (Rec.cs x), .one (.gptr c0 0)] [] (b1 (q x)) []) (cap : Option Nat) (hs : xs.length ≤ 9223372036854775807) : FnSpec Tryz.prog 56 [gr xs cap, .one (.fn g [.gptr c0 0])] [] (b1 (xs.any q)) [] := by
 have h1 := tk_ix g c0 q xs hg cap hs
 rw [← ixR_any q xs 0]
 refine fnspec_of mixed TT_ok TT_cl ⟨fun _ => false, fun _ => [], 0, fun _ => false, fun _ => false⟩ Tryz.func56 rfl (by kernel_rfl) rfl 9 rfl [.tmp 4] rfl ?_
 simp only [go_sem, zaa, zae, zaf, zag, zai, zad, ↓reduceIte, reduceCtorEq, zab, zac, zaj, zak, zal]
 repeat' (first
 | (apply cl_plain
    case hs => rfl
    case ha => exact yea
    case h => exact yei)
 | ((first | refine s1_id ?_ | refine swp_id ?_ | refine sops_id ?_ | refine s2_id ?_); simp only [go_sem, zaa, zae, zaf, zag, zai, zad, ↓reduceIte, reduceCtorEq, zab, zac, zaj, zak, zal, zaP, zaN, zaJ, zaO, renO, bk, back, outUpsFrom, Ints_ren])
 | exact fs_nil trivial rfl
 | fail)
theorem mix_spec (x : Tk) (id : Int) : FnSpec Tryz.prog 106 [.agg (Rec.cs x), i1 id] [] (i1 (cmpv (Tk.i x) id)) [] := by
 show FnSpec Tryz.prog 106 [.agg (tkc x), i1 id] [] (i1 (cmpv (Tk.i x) id)) []
 obtain ⟨i, p, g, u⟩ := x
 simp only [tkc]
 have h1 := cmp_spec i id
 refine fnspec_of mixed TT_ok TT_cl ⟨fun _ => false, fun _ => [], 0, fun _ => false, fun _ => false⟩ Tryz.func106 rfl (by kernel_rfl) rfl 9 rfl [.tmp 4] rfl ?_
 simp only [go_sem, zaa, zae, zaf, zag, zai, zad, ↓reduceIte, reduceCtorEq, zab, zac, zaj, zak, zal]
 repeat' (first
 | (apply cl_plain
    case hs => rfl
    case ha => exact yea
    case h => exact yei)
 | ((first | refine s1_id ?_ | refine swp_id ?_ | refine sops_id ?_ | refine s2_id ?_); simp only [zav, zay, zao, zaz, zaB, zas, zat, zaq, zaE, zaG, zau, zar, go_sem, zaa, zae, zaf, zag, zai, zad, ↓reduceIte, reduceCtorEq, zab, zac, zaj, zak, zal, zaP, zaN, zaJ, zaO, renO, bk, back, outUpsFrom, Ints_ren])
 | exact fs_nil trivial rfl
 | fail)
theorem mindex_spec (l : List Nd) (kl : Option Nat) (n : Int) (T : List Tk) (kt : Option Nat) (h id : Int) (hT : T.length ≤ 4611686018427387904) : FnSpec Tryz.prog 60 [hyV l kl n T kt h, i1 id] [] (.tup [i1 (bsV Tk.i T id), b1 (bsF Tk.i T id)]) [] := by
 have h1 := tk_bs 106 T id (fun x _ => mix_spec x id) kt hT
 refine fnspec_of mixed TT_ok TT_cl ⟨fun _ => false, fun _ => [], 0, fun _ => false, fun _ => false⟩ Tryz.func60 rfl (by kernel_rfl) rfl 12 rfl [.tmp 4, .tmp 5] rfl ?_
 simp only [go_sem, zaa, zae, zaf, zag, zai, zad, ↓reduceIte, reduceCtorEq, zab, zac, zaj, zak, zal]
 repeat' (first
 | (apply cl_plain
    case hs => rfl
    case ha => exact yea
    case h => exact yei)
 | ((first | refine s1_id ?_ | refine swp_id ?_ | refine sops_id ?_ | refine s2_id ?_); simp only [zav, zay, zao, zaz, zaB, zas, zat, zaq, zaE, zaG, zau, zar, go_sem, zaa, zae, zaf, zag, zai, zad, ↓reduceIte, reduceCtorEq, zab, zac, zaj, zak, zal, zaP, zaN, zaJ, zaO, renO, bk, back, outUpsFrom, Ints_ren])
 | exact fs_nil trivial rfl
 | fail)
theorem mpl1_spec (x : Nd) (id : Int) : FnSpec Tryz.prog 100 [.agg (Rec.cs x), i1 id] [] (i1 (cmpv (Nd.i x) id)) [] := by
 show FnSpec Tryz.prog 100 [.agg (ndc x), i1 id] [] (i1 (cmpv (Nd.i x) id)) []
 obtain ⟨xi, xp, xn, xc, xk, xo⟩ := x
 simp only [ndc]
 have h1 := cmp_spec xi id
 refine fnspec_of mixed TT_ok TT_cl ⟨fun _ => false, fun _ => [], 0, fun _ => false, fun _ => false⟩ Tryz.func100 rfl (by kernel_rfl) rfl 9 rfl [.tmp 4] rfl ?_
 simp only [go_sem, zaa, zae, zaf, zag, zai, zad, ↓reduceIte, reduceCtorEq, zab, zac, zaj, zak, zal]
 repeat' (first
 | (apply cl_plain
    case hs => rfl
    case ha => exact yea
    case h => exact yei)
 | ((first | refine s1_id ?_ | refine swp_id ?_ | refine sops_id ?_ | refine s2_id ?_); simp only [zav, zay, zao, zaz, zaB, zas, zat, zaq, zaE, zaG, zau, zar, go_sem, zaa, zae, zaf, zag, zai, zad, ↓reduceIte, reduceCtorEq, zab, zac, zaj, zak, zal, zaP, zaN, zaJ, zaO, renO, bk, back, outUpsFrom, Ints_ren])
 | exact fs_nil trivial rfl
 | fail)
def plB (l : List Nd) (x : Tk) : Bool := bsF Nd.i l x.g && (decide (0 ≤ x.u) && decide (x.u ≤ 1048576))
theorem placed_spec (l : List Nd) (kl : Option Nat) (n : Int) (T : List Tk) (kt : Option Nat) (h : Int) (x : Tk) (hl : l.length ≤ 1000000) : FnSpec Tryz.prog 54 [hyV l kl n T kt h, .agg (tkc x)] [] (b1 (plB l x)) [] := by
 have h1 := nd_bs 100 l x.g (fun x' _ => mpl1_spec x' x.g) kl (by omega)
 unfold plB
 obtain ⟨i, p, g, u⟩ := x
 simp only [tkc] at h1 ⊢
 cases hb : bsF Nd.i l g with
 | false =>
   rw [hb] at h1
   refine fnspec_of mixed TT_ok TT_cl ⟨fun _ => false, fun _ => [], 0, fun _ => false, fun _ => false⟩ Tryz.func54 rfl (by kernel_rfl) rfl 27 rfl [.tmp 4] rfl ?_
   simp only [go_sem, zaa, zae, zaf, zag, zai, zad, ↓reduceIte, reduceCtorEq, zab, zac, zaj, zak, zal]
   repeat' (first
 | (apply cl_plain
    case hs => rfl
    case ha => exact yea
    case h => exact yei)
 | ((first | refine s1_id ?_ | refine swp_id ?_ | refine sops_id ?_ | refine s2_id ?_); simp only [zav, zay, zao, zaz, zaB, zas, zat, zaq, zaE, zaG, zau, zar, go_sem, zaa, zae, zaf, zag, zai, zad, ↓reduceIte, reduceCtorEq, zab, zac, zaj, zak, zal, zaP, zaN, zaJ, zaO, renO, bk, back, outUpsFrom, Ints_ren])
 | exact fs_nil trivial rfl
 | fail)
 | true =>
   rw [hb] at h1
   by_cases c : 0 ≤ u
   · rw [decide_eq_true c]
     refine fnspec_of mixed TT_ok TT_cl ⟨fun _ => false, fun _ => [], 0, fun _ => false, fun _ => false⟩ Tryz.func54 rfl (by kernel_rfl) rfl 27 rfl [.tmp 4] rfl ?_
     simp only [go_sem, zaa, zae, zaf, zag, zai, zad, ↓reduceIte, reduceCtorEq, zab, zac, zaj, zak, zal, decide_eq_true c]
     repeat' (first
 | (apply cl_plain
    case hs => rfl
    case ha => exact yea
    case h => exact yei)
 | ((first | refine s1_id ?_ | refine swp_id ?_ | refine sops_id ?_ | refine s2_id ?_); simp only [decide_eq_true c, ge_iff_le, zav, zay, zao, zaz, zaB, zas, zat, zaq, zaE, zaG, zau, zar, go_sem, zaa, zae, zaf, zag, zai, zad, ↓reduceIte, reduceCtorEq, zab, zac, zaj, zak, zal, zaP, zaN, zaJ, zaO, renO, bk, back, outUpsFrom, Ints_ren])
 | exact fs_nil trivial rfl
 | fail)
   · rw [decide_eq_false c]
     refine fnspec_of mixed TT_ok TT_cl ⟨fun _ => false, fun _ => [], 0, fun _ => false, fun _ => false⟩ Tryz.func54 rfl (by kernel_rfl) rfl 27 rfl [.tmp 4] rfl ?_
     simp only [go_sem, zaa, zae, zaf, zag, zai, zad, ↓reduceIte, reduceCtorEq, zab, zac, zaj, zak, zal, decide_eq_false c]
     repeat' (first
 | (apply cl_plain
    case hs => rfl
    case ha => exact yea
    case h => exact yei)
 | ((first | refine s1_id ?_ | refine swp_id ?_ | refine sops_id ?_ | refine s2_id ?_); simp only [decide_eq_false c, ge_iff_le, zav, zay, zao, zaz, zaB, zas, zat, zaq, zaE, zaG, zau, zar, go_sem, zaa, zae, zaf, zag, zai, zad, ↓reduceIte, reduceCtorEq, zab, zac, zaj, zak, zal, zaP, zaN, zaJ, zaO, renO, bk, back, outUpsFrom, Ints_ren])
 | exact fs_nil trivial rfl
 | fail)
def ldB (T : List Tk) (x : Tk) : Bool := bsF Tk.i T x.p && (decide ((gT T (bsV Tk.i T x.p)).p = x.p) && decide ((gT T (bsV Tk.i T x.p)).u = x.u))
theorem led_spec (l : List Nd) (kl : Option Nat) (n : Int) (T : List Tk) (kt : Option Nat) (h : Int) (x : Tk) (hT : T.length ≤ 1000000) : FnSpec Tryz.prog 55 [hyV l kl n T kt h, .agg (tkc x)] [] (b1 (ldB T x)) [] := by
 have h1 := mindex_spec l kl n T kt h x.p (by omega)
 have hcl := tk_len T
 unfold ldB
 obtain ⟨i, p, g, u⟩ := x
 simp only [tkc] at h1 ⊢
 cases hb : bsF Tk.i T p with
 | false =>
   rw [hb] at h1
   rw [zaQ]
   refine fnspec_of mixed TT_ok TT_cl ⟨fun _ => false, fun _ => [], 0, fun _ => false, fun _ => false⟩ Tryz.func55 rfl (by kernel_rfl) rfl 37 rfl [.tmp 4] rfl ?_
   simp only [go_sem, zaa, zae, zaf, zag, zai, zad, ↓reduceIte, reduceCtorEq, zab, zac, zaj, zak, zal]
   repeat' (first
 | with_reducible refine zaw ?_ ?_
 | (unfold OKC; kernel_rfl)
 | (unfold EDG; kernel_rfl)
 | (apply cl_plain
    case hs => rfl
    case ha => exact yea
    case h => exact yei)
 | ((first | refine s1_id ?_ | refine swp_id ?_ | refine sops_id ?_ | refine s2_id ?_); simp only [zav, zay, zao, zaz, zaB, zas, zat, zaq, zaE, zaG, zau, zar, go_sem, zaa, zae, zaf, zag, zai, zad, ↓reduceIte, reduceCtorEq, zab, zac, zaj, zak, zal, zaP, zaN, zaJ, zaO, renO, bk, back, outUpsFrom, Ints_ren])
 | exact fs_nil trivial rfl
 | fail)
 | true =>
   rw [hb] at h1
   rw [zaK]
   have hlt := (bsF_at Tk.i T p hb).1
   generalize bsV Tk.i T p = m at *
   have q1 := tk_f T m 1 (.sc (.int .i64 0)) hlt (by decide)
   have q1 : (Cs T).getD (m * 4 + 1) (.sc (.int .i64 0)) = int (gT T m).p := q1
   have q3 := tk_f T m 3 (.sc (.int .i64 0)) hlt (by decide)
   have q3 : (Cs T).getD (m * 4 + 3) (.sc (.int .i64 0)) = int (gT T m).u := q3
   generalize gT T m = y at *
   by_cases c : y.p = p
   · rw [decide_eq_true c, zaK]
     refine fnspec_of mixed TT_ok TT_cl ⟨fun _ => false, fun _ => [], 0, fun _ => false, fun _ => false⟩ Tryz.func55 rfl (by kernel_rfl) rfl 37 rfl [.tmp 4] rfl ?_
     simp only [go_sem, zaa, zae, zaf, zag, zai, zad, ↓reduceIte, reduceCtorEq, zab, zac, zaj, zak, zal, q1, q3, decide_eq_true c]
     repeat' (first
 | with_reducible refine zaw ?_ ?_
 | (unfold OKC; kernel_rfl)
 | (unfold EDG; kernel_rfl)
 | (apply cl_plain
    case hs => rfl
    case ha => exact yea
    case h => exact yei)
 | ((first | refine s1_id ?_ | refine swp_id ?_ | refine sops_id ?_ | refine s2_id ?_); simp only [q1, q3, decide_eq_true c, zav, zay, zao, zaz, zaB, zas, zat, zaq, zaE, zaG, zau, zar, go_sem, zaa, zae, zaf, zag, zai, zad, ↓reduceIte, reduceCtorEq, zab, zac, zaj, zak, zal, zaP, zaN, zaJ, zaO, renO, bk, back, outUpsFrom, Ints_ren])
 | exact yeh
 | exact fs_nil trivial rfl
 | fail)
   · rw [decide_eq_false c, zaQ]
     refine fnspec_of mixed TT_ok TT_cl ⟨fun _ => false, fun _ => [], 0, fun _ => false, fun _ => false⟩ Tryz.func55 rfl (by kernel_rfl) rfl 37 rfl [.tmp 4] rfl ?_
     simp only [go_sem, zaa, zae, zaf, zag, zai, zad, ↓reduceIte, reduceCtorEq, zab, zac, zaj, zak, zal, q1, q3, decide_eq_false c]
     repeat' (first
 | with_reducible refine zaw ?_ ?_
 | (unfold OKC; kernel_rfl)
 | (unfold EDG; kernel_rfl)
 | (apply cl_plain
    case hs => rfl
    case ha => exact yea
    case h => exact yei)
 | ((first | refine s1_id ?_ | refine swp_id ?_ | refine sops_id ?_ | refine s2_id ?_); simp only [q1, q3, decide_eq_false c, zav, zay, zao, zaz, zaB, zas, zat, zaq, zaE, zaG, zau, zar, go_sem, zaa, zae, zaf, zag, zai, zad, ↓reduceIte, reduceCtorEq, zab, zac, zaj, zak, zal, zaP, zaN, zaJ, zaO, renO, bk, back, outUpsFrom, Ints_ren])
 | exact yeh
 | exact fs_nil trivial rfl
 | fail)
def stB (l : List Nd) (T : List Tk) (x : Tk) : Bool := !plB l x || !ldB T x
theorem mstrange_spec (l : List Nd) (n : Int) (T : List Tk) (h : Int) (x : Tk) (hl : l.length ≤ 1000000) (hT : T.length ≤ 1000000) : FnSpec Tryz.prog 53 [.agg (tkc x), .one (.gptr (hyc l none n T none h) 0)] [] (b1 (stB l T x)) [] := by
 have h1 := placed_spec l none n T none h x hl
 have h2 := led_spec l none n T none h x hT
 unfold stB
 generalize plB l x = b1' at *
 generalize ldB T x = b2' at *
 obtain ⟨i, p, g, u⟩ := x
 simp only [tkc] at h1 h2 ⊢
 cases b1' with
 | false =>
   refine fnspec_of mixed TT_ok TT_cl ⟨fun _ => false, fun _ => [], 0, fun _ => false, fun _ => false⟩ Tryz.func53 rfl (by kernel_rfl) rfl 14 rfl [.tmp 3] rfl ?_
   simp only [go_sem, zaa, zae, zaf, zag, zai, zad, ↓reduceIte, reduceCtorEq, zab, zac, zaj, zak, zal]
   repeat' (first
 | (apply cl_plain
    case hs => rfl
    case ha => exact yea
    case h => exact yej)
 | ((first | refine s1_id ?_ | refine swp_id ?_ | refine sops_id ?_ | refine s2_id ?_); simp only [zav, zay, zao, zaz, zaB, zas, zat, zaq, zaE, zaG, zau, zar, go_sem, zaa, zae, zaf, zag, zai, zad, ↓reduceIte, reduceCtorEq, zab, zac, zaj, zak, zal, zaP, zaN, zaJ, zaO, renO, bk, back, outUpsFrom, Ints_ren])
 | exact fs_nil trivial rfl
 | fail)
 | true =>
   refine fnspec_of mixed TT_ok TT_cl ⟨fun _ => false, fun _ => [], 0, fun _ => false, fun _ => false⟩ Tryz.func53 rfl (by kernel_rfl) rfl 14 rfl [.tmp 3] rfl ?_
   simp only [go_sem, zaa, zae, zaf, zag, zai, zad, ↓reduceIte, reduceCtorEq, zab, zac, zaj, zak, zal]
   repeat' (first
 | (apply cg_tp
    case hl => rfl
    case ha => exact yea
    case hs => rfl
    case h => exact yej)
 | (apply cl_plain
    case hs => rfl
    case ha => exact yea
    case h => exact yej)
 | ((first | refine s1_id ?_ | refine swp_id ?_ | refine sops_id ?_ | refine s2_id ?_); simp only [zav, zay, zao, zaz, zaB, zas, zat, zaq, zaE, zaG, zau, zar, go_sem, zaa, zae, zaf, zag, zai, zad, ↓reduceIte, reduceCtorEq, zab, zac, zaj, zak, zal, zaP, zaN, zaJ, zaO, renO, bk, back, outUpsFrom, Ints_ren])
 | exact fs_nil trivial rfl
 | fail)
def tasF : List Tk → Int → Bool
  | [], _ => true
  | x :: r, last => decide (last < x.i) && tasF r x.i
def lstI (T : List Tk) : Int := T.foldl (fun _ x => x.i) 0
def hyM (l : List Nd) (n : Int) (T : List Tk) (h : Int) : Bool := chkT l n && (decide (T.length ≤ 128) && (tasF T 0 && (decide (lstI T < h) && (decide (h ≤ 2147483648) && !T.any (stB l T)))))
set_option maxHeartbeats 8000000 in
theorem mcheck_spec (l : List Nd) (n : Int) (T : List Tk) (h : Int) (hl : l.length ≤ 1000000) (hT : T.length ≤ 9223372036854775806) (hnm : NmR l) (hct : CtR l) : FnSpec Tryz.prog 11 [hyV l none n T none h] [] (b1 (hyM l n T h)) [] := by
 have h1 := tchk_spec l n hl hnm hct
 have hcl := tk_len T
 unfold hyM
 cases hc : chkT l n with
 | false =>
   rw [hc] at h1
   rw [zaQ]
   refine fnspec_of mixed TT_ok TT_cl ⟨fun _ => false, fun _ => [], 0, fun _ => false, fun _ => false⟩ Tryz.func11 rfl (by kernel_rfl) rfl 54 rfl [.tmp 2] rfl ?_
   simp only [go_sem, zaa, zae, zaf, zag, zai, zad, ↓reduceIte, reduceCtorEq, zab, zac, zaj, zak, zal]
   repeat' (first
 | (apply cl_plain
    case hs => rfl
    case ha => exact yea
    case h => exact yei)
 | ((first | refine s1_id ?_ | refine swp_id ?_ | refine sops_id ?_ | refine s2_id ?_); simp only [zav, zay, zao, zaz, zaB, zas, zat, zaq, zaE, zaG, zau, zar, go_sem, zaa, zae, zaf, zag, zai, zad, ↓reduceIte, reduceCtorEq, zab, zac, zaj, zak, zal, zaP, zaN, zaJ, zaO, renO, bk, back, outUpsFrom, Ints_ren])
 | exact fs_nil trivial rfl
 | fail)
 | true =>
 rw [hc] at h1
 rw [zaK]
 by_cases c128 : 128 < (T.length : Int)
 · rw [decide_eq_false (by omega : ¬ T.length ≤ 128), zaQ]
   refine fnspec_of mixed TT_ok TT_cl ⟨fun _ => false, fun _ => [], 0, fun _ => false, fun _ => false⟩ Tryz.func11 rfl (by kernel_rfl) rfl 54 rfl [.tmp 2] rfl ?_
   simp only [go_sem, zaa, zae, zaf, zag, zai, zad, ↓reduceIte, reduceCtorEq, zab, zac, zaj, zak, zal, decide_eq_true c128]
   repeat' (first
 | (apply cl_plain
    case hs => rfl
    case ha => exact yea
    case h => exact yei)
 | ((first | refine s1_id ?_ | refine swp_id ?_ | refine sops_id ?_ | refine s2_id ?_); simp only [decide_eq_true c128, zav, zay, zao, zaz, zaB, zas, zat, zaq, zaE, zaG, zau, zar, go_sem, zaa, zae, zaf, zag, zai, zad, ↓reduceIte, reduceCtorEq, zab, zac, zaj, zak, zal, zaP, zaN, zaJ, zaO, renO, bk, back, outUpsFrom, Ints_ren])
 | exact fs_nil trivial rfl
 | fail)
 rw [decide_eq_true (by omega : T.length ≤ 128), zaK]
 have hst := tk_ct 53 (hyc l none n T none h) (stB l T) T (fun x _ => mstrange_spec l n T h x hl (by omega)) none (by omega)
 generalize T.any (stB l T) = sb at *
 obtain ⟨B, hB⟩ : ∃ B, tasF T 0 = B := ⟨_, rfl⟩
 rw [hB]
 obtain ⟨L, hL⟩ : ∃ L, lstI T = L := ⟨_, rfl⟩
 rw [hL]
 refine fnspec_of mixed TT_ok TT_cl ⟨fun _ => false, fun _ => [], 0 , fun _ => false, fun i => if i = 11 then true else false⟩ Tryz.func11 rfl (by kernel_rfl) rfl 54 rfl [.tmp 2] rfl ?_
 simp only [go_sem, zaa, zae, zaf, zag, zai, zad, ↓reduceIte, reduceCtorEq, zab, zac, zaj, zak, zal, decide_eq_false c128]
 repeat' (first
 | (apply cl_plain
    case hs => rfl
    case ha => exact yea
    case h => exact yei)
 | ((first | refine s1_id ?_ | refine swp_id ?_ | refine sops_id ?_ | refine s2_id ?_); simp only [decide_eq_false c128, zav, zay, zao, zaz, zaB, zas, zat, zaq, zaE, zaG, zau, zar, go_sem, zaa, zae, zaf, zag, zai, zad, ↓reduceIte, reduceCtorEq, zab, zac, zaj, zak, zal, zaP, zaN, zaJ, zaO, renO, bk, back, outUpsFrom, Ints_ren])
 | exact yeb | fail)
 refine w_loop (ι := Nat × Int) (fun s => ⟨[(1, .one (.optr 0 0)), (3, i1 s.2), (18, i1 T.length), (19, i1 s.1)], [(0, some ⟨hyc l none n T none h, 4⟩)], 1⟩) (fun s => s.1 ≤ T.length ∧ tasF (T.drop s.1) s.2 = B ∧ (T.drop s.1).foldl (fun _ x => x.i) s.2 = L) (fun s => T.length - s.1) (0, 0) ?_ ⟨zbc _, hB, hL⟩ ?_
 · (refine imp_ren _ _ _ [(0, 0, ⟨hyc l none n T none h, 4⟩)] (by simp) (by simp) (by simp) (zaH rfl) ?_ rfl (by simp only [zan, zap, false_implies, implies_true, and_true, zaW, lookR, zaa, if_true, if_false, ↓reduceIte] <;> (repeat' apply zaw) <;> (first | rfl | trivial)) (by simp only [zan, zap, false_implies, implies_true, and_true, true_and, flat_cons, flat_nil, flat_ints, flat_bools, flat_app, zaV, and_self, eq_self_iff_true, zao]); simp only [zah, zam, zan, zap, false_implies, implies_true, and_true, lk, slot, zaP, zaJ, toN, zaa, if_true, if_false, ↓reduceIte, reduceCtorEq])
   all_goals ((repeat' apply zaw) <;> (first | rfl | trivial))
 clear h1 hB hL
 rintro ⟨m, last⟩ ⟨hm, hI, hJ⟩
 simp only at hm hI hJ ⊢
 rcases Nat.lt_or_ge m T.length with hlt | hge
 case inr =>
   have c : ¬ (m : Int) < (T.length : Int) := by omega
   rw [zaZ hge] at hI hJ
   have hI : true = B := hI
   have hJ : last = L := hJ
   subst hI
   subst hJ
   rw [zaK]
   by_cases c1 : last < h
   case neg =>
     rw [decide_eq_false c1, zaQ]
     simp only [go_sem, zaa, zae, zaf, zag, zai, zad, ↓reduceIte, reduceCtorEq, zab, zac, zaj, zak, zal, decide_eq_false c, decide_eq_false c1]
     repeat' (first
 | exact yeb | fail)
     (refine rgf_t _ (imp_frz _ _ 0 ⟨hyc l none n T none h, 4⟩ (by simp only [zaW, lookR, zaa, if_true, if_false, ↓reduceIte]) (by first | exact Ints_isG _ | exact Bools_isG _ | exact Cs_isG _ | (simp [zbe]; done))) ?_; simp only [frzTm, SV.frz, SV.frzL, zbf, frzHp, frzO, Ints_frz, Bools_frz, zah, zam, zaa, if_true, if_false, ↓reduceIte])
     simp only [go_sem, zaa, zae, zaf, zag, zai, zad, ↓reduceIte, reduceCtorEq, zab, zac, zaj, zak, zal, decide_eq_false c1]
     repeat' (first
 | exact fs_nil trivial rfl
 | fail)
   rw [decide_eq_true c1, zaK]
   by_cases c2 : h ≤ 2147483648
   case neg =>
     rw [decide_eq_false c2, zaQ]
     simp only [go_sem, zaa, zae, zaf, zag, zai, zad, ↓reduceIte, reduceCtorEq, zab, zac, zaj, zak, zal, decide_eq_false c, decide_eq_true c1, decide_eq_false c2]
     repeat' (first
 | exact yeb | fail)
     (refine rgf_t _ (imp_frz _ _ 0 ⟨hyc l none n T none h, 4⟩ (by simp only [zaW, lookR, zaa, if_true, if_false, ↓reduceIte]) (by first | exact Ints_isG _ | exact Bools_isG _ | exact Cs_isG _ | (simp [zbe]; done))) ?_; simp only [frzTm, SV.frz, SV.frzL, zbf, frzHp, frzO, Ints_frz, Bools_frz, zah, zam, zaa, if_true, if_false, ↓reduceIte])
     simp only [go_sem, zaa, zae, zaf, zag, zai, zad, ↓reduceIte, reduceCtorEq, zab, zac, zaj, zak, zal, decide_eq_true c1, decide_eq_false c2]
     repeat' (first
 | exact fs_nil trivial rfl
 | fail)
   rw [decide_eq_true c2, zaK]
   simp only [go_sem, zaa, zae, zaf, zag, zai, zad, ↓reduceIte, reduceCtorEq, zab, zac, zaj, zak, zal, decide_eq_false c, decide_eq_true c1, decide_eq_true c2]
   repeat' (first
 | exact yeb | fail)
   (refine rgf_t _ (imp_frz _ _ 0 ⟨hyc l none n T none h, 4⟩ (by simp only [zaW, lookR, zaa, if_true, if_false, ↓reduceIte]) (by first | exact Ints_isG _ | exact Bools_isG _ | exact Cs_isG _ | (simp [zbe]; done))) ?_; simp only [frzTm, SV.frz, SV.frzL, zbf, frzHp, frzO, Ints_frz, Bools_frz, zah, zam, zaa, if_true, if_false, ↓reduceIte])
   simp only [go_sem, zaa, zae, zaf, zag, zai, zad, ↓reduceIte, reduceCtorEq, zab, zac, zaj, zak, zal, decide_eq_true c1, decide_eq_true c2]
   repeat' (first
 | (apply cg_tp
    case hl => rfl
    case ha => exact yea
    case hs => rfl
    case h => (first | exact hst ..))
 | ((first | refine s1_id ?_ | refine swp_id ?_ | refine sops_id ?_ | refine s2_id ?_); simp only [decide_eq_true c1, decide_eq_true c2, zav, zay, zao, zaz, zaB, zas, zat, zaq, zaE, zaG, zau, zar, go_sem, zaa, zae, zaf, zag, zai, zad, ↓reduceIte, reduceCtorEq, zab, zac, zaj, zak, zal, zaP, zaN, zaJ, zaO, renO, bk, back, outUpsFrom, Ints_ren])
 | exact fs_nil trivial rfl
 | fail)
 have c : (m : Int) < (T.length : Int) := by omega
 have q0 := tk_f T m 0 (.sc (.int .i64 0)) hlt (by decide)
 rw [Nat.add_zero] at q0
 have q0 : (Cs T).getD (m * 4) (.sc (.int .i64 0)) = int (gT T m).i := q0
 rw [drop_getD T m ztk hlt] at hI hJ
 have hI : (decide (last < (gT T m).i) && tasF (T.drop (m + 1)) (gT T m).i) = B := hI
 have hJ : (T.drop (m + 1)).foldl (fun _ x => x.i) (gT T m).i = L := hJ
 generalize (gT T m).i = v at *
 by_cases c1 : v ≤ last
 · rw [decide_eq_false (by omega : ¬ last < v), zaQ] at hI
   rw [← hI, zaQ]
   simp only [go_sem, zaa, zae, zaf, zag, zai, zad, ↓reduceIte, reduceCtorEq, zab, zac, zaj, zak, zal, decide_eq_true c, decide_eq_true c1, q0]
   repeat' (first
 | with_reducible refine zaw ?_ ?_
 | exact yeh
 | exact fs_nil trivial rfl
 | fail)
 rw [decide_eq_true (by omega : last < v), zaK] at hI
 simp only [go_sem, zaa, zae, zaf, zag, zai, zad, ↓reduceIte, reduceCtorEq, zab, zac, zaj, zak, zal, decide_eq_true c, decide_eq_false c1, q0]
 repeat' (first
 | with_reducible refine zaw ?_ ?_
 | exact yeh
 | exact yeb | fail)
 refine le_mk (m + 1, v) ?_ ⟨hlt, hI, hJ⟩ (by show T.length - (m + 1) < T.length - m; omega)
 (refine imp_ren _ _ _ [(0, 0, ⟨hyc l none n T none h, 4⟩)] (by simp) (by simp) (by simp) (zaH rfl) ?_ rfl (by simp only [zan, zap, false_implies, implies_true, and_true, zaW, lookR, zaa, if_true, if_false, ↓reduceIte] <;> (repeat' apply zaw) <;> (first | rfl | trivial)) (by simp only [zan, zap, false_implies, implies_true, and_true, true_and, flat_cons, flat_nil, flat_ints, flat_bools, flat_app, zaV, and_self, eq_self_iff_true, zao]); simp only [zah, zam, zan, zap, false_implies, implies_true, and_true, lk, slot, zaP, zaJ, toN, zaa, if_true, if_false, ↓reduceIte, reduceCtorEq])
 all_goals ((repeat' apply zaw) <;> (first | rfl | trivial | (simp only [zaT]; done) | (simp only [zaT]; rfl) | (simp only [zaT]; trivial)))
def ldrM (T : List Tk) (p : Int) : Tk × Bool := match T.find? (fun y => decide (y.i = p)) with
  | some y => (y, decide (y.p = p))
  | none => (ztk, false)
theorem ldr_drop {T : List Tk} {p : Int} {i : Nat} (h : i < T.length) : (T.drop i).find? (fun y => decide (y.i = p)) = if (gT T i).i = p then some (gT T i) else (T.drop (i + 1)).find? (fun y => decide (y.i = p)) := by
 rw [drop_getD T i ztk h, List.find?_cons]
 show (match decide ((gT T i).i = p) with | true => some (gT T i) | false => _) = _
 by_cases c : (gT T i).i = p
 · rw [decide_eq_true c, if_pos c]
 · rw [decide_eq_false c, if_neg c]
set_option maxHeartbeats 4000000 in
theorem leader_spec (T : List Tk) (kt : Option Nat) (p : Int) (hT : T.length ≤ 9223372036854775806) : FnSpec Tryz.prog 58 [gr T kt, i1 p] [] (.tup [.agg (tkc (ldrM T p).1), b1 (ldrM T p).2]) [] := by
 have hcl := tk_len T
 obtain ⟨Q, hQ⟩ : ∃ Q, T.find? (fun y => decide (y.i = p)) = Q := ⟨_, rfl⟩
 unfold ldrM
 rw [hQ]
 refine fnspec_of mixed TT_ok TT_cl ⟨fun _ => false, fun _ => [], 0, fun _ => false, fun _ => false⟩ Tryz.func58 rfl (by kernel_rfl) rfl 32 rfl [.cell 4 40, .tmp 5] rfl ?_
 simp only [go_sem, zaa, zae, zaf, zag, zai, zad, ↓reduceIte, reduceCtorEq, zab, zac, zaj, zak, zal]
 repeat' (first
 | exact yeb | fail)
 refine w_loop (ι := Nat) (fun m => ⟨[(0, gr T kt), (1, i1 p), (4, .one (.optr 0 0)), (6, i1 m)], [(0, some ⟨[int 0, int 0, int 0, int 0], 4⟩)], 1⟩) (fun m => m ≤ T.length ∧ (T.drop m).find? (fun y => decide (y.i = p)) = Q) (fun m => T.length - m) 0 ?_ ⟨zbc _, hQ⟩ ?_
 · (refine imp_ren _ _ _ [(0, 0, ⟨[int 0, int 0, int 0, int 0], 4⟩)] (by simp) (by simp) (by simp) (zaH rfl) ?_ rfl (by simp only [zan, zap, false_implies, implies_true, and_true, zaW, lookR, zaa, if_true, if_false, ↓reduceIte] <;> (repeat' apply zaw) <;> (first | rfl | trivial)) (by simp only [zan, zap, false_implies, implies_true, and_true, true_and, flat_cons, flat_nil, flat_ints, flat_bools, flat_app, zaV, and_self, eq_self_iff_true, zao]); simp only [zah, zam, zan, zap, false_implies, implies_true, and_true, lk, slot, zaP, zaJ, toN, zaa, if_true, if_false, ↓reduceIte, reduceCtorEq])
   all_goals ((repeat' apply zaw) <;> (first | rfl | trivial))
 clear hQ
 rintro m ⟨hm, hI⟩
 simp only at hm hI ⊢
 rcases Nat.lt_or_ge m T.length with hlt | hge
 case inr =>
   have c : ¬ (m : Int) < (T.length : Int) := by omega
   rw [zaZ hge] at hI
   have hI : none = Q := hI
   subst hI
   simp only [go_sem, zaa, zae, zaf, zag, zai, zad, ↓reduceIte, reduceCtorEq, zab, zac, zaj, zak, zal, decide_eq_false c]
   repeat' (first
 | with_reducible refine zaw ?_ ?_
 | exact yeh
 | (apply fs_nil <;> (try simp only [go_sem, resV, resS, zaP, zaN, zaJ, zba, zaW, idx, renO, zaO, evS, slot, lookR, zaa, ↓reduceIte, reduceCtorEq, if_true, if_false, zaR, zaS, zah, zam, sLoad, readAt, readNeed, Ints_ren, Ints_length, Ints_getD, and_true, true_and, zaL, zaM]) <;> (try rfl))
 | fail)
 have c : (m : Int) < (T.length : Int) := by omega
 have hat := tk_td T m hlt
 have q0 := tk_f T m 0 (.sc (.int .i64 0)) hlt (by decide)
 rw [Nat.add_zero] at q0
 have q0 : (Cs T).getD (m * 4) (.sc (.int .i64 0)) = int (gT T m).i := q0
 have q1 := tk_f T m 1 (.sc (.int .i64 0)) hlt (by decide)
 have q1 : (Cs T).getD (m * 4 + 1) (.sc (.int .i64 0)) = int (gT T m).p := q1
 rw [ldr_drop hlt] at hI
 generalize gT T m = x at *
 obtain ⟨xi, xp, xg, xu⟩ := x
 simp only [tkc] at hat hI q0 q1
 by_cases c1 : xi = p
 · rw [if_pos c1] at hI
   subst hI
   simp only [go_sem, zaa, zae, zaf, zag, zai, zad, ↓reduceIte, reduceCtorEq, zab, zac, zaj, zak, zal, decide_eq_true c, decide_eq_true c1, q0, q1, hat]
   repeat' (first
 | with_reducible refine zaw ?_ ?_
 | (unfold OKC; kernel_rfl)
 | (unfold EDG; kernel_rfl)
 | exact yeh
 | (apply fs_nil <;> (try simp only [go_sem, resV, resS, zaP, zaN, zaJ, zba, zaW, idx, renO, zaO, evS, slot, lookR, zaa, ↓reduceIte, reduceCtorEq, if_true, if_false, zaR, zaS, zah, zam, sLoad, readAt, readNeed, Ints_ren, Ints_length, Ints_getD, and_true, true_and, zaL, zaM]) <;> (try rfl))
 | fail)
 · rw [if_neg c1] at hI
   simp only [go_sem, zaa, zae, zaf, zag, zai, zad, ↓reduceIte, reduceCtorEq, zab, zac, zaj, zak, zal, decide_eq_true c, decide_eq_false c1, q0]
   repeat' (first
 | with_reducible refine zaw ?_ ?_
 | exact yeh
 | exact yeb | fail)
   refine le_mk (m + 1) ?_ ⟨hlt, hI⟩ (by omega)
   (refine imp_ren _ _ _ [(0, 0, ⟨[int 0, int 0, int 0, int 0], 4⟩)] (by simp) (by simp) (by simp) (zaH rfl) ?_ rfl (by simp only [zan, zap, false_implies, implies_true, and_true, zaW, lookR, zaa, if_true, if_false, ↓reduceIte] <;> (repeat' apply zaw) <;> (first | rfl | trivial)) (by simp only [zan, zap, false_implies, implies_true, and_true, true_and, flat_cons, flat_nil, flat_ints, flat_bools, flat_app, zaV, and_self, eq_self_iff_true, zao]); simp only [zah, zam, zan, zap, false_implies, implies_true, and_true, lk, slot, zaP, zaJ, toN, zaa, if_true, if_false, ↓reduceIte, reduceCtorEq])
   all_goals ((repeat' apply zaw) <;> (first | rfl | trivial | (simp only [zaT]; done) | (simp only [zaT]; rfl) | (simp only [zaT]; trivial)))
theorem has_bs6 {l : List Nd} {n : Int} (h : chkT l n = true) (id : Int) : hasM l n id = bsF Nd.i l id := by
 have hV := (chkT_iff l n).1 h
 rw [bs_any Nd.i l (fun i j hij hj => hV.asc i j hij hj) id]
 unfold hasM
 rw [h, zaK]
def okR (l : List Nd) (T : List Tk) (x : Tk) : Bool := bsF Nd.i l x.g && (decide (0 ≤ x.u) && (decide (x.u ≤ 1048576) && ((ldrM T x.p).2 && decide ((ldrM T x.p).1.u = x.u))))
def rcF (l : List Nd) (T : List Tk) : List Tk → Int → Bool
  | [], _ => true
  | x :: r, last => decide (last < x.i) && (okR l T x && rcF l T r x.i)
def hyR (l : List Nd) (n : Int) (T : List Tk) (h : Int) : Bool := chkT l n && (decide (T.length ≤ 128) && (decide (1 ≤ h) && (decide (h ≤ 2147483648) && ((decide (T.length = 0) || decide ((gT T (T.length - 1)).i < h)) && rcF l T T 0))))
set_option maxHeartbeats 16000000 in
theorem rcheck6_spec (l : List Nd) (n : Int) (T : List Tk) (h : Int) (hl : l.length ≤ 1000000) (hT : T.length ≤ 9223372036854775806) (hnm : NmR l) : FnSpec Tryz.prog 12 [hyV l none n T none h] [] (b1 (hyR l n T h)) [] := by
 have h1 := trcheck_spec l none n hl hnm
 have hcl := tk_len T
 unfold hyR
 cases hc : chkT l n with
 | false =>
   rw [hc] at h1
   rw [zaQ]
   refine fnspec_of mixed TT_ok TT_cl ⟨fun _ => false, fun _ => [], 0, fun _ => false, fun _ => false⟩ Tryz.func12 rfl (by kernel_rfl) rfl 111 rfl [.tmp 2] rfl ?_
   simp only [go_sem, zaa, zae, zaf, zag, zai, zad, ↓reduceIte, reduceCtorEq, zab, zac, zaj, zak, zal]
   repeat' (first
 | with_reducible refine zaw ?_ ?_
 | (unfold OKC; kernel_rfl)
 | (unfold EDG; kernel_rfl)
 | (apply cl_plain
    case hs => rfl
    case ha => exact yea
    case h => exact yei)
 | ((first | refine s1_id ?_ | refine swp_id ?_ | refine sops_id ?_ | refine s2_id ?_); simp only [zav, zay, zao, zaz, zaB, zas, zat, zaq, zaE, zaG, zau, zar, go_sem, zaa, zae, zaf, zag, zai, zad, ↓reduceIte, reduceCtorEq, zab, zac, zaj, zak, zal, zaP, zaN, zaJ, zaO, renO, bk, back, outUpsFrom, Ints_ren])
 | exact fs_nil trivial rfl
 | fail)
 | true =>
 rw [hc] at h1
 rw [zaK]
 by_cases c128 : 128 < (T.length : Int)
 · rw [decide_eq_false (by omega : ¬ T.length ≤ 128), zaQ]
   refine fnspec_of mixed TT_ok TT_cl ⟨fun _ => false, fun _ => [], 0, fun _ => false, fun _ => false⟩ Tryz.func12 rfl (by kernel_rfl) rfl 111 rfl [.tmp 2] rfl ?_
   simp only [go_sem, zaa, zae, zaf, zag, zai, zad, ↓reduceIte, reduceCtorEq, zab, zac, zaj, zak, zal, decide_eq_true c128]
   repeat' (first
 | with_reducible refine zaw ?_ ?_
 | (unfold OKC; kernel_rfl)
 | (unfold EDG; kernel_rfl)
 | (apply cl_plain
    case hs => rfl
    case ha => exact yea
    case h => exact yei)
 | ((first | refine s1_id ?_ | refine swp_id ?_ | refine sops_id ?_ | refine s2_id ?_); simp only [decide_eq_true c128, zav, zay, zao, zaz, zaB, zas, zat, zaq, zaE, zaG, zau, zar, go_sem, zaa, zae, zaf, zag, zai, zad, ↓reduceIte, reduceCtorEq, zab, zac, zaj, zak, zal, zaP, zaN, zaJ, zaO, renO, bk, back, outUpsFrom, Ints_ren])
 | exact fs_nil trivial rfl
 | fail)
 rw [decide_eq_true (by omega : T.length ≤ 128), zaK]
 by_cases ch : h < 1
 · rw [decide_eq_false (by omega : ¬ 1 ≤ h), zaQ]
   refine fnspec_of mixed TT_ok TT_cl ⟨fun _ => false, fun _ => [], 0, fun _ => false, fun _ => false⟩ Tryz.func12 rfl (by kernel_rfl) rfl 111 rfl [.tmp 2] rfl ?_
   simp only [go_sem, zaa, zae, zaf, zag, zai, zad, ↓reduceIte, reduceCtorEq, zab, zac, zaj, zak, zal, decide_eq_false c128, decide_eq_true ch]
   repeat' (first
 | with_reducible refine zaw ?_ ?_
 | (unfold OKC; kernel_rfl)
 | (unfold EDG; kernel_rfl)
 | (apply cl_plain
    case hs => rfl
    case ha => exact yea
    case h => exact yei)
 | ((first | refine s1_id ?_ | refine swp_id ?_ | refine sops_id ?_ | refine s2_id ?_); simp only [decide_eq_false c128, decide_eq_true ch, zav, zay, zao, zaz, zaB, zas, zat, zaq, zaE, zaG, zau, zar, go_sem, zaa, zae, zaf, zag, zai, zad, ↓reduceIte, reduceCtorEq, zab, zac, zaj, zak, zal, zaP, zaN, zaJ, zaO, renO, bk, back, outUpsFrom, Ints_ren])
 | exact fs_nil trivial rfl
 | fail)
 rw [decide_eq_true (by omega : 1 ≤ h), zaK]
 by_cases cm : 2147483648 < h
 · rw [decide_eq_false (by omega : ¬ h ≤ 2147483648), zaQ]
   refine fnspec_of mixed TT_ok TT_cl ⟨fun _ => false, fun _ => [], 0, fun _ => false, fun _ => false⟩ Tryz.func12 rfl (by kernel_rfl) rfl 111 rfl [.tmp 2] rfl ?_
   simp only [go_sem, zaa, zae, zaf, zag, zai, zad, ↓reduceIte, reduceCtorEq, zab, zac, zaj, zak, zal, decide_eq_false c128, decide_eq_false ch, decide_eq_true cm]
   repeat' (first
 | with_reducible refine zaw ?_ ?_
 | (unfold OKC; kernel_rfl)
 | (unfold EDG; kernel_rfl)
 | (apply cl_plain
    case hs => rfl
    case ha => exact yea
    case h => exact yei)
 | ((first | refine s1_id ?_ | refine swp_id ?_ | refine sops_id ?_ | refine s2_id ?_); simp only [decide_eq_false c128, decide_eq_false ch, decide_eq_true cm, zav, zay, zao, zaz, zaB, zas, zat, zaq, zaE, zaG, zau, zar, go_sem, zaa, zae, zaf, zag, zai, zad, ↓reduceIte, reduceCtorEq, zab, zac, zaj, zak, zal, zaP, zaN, zaJ, zaO, renO, bk, back, outUpsFrom, Ints_ren])
 | exact fs_nil trivial rfl
 | fail)
 rw [decide_eq_true (by omega : h ≤ 2147483648), zaK]
 by_cases cz : 0 < (T.length : Int)
 case neg =>
   have e : T = [] := List.length_eq_zero_iff.1 (by omega)
   subst e
   have cz : ¬ (0 : Int) < (([] : List Tk).length : Int) := cz
   refine fnspec_of mixed TT_ok TT_cl ⟨fun _ => false, fun _ => [], 0, fun _ => false, fun _ => false⟩ Tryz.func12 rfl (by kernel_rfl) rfl 111 rfl [.tmp 2] rfl ?_
   simp only [go_sem, zaa, zae, zaf, zag, zai, zad, ↓reduceIte, reduceCtorEq, zab, zac, zaj, zak, zal, decide_eq_false c128, decide_eq_false ch, decide_eq_false cm, decide_eq_false cz]
   repeat' (first
 | with_reducible refine zaw ?_ ?_
 | (unfold OKC; kernel_rfl)
 | (unfold EDG; kernel_rfl)
 | (apply cl_plain
    case hs => rfl
    case ha => exact yea
    case h => exact yei)
 | ((first | refine s1_id ?_ | refine swp_id ?_ | refine sops_id ?_ | refine s2_id ?_); simp only [decide_eq_false c128, decide_eq_false ch, decide_eq_false cm, decide_eq_false cz, zav, zay, zao, zaz, zaB, zas, zat, zaq, zaE, zaG, zau, zar, go_sem, zaa, zae, zaf, zag, zai, zad, ↓reduceIte, reduceCtorEq, zab, zac, zaj, zak, zal, zaP, zaN, zaJ, zaO, renO, bk, back, outUpsFrom, Ints_ren])
 | exact yeb | fail)
   refine w_loop (ι := Nat) (fun s => ⟨[(1, .one (.optr 0 0)), (3, i1 (([] : List Tk).length : Int)), (4, i1 s)], [(0, some ⟨hyc l none n [] none h, 4⟩)], 1⟩) (fun s => s = 0) (fun s => 0 - s) 0 ?_ rfl ?_
   · (refine imp_ren _ _ _ [(0, 0, ⟨hyc l none n [] none h, 4⟩)] (by simp) (by simp) (by simp) (zaH rfl) ?_ rfl (by simp only [zan, zap, false_implies, implies_true, and_true, zaW, lookR, zaa, if_true, if_false, ↓reduceIte] <;> (repeat' apply zaw) <;> (first | rfl | trivial)) (by simp only [zan, zap, false_implies, implies_true, and_true, true_and, flat_cons, flat_nil, flat_ints, flat_bools, flat_app, zaV, and_self, eq_self_iff_true, zao]); simp only [zah, zam, zan, zap, false_implies, implies_true, and_true, lk, slot, zaP, zaJ, toN, zaa, if_true, if_false, ↓reduceIte, reduceCtorEq])
     all_goals ((repeat' apply zaw) <;> (first | rfl | trivial))
   intro i hi
   have c : ¬ (i : Int) < (([] : List Tk).length : Int) := by show ¬ (i : Int) < 0; omega
   simp only [go_sem, zaa, zae, zaf, zag, zai, zad, ↓reduceIte, reduceCtorEq, zab, zac, zaj, zak, zal, decide_eq_false c]
   repeat' (first
 | with_reducible refine zaw ?_ ?_
 | (refine gt_if (fun h => ?_) (fun h => ?_) <;> (try simp only [h]))
 | ((first | refine s1_id ?_ | refine swp_id ?_ | refine sops_id ?_ | refine s2_id ?_); simp only [decide_eq_false c, zav, zay, zao, zaz, zaB, zas, zat, zaq, zaE, zaG, zau, zar, go_sem, zaa, zae, zaf, zag, zai, zad, ↓reduceIte, reduceCtorEq, zab, zac, zaj, zak, zal, zaP, zaN, zaJ, zaO, renO, bk, back, outUpsFrom, Ints_ren])
 | exact yeh
 | exact yeb
 | exact fs_nil trivial rfl
 | fail)
 obtain ⟨z, hz⟩ : ∃ z : Nat, T.length = z + 1 := ⟨T.length - 1, by omega⟩
 have hz1 : ((T.length : Nat) : Int) - 1 = (z : Int) := by omega
 have qz := tk_f T z 0 (.sc (.int .i64 0)) (by omega) (by decide)
 rw [Nat.add_zero] at qz
 have qz : (Cs T).getD (z * 4) (.sc (.int .i64 0)) = int (gT T z).i := qz
 rw [show T.length - 1 = z from by omega, decide_eq_false (by omega : ¬ T.length = 0), Bool.false_or]
 by_cases cn : h ≤ (gT T z).i
 · rw [decide_eq_false (by omega : ¬ (gT T z).i < h), zaQ]
   refine fnspec_of mixed TT_ok TT_cl ⟨fun _ => false, fun _ => [], 0, fun _ => false, fun _ => false⟩ Tryz.func12 rfl (by kernel_rfl) rfl 111 rfl [.tmp 2] rfl ?_
   simp only [go_sem, zaa, zae, zaf, zag, zai, zad, ↓reduceIte, reduceCtorEq, zab, zac, zaj, zak, zal, decide_eq_false c128, decide_eq_false ch, decide_eq_false cm, decide_eq_true cz, hz1, qz, decide_eq_true cn]
   repeat' (first
 | with_reducible refine zaw ?_ ?_
 | (unfold OKC; kernel_rfl)
 | (unfold EDG; kernel_rfl)
 | (apply cl_plain
    case hs => rfl
    case ha => exact yea
    case h => exact yei)
 | ((first | refine s1_id ?_ | refine swp_id ?_ | refine sops_id ?_ | refine s2_id ?_); simp only [decide_eq_false c128, decide_eq_false ch, decide_eq_false cm, decide_eq_true cz, hz1, qz, decide_eq_true cn, zav, zay, zao, zaz, zaB, zas, zat, zaq, zaE, zaG, zau, zar, go_sem, zaa, zae, zaf, zag, zai, zad, ↓reduceIte, reduceCtorEq, zab, zac, zaj, zak, zal, zaP, zaN, zaJ, zaO, renO, bk, back, outUpsFrom, Ints_ren])
 | exact yeh
 | exact fs_nil trivial rfl
 | fail)
 rw [decide_eq_true (by omega : (gT T z).i < h), zaK]
 have hls := fun p => leader_spec T none p hT
 obtain ⟨B, hB⟩ : ∃ B, rcF l T T 0 = B := ⟨_, rfl⟩
 rw [hB]
 refine fnspec_of mixed TT_ok TT_cl ⟨fun _ => false, fun _ => [], 0, fun _ => false, fun _ => false⟩ Tryz.func12 rfl (by kernel_rfl) rfl 111 rfl [.tmp 2] rfl ?_
 simp only [go_sem, zaa, zae, zaf, zag, zai, zad, ↓reduceIte, reduceCtorEq, zab, zac, zaj, zak, zal, decide_eq_false c128, decide_eq_false ch, decide_eq_false cm, decide_eq_true cz, hz1, qz, decide_eq_false cn]
 repeat' (first
 | with_reducible refine zaw ?_ ?_
 | (unfold OKC; kernel_rfl)
 | (unfold EDG; kernel_rfl)
 | (apply cl_plain
    case hs => rfl
    case ha => exact yea
    case h => exact yei)
 | ((first | refine s1_id ?_ | refine swp_id ?_ | refine sops_id ?_ | refine s2_id ?_); simp only [decide_eq_false c128, decide_eq_false ch, decide_eq_false cm, decide_eq_true cz, hz1, qz, decide_eq_false cn, zav, zay, zao, zaz, zaB, zas, zat, zaq, zaE, zaG, zau, zar, go_sem, zaa, zae, zaf, zag, zai, zad, ↓reduceIte, reduceCtorEq, zab, zac, zaj, zak, zal, zaP, zaN, zaJ, zaO, renO, bk, back, outUpsFrom, Ints_ren])
 | exact yeh
 | exact yeb | fail)
 refine w_loop (ι := Nat × Int) (fun s => ⟨[(1, .one (.optr 0 0)), (3, i1 T.length), (4, i1 s.1)], [(0, some ⟨hyc l none n T none h, 4⟩)], 1⟩) (fun s => s.1 ≤ T.length ∧ (s.1 = 0 → s.2 = 0) ∧ (s.1 ≠ 0 → s.2 = (gT T (s.1 - 1)).i ∧ 1 ≤ s.2) ∧ rcF l T (T.drop s.1) s.2 = B) (fun s => T.length - s.1) (0, 0) ?_ ⟨zbc _, fun _ => rfl, fun h => absurd rfl h, hB⟩ ?_
 · (refine imp_ren _ _ _ [(0, 0, ⟨hyc l none n T none h, 4⟩)] (by simp) (by simp) (by simp) (zaH rfl) ?_ rfl (by simp only [zan, zap, false_implies, implies_true, and_true, zaW, lookR, zaa, if_true, if_false, ↓reduceIte] <;> (repeat' apply zaw) <;> (first | rfl | trivial)) (by simp only [zan, zap, false_implies, implies_true, and_true, true_and, flat_cons, flat_nil, flat_ints, flat_bools, flat_app, zaV, and_self, eq_self_iff_true, zao]); simp only [zah, zam, zan, zap, false_implies, implies_true, and_true, lk, slot, zaP, zaJ, toN, zaa, if_true, if_false, ↓reduceIte, reduceCtorEq])
   all_goals ((repeat' apply zaw) <;> (first | rfl | trivial))
 clear h1 hB qz cn hz1 hz
 rintro ⟨m, last⟩ ⟨hm, hz, hnz, hI⟩
 simp only at hm hz hnz hI ⊢
 rcases Nat.lt_or_ge m T.length with hlt | hge
 case inr =>
   have c : ¬ (m : Int) < (T.length : Int) := by omega
   rw [zaZ hge, rcF] at hI
   rw [← hI]
   simp only [go_sem, zaa, zae, zaf, zag, zai, zad, ↓reduceIte, reduceCtorEq, zab, zac, zaj, zak, zal, decide_eq_false c]
   repeat' (first
 | exact fs_nil trivial rfl
 | fail)
 have c : (m : Int) < (T.length : Int) := by omega
 have hat := tk_td T m hlt
 rw [drop_getD T m ztk hlt, rcF] at hI
 have k1 := rhas_spec l none n (gT T m).g hl hnm
 rw [has_bs6 hc] at k1
 have k2 := hls (gT T m).p
 unfold okR at hI
 have hI : (decide (last < (gT T m).i) && ((bsF Nd.i l (gT T m).g && (decide (0 ≤ (gT T m).u) && (decide ((gT T m).u ≤ 1048576) && ((ldrM T (gT T m).p).2 && decide ((ldrM T (gT T m).p).1.u = (gT T m).u))))) && rcF l T (T.drop (m + 1)) (gT T m).i)) = B := hI
 have hgx : gT T (m + 1 - 1) = gT T m := rfl
 generalize ldrM T (gT T m).p = ldq at *
 generalize bsF Nd.i l (gT T m).g = kb at *
 generalize gT T m = x at *
 obtain ⟨xi, xp, xg, xu⟩ := x
 obtain ⟨⟨yi, yp, yg, yu⟩, ok⟩ := ldq
 simp only [tkc] at hat k1 k2 hI
 by_cases cp : xi < 1
 · have hl0 : ¬ last < xi := by
     by_cases h0 : m = 0
     · have := hz h0; omega
     · have := (hnz h0).2; omega
   rw [decide_eq_false hl0, zaQ] at hI
   rw [← hI]
   simp only [go_sem, zaa, zae, zaf, zag, zai, zad, ↓reduceIte, reduceCtorEq, zab, zac, zaj, zak, zal, decide_eq_true c, hat, decide_eq_true cp]
   repeat' (first
 | with_reducible refine zaw ?_ ?_
 | (unfold OKC; kernel_rfl)
 | (unfold EDG; kernel_rfl)
 | (apply cl_plain
    case hs => rfl
    case ha => exact yea
    case h => exact yee)
 | ((first | refine s1_id ?_ | refine swp_id ?_ | refine sops_id ?_ | refine s2_id ?_); simp only [decide_eq_true c, hat, decide_eq_true cp, zav, zay, zao, zaz, zaB, zas, zat, zaq, zaE, zaG, zau, zar, go_sem, zaa, zae, zaf, zag, zai, zad, ↓reduceIte, reduceCtorEq, zab, zac, zaj, zak, zal, zaP, zaN, zaJ, zaO, renO, bk, back, outUpsFrom, Ints_ren])
 | exact yeh
 | exact fs_nil trivial rfl
 | fail)
 rcases Nat.eq_zero_or_pos m with h0 | hpos
 · have hl0 := hz h0
   subst hl0
   have c0 : ¬ (0 : Int) < (m : Int) := by omega
   rw [decide_eq_true (by omega : 0 < xi), zaK] at hI
   cases kb with
   | false =>
     simp only [zaQ] at hI
     rw [← hI]
     simp only [go_sem, zaa, zae, zaf, zag, zai, zad, ↓reduceIte, reduceCtorEq, zab, zac, zaj, zak, zal, decide_eq_true c, decide_eq_false c0, hat, decide_eq_false cp]
     repeat' (first
 | with_reducible refine zaw ?_ ?_
 | (unfold OKC; kernel_rfl)
 | (unfold EDG; kernel_rfl)
 | (apply cg_tp
    case hl => rfl
    case ha => exact yea
    case hs => rfl
    case h => exact yee)
 | (apply cl_plain
    case hs => rfl
    case ha => exact yea
    case h => exact yee)
 | ((first | refine s1_id ?_ | refine swp_id ?_ | refine sops_id ?_ | refine s2_id ?_); simp only [decide_eq_true c, decide_eq_false c0, hat, decide_eq_false cp, ge_iff_le, zav, zay, zao, zaz, zaB, zas, zat, zaq, zaE, zaG, zau, zar, go_sem, zaa, zae, zaf, zag, zai, zad, ↓reduceIte, reduceCtorEq, zab, zac, zaj, zak, zal, zaP, zaN, zaJ, zaO, renO, bk, back, outUpsFrom, Ints_ren])
 | exact yeh
 | exact fs_nil trivial rfl
 | fail)
   | true =>
   rw [zaK] at hI
   by_cases cu : xu < 0
   · rw [decide_eq_false (by omega : ¬ 0 ≤ xu)] at hI
     simp only [zaQ] at hI
     rw [← hI]
     simp only [go_sem, zaa, zae, zaf, zag, zai, zad, ↓reduceIte, reduceCtorEq, zab, zac, zaj, zak, zal, decide_eq_true c, decide_eq_false c0, hat, decide_eq_false cp, decide_eq_true cu]
     repeat' (first
 | with_reducible refine zaw ?_ ?_
 | (unfold OKC; kernel_rfl)
 | (unfold EDG; kernel_rfl)
 | (apply cg_tp
    case hl => rfl
    case ha => exact yea
    case hs => rfl
    case h => exact yee)
 | (apply cl_plain
    case hs => rfl
    case ha => exact yea
    case h => exact yee)
 | ((first | refine s1_id ?_ | refine swp_id ?_ | refine sops_id ?_ | refine s2_id ?_); simp only [decide_eq_true c, decide_eq_false c0, hat, decide_eq_false cp, decide_eq_true cu, ge_iff_le, zav, zay, zao, zaz, zaB, zas, zat, zaq, zaE, zaG, zau, zar, go_sem, zaa, zae, zaf, zag, zai, zad, ↓reduceIte, reduceCtorEq, zab, zac, zaj, zak, zal, zaP, zaN, zaJ, zaO, renO, bk, back, outUpsFrom, Ints_ren])
 | exact yeh
 | exact fs_nil trivial rfl
 | fail)
   rw [decide_eq_true (by omega : 0 ≤ xu), zaK] at hI
   by_cases cv : 1048576 < xu
   · rw [decide_eq_false (by omega : ¬ xu ≤ 1048576)] at hI
     simp only [zaQ] at hI
     rw [← hI]
     simp only [go_sem, zaa, zae, zaf, zag, zai, zad, ↓reduceIte, reduceCtorEq, zab, zac, zaj, zak, zal, decide_eq_true c, decide_eq_false c0, hat, decide_eq_false cp, decide_eq_false cu, decide_eq_true cv]
     repeat' (first
 | with_reducible refine zaw ?_ ?_
 | (unfold OKC; kernel_rfl)
 | (unfold EDG; kernel_rfl)
 | (apply cg_tp
    case hl => rfl
    case ha => exact yea
    case hs => rfl
    case h => exact yee)
 | (apply cl_plain
    case hs => rfl
    case ha => exact yea
    case h => exact yee)
 | ((first | refine s1_id ?_ | refine swp_id ?_ | refine sops_id ?_ | refine s2_id ?_); simp only [decide_eq_true c, decide_eq_false c0, hat, decide_eq_false cp, decide_eq_false cu, decide_eq_true cv, ge_iff_le, zav, zay, zao, zaz, zaB, zas, zat, zaq, zaE, zaG, zau, zar, go_sem, zaa, zae, zaf, zag, zai, zad, ↓reduceIte, reduceCtorEq, zab, zac, zaj, zak, zal, zaP, zaN, zaJ, zaO, renO, bk, back, outUpsFrom, Ints_ren])
 | exact yeh
 | exact fs_nil trivial rfl
 | fail)
   rw [decide_eq_true (by omega : xu ≤ 1048576), zaK] at hI
   cases ok with
   | false =>
     simp only [zaQ] at hI
     rw [← hI]
     simp only [go_sem, zaa, zae, zaf, zag, zai, zad, ↓reduceIte, reduceCtorEq, zab, zac, zaj, zak, zal, decide_eq_true c, decide_eq_false c0, hat, decide_eq_false cp, decide_eq_false cu, decide_eq_false cv]
     repeat' (first
 | with_reducible refine zaw ?_ ?_
 | (unfold OKC; kernel_rfl)
 | (unfold EDG; kernel_rfl)
 | (apply cg_tp
    case hl => rfl
    case ha => exact yea
    case hs => rfl
    case h => exact yee)
 | (apply cl_plain
    case hs => rfl
    case ha => exact yea
    case h => exact yee)
 | ((first | refine s1_id ?_ | refine swp_id ?_ | refine sops_id ?_ | refine s2_id ?_); simp only [decide_eq_true c, decide_eq_false c0, hat, decide_eq_false cp, decide_eq_false cu, decide_eq_false cv, ge_iff_le, zav, zay, zao, zaz, zaB, zas, zat, zaq, zaE, zaG, zau, zar, go_sem, zaa, zae, zaf, zag, zai, zad, ↓reduceIte, reduceCtorEq, zab, zac, zaj, zak, zal, zaP, zaN, zaJ, zaO, renO, bk, back, outUpsFrom, Ints_ren])
 | exact yeh
 | exact fs_nil trivial rfl
 | fail)
   | true =>
   rw [zaK] at hI
   by_cases cw : yu = xu
   case neg =>
     rw [decide_eq_false cw, zaQ] at hI
     rw [← hI]
     simp only [go_sem, zaa, zae, zaf, zag, zai, zad, ↓reduceIte, reduceCtorEq, zab, zac, zaj, zak, zal, decide_eq_true c, decide_eq_false c0, hat, decide_eq_false cp, decide_eq_false cu, decide_eq_false cv, decide_eq_false cw]
     repeat' (first
 | with_reducible refine zaw ?_ ?_
 | (unfold OKC; kernel_rfl)
 | (unfold EDG; kernel_rfl)
 | (apply cg_tp
    case hl => rfl
    case ha => exact yea
    case hs => rfl
    case h => exact yee)
 | (apply cl_plain
    case hs => rfl
    case ha => exact yea
    case h => exact yee)
 | ((first | refine s1_id ?_ | refine swp_id ?_ | refine sops_id ?_ | refine s2_id ?_); simp only [decide_eq_true c, decide_eq_false c0, hat, decide_eq_false cp, decide_eq_false cu, decide_eq_false cv, decide_eq_false cw, ge_iff_le, zav, zay, zao, zaz, zaB, zas, zat, zaq, zaE, zaG, zau, zar, go_sem, zaa, zae, zaf, zag, zai, zad, ↓reduceIte, reduceCtorEq, zab, zac, zaj, zak, zal, zaP, zaN, zaJ, zaO, renO, bk, back, outUpsFrom, Ints_ren])
 | exact yeh
 | exact fs_nil trivial rfl
 | fail)
   rw [decide_eq_true cw, zaK] at hI
   simp only [go_sem, zaa, zae, zaf, zag, zai, zad, ↓reduceIte, reduceCtorEq, zab, zac, zaj, zak, zal, decide_eq_true c, decide_eq_false c0, hat, decide_eq_false cp, decide_eq_false cu, decide_eq_false cv, decide_eq_true cw]
   repeat' (first
 | with_reducible refine zaw ?_ ?_
 | (unfold OKC; kernel_rfl)
 | (unfold EDG; kernel_rfl)
 | (apply cg_tp
    case hl => rfl
    case ha => exact yea
    case hs => rfl
    case h => exact yee)
 | (apply cl_plain
    case hs => rfl
    case ha => exact yea
    case h => exact yee)
 | ((first | refine s1_id ?_ | refine swp_id ?_ | refine sops_id ?_ | refine s2_id ?_); simp only [decide_eq_true c, decide_eq_false c0, hat, decide_eq_false cp, decide_eq_false cu, decide_eq_false cv, decide_eq_true cw, ge_iff_le, zav, zay, zao, zaz, zaB, zas, zat, zaq, zaE, zaG, zau, zar, go_sem, zaa, zae, zaf, zag, zai, zad, ↓reduceIte, reduceCtorEq, zab, zac, zaj, zak, zal, zaP, zaN, zaJ, zaO, renO, bk, back, outUpsFrom, Ints_ren])
 | exact yeh
 | exact yeb | fail)
   refine le_mk (m + 1, xi) ?_ ⟨hlt, fun h => absurd h (Nat.succ_ne_zero _), fun _ => ⟨by simp only [hgx], by show 1 ≤ xi; omega⟩, hI⟩ (by show T.length - (m + 1) < T.length - (m); omega)
   (refine imp_ren _ _ _ [(0, 0, ⟨hyc l none n T none h, 4⟩)] (by simp) (by simp) (by simp) (zaH rfl) ?_ rfl (by simp only [zan, zap, false_implies, implies_true, and_true, zaW, lookR, zaa, if_true, if_false, ↓reduceIte] <;> (repeat' apply zaw) <;> (first | rfl | trivial)) (by simp only [zan, zap, false_implies, implies_true, and_true, true_and, flat_cons, flat_nil, flat_ints, flat_bools, flat_app, zaV, and_self, eq_self_iff_true, zao]); simp only [zah, zam, zan, zap, false_implies, implies_true, and_true, lk, slot, zaP, zaJ, toN, zaa, if_true, if_false, ↓reduceIte, reduceCtorEq])
   all_goals ((repeat' apply zaw) <;> (first | rfl | trivial | (simp only [zaT]; done) | (simp only [zaT]; rfl) | (simp only [zaT]; trivial)))
 obtain ⟨m, rfl⟩ : ∃ m', m = m' + 1 := ⟨m - 1, by omega⟩
 obtain ⟨e1, e2⟩ := hnz (Nat.succ_ne_zero m)
 have e1 : last = (gT T m).i := e1
 have q9 := tk_f T m 0 (.sc (.int .i64 0)) (by omega) (by decide)
 rw [Nat.add_zero] at q9
 have q9 : (Cs T).getD (m * 4) (.sc (.int .i64 0)) = int (gT T m).i := q9
 rw [← e1] at q9
 have hm1 : ((m + 1 : Nat) : Int) - 1 = (m : Int) := by omega
 have c0 : (0 : Int) < ((m + 1 : Nat) : Int) := by omega
 by_cases cl : xi ≤ last
 · rw [decide_eq_false (by omega : ¬ last < xi), zaQ] at hI
   rw [← hI]
   simp only [go_sem, zaa, zae, zaf, zag, zai, zad, ↓reduceIte, reduceCtorEq, zab, zac, zaj, zak, zal, decide_eq_true c, decide_eq_true c0, hat, q9, hm1, decide_eq_false cp, decide_eq_true cl]
   repeat' (first
 | with_reducible refine zaw ?_ ?_
 | (unfold OKC; kernel_rfl)
 | (unfold EDG; kernel_rfl)
 | (apply cl_plain
    case hs => rfl
    case ha => exact yea
    case h => exact yee)
 | ((first | refine s1_id ?_ | refine swp_id ?_ | refine sops_id ?_ | refine s2_id ?_); simp only [decide_eq_true c, decide_eq_true c0, hat, q9, hm1, decide_eq_false cp, decide_eq_true cl, ge_iff_le, zav, zay, zao, zaz, zaB, zas, zat, zaq, zaE, zaG, zau, zar, go_sem, zaa, zae, zaf, zag, zai, zad, ↓reduceIte, reduceCtorEq, zab, zac, zaj, zak, zal, zaP, zaN, zaJ, zaO, renO, bk, back, outUpsFrom, Ints_ren])
 | exact yeh
 | exact fs_nil trivial rfl
 | fail)
 rw [decide_eq_true (by omega : last < xi), zaK] at hI
 cases kb with
 | false =>
   simp only [zaQ] at hI
   rw [← hI]
   simp only [go_sem, zaa, zae, zaf, zag, zai, zad, ↓reduceIte, reduceCtorEq, zab, zac, zaj, zak, zal, decide_eq_true c, decide_eq_true c0, q9, hat, hm1, decide_eq_false cp, decide_eq_false cl]
   repeat' (first
 | with_reducible refine zaw ?_ ?_
 | (unfold OKC; kernel_rfl)
 | (unfold EDG; kernel_rfl)
 | (apply cg_tp
    case hl => rfl
    case ha => exact yea
    case hs => rfl
    case h => exact yee)
 | (apply cl_plain
    case hs => rfl
    case ha => exact yea
    case h => exact yee)
 | ((first | refine s1_id ?_ | refine swp_id ?_ | refine sops_id ?_ | refine s2_id ?_); simp only [decide_eq_true c, decide_eq_true c0, q9, hat, hm1, decide_eq_false cp, decide_eq_false cl, ge_iff_le, zav, zay, zao, zaz, zaB, zas, zat, zaq, zaE, zaG, zau, zar, go_sem, zaa, zae, zaf, zag, zai, zad, ↓reduceIte, reduceCtorEq, zab, zac, zaj, zak, zal, zaP, zaN, zaJ, zaO, renO, bk, back, outUpsFrom, Ints_ren])
 | exact yeh
 | exact fs_nil trivial rfl
 | fail)
 | true =>
 rw [zaK] at hI
 by_cases cu : xu < 0
 · rw [decide_eq_false (by omega : ¬ 0 ≤ xu)] at hI
   simp only [zaQ] at hI
   rw [← hI]
   simp only [go_sem, zaa, zae, zaf, zag, zai, zad, ↓reduceIte, reduceCtorEq, zab, zac, zaj, zak, zal, decide_eq_true c, decide_eq_true c0, q9, hat, hm1, decide_eq_false cp, decide_eq_false cl, decide_eq_true cu]
   repeat' (first
 | with_reducible refine zaw ?_ ?_
 | (unfold OKC; kernel_rfl)
 | (unfold EDG; kernel_rfl)
 | (apply cg_tp
    case hl => rfl
    case ha => exact yea
    case hs => rfl
    case h => exact yee)
 | (apply cl_plain
    case hs => rfl
    case ha => exact yea
    case h => exact yee)
 | ((first | refine s1_id ?_ | refine swp_id ?_ | refine sops_id ?_ | refine s2_id ?_); simp only [decide_eq_true c, decide_eq_true c0, q9, hat, hm1, decide_eq_false cp, decide_eq_false cl, decide_eq_true cu, ge_iff_le, zav, zay, zao, zaz, zaB, zas, zat, zaq, zaE, zaG, zau, zar, go_sem, zaa, zae, zaf, zag, zai, zad, ↓reduceIte, reduceCtorEq, zab, zac, zaj, zak, zal, zaP, zaN, zaJ, zaO, renO, bk, back, outUpsFrom, Ints_ren])
 | exact yeh
 | exact fs_nil trivial rfl
 | fail)
 rw [decide_eq_true (by omega : 0 ≤ xu), zaK] at hI
 by_cases cv : 1048576 < xu
 · rw [decide_eq_false (by omega : ¬ xu ≤ 1048576)] at hI
   simp only [zaQ] at hI
   rw [← hI]
   simp only [go_sem, zaa, zae, zaf, zag, zai, zad, ↓reduceIte, reduceCtorEq, zab, zac, zaj, zak, zal, decide_eq_true c, decide_eq_true c0, q9, hat, hm1, decide_eq_false cp, decide_eq_false cl, decide_eq_false cu, decide_eq_true cv]
   repeat' (first
 | with_reducible refine zaw ?_ ?_
 | (unfold OKC; kernel_rfl)
 | (unfold EDG; kernel_rfl)
 | (apply cg_tp
    case hl => rfl
    case ha => exact yea
    case hs => rfl
    case h => exact yee)
 | (apply cl_plain
    case hs => rfl
    case ha => exact yea
    case h => exact yee)
 | ((first | refine s1_id ?_ | refine swp_id ?_ | refine sops_id ?_ | refine s2_id ?_); simp only [decide_eq_true c, decide_eq_true c0, q9, hat, hm1, decide_eq_false cp, decide_eq_false cl, decide_eq_false cu, decide_eq_true cv, ge_iff_le, zav, zay, zao, zaz, zaB, zas, zat, zaq, zaE, zaG, zau, zar, go_sem, zaa, zae, zaf, zag, zai, zad, ↓reduceIte, reduceCtorEq, zab, zac, zaj, zak, zal, zaP, zaN, zaJ, zaO, renO, bk, back, outUpsFrom, Ints_ren])
 | exact yeh
 | exact fs_nil trivial rfl
 | fail)
 rw [decide_eq_true (by omega : xu ≤ 1048576), zaK] at hI
 cases ok with
 | false =>
   simp only [zaQ] at hI
   rw [← hI]
   simp only [go_sem, zaa, zae, zaf, zag, zai, zad, ↓reduceIte, reduceCtorEq, zab, zac, zaj, zak, zal, decide_eq_true c, decide_eq_true c0, q9, hat, hm1, decide_eq_false cp, decide_eq_false cl, decide_eq_false cu, decide_eq_false cv]
   repeat' (first
 | with_reducible refine zaw ?_ ?_
 | (unfold OKC; kernel_rfl)
 | (unfold EDG; kernel_rfl)
 | (apply cg_tp
    case hl => rfl
    case ha => exact yea
    case hs => rfl
    case h => exact yee)
 | (apply cl_plain
    case hs => rfl
    case ha => exact yea
    case h => exact yee)
 | ((first | refine s1_id ?_ | refine swp_id ?_ | refine sops_id ?_ | refine s2_id ?_); simp only [decide_eq_true c, decide_eq_true c0, q9, hat, hm1, decide_eq_false cp, decide_eq_false cl, decide_eq_false cu, decide_eq_false cv, ge_iff_le, zav, zay, zao, zaz, zaB, zas, zat, zaq, zaE, zaG, zau, zar, go_sem, zaa, zae, zaf, zag, zai, zad, ↓reduceIte, reduceCtorEq, zab, zac, zaj, zak, zal, zaP, zaN, zaJ, zaO, renO, bk, back, outUpsFrom, Ints_ren])
 | exact yeh
 | exact fs_nil trivial rfl
 | fail)
 | true =>
 rw [zaK] at hI
 by_cases cw : yu = xu
 case neg =>
   rw [decide_eq_false cw, zaQ] at hI
   rw [← hI]
   simp only [go_sem, zaa, zae, zaf, zag, zai, zad, ↓reduceIte, reduceCtorEq, zab, zac, zaj, zak, zal, decide_eq_true c, decide_eq_true c0, q9, hat, hm1, decide_eq_false cp, decide_eq_false cl, decide_eq_false cu, decide_eq_false cv, decide_eq_false cw]
   repeat' (first
 | with_reducible refine zaw ?_ ?_
 | (unfold OKC; kernel_rfl)
 | (unfold EDG; kernel_rfl)
 | (apply cg_tp
    case hl => rfl
    case ha => exact yea
    case hs => rfl
    case h => exact yee)
 | (apply cl_plain
    case hs => rfl
    case ha => exact yea
    case h => exact yee)
 | ((first | refine s1_id ?_ | refine swp_id ?_ | refine sops_id ?_ | refine s2_id ?_); simp only [decide_eq_true c, decide_eq_true c0, q9, hat, hm1, decide_eq_false cp, decide_eq_false cl, decide_eq_false cu, decide_eq_false cv, decide_eq_false cw, ge_iff_le, zav, zay, zao, zaz, zaB, zas, zat, zaq, zaE, zaG, zau, zar, go_sem, zaa, zae, zaf, zag, zai, zad, ↓reduceIte, reduceCtorEq, zab, zac, zaj, zak, zal, zaP, zaN, zaJ, zaO, renO, bk, back, outUpsFrom, Ints_ren])
 | exact yeh
 | exact fs_nil trivial rfl
 | fail)
 rw [decide_eq_true cw, zaK] at hI
 simp only [go_sem, zaa, zae, zaf, zag, zai, zad, ↓reduceIte, reduceCtorEq, zab, zac, zaj, zak, zal, decide_eq_true c, decide_eq_true c0, q9, hat, hm1, decide_eq_false cp, decide_eq_false cl, decide_eq_false cu, decide_eq_false cv, decide_eq_true cw]
 repeat' (first
 | with_reducible refine zaw ?_ ?_
 | (unfold OKC; kernel_rfl)
 | (unfold EDG; kernel_rfl)
 | (apply cg_tp
    case hl => rfl
    case ha => exact yea
    case hs => rfl
    case h => exact yee)
 | (apply cl_plain
    case hs => rfl
    case ha => exact yea
    case h => exact yee)
 | ((first | refine s1_id ?_ | refine swp_id ?_ | refine sops_id ?_ | refine s2_id ?_); simp only [decide_eq_true c, decide_eq_true c0, q9, hat, hm1, decide_eq_false cp, decide_eq_false cl, decide_eq_false cu, decide_eq_false cv, decide_eq_true cw, ge_iff_le, zav, zay, zao, zaz, zaB, zas, zat, zaq, zaE, zaG, zau, zar, go_sem, zaa, zae, zaf, zag, zai, zad, ↓reduceIte, reduceCtorEq, zab, zac, zaj, zak, zal, zaP, zaN, zaJ, zaO, renO, bk, back, outUpsFrom, Ints_ren])
 | exact yeh
 | exact yeb | fail)
 refine le_mk (m + 1 + 1, xi) ?_ ⟨hlt, fun h => absurd h (Nat.succ_ne_zero _), fun _ => ⟨by simp only [hgx], by show 1 ≤ xi; omega⟩, hI⟩ (by show T.length - (m + 1 + 1) < T.length - (m + 1); omega)
 (refine imp_ren _ _ _ [(0, 0, ⟨hyc l none n T none h, 4⟩)] (by simp) (by simp) (by simp) (zaH rfl) ?_ rfl (by simp only [zan, zap, false_implies, implies_true, and_true, zaW, lookR, zaa, if_true, if_false, ↓reduceIte] <;> (repeat' apply zaw) <;> (first | rfl | trivial)) (by simp only [zan, zap, false_implies, implies_true, and_true, true_and, flat_cons, flat_nil, flat_ints, flat_bools, flat_app, zaV, and_self, eq_self_iff_true, zao]); simp only [zah, zam, zan, zap, false_implies, implies_true, and_true, lk, slot, zaP, zaJ, toN, zaa, if_true, if_false, ↓reduceIte, reduceCtorEq])
 all_goals ((repeat' apply zaw) <;> (first | rfl | trivial | (simp only [zaT]; done) | (simp only [zaT]; rfl) | (simp only [zaT]; trivial)))
theorem tas_gt : ∀ (r : List Tk) (last : Int), tasF r last = true → (∀ x ∈ r, last < x.i) ∧ r.Pairwise (fun x y => x.i < y.i)
  | [], _, _ => ⟨(fun _ h => by cases h), List.Pairwise.nil⟩
  | x :: r, last, h => by
    rw [tasF, zaD, decide_eq_true_eq] at h
    obtain ⟨h1, h2⟩ := tas_gt r x.i h.2
    refine ⟨fun y hy => ?_, List.pairwise_cons.2 ⟨h1, h2⟩⟩
    rcases List.mem_cons.1 hy with rfl | hy
    · exact h.1
    · have := h1 y hy; omega
theorem rc_no (l : List Nd) (T : List Tk) : ∀ (r : List Tk) (last : Int), tasF r last = false → rcF l T r last = false
  | [], _, h => by cases h
  | x :: r, last, h => by
    rw [tasF] at h
    rw [rcF]
    cases hd : decide (last < x.i) with
    | false => rfl
    | true =>
      rw [hd, zaK] at h
      rw [rc_no l T r x.i h, Bool.and_false]; rfl
theorem rc_yes (l : List Nd) (T : List Tk) (hok : ∀ x, okR l T x = !stB l T x) : ∀ (r : List Tk) (last : Int), tasF r last = true → rcF l T r last = !r.any (stB l T)
  | [], _, _ => rfl
  | x :: r, last, h => by
    rw [tasF, zaD] at h
    rw [rcF, h.1, zaK, rc_yes l T hok r x.i h.2, hok, List.any_cons]
    cases stB l T x <;> rfl
theorem lst_at : ∀ (T : List Tk) (last : Int), T ≠ [] → T.foldl (fun _ x => x.i) last = (gT T (T.length - 1)).i
  | [], _, h => absurd rfl h
  | [x], _, _ => rfl
  | x :: y :: r, last, _ => by
    rw [List.foldl_cons, lst_at (y :: r) x.i (by simp)]
    rfl
theorem pw_ix {T : List Tk} (h : T.Pairwise (fun x y => x.i < y.i)) : ∀ i j, i < j → j < T.length → Tk.i (T.getD i Rec.z) < Tk.i (T.getD j Rec.z) := fun i j hij hj => by
  have := List.pairwise_iff_getElem.1 h i j (by omega) hj hij
  rw [show T.getD i Rec.z = T[i] from getD_at T i Rec.z (by omega), show T.getD j Rec.z = T[j] from getD_at T j Rec.z hj]
  exact this
theorem ld_eq {T : List Tk} (h : T.Pairwise (fun x y => x.i < y.i)) (x : Tk) : ((ldrM T x.p).2 && decide ((ldrM T x.p).1.u = x.u)) = ldB T x := by
 unfold ldrM ldB
 cases hf : T.find? (fun y => decide (y.i = x.p)) with
 | none =>
   have hn := List.find?_eq_none.1 hf
   rw [bs_not Tk.i T x.p (fun y hy e => hn y hy (decide_eq_true e))]
   rfl
 | some y =>
   have hy := List.mem_of_find?_eq_some hf
   have hp : y.i = x.p := by
     have := List.find?_some hf
     simpa using this
   obtain ⟨s, hs, es⟩ := List.getElem_of_mem hy
   have e1 : T.getD s Rec.z = y := by rw [← es]; exact getD_at T s Rec.z hs
   obtain ⟨b1', b2'⟩ := bs_found Tk.i T (pw_ix h) s hs
   rw [e1, hp] at b1' b2'
   rw [b1', b2', zaK]
   show (decide (y.p = x.p) && decide (y.u = x.u)) = (decide ((gT T s).p = x.p) && decide ((gT T s).u = x.u))
   rw [show gT T s = y from e1]
theorem ok_st {T : List Tk} (h : T.Pairwise (fun x y => x.i < y.i)) (l : List Nd) (x : Tk) : okR l T x = !stB l T x := by
 unfold okR stB plB
 rw [ld_eq h x]
 cases bsF Nd.i l x.g <;> cases decide (0 ≤ x.u) <;> cases decide (x.u ≤ 1048576) <;> cases ldB T x <;> rfl
theorem hy_eq (l : List Nd) (n : Int) (T : List Tk) (h : Int) : hyR l n T h = hyM l n T h := by
 unfold hyR hyM
 cases chkT l n with
 | false => rfl
 | true =>
 rw [zaK, zaK]
 cases decide (T.length ≤ 128) with
 | false => rfl
 | true =>
 rw [zaK, zaK]
 cases ht : tasF T 0 with
 | false =>
   rw [rc_no l T T 0 ht, zaQ]
   simp only [Bool.and_false]
 | true =>
 obtain ⟨h1, h2⟩ := tas_gt T 0 ht
 rw [rc_yes l T (ok_st h2 l) T 0 ht, zaK]
 generalize hq : T.any (stB l T) = q
 by_cases h0 : T = []
 · subst h0
   rw [show lstI [] = 0 from rfl, show decide ((0 : Int) < h) = decide (1 ≤ h) from decide_eq_decide.2 (by omega)]
   rw [decide_eq_true (show ([] : List Tk).length = 0 from rfl), Bool.true_or, zaK]
 · have hL : lstI T = (gT T (T.length - 1)).i := lst_at T 0 h0
   have hlen : T.length ≠ 0 := fun e => h0 (List.length_eq_zero_iff.1 e)
   have hpos : 0 < (gT T (T.length - 1)).i := h1 _ (getD_mem T (T.length - 1) ztk (by omega))
   rw [hL, decide_eq_false hlen, Bool.false_or]
   generalize (gT T (T.length - 1)).i = v at *
   by_cases c : v < h
   · rw [decide_eq_true c, decide_eq_true (show 1 ≤ h by omega)]
     simp only [zaK]
   · rw [decide_eq_false c]
     simp only [zaQ, Bool.and_false]
theorem rcheck6 (l : List Nd) (n : Int) (T : List Tk) (h : Int) (hl : l.length ≤ 1000000) (hT : T.length ≤ 9223372036854775806) (hnm : NmR l) : FnSpec Tryz.prog 12 [hyV l none n T none h] [] (b1 (hyM l n T h)) [] := by
 have := rcheck6_spec l n T h hl hT hnm
 rw [hy_eq] at this
 exact this
theorem tk_cl (xs : List (Tk)) (c : Option Nat) (hl : xs.length ≤ 1000000) : FnSpec Tryz.prog 84 [gr xs c] [] (.one (.osl 0 0 xs.length none)) [some ⟨Cs xs, 4⟩] := by
 have hts : zbd (xs.length * 4) (Cs xs) = Cs xs := Cs_all xs _ (zaX _)
 have hil : (Cs xs).length = xs.length * 4 := Cs_len xs
 by_cases h0 : 0 < xs.length
 · refine fnspec_of mixed TT_ok TT_cl ⟨fun _ => false, fun _ => [], 0, fun _ => false, fun _ => false⟩ Tryz.func84 rfl (by kernel_rfl) rfl 8 rfl [.tmp 2] rfl ?_
   simp only [go_sem, zaa, zae, zaf, zag, zai, zad, ↓reduceIte, reduceCtorEq, zab, zac, zaj, zak, zal, hts, hil]
   repeat' (first
 | with_reducible refine zaw ?_ ?_
 | exact yeh
 | exact yeb | fail)
   (refine fs_flat [(5, ⟨Cs xs, 4⟩)] (by simp) (by simp only [zah, zam]; decide) (by simp only [go_sem, resV, resS, zaP, zaN, zaJ, zba, zaW, idx, renO, zaO, evS, slot, lookR, zaa, ↓reduceIte, reduceCtorEq, if_true, if_false, zaR, zaS, zah, zam, sLoad, readAt, readNeed, Ints_ren, Ints_length, Ints_getD, and_true, true_and, zaL, zaM]; try decide) ?_ (by simp only [zan, zap, false_implies, implies_true, and_true, zaW, lookR, zaa, if_true, if_false, ↓reduceIte, Cs_flat] <;> (repeat' apply zaw) <;> (first | rfl | trivial)) (by simp only [zan, zap, false_implies, implies_true, and_true, true_and, flat_cons, flat_nil, flat_ints, flat_bools, flat_app, zaV, and_self, eq_self_iff_true, zao, Cs_flat]) ?_ <;> (try simp only [go_sem, resV, resS, zaP, zaN, zaJ, zba, zaW, idx, renO, zaO, evS, slot, lookR, zaa, ↓reduceIte, reduceCtorEq, if_true, if_false, zaR, zaS, zah, zam, sLoad, readAt, readNeed, Ints_ren, Ints_length, Ints_getD, and_true, true_and, zaL, zaM]) <;> (try rfl))
 · have hn : xs = [] := List.length_eq_zero_iff.1 (by omega)
   subst hn
   refine FnSpec.niln (FnSpec.nilrow 4 ?_) (fun ad cc => ?_)
   · refine fnspec_of mixed TT_ok TT_cl ⟨fun _ => false, fun _ => [], 0, fun _ => false, fun _ => false⟩ Tryz.func84 rfl (by kernel_rfl) rfl 8 rfl [.tmp 2] rfl ?_
     simp only [go_sem, zaa, zae, zaf, zag, zai, zad, ↓reduceIte, reduceCtorEq, zab, zac, zaj, zak, zal]
     repeat' (first
 | exact fs_nil trivial rfl
 | fail)
   · refine fnspec_of mixed TT_ok TT_cl ⟨fun _ => false, fun _ => [], 0, fun _ => false, fun _ => false⟩ Tryz.func84 rfl (by kernel_rfl) rfl 8 rfl [.tmp 2] rfl ?_
     simp only [go_sem, zaa, zae, zaf, zag, zai, zad, ↓reduceIte, reduceCtorEq, zab, zac, zaj, zak, zal]
     repeat' (first
 | exact yeb | fail)
     (refine fs_flat [(5, ⟨[], 4⟩)] (by simp) (by simp only [zah, zam]; decide) (by simp only [go_sem, resV, resS, zaP, zaN, zaJ, zba, zaW, idx, renO, zaO, evS, slot, lookR, zaa, ↓reduceIte, reduceCtorEq, if_true, if_false, zaR, zaS, zah, zam, sLoad, readAt, readNeed, Ints_ren, Ints_length, Ints_getD, and_true, true_and, zaL, zaM]; try decide) ?_ (by simp only [zan, zap, false_implies, implies_true, and_true, zaW, lookR, zaa, if_true, if_false, ↓reduceIte, Cs_flat] <;> (repeat' apply zaw) <;> (first | rfl | trivial)) (by simp only [zan, zap, false_implies, implies_true, and_true, true_and, flat_cons, flat_nil, flat_ints, flat_bools, flat_app, zaV, and_self, eq_self_iff_true, zao, Cs_flat]) ?_ <;> (try simp only [go_sem, resV, resS, zaP, zaN, zaJ, zba, zaW, idx, renO, zaO, evS, slot, lookR, zaa, ↓reduceIte, reduceCtorEq, if_true, if_false, zaR, zaS, zah, zam, sLoad, readAt, readNeed, Ints_ren, Ints_length, Ints_getD, and_true, true_and, zaL, zaM]) <;> (try rfl))
theorem ctree_spec (l : List Nd) (n : Int) (hl : l.length ≤ 1000000) : FnSpec Tryz.prog 110 [trV l none n] [] (.agg [.osl 0 0 l.length none, int n]) [some ⟨Cs l, 6⟩] := by
 have h1 := nd_cl l none hl
 refine fnspec_of mixed TT_ok TT_cl ⟨fun _ => false, fun _ => [], 0, fun _ => false, fun _ => false⟩ Tryz.func110 rfl (by kernel_rfl) rfl 8 rfl [.cell 2 25] rfl ?_
 simp only [go_sem, zaa, zae, zaf, zag, zai, zad, ↓reduceIte, reduceCtorEq, zab, zac, zaj, zak, zal]
 repeat' (first
 | (apply cl_plain
    case hs => rfl
    case ha => exact yea
    case h => exact yei)
 | ((first | refine s1_id ?_ | refine swp_id ?_ | refine sops_id ?_ | refine s2_id ?_); simp only [zav, zay, zao, zaz, zaB, zas, zat, zaq, zaE, zaG, zau, zar, go_sem, zaa, zae, zaf, zag, zai, zad, ↓reduceIte, reduceCtorEq, zab, zac, zaj, zak, zal, zaP, zaN, zaJ, zaO, renO, bk, back, outUpsFrom, Ints_ren])
 | exact yeb | fail)
 (refine fs_flat [(4, ⟨Cs l, 6⟩)] (by simp) (by simp only [zah, zam]; decide) (by simp only [go_sem, resV, resS, zaP, zaN, zaJ, zba, zaW, idx, renO, zaO, evS, slot, lookR, zaa, ↓reduceIte, reduceCtorEq, if_true, if_false, zaR, zaS, zah, zam, sLoad, readAt, readNeed, Ints_ren, Ints_length, Ints_getD, and_true, true_and, zaL, zaM]; try decide) ?_ (by simp only [zan, zap, false_implies, implies_true, and_true, zaW, lookR, zaa, if_true, if_false, ↓reduceIte, Cs_flat] <;> (repeat' apply zaw) <;> (first | rfl | trivial)) (by simp only [zan, zap, false_implies, implies_true, and_true, true_and, flat_cons, flat_nil, flat_ints, flat_bools, flat_app, zaV, and_self, eq_self_iff_true, zao, Cs_flat]) ?_ <;> (try simp only [go_sem, resV, resS, zaP, zaN, zaJ, zba, zaW, idx, renO, zaO, evS, slot, lookR, zaa, ↓reduceIte, reduceCtorEq, if_true, if_false, zaR, zaS, zah, zam, sLoad, readAt, readNeed, Ints_ren, Ints_length, Ints_getD, and_true, true_and, zaL, zaM]) <;> (try rfl))
theorem chier_spec (l : List Nd) (n : Int) (T : List Tk) (h : Int) (hl : l.length ≤ 1000000) (hT : T.length ≤ 1000000) : FnSpec Tryz.prog 79 [hyV l none n T none h] [] (.agg [.osl 0 0 l.length none, int n, .osl 1 0 T.length none, int h]) [some ⟨Cs l, 6⟩, some ⟨Cs T, 4⟩] := by
 have h1 := ctree_spec l n hl
 have h2 := tk_cl T none hT
 refine fnspec_of mixed TT_ok TT_cl ⟨fun _ => false, fun _ => [], 0, fun _ => false, fun _ => false⟩ Tryz.func79 rfl (by kernel_rfl) rfl 12 rfl [.cell 2 28] rfl ?_
 simp only [go_sem, zaa, zae, zaf, zag, zai, zad, ↓reduceIte, reduceCtorEq, zab, zac, zaj, zak, zal]
 repeat' (first
 | (apply cl_plain
    case hs => rfl
    case ha => exact yea
    case h => exact yej)
 | ((first | refine s1_id ?_ | refine swp_id ?_ | refine sops_id ?_ | refine s2_id ?_); simp only [zav, zay, zao, zaz, zaB, zas, zat, zaq, zaE, zaG, zau, zar, go_sem, zaa, zae, zaf, zag, zai, zad, ↓reduceIte, reduceCtorEq, zab, zac, zaj, zak, zal, zaP, zaN, zaJ, zaO, renO, bk, back, outUpsFrom, Ints_ren])
 | exact yeb | fail)
 (refine fs_flat [(4, ⟨Cs l, 6⟩), (9, ⟨Cs T, 4⟩)] (by simp) (by simp only [zah, zam]; decide) (by simp only [go_sem, resV, resS, zaP, zaN, zaJ, zba, zaW, idx, renO, zaO, evS, slot, lookR, zaa, ↓reduceIte, reduceCtorEq, if_true, if_false, zaR, zaS, zah, zam, sLoad, readAt, readNeed, Ints_ren, Ints_length, Ints_getD, and_true, true_and, zaL, zaM]; try decide) ?_ (by simp only [zan, zap, false_implies, implies_true, and_true, zaW, lookR, zaa, if_true, if_false, ↓reduceIte, Cs_flat] <;> (repeat' apply zaw) <;> (first | rfl | trivial)) (by simp only [zan, zap, false_implies, implies_true, and_true, true_and, flat_cons, flat_nil, flat_ints, flat_bools, flat_app, zaV, and_self, eq_self_iff_true, zao, Cs_flat]) ?_ <;> (try simp only [go_sem, resV, resS, zaP, zaN, zaJ, zba, zaW, idx, renO, zaO, evS, slot, lookR, zaa, ↓reduceIte, reduceCtorEq, if_true, if_false, zaR, zaS, zah, zam, sLoad, readAt, readNeed, Ints_ren, Ints_length, Ints_getD, and_true, true_and, zaL, zaM]) <;> (try rfl))
abbrev Hy := List Nd × Int × List Tk × Int
abbrev hyQ (q : Hy) : SV := hyV q.1 none q.2.1 q.2.2.1 none q.2.2.2
abbrev z6 : Hy := ([], 0, [], 0)
def adR (l : List Nd) (n : Int) (T : List Tk) (h : Int) (k : Tk) : Hy × Int × Int := if T.length = 128 then (z6, 0, 7) else if 2147483647 < h then (z6, 0, 7) else ((l, n, T ++ [k], h + 1), k.i, 0)
set_option maxHeartbeats 8000000 in
theorem madd_spec (l : List Nd) (n : Int) (T : List Tk) (h : Int) (k : Tk) (hl : l.length ≤ 1000000) (hT : T.length ≤ 128) (hh : 1 ≤ h) : FnSpec Tryz.prog 77 [hyV l none n T none h, .agg (tkc k)] [] (.tup [hyQ (adR l n T h k).1, i1 (adR l n T h k).2.1, i1 (adR l n T h k).2.2]) [] := by
 have hcl := tk_len T
 have h1 := chier_spec l n T h hl (by omega)
 unfold adR
 by_cases a1 : T.length = 128
 · have a1' : (T.length : Int) = 128 := by omega
   rw [if_pos a1]
   obtain ⟨ki, kp, kg, ku⟩ := k
   simp only [tkc, Cs_nil, zar]
   refine fnspec_of mixed TT_ok TT_cl ⟨fun _ => false, fun _ => [], 0, fun _ => false, fun _ => false⟩ Tryz.func77 rfl (by kernel_rfl) rfl 33 rfl [.cell 4 28, .tmp 5, .tmp 6] rfl ?_
   simp only [go_sem, zaa, zae, zaf, zag, zai, zad, ↓reduceIte, reduceCtorEq, zab, zac, zaj, zak, zal, decide_eq_true a1']
   repeat' (first
 | exact yeb | fail)
   repeat' (first
 | exact yec
 | fail)
 have a1' : ¬ (T.length : Int) = 128 := by omega
 rw [if_neg a1]
 by_cases a2 : 2147483647 < h
 · rw [if_pos a2]
   obtain ⟨ki, kp, kg, ku⟩ := k
   simp only [tkc, Cs_nil, zar]
   refine fnspec_of mixed TT_ok TT_cl ⟨fun _ => false, fun _ => [], 0, fun _ => false, fun _ => false⟩ Tryz.func77 rfl (by kernel_rfl) rfl 33 rfl [.cell 4 28, .tmp 5, .tmp 6] rfl ?_
   simp only [go_sem, zaa, zae, zaf, zag, zai, zad, ↓reduceIte, reduceCtorEq, zab, zac, zaj, zak, zal, decide_eq_false a1', decide_eq_true a2]
   repeat' (first
 | exact yeb | fail)
   repeat' (first
 | exact yec
 | fail)
 rw [if_neg a2]
 have htk : zbd (T.length * 4) (Cs T) = Cs T := zbb (by rw [hcl]; exact zaX _)
 have hpp : Cs T ++ [int k.i, int k.p, int k.g, int k.u] = Cs (T ++ [k]) := Cs_snoc T k
 have hla : (T ++ [k]).length = T.length + 1 := by simp
 generalize T ++ [k] = T2 at *
 obtain ⟨ki, kp, kg, ku⟩ := k
 simp only [tkc] at hpp ⊢
 show FnSpec Tryz.prog _ _ _ (.tup [.agg [.gsl (Cs l) 0 l.length none, int n, .gsl (Cs T2) 0 T2.length none, int (h + 1)], i1 ki, i1 0]) _
 rw [hla]
 refine fnspec_of mixed TT_ok TT_cl ⟨fun _ => false, fun _ => [], 0, fun _ => false, fun _ => false⟩ Tryz.func77 rfl (by kernel_rfl) rfl 33 rfl [.cell 4 28, .tmp 5, .tmp 6] rfl ?_
 simp only [go_sem, zaa, zae, zaf, zag, zai, zad, ↓reduceIte, reduceCtorEq, zab, zac, zaj, zak, zal, decide_eq_false a1', decide_eq_false a2, htk, hpp]
 repeat' (first
 | with_reducible refine zaw ?_ ?_
 | (unfold OKC; kernel_rfl)
 | (unfold EDG; kernel_rfl)
 | (apply cl_plain
    case hs => rfl
    case ha => exact yea
    case h => exact yei)
 | ((first | refine s1_id ?_ | refine swp_id ?_ | refine sops_id ?_ | refine s2_id ?_); simp only [decide_eq_false a1', decide_eq_false a2, htk, hpp, zav, zay, zao, zaz, zaB, zas, zat, zaq, zaE, zaG, zau, zar, go_sem, zaa, zae, zaf, zag, zai, zad, ↓reduceIte, reduceCtorEq, zab, zac, zaj, zak, zal, zaP, zaN, zaJ, zaO, renO, bk, back, outUpsFrom, Ints_ren])
 | exact yeh
 | exact yeb | fail)
 (refine fs_frz 15 ⟨Cs l, 6⟩ (by simp only [zaW, lookR, zaa, if_true, if_false, ↓reduceIte]) (by first | exact Ints_isG _ | exact Bools_isG _ | exact Cs_isG _ | (simp [zbe]; done)) ?_; simp only [frzTm, SV.frz, SV.frzL, zbf, frzHp, frzO, Ints_frz, Bools_frz, zah, zam, zaa, if_true, if_false, ↓reduceIte])
 simp only [frzHp, frzO, Cs_frz, zah, zam]
 (refine fs_frz 23 ⟨Cs T2, 4⟩ (by simp only [zaW, lookR, zaa, if_true, if_false, ↓reduceIte]) (by first | exact Ints_isG _ | exact Bools_isG _ | exact Cs_isG _ | (simp [zbe]; done)) ?_; simp only [frzTm, SV.frz, SV.frzL, zbf, frzHp, frzO, Ints_frz, Bools_frz, zah, zam, zaa, if_true, if_false, ↓reduceIte])
 repeat' (first
 | exact yec
 | fail)
def spR (l : List Nd) (n : Int) (T : List Tk) (h g u : Int) : Hy × Int × Int := if hyM l n T h = true then (if 0 ≤ u ∧ u ≤ 1048576 then (if bsF Nd.i l g = true then adR l n T h ⟨h, h, g, u⟩ else (z6, 0, 4)) else (z6, 0, 1)) else (z6, 0, 1)
theorem hy_all {l : List Nd} {n : Int} {T : List Tk} {h : Int} (hv : hyM l n T h = true) : VT l n ∧ T.length ≤ 128 ∧ 1 ≤ h ∧ h ≤ 2147483648 ∧ T.Pairwise (fun x y => x.i < y.i) := by
 rw [← hy_eq] at hv
 have hv' := hv
 unfold hyR at hv
 simp only [zaD, decide_eq_true_eq] at hv
 rw [hy_eq] at hv'
 unfold hyM at hv'
 simp only [zaD, decide_eq_true_eq] at hv'
 exact ⟨(chkT_iff l n).1 hv.1, hv.2.1, hv.2.2.1, hv.2.2.2.1, (tas_gt T 0 hv'.2.2.1).2⟩
theorem fdM_bs {l : List Nd} {n : Int} (h : chkT l n = true) (id : Int) : (fdM l n id).2 = bsF Nd.i l id := by
 rw [fdM_2, has_bs6 h]
set_option maxHeartbeats 8000000 in
theorem mspawn_spec (l : List Nd) (n : Int) (T : List Tk) (h g u : Int) (hl : l.length ≤ 1000000) (hT : T.length ≤ 1000000) (hnm : NmR l) (hct : CtR l) : FnSpec Tryz.prog 32 [hyV l none n T none h, i1 g, i1 u] [] (.tup [hyQ (spR l n T h g u).1, i1 (spR l n T h g u).2.1, i1 (spR l n T h g u).2.2]) [] := by
 have h1 := mcheck_spec l n T h hl (by omega) hnm hct
 unfold spR
 cases hv : hyM l n T h with
 | false =>
   rw [hv] at h1
   rw [if_neg (by decide)]
   simp only [Cs_nil, zar]
   refine fnspec_of mixed TT_ok TT_cl ⟨fun _ => false, fun _ => [], 0, fun _ => false, fun _ => false⟩ Tryz.func32 rfl (by kernel_rfl) rfl 45 rfl [.cell 6 28, .tmp 7, .tmp 8] rfl ?_
   simp only [go_sem, zaa, zae, zaf, zag, zai, zad, ↓reduceIte, reduceCtorEq, zab, zac, zaj, zak, zal]
   repeat' (first
 | (apply cl_plain
    case hs => rfl
    case ha => exact yea
    case h => exact yei)
 | ((first | refine s1_id ?_ | refine swp_id ?_ | refine sops_id ?_ | refine s2_id ?_); simp only [zav, zay, zao, zaz, zaB, zas, zat, zaq, zaE, zaG, zau, zar, go_sem, zaa, zae, zaf, zag, zai, zad, ↓reduceIte, reduceCtorEq, zab, zac, zaj, zak, zal, zaP, zaN, zaJ, zaO, renO, bk, back, outUpsFrom, Ints_ren])
 | exact yeb | fail)
   repeat' (first
 | exact yec
 | fail)
 | true =>
 rw [hv] at h1
 rw [if_pos rfl]
 obtain ⟨hV, hTl, hh1, hh2, _⟩ := hy_all hv
 by_cases u1 : u < 0
 · rw [if_neg (by omega)]
   simp only [Cs_nil, zar]
   refine fnspec_of mixed TT_ok TT_cl ⟨fun _ => false, fun _ => [], 0, fun _ => false, fun _ => false⟩ Tryz.func32 rfl (by kernel_rfl) rfl 45 rfl [.cell 6 28, .tmp 7, .tmp 8] rfl ?_
   simp only [go_sem, zaa, zae, zaf, zag, zai, zad, ↓reduceIte, reduceCtorEq, zab, zac, zaj, zak, zal, decide_eq_true u1]
   repeat' (first
 | (apply cl_plain
    case hs => rfl
    case ha => exact yea
    case h => exact yei)
 | ((first | refine s1_id ?_ | refine swp_id ?_ | refine sops_id ?_ | refine s2_id ?_); simp only [decide_eq_true u1, zav, zay, zao, zaz, zaB, zas, zat, zaq, zaE, zaG, zau, zar, go_sem, zaa, zae, zaf, zag, zai, zad, ↓reduceIte, reduceCtorEq, zab, zac, zaj, zak, zal, zaP, zaN, zaJ, zaO, renO, bk, back, outUpsFrom, Ints_ren])
 | exact yeb | fail)
   repeat' (first
 | exact yec
 | fail)
 by_cases u2 : 1048576 < u
 · rw [if_neg (by omega)]
   simp only [Cs_nil, zar]
   refine fnspec_of mixed TT_ok TT_cl ⟨fun _ => false, fun _ => [], 0, fun _ => false, fun _ => false⟩ Tryz.func32 rfl (by kernel_rfl) rfl 45 rfl [.cell 6 28, .tmp 7, .tmp 8] rfl ?_
   simp only [go_sem, zaa, zae, zaf, zag, zai, zad, ↓reduceIte, reduceCtorEq, zab, zac, zaj, zak, zal, decide_eq_false u1, decide_eq_true u2]
   repeat' (first
 | (apply cl_plain
    case hs => rfl
    case ha => exact yea
    case h => exact yei)
 | ((first | refine s1_id ?_ | refine swp_id ?_ | refine sops_id ?_ | refine s2_id ?_); simp only [decide_eq_false u1, decide_eq_true u2, zav, zay, zao, zaz, zaB, zas, zat, zaq, zaE, zaG, zau, zar, go_sem, zaa, zae, zaf, zag, zai, zad, ↓reduceIte, reduceCtorEq, zab, zac, zaj, zak, zal, zaP, zaN, zaJ, zaO, renO, bk, back, outUpsFrom, Ints_ren])
 | exact yeb | fail)
   repeat' (first
 | exact yec
 | fail)
 rw [if_pos (by omega)]
 have h2 := tfind_spec l n g hl hnm hct
 rw [fdM_bs ((chkT_iff l n).2 hV)] at h2
 generalize (fdM l n g).1 = fx at *
 obtain ⟨f0, f1, f2, f3, f4, f5⟩ := fx
 simp only [ndc] at h2
 cases hb : bsF Nd.i l g with
 | false =>
   rw [hb] at h2
   rw [if_neg (by decide)]
   simp only [Cs_nil, zar]
   refine fnspec_of mixed TT_ok TT_cl ⟨fun _ => false, fun _ => [], 0, fun _ => false, fun _ => false⟩ Tryz.func32 rfl (by kernel_rfl) rfl 45 rfl [.cell 6 28, .tmp 7, .tmp 8] rfl ?_
   simp only [go_sem, zaa, zae, zaf, zag, zai, zad, ↓reduceIte, reduceCtorEq, zab, zac, zaj, zak, zal, decide_eq_false u1, decide_eq_false u2]
   repeat' (first
 | (apply cl_plain
    case hs => rfl
    case ha => exact yea
    case h => exact yej)
 | ((first | refine s1_id ?_ | refine swp_id ?_ | refine sops_id ?_ | refine s2_id ?_); simp only [decide_eq_false u1, decide_eq_false u2, zav, zay, zao, zaz, zaB, zas, zat, zaq, zaE, zaG, zau, zar, go_sem, zaa, zae, zaf, zag, zai, zad, ↓reduceIte, reduceCtorEq, zab, zac, zaj, zak, zal, zaP, zaN, zaJ, zaO, renO, bk, back, outUpsFrom, Ints_ren])
 | exact yeb | fail)
   repeat' (first
 | exact yec
 | fail)
 | true =>
 rw [hb] at h2
 rw [if_pos rfl]
 have h3 := madd_spec l n T h ⟨h, h, g, u⟩ hl hTl hh1
 generalize adR l n T h ⟨h, h, g, u⟩ = q at *
 obtain ⟨⟨ql, qn, qT, qh⟩, qi, qe⟩ := q
 simp only [tkc] at h3 ⊢
 refine fnspec_of mixed TT_ok TT_cl ⟨fun _ => false, fun _ => [], 0, fun _ => false, fun _ => false⟩ Tryz.func32 rfl (by kernel_rfl) rfl 45 rfl [.cell 6 28, .tmp 7, .tmp 8] rfl ?_
 simp only [go_sem, zaa, zae, zaf, zag, zai, zad, ↓reduceIte, reduceCtorEq, zab, zac, zaj, zak, zal, decide_eq_false u1, decide_eq_false u2]
 repeat' (first
 | with_reducible refine zaw ?_ ?_
 | (apply cl_plain
    case hs => rfl
    case ha => exact yea
    case h => (first | exact h1 .. | exact h2 .. | exact h3 ..))
 | ((first | refine s1_id ?_ | refine swp_id ?_ | refine sops_id ?_ | refine s2_id ?_); simp only [decide_eq_false u1, decide_eq_false u2, zav, zay, zao, zaz, zaB, zas, zat, zaq, zaE, zaG, zau, zar, go_sem, zaa, zae, zaf, zag, zai, zad, ↓reduceIte, reduceCtorEq, zab, zac, zaj, zak, zal, zaP, zaN, zaJ, zaO, renO, bk, back, outUpsFrom, Ints_ren])
 | exact yeh
 | (apply fs_nil <;> (try simp only [go_sem, resV, resS, zaP, zaN, zaJ, zba, zaW, idx, renO, zaO, evS, slot, lookR, zaa, ↓reduceIte, reduceCtorEq, if_true, if_false, zaR, zaS, zah, zam, sLoad, readAt, readNeed, Ints_ren, Ints_length, Ints_getD, and_true, true_and, zaL, zaM]) <;> (try rfl))
 | fail)
def clR (l : List Nd) (n : Int) (T : List Tk) (h t : Int) : Hy × Int × Int := if hyM l n T h = true then (if bsF Tk.i T t = true then adR l n T h ⟨h, (gT T (bsV Tk.i T t)).p, (gT T (bsV Tk.i T t)).g, (gT T (bsV Tk.i T t)).u⟩ else (z6, 0, 4)) else (z6, 0, 1)
set_option maxHeartbeats 8000000 in
theorem mclone_spec (l : List Nd) (n : Int) (T : List Tk) (h t : Int) (hl : l.length ≤ 1000000) (hT : T.length ≤ 1000000) (hnm : NmR l) (hct : CtR l) : FnSpec Tryz.prog 34 [hyV l none n T none h, i1 t] [] (.tup [hyQ (clR l n T h t).1, i1 (clR l n T h t).2.1, i1 (clR l n T h t).2.2]) [] := by
 have h1 := mcheck_spec l n T h hl (by omega) hnm hct
 have hcl := tk_len T
 unfold clR
 cases hv : hyM l n T h with
 | false =>
   rw [hv] at h1
   rw [if_neg (by decide)]
   simp only [Cs_nil, zar]
   refine fnspec_of mixed TT_ok TT_cl ⟨fun _ => false, fun _ => [], 0, fun _ => false, fun _ => false⟩ Tryz.func34 rfl (by kernel_rfl) rfl 37 rfl [.cell 4 28, .tmp 5, .tmp 6] rfl ?_
   simp only [go_sem, zaa, zae, zaf, zag, zai, zad, ↓reduceIte, reduceCtorEq, zab, zac, zaj, zak, zal]
   repeat' (first
 | (apply cl_plain
    case hs => rfl
    case ha => exact yea
    case h => exact yei)
 | ((first | refine s1_id ?_ | refine swp_id ?_ | refine sops_id ?_ | refine s2_id ?_); simp only [zav, zay, zao, zaz, zaB, zas, zat, zaq, zaE, zaG, zau, zar, go_sem, zaa, zae, zaf, zag, zai, zad, ↓reduceIte, reduceCtorEq, zab, zac, zaj, zak, zal, zaP, zaN, zaJ, zaO, renO, bk, back, outUpsFrom, Ints_ren])
 | exact yeb | fail)
   repeat' (first
 | exact yec
 | fail)
 | true =>
 rw [hv] at h1
 rw [if_pos rfl]
 obtain ⟨hV, hTl, hh1, hh2, _⟩ := hy_all hv
 have h2 := mindex_spec l none n T none h t (by omega)
 cases hb : bsF Tk.i T t with
 | false =>
   rw [hb] at h2
   rw [if_neg (by decide)]
   simp only [Cs_nil, zar]
   refine fnspec_of mixed TT_ok TT_cl ⟨fun _ => false, fun _ => [], 0, fun _ => false, fun _ => false⟩ Tryz.func34 rfl (by kernel_rfl) rfl 37 rfl [.cell 4 28, .tmp 5, .tmp 6] rfl ?_
   simp only [go_sem, zaa, zae, zaf, zag, zai, zad, ↓reduceIte, reduceCtorEq, zab, zac, zaj, zak, zal]
   repeat' (first
 | (apply cl_plain
    case hs => rfl
    case ha => exact yea
    case h => exact yej)
 | ((first | refine s1_id ?_ | refine swp_id ?_ | refine sops_id ?_ | refine s2_id ?_); simp only [zav, zay, zao, zaz, zaB, zas, zat, zaq, zaE, zaG, zau, zar, go_sem, zaa, zae, zaf, zag, zai, zad, ↓reduceIte, reduceCtorEq, zab, zac, zaj, zak, zal, zaP, zaN, zaJ, zaO, renO, bk, back, outUpsFrom, Ints_ren])
 | exact yeb | fail)
   repeat' (first
 | exact yec
 | fail)
 | true =>
 rw [hb] at h2
 rw [if_pos rfl]
 have hlt := (bsF_at Tk.i T t hb).1
 generalize bsV Tk.i T t = m at *
 have hat := tk_td T m hlt
 have h3 := madd_spec l n T h ⟨h, (gT T m).p, (gT T m).g, (gT T m).u⟩ hl hTl hh1
 generalize adR l n T h ⟨h, (gT T m).p, (gT T m).g, (gT T m).u⟩ = q at *
 generalize gT T m = x at *
 obtain ⟨xi, xp, xg, xu⟩ := x
 obtain ⟨⟨ql, qn, qT, qh⟩, qi, qe⟩ := q
 simp only [tkc] at h3 hat ⊢
 refine fnspec_of mixed TT_ok TT_cl ⟨fun _ => false, fun _ => [], 0, fun _ => false, fun _ => false⟩ Tryz.func34 rfl (by kernel_rfl) rfl 37 rfl [.cell 4 28, .tmp 5, .tmp 6] rfl ?_
 simp only [go_sem, zaa, zae, zaf, zag, zai, zad, ↓reduceIte, reduceCtorEq, zab, zac, zaj, zak, zal, hat]
 repeat' (first
 | with_reducible refine zaw ?_ ?_
 | (apply cl_plain
    case hs => rfl
    case ha => exact yea
    case h => (first | exact h1 .. | exact h2 .. | exact h3 ..))
 | ((first | refine s1_id ?_ | refine swp_id ?_ | refine sops_id ?_ | refine s2_id ?_); simp only [hat, zav, zay, zao, zaz, zaB, zas, zat, zaq, zaE, zaG, zau, zar, go_sem, zaa, zae, zaf, zag, zai, zad, ↓reduceIte, reduceCtorEq, zab, zac, zaj, zak, zal, zaP, zaN, zaJ, zaO, renO, bk, back, outUpsFrom, Ints_ren])
 | exact yeh
 | (apply fs_nil <;> (try simp only [go_sem, resV, resS, zaP, zaN, zaJ, zba, zaW, idx, renO, zaO, evS, slot, lookR, zaa, ↓reduceIte, reduceCtorEq, if_true, if_false, zaR, zaS, zah, zam, sLoad, readAt, readNeed, Ints_ren, Ints_length, Ints_getD, and_true, true_and, zaL, zaM]) <;> (try rfl))
 | fail)
theorem rhcopy_spec (l : List Nd) (n : Int) (T : List Tk) (h : Int) (h1 : 1 ≤ l.length) (hl : l.length ≤ 1000000) (hT : T.length ≤ 1000000) : FnSpec Tryz.prog 49 [hyV l none n T none h] [] (.agg [.osl 0 0 l.length none, int n, .osl 1 0 T.length none, int h]) [some ⟨Cs l, 6⟩, some ⟨Cs T, 4⟩] := by
 have c1 := trcopy_spec l none n h1 hl
 have hcl := tk_len T
 have htk : zbd (T.length * 4) (Cs T) = Cs T := zbb (by rw [hcl]; exact zaX _)
 refine fnspec_of mixed TT_ok TT_cl ⟨fun _ => false, fun _ => [], 0, fun _ => false, fun _ => false⟩ Tryz.func49 rfl (by kernel_rfl) rfl 12 rfl [.cell 2 28] rfl ?_
 simp only [go_sem, zaa, zae, zaf, zag, zai, zad, ↓reduceIte, reduceCtorEq, zab, zac, zaj, zak, zal, htk]
 repeat' (first
 | with_reducible refine zaw ?_ ?_
 | (unfold OKC; kernel_rfl)
 | (unfold EDG; kernel_rfl)
 | (apply cl_plain
    case hs => rfl
    case ha => exact yea
    case h => (first | exact c1 ..))
 | ((first | refine s1_id ?_ | refine swp_id ?_ | refine sops_id ?_ | refine s2_id ?_); simp only [htk, zav, zay, zao, zaz, zaB, zas, zat, zaq, zaE, zaG, zau, zar, go_sem, zaa, zae, zaf, zag, zai, zad, ↓reduceIte, reduceCtorEq, zab, zac, zaj, zak, zal, zaP, zaN, zaJ, zaO, renO, bk, back, outUpsFrom, Ints_ren])
 | exact yeh
 | exact yeb | fail)
 (refine fs_flat [(4, ⟨Cs l, 6⟩), (7, ⟨Cs T, 4⟩)] (by simp) (by simp only [zah, zam]; decide) (by simp only [go_sem, resV, resS, zaP, zaN, zaJ, zba, zaW, idx, renO, zaO, evS, slot, lookR, zaa, ↓reduceIte, reduceCtorEq, if_true, if_false, zaR, zaS, zah, zam, sLoad, readAt, readNeed, Ints_ren, Ints_length, Ints_getD, and_true, true_and, zaL, zaM]; try decide) ?_ (by simp only [zan, zap, false_implies, implies_true, and_true, zaW, lookR, zaa, if_true, if_false, ↓reduceIte, Cs_flat] <;> (repeat' apply zaw) <;> (first | rfl | trivial)) (by simp only [zan, zap, false_implies, implies_true, and_true, true_and, flat_cons, flat_nil, flat_ints, flat_bools, flat_app, zaV, and_self, eq_self_iff_true, zao, Cs_flat]) ?_ <;> (try simp only [go_sem, resV, resS, zaP, zaN, zaJ, zba, zaW, idx, renO, zaO, evS, slot, lookR, zaa, ↓reduceIte, reduceCtorEq, if_true, if_false, zaR, zaS, zah, zam, sLoad, readAt, readNeed, Ints_ren, Ints_length, Ints_getD, and_true, true_and, zaL, zaM]) <;> (try rfl))
def rk6 (h : Int) (x : Tk) : Tk := ⟨h, if x.p = 0 then h else x.p, x.g, x.u⟩
set_option maxHeartbeats 8000000 in
theorem radd6_spec (l : List Nd) (n : Int) (T : List Tk) (h : Int) (x : Tk) (hl1 : 1 ≤ l.length) (hl : l.length ≤ 1000000) (hT : T.length ≤ 128) (hh : 1 ≤ h) : FnSpec Tryz.prog 78 [hyV l none n T none h, .agg (tkc x)] [] (.tup [hyQ (adR l n T h (rk6 h x)).1, i1 (adR l n T h (rk6 h x)).2.1, i1 (adR l n T h (rk6 h x)).2.2]) [] := by
 have hcl := tk_len T
 have h1 := rhcopy_spec l n T h hl1 hl (by omega)
 unfold adR
 by_cases a1 : T.length = 128
 · have a1' : 128 ≤ (T.length : Int) := by omega
   rw [if_pos a1]
   obtain ⟨ki, kp, kg, ku⟩ := x
   simp only [tkc, Cs_nil, zar]
   refine fnspec_of mixed TT_ok TT_cl ⟨fun _ => false, fun _ => [], 0, fun _ => false, fun _ => false⟩ Tryz.func78 rfl (by kernel_rfl) rfl 42 rfl [.cell 4 28, .tmp 5, .tmp 6] rfl ?_
   simp only [go_sem, zaa, zae, zaf, zag, zai, zad, ↓reduceIte, reduceCtorEq, zab, zac, zaj, zak, zal, ge_iff_le, decide_eq_true a1']
   repeat' (first
 | exact yeb | fail)
   repeat' (first
 | exact yec
 | fail)
 have a1' : ¬ 128 ≤ (T.length : Int) := by omega
 rw [if_neg a1]
 by_cases a2 : 2147483647 < h
 · rw [if_pos a2]
   obtain ⟨ki, kp, kg, ku⟩ := x
   simp only [tkc, Cs_nil, zar]
   refine fnspec_of mixed TT_ok TT_cl ⟨fun _ => false, fun _ => [], 0, fun _ => false, fun _ => false⟩ Tryz.func78 rfl (by kernel_rfl) rfl 42 rfl [.cell 4 28, .tmp 5, .tmp 6] rfl ?_
   simp only [go_sem, zaa, zae, zaf, zag, zai, zad, ↓reduceIte, reduceCtorEq, zab, zac, zaj, zak, zal, ge_iff_le, decide_eq_false a1', decide_eq_true a2]
   repeat' (first
 | exact yeb | fail)
   repeat' (first
 | exact yec
 | fail)
 rw [if_neg a2]
 have htk : zbd (T.length * 4) (Cs T) = Cs T := zbb (by rw [hcl]; exact zaX _)
 have hla : (T ++ [rk6 h x]).length = T.length + 1 := by simp
 by_cases hp : x.p = 0
 · have hpp : Cs T ++ [int h, int h, int x.g, int x.u] = Cs (T ++ [rk6 h x]) := by
     have := Cs_snoc T (rk6 h x)
     unfold rk6 at this ⊢
     rw [if_pos hp] at this ⊢
     exact this
   generalize T ++ [rk6 h x] = T2 at *
   show FnSpec Tryz.prog _ _ _ (.tup [.agg [.gsl (Cs l) 0 l.length none, int n, .gsl (Cs T2) 0 T2.length none, int (h + 1)], i1 h, i1 0]) _
   rw [hla]
   obtain ⟨ki, kp, kg, ku⟩ := x
   simp only [tkc] at hpp hp ⊢
   refine fnspec_of mixed TT_ok TT_cl ⟨fun _ => false, fun _ => [], 0, fun _ => false, fun _ => false⟩ Tryz.func78 rfl (by kernel_rfl) rfl 42 rfl [.cell 4 28, .tmp 5, .tmp 6] rfl ?_
   simp only [go_sem, zaa, zae, zaf, zag, zai, zad, ↓reduceIte, reduceCtorEq, zab, zac, zaj, zak, zal, ge_iff_le, decide_eq_false a1', decide_eq_false a2, decide_eq_true hp, htk, hpp]
   repeat' (first
 | with_reducible refine zaw ?_ ?_
 | (unfold OKC; kernel_rfl)
 | (unfold EDG; kernel_rfl)
 | (apply cl_plain
    case hs => rfl
    case ha => exact yea
    case h => exact yei)
 | ((first | refine s1_id ?_ | refine swp_id ?_ | refine sops_id ?_ | refine s2_id ?_); simp only [ge_iff_le, decide_eq_false a1', decide_eq_false a2, decide_eq_true hp, htk, hpp, zav, zay, zao, zaz, zaB, zas, zat, zaq, zaE, zaG, zau, zar, go_sem, zaa, zae, zaf, zag, zai, zad, ↓reduceIte, reduceCtorEq, zab, zac, zaj, zak, zal, zaP, zaN, zaJ, zaO, renO, bk, back, outUpsFrom, Ints_ren])
 | exact yeh
 | exact yeb | fail)
   (refine fs_frz 15 ⟨Cs l, 6⟩ (by simp only [zaW, lookR, zaa, if_true, if_false, ↓reduceIte]) (by first | exact Ints_isG _ | exact Bools_isG _ | exact Cs_isG _ | (simp [zbe]; done)) ?_; simp only [frzTm, SV.frz, SV.frzL, zbf, frzHp, frzO, Ints_frz, Bools_frz, zah, zam, zaa, if_true, if_false, ↓reduceIte])
   simp only [frzHp, frzO, Cs_frz, zah, zam]
   (refine fs_frz 34 ⟨Cs T2, 4⟩ (by simp only [zaW, lookR, zaa, if_true, if_false, ↓reduceIte]) (by first | exact Ints_isG _ | exact Bools_isG _ | exact Cs_isG _ | (simp [zbe]; done)) ?_; simp only [frzTm, SV.frz, SV.frzL, zbf, frzHp, frzO, Ints_frz, Bools_frz, zah, zam, zaa, if_true, if_false, ↓reduceIte])
   repeat' (first
 | exact yec
 | fail)
 · have hpp : Cs T ++ [int h, int x.p, int x.g, int x.u] = Cs (T ++ [rk6 h x]) := by
     have := Cs_snoc T (rk6 h x)
     unfold rk6 at this ⊢
     rw [if_neg hp] at this ⊢
     exact this
   generalize T ++ [rk6 h x] = T2 at *
   show FnSpec Tryz.prog _ _ _ (.tup [.agg [.gsl (Cs l) 0 l.length none, int n, .gsl (Cs T2) 0 T2.length none, int (h + 1)], i1 h, i1 0]) _
   rw [hla]
   obtain ⟨ki, kp, kg, ku⟩ := x
   simp only [tkc] at hpp hp ⊢
   refine fnspec_of mixed TT_ok TT_cl ⟨fun _ => false, fun _ => [], 0, fun _ => false, fun _ => false⟩ Tryz.func78 rfl (by kernel_rfl) rfl 42 rfl [.cell 4 28, .tmp 5, .tmp 6] rfl ?_
   simp only [go_sem, zaa, zae, zaf, zag, zai, zad, ↓reduceIte, reduceCtorEq, zab, zac, zaj, zak, zal, ge_iff_le, decide_eq_false a1', decide_eq_false a2, decide_eq_false hp, htk, hpp]
   repeat' (first
 | with_reducible refine zaw ?_ ?_
 | (unfold OKC; kernel_rfl)
 | (unfold EDG; kernel_rfl)
 | (apply cl_plain
    case hs => rfl
    case ha => exact yea
    case h => exact yei)
 | ((first | refine s1_id ?_ | refine swp_id ?_ | refine sops_id ?_ | refine s2_id ?_); simp only [ge_iff_le, decide_eq_false a1', decide_eq_false a2, decide_eq_false hp, htk, hpp, zav, zay, zao, zaz, zaB, zas, zat, zaq, zaE, zaG, zau, zar, go_sem, zaa, zae, zaf, zag, zai, zad, ↓reduceIte, reduceCtorEq, zab, zac, zaj, zak, zal, zaP, zaN, zaJ, zaO, renO, bk, back, outUpsFrom, Ints_ren])
 | exact yeh
 | exact yeb | fail)
   (refine fs_frz 15 ⟨Cs l, 6⟩ (by simp only [zaW, lookR, zaa, if_true, if_false, ↓reduceIte]) (by first | exact Ints_isG _ | exact Bools_isG _ | exact Cs_isG _ | (simp [zbe]; done)) ?_; simp only [frzTm, SV.frz, SV.frzL, zbf, frzHp, frzO, Ints_frz, Bools_frz, zah, zam, zaa, if_true, if_false, ↓reduceIte])
   simp only [frzHp, frzO, Cs_frz, zah, zam]
   (refine fs_frz 30 ⟨Cs T2, 4⟩ (by simp only [zaW, lookR, zaa, if_true, if_false, ↓reduceIte]) (by first | exact Ints_isG _ | exact Bools_isG _ | exact Cs_isG _ | (simp [zbe]; done)) ?_; simp only [frzTm, SV.frz, SV.frzL, zbf, frzHp, frzO, Ints_frz, Bools_frz, zah, zam, zaa, if_true, if_false, ↓reduceIte])
   repeat' (first
 | exact yec
 | fail)
end Go.Proofs.YtnahpejlhfeleabGreat
