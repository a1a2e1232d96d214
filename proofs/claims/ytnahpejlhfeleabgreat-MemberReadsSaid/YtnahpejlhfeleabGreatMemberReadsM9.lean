/- Contracts of functions, told of values, on the way to MemberReads (part 9). -/
import Derived.Test.YtnahpejlhfeleabGreatMemberReadsM3
import Derived.Test.YtnahpejlhfeleabGreatMemberReadsM8
import Derived.Test.YtnahpejlhfeleabGreatMemberReadsM7
import Derived.Test.YtnahpejlhfeleabGreatMemberReadsM6
namespace Go.Proofs.YtnahpejlhfeleabGreat
theorem yia {p : Prop} (h : p := by first | (intros; (try simp only [zaF, zaH, zaE, zaD, zaA, zaC, decide_eq_true_eq, decide_eq_false_iff_not] at *); omega) | fail) : p := h
theorem yib {p : Prop} (h : p := by first | (simp only [zae, zai, prepV, prepC, idx, hpL', lookR, zaa, if_true, if_false]; rfl) | fail) : p := h
theorem yic {p : Prop} (h : p := by first | (simp only [zab, zad, false_implies, implies_true, and_true, true_and, flat_cons, flat_nil, flat_ints, flat_bools, flat_app, Cs_flat, zaN, and_self, eq_self_iff_true, zaf]) | fail) : p := h
theorem yid {p : Prop} (h : p := by first | (simp only [zae, zai, hpL', lookR, zaa, if_true, if_false]; first | exact map1 _ | exact map2 _ _ | exact map3 _ _ _) | fail) : p := h
theorem yie {p : Prop} (h : p := by first | (simp only [zah, zan]; decide) | fail) : p := h
theorem yif {p : Prop} (h : p := by first | (intros; omega) | fail) : p := h
theorem yig {p : Prop} (h : p := by first | (first | exact f1 .. | exact f2 .. | exact t1 .. | exact t2 .. | exact t3 .. | exact p1 .. | exact p2 .. | exact p3 .. | exact h1 .. | exact h2 .. | exact h3 .. | exact o1 .. | exact o2 .. | exact o3 .. | exact o4 ..) | fail) : p := h
theorem yih {p : Prop} (h : p := by first | (first | exact h1 ..) | fail) : p := h
theorem yii {p : Prop} (h : p := by first | (first | exact n1 .. | exact n2 .. | exact a9 ..) | fail) : p := h
end Go.Proofs.YtnahpejlhfeleabGreat
-- short names of the library's lemmas
open Nat renaming reduceEqDiff → zaa, reduceLeDiff → zaj, reduceAdd → zar, reduceSub → zas, reduceMul → zat, reduceLT → zav, le_of_ble_eq_true → zaJ, zero_le → zaV, lt_or_ge → zbg, le_refl → zbo
open List renaming forall_mem_cons → zab, reduceReplicate → zac, not_mem_nil → zad, map_cons → zae, append_nil → zaf, length_cons → zah, map_nil → zai, take_succ_cons → zak, set_cons_zero → zal, set_cons_succ → zam, length_nil → zan, flatten_cons → zao, flatten_nil → zap, cons_append → zaq, nil_append → zau, take_zero → zaz, take_nil → zaB, getD_cons_zero → zaL, getD_cons_succ → zaM, length_drop → zaW, take_of_length_le → zaX, length_set → zaY, mem_cons_self → zba, mem_cons → zbb, take_append_of_le_length → zbc, drop_of_length_le → zbd, length_append → zbe, length_filter_le → zbh, mem_cons_of_mem → zbj, take → zbk, length_take → zbl, length_map → zbm
open Int renaming cast_ofNat_Int → zag, reduceEq → zaw, reduceLT → zax, reduceLE → zay, natCast_add → zaK
open Option renaming getD_some → zaO, getD_none → zaP
open Bool renaming and_eq_false_iff → zaA, or_eq_false_iff → zaC, not_eq_false' → zaD, not_eq_true' → zaE, and_eq_true → zaF, or_eq_true → zaH
open And renaming intro → zaG
open Go.Proofs.YtnahpejlhfeleabGreat.Sh.Cell renaming ren → zaI, refs → zaN, frz → zaU, isG → zaZ
open Go.Proofs.YtnahpejlhfeleabGreat.Sh.SV renaming ren → zaR, renL → zaT, frzL → zbf, frz → zbn
open Go.Proofs.YtnahpejlhfeleabGreat.Sh.Row renaming ren → zaQ
open Go.Proofs.YtnahpejlhfeleabGreat.Sh.St renaming hpF → zaS, tmF → zbi
set_option linter.unusedSimpArgs false
set_option linter.unusedVariables false
namespace Go.Proofs.YtnahpejlhfeleabGreat
open Go.Proofs.YtnahpejlhfeleabGreat.Sh
set_option maxRecDepth 20000
def usV (D : List Int) (j : Nat) : Int := [0, 1, 2, 1, 7, -1, 1048576, 1048577].getD (nxV D j 8).toNat 0
theorem usr_spec (D : List Int) (j : Nat) (hl : D.length ≤ 600) (hr : ∀ x ∈ D, -9223372036854775808 ≤ x ∧ x ≤ 9223372036854775807) : FnSpec Tryz.prog 31 [dp] [dice D j] (i1 (usV D j)) [some (dice D (nxA D j 8))] := by
 have h := next_spec D j 8 hl hr (by decide)
 have hn := nx_rng D j 8 (by decide)
 unfold usV
 obtain ⟨x, hx⟩ : ∃ x, nxV D j 8 = x := ⟨_, rfl⟩
 rw [hx] at h hn
 rw [hx]
 clear hx
 have hc : x = 0 ∨ x = 1 ∨ x = 2 ∨ x = 3 ∨ x = 4 ∨ x = 5 ∨ x = 6 ∨ x = 7 := by omega
 rcases hc with rfl | rfl | rfl | rfl | rfl | rfl | rfl | rfl <;>
 · refine fnspec_of mixed TT_ok TT_cl ⟨fun _ => false, lendN, 1, fun _ => false, fun _ => false⟩ Tryz.func31 rfl (by kernel_rfl) rfl 8 rfl [.tmp 2] rfl ?_
   simp only [go_sem, zaa, zar, zas, zat, zav, zaj, ↓reduceIte, reduceCtorEq, zac, zag, zaw, zax, zay, lendN]
   repeat' (first
 | with_reducible refine zaG ?_ ?_
 | (apply cl_lend
    case hr => exact yid
    case ha => exact yib
    case hs => rfl
    case hn => decide
    case h => (first | exact h ..)
    case hf => exact yic
    case hl => exact yie)
 | ((first | refine s1_id ?_ | refine swp_id ?_ | refine sops_id ?_ | refine s2_id ?_); simp only [lendN, dice, zao, zap, zaf, zaq, zau, zal, zam, zak, zaz, zaB, zah, zan, go_sem, zaa, zar, zas, zat, zav, zaj, ↓reduceIte, reduceCtorEq, zac, zag, zaw, zax, zay, zaR, zaT, zaI, zaQ, renO, bk, back, outUpsFrom, Ints_ren])
 | exact yif
 | exact yia | fail)
   (refine fs_flat [(0, dice D (nxA D j 8))] (by simp) (by simp only [zae, zai]; decide) (by simp only [go_sem, resV, resS, zaR, zaT, zaI, zbi, zaS, idx, renO, zaQ, evS, slot, lookR, zaa, ↓reduceIte, reduceCtorEq, if_true, if_false, zaO, zaP, zae, zai, sLoad, readAt, readNeed, Ints_ren, Ints_length, Ints_getD, and_true, true_and, zaL, zaM]; try decide) ?_ (by simp only [zab, zad, false_implies, implies_true, and_true, zaS, lookR, zaa, if_true, if_false, ↓reduceIte, dice] <;> (repeat' apply zaG) <;> (first | rfl | trivial)) (by simp only [zab, zad, false_implies, implies_true, and_true, true_and, flat_cons, flat_nil, flat_ints, flat_bools, flat_app, zaN, and_self, eq_self_iff_true, zaf, dice]) ?_ <;> (try simp only [go_sem, resV, resS, zaR, zaT, zaI, zbi, zaS, idx, renO, zaQ, evS, slot, lookR, zaa, ↓reduceIte, reduceCtorEq, if_true, if_false, zaO, zaP, zae, zai, sLoad, readAt, readNeed, Ints_ren, Ints_length, Ints_getD, and_true, true_and, zaL, zaM]) <;> (try rfl))
theorem hword_spec (l : List Int) (i : Nat) (hl : l.length ≤ 600) (hr : ∀ x ∈ l, -9223372036854775808 ≤ x ∧ x ≤ 9223372036854775807) : FnSpec Tryz.prog 50 [dp] [dice l i] (s1 (wdV l i)) [some (dice l (nxA l i 12))] := by
 have h1 := next_spec l i 12 hl hr (by omega)
 have h2 := nx_rng l i 12 (by omega)
 have hat := Strs_getD' wdL (nxV l i 12).toNat (.sc (.string (bs []))) (by show _ < 12; omega)
 simp only [Strs, wdL, zae, zai, zac] at hat
 unfold wdV wdL
 generalize nxV l i 12 = x at *
 generalize nxA l i 12 = j at *
 refine fnspec_of mixed TT_ok TT_cl ⟨fun _ => false, fun f => if f = 42 then [0] else [], 1, fun _ => false, fun _ => false⟩ Tryz.func50 rfl (by kernel_rfl) rfl 8 rfl [.tmp 2] rfl ?_
 simp only [go_sem, zaa, zar, zas, zat, zav, zaj, ↓reduceIte, reduceCtorEq, zac, zag, zaw, zax, zay]
 repeat' (first
 | with_reducible refine zaG ?_ ?_
 | (apply cl_lend
    case hr => exact yid
    case ha => exact yib
    case hs => rfl
    case hn => decide
    case h => exact yih
    case hf => exact yic
    case hl => exact yie)
 | ((first | refine s1_id ?_ | refine swp_id ?_ | refine sops_id ?_ | refine s2_id ?_); simp only [hat, dice, zac, go_sem, zaa, zar, zas, zat, zav, zaj, ↓reduceIte, reduceCtorEq, zac, zag, zaw, zax, zay, zaR, zaT, zaI, zaQ, renO, bk, back, outUpsFrom, Ints_ren])
 | exact yif
 | fail)
 (refine fs_flat [(0, dice l j)] (by simp) (by simp only [zae, zai]; decide) (by simp only [go_sem, resV, resS, zaR, zaT, zaI, zbi, zaS, idx, renO, zaQ, evS, slot, lookR, zaa, ↓reduceIte, reduceCtorEq, if_true, if_false, zaO, zaP, zae, zai, sLoad, readAt, readNeed, Ints_ren, Ints_length, Ints_getD, and_true, true_and, zaL, zaM]; try decide) ?_ (by simp only [zab, zad, false_implies, implies_true, and_true, zaS, lookR, zaa, if_true, if_false, ↓reduceIte] <;> (repeat' apply zaG) <;> (first | rfl | trivial)) (by simp only [zab, zad, false_implies, implies_true, and_true, true_and, flat_cons, flat_nil, flat_ints, flat_bools, flat_app, zaN, and_self, eq_self_iff_true, zaf]) ?_ <;> (try simp only [go_sem, resV, resS, zaR, zaT, zaI, zbi, zaS, idx, renO, zaQ, evS, slot, lookR, zaa, ↓reduceIte, reduceCtorEq, if_true, if_false, zaO, zaP, zae, zai, sLoad, readAt, readNeed, Ints_ren, Ints_length, Ints_getD, and_true, true_and, zaL, zaM]) <;> (try rfl))
def ohK (D : List Int) (j : Nat) (l : List Nd) (n h : Int) (t : Nat) (v : Int) : (List Nd × Int × Int) × Nat :=
  if v = 0 then ((l.set t { gN l t with i := nxV D j 9 }, n, h), nxA D j 9)
  else if v = 1 then ((l.set t { gN l t with p := nxV D j 9 }, n, h), nxA D j 9)
  else if v = 2 then ((l.set t { gN l t with nm := wdV D j }, n, h), nxA D j 12)
  else if v = 3 then ((l.set t { gN l t with c := ctV D j }, n, h), nxA D j 9)
  else if v = 4 then ((l.set t { gN l t with k := nxV D j 4 - 1 }, n, h), nxA D j 4)
  else if v = 5 then ((l.set t { gN l t with o := usV D j }, n, h), nxA D j 8)
  else if v = 6 then ((l, nxV D j 9, h), nxA D j 9)
  else if v = 7 then ((l, n, nxV D j 9), nxA D j 9)
  else if v = 8 then ((l ++ [gN l t], n, h), j)
  else ((l, n, h), j)
def ohT (D : List Int) (j : Nat) (T : List Tk) (t : Nat) (v : Int) : List Tk × Nat :=
  if v = 0 then (T.set t { gT T t with i := nxV D j 9 }, nxA D j 9)
  else if v = 1 then (T.set t { gT T t with p := nxV D j 9 }, nxA D j 9)
  else if v = 2 then (T.set t { gT T t with g := nxV D j 9 }, nxA D j 9)
  else if v = 3 then (T.set t { gT T t with u := usV D j }, nxA D j 8)
  else (T, j)
def ohU (D : List Int) (T : List Tk) (j : Nat) : List Tk × Nat := if T.length = 0 then (T, j) else ohT D (nxA D (nxA D j T.length) 8) T (nxV D j T.length).toNat (nxV D (nxA D j T.length) 8)
def ohL (D : List Int) (j : Nat) (l : List Nd) (n h : Int) : (List Nd × Int × Int) × Nat := ohK D (nxA D (nxA D j l.length) 12) l n h (nxV D j l.length).toNat (nxV D (nxA D j l.length) 12)
def ohM (D : List Int) (j : Nat) (q : Hy) : Hy × Nat := (((ohL D j q.1 q.2.1 q.2.2.2).1.1, (ohL D j q.1 q.2.1 q.2.2.2).1.2.1, (ohU D q.2.2.1 (ohL D j q.1 q.2.1 q.2.2.2).2).1, (ohL D j q.1 q.2.1 q.2.2.2).1.2.2), (ohU D q.2.2.1 (ohL D j q.1 q.2.1 q.2.2.2).2).2)
theorem nd_setf (l : List Nd) (t o : Nat) (v : Nd) (c : Cell) (ht : t < l.length) (ho : o < 6) (h : ndc v = (ndc (gN l t)).set o c) : (Cs l).set (t * 6 + o) c = Cs (l.set t v) := Cs_setf l t o v c ht ho h
theorem tk_setf (l : List Tk) (t o : Nat) (v : Tk) (c : Cell) (ht : t < l.length) (ho : o < 4) (h : tkc v = (tkc (gT l t)).set o c) : (Cs l).set (t * 4 + o) c = Cs (l.set t v) := Cs_setf l t o v c ht ho h
theorem oh_len (D : List Int) (j : Nat) (l : List Nd) (n h : Int) : l.length ≤ (ohL D j l n h).1.1.length ∧ (ohL D j l n h).1.1.length ≤ l.length + 1 := by
 unfold ohL ohK
 repeat' split
 all_goals simp only [zaY, snoc_len]
 all_goals omega
theorem oh_tl (D : List Int) (T : List Tk) (j : Nat) : (ohU D T j).1.length = T.length := by
 unfold ohU ohT
 repeat' split
 all_goals simp only [zaY]
def lendH : FuncId → List Nat := fun f => if f = 42 then [0] else if f = 50 then [0] else if f = 51 then [0] else if f = 31 then [0] else []
set_option maxHeartbeats 16000000 in
theorem oddh6_spec (D : List Int) (hl : D.length ≤ 600) (hr : ∀ x ∈ D, -9223372036854775808 ≤ x ∧ x ≤ 9223372036854775807) (j : Nat) (l : List Nd) (n : Int) (T : List Tk) (h : Int) (h1 : 1 ≤ l.length) (hL : l.length ≤ 1000) (hT : T.length ≤ 1000) : FnSpec Tryz.prog 10 [dp, hyV l none n T none h] [dice D j] (hyQ (ohM D j (l, n, T, h)).1) [some (dice D (ohM D j (l, n, T, h)).2)] := by
 have c1 := rhcopy_spec l n T h h1 (by omega) (by omega)
 have n1 := next_spec D j l.length hl hr (by omega)
 have r1 := nx_rng D j l.length (by omega)
 have hol := oh_len D j l n h
 obtain ⟨S, hS⟩ : ∃ S, ohL D j l n h = S := ⟨_, rfl⟩
 unfold ohM
 simp only
 rw [hS] at hol ⊢
 unfold ohL at hS
 generalize nxA D j l.length = j1 at *
 obtain ⟨t, ht, htl⟩ : ∃ t : Nat, nxV D j l.length = t ∧ t < l.length := ⟨(nxV D j l.length).toNat, by omega, by omega⟩
 rw [ht] at n1
 rw [ht, Int.toNat_natCast] at hS
 have n2 := next_spec D j1 12 hl hr (by decide)
 have r2 := nx_rng D j1 12 (by decide)
 obtain ⟨v, hv⟩ : ∃ v, nxV D j1 12 = v := ⟨_, rfl⟩
 rw [hv] at n2 r2 hS
 generalize nxA D j1 12 = j2 at *
 clear ht hv r1
 have hlc := nd_len l
 have htc := tk_len T
 have htl' : (t : Int) < (l.length : Int) := by omega
 obtain ⟨⟨l', n', h'⟩, j'⟩ := S
 simp only at hol ⊢
 have a9 := next_spec D j2 9 hl hr (by decide)
 have a4 := next_spec D j2 4 hl hr (by decide)
 have aw := hword_spec D j2 hl hr
 have ac := ctl_spec D j2 hl hr
 have au := usr_spec D j2 hl hr
 have r4 := nx_rng D j2 4 (by decide)
 have hat := nd_td l t htl
 have hsn : Cs l ++ [int (gN l t).i, int (gN l t).p, st (gN l t).nm, int (gN l t).c, int (gN l t).k, int (gN l t).o] = Cs (l ++ [gN l t]) := Cs_snoc l (gN l t)
 have hla : zbk (l.length * 6) (Cs l) = Cs l := Cs_all l _ (zbo _)
 refine fnspec_of mixed TT_ok TT_cl ⟨fun i => if i = 22 then true else false, lendH, 1, fun _ => false, fun _ => false⟩ Tryz.func10 rfl (by kernel_rfl) rfl 131 rfl [.cell 4 28] rfl ?_
 simp only [go_sem, zaa, zar, zas, zat, zav, zaj, ↓reduceIte, reduceCtorEq, zac, zag, zaw, zax, zay, lendH, dice, decide_eq_true htl', zao, zap, zaf, zaq, zau, zal, zam, zak, zaz, zaB, zah, zan]
 repeat' (first
 | with_reducible refine zaG ?_ ?_
 | (unfold OKC; kernel_rfl)
 | (unfold EDG; kernel_rfl)
 | (apply cl_plain
    case hs => rfl
    case ha => exact yib
    case h => (first | exact c1 .. | exact n1 .. | exact n2 ..))
 | (apply cl_lend
    case hr => exact yid
    case ha => exact yib
    case hs => rfl
    case hn => decide
    case h => (first | exact c1 .. | exact n1 .. | exact n2 ..)
    case hf => exact yic
    case hl => exact yie)
 | ((first | refine s1_id ?_ | refine swp_id ?_ | refine sops_id ?_ | refine s2_id ?_); simp only [lendH, dice, decide_eq_true htl', zao, zap, zaf, zaq, zau, zal, zam, zak, zaz, zaB, zah, zan, go_sem, zaa, zar, zas, zat, zav, zaj, ↓reduceIte, reduceCtorEq, zac, zag, zaw, zax, zay, zaR, zaT, zaI, zaQ, renO, bk, back, outUpsFrom, Ints_ren])
 | exact yif
 | exact yia | fail)
 refine cd_cut1 ⟨[(0, dp), (4, .one (.optr 1 0)), (5, .one (.optr 2 0))], [(0, some (dice D j')), (1, some ⟨[.sc (.slice none 0 0), int 0, .sc (.slice none 0 0), int 0], 4⟩), (2, some ⟨[.osl 3 0 l'.length none, int n', .osl 4 0 T.length none, int h'], 4⟩), (3, some ⟨Cs l', 6⟩), (4, some ⟨Cs T, 4⟩)], 5⟩ (fun hc => ?_) (fun hc => ?_) ?_
 · have hc := of_decide_eq_true hc
   unfold ohK at hS
   rw [if_pos (by omega)] at hS
   simp only [Prod.mk.injEq] at hS
   obtain ⟨⟨rfl, rfl, rfl⟩, rfl⟩ := hS
   have hpt := nd_setf l t 0 { gN l t with i := nxV D j2 9 } (int (nxV D j2 9)) htl (by decide) rfl
   rw [Nat.add_zero] at hpt
   simp only [go_sem, zaa, zar, zas, zat, zav, zaj, ↓reduceIte, reduceCtorEq, zac, zag, zaw, zax, zay, decide_eq_true (by omega : v = 0), hpt, hlc, lendH, dice, zao, zap, zaf, zaq, zau, zal, zam, zak, zaz, zaB, zah, zan]
   repeat' (first
 | with_reducible refine zaG ?_ ?_
 | (apply cl_lend
    case hr => exact yid
    case ha => exact yib
    case hs => rfl
    case hn => decide
    case h => (first | exact a9 ..)
    case hf => exact yic
    case hl => exact yie)
 | ((first | refine s1_id ?_ | refine swp_id ?_ | refine sops_id ?_ | refine s2_id ?_); simp only [decide_eq_true (by omega : v = 0), hpt, hlc, lendH, dice, zao, zap, zaf, zaq, zau, zal, zam, zak, zaz, zaB, zah, zan, go_sem, zaa, zar, zas, zat, zav, zaj, ↓reduceIte, reduceCtorEq, zac, zag, zaw, zax, zay, zaR, zaT, zaI, zaQ, renO, bk, back, outUpsFrom, Ints_ren])
 | exact yif
 | exact yia | fail)
   refine ⟨_, ?_, rfl⟩
   (refine imp_sub _ _ _ [(0, 0), (1, 2), (2, 6), (3, 4), (4, 5)] (by simp) (by simp) (by simp) (zaJ rfl) ?_ (by simp only [zae, zai, zaS, lookR, renO, zaQ, zaI, toN, Ints_ren, Bools_ren, zaa, if_true, if_false, ↓reduceIte, Cs_ren, Cs_flat, dice, zaY] <;> (try rfl)) (by simp only [zab, zad, false_implies, implies_true, and_true, zaS, lookR, zaa, if_true, if_false, ↓reduceIte, Option.some.injEq, forall_eq'] <;> ((repeat' with_reducible apply zaG) <;> (first | with_reducible trivial | exact fun c hc q hq => absurd hq (Ints_refs0 _ _ c hc) | exact fun c hc q hq => absurd hq (by rw [Cs_flat _ c hc]; exact zad) | (simp [zaN, toN]; done)))); simp only [zae, zai, zab, zad, false_implies, implies_true, and_true, lk, slot, zaR, zaI, toN, zaa, if_true, if_false, ↓reduceIte, reduceCtorEq])
   all_goals ((repeat' apply zaG) <;> (first | rfl | trivial))
 · have hc := of_decide_eq_false hc
   have hv : v = 1 ∨ v = 2 ∨ v = 3 ∨ v = 4 ∨ v = 5 ∨ v = 6 ∨ v = 7 ∨ v = 8 ∨ 9 ≤ v := by omega
   rcases hv with hv | hv | hv | hv | hv | hv | hv | hv | hv
   · unfold ohK at hS
     rw [if_neg (by omega), if_pos (by omega)] at hS
     simp only [Prod.mk.injEq] at hS
     obtain ⟨⟨rfl, rfl, rfl⟩, rfl⟩ := hS
     have hpt := nd_setf l t 1 { gN l t with p := nxV D j2 9 } (int (nxV D j2 9)) htl (by decide) rfl
     simp only [go_sem, zaa, zar, zas, zat, zav, zaj, ↓reduceIte, reduceCtorEq, zac, zag, zaw, zax, zay, decide_eq_false (by omega : ¬ v = 0), decide_eq_true (by omega : v = 1), hpt, hlc, lendH, dice, zao, zap, zaf, zaq, zau, zal, zam, zak, zaz, zaB, zah, zan]
     repeat' (first
 | with_reducible refine zaG ?_ ?_
 | (apply cl_lend
    case hr => exact yid
    case ha => exact yib
    case hs => rfl
    case hn => decide
    case h => (first | exact a9 ..)
    case hf => exact yic
    case hl => exact yie)
 | ((first | refine s1_id ?_ | refine swp_id ?_ | refine sops_id ?_ | refine s2_id ?_); simp only [decide_eq_false (by omega : ¬ v = 0), decide_eq_true (by omega : v = 1), hpt, hlc, lendH, dice, zao, zap, zaf, zaq, zau, zal, zam, zak, zaz, zaB, zah, zan, go_sem, zaa, zar, zas, zat, zav, zaj, ↓reduceIte, reduceCtorEq, zac, zag, zaw, zax, zay, zaR, zaT, zaI, zaQ, renO, bk, back, outUpsFrom, Ints_ren])
 | exact yif
 | exact yia | fail)
     refine ⟨_, ?_, rfl⟩
     (refine imp_sub _ _ _ [(0, 0), (1, 2), (2, 6), (3, 4), (4, 5)] (by simp) (by simp) (by simp) (zaJ rfl) ?_ (by simp only [zae, zai, zaS, lookR, renO, zaQ, zaI, toN, Ints_ren, Bools_ren, zaa, if_true, if_false, ↓reduceIte, Cs_ren, Cs_flat, dice, zaY] <;> (try rfl)) (by simp only [zab, zad, false_implies, implies_true, and_true, zaS, lookR, zaa, if_true, if_false, ↓reduceIte, Option.some.injEq, forall_eq'] <;> ((repeat' with_reducible apply zaG) <;> (first | with_reducible trivial | exact fun c hc q hq => absurd hq (Ints_refs0 _ _ c hc) | exact fun c hc q hq => absurd hq (by rw [Cs_flat _ c hc]; exact zad) | (simp [zaN, toN]; done)))); simp only [zae, zai, zab, zad, false_implies, implies_true, and_true, lk, slot, zaR, zaI, toN, zaa, if_true, if_false, ↓reduceIte, reduceCtorEq])
     all_goals ((repeat' apply zaG) <;> (first | rfl | trivial))
   · unfold ohK at hS
     rw [if_neg (by omega), if_neg (by omega), if_pos (by omega)] at hS
     simp only [Prod.mk.injEq] at hS
     obtain ⟨⟨rfl, rfl, rfl⟩, rfl⟩ := hS
     have hpt := nd_setf l t 2 { gN l t with nm := wdV D j2 } (st (wdV D j2)) htl (by decide) rfl
     simp only [go_sem, zaa, zar, zas, zat, zav, zaj, ↓reduceIte, reduceCtorEq, zac, zag, zaw, zax, zay, decide_eq_false (by omega : ¬ v = 0), decide_eq_false (by omega : ¬ v = 1), decide_eq_true (by omega : v = 2), hpt, hlc, lendH, dice, zao, zap, zaf, zaq, zau, zal, zam, zak, zaz, zaB, zah, zan]
     repeat' (first
 | with_reducible refine zaG ?_ ?_
 | (apply cl_lend
    case hr => exact yid
    case ha => exact yib
    case hs => rfl
    case hn => decide
    case h => (first | exact aw ..)
    case hf => exact yic
    case hl => exact yie)
 | ((first | refine s1_id ?_ | refine swp_id ?_ | refine sops_id ?_ | refine s2_id ?_); simp only [decide_eq_false (by omega : ¬ v = 0), decide_eq_false (by omega : ¬ v = 1), decide_eq_true (by omega : v = 2), hpt, hlc, lendH, dice, zao, zap, zaf, zaq, zau, zal, zam, zak, zaz, zaB, zah, zan, go_sem, zaa, zar, zas, zat, zav, zaj, ↓reduceIte, reduceCtorEq, zac, zag, zaw, zax, zay, zaR, zaT, zaI, zaQ, renO, bk, back, outUpsFrom, Ints_ren])
 | exact yif
 | exact yia | fail)
     refine ⟨_, ?_, rfl⟩
     (refine imp_sub _ _ _ [(0, 0), (1, 2), (2, 6), (3, 4), (4, 5)] (by simp) (by simp) (by simp) (zaJ rfl) ?_ (by simp only [zae, zai, zaS, lookR, renO, zaQ, zaI, toN, Ints_ren, Bools_ren, zaa, if_true, if_false, ↓reduceIte, Cs_ren, Cs_flat, dice, zaY] <;> (try rfl)) (by simp only [zab, zad, false_implies, implies_true, and_true, zaS, lookR, zaa, if_true, if_false, ↓reduceIte, Option.some.injEq, forall_eq'] <;> ((repeat' with_reducible apply zaG) <;> (first | with_reducible trivial | exact fun c hc q hq => absurd hq (Ints_refs0 _ _ c hc) | exact fun c hc q hq => absurd hq (by rw [Cs_flat _ c hc]; exact zad) | (simp [zaN, toN]; done)))); simp only [zae, zai, zab, zad, false_implies, implies_true, and_true, lk, slot, zaR, zaI, toN, zaa, if_true, if_false, ↓reduceIte, reduceCtorEq])
     all_goals ((repeat' apply zaG) <;> (first | rfl | trivial))
   · unfold ohK at hS
     rw [if_neg (by omega), if_neg (by omega), if_neg (by omega), if_pos (by omega)] at hS
     simp only [Prod.mk.injEq] at hS
     obtain ⟨⟨rfl, rfl, rfl⟩, rfl⟩ := hS
     have hpt := nd_setf l t 3 { gN l t with c := ctV D j2 } (int (ctV D j2)) htl (by decide) rfl
     simp only [go_sem, zaa, zar, zas, zat, zav, zaj, ↓reduceIte, reduceCtorEq, zac, zag, zaw, zax, zay, decide_eq_false (by omega : ¬ v = 0), decide_eq_false (by omega : ¬ v = 1), decide_eq_false (by omega : ¬ v = 2), decide_eq_true (by omega : v = 3), hpt, hlc, lendH, dice, zao, zap, zaf, zaq, zau, zal, zam, zak, zaz, zaB, zah, zan]
     repeat' (first
 | with_reducible refine zaG ?_ ?_
 | (apply cl_lend
    case hr => exact yid
    case ha => exact yib
    case hs => rfl
    case hn => decide
    case h => (first | exact ac ..)
    case hf => exact yic
    case hl => exact yie)
 | ((first | refine s1_id ?_ | refine swp_id ?_ | refine sops_id ?_ | refine s2_id ?_); simp only [decide_eq_false (by omega : ¬ v = 0), decide_eq_false (by omega : ¬ v = 1), decide_eq_false (by omega : ¬ v = 2), decide_eq_true (by omega : v = 3), hpt, hlc, lendH, dice, zao, zap, zaf, zaq, zau, zal, zam, zak, zaz, zaB, zah, zan, go_sem, zaa, zar, zas, zat, zav, zaj, ↓reduceIte, reduceCtorEq, zac, zag, zaw, zax, zay, zaR, zaT, zaI, zaQ, renO, bk, back, outUpsFrom, Ints_ren])
 | exact yif
 | exact yia | fail)
     refine ⟨_, ?_, rfl⟩
     (refine imp_sub _ _ _ [(0, 0), (1, 2), (2, 6), (3, 4), (4, 5)] (by simp) (by simp) (by simp) (zaJ rfl) ?_ (by simp only [zae, zai, zaS, lookR, renO, zaQ, zaI, toN, Ints_ren, Bools_ren, zaa, if_true, if_false, ↓reduceIte, Cs_ren, Cs_flat, dice, zaY] <;> (try rfl)) (by simp only [zab, zad, false_implies, implies_true, and_true, zaS, lookR, zaa, if_true, if_false, ↓reduceIte, Option.some.injEq, forall_eq'] <;> ((repeat' with_reducible apply zaG) <;> (first | with_reducible trivial | exact fun c hc q hq => absurd hq (Ints_refs0 _ _ c hc) | exact fun c hc q hq => absurd hq (by rw [Cs_flat _ c hc]; exact zad) | (simp [zaN, toN]; done)))); simp only [zae, zai, zab, zad, false_implies, implies_true, and_true, lk, slot, zaR, zaI, toN, zaa, if_true, if_false, ↓reduceIte, reduceCtorEq])
     all_goals ((repeat' apply zaG) <;> (first | rfl | trivial))
   · unfold ohK at hS
     rw [if_neg (by omega), if_neg (by omega), if_neg (by omega), if_neg (by omega), if_pos (by omega)] at hS
     simp only [Prod.mk.injEq] at hS
     obtain ⟨⟨rfl, rfl, rfl⟩, rfl⟩ := hS
     have hpt := nd_setf l t 4 { gN l t with k := nxV D j2 4 - 1 } (int (nxV D j2 4 - 1)) htl (by decide) rfl
     simp only [go_sem, zaa, zar, zas, zat, zav, zaj, ↓reduceIte, reduceCtorEq, zac, zag, zaw, zax, zay, decide_eq_false (by omega : ¬ v = 0), decide_eq_false (by omega : ¬ v = 1), decide_eq_false (by omega : ¬ v = 2), decide_eq_false (by omega : ¬ v = 3), decide_eq_true (by omega : v = 4), hpt, hlc, lendH, dice, zao, zap, zaf, zaq, zau, zal, zam, zak, zaz, zaB, zah, zan]
     repeat' (first
 | with_reducible refine zaG ?_ ?_
 | (apply cl_lend
    case hr => exact yid
    case ha => exact yib
    case hs => rfl
    case hn => decide
    case h => (first | exact a4 ..)
    case hf => exact yic
    case hl => exact yie)
 | ((first | refine s1_id ?_ | refine swp_id ?_ | refine sops_id ?_ | refine s2_id ?_); simp only [decide_eq_false (by omega : ¬ v = 0), decide_eq_false (by omega : ¬ v = 1), decide_eq_false (by omega : ¬ v = 2), decide_eq_false (by omega : ¬ v = 3), decide_eq_true (by omega : v = 4), hpt, hlc, lendH, dice, zao, zap, zaf, zaq, zau, zal, zam, zak, zaz, zaB, zah, zan, go_sem, zaa, zar, zas, zat, zav, zaj, ↓reduceIte, reduceCtorEq, zac, zag, zaw, zax, zay, zaR, zaT, zaI, zaQ, renO, bk, back, outUpsFrom, Ints_ren])
 | exact yif
 | exact yia | fail)
     refine ⟨_, ?_, rfl⟩
     (refine imp_sub _ _ _ [(0, 0), (1, 2), (2, 6), (3, 4), (4, 5)] (by simp) (by simp) (by simp) (zaJ rfl) ?_ (by simp only [zae, zai, zaS, lookR, renO, zaQ, zaI, toN, Ints_ren, Bools_ren, zaa, if_true, if_false, ↓reduceIte, Cs_ren, Cs_flat, dice, zaY] <;> (try rfl)) (by simp only [zab, zad, false_implies, implies_true, and_true, zaS, lookR, zaa, if_true, if_false, ↓reduceIte, Option.some.injEq, forall_eq'] <;> ((repeat' with_reducible apply zaG) <;> (first | with_reducible trivial | exact fun c hc q hq => absurd hq (Ints_refs0 _ _ c hc) | exact fun c hc q hq => absurd hq (by rw [Cs_flat _ c hc]; exact zad) | (simp [zaN, toN]; done)))); simp only [zae, zai, zab, zad, false_implies, implies_true, and_true, lk, slot, zaR, zaI, toN, zaa, if_true, if_false, ↓reduceIte, reduceCtorEq])
     all_goals ((repeat' apply zaG) <;> (first | rfl | trivial))
   · unfold ohK at hS
     rw [if_neg (by omega), if_neg (by omega), if_neg (by omega), if_neg (by omega), if_neg (by omega), if_pos (by omega)] at hS
     simp only [Prod.mk.injEq] at hS
     obtain ⟨⟨rfl, rfl, rfl⟩, rfl⟩ := hS
     have hpt := nd_setf l t 5 { gN l t with o := usV D j2 } (int (usV D j2)) htl (by decide) rfl
     simp only [go_sem, zaa, zar, zas, zat, zav, zaj, ↓reduceIte, reduceCtorEq, zac, zag, zaw, zax, zay, decide_eq_false (by omega : ¬ v = 0), decide_eq_false (by omega : ¬ v = 1), decide_eq_false (by omega : ¬ v = 2), decide_eq_false (by omega : ¬ v = 3), decide_eq_false (by omega : ¬ v = 4), decide_eq_true (by omega : v = 5), hpt, hlc, lendH, dice, zao, zap, zaf, zaq, zau, zal, zam, zak, zaz, zaB, zah, zan]
     repeat' (first
 | with_reducible refine zaG ?_ ?_
 | (apply cl_lend
    case hr => exact yid
    case ha => exact yib
    case hs => rfl
    case hn => decide
    case h => (first | exact au ..)
    case hf => exact yic
    case hl => exact yie)
 | ((first | refine s1_id ?_ | refine swp_id ?_ | refine sops_id ?_ | refine s2_id ?_); simp only [decide_eq_false (by omega : ¬ v = 0), decide_eq_false (by omega : ¬ v = 1), decide_eq_false (by omega : ¬ v = 2), decide_eq_false (by omega : ¬ v = 3), decide_eq_false (by omega : ¬ v = 4), decide_eq_true (by omega : v = 5), hpt, hlc, lendH, dice, zao, zap, zaf, zaq, zau, zal, zam, zak, zaz, zaB, zah, zan, go_sem, zaa, zar, zas, zat, zav, zaj, ↓reduceIte, reduceCtorEq, zac, zag, zaw, zax, zay, zaR, zaT, zaI, zaQ, renO, bk, back, outUpsFrom, Ints_ren])
 | exact yif
 | exact yia | fail)
     refine ⟨_, ?_, rfl⟩
     (refine imp_sub _ _ _ [(0, 0), (1, 2), (2, 6), (3, 4), (4, 5)] (by simp) (by simp) (by simp) (zaJ rfl) ?_ (by simp only [zae, zai, zaS, lookR, renO, zaQ, zaI, toN, Ints_ren, Bools_ren, zaa, if_true, if_false, ↓reduceIte, Cs_ren, Cs_flat, dice, zaY] <;> (try rfl)) (by simp only [zab, zad, false_implies, implies_true, and_true, zaS, lookR, zaa, if_true, if_false, ↓reduceIte, Option.some.injEq, forall_eq'] <;> ((repeat' with_reducible apply zaG) <;> (first | with_reducible trivial | exact fun c hc q hq => absurd hq (Ints_refs0 _ _ c hc) | exact fun c hc q hq => absurd hq (by rw [Cs_flat _ c hc]; exact zad) | (simp [zaN, toN]; done)))); simp only [zae, zai, zab, zad, false_implies, implies_true, and_true, lk, slot, zaR, zaI, toN, zaa, if_true, if_false, ↓reduceIte, reduceCtorEq])
     all_goals ((repeat' apply zaG) <;> (first | rfl | trivial))
   · unfold ohK at hS
     rw [if_neg (by omega), if_neg (by omega), if_neg (by omega), if_neg (by omega), if_neg (by omega), if_neg (by omega), if_pos (by omega)] at hS
     simp only [Prod.mk.injEq] at hS
     obtain ⟨⟨rfl, rfl, rfl⟩, rfl⟩ := hS
     simp only [go_sem, zaa, zar, zas, zat, zav, zaj, ↓reduceIte, reduceCtorEq, zac, zag, zaw, zax, zay, decide_eq_false (by omega : ¬ v = 0), decide_eq_false (by omega : ¬ v = 1), decide_eq_false (by omega : ¬ v = 2), decide_eq_false (by omega : ¬ v = 3), decide_eq_false (by omega : ¬ v = 4), decide_eq_false (by omega : ¬ v = 5), decide_eq_true (by omega : v = 6), lendH, dice, zao, zap, zaf, zaq, zau, zal, zam, zak, zaz, zaB, zah, zan]
     repeat' (first
 | (apply cl_lend
    case hr => exact yid
    case ha => exact yib
    case hs => rfl
    case hn => decide
    case h => (first | exact a9 ..)
    case hf => exact yic
    case hl => exact yie)
 | ((first | refine s1_id ?_ | refine swp_id ?_ | refine sops_id ?_ | refine s2_id ?_); simp only [decide_eq_false (by omega : ¬ v = 0), decide_eq_false (by omega : ¬ v = 1), decide_eq_false (by omega : ¬ v = 2), decide_eq_false (by omega : ¬ v = 3), decide_eq_false (by omega : ¬ v = 4), decide_eq_false (by omega : ¬ v = 5), decide_eq_true (by omega : v = 6), lendH, dice, zao, zap, zaf, zaq, zau, zal, zam, zak, zaz, zaB, zah, zan, go_sem, zaa, zar, zas, zat, zav, zaj, ↓reduceIte, reduceCtorEq, zac, zag, zaw, zax, zay, zaR, zaT, zaI, zaQ, renO, bk, back, outUpsFrom, Ints_ren])
 | exact yia | fail)
     refine ⟨_, ?_, rfl⟩
     (refine imp_sub _ _ _ [(0, 0), (1, 2), (2, 6), (3, 4), (4, 5)] (by simp) (by simp) (by simp) (zaJ rfl) ?_ (by simp only [zae, zai, zaS, lookR, renO, zaQ, zaI, toN, Ints_ren, Bools_ren, zaa, if_true, if_false, ↓reduceIte, Cs_ren, Cs_flat, dice] <;> (try rfl)) (by simp only [zab, zad, false_implies, implies_true, and_true, zaS, lookR, zaa, if_true, if_false, ↓reduceIte, Option.some.injEq, forall_eq'] <;> ((repeat' with_reducible apply zaG) <;> (first | with_reducible trivial | exact fun c hc q hq => absurd hq (Ints_refs0 _ _ c hc) | exact fun c hc q hq => absurd hq (by rw [Cs_flat _ c hc]; exact zad) | (simp [zaN, toN]; done)))); simp only [zae, zai, zab, zad, false_implies, implies_true, and_true, lk, slot, zaR, zaI, toN, zaa, if_true, if_false, ↓reduceIte, reduceCtorEq])
     all_goals ((repeat' apply zaG) <;> (first | rfl | trivial))
   · unfold ohK at hS
     rw [if_neg (by omega), if_neg (by omega), if_neg (by omega), if_neg (by omega), if_neg (by omega), if_neg (by omega), if_neg (by omega), if_pos (by omega)] at hS
     simp only [Prod.mk.injEq] at hS
     obtain ⟨⟨rfl, rfl, rfl⟩, rfl⟩ := hS
     simp only [go_sem, zaa, zar, zas, zat, zav, zaj, ↓reduceIte, reduceCtorEq, zac, zag, zaw, zax, zay, decide_eq_false (by omega : ¬ v = 0), decide_eq_false (by omega : ¬ v = 1), decide_eq_false (by omega : ¬ v = 2), decide_eq_false (by omega : ¬ v = 3), decide_eq_false (by omega : ¬ v = 4), decide_eq_false (by omega : ¬ v = 5), decide_eq_false (by omega : ¬ v = 6), decide_eq_true (by omega : v = 7), lendH, dice, zao, zap, zaf, zaq, zau, zal, zam, zak, zaz, zaB, zah, zan]
     repeat' (first
 | (apply cl_lend
    case hr => exact yid
    case ha => exact yib
    case hs => rfl
    case hn => decide
    case h => (first | exact a9 ..)
    case hf => exact yic
    case hl => exact yie)
 | ((first | refine s1_id ?_ | refine swp_id ?_ | refine sops_id ?_ | refine s2_id ?_); simp only [decide_eq_false (by omega : ¬ v = 0), decide_eq_false (by omega : ¬ v = 1), decide_eq_false (by omega : ¬ v = 2), decide_eq_false (by omega : ¬ v = 3), decide_eq_false (by omega : ¬ v = 4), decide_eq_false (by omega : ¬ v = 5), decide_eq_false (by omega : ¬ v = 6), decide_eq_true (by omega : v = 7), lendH, dice, zao, zap, zaf, zaq, zau, zal, zam, zak, zaz, zaB, zah, zan, go_sem, zaa, zar, zas, zat, zav, zaj, ↓reduceIte, reduceCtorEq, zac, zag, zaw, zax, zay, zaR, zaT, zaI, zaQ, renO, bk, back, outUpsFrom, Ints_ren])
 | exact yia | fail)
     refine ⟨_, ?_, rfl⟩
     (refine imp_sub _ _ _ [(0, 0), (1, 2), (2, 6), (3, 4), (4, 5)] (by simp) (by simp) (by simp) (zaJ rfl) ?_ (by simp only [zae, zai, zaS, lookR, renO, zaQ, zaI, toN, Ints_ren, Bools_ren, zaa, if_true, if_false, ↓reduceIte, Cs_ren, Cs_flat, dice] <;> (try rfl)) (by simp only [zab, zad, false_implies, implies_true, and_true, zaS, lookR, zaa, if_true, if_false, ↓reduceIte, Option.some.injEq, forall_eq'] <;> ((repeat' with_reducible apply zaG) <;> (first | with_reducible trivial | exact fun c hc q hq => absurd hq (Ints_refs0 _ _ c hc) | exact fun c hc q hq => absurd hq (by rw [Cs_flat _ c hc]; exact zad) | (simp [zaN, toN]; done)))); simp only [zae, zai, zab, zad, false_implies, implies_true, and_true, lk, slot, zaR, zaI, toN, zaa, if_true, if_false, ↓reduceIte, reduceCtorEq])
     all_goals ((repeat' apply zaG) <;> (first | rfl | trivial))
   · unfold ohK at hS
     rw [if_neg (by omega), if_neg (by omega), if_neg (by omega), if_neg (by omega), if_neg (by omega), if_neg (by omega), if_neg (by omega), if_neg (by omega), if_pos (by omega)] at hS
     simp only [Prod.mk.injEq] at hS
     obtain ⟨⟨rfl, rfl, rfl⟩, rfl⟩ := hS
     simp only [go_sem, zaa, zar, zas, zat, zav, zaj, ↓reduceIte, reduceCtorEq, zac, zag, zaw, zax, zay, decide_eq_false (by omega : ¬ v = 0), decide_eq_false (by omega : ¬ v = 1), decide_eq_false (by omega : ¬ v = 2), decide_eq_false (by omega : ¬ v = 3), decide_eq_false (by omega : ¬ v = 4), decide_eq_false (by omega : ¬ v = 5), decide_eq_false (by omega : ¬ v = 6), decide_eq_false (by omega : ¬ v = 7), decide_eq_true (by omega : v = 8), hat, hla, hsn, hlc, lendH, dice, zao, zap, zaf, zaq, zau, zal, zam, zak, zaz, zaB, zah, zan]
     repeat' (first
 | with_reducible refine zaG ?_ ?_
 | (unfold OKC; kernel_rfl)
 | (unfold EDG; kernel_rfl)
 | exact yif
 | exact yia | fail)
     refine ⟨_, ?_, rfl⟩
     (refine imp_sub _ _ _ [(0, 0), (1, 2), (2, 6), (3, 46), (4, 5)] (by simp) (by simp) (by simp) (zaJ rfl) ?_ (by simp only [zae, zai, zaS, lookR, renO, zaQ, zaI, toN, Ints_ren, Bools_ren, zaa, if_true, if_false, ↓reduceIte, Cs_ren, Cs_flat, dice, snoc_len] <;> (try rfl)) (by simp only [zab, zad, false_implies, implies_true, and_true, zaS, lookR, zaa, if_true, if_false, ↓reduceIte, Option.some.injEq, forall_eq'] <;> ((repeat' with_reducible apply zaG) <;> (first | with_reducible trivial | exact fun c hc q hq => absurd hq (Ints_refs0 _ _ c hc) | exact fun c hc q hq => absurd hq (by rw [Cs_flat _ c hc]; exact zad) | (simp [zaN, toN]; done)))); simp only [zae, zai, zab, zad, false_implies, implies_true, and_true, lk, slot, zaR, zaI, toN, zaa, if_true, if_false, ↓reduceIte, reduceCtorEq])
     all_goals ((repeat' apply zaG) <;> (first | rfl | trivial))
   · unfold ohK at hS
     rw [if_neg (by omega), if_neg (by omega), if_neg (by omega), if_neg (by omega), if_neg (by omega), if_neg (by omega), if_neg (by omega), if_neg (by omega), if_neg (by omega)] at hS
     simp only [Prod.mk.injEq] at hS
     obtain ⟨⟨rfl, rfl, rfl⟩, rfl⟩ := hS
     simp only [go_sem, zaa, zar, zas, zat, zav, zaj, ↓reduceIte, reduceCtorEq, zac, zag, zaw, zax, zay, decide_eq_false (by omega : ¬ v = 0), decide_eq_false (by omega : ¬ v = 1), decide_eq_false (by omega : ¬ v = 2), decide_eq_false (by omega : ¬ v = 3), decide_eq_false (by omega : ¬ v = 4), decide_eq_false (by omega : ¬ v = 5), decide_eq_false (by omega : ¬ v = 6), decide_eq_false (by omega : ¬ v = 7), decide_eq_false (by omega : ¬ v = 8), lendH, dice, zao, zap, zaf, zaq, zau, zal, zam, zak, zaz, zaB, zah, zan]
     repeat' (first
 | exact yia | fail)
     refine ⟨_, ?_, rfl⟩
     (refine imp_sub _ _ _ [(0, 0), (1, 2), (2, 6), (3, 4), (4, 5)] (by simp) (by simp) (by simp) (zaJ rfl) ?_ (by simp only [zae, zai, zaS, lookR, renO, zaQ, zaI, toN, Ints_ren, Bools_ren, zaa, if_true, if_false, ↓reduceIte, Cs_ren, Cs_flat, dice] <;> (try rfl)) (by simp only [zab, zad, false_implies, implies_true, and_true, zaS, lookR, zaa, if_true, if_false, ↓reduceIte, Option.some.injEq, forall_eq'] <;> ((repeat' with_reducible apply zaG) <;> (first | with_reducible trivial | exact fun c hc q hq => absurd hq (Ints_refs0 _ _ c hc) | exact fun c hc q hq => absurd hq (by rw [Cs_flat _ c hc]; exact zad) | (simp [zaN, toN]; done)))); simp only [zae, zai, zab, zad, false_implies, implies_true, and_true, lk, slot, zaR, zaI, toN, zaa, if_true, if_false, ↓reduceIte, reduceCtorEq])
     all_goals ((repeat' apply zaG) <;> (first | rfl | trivial))
 clear n1 n2 r2 c1 hS hat hsn hla a9 a4 aw ac au r4 hlc
 have hlc' := nd_len l'
 have htn := oh_tl D T j'
 unfold ohU at htn ⊢
 by_cases h0 : T.length = 0
 · rw [if_pos h0]
   have h0' : ¬ 0 < (T.length : Int) := by omega
   simp only [go_sem, zaa, zar, zas, zat, zav, zaj, ↓reduceIte, reduceCtorEq, zac, zag, zaw, zax, zay, lendH, dice, decide_eq_false h0', zao, zap, zaf, zaq, zau, zal, zam, zak, zaz, zaB, zah, zan]
   repeat' (first
 | exact yia | fail)
   (refine fs_frz 3 ⟨Cs l', 6⟩ (by simp only [zaS, lookR, zaa, if_true, if_false, ↓reduceIte]) (by first | exact Ints_isG _ | exact Bools_isG _ | exact Cs_isG _ | (simp [zaZ]; done)) ?_; simp only [frzTm, zbn, zbf, zaU, frzHp, frzO, Ints_frz, Bools_frz, zae, zai, zaa, if_true, if_false, ↓reduceIte])
   simp only [frzHp, frzO, Cs_frz, Ints_frz, zaU, zae, zai]
   (refine fs_frz 4 ⟨Cs T, 4⟩ (by simp only [zaS, lookR, zaa, if_true, if_false, ↓reduceIte]) (by first | exact Ints_isG _ | exact Bools_isG _ | exact Cs_isG _ | (simp [zaZ]; done)) ?_; simp only [frzTm, zbn, zbf, zaU, frzHp, frzO, Ints_frz, Bools_frz, zae, zai, zaa, if_true, if_false, ↓reduceIte])
   (refine fs_flat [(0, dice D j')] (by simp) (by simp only [zae, zai]; decide) (by simp only [go_sem, resV, resS, zaR, zaT, zaI, zbi, zaS, idx, renO, zaQ, evS, slot, lookR, zaa, ↓reduceIte, reduceCtorEq, if_true, if_false, zaO, zaP, zae, zai, sLoad, readAt, readNeed, Ints_ren, Ints_length, Ints_getD, and_true, true_and, zaL, zaM]; try decide) ?_ (by simp only [zab, zad, false_implies, implies_true, and_true, zaS, lookR, zaa, if_true, if_false, ↓reduceIte, dice] <;> (repeat' apply zaG) <;> (first | rfl | trivial)) (by simp only [zab, zad, false_implies, implies_true, and_true, true_and, flat_cons, flat_nil, flat_ints, flat_bools, flat_app, zaN, and_self, eq_self_iff_true, zaf, dice]) ?_ <;> (try simp only [go_sem, resV, resS, zaR, zaT, zaI, zbi, zaS, idx, renO, zaQ, evS, slot, lookR, zaa, ↓reduceIte, reduceCtorEq, if_true, if_false, zaO, zaP, zae, zai, sLoad, readAt, readNeed, Ints_ren, Ints_length, Ints_getD, and_true, true_and, zaL, zaM]) <;> (try rfl))
 rw [if_neg h0] at htn ⊢
 have h0' : 0 < (T.length : Int) := by omega
 have n1 := next_spec D j' T.length hl hr (by omega)
 have r1 := nx_rng D j' T.length (by omega)
 generalize nxA D j' T.length = k1 at *
 obtain ⟨t2, ht, ht2⟩ : ∃ t : Nat, nxV D j' T.length = t ∧ t < T.length := ⟨(nxV D j' T.length).toNat, by omega, by omega⟩
 rw [ht] at n1
 rw [ht, Int.toNat_natCast] at htn ⊢
 have n2 := next_spec D k1 8 hl hr (by decide)
 have r2 := nx_rng D k1 8 (by decide)
 obtain ⟨v2, hv⟩ : ∃ v, nxV D k1 8 = v := ⟨_, rfl⟩
 rw [hv] at n2 r2 htn ⊢
 generalize nxA D k1 8 = k2 at *
 clear ht hv r1
 have ht2' : (t2 : Int) < (T.length : Int) := by omega
 have a9 := next_spec D k2 9 hl hr (by decide)
 have au := usr_spec D k2 hl hr
 have hv : v2 = 0 ∨ v2 = 1 ∨ v2 = 2 ∨ v2 = 3 ∨ 4 ≤ v2 := by omega
 unfold ohT at htn ⊢
 rcases hv with hv | hv | hv | hv | hv
 · rw [if_pos (by omega)] at htn ⊢
   have hpt := tk_setf T t2 0 { gT T t2 with i := nxV D k2 9 } (int (nxV D k2 9)) ht2 (by decide) rfl
   rw [Nat.add_zero] at hpt
   generalize T.set t2 { gT T t2 with i := nxV D k2 9 } = W at *
   have htn : W.length = T.length := htn
   simp only [go_sem, zaa, zar, zas, zat, zav, zaj, ↓reduceIte, reduceCtorEq, zac, zag, zaw, zax, zay, decide_eq_true h0', decide_eq_true ht2', decide_eq_true (by omega : v2 = 0), hpt, htc, lendH, dice, zao, zap, zaf, zaq, zau, zal, zam, zak, zaz, zaB, zah, zan]
   repeat' (first
 | with_reducible refine zaG ?_ ?_
 | (unfold OKC; kernel_rfl)
 | (unfold EDG; kernel_rfl)
 | (apply cl_lend
    case hr => exact yid
    case ha => exact yib
    case hs => rfl
    case hn => decide
    case h => exact yii
    case hf => exact yic
    case hl => exact yie)
 | ((first | refine s1_id ?_ | refine swp_id ?_ | refine sops_id ?_ | refine s2_id ?_); simp only [decide_eq_true h0', decide_eq_true ht2', decide_eq_true (by omega : v2 = 0), hpt, htc, lendH, dice, zao, zap, zaf, zaq, zau, zal, zam, zak, zaz, zaB, zah, zan, go_sem, zaa, zar, zas, zat, zav, zaj, ↓reduceIte, reduceCtorEq, zac, zag, zaw, zax, zay, zaR, zaT, zaI, zaQ, renO, bk, back, outUpsFrom, Ints_ren])
 | exact yif
 | exact yia | fail)
   (refine fs_frz 3 ⟨Cs l', 6⟩ (by simp only [zaS, lookR, zaa, if_true, if_false, ↓reduceIte]) (by first | exact Ints_isG _ | exact Bools_isG _ | exact Cs_isG _ | (simp [zaZ]; done)) ?_; simp only [frzTm, zbn, zbf, zaU, frzHp, frzO, Ints_frz, Bools_frz, zae, zai, zaa, if_true, if_false, ↓reduceIte])
   simp only [frzHp, frzO, Cs_frz, Ints_frz, zaU, zae, zai]
   (refine fs_frz 4 ⟨Cs W, 4⟩ (by simp only [zaS, lookR, zaa, if_true, if_false, ↓reduceIte]) (by first | exact Ints_isG _ | exact Bools_isG _ | exact Cs_isG _ | (simp [zaZ]; done)) ?_; simp only [frzTm, zbn, zbf, zaU, frzHp, frzO, Ints_frz, Bools_frz, zae, zai, zaa, if_true, if_false, ↓reduceIte])
   simp only [← htn]
   (refine fs_flat [(0, dice D (nxA D k2 9))] (by simp) (by simp only [zae, zai]; decide) (by simp only [go_sem, resV, resS, zaR, zaT, zaI, zbi, zaS, idx, renO, zaQ, evS, slot, lookR, zaa, ↓reduceIte, reduceCtorEq, if_true, if_false, zaO, zaP, zae, zai, sLoad, readAt, readNeed, Ints_ren, Ints_length, Ints_getD, and_true, true_and, zaL, zaM]; try decide) ?_ (by simp only [zab, zad, false_implies, implies_true, and_true, zaS, lookR, zaa, if_true, if_false, ↓reduceIte, dice] <;> (repeat' apply zaG) <;> (first | rfl | trivial)) (by simp only [zab, zad, false_implies, implies_true, and_true, true_and, flat_cons, flat_nil, flat_ints, flat_bools, flat_app, zaN, and_self, eq_self_iff_true, zaf, dice]) ?_ <;> (try simp only [go_sem, resV, resS, zaR, zaT, zaI, zbi, zaS, idx, renO, zaQ, evS, slot, lookR, zaa, ↓reduceIte, reduceCtorEq, if_true, if_false, zaO, zaP, zae, zai, sLoad, readAt, readNeed, Ints_ren, Ints_length, Ints_getD, and_true, true_and, zaL, zaM]) <;> (try rfl))
 · rw [if_neg (by omega), if_pos (by omega)] at htn ⊢
   have hpt := tk_setf T t2 1 { gT T t2 with p := nxV D k2 9 } (int (nxV D k2 9)) ht2 (by decide) rfl
   generalize T.set t2 { gT T t2 with p := nxV D k2 9 } = W at *
   have htn : W.length = T.length := htn
   simp only [go_sem, zaa, zar, zas, zat, zav, zaj, ↓reduceIte, reduceCtorEq, zac, zag, zaw, zax, zay, decide_eq_true h0', decide_eq_true ht2', decide_eq_false (by omega : ¬ v2 = 0), decide_eq_true (by omega : v2 = 1), hpt, htc, lendH, dice, zao, zap, zaf, zaq, zau, zal, zam, zak, zaz, zaB, zah, zan]
   repeat' (first
 | with_reducible refine zaG ?_ ?_
 | (unfold OKC; kernel_rfl)
 | (unfold EDG; kernel_rfl)
 | (apply cl_lend
    case hr => exact yid
    case ha => exact yib
    case hs => rfl
    case hn => decide
    case h => exact yii
    case hf => exact yic
    case hl => exact yie)
 | ((first | refine s1_id ?_ | refine swp_id ?_ | refine sops_id ?_ | refine s2_id ?_); simp only [decide_eq_true h0', decide_eq_true ht2', decide_eq_false (by omega : ¬ v2 = 0), decide_eq_true (by omega : v2 = 1), hpt, htc, lendH, dice, zao, zap, zaf, zaq, zau, zal, zam, zak, zaz, zaB, zah, zan, go_sem, zaa, zar, zas, zat, zav, zaj, ↓reduceIte, reduceCtorEq, zac, zag, zaw, zax, zay, zaR, zaT, zaI, zaQ, renO, bk, back, outUpsFrom, Ints_ren])
 | exact yif
 | exact yia | fail)
   (refine fs_frz 3 ⟨Cs l', 6⟩ (by simp only [zaS, lookR, zaa, if_true, if_false, ↓reduceIte]) (by first | exact Ints_isG _ | exact Bools_isG _ | exact Cs_isG _ | (simp [zaZ]; done)) ?_; simp only [frzTm, zbn, zbf, zaU, frzHp, frzO, Ints_frz, Bools_frz, zae, zai, zaa, if_true, if_false, ↓reduceIte])
   simp only [frzHp, frzO, Cs_frz, Ints_frz, zaU, zae, zai]
   (refine fs_frz 4 ⟨Cs W, 4⟩ (by simp only [zaS, lookR, zaa, if_true, if_false, ↓reduceIte]) (by first | exact Ints_isG _ | exact Bools_isG _ | exact Cs_isG _ | (simp [zaZ]; done)) ?_; simp only [frzTm, zbn, zbf, zaU, frzHp, frzO, Ints_frz, Bools_frz, zae, zai, zaa, if_true, if_false, ↓reduceIte])
   simp only [← htn]
   (refine fs_flat [(0, dice D (nxA D k2 9))] (by simp) (by simp only [zae, zai]; decide) (by simp only [go_sem, resV, resS, zaR, zaT, zaI, zbi, zaS, idx, renO, zaQ, evS, slot, lookR, zaa, ↓reduceIte, reduceCtorEq, if_true, if_false, zaO, zaP, zae, zai, sLoad, readAt, readNeed, Ints_ren, Ints_length, Ints_getD, and_true, true_and, zaL, zaM]; try decide) ?_ (by simp only [zab, zad, false_implies, implies_true, and_true, zaS, lookR, zaa, if_true, if_false, ↓reduceIte, dice] <;> (repeat' apply zaG) <;> (first | rfl | trivial)) (by simp only [zab, zad, false_implies, implies_true, and_true, true_and, flat_cons, flat_nil, flat_ints, flat_bools, flat_app, zaN, and_self, eq_self_iff_true, zaf, dice]) ?_ <;> (try simp only [go_sem, resV, resS, zaR, zaT, zaI, zbi, zaS, idx, renO, zaQ, evS, slot, lookR, zaa, ↓reduceIte, reduceCtorEq, if_true, if_false, zaO, zaP, zae, zai, sLoad, readAt, readNeed, Ints_ren, Ints_length, Ints_getD, and_true, true_and, zaL, zaM]) <;> (try rfl))
 · rw [if_neg (by omega), if_neg (by omega), if_pos (by omega)] at htn ⊢
   have hpt := tk_setf T t2 2 { gT T t2 with g := nxV D k2 9 } (int (nxV D k2 9)) ht2 (by decide) rfl
   generalize T.set t2 { gT T t2 with g := nxV D k2 9 } = W at *
   have htn : W.length = T.length := htn
   simp only [go_sem, zaa, zar, zas, zat, zav, zaj, ↓reduceIte, reduceCtorEq, zac, zag, zaw, zax, zay, decide_eq_true h0', decide_eq_true ht2', decide_eq_false (by omega : ¬ v2 = 0), decide_eq_false (by omega : ¬ v2 = 1), decide_eq_true (by omega : v2 = 2), hpt, htc, lendH, dice, zao, zap, zaf, zaq, zau, zal, zam, zak, zaz, zaB, zah, zan]
   repeat' (first
 | with_reducible refine zaG ?_ ?_
 | (unfold OKC; kernel_rfl)
 | (unfold EDG; kernel_rfl)
 | (apply cl_lend
    case hr => exact yid
    case ha => exact yib
    case hs => rfl
    case hn => decide
    case h => exact yii
    case hf => exact yic
    case hl => exact yie)
 | ((first | refine s1_id ?_ | refine swp_id ?_ | refine sops_id ?_ | refine s2_id ?_); simp only [decide_eq_true h0', decide_eq_true ht2', decide_eq_false (by omega : ¬ v2 = 0), decide_eq_false (by omega : ¬ v2 = 1), decide_eq_true (by omega : v2 = 2), hpt, htc, lendH, dice, zao, zap, zaf, zaq, zau, zal, zam, zak, zaz, zaB, zah, zan, go_sem, zaa, zar, zas, zat, zav, zaj, ↓reduceIte, reduceCtorEq, zac, zag, zaw, zax, zay, zaR, zaT, zaI, zaQ, renO, bk, back, outUpsFrom, Ints_ren])
 | exact yif
 | exact yia | fail)
   (refine fs_frz 3 ⟨Cs l', 6⟩ (by simp only [zaS, lookR, zaa, if_true, if_false, ↓reduceIte]) (by first | exact Ints_isG _ | exact Bools_isG _ | exact Cs_isG _ | (simp [zaZ]; done)) ?_; simp only [frzTm, zbn, zbf, zaU, frzHp, frzO, Ints_frz, Bools_frz, zae, zai, zaa, if_true, if_false, ↓reduceIte])
   simp only [frzHp, frzO, Cs_frz, Ints_frz, zaU, zae, zai]
   (refine fs_frz 4 ⟨Cs W, 4⟩ (by simp only [zaS, lookR, zaa, if_true, if_false, ↓reduceIte]) (by first | exact Ints_isG _ | exact Bools_isG _ | exact Cs_isG _ | (simp [zaZ]; done)) ?_; simp only [frzTm, zbn, zbf, zaU, frzHp, frzO, Ints_frz, Bools_frz, zae, zai, zaa, if_true, if_false, ↓reduceIte])
   simp only [← htn]
   (refine fs_flat [(0, dice D (nxA D k2 9))] (by simp) (by simp only [zae, zai]; decide) (by simp only [go_sem, resV, resS, zaR, zaT, zaI, zbi, zaS, idx, renO, zaQ, evS, slot, lookR, zaa, ↓reduceIte, reduceCtorEq, if_true, if_false, zaO, zaP, zae, zai, sLoad, readAt, readNeed, Ints_ren, Ints_length, Ints_getD, and_true, true_and, zaL, zaM]; try decide) ?_ (by simp only [zab, zad, false_implies, implies_true, and_true, zaS, lookR, zaa, if_true, if_false, ↓reduceIte, dice] <;> (repeat' apply zaG) <;> (first | rfl | trivial)) (by simp only [zab, zad, false_implies, implies_true, and_true, true_and, flat_cons, flat_nil, flat_ints, flat_bools, flat_app, zaN, and_self, eq_self_iff_true, zaf, dice]) ?_ <;> (try simp only [go_sem, resV, resS, zaR, zaT, zaI, zbi, zaS, idx, renO, zaQ, evS, slot, lookR, zaa, ↓reduceIte, reduceCtorEq, if_true, if_false, zaO, zaP, zae, zai, sLoad, readAt, readNeed, Ints_ren, Ints_length, Ints_getD, and_true, true_and, zaL, zaM]) <;> (try rfl))
 · rw [if_neg (by omega), if_neg (by omega), if_neg (by omega), if_pos (by omega)] at htn ⊢
   have hpt := tk_setf T t2 3 { gT T t2 with u := usV D k2 } (int (usV D k2)) ht2 (by decide) rfl
   generalize T.set t2 { gT T t2 with u := usV D k2 } = W at *
   have htn : W.length = T.length := htn
   simp only [go_sem, zaa, zar, zas, zat, zav, zaj, ↓reduceIte, reduceCtorEq, zac, zag, zaw, zax, zay, decide_eq_true h0', decide_eq_true ht2', decide_eq_false (by omega : ¬ v2 = 0), decide_eq_false (by omega : ¬ v2 = 1), decide_eq_false (by omega : ¬ v2 = 2), decide_eq_true (by omega : v2 = 3), hpt, htc, lendH, dice, zao, zap, zaf, zaq, zau, zal, zam, zak, zaz, zaB, zah, zan]
   repeat' (first
 | with_reducible refine zaG ?_ ?_
 | (unfold OKC; kernel_rfl)
 | (unfold EDG; kernel_rfl)
 | (apply cl_lend
    case hr => exact yid
    case ha => exact yib
    case hs => rfl
    case hn => decide
    case h => (first | exact n1 .. | exact n2 .. | exact au ..)
    case hf => exact yic
    case hl => exact yie)
 | ((first | refine s1_id ?_ | refine swp_id ?_ | refine sops_id ?_ | refine s2_id ?_); simp only [decide_eq_true h0', decide_eq_true ht2', decide_eq_false (by omega : ¬ v2 = 0), decide_eq_false (by omega : ¬ v2 = 1), decide_eq_false (by omega : ¬ v2 = 2), decide_eq_true (by omega : v2 = 3), hpt, htc, lendH, dice, zao, zap, zaf, zaq, zau, zal, zam, zak, zaz, zaB, zah, zan, go_sem, zaa, zar, zas, zat, zav, zaj, ↓reduceIte, reduceCtorEq, zac, zag, zaw, zax, zay, zaR, zaT, zaI, zaQ, renO, bk, back, outUpsFrom, Ints_ren])
 | exact yif
 | exact yia | fail)
   (refine fs_frz 3 ⟨Cs l', 6⟩ (by simp only [zaS, lookR, zaa, if_true, if_false, ↓reduceIte]) (by first | exact Ints_isG _ | exact Bools_isG _ | exact Cs_isG _ | (simp [zaZ]; done)) ?_; simp only [frzTm, zbn, zbf, zaU, frzHp, frzO, Ints_frz, Bools_frz, zae, zai, zaa, if_true, if_false, ↓reduceIte])
   simp only [frzHp, frzO, Cs_frz, Ints_frz, zaU, zae, zai]
   (refine fs_frz 4 ⟨Cs W, 4⟩ (by simp only [zaS, lookR, zaa, if_true, if_false, ↓reduceIte]) (by first | exact Ints_isG _ | exact Bools_isG _ | exact Cs_isG _ | (simp [zaZ]; done)) ?_; simp only [frzTm, zbn, zbf, zaU, frzHp, frzO, Ints_frz, Bools_frz, zae, zai, zaa, if_true, if_false, ↓reduceIte])
   simp only [← htn]
   (refine fs_flat [(0, dice D (nxA D k2 8))] (by simp) (by simp only [zae, zai]; decide) (by simp only [go_sem, resV, resS, zaR, zaT, zaI, zbi, zaS, idx, renO, zaQ, evS, slot, lookR, zaa, ↓reduceIte, reduceCtorEq, if_true, if_false, zaO, zaP, zae, zai, sLoad, readAt, readNeed, Ints_ren, Ints_length, Ints_getD, and_true, true_and, zaL, zaM]; try decide) ?_ (by simp only [zab, zad, false_implies, implies_true, and_true, zaS, lookR, zaa, if_true, if_false, ↓reduceIte, dice] <;> (repeat' apply zaG) <;> (first | rfl | trivial)) (by simp only [zab, zad, false_implies, implies_true, and_true, true_and, flat_cons, flat_nil, flat_ints, flat_bools, flat_app, zaN, and_self, eq_self_iff_true, zaf, dice]) ?_ <;> (try simp only [go_sem, resV, resS, zaR, zaT, zaI, zbi, zaS, idx, renO, zaQ, evS, slot, lookR, zaa, ↓reduceIte, reduceCtorEq, if_true, if_false, zaO, zaP, zae, zai, sLoad, readAt, readNeed, Ints_ren, Ints_length, Ints_getD, and_true, true_and, zaL, zaM]) <;> (try rfl))
 · rw [if_neg (by omega), if_neg (by omega), if_neg (by omega), if_neg (by omega)] at htn ⊢
   simp only [go_sem, zaa, zar, zas, zat, zav, zaj, ↓reduceIte, reduceCtorEq, zac, zag, zaw, zax, zay, decide_eq_true h0', decide_eq_true ht2', decide_eq_false (by omega : ¬ v2 = 0), decide_eq_false (by omega : ¬ v2 = 1), decide_eq_false (by omega : ¬ v2 = 2), decide_eq_false (by omega : ¬ v2 = 3), lendH, dice, zao, zap, zaf, zaq, zau, zal, zam, zak, zaz, zaB, zah, zan]
   repeat' (first
 | with_reducible refine zaG ?_ ?_
 | (unfold OKC; kernel_rfl)
 | (unfold EDG; kernel_rfl)
 | (apply cl_lend
    case hr => exact yid
    case ha => exact yib
    case hs => rfl
    case hn => decide
    case h => (first | exact n1 .. | exact n2 ..)
    case hf => exact yic
    case hl => exact yie)
 | ((first | refine s1_id ?_ | refine swp_id ?_ | refine sops_id ?_ | refine s2_id ?_); simp only [decide_eq_true h0', decide_eq_true ht2', decide_eq_false (by omega : ¬ v2 = 0), decide_eq_false (by omega : ¬ v2 = 1), decide_eq_false (by omega : ¬ v2 = 2), decide_eq_false (by omega : ¬ v2 = 3), lendH, dice, zao, zap, zaf, zaq, zau, zal, zam, zak, zaz, zaB, zah, zan, go_sem, zaa, zar, zas, zat, zav, zaj, ↓reduceIte, reduceCtorEq, zac, zag, zaw, zax, zay, zaR, zaT, zaI, zaQ, renO, bk, back, outUpsFrom, Ints_ren])
 | exact yif
 | exact yia | fail)
   (refine fs_frz 3 ⟨Cs l', 6⟩ (by simp only [zaS, lookR, zaa, if_true, if_false, ↓reduceIte]) (by first | exact Ints_isG _ | exact Bools_isG _ | exact Cs_isG _ | (simp [zaZ]; done)) ?_; simp only [frzTm, zbn, zbf, zaU, frzHp, frzO, Ints_frz, Bools_frz, zae, zai, zaa, if_true, if_false, ↓reduceIte])
   simp only [frzHp, frzO, Cs_frz, Ints_frz, zaU, zae, zai]
   (refine fs_frz 4 ⟨Cs T, 4⟩ (by simp only [zaS, lookR, zaa, if_true, if_false, ↓reduceIte]) (by first | exact Ints_isG _ | exact Bools_isG _ | exact Cs_isG _ | (simp [zaZ]; done)) ?_; simp only [frzTm, zbn, zbf, zaU, frzHp, frzO, Ints_frz, Bools_frz, zae, zai, zaa, if_true, if_false, ↓reduceIte])
   (refine fs_flat [(0, dice D k2)] (by simp) (by simp only [zae, zai]; decide) (by simp only [go_sem, resV, resS, zaR, zaT, zaI, zbi, zaS, idx, renO, zaQ, evS, slot, lookR, zaa, ↓reduceIte, reduceCtorEq, if_true, if_false, zaO, zaP, zae, zai, sLoad, readAt, readNeed, Ints_ren, Ints_length, Ints_getD, and_true, true_and, zaL, zaM]; try decide) ?_ (by simp only [zab, zad, false_implies, implies_true, and_true, zaS, lookR, zaa, if_true, if_false, ↓reduceIte, dice] <;> (repeat' apply zaG) <;> (first | rfl | trivial)) (by simp only [zab, zad, false_implies, implies_true, and_true, true_and, flat_cons, flat_nil, flat_ints, flat_bools, flat_app, zaN, and_self, eq_self_iff_true, zaf, dice]) ?_ <;> (try simp only [go_sem, resV, resS, zaR, zaT, zaI, zbi, zaS, idx, renO, zaQ, evS, slot, lookR, zaa, ↓reduceIte, reduceCtorEq, if_true, if_false, zaO, zaP, zae, zai, sLoad, readAt, readNeed, Ints_ren, Ints_length, Ints_getD, and_true, true_and, zaL, zaM]) <;> (try rfl))
abbrev Asc (l : List Int) : Prop := l.Pairwise (· < ·)
theorem asc_ext : ∀ (a b : List Int), Asc a → Asc b → (∀ x, x ∈ a ↔ x ∈ b) → a = b
  | [], [], _, _, _ => rfl
  | [], y :: b, _, _, h => absurd ((h y).2 zba) zad
  | x :: a, [], _, _, h => absurd ((h x).1 zba) zad
  | x :: a, y :: b, ha, hb, h => by
    rw [Asc, List.pairwise_cons] at ha hb
    have hxy : x = y := by
      rcases List.mem_cons.1 ((h x).1 zba) with e | hx
      · exact e
      · rcases List.mem_cons.1 ((h y).2 zba) with e | hy
        · exact e.symm
        · have := ha.1 y hy; have := hb.1 x hx; omega
    subst hxy
    rw [asc_ext a b ha.2 hb.2 fun z => ⟨fun hz => ?_, fun hz => ?_⟩]
    · rcases List.mem_cons.1 ((h z).1 (zbj _ hz)) with e | h2
      · have := ha.1 z hz; omega
      · exact h2
    · rcases List.mem_cons.1 ((h z).2 (zbj _ hz)) with e | h2
      · have := hb.1 z hz; omega
      · exact h2
def ins (x : Int) : List Int → List Int
  | [] => [x]
  | y :: r => if x < y then x :: y :: r else if x = y then y :: r else y :: ins x r
theorem ins_mem (x z : Int) : ∀ l, z ∈ ins x l ↔ z = x ∨ z ∈ l
  | [] => by simp [ins]
  | y :: r => by
    unfold ins
    by_cases h1 : x < y
    · rw [if_pos h1, zbb]
    · rw [if_neg h1]
      by_cases h2 : x = y
      · rw [if_pos h2, zbb]; subst h2; simp
      · rw [if_neg h2, zbb, zbb, ins_mem x z r]
        constructor
        · rintro (h | h | h) <;> simp [h]
        · rintro (h | h | h) <;> simp [h]
theorem ins_asc (x : Int) : ∀ l, Asc l → Asc (ins x l)
  | [], _ => List.pairwise_singleton _ _
  | y :: r, h => by
    have h0 := h
    rw [Asc, List.pairwise_cons] at h
    unfold ins
    by_cases h1 : x < y
    · rw [if_pos h1]
      refine List.pairwise_cons.2 ⟨fun z hz => ?_, h0⟩
      rcases List.mem_cons.1 hz with e | hz
      · omega
      · have := h.1 z hz; omega
    · rw [if_neg h1]
      by_cases h2 : x = y
      · rw [if_pos h2]; exact h0
      · rw [if_neg h2]
        refine List.pairwise_cons.2 ⟨fun z hz => ?_, ins_asc x r h.2⟩
        rcases (ins_mem x z r).1 hz with e | hz
        · omega
        · exact h.1 z hz
def srtA : List Int → List Int → List Int
  | acc, [] => acc
  | acc, x :: r => srtA (ins x acc) r
def srt (l : List Int) : List Int := srtA [] l
theorem srtA_ok : ∀ l acc, Asc acc → Asc (srtA acc l) ∧ ∀ x, x ∈ srtA acc l ↔ x ∈ acc ∨ x ∈ l
  | [], acc, h => ⟨h, fun x => by simp [srtA]⟩
  | y :: r, acc, h => by
    obtain ⟨h1, h2⟩ := srtA_ok r (ins y acc) (ins_asc y acc h)
    refine ⟨h1, fun x => ?_⟩
    rw [srtA, h2, ins_mem, zbb]
    constructor
    · rintro ((h | h) | h) <;> simp [h]
    · rintro (h | h | h) <;> simp [h]
theorem srt_asc (l : List Int) : Asc (srt l) := (srtA_ok l [] List.Pairwise.nil).1
theorem srt_mem (l : List Int) (x : Int) : x ∈ srt l ↔ x ∈ l := by
 rw [srt, (srtA_ok l [] List.Pairwise.nil).2]; simp
theorem srt_eq {l a : List Int} (h : Asc a) (hm : ∀ x, x ∈ a ↔ x ∈ l) : a = srt l := asc_ext _ _ h (srt_asc l) fun x => by rw [hm, srt_mem]
theorem ins_at (x : Int) (l : List Int) (k : Nat) (h : Asc l) (h1 : ∀ y ∈ l.take k, y < x) (h2 : ∀ y ∈ l.drop k, x < y) : l.take k ++ x :: l.drop k = ins x l := by
 refine asc_ext _ _ ?_ (ins_asc x l h) fun z => ?_
 · refine List.pairwise_append.2 ⟨h.sublist (List.take_sublist k l), List.pairwise_cons.2 ⟨h2, h.sublist (List.drop_sublist k l)⟩, fun a ha b hb => ?_⟩
   rcases List.mem_cons.1 hb with rfl | hb
   · exact h1 a ha
   · have := h1 a ha; have := h2 b hb; omega
 · rw [ins_mem]
   conv => rhs; rw [← List.take_append_drop k l]
   simp only [List.mem_append, zbb]
   constructor
   · rintro (h | h | h) <;> simp [h]
   · rintro (h | h | h) <;> simp [h]
theorem lay_ins (out : List Int) (k : Nat) (hk : k ≤ out.length) : ∃ q, layAt (Ints (out ++ [0])) (k + 1) (Ints (out.drop k)) = Ints (out.take k ++ q :: out.drop k) := by
 refine ⟨(out ++ [0]).getD k 0, ?_⟩
 have h1 := take_getD (out ++ [0]) k 0 (by simp; omega)
 rw [zbc hk] at h1
 unfold layAt
 have h3 : List.drop (k + 1 + (out.length - k)) (Ints (out ++ [0])) = [] := zbd (by rw [Ints_length, zbe, List.length_singleton]; omega)
 rw [Ints_length, zaW, h3, zaf]
 have h2 : (Ints (out ++ [0])).take (k + 1) = Ints ((out ++ [0]).take (k + 1)) := by simp [Ints, List.map_take]
 rw [h2, h1]
 simp [Ints]
theorem set_ins (out : List Int) (k : Nat) (hk : k ≤ out.length) (q x : Int) : (Ints (out.take k ++ q :: out.drop k)).set k (int x) = Ints (out.take k ++ x :: out.drop k) := by
 have hl : (out.take k).length = k := by rw [zbl]; omega
 have h1 : (out.take k ++ q :: out.drop k).set k x = out.take k ++ x :: out.drop k := by
   rw [List.set_append_right _ _ (by omega), hl, Nat.sub_self]; rfl
 rw [← h1]; simp [Ints, List.map_set]
theorem lt_of_asc {out : List Int} {k : Nat} {p x : Int} (h : Asc out) (hp : out.getD (k - 1) 0 = p) (hk : 0 < k ∧ k ≤ out.length) (hpx : p < x) : ∀ y ∈ out.take k, y < x := by
 intro y hy
 have e := take_getD out (k - 1) 0 (by omega)
 rw [hp, show k - 1 + 1 = k by omega] at e
 rw [e] at hy
 have h2 := h.sublist (List.take_sublist k out)
 rw [e] at h2
 rcases List.mem_append.1 hy with hy | hy
 · have := (List.pairwise_append.1 h2).2.2 y hy p (List.mem_singleton_self _); omega
 · rw [List.mem_singleton.1 hy]; exact hpx
theorem ins_in (x : Int) (l : List Int) (h : Asc l) (hx : x ∈ l) : ins x l = l :=
  asc_ext _ _ (ins_asc x l h) h fun z => by rw [ins_mem]; constructor; (· rintro (rfl | h); (· exact hx); (· exact h)); (· exact .inr)
set_option maxHeartbeats 8000000 in
theorem rsorted_spec (l : List Int) (kk : Option Nat) (hl : l.length ≤ 1000000) : FnSpec Tryz.prog 66 [gi l kk] [] (gi (srt l) none) [] := by
 refine fnspec_of mixed TT_ok TT_cl ⟨fun _ => false, fun _ => [], 0, fun _ => false, fun _ => false⟩ Tryz.func66 rfl (by kernel_rfl) rfl 63 rfl [.tmp 2] rfl ?_
 simp only [go_sem, zaa, zar, zas, zat, zav, zaj, ↓reduceIte, reduceCtorEq, zac, zag, zaw, zax, zay]
 repeat' (first
 | exact yia | fail)
 refine w_loop (ι := Nat × List Int) (fun s => ⟨[(0, gi l kk), (3, .one (.osl 0 0 s.2.length none)), (4, i1 s.1)], [(0, some ⟨Ints s.2, 1⟩)], 1⟩) (fun s => s.1 ≤ l.length ∧ s.2.length ≤ s.1 ∧ Asc s.2 ∧ srt l = srtA s.2 (l.drop s.1)) (fun s => l.length - s.1) (0, []) ?_ ⟨zaV _, zbo _, List.Pairwise.nil, rfl⟩ ?_
 · (refine Imp.trans (imp_nilA _ _ 3 1 99 (by simp only []; omega) rfl) ?_)
   (refine imp_ren _ _ _ [(0, 99, ⟨[], 1⟩)] (by simp) (by simp) (by simp) (zaJ rfl) ?_ rfl (by simp only [zab, zad, false_implies, implies_true, and_true, zaS, lookR, zaa, if_true, if_false, ↓reduceIte] <;> (repeat' apply zaG) <;> (first | rfl | trivial)) (by simp only [zab, zad, false_implies, implies_true, and_true, true_and, flat_cons, flat_nil, flat_ints, flat_bools, flat_app, zaN, and_self, eq_self_iff_true, zaf]); simp only [zae, zai, zab, zad, false_implies, implies_true, and_true, lk, slot, zaR, zaI, toN, zaa, if_true, if_false, ↓reduceIte, reduceCtorEq])
   all_goals ((repeat' apply zaG) <;> (first | rfl | trivial))
 rintro ⟨i, out⟩ ⟨hi, ho, hA, hI⟩
 simp only at hi ho hA hI ⊢
 rcases zbg i l.length with hlt | hge
 case inr =>
   have c : ¬ (i : Int) < (l.length : Int) := by omega
   rw [zbd hge, srtA] at hI
   subst hI
   simp only [go_sem, zaa, zar, zas, zat, zav, zaj, ↓reduceIte, reduceCtorEq, zac, zag, zaw, zax, zay, decide_eq_false c]
   repeat' (first
 | exact yia | fail)
   (refine fs_frz 0 ⟨Ints (srt l), 1⟩ (by simp only [zaS, lookR, zaa, if_true, if_false, ↓reduceIte]) (by first | exact Ints_isG _ | exact Bools_isG _ | (simp [zaZ]; done)) ?_; simp only [frzTm, zbn, zbf, zaU, frzHp, frzO, Ints_frz, Bools_frz, zae, zai, zaa, if_true, if_false, ↓reduceIte])
   apply fs_nil <;> (try simp only [go_sem, resV, resS, zaR, zaT, zaI, zbi, zaS, idx, renO, zaQ, evS, slot, lookR, zaa, ↓reduceIte, reduceCtorEq, if_true, if_false, zaO, zaP, zae, zai, sLoad, readAt, readNeed, Ints_ren, Ints_length, Ints_getD, and_true, true_and, zaL, zaM]) <;> (try rfl)
 have c : (i : Int) < (l.length : Int) := by omega
 obtain ⟨x, hx⟩ : ∃ x, l.getD i 0 = x := ⟨_, rfl⟩
 rw [drop_getD l i 0 hlt, hx, srtA] at hI
 simp only [go_sem, zaa, zar, zas, zat, zav, zaj, ↓reduceIte, reduceCtorEq, zac, zag, zaw, zax, zay, decide_eq_true c]
 repeat' (first
 | exact yia | fail)
 refine w_loop (ι := Nat) (fun k => ⟨[(0, gi l kk), (3, .one (.osl 0 0 out.length none)), (4, i1 i), (5, i1 k)], [(0, some ⟨Ints out, 1⟩)], 1⟩) (fun k => k ≤ out.length ∧ ∀ y ∈ out.drop k, x < y) (fun k => k) out.length ?_ ⟨zbo _, fun y hy => by rw [zbd (zbo _)] at hy; exact absurd hy zad⟩ ?_
 · (refine imp_ren _ _ _ [(0, 0, ⟨Ints out, 1⟩)] (by simp) (by simp) (by simp) (zaJ rfl) ?_ rfl (by simp only [zab, zad, false_implies, implies_true, and_true, zaS, lookR, zaa, if_true, if_false, ↓reduceIte] <;> (repeat' apply zaG) <;> (first | rfl | trivial)) (by simp only [zab, zad, false_implies, implies_true, and_true, true_and, flat_cons, flat_nil, flat_ints, flat_bools, flat_app, zaN, and_self, eq_self_iff_true, zaf]); simp only [zae, zai, zab, zad, false_implies, implies_true, and_true, lk, slot, zaR, zaI, toN, zaa, if_true, if_false, ↓reduceIte, reduceCtorEq])
   all_goals ((repeat' apply zaG) <;> (first | rfl | trivial))
 rintro k ⟨hk, hb⟩
 simp only at hk hb ⊢
 by_cases hk0 : 0 < k
 · have c0 : 0 < (k : Int) := by omega
   have hkn : ((k : Int) - 1).toNat = k - 1 := by omega
   obtain ⟨p, hp⟩ : ∃ p, out.getD (k - 1) 0 = p := ⟨_, rfl⟩
   have hdk : out.drop (k - 1) = p :: out.drop k := by
     have := drop_getD out (k - 1) 0 (by omega)
     rw [hp, show k - 1 + 1 = k by omega] at this; exact this
   by_cases hlt2 : x < p
   · simp only [go_sem, zaa, zar, zas, zat, zav, zaj, ↓reduceIte, reduceCtorEq, zac, zag, zaw, zax, zay, decide_eq_true c, decide_eq_true c0, hkn, hx, hp, decide_eq_true hlt2]
     repeat' (first
 | with_reducible refine zaG ?_ ?_
 | (unfold OKC; kernel_rfl)
 | (unfold EDG; kernel_rfl)
 | exact yif
 | exact yia | fail)
     refine le_mk (k - 1) ?_ ⟨by omega, fun y hy => by rw [hdk] at hy; rcases List.mem_cons.1 hy with rfl | hy; (· exact hlt2); (· exact hb y hy)⟩ (by omega)
     have hkk : ((k - 1 : Nat) : Int) = (k : Int) - 1 := by omega
     (refine imp_ren _ _ _ [(0, 0, ⟨Ints out, 1⟩)] (by simp) (by simp) (by simp) (zaJ rfl) ?_ rfl (by simp only [zab, zad, false_implies, implies_true, and_true, zaS, lookR, zaa, if_true, if_false, ↓reduceIte] <;> (repeat' apply zaG) <;> (first | rfl | trivial)) (by simp only [zab, zad, false_implies, implies_true, and_true, true_and, flat_cons, flat_nil, flat_ints, flat_bools, flat_app, zaN, and_self, eq_self_iff_true, zaf]); simp only [zae, zai, zab, zad, false_implies, implies_true, and_true, lk, slot, zaR, zaI, toN, zaa, if_true, if_false, ↓reduceIte, reduceCtorEq])
     all_goals ((repeat' apply zaG) <;> (first | rfl | trivial | (simp only [hkk]; done) | (simp only [hkk]; rfl) | (simp only [hkk]; trivial)))
   · by_cases heq : p = x
     · have hin : ins x out = out := ins_in x out hA (by rw [← heq, ← hp]; exact getD_mem out (k - 1) 0 (by omega))
       rw [hin] at hI
       simp only [go_sem, zaa, zar, zas, zat, zav, zaj, ↓reduceIte, reduceCtorEq, zac, zag, zaw, zax, zay, decide_eq_true c, decide_eq_true c0, hkn, hx, hp, decide_eq_false hlt2, decide_eq_true heq]
       repeat' (first
 | with_reducible refine zaG ?_ ?_
 | (unfold OKC; kernel_rfl)
 | (unfold EDG; kernel_rfl)
 | exact yif
 | exact yia | fail)
       refine le_mk (i + 1, out) ?_ ⟨hlt, by show out.length ≤ i + 1; omega, hA, hI⟩ (by show l.length - (i + 1) < l.length - i; omega)
       (refine imp_ren _ _ _ [(0, 0, ⟨Ints out, 1⟩)] (by simp) (by simp) (by simp) (zaJ rfl) ?_ rfl (by simp only [zab, zad, false_implies, implies_true, and_true, zaS, lookR, zaa, if_true, if_false, ↓reduceIte] <;> (repeat' apply zaG) <;> (first | rfl | trivial)) (by simp only [zab, zad, false_implies, implies_true, and_true, true_and, flat_cons, flat_nil, flat_ints, flat_bools, flat_app, zaN, and_self, eq_self_iff_true, zaf]); simp only [zae, zai, zab, zad, false_implies, implies_true, and_true, lk, slot, zaR, zaI, toN, zaa, if_true, if_false, ↓reduceIte, reduceCtorEq])
       all_goals ((repeat' apply zaG) <;> (first | rfl | trivial | (simp only [zaK]; done) | (simp only [zaK]; rfl) | (simp only [zaK]; trivial)))
     · have hnk : ((k : Int) + 1).toNat = k + 1 := by omega
       have hmin : min (out.length + 1 - k) (out.length + 1 - (k + 1)) = out.length - k := by omega
       have htt : zbk (out.length - k) (zbk (out.length + 1 - k) (List.drop k (out ++ [0]))) = out.drop k := by
         rw [List.take_take, List.drop_append_of_le_length hk, zbc (by rw [zaW]; omega), zaX (by rw [zaW]; omega)]
       have hdl : (zbk (out.length + 1 - k) (List.drop k (out ++ [0]))).length = out.length + 1 - k := by simp
       have hta : zbk out.length (Ints out) = Ints out := zaX (by rw [Ints_length]; exact zbo _)
       have hap : Ints out ++ [int 0] = Ints (out ++ [0]) := by simp [Ints]
       obtain ⟨q, hlay⟩ := lay_ins out k hk
       have hset := set_ins out k hk q x
       have hll : (Ints (out.take k ++ q :: out.drop k)).length = out.length + 1 := by rw [Ints_length, zbe, zah, zbl, zaW]; omega
       have hin : out.take k ++ x :: out.drop k = ins x out := ins_at x out k hA (fun y hy => lt_of_asc hA hp (by omega) (by omega) y hy) hb
       have hil : (ins x out).length = out.length + 1 := by rw [← hin, zbe, zah, zbl, zaW]; omega
       rw [hin] at hset
       simp only [go_sem, zaa, zar, zas, zat, zav, zaj, ↓reduceIte, reduceCtorEq, zac, zag, zaw, zax, zay, decide_eq_true c, decide_eq_true c0, hkn, hp, decide_eq_false hlt2, decide_eq_false heq, hnk, hmin, htt, hx, hta, hap]
       repeat' (first
 | with_reducible refine zaG ?_ ?_
 | (unfold OKC; kernel_rfl)
 | (unfold EDG; kernel_rfl)
 | exact yif
 | exact yia | fail)
       all_goals try (intro row hrow; cases hrow; rfl)
       all_goals try (rw [hlay, hll]; omega)
       refine le_mk (i + 1, ins x out) ?_ ⟨hlt, by show (ins x out).length ≤ i + 1; omega, ins_asc x out hA, hI⟩ (by show l.length - (i + 1) < l.length - i; omega)
       simp only [hil, hlay, hset]
       (refine imp_ren _ _ _ [(0, 31, ⟨Ints (ins x out), 1⟩)] (by simp) (by simp) (by simp) (zaJ rfl) ?_ rfl (by simp only [zab, zad, false_implies, implies_true, and_true, zaS, lookR, zaa, if_true, if_false, ↓reduceIte] <;> (repeat' apply zaG) <;> (first | rfl | trivial)) (by simp only [zab, zad, false_implies, implies_true, and_true, true_and, flat_cons, flat_nil, flat_ints, flat_bools, flat_app, zaN, and_self, eq_self_iff_true, zaf]); simp only [zae, zai, zab, zad, false_implies, implies_true, and_true, lk, slot, zaR, zaI, toN, zaa, if_true, if_false, ↓reduceIte, reduceCtorEq])
       all_goals ((repeat' apply zaG) <;> (first | rfl | trivial | (simp only [zaK]; done) | (simp only [zaK]; rfl) | (simp only [zaK]; trivial)))
 · have c0 : ¬ 0 < (k : Int) := by omega
   have hnk : ((k : Int) + 1).toNat = k + 1 := by omega
   have hmin : min (out.length + 1 - k) (out.length + 1 - (k + 1)) = out.length - k := by omega
   have htt : zbk (out.length - k) (zbk (out.length + 1 - k) (List.drop k (out ++ [0]))) = out.drop k := by
     rw [List.take_take, List.drop_append_of_le_length hk, zbc (by rw [zaW]; omega), zaX (by rw [zaW]; omega)]
   have hdl : (zbk (out.length + 1 - k) (List.drop k (out ++ [0]))).length = out.length + 1 - k := by simp
   have hta : zbk out.length (Ints out) = Ints out := zaX (by rw [Ints_length]; exact zbo _)
   have hap : Ints out ++ [int 0] = Ints (out ++ [0]) := by simp [Ints]
   obtain ⟨q, hlay⟩ := lay_ins out k hk
   have hset := set_ins out k hk q x
   have hll : (Ints (out.take k ++ q :: out.drop k)).length = out.length + 1 := by rw [Ints_length, zbe, zah, zbl, zaW]; omega
   have hin : out.take k ++ x :: out.drop k = ins x out := ins_at x out k hA (fun y hy => by rw [show k = 0 by omega, zaz] at hy; exact absurd hy zad) hb
   have hil : (ins x out).length = out.length + 1 := by rw [← hin, zbe, zah, zbl, zaW]; omega
   rw [hin] at hset
   simp only [go_sem, zaa, zar, zas, zat, zav, zaj, ↓reduceIte, reduceCtorEq, zac, zag, zaw, zax, zay, decide_eq_true c, decide_eq_false c0, hnk, hmin, htt, hx, hta, hap]
   repeat' (first
 | with_reducible refine zaG ?_ ?_
 | (unfold OKC; kernel_rfl)
 | (unfold EDG; kernel_rfl)
 | exact yif
 | exact yia | fail)
   all_goals try (intro row hrow; cases hrow; rfl)
   all_goals try (rw [hlay, hll]; omega)
   refine le_mk (i + 1, ins x out) ?_ ⟨hlt, by show (ins x out).length ≤ i + 1; omega, ins_asc x out hA, hI⟩ (by show l.length - (i + 1) < l.length - i; omega)
   simp only [hil, hlay, hset]
   (refine imp_ren _ _ _ [(0, 31, ⟨Ints (ins x out), 1⟩)] (by simp) (by simp) (by simp) (zaJ rfl) ?_ rfl (by simp only [zab, zad, false_implies, implies_true, and_true, zaS, lookR, zaa, if_true, if_false, ↓reduceIte] <;> (repeat' apply zaG) <;> (first | rfl | trivial)) (by simp only [zab, zad, false_implies, implies_true, and_true, true_and, flat_cons, flat_nil, flat_ints, flat_bools, flat_app, zaN, and_self, eq_self_iff_true, zaf]); simp only [zae, zai, zab, zad, false_implies, implies_true, and_true, lk, slot, zaR, zaI, toN, zaa, if_true, if_false, ↓reduceIte, reduceCtorEq])
   all_goals ((repeat' apply zaG) <;> (first | rfl | trivial | (simp only [zaK]; done) | (simp only [zaK]; rfl) | (simp only [zaK]; trivial)))
set_option maxHeartbeats 4000000 in
theorem same_spec (a b : List Int) (k k2 : Option Nat) (hl : a.length ≤ 9223372036854775806) : FnSpec Tryz.prog 17 [gi a k, gi b k2] [] (b1 (decide (a = b))) [] := by
 by_cases hlen : a.length = b.length
 case neg =>
   have c : ¬ (a.length : Int) = (b.length : Int) := by omega
   rw [decide_eq_false (fun e => hlen (by rw [e]))]
   refine fnspec_of mixed TT_ok TT_cl ⟨fun _ => false, fun _ => [], 0, fun _ => false, fun _ => false⟩ Tryz.func17 rfl (by kernel_rfl) rfl 26 rfl [.tmp 4] rfl ?_
   simp only [go_sem, zaa, zar, zas, zat, zav, zaj, ↓reduceIte, reduceCtorEq, zac, zag, zaw, zax, zay, decide_eq_false c]
   repeat' (first
 | exact fs_nil trivial rfl
 | fail)
 have hlen' : (a.length : Int) = (b.length : Int) := by omega
 refine fnspec_of mixed TT_ok TT_cl ⟨fun _ => false, fun _ => [], 0, fun _ => false, fun _ => false⟩ Tryz.func17 rfl (by kernel_rfl) rfl 26 rfl [.tmp 4] rfl ?_
 simp only [go_sem, zaa, zar, zas, zat, zav, zaj, ↓reduceIte, reduceCtorEq, zac, zag, zaw, zax, zay, hlen']
 repeat' (first
 | exact yia | fail)
 refine w_loop (ι := Nat) (fun i => ⟨[(0, gi a k), (1, gi b k2), (5, i1 i)], [], 0⟩) (fun i => i ≤ a.length ∧ a.take i = b.take i) (fun i => a.length - i) 0 ?_ ⟨zaV _, rfl⟩ ?_
 · (refine imp_sub _ _ _ [] (by simp) (by simp) (by simp) (zaV _) ?_ rfl (by simp); simp only [zab, zad, false_implies, implies_true, and_true, lk, slot, zaR, zaI, zaa, if_true, if_false, ↓reduceIte, reduceCtorEq])
   all_goals ((repeat' apply zaG) <;> (first | rfl | trivial))
 rintro i ⟨hi, he⟩
 simp only at hi he ⊢
 rcases zbg i a.length with hlt | hge
 case inr =>
   have c : ¬ (i : Int) < (a.length : Int) := by omega
   rw [zaX hge, zaX (by omega)] at he
   rw [decide_eq_true he]
   simp only [go_sem, zaa, zar, zas, zat, zav, zaj, ↓reduceIte, reduceCtorEq, zac, zag, zaw, zax, zay, decide_eq_false c]
   repeat' (first
 | exact fs_nil trivial rfl
 | fail)
 have c : (i : Int) < (a.length : Int) := by omega
 have ha := take_getD a i 0 hlt
 have hb := take_getD b i 0 (by omega)
 by_cases hx : a.getD i 0 = b.getD i 0
 · have hn : a.take (i + 1) = b.take (i + 1) := by rw [ha, hb, he, hx]
   simp only [go_sem, zaa, zar, zas, zat, zav, zaj, ↓reduceIte, reduceCtorEq, zac, zag, zaw, zax, zay, decide_eq_true c, hx]
   repeat' (first
 | with_reducible refine zaG ?_ ?_
 | (unfold OKC; kernel_rfl)
 | (unfold EDG; kernel_rfl)
 | exact yif
 | exact yia | fail)
   refine le_mk (i + 1) ?_ ⟨hlt, hn⟩ (by omega)
   (refine imp_sub _ _ _ [] (by simp) (by simp) (by simp) (zaV _) ?_ rfl (by simp); simp only [zab, zad, false_implies, implies_true, and_true, lk, slot, zaR, zaI, zaa, if_true, if_false, ↓reduceIte, reduceCtorEq])
   all_goals ((repeat' apply zaG) <;> (first | rfl | trivial | (simp only [zaK]; done) | (simp only [zaK]; rfl) | (simp only [zaK]; trivial)))
 · rw [decide_eq_false (fun e => hx (by rw [e]))]
   simp only [go_sem, zaa, zar, zas, zat, zav, zaj, ↓reduceIte, reduceCtorEq, zac, zag, zaw, zax, zay, decide_eq_true c, decide_eq_false hx]
   repeat' (first
 | with_reducible refine zaG ?_ ?_
 | (unfold OKC; kernel_rfl)
 | (unfold EDG; kernel_rfl)
 | exact yif
 | exact fs_nil trivial rfl
 | fail)
set_option maxHeartbeats 8000000 in
theorem rthreads6_spec (l : List Nd) (n : Int) (T : List Tk) (h g : Int) (hl : l.length ≤ 1000000) (hT : T.length ≤ 1000000) (hnm : NmR l) : FnSpec Tryz.prog 23 [hyV l none n T none h, i1 g] [] (gi (thM6 l n T h g) none) [] := by
 have h1 := rcheck6 l n T h hl (by omega) hnm
 have hcl := tk_len T
 unfold thM6 chsM
 cases hv : hyM l n T h with
 | false =>
   (try rw [hv] at h1)
   (try rw [if_neg (by decide)])
   refine fnspec_of mixed TT_ok TT_cl ⟨fun _ => false, fun _ => [], 0, fun _ => false, fun _ => false⟩ Tryz.func23 rfl (by kernel_rfl) rfl 35 rfl [.tmp 4] rfl ?_
   simp only [go_sem, zaa, zar, zas, zat, zav, zaj, ↓reduceIte, reduceCtorEq, zac, zag, zaw, zax, zay, zao, zap, zaf, zaq, zau, zal, zam, zak, zaz, zaB, zah, zan]
   repeat' (first
 | (apply cl_plain
    case hs => rfl
    case ha => exact yib
    case h => exact yih)
 | ((first | refine s1_id ?_ | refine swp_id ?_ | refine sops_id ?_ | refine s2_id ?_); simp only [zao, zap, zaf, zaq, zau, zal, zam, zak, zaz, zaB, zah, zan, go_sem, zaa, zar, zas, zat, zav, zaj, ↓reduceIte, reduceCtorEq, zac, zag, zaw, zax, zay, zaR, zaT, zaI, zaQ, renO, bk, back, outUpsFrom, Ints_ren])
 | exact yia | fail)
   repeat' (first
 | exact fs_w trivial (svw_of cw_gnil)
 | fail)
 | true =>
 (try rw [hv] at h1)
 (try rw [if_pos rfl])
 obtain ⟨_, hTl, _⟩ := hy_all hv
 obtain ⟨K, hK0, hKe, hKl, hKs⟩ := fmG_pack ztk (inP g) Tk.i T
 generalize (T.filter (inP g)).map Tk.i = W at *
 refine fnspec_of mixed TT_ok TT_cl ⟨fun _ => false, fun _ => [], 0, fun _ => false, fun _ => false⟩ Tryz.func23 rfl (by kernel_rfl) rfl 35 rfl [.tmp 4] rfl ?_
 simp only [go_sem, zaa, zar, zas, zat, zav, zaj, ↓reduceIte, reduceCtorEq, zac, zag, zaw, zax, zay, zao, zap, zaf, zaq, zau, zal, zam, zak, zaz, zaB, zah, zan]
 repeat' (first
 | (apply cl_plain
    case hs => rfl
    case ha => exact yib
    case h => exact yih)
 | ((first | refine s1_id ?_ | refine swp_id ?_ | refine sops_id ?_ | refine s2_id ?_); simp only [zao, zap, zaf, zaq, zau, zal, zam, zak, zaz, zaB, zah, zan, go_sem, zaa, zar, zas, zat, zav, zaj, ↓reduceIte, reduceCtorEq, zac, zag, zaw, zax, zay, zaR, zaT, zaI, zaQ, renO, bk, back, outUpsFrom, Ints_ren])
 | exact yia | fail)
 refine w_loop (ι := Nat) (fun m => ⟨[(1, i1 g), (2, .one (.optr 0 0)), (5, .one (.osl 1 0 (K m).length none)), (6, i1 m)], [(0, some ⟨hyc l none n T none h, 4⟩), (1, some ⟨Ints (K m), 1⟩)], 2⟩) (fun m => m ≤ T.length) (fun m => T.length - m) 0 ?_ (zaV _) ?_
 · simp only [hK0]; (refine Imp.trans (imp_nilA _ _ 5 1 99 (by simp only []; omega) rfl) ?_)
   (refine imp_ren _ _ _ [(0, 0, ⟨hyc l none n T none h, 4⟩), (1, 99, ⟨[], 1⟩)] (by simp) (by simp) (by simp) (zaJ rfl) ?_ rfl (by simp only [zab, zad, false_implies, implies_true, and_true, zaS, lookR, zaa, if_true, if_false, ↓reduceIte] <;> (repeat' apply zaG) <;> (first | rfl | trivial)) (by simp only [zab, zad, false_implies, implies_true, and_true, true_and, flat_cons, flat_nil, flat_ints, flat_bools, flat_app, zaN, and_self, eq_self_iff_true, zaf]); simp only [zae, zai, zab, zad, false_implies, implies_true, and_true, lk, slot, zaR, zaI, toN, zaa, if_true, if_false, ↓reduceIte, reduceCtorEq])
   all_goals ((repeat' apply zaG) <;> (first | rfl | trivial))
 rintro m hm
 simp only at hm ⊢
 rcases zbg m T.length with hlt | hge
 case inr =>
   have c : ¬ (m : Int) < (T.length : Int) := by omega
   obtain rfl : m = T.length := by omega
   rw [hKe]
   simp only [go_sem, zaa, zar, zas, zat, zav, zaj, ↓reduceIte, reduceCtorEq, zac, zag, zaw, zax, zay, decide_eq_false c, zao, zap, zaf, zaq, zau, zal, zam, zak, zaz, zaB, zah, zan]
   repeat' (first
 | exact yia | fail)
   (refine fs_frz 1 ⟨Ints W, 1⟩ (by simp only [zaS, lookR, zaa, if_true, if_false, ↓reduceIte]) (by first | exact Ints_isG _ | exact Bools_isG _ | exact Cs_isG _ | (simp [zaZ]; done)) ?_; simp only [frzTm, zbn, zbf, zaU, frzHp, frzO, Ints_frz, Bools_frz, zae, zai, zaa, if_true, if_false, ↓reduceIte])
   repeat' (first
 | (refine fs_w ?h1 (svw_of ?h2); (case h1 => repeat' (first | exact trivial | exact rfl | exact zaJ rfl | apply zaG)); (case h2 => repeat' (first | ((with_reducible refine (?_ : CW _ _)); first | exact cw_gnil | exact cw_rfl _ | exact cw_niln _ _ | exact cw_cap _ _ _ _) | exact trivial | (show _ ∧ SWL _ _; apply zaG) | (show _ ∧ CWL _ _; apply zaG) | show CW _ _)))
 | fail)
 have c : (m : Int) < (T.length : Int) := by omega
 obtain ⟨q0, q1, _, _⟩ := tk_q T m hlt (.sc (.int .i64 0))
 obtain ⟨s1, s2⟩ := hKs m hlt
 have hk := hKl m
 have ha := Ints_all (K m)
 have hla := snoc_len (K m) (gT T m).i
 rw [show T.getD m ztk = gT T m from rfl] at s1 s2
 by_cases e : (gT T m).p = g
 · (try rw [if_pos e])
   have s1 := s1 (decide_eq_true e)
   rw [← s1] at hla
   simp only [go_sem, zaa, zar, zas, zat, zav, zaj, ↓reduceIte, reduceCtorEq, zac, zag, zaw, zax, zay, decide_eq_true c, q0, q1, decide_eq_true e, ha, ← s1, zao, zap, zaf, zaq, zau, zal, zam, zak, zaz, zaB, zah, zan]
   repeat' (first
 | with_reducible refine zaG ?_ ?_
 | exact yif
 | exact yia | fail)
   refine le_mk (m + 1) ?_ hlt (by show T.length - (m + 1) < T.length - m; omega)
   (refine imp_ren _ _ _ [(0, 0, ⟨hyc l none n T none h, 4⟩), (1, 23, ⟨Ints (K (m + 1)), 1⟩)] (by simp) (by simp) (by simp) (zaJ rfl) ?_ rfl (by simp only [zab, zad, false_implies, implies_true, and_true, zaS, lookR, zaa, if_true, if_false, ↓reduceIte] <;> (repeat' apply zaG) <;> (first | rfl | trivial)) (by simp only [zab, zad, false_implies, implies_true, and_true, true_and, flat_cons, flat_nil, flat_ints, flat_bools, flat_app, zaN, and_self, eq_self_iff_true, zaf]); simp only [zae, zai, zab, zad, false_implies, implies_true, and_true, lk, slot, zaR, zaI, toN, zaa, if_true, if_false, ↓reduceIte, reduceCtorEq])
   all_goals ((repeat' apply zaG) <;> (first | rfl | trivial | (simp only [zaK, hla]; done) | (simp only [zaK, hla]; rfl) | (simp only [zaK, hla]; trivial)))
 (try rw [if_neg e])
 have s2 := s2 (decide_eq_false e)
 simp only [go_sem, zaa, zar, zas, zat, zav, zaj, ↓reduceIte, reduceCtorEq, zac, zag, zaw, zax, zay, decide_eq_true c, q0, q1, decide_eq_false e, zao, zap, zaf, zaq, zau, zal, zam, zak, zaz, zaB, zah, zan]
 repeat' (first
 | with_reducible refine zaG ?_ ?_
 | exact yif
 | exact yia | fail)
 rw [← s2]
 refine le_mk (m + 1) ?_ hlt (by show T.length - (m + 1) < T.length - m; omega)
 (refine imp_ren _ _ _ [(0, 0, ⟨hyc l none n T none h, 4⟩), (1, 1, ⟨Ints (K (m + 1)), 1⟩)] (by simp) (by simp) (by simp) (zaJ rfl) ?_ rfl (by simp only [zab, zad, false_implies, implies_true, and_true, zaS, lookR, zaa, if_true, if_false, ↓reduceIte] <;> (repeat' apply zaG) <;> (first | rfl | trivial)) (by simp only [zab, zad, false_implies, implies_true, and_true, true_and, flat_cons, flat_nil, flat_ints, flat_bools, flat_app, zaN, and_self, eq_self_iff_true, zaf]); simp only [zae, zai, zab, zad, false_implies, implies_true, and_true, lk, slot, zaR, zaI, toN, zaa, if_true, if_false, ↓reduceIte, reduceCtorEq])
 all_goals ((repeat' apply zaG) <;> (first | rfl | trivial | (simp only [zaK]; done) | (simp only [zaK]; rfl) | (simp only [zaK]; trivial)))
theorem rsub0_spec (l : List Nd) (n g : Int) (hl : l.length ≤ 1000000) (hnm : NmR l) : FnSpec Tryz.prog 71 [trV l none n, i1 g] [] (gi (subM l n g) none) [] := rsub_spec l none n g hl hnm
set_option maxHeartbeats 8000000 in
theorem rcount6_spec (l : List Nd) (n : Int) (T : List Tk) (h g : Int) (hl : l.length ≤ 1000000) (hT : T.length ≤ 1000000) (hnm : NmR l) : FnSpec Tryz.prog 25 [hyV l none n T none h, i1 g] [] (i1 (coM l n T h g)) [] := by
 have h1 := rcheck6 l n T h hl (by omega) hnm
 have hcl := tk_len T
 unfold coM chsM
 cases hv : hyM l n T h with
 | false =>
   (try rw [hv] at h1)
   (try rw [if_neg (by decide)])
   refine fnspec_of mixed TT_ok TT_cl ⟨fun _ => false, fun _ => [], 0, fun _ => false, fun _ => false⟩ Tryz.func25 rfl (by kernel_rfl) rfl 33 rfl [.tmp 4] rfl ?_
   simp only [go_sem, zaa, zar, zas, zat, zav, zaj, ↓reduceIte, reduceCtorEq, zac, zag, zaw, zax, zay, zao, zap, zaf, zaq, zau, zal, zam, zak, zaz, zaB, zah, zan]
   repeat' (first
 | (apply cl_plain
    case hs => rfl
    case ha => exact yib
    case h => exact yih)
 | ((first | refine s1_id ?_ | refine swp_id ?_ | refine sops_id ?_ | refine s2_id ?_); simp only [zao, zap, zaf, zaq, zau, zal, zam, zak, zaz, zaB, zah, zan, go_sem, zaa, zar, zas, zat, zav, zaj, ↓reduceIte, reduceCtorEq, zac, zag, zaw, zax, zay, zaR, zaT, zaI, zaQ, renO, bk, back, outUpsFrom, Ints_ren])
 | exact fs_nil trivial rfl
 | fail)
 | true =>
 (try rw [hv] at h1)
 (try rw [if_pos rfl])
 obtain ⟨_, hTl, _⟩ := hy_all hv
 have h2 := rsub0_spec l n g hl hnm
 have hsl := subM_len l n g
 generalize subM l n g = S at *
 obtain ⟨K, hK0, hKe, hKl, hKs⟩ := fmG_pack ztk (inC S) Tk.i T
 generalize (T.filter (inC S)).map Tk.i = W at *
 refine fnspec_of mixed TT_ok TT_cl ⟨fun _ => false, fun _ => [], 0, fun _ => false, fun _ => false⟩ Tryz.func25 rfl (by kernel_rfl) rfl 33 rfl [.tmp 4] rfl ?_
 simp only [go_sem, zaa, zar, zas, zat, zav, zaj, ↓reduceIte, reduceCtorEq, zac, zag, zaw, zax, zay, zao, zap, zaf, zaq, zau, zal, zam, zak, zaz, zaB, zah, zan]
 repeat' (first
 | (apply cl_plain
    case hs => rfl
    case ha => exact yib
    case h => (first | exact h1 .. | exact h2 ..))
 | ((first | refine s1_id ?_ | refine swp_id ?_ | refine sops_id ?_ | refine s2_id ?_); simp only [zao, zap, zaf, zaq, zau, zal, zam, zak, zaz, zaB, zah, zan, go_sem, zaa, zar, zas, zat, zav, zaj, ↓reduceIte, reduceCtorEq, zac, zag, zaw, zax, zay, zaR, zaT, zaI, zaQ, renO, bk, back, outUpsFrom, Ints_ren])
 | exact yia | fail)
 refine w_loop (ι := Nat) (fun m => ⟨[(2, .one (.optr 0 0)), (5, i1 (K m).length), (6, gi S none), (7, i1 m)], [(0, some ⟨hyc l none n T none h, 4⟩)], 1⟩) (fun m => m ≤ T.length) (fun m => T.length - m) 0 ?_ (zaV _) ?_
 · simp only [hK0]
   (refine imp_ren _ _ _ [(0, 0, ⟨hyc l none n T none h, 4⟩)] (by simp) (by simp) (by simp) (zaJ rfl) ?_ rfl (by simp only [zab, zad, false_implies, implies_true, and_true, zaS, lookR, zaa, if_true, if_false, ↓reduceIte] <;> (repeat' apply zaG) <;> (first | rfl | trivial)) (by simp only [zab, zad, false_implies, implies_true, and_true, true_and, flat_cons, flat_nil, flat_ints, flat_bools, flat_app, zaN, and_self, eq_self_iff_true, zaf]); simp only [zae, zai, zab, zad, false_implies, implies_true, and_true, lk, slot, zaR, zaI, toN, zaa, if_true, if_false, ↓reduceIte, reduceCtorEq])
   all_goals ((repeat' apply zaG) <;> (first | rfl | trivial))
 clear h1 h2
 rintro m hm
 simp only at hm ⊢
 rcases zbg m T.length with hlt | hge
 case inr =>
   have c : ¬ (m : Int) < (T.length : Int) := by omega
   obtain rfl : m = T.length := by omega
   rw [hKe]
   simp only [go_sem, zaa, zar, zas, zat, zav, zaj, ↓reduceIte, reduceCtorEq, zac, zag, zaw, zax, zay, decide_eq_false c, zao, zap, zaf, zaq, zau, zal, zam, zak, zaz, zaB, zah, zan]
   repeat' (first
 | exact fs_nil trivial rfl
 | fail)
 have c : (m : Int) < (T.length : Int) := by omega
 obtain ⟨_, _, q2, _⟩ := tk_q T m hlt (.sc (.int .i64 0))
 obtain ⟨s1, s2⟩ := hKs m hlt
 have hk := hKl m
 have hla := snoc_len (K m) (gT T m).i
 have h3 := has_spec S none (gT T m).g (by omega)
 rw [show T.getD m ztk = gT T m from rfl] at s1 s2
 unfold inC at s1 s2
 by_cases e : (gT T m).g ∈ S
 · (try rw [if_pos e])
   have s1 := s1 (decide_eq_true e)
   rw [← s1] at hla
   rw [decide_eq_true e] at h3
   simp only [go_sem, zaa, zar, zas, zat, zav, zaj, ↓reduceIte, reduceCtorEq, zac, zag, zaw, zax, zay, decide_eq_true c, q2, decide_eq_true e, zao, zap, zaf, zaq, zau, zal, zam, zak, zaz, zaB, zah, zan]
   repeat' (first
 | with_reducible refine zaG ?_ ?_
 | (apply cl_plain
    case hs => rfl
    case ha => exact yib
    case h => (first | exact h3 ..))
 | ((first | refine s1_id ?_ | refine swp_id ?_ | refine sops_id ?_ | refine s2_id ?_); simp only [decide_eq_true c, q2, decide_eq_true e, zao, zap, zaf, zaq, zau, zal, zam, zak, zaz, zaB, zah, zan, go_sem, zaa, zar, zas, zat, zav, zaj, ↓reduceIte, reduceCtorEq, zac, zag, zaw, zax, zay, zaR, zaT, zaI, zaQ, renO, bk, back, outUpsFrom, Ints_ren])
 | exact yif
 | exact yia | fail)
   refine le_mk (m + 1) ?_ hlt (by show T.length - (m + 1) < T.length - m; omega)
   (refine imp_ren _ _ _ [(0, 0, ⟨hyc l none n T none h, 4⟩)] (by simp) (by simp) (by simp) (zaJ rfl) ?_ rfl (by simp only [zab, zad, false_implies, implies_true, and_true, zaS, lookR, zaa, if_true, if_false, ↓reduceIte] <;> (repeat' apply zaG) <;> (first | rfl | trivial)) (by simp only [zab, zad, false_implies, implies_true, and_true, true_and, flat_cons, flat_nil, flat_ints, flat_bools, flat_app, zaN, and_self, eq_self_iff_true, zaf]); simp only [zae, zai, zab, zad, false_implies, implies_true, and_true, lk, slot, zaR, zaI, toN, zaa, if_true, if_false, ↓reduceIte, reduceCtorEq])
   all_goals ((repeat' apply zaG) <;> (first | rfl | trivial | (simp only [zaK, hla]; done) | (simp only [zaK, hla]; rfl) | (simp only [zaK, hla]; trivial)))
 (try rw [if_neg e])
 have s2 := s2 (decide_eq_false e)
 rw [decide_eq_false e] at h3
 simp only [go_sem, zaa, zar, zas, zat, zav, zaj, ↓reduceIte, reduceCtorEq, zac, zag, zaw, zax, zay, decide_eq_true c, q2, decide_eq_false e, zao, zap, zaf, zaq, zau, zal, zam, zak, zaz, zaB, zah, zan]
 repeat' (first
 | with_reducible refine zaG ?_ ?_
 | (apply cl_plain
    case hs => rfl
    case ha => exact yib
    case h => (first | exact h3 ..))
 | ((first | refine s1_id ?_ | refine swp_id ?_ | refine sops_id ?_ | refine s2_id ?_); simp only [decide_eq_true c, q2, decide_eq_false e, zao, zap, zaf, zaq, zau, zal, zam, zak, zaz, zaB, zah, zan, go_sem, zaa, zar, zas, zat, zav, zaj, ↓reduceIte, reduceCtorEq, zac, zag, zaw, zax, zay, zaR, zaT, zaI, zaQ, renO, bk, back, outUpsFrom, Ints_ren])
 | exact yif
 | exact yia | fail)
 rw [← s2]
 refine le_mk (m + 1) ?_ hlt (by show T.length - (m + 1) < T.length - m; omega)
 (refine imp_ren _ _ _ [(0, 0, ⟨hyc l none n T none h, 4⟩)] (by simp) (by simp) (by simp) (zaJ rfl) ?_ rfl (by simp only [zab, zad, false_implies, implies_true, and_true, zaS, lookR, zaa, if_true, if_false, ↓reduceIte] <;> (repeat' apply zaG) <;> (first | rfl | trivial)) (by simp only [zab, zad, false_implies, implies_true, and_true, true_and, flat_cons, flat_nil, flat_ints, flat_bools, flat_app, zaN, and_self, eq_self_iff_true, zaf]); simp only [zae, zai, zab, zad, false_implies, implies_true, and_true, lk, slot, zaR, zaI, toN, zaa, if_true, if_false, ↓reduceIte, reduceCtorEq])
 all_goals ((repeat' apply zaG) <;> (first | rfl | trivial | (simp only [zaK]; done) | (simp only [zaK]; rfl) | (simp only [zaK]; trivial)))
set_option maxHeartbeats 8000000 in
theorem mpop_spec (l : List Nd) (n : Int) (T : List Tk) (h g : Int) (hl : l.length ≤ 1000000) (hT : T.length ≤ 1000000) (hnm : NmR l) (hct : CtR l) : FnSpec Tryz.prog 26 [hyV l none n T none h, i1 g] [] (b1 (decide (0 < (coM l n T h g : Int)))) [] := by
 have h1 := mcount_spec l n T h g hl hT hnm hct
 generalize coM l n T h g = C at *
 refine fnspec_of mixed TT_ok TT_cl ⟨fun _ => false, fun _ => [], 0, fun _ => false, fun _ => false⟩ Tryz.func26 rfl (by kernel_rfl) rfl 9 rfl [.tmp 4] rfl ?_
 simp only [go_sem, zaa, zar, zas, zat, zav, zaj, ↓reduceIte, reduceCtorEq, zac, zag, zaw, zax, zay, zao, zap, zaf, zaq, zau, zal, zam, zak, zaz, zaB, zah, zan]
 repeat' (first
 | (apply cl_plain
    case hs => rfl
    case ha => exact yib
    case h => exact yih)
 | ((first | refine s1_id ?_ | refine swp_id ?_ | refine sops_id ?_ | refine s2_id ?_); simp only [zao, zap, zaf, zaq, zau, zal, zam, zak, zaz, zaB, zah, zan, go_sem, zaa, zar, zas, zat, zav, zaj, ↓reduceIte, reduceCtorEq, zac, zag, zaw, zax, zay, zaR, zaT, zaI, zaQ, renO, bk, back, outUpsFrom, Ints_ren])
 | exact fs_nil trivial rfl
 | fail)
set_option maxHeartbeats 8000000 in
theorem rpop_spec (l : List Nd) (n : Int) (T : List Tk) (h g : Int) (hl : l.length ≤ 1000000) (hT : T.length ≤ 1000000) (hnm : NmR l) : FnSpec Tryz.prog 27 [hyV l none n T none h, i1 g] [] (b1 (decide (0 < (coM l n T h g : Int)))) [] := by
 have h1 := rcount6_spec l n T h g hl hT hnm
 generalize coM l n T h g = C at *
 refine fnspec_of mixed TT_ok TT_cl ⟨fun _ => false, fun _ => [], 0, fun _ => false, fun _ => false⟩ Tryz.func27 rfl (by kernel_rfl) rfl 9 rfl [.tmp 4] rfl ?_
 simp only [go_sem, zaa, zar, zas, zat, zav, zaj, ↓reduceIte, reduceCtorEq, zac, zag, zaw, zax, zay, zao, zap, zaf, zaq, zau, zal, zam, zak, zaz, zaB, zah, zan]
 repeat' (first
 | (apply cl_plain
    case hs => rfl
    case ha => exact yib
    case h => exact yih)
 | ((first | refine s1_id ?_ | refine swp_id ?_ | refine sops_id ?_ | refine s2_id ?_); simp only [zao, zap, zaf, zaq, zau, zal, zam, zak, zaz, zaB, zah, zan, go_sem, zaa, zar, zas, zat, zav, zaj, ↓reduceIte, reduceCtorEq, zac, zag, zaw, zax, zay, zaR, zaT, zaI, zaQ, renO, bk, back, outUpsFrom, Ints_ren])
 | exact fs_nil trivial rfl
 | fail)
set_option maxHeartbeats 4000000 in
theorem tk2_ix (g : FuncId) (c0 : List Cell) (c1 : List Cell) (q : Tk → Bool) (xs : List (Tk)) (hg : ∀ x ∈ xs, FnSpec Tryz.prog g [.agg (Rec.cs x), .one (.gptr c0 0), .one (.gptr c1 0)] [] (b1 (q x)) []) (cap : Option Nat) (hs : xs.length ≤ 9223372036854775807) : FnSpec Tryz.prog 102 [gr xs cap, .one (.fn g [.gptr c0 0, .gptr c1 0])] [] (i1 (ixR q xs 0)) [] := by
 refine fnspec_of mixed TT_ok TT_cl ⟨fun _ => false, fun _ => [], 0, fun _ => false, fun _ => false⟩ Tryz.func102 rfl (by kernel_rfl) rfl 19 rfl [.tmp 4] rfl ?_
 simp only [go_sem, zaa, zar, zas, zat, zav, zaj, ↓reduceIte, reduceCtorEq, zac, zag, zaw, zax, zay]
 repeat' (first
 | exact yia | fail)
 refine w_loop (ι := Nat) (fun i => ⟨[(0, gr xs cap), (1, .one (.fn g [.gptr c0 0, .gptr c1 0])), (7, i1 xs.length), (8, i1 i)], [], 0⟩) (fun i => i ≤ xs.length ∧ ixR q xs 0 = ixR q (xs.drop i) i) (fun i => xs.length - i) 0 ?_ ⟨zaV _, rfl⟩ ?_
 · (refine imp_sub _ _ _ [] (by simp) (by simp) (by simp) (zaV _) ?_ rfl (by simp); simp only [zab, zad, false_implies, implies_true, and_true, lk, slot, zaR, zaI, zaa, if_true, if_false, ↓reduceIte, reduceCtorEq])
   all_goals ((repeat' apply zaG) <;> (first | rfl | trivial))
 rintro i ⟨hi, he⟩
 simp only at hi he ⊢
 rcases zbg i xs.length with hlt | hge
 case inr =>
   have hlt' : ¬ (i : Int) < (xs.length : Int) := by omega
   rw [zbd hge] at he
   rw [he]
   simp only [go_sem, zaa, zar, zas, zat, zav, zaj, ↓reduceIte, reduceCtorEq, zac, zag, zaw, zax, zay, decide_eq_false hlt', ixR]
   repeat' (first
 | exact fs_nil trivial rfl
 | fail)
 have hlt' : (i : Int) < (xs.length : Int) := by omega
 have hcl : (Cs xs).length = xs.length * 4 := Cs_len xs
 have hat : zbk 4 (List.drop (i * 4) (Cs xs)) = Rec.cs (xs.getD i Rec.z) := Cs_td xs i hlt
 have hm := getD_mem xs i Rec.z hlt
 have hc := hg _ hm
 rw [drop_getD xs i Rec.z hlt, ixR] at he
 have hrl : (Rec.cs (xs.getD i Rec.z)).length = 4 := Rec.len _
 have hrg := Rec.g (xs.getD i Rec.z)
 generalize xs.getD i Rec.z = b at *
 have hcs : Rec.cs b = [int b.i, int b.p, int b.g, int b.u] := rfl
 rw [hcs] at hat hc
 clear hrl hrg
 cases hqb : q b with
 | true =>
   rw [hqb] at hc he
   simp only [if_true] at he
   rw [he]
   simp only [go_sem, zaa, zar, zas, zat, zav, zaj, ↓reduceIte, reduceCtorEq, zac, zag, zaw, zax, zay, decide_eq_true hlt', hat]
   repeat' (first
 | with_reducible refine zaG ?_ ?_
 | (apply cl_plain
    case hs => rfl
    case ha => exact yib
    case h => (first | exact hc ..))
 | ((first | refine s1_id ?_ | refine swp_id ?_ | refine sops_id ?_ | refine s2_id ?_); simp only [decide_eq_true hlt', hat, go_sem, zaa, zar, zas, zat, zav, zaj, ↓reduceIte, reduceCtorEq, zac, zag, zaw, zax, zay, zaR, zaT, zaI, zaQ, renO, bk, back, outUpsFrom, Ints_ren])
 | exact yif
 | exact fs_nil trivial rfl
 | fail)
 | false =>
   rw [hqb] at hc he
   simp only [Bool.false_eq_true, if_false] at he
   simp only [go_sem, zaa, zar, zas, zat, zav, zaj, ↓reduceIte, reduceCtorEq, zac, zag, zaw, zax, zay, decide_eq_true hlt', hat]
   repeat' (first
 | with_reducible refine zaG ?_ ?_
 | (apply cl_plain
    case hs => rfl
    case ha => exact yib
    case h => (first | exact hc ..))
 | ((first | refine s1_id ?_ | refine swp_id ?_ | refine sops_id ?_ | refine s2_id ?_); simp only [decide_eq_true hlt', hat, go_sem, zaa, zar, zas, zat, zav, zaj, ↓reduceIte, reduceCtorEq, zac, zag, zaw, zax, zay, zaR, zaT, zaI, zaQ, renO, bk, back, outUpsFrom, Ints_ren])
 | exact yif
 | exact yia | fail)
   refine le_mk (i + 1) ?_ ⟨by omega, he⟩ (by omega)
   (refine imp_sub _ _ _ [] (by simp) (by simp) (by simp) (zaV _) ?_ rfl (by simp); simp only [zab, zad, false_implies, implies_true, and_true, lk, slot, zaR, zaI, zaa, if_true, if_false, ↓reduceIte, reduceCtorEq])
   all_goals ((repeat' apply zaG) <;> (first | rfl | trivial | (simp only [zaK]; done) | (simp only [zaK]; rfl) | (simp only [zaK]; trivial)))
theorem tk2_ct (g : FuncId) (c0 : List Cell) (c1 : List Cell) (q : Tk → Bool) (xs : List (Tk)) (hg : ∀ x ∈ xs, FnSpec Tryz.prog g [.agg (Rec.cs x), .one (.gptr c0 0), .one (.gptr c1 0)] [] (b1 (q x)) []) (cap : Option Nat) (hs : xs.length ≤ 9223372036854775807) : FnSpec Tryz.prog 56 [gr xs cap, .one (.fn g [.gptr c0 0, .gptr c1 0])] [] (b1 (xs.any q)) [] := by
 have h1 := tk2_ix g c0 c1 q xs hg cap hs
 rw [← ixR_any q xs 0]
 refine fnspec_of mixed TT_ok TT_cl ⟨fun _ => false, fun _ => [], 0, fun _ => false, fun _ => false⟩ Tryz.func56 rfl (by kernel_rfl) rfl 9 rfl [.tmp 4] rfl ?_
 simp only [go_sem, zaa, zar, zas, zat, zav, zaj, ↓reduceIte, reduceCtorEq, zac, zag, zaw, zax, zay]
 repeat' (first
 | (apply cl_plain
    case hs => rfl
    case ha => exact yib
    case h => exact yih)
 | ((first | refine s1_id ?_ | refine swp_id ?_ | refine sops_id ?_ | refine s2_id ?_); simp only [go_sem, zaa, zar, zas, zat, zav, zaj, ↓reduceIte, reduceCtorEq, zac, zag, zaw, zax, zay, zaR, zaT, zaI, zaQ, renO, bk, back, outUpsFrom, Ints_ren])
 | exact fs_nil trivial rfl
 | fail)
def inPG (p g : Int) (x : Tk) : Bool := decide (x.p = p) && decide (x.g = g)
theorem inPG_spec (p g : Int) (x : Tk) : FnSpec Tryz.prog 64 [.agg (Rec.cs x), .one (.gptr [int p] 0), .one (.gptr [int g] 0)] [] (b1 (inPG p g x)) [] := by
 show FnSpec Tryz.prog 64 [.agg (tkc x), .one (.gptr [int p] 0), .one (.gptr [int g] 0)] [] (b1 (inPG p g x)) []
 obtain ⟨i, pp, gg, u⟩ := x
 unfold inPG
 simp only [tkc]
 by_cases c : pp = p
 · rw [decide_eq_true c]
   refine fnspec_of mixed TT_ok TT_cl ⟨fun _ => false, fun _ => [], 0, fun _ => false, fun _ => false⟩ Tryz.func64 rfl (by kernel_rfl) rfl 15 rfl [.tmp 4] rfl ?_
   simp only [go_sem, zaa, zar, zas, zat, zav, zaj, ↓reduceIte, reduceCtorEq, zac, zag, zaw, zax, zay, decide_eq_true c, zao, zap, zaf, zaq, zau, zal, zam, zak, zaz, zaB, zah, zan]
   repeat' (first
 | exact fs_nil trivial rfl
 | fail)
 · rw [decide_eq_false c]
   refine fnspec_of mixed TT_ok TT_cl ⟨fun _ => false, fun _ => [], 0, fun _ => false, fun _ => false⟩ Tryz.func64 rfl (by kernel_rfl) rfl 15 rfl [.tmp 4] rfl ?_
   simp only [go_sem, zaa, zar, zas, zat, zav, zaj, ↓reduceIte, reduceCtorEq, zac, zag, zaw, zax, zay, decide_eq_false c, zao, zap, zaf, zaq, zau, zal, zam, zak, zaz, zaB, zah, zan]
   repeat' (first
 | exact fs_nil trivial rfl
 | fail)
set_option maxHeartbeats 8000000 in
theorem inGr_spec (l : List Nd) (n : Int) (T : List Tk) (h p g : Int) (hT : T.length ≤ 1000000) : FnSpec Tryz.prog 63 [i1 p, .one (.gptr (hyc l none n T none h) 0), .one (.gptr [int g] 0)] [] (b1 (T.any (inPG p g))) [] := by
 have h1 := tk2_ct 64 [int p] [int g] (inPG p g) T (fun x _ => inPG_spec p g x) none (by omega)
 generalize T.any (inPG p g) = b at *
 refine fnspec_of mixed TT_ok TT_cl ⟨fun _ => false, fun _ => [], 0 , fun _ => false, fun i => if i = 1 then true else false⟩ Tryz.func63 rfl (by kernel_rfl) rfl 9 rfl [.tmp 4] rfl ?_
 simp only [go_sem, zaa, zar, zas, zat, zav, zaj, ↓reduceIte, reduceCtorEq, zac, zag, zaw, zax, zay, zao, zap, zaf, zaq, zau, zal, zam, zak, zaz, zaB, zah, zan]
 repeat' (first
 | exact yia | fail)
 (refine rgf_t _ (imp_frz _ _ 0 ⟨[int p], 1⟩ (by simp only [zaS, lookR, zaa, if_true, if_false, ↓reduceIte]) (by first | exact Ints_isG _ | exact Bools_isG _ | exact Cs_isG _ | (simp [zaZ]; done))) ?_; simp only [frzTm, zbn, zbf, zaU, frzHp, frzO, Ints_frz, Bools_frz, zae, zai, zaa, if_true, if_false, ↓reduceIte])
 simp only [go_sem, zaa, zar, zas, zat, zav, zaj, ↓reduceIte, reduceCtorEq, zac, zag, zaw, zax, zay, zao, zap, zaf, zaq, zau, zal, zam, zak, zaz, zaB, zah, zan]
 repeat' (first
 | (apply cl_plain
    case hs => rfl
    case ha => exact yib
    case h => exact yih)
 | ((first | refine s1_id ?_ | refine swp_id ?_ | refine sops_id ?_ | refine s2_id ?_); simp only [zao, zap, zaf, zaq, zau, zal, zam, zak, zaz, zaB, zah, zan, go_sem, zaa, zar, zas, zat, zav, zaj, ↓reduceIte, reduceCtorEq, zac, zag, zaw, zax, zay, zaR, zaT, zaI, zaQ, renO, bk, back, outUpsFrom, Ints_ren])
 | exact fs_nil trivial rfl
 | fail)
set_option maxHeartbeats 8000000 in
theorem prs2_spec (l : List Nd) (n : Int) (T : List Tk) (h g : Int) (x : Tk) (hT : T.length ≤ 1000000) : FnSpec Tryz.prog 65 [.agg (tkc x), .one (.gptr [.fn 63 [.gptr (hyc l none n T none h) 0, .gptr [int g] 0]] 0)] [] (b1 (T.any (inPG x.i g))) [] := by
 have h1 := inGr_spec l n T h x.i g hT
 obtain ⟨i, pp, gg, u⟩ := x
 simp only [tkc] at h1 ⊢
 generalize T.any (inPG i g) = b at *
 refine fnspec_of mixed TT_ok TT_cl ⟨fun _ => false, fun _ => [], 0, fun _ => false, fun _ => false⟩ Tryz.func65 rfl (by kernel_rfl) rfl 8 rfl [.tmp 3] rfl ?_
 simp only [go_sem, zaa, zar, zas, zat, zav, zaj, ↓reduceIte, reduceCtorEq, zac, zag, zaw, zax, zay, zao, zap, zaf, zaq, zau, zal, zam, zak, zaz, zaB, zah, zan]
 repeat' (first
 | (apply cl_plain
    case hs => rfl
    case ha => exact yib
    case h => exact yih)
 | ((first | refine s1_id ?_ | refine swp_id ?_ | refine sops_id ?_ | refine s2_id ?_); simp only [zao, zap, zaf, zaq, zau, zal, zam, zak, zaz, zaB, zah, zan, go_sem, zaa, zar, zas, zat, zav, zaj, ↓reduceIte, reduceCtorEq, zac, zag, zaw, zax, zay, zaR, zaT, zaI, zaQ, renO, bk, back, outUpsFrom, Ints_ren])
 | exact fs_nil trivial rfl
 | fail)
def prM6 (l : List Nd) (n : Int) (T : List Tk) (h g : Int) : List Int := chsM (fun x => T.any (inPG x.i g)) l n T h
set_option maxHeartbeats 8000000 in
theorem mprocs_spec (l : List Nd) (n : Int) (T : List Tk) (h g : Int) (hl : l.length ≤ 1000000) (hT : T.length ≤ 1000000) (hnm : NmR l) (hct : CtR l) : FnSpec Tryz.prog 20 [hyV l none n T none h, i1 g] [] (gi (prM6 l n T h g) none) [] := by
 have h1 := mchoose_spec 65 [.fn 63 [.gptr (hyc l none n T none h) 0, .gptr [int g] 0]] (fun x => T.any (inPG x.i g)) l n T h (fun x _ => prs2_spec l n T h g x hT) hl hT hnm hct
 unfold prM6
 generalize chsM (fun x => T.any (inPG x.i g)) l n T h = W at *
 refine fnspec_of mixed TT_ok TT_cl ⟨fun _ => false, fun _ => [], 0 , fun _ => false, fun i => if i = 1 then true else if i = 2 then true else false⟩ Tryz.func20 rfl (by kernel_rfl) rfl 10 rfl [.tmp 4] rfl ?_
 simp only [go_sem, zaa, zar, zas, zat, zav, zaj, ↓reduceIte, reduceCtorEq, zac, zag, zaw, zax, zay, zao, zap, zaf, zaq, zau, zal, zam, zak, zaz, zaB, zah, zan]
 repeat' (first
 | exact yia | fail)
 (refine rgf_t _ (Imp.trans (imp_frz _ _ 0  ⟨hyc l none n T none h, 4⟩ (by simp only [zaS, frzHp, frzO, lookR, zaa, if_true, if_false, ↓reduceIte, Cs_frz, Ints_frz, Bools_frz, zaU, zae, zai]) (by first | exact Ints_isG _ | exact Bools_isG _ | exact Cs_isG _ | (simp [zaZ]; done))) (imp_frz _ _ 1  ⟨[int g], 1⟩ (by simp only [zaS, frzHp, frzO, lookR, zaa, if_true, if_false, ↓reduceIte, Cs_frz, Ints_frz, Bools_frz, zaU, zae, zai]) (by first | exact Ints_isG _ | exact Bools_isG _ | exact Cs_isG _ | (simp [zaZ]; done)))) ?_; simp only [frzTm, zbn, zbf, zaU, frzHp, frzO, Ints_frz, Bools_frz, zae, zai, zaa, if_true, if_false, ↓reduceIte])
 simp only [go_sem, zaa, zar, zas, zat, zav, zaj, ↓reduceIte, reduceCtorEq, zac, zag, zaw, zax, zay, zao, zap, zaf, zaq, zau, zal, zam, zak, zaz, zaB, zah, zan]
 repeat' (first
 | exact yia | fail)
 (refine rgf_t _ (imp_frz _ _ 4 ⟨[.fn 63 [.gptr (hyc l none n T none h) 0, .gptr [int g] 0]], 1⟩ (by simp only [zaS, lookR, zaa, if_true, if_false, ↓reduceIte]) (by first | exact Ints_isG _ | exact Bools_isG _ | exact Cs_isG _ | (simp [zaZ]; done))) ?_; simp only [frzTm, zbn, zbf, zaU, frzHp, frzO, Ints_frz, Bools_frz, zae, zai, zaa, if_true, if_false, ↓reduceIte])
 simp only [go_sem, zaa, zar, zas, zat, zav, zaj, ↓reduceIte, reduceCtorEq, zac, zag, zaw, zax, zay, zao, zap, zaf, zaq, zau, zal, zam, zak, zaz, zaB, zah, zan]
 repeat' (first
 | (apply cl_plain
    case hs => rfl
    case ha => exact yib
    case h => exact yih)
 | ((first | refine s1_id ?_ | refine swp_id ?_ | refine sops_id ?_ | refine s2_id ?_); simp only [zao, zap, zaf, zaq, zau, zal, zam, zak, zaz, zaB, zah, zan, go_sem, zaa, zar, zas, zat, zav, zaj, ↓reduceIte, reduceCtorEq, zac, zag, zaw, zax, zay, zaR, zaT, zaI, zaQ, renO, bk, back, outUpsFrom, Ints_ren])
 | exact fs_nil trivial rfl
 | fail)
def dgB2 (L : List Int) (l : List Nd) (j : Nat) : Bool := decide (nxV L j 15 = 14) || decide (l.length = 0)
def dgV2 (L : List Int) (l : List Nd) (j : Nat) : Int := if dgB2 L l j = true then nxV L (nxA L j 15) 9 - 1 else (gN l (nxV L (nxA L j 15) l.length).toNat).i
def dgA2 (L : List Int) (l : List Nd) (j : Nat) : Nat := if dgB2 L l j = true then nxA L (nxA L j 15) 9 else nxA L (nxA L j 15) l.length
set_option maxHeartbeats 8000000 in
theorem dgroup2_spec (L : List Int) (hl : L.length ≤ 600) (hr : ∀ x ∈ L, -9223372036854775808 ≤ x ∧ x ≤ 9223372036854775807) (j : Nat) (l : List Nd) (n : Int) (hT : l.length ≤ 1000000) : FnSpec Tryz.prog 13 [dp, trV l none n] [dice L j] (i1 (dgV2 L l j)) [some (dice L (dgA2 L l j))] := by
 have b1' := bool_spec L j 15 hl hr (by decide)
 have hcl := nd_len l
 unfold dgV2 dgA2 dgB2
 have n2 := next_spec L (nxA L j 15) 9 hl hr (by decide)
 have r2 := nx_rng L (nxA L j 15) 9 (by decide)
 have n3 := next_spec L (nxA L j 15) l.length hl hr (by omega)
 have r3 := nx_rng L (nxA L j 15) l.length
 generalize nxA L j 15 = j1 at *
 generalize nxV L j1 9 = v at *
 generalize nxA L j1 9 = j2 at *
 rw [show (15 : Int) - 1 = 14 from rfl] at b1'
 by_cases e1 : nxV L j 15 = 14
 · (try rw [if_pos e1])
   rw [decide_eq_true e1] at b1' ⊢
   rw [Bool.true_or, if_pos rfl, if_pos rfl]
   refine fnspec_of mixed TT_ok TT_cl ⟨fun _ => false, lendD, 1, fun _ => false, fun _ => false⟩ Tryz.func13 rfl (by kernel_rfl) rfl 26 rfl [.tmp 4] rfl ?_
   simp only [go_sem, zaa, zar, zas, zat, zav, zaj, ↓reduceIte, reduceCtorEq, zac, zag, zaw, zax, zay, lendD, dice, decide_eq_true e1, zao, zap, zaf, zaq, zau, zal, zam, zak, zaz, zaB, zah, zan]
   repeat' (first
 | with_reducible refine zaG ?_ ?_
 | (apply cl_lend
    case hr => exact yid
    case ha => exact yib
    case hs => rfl
    case hn => decide
    case h => (first | exact b1' .. | exact n2 ..)
    case hf => exact yic
    case hl => exact yie)
 | ((first | refine s1_id ?_ | refine swp_id ?_ | refine sops_id ?_ | refine s2_id ?_); simp only [lendD, dice, decide_eq_true e1, zao, zap, zaf, zaq, zau, zal, zam, zak, zaz, zaB, zah, zan, go_sem, zaa, zar, zas, zat, zav, zaj, ↓reduceIte, reduceCtorEq, zac, zag, zaw, zax, zay, zaR, zaT, zaI, zaQ, renO, bk, back, outUpsFrom, Ints_ren])
 | exact yif
 | exact yia | fail)
   (refine fs_flat [(0, dice L j2)] (by simp) (by simp only [zae, zai]; decide) (by simp only [go_sem, resV, resS, zaR, zaT, zaI, zbi, zaS, idx, renO, zaQ, evS, slot, lookR, zaa, ↓reduceIte, reduceCtorEq, if_true, if_false, zaO, zaP, zae, zai, sLoad, readAt, readNeed, Ints_ren, Ints_length, Ints_getD, and_true, true_and, zaL, zaM]; try decide) ?_ (by simp only [zab, zad, false_implies, implies_true, and_true, zaS, lookR, zaa, if_true, if_false, ↓reduceIte, dice] <;> (repeat' apply zaG) <;> (first | rfl | trivial)) (by simp only [zab, zad, false_implies, implies_true, and_true, true_and, flat_cons, flat_nil, flat_ints, flat_bools, flat_app, zaN, and_self, eq_self_iff_true, zaf, dice]) ?_ <;> (try simp only [go_sem, resV, resS, zaR, zaT, zaI, zbi, zaS, idx, renO, zaQ, evS, slot, lookR, zaa, ↓reduceIte, reduceCtorEq, if_true, if_false, zaO, zaP, zae, zai, sLoad, readAt, readNeed, Ints_ren, Ints_length, Ints_getD, and_true, true_and, zaL, zaM]) <;> (try rfl))
 (try rw [if_neg e1])
 rw [decide_eq_false e1] at b1' ⊢
 rw [Bool.false_or]
 by_cases e2 : l.length = 0
 · (try rw [if_pos e2])
   have e2' : (l.length : Int) = 0 := by omega
   rw [decide_eq_true e2, if_pos rfl, if_pos rfl]
   refine fnspec_of mixed TT_ok TT_cl ⟨fun _ => false, lendD, 1, fun _ => false, fun _ => false⟩ Tryz.func13 rfl (by kernel_rfl) rfl 26 rfl [.tmp 4] rfl ?_
   simp only [go_sem, zaa, zar, zas, zat, zav, zaj, ↓reduceIte, reduceCtorEq, zac, zag, zaw, zax, zay, lendD, dice, decide_eq_false e1, decide_eq_true e2, decide_eq_true e2', zao, zap, zaf, zaq, zau, zal, zam, zak, zaz, zaB, zah, zan]
   repeat' (first
 | with_reducible refine zaG ?_ ?_
 | (apply cl_lend
    case hr => exact yid
    case ha => exact yib
    case hs => rfl
    case hn => decide
    case h => (first | exact b1' .. | exact n2 ..)
    case hf => exact yic
    case hl => exact yie)
 | ((first | refine s1_id ?_ | refine swp_id ?_ | refine sops_id ?_ | refine s2_id ?_); simp only [lendD, dice, decide_eq_false e1, decide_eq_true e2, decide_eq_true e2', zao, zap, zaf, zaq, zau, zal, zam, zak, zaz, zaB, zah, zan, go_sem, zaa, zar, zas, zat, zav, zaj, ↓reduceIte, reduceCtorEq, zac, zag, zaw, zax, zay, zaR, zaT, zaI, zaQ, renO, bk, back, outUpsFrom, Ints_ren])
 | exact yif
 | exact yia | fail)
   (refine fs_flat [(0, dice L j2)] (by simp) (by simp only [zae, zai]; decide) (by simp only [go_sem, resV, resS, zaR, zaT, zaI, zbi, zaS, idx, renO, zaQ, evS, slot, lookR, zaa, ↓reduceIte, reduceCtorEq, if_true, if_false, zaO, zaP, zae, zai, sLoad, readAt, readNeed, Ints_ren, Ints_length, Ints_getD, and_true, true_and, zaL, zaM]; try decide) ?_ (by simp only [zab, zad, false_implies, implies_true, and_true, zaS, lookR, zaa, if_true, if_false, ↓reduceIte, dice] <;> (repeat' apply zaG) <;> (first | rfl | trivial)) (by simp only [zab, zad, false_implies, implies_true, and_true, true_and, flat_cons, flat_nil, flat_ints, flat_bools, flat_app, zaN, and_self, eq_self_iff_true, zaf, dice]) ?_ <;> (try simp only [go_sem, resV, resS, zaR, zaT, zaI, zbi, zaS, idx, renO, zaQ, evS, slot, lookR, zaa, ↓reduceIte, reduceCtorEq, if_true, if_false, zaO, zaP, zae, zai, sLoad, readAt, readNeed, Ints_ren, Ints_length, Ints_getD, and_true, true_and, zaL, zaM]) <;> (try rfl))
 (try rw [if_neg e2])
 have e2' : ¬ (l.length : Int) = 0 := by omega
 rw [decide_eq_false e2, if_neg (by decide), if_neg (by decide)]
 have r3 := r3 (by omega)
 generalize nxA L j1 l.length = j3 at *
 obtain ⟨x, hx, hxl⟩ : ∃ x : Nat, nxV L j1 l.length = x ∧ x < l.length := ⟨(nxV L j1 l.length).toNat, by omega, by omega⟩
 rw [hx] at n3 ⊢
 rw [Int.toNat_natCast]
 obtain ⟨q0, _⟩ := nd_f l x hxl (.sc (.int .i64 0))
 refine fnspec_of mixed TT_ok TT_cl ⟨fun _ => false, lendD, 1, fun _ => false, fun _ => false⟩ Tryz.func13 rfl (by kernel_rfl) rfl 26 rfl [.tmp 4] rfl ?_
 simp only [go_sem, zaa, zar, zas, zat, zav, zaj, ↓reduceIte, reduceCtorEq, zac, zag, zaw, zax, zay, lendD, dice, decide_eq_false e1, decide_eq_false e2, decide_eq_false e2', q0, zao, zap, zaf, zaq, zau, zal, zam, zak, zaz, zaB, zah, zan]
 repeat' (first
 | with_reducible refine zaG ?_ ?_
 | (unfold OKC; kernel_rfl)
 | (unfold EDG; kernel_rfl)
 | (apply cl_lend
    case hr => exact yid
    case ha => exact yib
    case hs => rfl
    case hn => decide
    case h => (first | exact b1' .. | exact n3 ..)
    case hf => exact yic
    case hl => exact yie)
 | ((first | refine s1_id ?_ | refine swp_id ?_ | refine sops_id ?_ | refine s2_id ?_); simp only [lendD, dice, decide_eq_false e1, decide_eq_false e2, decide_eq_false e2', q0, zao, zap, zaf, zaq, zau, zal, zam, zak, zaz, zaB, zah, zan, go_sem, zaa, zar, zas, zat, zav, zaj, ↓reduceIte, reduceCtorEq, zac, zag, zaw, zax, zay, zaR, zaT, zaI, zaQ, renO, bk, back, outUpsFrom, Ints_ren])
 | exact yif
 | exact yia | fail)
 (refine fs_flat [(0, dice L j3)] (by simp) (by simp only [zae, zai]; decide) (by simp only [go_sem, resV, resS, zaR, zaT, zaI, zbi, zaS, idx, renO, zaQ, evS, slot, lookR, zaa, ↓reduceIte, reduceCtorEq, if_true, if_false, zaO, zaP, zae, zai, sLoad, readAt, readNeed, Ints_ren, Ints_length, Ints_getD, and_true, true_and, zaL, zaM]; try decide) ?_ (by simp only [zab, zad, false_implies, implies_true, and_true, zaS, lookR, zaa, if_true, if_false, ↓reduceIte, dice] <;> (repeat' apply zaG) <;> (first | rfl | trivial)) (by simp only [zab, zad, false_implies, implies_true, and_true, true_and, flat_cons, flat_nil, flat_ints, flat_bools, flat_app, zaN, and_self, eq_self_iff_true, zaf, dice]) ?_ <;> (try simp only [go_sem, resV, resS, zaR, zaT, zaI, zbi, zaS, idx, renO, zaQ, evS, slot, lookR, zaa, ↓reduceIte, reduceCtorEq, if_true, if_false, zaO, zaP, zae, zai, sLoad, readAt, readNeed, Ints_ren, Ints_length, Ints_getD, and_true, true_and, zaL, zaM]) <;> (try rfl))
instance : Rec Hy := ⟨fun q => hyc q.1 none q.2.1 q.2.2.1 none q.2.2.2, 4, z6, fun _ => rfl, fun q c h => by
  simp only [hyc, zbb, zad, or_false] at h
  rcases h with rfl | rfl | rfl | rfl <;> rfl⟩
theorem hy_td (Q : List Hy) (i : Nat) (h : i < Q.length) : zbk 4 (List.drop (i * 4) (Cs Q)) = hyc (Q.getD i z6).1 none (Q.getD i z6).2.1 (Q.getD i z6).2.2.1 none (Q.getD i z6).2.2.2 := Cs_td Q i h
theorem hyr_len (Q : List Hy) : (Cs Q).length = Q.length * 4 := Cs_len Q
structure HyA (q : Hy) : Prop where
  l : q.1.length ≤ 1000
  t : q.2.2.1.length ≤ 1000
  nm : NmR q.1
  ct : CtR q.1
theorem HI.a {q : Hy} (h : HI q) : HyA q := ⟨by have := h.p.v.le; omega, by have := h.p.le; omega, h.b.nm, h.ct⟩
theorem ctV_rng (D : List Int) (j : Nat) : -1 ≤ ctV D j ∧ ctV D j ≤ 32 := by
 unfold ctV
 have hn := nx_rng D j 9 (by decide)
 generalize nxV D j 9 = x at *
 have hc : x = 0 ∨ x = 1 ∨ x = 2 ∨ x = 3 ∨ x = 4 ∨ x = 5 ∨ x = 6 ∨ x = 7 ∨ x = 8 := by omega
 rcases hc with rfl | rfl | rfl | rfl | rfl | rfl | rfl | rfl | rfl <;> exact ⟨by decide, by decide⟩
theorem set_all {α : Type} {l : List α} {i : Nat} {v : α} {P : α → Prop} (h : ∀ x ∈ l, P x) (hv : P v) : ∀ x ∈ l.set i v, P x := fun x hx => by
  rcases List.mem_or_eq_of_mem_set hx with e | e
  · exact h x e
  · rw [e]; exact hv
theorem oh_a (D : List Int) (j : Nat) {q : Hy} (h : HI q) : HyA (ohM D j q).1 := by
 obtain ⟨l, n, T, hh⟩ := q
 have h1 := oh_len D j l n hh
 have h2 := oh_tl D T (ohL D j l n hh).2
 have ha := h.a
 have hp : ∀ x ∈ l, x.nm.length ≤ 9223372036854775807 ∧ (-9223372036854775808 ≤ x.c ∧ x.c ≤ 9223372036854775807) := fun x hx => ⟨ha.nm x hx, ha.ct x hx⟩
 have h3 : ∀ x ∈ (ohL D j l n hh).1.1, x.nm.length ≤ 9223372036854775807 ∧ (-9223372036854775808 ≤ x.c ∧ x.c ≤ 9223372036854775807) := by
   unfold ohL
   generalize nxV D (nxA D j l.length) 12 = v
   generalize nxA D (nxA D j l.length) 12 = j2
   have htl : (nxV D j l.length).toNat < l.length := by
     have h1 := h.p.v.ne
     simp only at h1
     have := nx_rng D j l.length (by omega)
     omega
   generalize (nxV D j l.length).toNat = t at *
   have hg := hp _ (getD_mem l t zn htl)
   rw [show l.getD t zn = gN l t from rfl] at hg
   have hw := wdV_len D j2
   have hc := ctV_rng D j2
   unfold ohK
   repeat' split
   all_goals first
     | exact hp
     | (refine set_all hp ⟨?_, ?_⟩ <;> simp only <;> omega)
     | (intro x hx; rcases List.mem_append.1 hx with e | e; exact hp x e; rw [List.mem_singleton.1 e]; exact hg)
 exact ⟨by show (ohL D j l n hh).1.1.length ≤ 1000; have := h.p.v.le; simp only at this; omega, by show (ohU D T (ohL D j l n hh).2).1.length ≤ 1000; have := ha.t; simp only at this; omega, fun x hx => (h3 x hx).1, fun x hx => (h3 x hx).2⟩
theorem hsame6_spec (l : List Nd) (n : Int) (T : List Tk) (h : Int) (hl : l.length ≤ 1000000) (hT : T.length ≤ 1000000) : FnSpec Tryz.prog 28 [hyV l none n T none h, hyV l none n T none h] [] (b1 true) [] := hsame_spec l n T h hl hT
structure HyS (q : Hy) : Prop where
  l : q.1.length ≤ 1000000
  t : q.2.2.1.length ≤ 1000000
theorem HyS_z : HyS z6 := ⟨by decide, by decide⟩
theorem HyA.sp {l : List Nd} {n : Int} {T : List Tk} {h : Int} (a : HyA (l, n, T, h)) (g u : Int) : HyS (spR l n T h g u).1 := by
 have h1 := a.l
 have h2 := a.t
 simp only at h1 h2
 unfold spR adR
 repeat' split
 all_goals first
   | exact HyS_z
   | exact ⟨by simp only; omega, by simp only [snoc_len]; omega⟩
theorem HyA.cl {l : List Nd} {n : Int} {T : List Tk} {h : Int} (a : HyA (l, n, T, h)) (t : Int) : HyS (clR l n T h t).1 := by
 have h1 := a.l
 have h2 := a.t
 simp only at h1 h2
 unfold clR adR
 repeat' split
 all_goals first
   | exact HyS_z
   | exact ⟨by simp only; omega, by simp only [snoc_len]; omega⟩
theorem HyA.ex {l : List Nd} {n : Int} {T : List Tk} {h : Int} (a : HyA (l, n, T, h)) (t : Int) : HyS (exR l n T h t).1 := by
 have h1 := a.l
 have h2 := a.t
 simp only at h1 h2
 unfold exR
 repeat' split
 all_goals first
   | exact HyS_z
   | exact ⟨by simp only; omega, by simp only; exact Nat.le_trans (zbh _ _) (by omega)⟩
theorem HyA.pl {l : List Nd} {n : Int} {T : List Tk} {h : Int} (a : HyA (l, n, T, h)) (t g : Int) : HyS (plR l n T h t g).1 := by
 have h1 := a.l
 have h2 := a.t
 simp only at h1 h2
 unfold plR
 repeat' split
 all_goals first
   | exact HyS_z
   | exact ⟨by simp only; omega, by simp only [zbm]; omega⟩
def lendC : FuncId → List Nat := fun f => if f = 42 then [0] else if f = 14 then [0] else if f = 13 then [0] else if f = 9 then [0] else if f = 10 then [0] else if f = 31 then [0] else []
theorem node_of {g : List Cell} (h : GTy Tryz.prog 9 61 g) : ∃ x : Nd, g = ndc x ∧ x.nm.length ≤ 9223372036854775807 ∧ (-9223372036854775808 ≤ x.c ∧ x.c ≤ 9223372036854775807) := by
 have h := gty_struct (n := 8) Tryz.underlying61 h
 obtain ⟨a0, b0, rfl, h0, a1, b1, rfl, h1, a2, b2, rfl, h2, a3, b3, rfl, h3, a4, b4, rfl, h4, a5, b5, rfl, h5, rfl⟩ := h
 obtain ⟨m0, rfl, _⟩ := gty_int (n := 7) Tryz.underlying3 h0
 obtain ⟨m1, rfl, _⟩ := gty_int (n := 7) Tryz.underlying3 h1
 obtain ⟨s, rfl, hs⟩ := gty_str (n := 7) Tryz.underlying9 h2
 obtain ⟨m3, rfl, w3⟩ := gty_int (n := 7) Tryz.underlying3 h3
 obtain ⟨m4, rfl, _⟩ := gty_int (n := 7) Tryz.underlying3 h4
 obtain ⟨m5, rfl, _⟩ := gty_int (n := 7) Tryz.underlying3 h5
 refine ⟨⟨m0, m1, s.data.toList, m3, m4, m5⟩, ?_, ?_, wf_i64 w3⟩
 · show _ = [int m0, int m1, .sc (.string (bs s.data.toList)), int m3, int m4, int m5]
   rw [← bs_of]; rfl
 · show s.data.toList.length ≤ _
   have := bs_size s.data.toList
   rw [← bs_of] at this
   rw [← this]; exact hs
theorem nodes_of : ∀ (ess : List (List Cell)), (∀ es ∈ ess, GTy Tryz.prog 9 61 es) → ∃ l : List Nd, ess.flatten = Cs l ∧ ess.length = l.length ∧ NmR l ∧ CtR l
  | [], _ => ⟨[], rfl, rfl, (fun _ h => by cases h), (fun _ h => by cases h)⟩
  | e :: r, h => by
    obtain ⟨x, rfl, h1, h2⟩ := node_of (h e zba)
    obtain ⟨l, e1, e2, h3, h4⟩ := nodes_of r (fun y hy => h y (zbj _ hy))
    refine ⟨x :: l, ?_, by rw [zah, zah, e2], fun y hy => ?_, fun y hy => ?_⟩
    · rw [zao, e1]; rfl
    · rcases List.mem_cons.1 hy with rfl | hy
      · exact h1
      · exact h3 y hy
    · rcases List.mem_cons.1 hy with rfl | hy
      · exact h2
      · exact h4 y hy
theorem task_of {g : List Cell} (h : GTy Tryz.prog 10 40 g) : ∃ x : Tk, g = tkc x := by
 have h := gty_struct (n := 9) Tryz.underlying40 h
 obtain ⟨a0, b0, rfl, h0, a1, b1, rfl, h1, a2, b2, rfl, h2, a3, b3, rfl, h3, rfl⟩ := h
 obtain ⟨m0, rfl, _⟩ := gty_int (n := 8) Tryz.underlying3 h0
 obtain ⟨m1, rfl, _⟩ := gty_int (n := 8) Tryz.underlying3 h1
 obtain ⟨m2, rfl, _⟩ := gty_int (n := 8) Tryz.underlying3 h2
 obtain ⟨m3, rfl, _⟩ := gty_int (n := 8) Tryz.underlying3 h3
 exact ⟨⟨m0, m1, m2, m3⟩, rfl⟩
theorem tasks_of : ∀ (ess : List (List Cell)), (∀ es ∈ ess, GTy Tryz.prog 10 40 es) → ∃ l : List Tk, ess.flatten = Cs l ∧ ess.length = l.length
  | [], _ => ⟨[], rfl, rfl⟩
  | e :: r, h => by
    obtain ⟨x, rfl⟩ := task_of (h e zba)
    obtain ⟨l, e1, e2⟩ := tasks_of r (fun y hy => h y (zbj _ hy))
    exact ⟨x :: l, by rw [zao, e1]; rfl, by rw [zah, zah, e2]⟩
theorem hier_of {g : List Cell} (h : GTy Tryz.prog 12 28 g) : ∃ (l : List Nd) (n : Int) (T : List Tk) (x : Int), g = hyc l none n T none x ∧ l.length ≤ 9223372036854775807 ∧ T.length ≤ 9223372036854775807 ∧ NmR l ∧ CtR l := by
 have h := gty_struct (n := 11) Tryz.underlying28 h
 obtain ⟨a0, b0, rfl, h0, a1, b1, rfl, h1, a2, b2, rfl, h2, rfl⟩ := h
 obtain ⟨m2, rfl, _⟩ := gty_int (n := 10) Tryz.underlying3 h2
 obtain ⟨ess2, rfl, hl2, he2⟩ := gty_slice (n := 10) Tryz.underlying26 h1
 replace h0 := gty_struct (n := 10) Tryz.underlying25 h0
 obtain ⟨c0, d0, rfl, h7, c1, d1, rfl, h1', rfl⟩ := h0
 obtain ⟨m1, rfl, _⟩ := gty_int (n := 9) Tryz.underlying3 h1'
 obtain ⟨ess, rfl, hl, he⟩ := gty_slice (n := 9) Tryz.underlying23 h7
 obtain ⟨l, e1, e2, h3, h4⟩ := nodes_of ess he
 obtain ⟨T, f1, f2⟩ := tasks_of ess2 he2
 exact ⟨l, m1, T, m2, by rw [e1, e2, f1, f2]; rfl, by rw [← e2]; exact hl, by rw [← f2]; exact hl2, h3, h4⟩
theorem proc_eq {l : List Nd} {n : Int} {T : List Tk} {h : Int} (g : Int) : prM6 l n T h g = srt ((tsM l n T h g).map (fun i => (fiR l n T h i).1.p)) := by
 cases hv : hyM l n T h with
 | false => unfold prM6 chsM tsM; rw [hv, if_neg (by decide), if_neg (by decide)]; rfl
 | true =>
 have P := (hyM_iff l n T h).1 hv
 have e1 : (tsM l n T h g).map (fun i => (fiR l n T h i).1.p) = (T.filter (inG g)).map Tk.p := by
   unfold tsM
   rw [hv, if_pos rfl, List.map_map]
   apply List.map_congr_left
   intro x hx
   have hm := (List.mem_filter.1 hx).1
   obtain ⟨t1, t2⟩ := tk_at P.asc hm
   show (fiR l n T h x.i).1.p = x.p
   unfold fiR
   rw [hv, if_pos rfl, t1, if_pos rfl, t2]
 rw [e1]
 unfold prM6 chsM
 rw [hv, if_pos rfl]
 apply srt_eq
 · show List.Pairwise _ _
   rw [List.pairwise_map]
   exact P.asc.filter _
 · intro y
   simp only [List.mem_map, List.mem_filter, List.any_eq_true]
   constructor
   · rintro ⟨x, ⟨hx, z, hz, e⟩, rfl⟩
     unfold inPG at e
     simp only [zaF, decide_eq_true_eq] at e
     exact ⟨z, ⟨hz, by unfold inG; exact decide_eq_true e.2⟩, e.1⟩
   · rintro ⟨z, ⟨hz, e⟩, rfl⟩
     obtain ⟨x, hx, x1, _, _⟩ := P.p z hz
     refine ⟨x, ⟨hx, z, hz, ?_⟩, x1⟩
     unfold inPG
     unfold inG at e
     rw [e, x1, decide_eq_true rfl]; rfl
set_option maxHeartbeats 8000000 in
theorem rprocs_spec (l : List Nd) (n : Int) (T : List Tk) (h g : Int) (hl : l.length ≤ 1000000) (hT : T.length ≤ 1000000) (hnm : NmR l) : FnSpec Tryz.prog 21 [hyV l none n T none h, i1 g] [] (gi (prM6 l n T h g) none) [] := by
 have h1 := rtasks6_spec l n T h g hl hT hnm
 have htl : (tsM l n T h g).length ≤ 1000000 := by
   unfold tsM; split
   · rw [zbm]; exact Nat.le_trans (zbh _ _) hT
   · exact zaV _
 rw [proc_eq]
 have hfi := fun i => rfind6_spec l n T h i hl hT hnm
 generalize tsM l n T h g = U at *
 obtain ⟨K, hK0, hKe, hKl, hKs⟩ := fmG_pack 0 (fun _ => true) (fun i => (fiR l n T h i).1.p) U
 rw [List.filter_eq_self.2 (fun _ _ => rfl)] at hKe
 have hwl : (U.map (fun i => (fiR l n T h i).1.p)).length = U.length := zbm _
 generalize U.map (fun i => (fiR l n T h i).1.p) = W at *
 have h2 := rsorted_spec W none (by omega)
 generalize srt W = S at *
 refine fnspec_of mixed TT_ok TT_cl ⟨fun _ => false, fun _ => [], 0 , fun _ => false, fun i => if i = 8 then true else false⟩ Tryz.func21 rfl (by kernel_rfl) rfl 35 rfl [.tmp 4] rfl ?_
 simp only [go_sem, zaa, zar, zas, zat, zav, zaj, ↓reduceIte, reduceCtorEq, zac, zag, zaw, zax, zay, zao, zap, zaf, zaq, zau, zal, zam, zak, zaz, zaB, zah, zan]
 repeat' (first
 | (apply cl_plain
    case hs => rfl
    case ha => exact yib
    case h => exact yih)
 | ((first | refine s1_id ?_ | refine swp_id ?_ | refine sops_id ?_ | refine s2_id ?_); simp only [zao, zap, zaf, zaq, zau, zal, zam, zak, zaz, zaB, zah, zan, go_sem, zaa, zar, zas, zat, zav, zaj, ↓reduceIte, reduceCtorEq, zac, zag, zaw, zax, zay, zaR, zaT, zaI, zaQ, renO, bk, back, outUpsFrom, Ints_ren])
 | exact yia | fail)
 refine w_loop (ι := Nat) (fun m => ⟨[(2, .one (.optr 0 0)), (5, .one (.osl 1 0 (K m).length none)), (6, gi U none), (7, i1 m)], [(0, some ⟨hyc l none n T none h, 4⟩), (1, some ⟨Ints (K m), 1⟩)], 2⟩) (fun m => m ≤ U.length) (fun m => U.length - m) 0 ?_ (zaV _) ?_
 · simp only [hK0]; (refine Imp.trans (imp_nilA _ _ 5 1 99 (by simp only []; omega) rfl) ?_)
   (refine imp_ren _ _ _ [(0, 0, ⟨hyc l none n T none h, 4⟩), (1, 99, ⟨[], 1⟩)] (by simp) (by simp) (by simp) (zaJ rfl) ?_ rfl (by simp only [zab, zad, false_implies, implies_true, and_true, zaS, lookR, zaa, if_true, if_false, ↓reduceIte] <;> (repeat' apply zaG) <;> (first | rfl | trivial)) (by simp only [zab, zad, false_implies, implies_true, and_true, true_and, flat_cons, flat_nil, flat_ints, flat_bools, flat_app, zaN, and_self, eq_self_iff_true, zaf]); simp only [zae, zai, zab, zad, false_implies, implies_true, and_true, lk, slot, zaR, zaI, toN, zaa, if_true, if_false, ↓reduceIte, reduceCtorEq])
   all_goals ((repeat' apply zaG) <;> (first | rfl | trivial))
 clear h1
 rintro m hm
 simp only at hm ⊢
 rcases zbg m U.length with hlt | hge
 case inr =>
   have c : ¬ (m : Int) < (U.length : Int) := by omega
   obtain rfl : m = U.length := by omega
   rw [hKe]
   simp only [go_sem, zaa, zar, zas, zat, zav, zaj, ↓reduceIte, reduceCtorEq, zac, zag, zaw, zax, zay, decide_eq_false c, zao, zap, zaf, zaq, zau, zal, zam, zak, zaz, zaB, zah, zan]
   repeat' (first
 | exact yia | fail)
   (refine rgf_t _ (imp_frz _ _ 1 ⟨Ints W, 1⟩ (by simp only [zaS, lookR, zaa, if_true, if_false, ↓reduceIte]) (by first | exact Ints_isG _ | exact Bools_isG _ | exact Cs_isG _ | (simp [zaZ]; done))) ?_; simp only [frzTm, zbn, zbf, zaU, frzHp, frzO, Ints_frz, Bools_frz, zae, zai, zaa, if_true, if_false, ↓reduceIte])
   simp only [go_sem, zaa, zar, zas, zat, zav, zaj, ↓reduceIte, reduceCtorEq, zac, zag, zaw, zax, zay, decide_eq_false c, zao, zap, zaf, zaq, zau, zal, zam, zak, zaz, zaB, zah, zan]
   repeat' (first
 | (apply cl_plain
    case hs => rfl
    case ha => exact yib
    case h => (first | exact h2 ..))
 | ((first | refine s1_id ?_ | refine swp_id ?_ | refine sops_id ?_ | refine s2_id ?_); simp only [decide_eq_false c, zao, zap, zaf, zaq, zau, zal, zam, zak, zaz, zaB, zah, zan, go_sem, zaa, zar, zas, zat, zav, zaj, ↓reduceIte, reduceCtorEq, zac, zag, zaw, zax, zay, zaR, zaT, zaI, zaQ, renO, bk, back, outUpsFrom, Ints_ren])
 | exact fs_nil trivial rfl
 | fail)
 have c : (m : Int) < (U.length : Int) := by omega
 obtain ⟨s1, _⟩ := hKs m hlt
 have s1 := s1 rfl
 have hk := hKl m
 have ha := Ints_all (K m)
 have h3 := hfi (U.getD m 0)
 generalize (fiR l n T h (U.getD m 0)) = y at *
 obtain ⟨⟨yi, yp, yg, yu⟩, yb⟩ := y
 simp only [tkc] at h3 s1
 have hla := snoc_len (K m) yp
 rw [← s1] at hla
 simp only [go_sem, zaa, zar, zas, zat, zav, zaj, ↓reduceIte, reduceCtorEq, zac, zag, zaw, zax, zay, decide_eq_true c, ha, ← s1, zao, zap, zaf, zaq, zau, zal, zam, zak, zaz, zaB, zah, zan]
 repeat' (first
 | with_reducible refine zaG ?_ ?_
 | (unfold OKC; kernel_rfl)
 | (unfold EDG; kernel_rfl)
 | (apply cl_plain
    case hs => rfl
    case ha => exact yib
    case h => (first | exact h3 ..))
 | ((first | refine s1_id ?_ | refine swp_id ?_ | refine sops_id ?_ | refine s2_id ?_); simp only [decide_eq_true c, ha, ← s1, zao, zap, zaf, zaq, zau, zal, zam, zak, zaz, zaB, zah, zan, go_sem, zaa, zar, zas, zat, zav, zaj, ↓reduceIte, reduceCtorEq, zac, zag, zaw, zax, zay, zaR, zaT, zaI, zaQ, renO, bk, back, outUpsFrom, Ints_ren])
 | exact yif
 | exact yia | fail)
 refine le_mk (m + 1) ?_ hlt (by show U.length - (m + 1) < U.length - m; omega)
 (refine imp_ren _ _ _ [(0, 0, ⟨hyc l none n T none h, 4⟩), (1, 22, ⟨Ints (K (m + 1)), 1⟩)] (by simp) (by simp) (by simp) (zaJ rfl) ?_ rfl (by simp only [zab, zad, false_implies, implies_true, and_true, zaS, lookR, zaa, if_true, if_false, ↓reduceIte] <;> (repeat' apply zaG) <;> (first | rfl | trivial)) (by simp only [zab, zad, false_implies, implies_true, and_true, true_and, flat_cons, flat_nil, flat_ints, flat_bools, flat_app, zaN, and_self, eq_self_iff_true, zaf]); simp only [zae, zai, zab, zad, false_implies, implies_true, and_true, lk, slot, zaR, zaI, toN, zaa, if_true, if_false, ↓reduceIte, reduceCtorEq])
 all_goals ((repeat' apply zaG) <;> (first | rfl | trivial | (simp only [zaK, hla]; done) | (simp only [zaK, hla]; rfl) | (simp only [zaK, hla]; trivial)))
set_option maxHeartbeats 8000000 in
theorem reads6_spec (D : List Int) (hr : ∀ x ∈ D, -9223372036854775808 ≤ x ∧ x ≤ 9223372036854775807) (rl : List Nd) (rn : Int) (rT : List Tk) (rh : Int) (hnm0 : NmR rl) (hct0 : CtR rl) (id : Int) : FnSpec Tryz.prog 3 [gi D none, hyV rl none rn rT none rh, i1 id] [] (b1 true) [] := by
 cases hE : (!decide ((D.length : Int) ≤ 600) || decide (130 < (rT.length : Int)) || decide (70 < (rl.length : Int))) with
 | true =>
   (try rw [if_pos rfl])
   refine fnspec_of mixed TT_ok TT_cl ⟨fun _ => false, lendC, 0, fun _ => false, fun _ => false⟩ Tryz.func3 rfl (by kernel_rfl) rfl 144 rfl [.tmp 6] rfl ?_
   simp only [go_sem, zaa, zar, zas, zat, zav, zaj, ↓reduceIte, reduceCtorEq, zac, zag, zaw, zax, zay, lendC, dice, hE, zao, zap, zaf, zaq, zau, zal, zam, zak, zaz, zaB, zah, zan]
   repeat' (first
 | (apply cl_plain
    case hs => rfl
    case ha => exact yib
    case h => (first | exact light_spec .. | exact sane6_spec ..))
 | ((first | refine s1_id ?_ | refine swp_id ?_ | refine sops_id ?_ | refine s2_id ?_); simp only [lendC, dice, hE, zao, zap, zaf, zaq, zau, zal, zam, zak, zaz, zaB, zah, zan, go_sem, zaa, zar, zas, zat, zav, zaj, ↓reduceIte, reduceCtorEq, zac, zag, zaw, zax, zay, zaR, zaT, zaI, zaQ, renO, bk, back, outUpsFrom, Ints_ren])
 | exact fs_nil trivial rfl
 | fail)
 | false =>
 (try rw [if_neg (by decide)])
 simp only [zaC, zaD, decide_eq_true_eq, decide_eq_false_iff_not] at hE
 have hl : D.length ≤ 600 := by omega
 have hs := hier_spec D hl hr 0 6 8 (by decide) (by decide)
 have hq := mkH_ok D 0 6 8
 generalize mkH D 0 6 8 = H at *
 obtain ⟨⟨l, n, T, h⟩, j⟩ := H
 simp only at hs hq
 have ho := oddh6_spec D hl hr j l n T h hq.len.1 (by have := hq.len.2; simp only at this; omega) (by have := hq.p.le; simp only at this; omega)
 have ha := hq.a
 have hoa := oh_a D j hq
 generalize ohM D j (l, n, T, h) = O at *
 obtain ⟨⟨ol, on, oT, oh⟩, jo⟩ := O
 simp only at ho hoa
 obtain ⟨Q, hQc, hQl, hQa⟩ : ∃ Q : List Hy, Cs Q = [.gsl (Cs l) 0 l.length none, int n, .gsl (Cs T) 0 T.length none, int h, .gsl (Cs ol) 0 ol.length none, int on, .gsl (Cs oT) 0 oT.length none, int oh, .gsl (Cs rl) 0 rl.length none, int rn, .gsl (Cs rT) 0 rT.length none, int rh] ∧ Q.length = 3 ∧ ∀ q ∈ Q, HyA q := by
   refine ⟨[(l, n, T, h), (ol, on, oT, oh), (rl, rn, rT, rh)], rfl, rfl, fun q hq => ?_⟩
   simp only [zbb, zad, or_false] at hq
   rcases hq with rfl | rfl | rfl
   · exact ha
   · exact hoa
   · exact ⟨by simp only; omega, by simp only; omega, hnm0, hct0⟩
 have hQn := hyr_len Q
 refine fnspec_of mixed TT_ok TT_cl ⟨fun _ => false, lendC, 0, fun _ => false, fun _ => false⟩ Tryz.func3 rfl (by kernel_rfl) rfl 144 rfl [.tmp 6] rfl ?_
 simp only [go_sem, zaa, zar, zas, zat, zav, zaj, ↓reduceIte, reduceCtorEq, zac, zag, zaw, zax, zay, lendC, dice, hE, zao, zap, zaf, zaq, zau, zal, zam, zak, zaz, zaB, zah, zan]
 repeat' (first
 | with_reducible refine zaG ?_ ?_
 | (unfold OKC; kernel_rfl)
 | (unfold EDG; kernel_rfl)
 | (apply cl_plain
    case hs => rfl
    case ha => exact yib
    case h => (first | exact light_spec .. | exact roll_spec .. | exact hs .. | exact ho ..))
 | (apply cl_lend
    case hr => exact yid
    case ha => exact yib
    case hs => rfl
    case hn => decide
    case h => (first | exact light_spec .. | exact roll_spec .. | exact hs .. | exact ho ..)
    case hf => exact yic
    case hl => exact yie)
 | ((first | refine s1_id ?_ | refine swp_id ?_ | refine sops_id ?_ | refine s2_id ?_); simp only [lendC, dice, hE, zao, zap, zaf, zaq, zau, zal, zam, zak, zaz, zaB, zah, zan, go_sem, zaa, zar, zas, zat, zav, zaj, ↓reduceIte, reduceCtorEq, zac, zag, zaw, zax, zay, zaR, zaT, zaI, zaQ, renO, bk, back, outUpsFrom, Ints_ren])
 | exact yia | fail)
 refine w_loop (ι := Nat × Nat) (fun s => ⟨[(2, i1 id), (7, .one (.optr 0 0)), (43, .one (.osl 1 0 3 (some 3))), (44, i1 Q.length), (45, i1 s.1)], [(0, some (dice D s.2)), (1, some ⟨Cs Q, 4⟩)], 2⟩) (fun s => s.1 ≤ Q.length) (fun s => Q.length - s.1) (0, jo) ?_ (zaV _) ?_
 · simp only [hQc, hQl]
   (refine imp_ren _ _ _ [(0, 19, dice D jo), (1, 30, ⟨[.gsl (Cs l) 0 l.length none, int n, .gsl (Cs T) 0 T.length none, int h, .gsl (Cs ol) 0 ol.length none, int on, .gsl (Cs oT) 0 oT.length none, int oh, .gsl (Cs rl) 0 rl.length none, int rn, .gsl (Cs rT) 0 rT.length none, int rh], 4⟩)] (by simp) (by simp) (by simp) (zaJ rfl) ?_ rfl (by simp only [zab, zad, false_implies, implies_true, and_true, zaS, lookR, zaa, if_true, if_false, ↓reduceIte, dice, Cs_flat] <;> (repeat' apply zaG) <;> (first | rfl | trivial)) (by simp only [zab, zad, false_implies, implies_true, and_true, true_and, flat_cons, flat_nil, flat_ints, flat_bools, flat_app, zaN, and_self, eq_self_iff_true, zaf, dice, Cs_flat]); simp only [zae, zai, zab, zad, false_implies, implies_true, and_true, lk, slot, zaR, zaI, toN, zaa, if_true, if_false, ↓reduceIte, reduceCtorEq])
   all_goals ((repeat' apply zaG) <;> (first | rfl | trivial))
 clear hs ho
 rintro ⟨m, j⟩ hm
 simp only at hm ⊢
 rcases zbg m Q.length with hlt | hge
 case inr =>
   have c : ¬ (m : Int) < (Q.length : Int) := by omega
   have hsm := hsame6_spec kR 2 [] 1 (by decide) (by decide)
   have e1 := mnew_spec
   have e2 := rnew6_spec
   simp only [go_sem, zaa, zar, zas, zat, zav, zaj, ↓reduceIte, reduceCtorEq, zac, zag, zaw, zax, zay, lendC, dice, hE, decide_eq_false c, zao, zap, zaf, zaq, zau, zal, zam, zak, zaz, zaB, zah, zan]
   repeat' (first
 | (apply cg_tp
    case hl => rfl
    case ha => exact yib
    case hs => rfl
    case h => (first | exact hsm .. | exact e1 .. | exact e2 .. | exact sane6_spec ..))
 | (apply cl_plain
    case hs => rfl
    case ha => exact yib
    case h => (first | exact hsm .. | exact e1 .. | exact e2 .. | exact sane6_spec ..))
 | ((first | refine s1_id ?_ | refine swp_id ?_ | refine sops_id ?_ | refine s2_id ?_); simp only [lendC, dice, hE, decide_eq_false c, zao, zap, zaf, zaq, zau, zal, zam, zak, zaz, zaB, zah, zan, go_sem, zaa, zar, zas, zat, zav, zaj, ↓reduceIte, reduceCtorEq, zac, zag, zaw, zax, zay, zaR, zaT, zaI, zaQ, renO, bk, back, outUpsFrom, Ints_ren])
 | exact fs_nil trivial rfl
 | fail)
 have c : (m : Int) < (Q.length : Int) := by omega
 have hat := hy_td Q m hlt
 have hxa := hQa _ (getD_mem Q m z6 hlt)
 have hm3 : (m : Int) < 3 := by omega
 generalize Q.getD m z6 = x at *
 obtain ⟨xl, xn, xT, xh⟩ := x
 simp only at hat
 have hbl := hxa.l
 have hbT := hxa.t
 have hnm := hxa.nm
 have hct := hxa.ct
 simp only at hbl hbT hnm hct
 have g1 := dgroup2_spec D hl hr j xl xn (by omega)
 generalize dgV2 D xl j = g at *
 generalize dgA2 D xl j = j1 at *
 have k1 := dtask_spec D hl hr j1 xl xn xT xh (by omega)
 generalize dtV D xT j1 = k at *
 generalize dtA D xT j1 = j2 at *
 have v1 := mcheck_spec xl xn xT xh (by omega) (by omega) hnm hct
 have v2 := rcheck6 xl xn xT xh (by omega) (by omega) hnm
 generalize hyM xl xn xT xh = vb at v1 v2
 simp only [go_sem, zaa, zar, zas, zat, zav, zaj, ↓reduceIte, reduceCtorEq, zac, zag, zaw, zax, zay, lendC, dice, hE, decide_eq_true c, hat, decide_eq_true hm3, beq_self_eq_true, eq_self, decide_true, zao, zap, zaf, zaq, zau, zal, zam, zak, zaz, zaB, zah, zan]
 repeat' (first
 | with_reducible refine zaG ?_ ?_
 | (unfold OKC; kernel_rfl)
 | (unfold EDG; kernel_rfl)
 | (apply cl_plain
    case hs => rfl
    case ha => exact yib
    case h => (first | exact g1 .. | exact k1 .. | exact v1 .. | exact v2 ..))
 | (apply cl_lend
    case hr => exact yid
    case ha => exact yib
    case hs => rfl
    case hn => decide
    case h => (first | exact g1 .. | exact k1 .. | exact v1 .. | exact v2 ..)
    case hf => exact yic
    case hl => exact yie)
 | ((first | refine s1_id ?_ | refine swp_id ?_ | refine sops_id ?_ | refine s2_id ?_); simp only [lendC, dice, hE, decide_eq_true c, hat, decide_eq_true hm3, beq_self_eq_true, eq_self, decide_true, zao, zap, zaf, zaq, zau, zal, zam, zak, zaz, zaB, zah, zan, go_sem, zaa, zar, zas, zat, zav, zaj, ↓reduceIte, reduceCtorEq, zac, zag, zaw, zax, zay, zaR, zaT, zaI, zaQ, renO, bk, back, outUpsFrom, Ints_ren])
 | exact yif
 | exact yia | fail)
 obtain ⟨U, hU, hUl⟩ : ∃ U, [id, g, k, 1] = U ∧ U.length = 4 := ⟨_, rfl, rfl⟩
 simp only [hU]
 refine w_loop (ι := Nat) (fun a => ⟨[(2, i1 id), (7, .one (.optr 0 0)), (10, .one (.optr 1 0)), (43, .one (.osl 2 0 3 (some 3))), (44, i1 Q.length), (45, i1 m), (62, .one (.osl 3 0 4 (some 4))), (63, i1 U.length), (64, i1 a)], [(0, some (dice D j2)), (1, some ⟨hyc xl none xn xT none xh, 4⟩), (2, some ⟨Cs Q, 4⟩), (3, some ⟨Ints U, 1⟩)], 4⟩) (fun a => a ≤ U.length) (fun a => U.length - a) 0 ?_ (zaV _) ?_
 · simp only [hUl]
   (refine imp_ren _ _ _ [(0, 0, dice D j2), (1, 5, ⟨hyc xl none xn xT none xh, 4⟩), (2, 1, ⟨Cs Q, 4⟩), (3, 20, ⟨Ints U, 1⟩)] (by simp) (by simp) (by simp) (zaJ rfl) ?_ rfl (by simp only [zab, zad, false_implies, implies_true, and_true, zaS, lookR, zaa, if_true, if_false, ↓reduceIte, dice, Cs_flat] <;> (repeat' apply zaG) <;> (first | rfl | trivial)) (by simp only [zab, zad, false_implies, implies_true, and_true, true_and, flat_cons, flat_nil, flat_ints, flat_bools, flat_app, zaN, and_self, eq_self_iff_true, zaf, dice, Cs_flat]); simp only [zae, zai, zab, zad, false_implies, implies_true, and_true, lk, slot, zaR, zaI, toN, zaa, if_true, if_false, ↓reduceIte, reduceCtorEq])
   all_goals ((repeat' apply zaG) <;> (first | rfl | trivial))
 clear g1 k1 v1 v2
 rintro a hm2
 simp only at hm2 ⊢
 rcases zbg a U.length with hlt2 | hge2
 case inr =>
   have c2 : ¬ (a : Int) < (U.length : Int) := by omega
   simp only [go_sem, zaa, zar, zas, zat, zav, zaj, ↓reduceIte, reduceCtorEq, zac, zag, zaw, zax, zay, lendC, dice, hE, decide_eq_true c, hat, decide_eq_true hm3, beq_self_eq_true, eq_self, decide_true, decide_eq_false c2, zao, zap, zaf, zaq, zau, zal, zam, zak, zaz, zaB, zah, zan]
   repeat' (first
 | with_reducible refine zaG ?_ ?_
 | exact yif
 | exact yia | fail)
   refine le_mk (m + 1, j2) ?_ hlt (by show Q.length - (m + 1) < Q.length - m; omega)
   (refine imp_ren _ _ _ [(0, 0, dice D j2), (1, 2, ⟨Cs Q, 4⟩)] (by simp) (by simp) (by simp) (zaJ rfl) ?_ rfl (by simp only [zab, zad, false_implies, implies_true, and_true, zaS, lookR, zaa, if_true, if_false, ↓reduceIte, dice, Cs_flat] <;> (repeat' apply zaG) <;> (first | rfl | trivial)) (by simp only [zab, zad, false_implies, implies_true, and_true, true_and, flat_cons, flat_nil, flat_ints, flat_bools, flat_app, zaN, and_self, eq_self_iff_true, zaf, dice, Cs_flat]); simp only [zae, zai, zab, zad, false_implies, implies_true, and_true, lk, slot, zaR, zaI, toN, zaa, if_true, if_false, ↓reduceIte, reduceCtorEq])
   all_goals ((repeat' apply zaG) <;> (first | rfl | trivial | (simp only [zaK]; done) | (simp only [zaK]; rfl) | (simp only [zaK]; trivial)))
 have c2 : (a : Int) < (U.length : Int) := by omega
 have ha4 : (a : Int) < 4 := by omega
 generalize hu : U.getD a 0 = u at *
 have f1 := mfind_spec xl xn xT xh u (by omega) (by omega) hnm hct
 have f2 := rfind6_spec xl xn xT xh u (by omega) (by omega) hnm
 generalize fiR xl xn xT xh u = y at *
 obtain ⟨⟨yi, yp, yg, yu⟩, yb⟩ := y
 simp only [tkc] at f1 f2
 have t1 := mtasks_spec xl xn xT xh u (by omega) (by omega) hnm hct
 have t2 := rtasks6_spec xl xn xT xh u (by omega) (by omega) hnm
 have tl : (tsM xl xn xT xh u).length ≤ 1000 := by
   unfold tsM; split
   · rw [zbm]; exact Nat.le_trans (zbh _ _) hbT
   · exact zaV _
 generalize tsM xl xn xT xh u = TS at *
 have t3 := same_spec TS TS none none (by omega)
 rw [decide_eq_true rfl] at t3
 have cl : ∀ q, (chsM q xl xn xT xh).length ≤ 1000 := fun q => by
   unfold chsM; split
   · rw [zbm]; exact Nat.le_trans (zbh _ _) hbT
   · exact zaV _
 have p1 := mprocs_spec xl xn xT xh u (by omega) (by omega) hnm hct
 have p2 := rprocs_spec xl xn xT xh u (by omega) (by omega) hnm
 have pl : (prM6 xl xn xT xh u).length ≤ 1000 := cl _
 generalize prM6 xl xn xT xh u = PS at *
 have p3 := same_spec PS PS none none (by omega)
 rw [decide_eq_true rfl] at p3
 have h1 := mthreads_spec xl xn xT xh u (by omega) (by omega) hnm hct
 have h2 := rthreads6_spec xl xn xT xh u (by omega) (by omega) hnm
 have hl : (thM6 xl xn xT xh u).length ≤ 1000 := cl _
 generalize thM6 xl xn xT xh u = HS at *
 have h3 := same_spec HS HS none none (by omega)
 rw [decide_eq_true rfl] at h3
 have o1 := mcount_spec xl xn xT xh u (by omega) (by omega) hnm hct
 have o2 := rcount6_spec xl xn xT xh u (by omega) (by omega) hnm
 have o3 := mpop_spec xl xn xT xh u (by omega) (by omega) hnm hct
 have o4 := rpop_spec xl xn xT xh u (by omega) (by omega) hnm
 generalize coM xl xn xT xh u = CN at *
 simp only [go_sem, zaa, zar, zas, zat, zav, zaj, ↓reduceIte, reduceCtorEq, zac, zag, zaw, zax, zay, lendC, dice, hE, decide_eq_true c, hat, decide_eq_true hm3, beq_self_eq_true, eq_self, decide_true, decide_eq_true c2, decide_eq_true ha4, hu, zao, zap, zaf, zaq, zau, zal, zam, zak, zaz, zaB, zah, zan]
 repeat' (first
 | with_reducible refine zaG ?_ ?_
 | (unfold OKC; kernel_rfl)
 | (unfold EDG; kernel_rfl)
 | (apply cg_tp
    case hl => rfl
    case ha => exact yib
    case hs => rfl
    case h => exact yig)
 | (apply cl_plain
    case hs => rfl
    case ha => exact yib
    case h => exact yig)
 | ((first | refine s1_id ?_ | refine swp_id ?_ | refine sops_id ?_ | refine s2_id ?_); simp only [lendC, dice, hE, decide_eq_true c, hat, decide_eq_true hm3, beq_self_eq_true, eq_self, decide_true, decide_eq_true c2, decide_eq_true ha4, hu, zao, zap, zaf, zaq, zau, zal, zam, zak, zaz, zaB, zah, zan, go_sem, zaa, zar, zas, zat, zav, zaj, ↓reduceIte, reduceCtorEq, zac, zag, zaw, zax, zay, zaR, zaT, zaI, zaQ, renO, bk, back, outUpsFrom, Ints_ren])
 | exact yif
 | exact yia | fail)
 refine le_mk (a + 1) ?_ hlt2 (by show U.length - (a + 1) < U.length - a; omega)
 (refine imp_ren _ _ _ [(0, 0, dice D j2), (1, 1, ⟨hyc xl none xn xT none xh, 4⟩), (2, 2, ⟨Cs Q, 4⟩), (3, 3, ⟨Ints U, 1⟩)] (by simp) (by simp) (by simp) (zaJ rfl) ?_ rfl (by simp only [zab, zad, false_implies, implies_true, and_true, zaS, lookR, zaa, if_true, if_false, ↓reduceIte, dice, Cs_flat] <;> (repeat' apply zaG) <;> (first | rfl | trivial)) (by simp only [zab, zad, false_implies, implies_true, and_true, true_and, flat_cons, flat_nil, flat_ints, flat_bools, flat_app, zaN, and_self, eq_self_iff_true, zaf, dice, Cs_flat]); simp only [zae, zai, zab, zad, false_implies, implies_true, and_true, lk, slot, zaR, zaI, toN, zaa, if_true, if_false, ↓reduceIte, reduceCtorEq])
 all_goals ((repeat' apply zaG) <;> (first | rfl | trivial | (simp only [zaK]; done) | (simp only [zaK]; rfl) | (simp only [zaK]; trivial)))
theorem reads6_main (g0 : List Cell) (s0 : GTy Tryz.prog 12 22 g0) (g1 : List Cell) (s1 : GTy Tryz.prog 12 28 g1) (g2 : List Cell) (s2 : GTy Tryz.prog 12 3 g2) : FnSpec Tryz.prog 3 [svOf Tryz.prog 22 g0, svOf Tryz.prog 28 g1, svOf Tryz.prog 3 g2] [] (b1 true) [] := by
 obtain ⟨l0, rfl, hl0, hr0⟩ := gty_ints (n := 10) Tryz.underlying22 Tryz.underlying3 s0
 obtain ⟨l, n, T, x, rfl, _, _, h3, h4⟩ := hier_of s1
 obtain ⟨m2, rfl, _⟩ := gty_int (n := 11) Tryz.underlying3 s2
 simp only [svOf, Tryz.underlying22, Tryz.underlying28, Tryz.underlying3, List.headD_cons]
 exact reads6_spec l0 hr0 l n T x h3 h4 m2
end Go.Proofs.YtnahpejlhfeleabGreat
