/- Contracts of functions, told of values, on the way to ThrottleSteps (part 8). -/
import Derived.Test.YtcnilpdlcmpbbaaGreatThrottleStepsM3
import Derived.Test.YtcnilpdlcmpbbaaGreatThrottleStepsM7
-- short names of the library's lemmas
open Nat renaming reduceEqDiff → zaa, reduceLeDiff → zah, reduceAdd → zai, reduceSub → zaj, reduceMul → zak, reduceLT → zam, le_of_ble_eq_true → zaA, zero_le → zaY, le_refl → zba, lt_or_ge → zbb
open List renaming forall_mem_cons → zab, reduceReplicate → zac, not_mem_nil → zad, map_cons → zaf, map_nil → zag, append_nil → zal, length_cons → zay, length_nil → zaz, take_succ_cons → zaC, set_cons_zero → zaD, set_cons_succ → zaE, flatten_cons → zaF, cons_append → zaG, flatten_nil → zaH, nil_append → zaI, take_zero → zaK, take_nil → zaL, getD_cons_zero → zaM, getD_cons_succ → zaN, mem_cons → zaU, length_take → zaW, length_set → zaZ, take_of_length_le → zbg, length_drop → zbk, take → zbl
open Int renaming cast_ofNat_Int → zae, reduceEq → zan, reduceLT → zao, reduceLE → zap, natCast_add → zaw, toNat_natCast → zaX
open Option renaming getD_some → zaR, getD_none → zaS
open Bool renaming and_eq_false_iff → zaq, or_eq_false_iff → zar, not_eq_false' → zas, not_eq_true' → zat, and_eq_true → zau, or_eq_true → zax, false_ne_true → zaV, false_eq_true → zbe, true_and → zbf, not_eq_false → zbi
open And renaming intro → zav
open Go.Proofs.YtcnilpdlcmpbbaaGreat.Sh.Cell renaming ren → zaB, refs → zaJ, frz → zbc, isG → zbd
open Go.Proofs.YtcnilpdlcmpbbaaGreat.Sh.SV renaming ren → zaO, renL → zaQ, frzL → zbh
open Go.Proofs.YtcnilpdlcmpbbaaGreat.Sh.Row renaming ren → zaP
open Go.Proofs.YtcnilpdlcmpbbaaGreat.Sh.St renaming hpF → zaT, tmF → zbj
-- NEWGO
-- PRUNE: cl_lendx cl_use
-- ISG: Cs_isG
-- FLAT: Cs_flat
namespace Go.Proofs.YtcnilpdlcmpbbaaGreat
set_option linter.unusedVariables false
set_option linter.unusedSimpArgs false
open Go.Proofs.YtcnilpdlcmpbbaaGreat.Sh
set_option maxRecDepth 20000
def lendP : FuncId → List Nat := fun f => if f = 11 then [0] else if f = 37 then [0] else if f = 20 then [0] else if f = 24 then [0] else if f = 26 then [0] else []
def plG (D : List Int) (l : List Nd) (n c : Int) (s : List Pl × Nat) : List Pl × Int := thSp l n s.1 (dgV D l s.2) (nxV D (dgA D l s.2) c)
def plP (D : List Int) (l : List Nd) (n c : Int) (s : List Pl × Nat) : List Pl := if (plG D l n c s).2 = 0 then (plG D l n c s).1 else s.1
def plJ (D : List Int) (l : List Nd) (c : Int) (s : List Pl × Nat) : Nat := nxA D (dgA D l s.2) c
def plS (D : List Int) (l : List Nd) (n c : Int) (s : List Pl × Nat) : List Pl × Nat :=
  if nxV D (plJ D l c s) 8 = 7 then (thRf l n (plP D l n c s) (dsV D (nxA D (plJ D l c s) 8)).1, (dsV D (nxA D (plJ D l c s) 8)).2) else (plP D l n c s, nxA D (plJ D l c s) 8)
def plL (D : List Int) (l : List Nd) (n c : Int) : Nat → List Pl × Nat → List Pl × Nat
  | 0, s => s
  | m + 1, s => plL D l n c m (plS D l n c s)
theorem plP_ok {D : List Int} {l : List Nd} {n c : Int} {s : List Pl × Nat} (h : Pv l n s.1 c) : Pv l n (plP D l n c s) c := by
  unfold plP
  split
  · rename_i e; exact h.sp (.inl e)
  · exact h
theorem plS_ok {D : List Int} {l : List Nd} {n c : Int} {s : List Pl × Nat} (h : Pv l n s.1 c) : Pv l n (plS D l n c s).1 c := by
  have h1 := plP_ok (D := D) h
  unfold plS
  split
  · exact h1.rf _
  · exact h1
theorem plL_ok {D : List Int} {l : List Nd} {n c : Int} : ∀ (m : Nat) {s : List Pl × Nat}, Pv l n s.1 c → Pv l n (plL D l n c m s).1 c
  | 0, s, h => h
  | m + 1, s, h => plL_ok m (plS_ok h)
def plQ (D : List Int) (l : List Nd) (j : Nat) : (List Int × List Int) × Nat := mkNu D j l.length
def plI (D : List Int) (l : List Nd) (c : Int) (j : Nat) : List Pl := nwN l (plQ D l j).1.1 (plQ D l j).1.2 (1 + nxV D (plQ D l j).2 3) c l.length
def mkP (D : List Int) (l : List Nd) (n c : Int) (j : Nat) : List Pl × Nat := plL D l n c (nxV D (nxA D (plQ D l j).2 3) 12).toNat (plI D l c j, nxA D (nxA D (plQ D l j).2 3) 12)
theorem plI_ok {D : List Int} {l : List Nd} {n c : Int} (hV : VT l n) (hc : 1 ≤ c ∧ c ≤ 16) (j : Nat) : Pv l n (plI D l c j) c := by
  have h3 := nx_rng D (plQ D l j).2 3 (by decide)
  exact (thNw_ok hV (mkNu_ok D j l.length) (by omega) hc).2.1
theorem mkP_ok {D : List Int} {l : List Nd} {n c : Int} (hV : VT l n) (hc : 1 ≤ c ∧ c ≤ 16) (j : Nat) : Pv l n (mkP D l n c j).1 c := plL_ok _ (plI_ok hV hc j)
set_option maxHeartbeats 16000000 in
theorem mkpools_spec (D : List Int) (hl : D.length ≤ 600) (hr : ∀ x ∈ D, -9223372036854775808 ≤ x ∧ x ≤ 9223372036854775807) (j : Nat) (l : List Nd) (n c : Int) (hV : VT l n) (hnm : NmR l) (hc : 1 ≤ c ∧ c ≤ 16) :
    FnSpec Tryz.prog 10 [dp, trV l none n, i1 c] [dice D j] (gr (mkP D l n c j).1 none) [some (dice D (mkP D l n c j).2)] := by
  have hnl := nd_len l
  have hle := hV.le
  have hne := hV.ne
  have h1 := numbers_spec D hl hr j l.length (by omega)
  have hq := mkNu_ok D j l.length
  have h3 := nx_rng D (plQ D l j).2 3 (by decide)
  obtain ⟨e1, e2, _⟩ := thNw_ok hV hq (s := 1 + nxV D (plQ D l j).2 3) (by omega) hc
  have h2 := rthnew_spec l n (mkNu D j l.length).1.1 (mkNu D j l.length).1.2 (1 + nxV D (plQ D l j).2 3) c none none (by omega) (by rw [hq.l1]; omega) (by rw [hq.l2]; omega) hnm fun x hx => by have := hq.b x hx; omega
  rw [e1] at h2
  have n3 := next_spec D (plQ D l j).2 3 hl hr (by decide)
  have n12 := next_spec D (nxA D (plQ D l j).2 3) 12 hl hr (by decide)
  have r12 := nx_rng D (nxA D (plQ D l j).2 3) 12 (by decide)
  have hI : plI D l c j = nwN l (mkNu D j l.length).1.1 (mkNu D j l.length).1.2 (1 + nxV D (plQ D l j).2 3) c l.length := rfl
  rw [← hI] at h2 e2
  clear e1 hI
  obtain ⟨T, hT⟩ : ∃ T, mkP D l n c j = T := ⟨_, rfl⟩
  rw [hT]
  unfold mkP at hT
  rw [show mkNu D j l.length = plQ D l j from rfl] at *
  generalize plI D l c j = P0 at *
  generalize plQ D l j = Q at *
  obtain ⟨⟨q, b⟩, j1⟩ := Q
  simp only at h1 h2 h3 n3 n12 r12 hT
  generalize nxV D j1 3 = v3 at *
  generalize nxA D j1 3 = j2 at *
  obtain ⟨K, hK⟩ : ∃ K : Nat, nxV D j2 12 = K := ⟨(nxV D j2 12).toNat, by omega⟩
  rw [hK] at n12 r12 hT
  rw [zaX] at hT
  generalize nxA D j2 12 = j3 at *
  obtain ⟨PT, JT⟩ := T
  refine fnspec_of mixed TT_ok TT_cl ⟨fun _ => false, lendP, 1, fun _ => false, fun _ => false⟩ Tryz.func10 rfl (by kernel_rfl) rfl 62 rfl [.tmp 6] rfl ?_
  simp only [go_sem, zaa, zai, zaj, zak, zam, zah, ↓reduceIte, reduceCtorEq, zac, zae, zan, zao, zap, lendP]
  repeat' (first
 | with_reducible refine zav ?_ ?_
 | (unfold OKC; kernel_rfl)
 | (unfold EDG; kernel_rfl)
 | (apply cl_plain
    case hs => rfl
    case ha => (simp only [zaf, zag, prepV, prepC, idx, hpL', lookR, zaa, if_true, if_false]; rfl)
    case h => (first | exact h1 .. | exact h2 .. | exact n3 .. | exact n12 ..))
 | (apply cl_lend
    case hr => (simp only [zaf, zag, hpL', lookR, zaa, if_true, if_false]; first | exact map1 _ | exact map2 _ _ | exact map3 _ _ _)
    case ha => (simp only [zaf, zag, prepV, prepC, idx, hpL', lookR, zaa, if_true, if_false]; rfl)
    case hs => rfl
    case hn => decide
    case h => (first | exact h1 .. | exact h2 .. | exact n3 .. | exact n12 ..)
    case hf => (simp only [zab, zad, false_implies, implies_true, and_true, true_and, flat_cons, flat_nil, flat_ints, flat_bools, flat_app, Cs_flat, zaJ, and_self, eq_self_iff_true, zal])
    case hl => (simp only [zay, zaz]; decide))
 | ((first | refine s1_id ?_ | refine swp_id ?_ | refine sops_id ?_ | refine s2_id ?_); simp only [lendP, dice, go_sem, zaa, zai, zaj, zak, zam, zah, ↓reduceIte, reduceCtorEq, zac, zae, zan, zao, zap, zaO, zaQ, zaB, zaP, renO, bk, back, outUpsFrom, Ints_ren])
 | (intros; omega)
 | (intros; (try simp only [zau, zax, zat, zas, zaq, zar, decide_eq_true_eq, decide_eq_false_iff_not] at *); omega))
  refine w_loop (ι := Nat × List Pl × Nat) (fun s => ⟨[(0, dp), (2, i1 c), (4, .one (.optr 1 0)), (9, gr s.2.1 none), (11, i1 s.1)], [(0, some (dice D s.2.2)), (1, some ⟨[.gsl (Cs l) 0 l.length none, int n], 2⟩)], 2⟩) (fun s => s.1 ≤ 12 ∧ Pv l n s.2.1 c ∧ plL D l n c s.1 s.2 = (PT, JT)) (fun s => s.1) (K, P0, j3) ?_ ⟨by show K ≤ 12; omega, e2, hT⟩ ?_
  · (refine imp_ren _ _ _ [(0, 0, dice D j3), (1, 1, ⟨[.gsl (Cs l) 0 l.length none, int n], 2⟩)] (by simp) (by simp) (by simp) (zaA rfl) ?_ rfl (by simp only [zab, zad, false_implies, implies_true, and_true, zaT, lookR, zaa, if_true, if_false, ↓reduceIte, dice] <;> (repeat' apply zav) <;> (first | rfl | trivial)) (by simp only [zab, zad, false_implies, implies_true, and_true, true_and, flat_cons, flat_nil, flat_ints, flat_bools, flat_app, zaJ, and_self, eq_self_iff_true, zal, dice]); simp only [zaf, zag, zab, zad, false_implies, implies_true, and_true, lk, slot, zaO, zaB, toN, zaa, if_true, if_false, ↓reduceIte, reduceCtorEq])
    all_goals ((repeat' apply zav) <;> (first | rfl | trivial))
  clear h1 h2 n3 n12 hT e2 hq
  rintro ⟨m, P, j0⟩ ⟨hm, hP, hL⟩
  simp only at hm hP hL ⊢
  rcases Nat.eq_zero_or_pos m with h0 | h0
  · subst h0
    have c0 : ¬ (0 : Int) < ((0 : Nat) : Int) := by omega
    obtain ⟨rfl, rfl⟩ := Prod.mk.inj (show (P, j0) = (PT, JT) from hL)
    simp only [go_sem, zaa, zai, zaj, zak, zam, zah, ↓reduceIte, reduceCtorEq, zac, zae, zan, zao, zap, decide_eq_false c0, lendP]
    repeat' (first
 | (intros; (try simp only [zau, zax, zat, zas, zaq, zar, decide_eq_true_eq, decide_eq_false_iff_not] at *); omega))
    (refine fs_flat [(0, dice D j0)] (by simp) (by simp only [zaf, zag]; decide) (by simp only [go_sem, resV, resS, zaO, zaQ, zaB, zbj, zaT, idx, renO, zaP, evS, slot, lookR, zaa, ↓reduceIte, reduceCtorEq, if_true, if_false, zaR, zaS, zaf, zag, sLoad, readAt, readNeed, Ints_ren, Ints_length, Ints_getD, and_true, true_and, zaM, zaN]; try decide) ?_ (by simp only [zab, zad, false_implies, implies_true, and_true, zaT, lookR, zaa, if_true, if_false, ↓reduceIte, dice] <;> (repeat' apply zav) <;> (first | rfl | trivial)) (by simp only [zab, zad, false_implies, implies_true, and_true, true_and, flat_cons, flat_nil, flat_ints, flat_bools, flat_app, zaJ, and_self, eq_self_iff_true, zal, dice]) ?_ <;> (try simp only [go_sem, resV, resS, zaO, zaQ, zaB, zbj, zaT, idx, renO, zaP, evS, slot, lookR, zaa, ↓reduceIte, reduceCtorEq, if_true, if_false, zaR, zaS, zaf, zag, sLoad, readAt, readNeed, Ints_ren, Ints_length, Ints_getD, and_true, true_and, zaM, zaN]) <;> (try rfl))
  obtain ⟨m', rfl⟩ : ∃ m', m = m' + 1 := ⟨m - 1, by omega⟩
  have c0 : (0 : Int) < ((m' + 1 : Nat) : Int) := by omega
  have hmm : ((m' + 1 : Nat) : Int) - 1 = (m' : Int) := by omega
  rw [plL] at hL
  have hS := plS_ok (D := D) (s := (P, j0)) hP
  have hPl := hP.len
  have hall := hP.all
  have h1 := dgroup_spec D hl hr j0 l n hne hle
  have h2 := next_spec D (dgA D l j0) c hl hr (by omega)
  have h3 := rthspend_spec l n P none (dgV D l j0) (nxV D (dgA D l j0) c) (by omega) (by omega) hnm (fun x hx => smp_of (hall x hx)) (fun x hx => wk_of (hall x hx)) (fun x hx => pck_len (hall x hx))
  have hb := bool_spec D (plJ D l c (P, j0)) 8 hl hr (by decide)
  have hPP := plP_ok (D := D) (s := (P, j0)) hP
  have hG : plG D l n c (P, j0) = thSp l n P (dgV D l j0) (nxV D (dgA D l j0) c) := rfl
  have hPd : plP D l n c (P, j0) = if (plG D l n c (P, j0)).2 = 0 then (plG D l n c (P, j0)).1 else P := rfl
  have hJd : plJ D l c (P, j0) = nxA D (dgA D l j0) c := rfl
  have hSd : plS D l n c (P, j0) = if nxV D (plJ D l c (P, j0)) 8 = 7 then (thRf l n (plP D l n c (P, j0)) (dsV D (nxA D (plJ D l c (P, j0)) 8)).1, (dsV D (nxA D (plJ D l c (P, j0)) 8)).2) else (plP D l n c (P, j0), nxA D (plJ D l c (P, j0)) 8) := rfl
  rw [← hG] at h3
  clear hG
  generalize plG D l n c (P, j0) = r at *
  obtain ⟨R, e⟩ := r
  simp only at h3 hPd
  rw [← hJd] at h2
  clear hJd
  have hPPl := hPP.len
  have hall2 := hPP.all
  have h5 := dsome_spec D hl hr (nxA D (plJ D l c (P, j0)) 8)
  have h6 := rthrefill_spec l n (plP D l n c (P, j0)) none (dsV D (nxA D (plJ D l c (P, j0)) 8)).1 none (by omega) (by omega) (by have := dsV_len D (nxA D (plJ D l c (P, j0)) 8); omega) hnm (fun x hx => smp_of (hall2 x hx)) (fun x hx => wk_of (hall2 x hx)) (fun x hx => pck_len (hall2 x hx))
  clear hall hall2
  by_cases hv : nxV D (plJ D l c (P, j0)) 8 = 7
  · rw [if_pos hv] at hSd
    rw [hSd] at hS hL
    rw [decide_eq_true (by omega : nxV D (plJ D l c (P, j0)) 8 = 8 - 1)] at hb
    clear hSd hv
    generalize plJ D l c (P, j0) = j3 at *
    generalize dsV D (nxA D j3 8) = w at *
    obtain ⟨due, j5⟩ := w
    simp only at h5 h6 hL hS
    by_cases he : e = 0
    · rw [if_pos he] at hPd
      rw [hPd] at h6 hL hS
      generalize thRf l n R due = Z at *
      simp only [go_sem, zaa, zai, zaj, zak, zam, zah, ↓reduceIte, reduceCtorEq, zac, zae, zan, zao, zap, decide_eq_true c0, lendP, decide_eq_true he]
      repeat' (first
 | with_reducible refine zav ?_ ?_
 | (unfold OKC; kernel_rfl)
 | (unfold EDG; kernel_rfl)
 | (apply cl_plain
    case hs => rfl
    case ha => (simp only [zaf, zag, prepV, prepC, idx, hpL', lookR, zaa, if_true, if_false]; rfl)
    case h => (first | exact h1 .. | exact h2 .. | exact h3 .. | exact hb .. | exact h5 .. | exact h6 ..))
 | (apply cl_lend
    case hr => (simp only [zaf, zag, hpL', lookR, zaa, if_true, if_false]; first | exact map1 _ | exact map2 _ _ | exact map3 _ _ _)
    case ha => (simp only [zaf, zag, prepV, prepC, idx, hpL', lookR, zaa, if_true, if_false]; rfl)
    case hs => rfl
    case hn => decide
    case h => (first | exact h1 .. | exact h2 .. | exact h3 .. | exact hb .. | exact h5 .. | exact h6 ..)
    case hf => (simp only [zab, zad, false_implies, implies_true, and_true, true_and, flat_cons, flat_nil, flat_ints, flat_bools, flat_app, Cs_flat, zaJ, and_self, eq_self_iff_true, zal])
    case hl => (simp only [zay, zaz]; decide))
 | ((first | refine s1_id ?_ | refine swp_id ?_ | refine sops_id ?_ | refine s2_id ?_); simp only [lendP, dice, decide_eq_true c0, decide_eq_true he, zaF, zaH, zal, zaG, zaI, zaD, zaE, zaC, zaK, zaL, zay, zaz, go_sem, zaa, zai, zaj, zak, zam, zah, ↓reduceIte, reduceCtorEq, zac, zae, zan, zao, zap, zaO, zaQ, zaB, zaP, renO, bk, back, outUpsFrom, Ints_ren])
 | (intros; omega)
 | (intros; (try simp only [zau, zax, zat, zas, zaq, zar, decide_eq_true_eq, decide_eq_false_iff_not] at *); omega))
      refine le_mk (m', Z, j5) ?_ ⟨by show m' ≤ 12; omega, hS, hL⟩ (by show m' < m' + 1; omega)
      (refine imp_ren _ _ _ [(0, 0, dice D j5), (1, 1, ⟨[.gsl (Cs l) 0 l.length none, int n], 2⟩)] (by simp) (by simp) (by simp) (zaA rfl) ?_ rfl (by simp only [zab, zad, false_implies, implies_true, and_true, zaT, lookR, zaa, if_true, if_false, ↓reduceIte, dice] <;> (repeat' apply zav) <;> (first | rfl | trivial)) (by simp only [zab, zad, false_implies, implies_true, and_true, true_and, flat_cons, flat_nil, flat_ints, flat_bools, flat_app, zaJ, and_self, eq_self_iff_true, zal, dice]); simp only [zaf, zag, zab, zad, false_implies, implies_true, and_true, lk, slot, zaO, zaB, toN, zaa, if_true, if_false, ↓reduceIte, reduceCtorEq])
      all_goals ((repeat' apply zav) <;> (first | rfl | trivial | (simp only [hmm]; done) | (simp only [hmm]; rfl) | (simp only [hmm]; trivial)))
    · rw [if_neg he] at hPd
      rw [hPd] at h6 hL hS
      generalize thRf l n P due = Z at *
      simp only [go_sem, zaa, zai, zaj, zak, zam, zah, ↓reduceIte, reduceCtorEq, zac, zae, zan, zao, zap, decide_eq_true c0, lendP, decide_eq_false he]
      repeat' (first
 | with_reducible refine zav ?_ ?_
 | (unfold OKC; kernel_rfl)
 | (unfold EDG; kernel_rfl)
 | (apply cl_plain
    case hs => rfl
    case ha => (simp only [zaf, zag, prepV, prepC, idx, hpL', lookR, zaa, if_true, if_false]; rfl)
    case h => (first | exact h1 .. | exact h2 .. | exact h3 .. | exact hb .. | exact h5 .. | exact h6 ..))
 | (apply cl_lend
    case hr => (simp only [zaf, zag, hpL', lookR, zaa, if_true, if_false]; first | exact map1 _ | exact map2 _ _ | exact map3 _ _ _)
    case ha => (simp only [zaf, zag, prepV, prepC, idx, hpL', lookR, zaa, if_true, if_false]; rfl)
    case hs => rfl
    case hn => decide
    case h => (first | exact h1 .. | exact h2 .. | exact h3 .. | exact hb .. | exact h5 .. | exact h6 ..)
    case hf => (simp only [zab, zad, false_implies, implies_true, and_true, true_and, flat_cons, flat_nil, flat_ints, flat_bools, flat_app, Cs_flat, zaJ, and_self, eq_self_iff_true, zal])
    case hl => (simp only [zay, zaz]; decide))
 | ((first | refine s1_id ?_ | refine swp_id ?_ | refine sops_id ?_ | refine s2_id ?_); simp only [lendP, dice, decide_eq_true c0, decide_eq_false he, zaF, zaH, zal, zaG, zaI, zaD, zaE, zaC, zaK, zaL, zay, zaz, go_sem, zaa, zai, zaj, zak, zam, zah, ↓reduceIte, reduceCtorEq, zac, zae, zan, zao, zap, zaO, zaQ, zaB, zaP, renO, bk, back, outUpsFrom, Ints_ren])
 | (intros; omega)
 | (intros; (try simp only [zau, zax, zat, zas, zaq, zar, decide_eq_true_eq, decide_eq_false_iff_not] at *); omega))
      refine le_mk (m', Z, j5) ?_ ⟨by show m' ≤ 12; omega, hS, hL⟩ (by show m' < m' + 1; omega)
      (refine imp_ren _ _ _ [(0, 0, dice D j5), (1, 1, ⟨[.gsl (Cs l) 0 l.length none, int n], 2⟩)] (by simp) (by simp) (by simp) (zaA rfl) ?_ rfl (by simp only [zab, zad, false_implies, implies_true, and_true, zaT, lookR, zaa, if_true, if_false, ↓reduceIte, dice] <;> (repeat' apply zav) <;> (first | rfl | trivial)) (by simp only [zab, zad, false_implies, implies_true, and_true, true_and, flat_cons, flat_nil, flat_ints, flat_bools, flat_app, zaJ, and_self, eq_self_iff_true, zal, dice]); simp only [zaf, zag, zab, zad, false_implies, implies_true, and_true, lk, slot, zaO, zaB, toN, zaa, if_true, if_false, ↓reduceIte, reduceCtorEq])
      all_goals ((repeat' apply zav) <;> (first | rfl | trivial | (simp only [hmm]; done) | (simp only [hmm]; rfl) | (simp only [hmm]; trivial)))
  · rw [if_neg hv] at hSd
    rw [hSd] at hS hL
    rw [decide_eq_false (by omega : ¬ nxV D (plJ D l c (P, j0)) 8 = 8 - 1)] at hb
    clear hSd hv h5 h6
    generalize plJ D l c (P, j0) = j3 at *
    by_cases he : e = 0
    · rw [if_pos he] at hPd
      rw [hPd] at hL hS
      simp only [go_sem, zaa, zai, zaj, zak, zam, zah, ↓reduceIte, reduceCtorEq, zac, zae, zan, zao, zap, decide_eq_true c0, lendP, decide_eq_true he]
      repeat' (first
 | with_reducible refine zav ?_ ?_
 | (unfold OKC; kernel_rfl)
 | (unfold EDG; kernel_rfl)
 | (apply cl_plain
    case hs => rfl
    case ha => (simp only [zaf, zag, prepV, prepC, idx, hpL', lookR, zaa, if_true, if_false]; rfl)
    case h => (first | exact h1 .. | exact h2 .. | exact h3 .. | exact hb ..))
 | (apply cl_lend
    case hr => (simp only [zaf, zag, hpL', lookR, zaa, if_true, if_false]; first | exact map1 _ | exact map2 _ _ | exact map3 _ _ _)
    case ha => (simp only [zaf, zag, prepV, prepC, idx, hpL', lookR, zaa, if_true, if_false]; rfl)
    case hs => rfl
    case hn => decide
    case h => (first | exact h1 .. | exact h2 .. | exact h3 .. | exact hb ..)
    case hf => (simp only [zab, zad, false_implies, implies_true, and_true, true_and, flat_cons, flat_nil, flat_ints, flat_bools, flat_app, Cs_flat, zaJ, and_self, eq_self_iff_true, zal])
    case hl => (simp only [zay, zaz]; decide))
 | ((first | refine s1_id ?_ | refine swp_id ?_ | refine sops_id ?_ | refine s2_id ?_); simp only [lendP, dice, decide_eq_true c0, decide_eq_true he, zaF, zaH, zal, zaG, zaI, zaD, zaE, zaC, zaK, zaL, zay, zaz, go_sem, zaa, zai, zaj, zak, zam, zah, ↓reduceIte, reduceCtorEq, zac, zae, zan, zao, zap, zaO, zaQ, zaB, zaP, renO, bk, back, outUpsFrom, Ints_ren])
 | (intros; omega)
 | (intros; (try simp only [zau, zax, zat, zas, zaq, zar, decide_eq_true_eq, decide_eq_false_iff_not] at *); omega))
      refine le_mk (m', R, nxA D j3 8) ?_ ⟨by show m' ≤ 12; omega, hS, hL⟩ (by show m' < m' + 1; omega)
      (refine imp_ren _ _ _ [(0, 0, dice D (nxA D j3 8)), (1, 1, ⟨[.gsl (Cs l) 0 l.length none, int n], 2⟩)] (by simp) (by simp) (by simp) (zaA rfl) ?_ rfl (by simp only [zab, zad, false_implies, implies_true, and_true, zaT, lookR, zaa, if_true, if_false, ↓reduceIte, dice] <;> (repeat' apply zav) <;> (first | rfl | trivial)) (by simp only [zab, zad, false_implies, implies_true, and_true, true_and, flat_cons, flat_nil, flat_ints, flat_bools, flat_app, zaJ, and_self, eq_self_iff_true, zal, dice]); simp only [zaf, zag, zab, zad, false_implies, implies_true, and_true, lk, slot, zaO, zaB, toN, zaa, if_true, if_false, ↓reduceIte, reduceCtorEq])
      all_goals ((repeat' apply zav) <;> (first | rfl | trivial | (simp only [hmm]; done) | (simp only [hmm]; rfl) | (simp only [hmm]; trivial)))
    · rw [if_neg he] at hPd
      rw [hPd] at hL hS
      simp only [go_sem, zaa, zai, zaj, zak, zam, zah, ↓reduceIte, reduceCtorEq, zac, zae, zan, zao, zap, decide_eq_true c0, lendP, decide_eq_false he]
      repeat' (first
 | with_reducible refine zav ?_ ?_
 | (unfold OKC; kernel_rfl)
 | (unfold EDG; kernel_rfl)
 | (apply cl_plain
    case hs => rfl
    case ha => (simp only [zaf, zag, prepV, prepC, idx, hpL', lookR, zaa, if_true, if_false]; rfl)
    case h => (first | exact h1 .. | exact h2 .. | exact h3 .. | exact hb ..))
 | (apply cl_lend
    case hr => (simp only [zaf, zag, hpL', lookR, zaa, if_true, if_false]; first | exact map1 _ | exact map2 _ _ | exact map3 _ _ _)
    case ha => (simp only [zaf, zag, prepV, prepC, idx, hpL', lookR, zaa, if_true, if_false]; rfl)
    case hs => rfl
    case hn => decide
    case h => (first | exact h1 .. | exact h2 .. | exact h3 .. | exact hb ..)
    case hf => (simp only [zab, zad, false_implies, implies_true, and_true, true_and, flat_cons, flat_nil, flat_ints, flat_bools, flat_app, Cs_flat, zaJ, and_self, eq_self_iff_true, zal])
    case hl => (simp only [zay, zaz]; decide))
 | ((first | refine s1_id ?_ | refine swp_id ?_ | refine sops_id ?_ | refine s2_id ?_); simp only [lendP, dice, decide_eq_true c0, decide_eq_false he, zaF, zaH, zal, zaG, zaI, zaD, zaE, zaC, zaK, zaL, zay, zaz, go_sem, zaa, zai, zaj, zak, zam, zah, ↓reduceIte, reduceCtorEq, zac, zae, zan, zao, zap, zaO, zaQ, zaB, zaP, renO, bk, back, outUpsFrom, Ints_ren])
 | (intros; omega)
 | (intros; (try simp only [zau, zax, zat, zas, zaq, zar, decide_eq_true_eq, decide_eq_false_iff_not] at *); omega))
      refine le_mk (m', P, nxA D j3 8) ?_ ⟨by show m' ≤ 12; omega, hS, hL⟩ (by show m' < m' + 1; omega)
      (refine imp_ren _ _ _ [(0, 0, dice D (nxA D j3 8)), (1, 1, ⟨[.gsl (Cs l) 0 l.length none, int n], 2⟩)] (by simp) (by simp) (by simp) (zaA rfl) ?_ rfl (by simp only [zab, zad, false_implies, implies_true, and_true, zaT, lookR, zaa, if_true, if_false, ↓reduceIte, dice] <;> (repeat' apply zav) <;> (first | rfl | trivial)) (by simp only [zab, zad, false_implies, implies_true, and_true, true_and, flat_cons, flat_nil, flat_ints, flat_bools, flat_app, zaJ, and_self, eq_self_iff_true, zal, dice]); simp only [zaf, zag, zab, zad, false_implies, implies_true, and_true, lk, slot, zaO, zaB, toN, zaa, if_true, if_false, ↓reduceIte, reduceCtorEq])
      all_goals ((repeat' apply zav) <;> (first | rfl | trivial | (simp only [hmm]; done) | (simp only [hmm]; rfl) | (simp only [hmm]; trivial)))
end Go.Proofs.YtcnilpdlcmpbbaaGreat
-- NEWGO
-- PRUNE: cl_lendx cl_use cl_lend
-- ISG: Cs_isG
-- FLAT: Cs_flat
namespace Go.Proofs.YtcnilpdlcmpbbaaGreat
set_option linter.unusedVariables false
set_option linter.unusedSimpArgs false
open Go.Proofs.YtcnilpdlcmpbbaaGreat.Sh
set_option maxRecDepth 20000
set_option maxHeartbeats 4000000 in
theorem pl3_ix (g : FuncId) (c0 : List Cell) (c1 : List Cell) (c2 : List Cell) (q : Pl → Bool) (xs : List (Pl)) (hg : ∀ x ∈ xs, FnSpec Tryz.prog g [.agg (Rec.cs x), .one (.gptr c0 0), .one (.gptr c1 0), .one (.gptr c2 0)] [] (b1 (q x)) []) (cap : Option Nat)
    (hs : xs.length ≤ 9223372036854775807) : FnSpec Tryz.prog 62 [gr xs cap, .one (.fn g [.gptr c0 0, .gptr c1 0, .gptr c2 0])] [] (i1 (ixR q xs 0)) [] := by
  refine fnspec_of mixed TT_ok TT_cl ⟨fun _ => false, fun _ => [], 0, fun _ => false, fun _ => false⟩ Tryz.func62 rfl (by kernel_rfl) rfl 19 rfl [.tmp 4] rfl ?_
  simp only [go_sem, zaa, zai, zaj, zak, zam, zah, ↓reduceIte, reduceCtorEq, zac, zae, zan, zao, zap]
  repeat' (first
 | (intros; (try simp only [zau, zax, zat, zas, zaq, zar, decide_eq_true_eq, decide_eq_false_iff_not] at *); omega))
  refine w_loop (ι := Nat) (fun i => ⟨[(0, gr xs cap), (1, .one (.fn g [.gptr c0 0, .gptr c1 0, .gptr c2 0])), (7, i1 xs.length), (8, i1 i)], [], 0⟩) (fun i => i ≤ xs.length ∧ ixR q xs 0 = ixR q (xs.drop i) i) (fun i => xs.length - i) 0 ?_ ⟨zaY _, rfl⟩ ?_
  · (refine imp_sub _ _ _ [] (by simp) (by simp) (by simp) (zaY _) ?_ rfl (by simp); simp only [zab, zad, false_implies, implies_true, and_true, lk, slot, zaO, zaB, zaa, if_true, if_false, ↓reduceIte, reduceCtorEq])
    all_goals ((repeat' apply zav) <;> (first | rfl | trivial))
  rintro i ⟨hi, he⟩
  simp only at hi he ⊢
  rcases zbb i xs.length with hlt | hge
  case inr =>
    have hlt' : ¬ (i : Int) < (xs.length : Int) := by omega
    rw [List.drop_of_length_le hge] at he
    rw [he]
    simp only [go_sem, zaa, zai, zaj, zak, zam, zah, ↓reduceIte, reduceCtorEq, zac, zae, zan, zao, zap, decide_eq_false hlt', ixR]
    repeat' (first
 | exact fs_nil trivial rfl
 | fail)
  have hlt' : (i : Int) < (xs.length : Int) := by omega
  have hcl : (Cs xs).length = xs.length * 10 := Cs_len xs
  have hat : zbl 10 (List.drop (i * 10) (Cs xs)) = Rec.cs (xs.getD i Rec.z) := Cs_td xs i hlt
  have hm := getD_mem xs i Rec.z hlt
  have hc := hg _ hm
  rw [drop_getD xs i Rec.z hlt, ixR] at he
  have hrl : (Rec.cs (xs.getD i Rec.z)).length = 10 := Rec.len _
  have hrg := Rec.g (xs.getD i Rec.z)
  generalize xs.getD i Rec.z = b at *
  have hcs : Rec.cs b = [int b.g, int b.q, int b.b, int b.s, int b.l, .gsl (Ints b.c) 0 b.c.length none, int b.sp, int b.pe, int b.th, bool b.em] := rfl
  rw [hcs] at hat hc
  clear hrl hrg
  cases hqb : q b with
  | true =>
    rw [hqb] at hc he
    simp only [if_true] at he
    rw [he]
    simp only [go_sem, zaa, zai, zaj, zak, zam, zah, ↓reduceIte, reduceCtorEq, zac, zae, zan, zao, zap, decide_eq_true hlt', hat]
    repeat' (first
 | with_reducible refine zav ?_ ?_
 | (apply cl_plain
    case hs => rfl
    case ha => (simp only [zaf, zag, prepV, prepC, idx, hpL', lookR, zaa, if_true, if_false]; rfl)
    case h => (first | exact hc ..))
 | ((first | refine s1_id ?_ | refine swp_id ?_ | refine sops_id ?_ | refine s2_id ?_); simp only [decide_eq_true hlt', hat, go_sem, zaa, zai, zaj, zak, zam, zah, ↓reduceIte, reduceCtorEq, zac, zae, zan, zao, zap, zaO, zaQ, zaB, zaP, renO, bk, back, outUpsFrom, Ints_ren])
 | (intros; omega)
 | exact fs_nil trivial rfl
 | fail)
  | false =>
    rw [hqb] at hc he
    simp only [zbe, if_false] at he
    simp only [go_sem, zaa, zai, zaj, zak, zam, zah, ↓reduceIte, reduceCtorEq, zac, zae, zan, zao, zap, decide_eq_true hlt', hat]
    repeat' (first
 | with_reducible refine zav ?_ ?_
 | (apply cl_plain
    case hs => rfl
    case ha => (simp only [zaf, zag, prepV, prepC, idx, hpL', lookR, zaa, if_true, if_false]; rfl)
    case h => (first | exact hc ..))
 | ((first | refine s1_id ?_ | refine swp_id ?_ | refine sops_id ?_ | refine s2_id ?_); simp only [decide_eq_true hlt', hat, go_sem, zaa, zai, zaj, zak, zam, zah, ↓reduceIte, reduceCtorEq, zac, zae, zan, zao, zap, zaO, zaQ, zaB, zaP, renO, bk, back, outUpsFrom, Ints_ren])
 | (intros; omega)
 | (intros; (try simp only [zau, zax, zat, zas, zaq, zar, decide_eq_true_eq, decide_eq_false_iff_not] at *); omega))
    refine le_mk (i + 1) ?_ ⟨by omega, he⟩ (by omega)
    (refine imp_sub _ _ _ [] (by simp) (by simp) (by simp) (zaY _) ?_ rfl (by simp); simp only [zab, zad, false_implies, implies_true, and_true, lk, slot, zaO, zaB, zaa, if_true, if_false, ↓reduceIte, reduceCtorEq])
    all_goals ((repeat' apply zav) <;> (first | rfl | trivial | (simp only [zaw]; done) | (simp only [zaw]; rfl) | (simp only [zaw]; trivial)))
def usb (id s c : Int) (x : Pl) : Bool := decide (x.g = id) && (decide (x.s = s) && (decide ((x.c.length : Int) = c) && pck x))
set_option maxHeartbeats 4000000 in
theorem sync1_spec (x : Pl) (y : Nd) (s cp : Int) : FnSpec Tryz.prog 60 [.agg (Rec.cs x), .one (.gptr (ndc y) 0), .one (.gptr [int s] 0), .one (.gptr [int cp] 0)] [] (b1 (usb y.i s cp x)) [] := by
  show FnSpec Tryz.prog 60 [.agg (plc x none), .one (.gptr (ndc y) 0), .one (.gptr [int s] 0), .one (.gptr [int cp] 0)] [] (b1 (usb y.i s cp x)) []
  have h1 := check_spec x none
  unfold usb
  generalize pck x = P at *
  obtain ⟨a, b, c, d, e, f, g1, h1', i1', j1⟩ := x
  obtain ⟨yi, yp, yn, yc, yk, yo⟩ := y
  simp only [plc, plt, ndc] at h1 ⊢
  by_cases k0 : a = yi
  case neg =>
    rw [decide_eq_false k0]
    refine fnspec_of mixed TT_ok TT_cl ⟨fun _ => false, fun _ => [], 0, fun _ => false, fun _ => false⟩ Tryz.func60 rfl (by kernel_rfl) rfl 28 rfl [.tmp 5] rfl ?_
    simp only [go_sem, zaa, zai, zaj, zak, zam, zah, ↓reduceIte, reduceCtorEq, zac, zae, zan, zao, zap, decide_eq_false k0]
    repeat' (first
 | exact fs_nil trivial rfl
 | fail)
  by_cases k1 : d = s
  case neg =>
    rw [decide_eq_true k0, decide_eq_false k1]
    refine fnspec_of mixed TT_ok TT_cl ⟨fun _ => false, fun _ => [], 0, fun _ => false, fun _ => false⟩ Tryz.func60 rfl (by kernel_rfl) rfl 28 rfl [.tmp 5] rfl ?_
    simp only [go_sem, zaa, zai, zaj, zak, zam, zah, ↓reduceIte, reduceCtorEq, zac, zae, zan, zao, zap, decide_eq_true k0, decide_eq_false k1]
    repeat' (first
 | exact fs_nil trivial rfl
 | fail)
  by_cases k2 : (f.length : Int) = cp
  case neg =>
    rw [decide_eq_true k0, decide_eq_true k1, decide_eq_false k2]
    refine fnspec_of mixed TT_ok TT_cl ⟨fun _ => false, fun _ => [], 0, fun _ => false, fun _ => false⟩ Tryz.func60 rfl (by kernel_rfl) rfl 28 rfl [.tmp 5] rfl ?_
    simp only [go_sem, zaa, zai, zaj, zak, zam, zah, ↓reduceIte, reduceCtorEq, zac, zae, zan, zao, zap, decide_eq_true k0, decide_eq_true k1, decide_eq_false k2]
    repeat' (first
 | exact fs_nil trivial rfl
 | fail)
  rw [decide_eq_true k0, decide_eq_true k1, decide_eq_true k2, zbf, zbf, zbf]
  refine fnspec_of mixed TT_ok TT_cl ⟨fun _ => false, fun _ => [], 0, fun _ => false, fun _ => false⟩ Tryz.func60 rfl (by kernel_rfl) rfl 28 rfl [.tmp 5] rfl ?_
  simp only [go_sem, zaa, zai, zaj, zak, zam, zah, ↓reduceIte, reduceCtorEq, zac, zae, zan, zao, zap, decide_eq_true k0, decide_eq_true k1, decide_eq_true k2]
  repeat' (first
 | (apply cg_tp
    case hl => rfl
    case ha => (simp only [zaf, zag, prepV, prepC, idx, hpL', lookR, zaa, if_true, if_false]; rfl)
    case hs => rfl
    case h => (first | exact h1 ..))
 | ((first | refine s1_id ?_ | refine swp_id ?_ | refine sops_id ?_ | refine s2_id ?_); simp only [decide_eq_true k0, decide_eq_true k1, decide_eq_true k2, zaF, zaH, zal, zaG, zaI, zaD, zaE, zaC, zaK, zaL, zay, zaz, go_sem, zaa, zai, zaj, zak, zam, zah, ↓reduceIte, reduceCtorEq, zac, zae, zan, zao, zap, zaO, zaQ, zaB, zaP, renO, bk, back, outUpsFrom, Ints_ren])
 | exact fs_nil trivial rfl
 | fail)
def syE (l : List Nd) (P : List Pl) (q b : List Int) (s c : Int) (i : Nat) : Pl × Int :=
  if ixR (usb (gN l i).i s c) P 0 < 0 then pnew (gN l i).i (q.getD i 0) (b.getD i 0) s c else pchange (gP P (ixR (usb (gN l i).i s c) P 0).toNat) (q.getD i 0) (b.getD i 0)
def syN (E : Nat → Pl × Int) (m : Nat) : List Pl := (List.range m).map fun i => (E i).1
def thSy (l : List Nd) (n : Int) (P : List Pl) (q b : List Int) (s c : Int) : List Pl × Int :=
  if (chkT l n && (decide (q.length = l.length) && decide (b.length = l.length))) = true then
    (if allN l.length (fun i => decide ((syE l P q b s c i).2 = 0)) = true then (syN (syE l P q b s c) l.length, 0) else ([], 3)) else ([], 1)
theorem syN_len (E : Nat → Pl × Int) (m : Nat) : (syN E m).length = m := by simp [syN]
theorem syN_suc (E : Nat → Pl × Int) (m : Nat) : syN E (m + 1) = syN E m ++ [(E m).1] := by simp [syN, List.range_succ]
theorem usb_iff {id s c : Int} {x : Pl} : usb id s c x = true ↔ x.g = id ∧ x.s = s ∧ (x.c.length : Int) = c ∧ pck x = true := by
  unfold usb
  simp only [zau, decide_eq_true_eq]
theorem syE_e (l : List Nd) (P : List Pl) (q b : List Int) (s c : Int) (i : Nat) : (syE l P q b s c i).2 = 0 ∨ (syE l P q b s c i).2 = 3 := by
  unfold syE
  split
  · exact pnew_e _ _ _ _ _
  · rename_i h
    rcases ixR_at (usb (gN l i).i s c) zpl P 0 with ⟨h1, _⟩ | ⟨k, h1, h2, h3, _⟩
    · omega
    · rw [Nat.zero_add] at h1
      rw [h1, zaX]
      have := (usb_iff.1 h3).2.2.2
      unfold pchange
      rw [if_neg (by rw [show pck (gP P k) = true from this]; decide)]
      split <;> simp
set_option maxHeartbeats 16000000 in
theorem thsync_spec (l : List Nd) (n : Int) (P : List Pl) (k : Option Nat) (q b : List Int) (s cp : Int) (kq kb : Option Nat) (hl : l.length ≤ 1000000) (hP : P.length ≤ 1000000) (hq : q.length ≤ 9223372036854775807) (hb : b.length ≤ 9223372036854775807) (hnm : NmR l) (hct : CtR l) : FnSpec Tryz.prog 27 [trV l none n, gr P k, gi q kq, gi b kb, i1 s, i1 cp] [] (.tup [gr (thSy l n P q b s cp).1 none, i1 (thSy l n P q b s cp).2]) [] := by
  have h1 := tchk_spec l n hl hnm hct
  have hnl := nd_len l
  have hpl := pl_len P
  unfold thSy
  cases hk : chkT l n with
  | false =>
    rw [hk] at h1
    rw [Bool.false_and, if_neg zaV]
    refine fnspec_of mixed TT_ok TT_cl ⟨fun _ => false, fun _ => [], 0, fun _ => false, fun _ => false⟩ Tryz.func27 rfl (by kernel_rfl) rfl 95 rfl [.tmp 12, .tmp 13] rfl ?_
    simp only [go_sem, zaa, zai, zaj, zak, zam, zah, ↓reduceIte, reduceCtorEq, zac, zae, zan, zao, zap]
    repeat' (first
 | (apply cl_plain
    case hs => rfl
    case ha => (simp only [zaf, zag, prepV, prepC, idx, hpL', lookR, zaa, if_true, if_false]; rfl)
    case h => (first | exact h1 ..))
 | ((first | refine s1_id ?_ | refine swp_id ?_ | refine sops_id ?_ | refine s2_id ?_); simp only [go_sem, zaa, zai, zaj, zak, zam, zah, ↓reduceIte, reduceCtorEq, zac, zae, zan, zao, zap, zaO, zaQ, zaB, zaP, renO, bk, back, outUpsFrom, Ints_ren])
 | (intros; (try simp only [zau, zax, zat, zas, zaq, zar, decide_eq_true_eq, decide_eq_false_iff_not] at *); omega))
    repeat' (first
 | exact fs_w trivial (svw_of (zav cw_gnil (zav (cw_rfl _) trivial)))
 | fail)
  | true =>
  rw [hk] at h1
  rw [zbf]
  by_cases c1 : q.length = l.length
  case neg =>
    have c1' : ¬ (q.length : Int) = (l.length : Int) := by omega
    rw [decide_eq_false c1, Bool.false_and, if_neg zaV]
    refine fnspec_of mixed TT_ok TT_cl ⟨fun _ => false, fun _ => [], 0, fun _ => false, fun _ => false⟩ Tryz.func27 rfl (by kernel_rfl) rfl 95 rfl [.tmp 12, .tmp 13] rfl ?_
    simp only [go_sem, zaa, zai, zaj, zak, zam, zah, ↓reduceIte, reduceCtorEq, zac, zae, zan, zao, zap, decide_eq_false c1']
    repeat' (first
 | (apply cl_plain
    case hs => rfl
    case ha => (simp only [zaf, zag, prepV, prepC, idx, hpL', lookR, zaa, if_true, if_false]; rfl)
    case h => (first | exact h1 ..))
 | ((first | refine s1_id ?_ | refine swp_id ?_ | refine sops_id ?_ | refine s2_id ?_); simp only [decide_eq_false c1', go_sem, zaa, zai, zaj, zak, zam, zah, ↓reduceIte, reduceCtorEq, zac, zae, zan, zao, zap, zaO, zaQ, zaB, zaP, renO, bk, back, outUpsFrom, Ints_ren])
 | (intros; (try simp only [zau, zax, zat, zas, zaq, zar, decide_eq_true_eq, decide_eq_false_iff_not] at *); omega))
    repeat' (first
 | exact fs_w trivial (svw_of (zav cw_gnil (zav (cw_rfl _) trivial)))
 | fail)
  have c1' : (q.length : Int) = (l.length : Int) := by omega
  rw [decide_eq_true c1, zbf]
  by_cases c2 : b.length = l.length
  case neg =>
    have c2' : ¬ (b.length : Int) = (l.length : Int) := by omega
    rw [decide_eq_false c2, if_neg zaV]
    refine fnspec_of mixed TT_ok TT_cl ⟨fun _ => false, fun _ => [], 0, fun _ => false, fun _ => false⟩ Tryz.func27 rfl (by kernel_rfl) rfl 95 rfl [.tmp 12, .tmp 13] rfl ?_
    simp only [go_sem, zaa, zai, zaj, zak, zam, zah, ↓reduceIte, reduceCtorEq, zac, zae, zan, zao, zap, decide_eq_true c1', decide_eq_false c2']
    repeat' (first
 | (apply cl_plain
    case hs => rfl
    case ha => (simp only [zaf, zag, prepV, prepC, idx, hpL', lookR, zaa, if_true, if_false]; rfl)
    case h => (first | exact h1 ..))
 | ((first | refine s1_id ?_ | refine swp_id ?_ | refine sops_id ?_ | refine s2_id ?_); simp only [decide_eq_true c1', decide_eq_false c2', go_sem, zaa, zai, zaj, zak, zam, zah, ↓reduceIte, reduceCtorEq, zac, zae, zan, zao, zap, zaO, zaQ, zaB, zaP, renO, bk, back, outUpsFrom, Ints_ren])
 | (intros; (try simp only [zau, zax, zat, zas, zaq, zar, decide_eq_true_eq, decide_eq_false_iff_not] at *); omega))
    repeat' (first
 | exact fs_w trivial (svw_of (zav cw_gnil (zav (cw_rfl _) trivial)))
 | fail)
  have c2' : (b.length : Int) = (l.length : Int) := by omega
  rw [decide_eq_true c2, if_pos rfl]
  refine fnspec_of mixed TT_ok TT_cl ⟨fun _ => false, fun _ => [], 0 , fun _ => false, fun i => if i = 7 then true else false⟩ Tryz.func27 rfl (by kernel_rfl) rfl 95 rfl [.tmp 12, .tmp 13] rfl ?_
  simp only [go_sem, zaa, zai, zaj, zak, zam, zah, ↓reduceIte, reduceCtorEq, zac, zae, zan, zao, zap, decide_eq_true c1', decide_eq_true c2']
  repeat' (first
 | (apply cl_plain
    case hs => rfl
    case ha => (simp only [zaf, zag, prepV, prepC, idx, hpL', lookR, zaa, if_true, if_false]; rfl)
    case h => (first | exact h1 ..))
 | ((first | refine s1_id ?_ | refine swp_id ?_ | refine sops_id ?_ | refine s2_id ?_); simp only [decide_eq_true c1', decide_eq_true c2', go_sem, zaa, zai, zaj, zak, zam, zah, ↓reduceIte, reduceCtorEq, zac, zae, zan, zao, zap, zaO, zaQ, zaB, zaP, renO, bk, back, outUpsFrom, Ints_ren])
 | (intros; (try simp only [zau, zax, zat, zas, zaq, zar, decide_eq_true_eq, decide_eq_false_iff_not] at *); omega))
  refine w_loop (ι := Nat) (fun m => ⟨[(1, gr P k), (2, gi q kq), (3, gi b kb), (10, .one (.gptr [int s] 0)), (11, .one (.gptr [int cp] 0)), (14, .one (.osl 0 0 m none)), (41, gr l none), (42, i1 l.length), (43, i1 m)], [(0, some ⟨Cs (syN (syE l P q b s cp) m), 10⟩)], 1⟩) (fun m => m ≤ l.length ∧ ∀ i, i < m → (syE l P q b s cp i).2 = 0) (fun m => l.length - m) 0 ?_ ⟨zaY _, fun i hi => absurd hi (Nat.not_lt_zero _)⟩ ?_
  · (refine Imp.trans (imp_frz _ _ 1 ⟨[int s], 1⟩ (by simp only [zaT, lookR, zaa, if_true, if_false, ↓reduceIte]) (by first | exact Ints_isG _ | exact Bools_isG _ | exact Cs_isG _ | (simp [zbd]; done))) ?_; simp only [frzTm, SV.frz, zbh, zbc, frzHp, frzO, Ints_frz, Bools_frz, zaf, zag, zaa, if_true, if_false, ↓reduceIte])
    (refine Imp.trans (imp_frz _ _ 2 ⟨[int cp], 1⟩ (by simp only [zaT, lookR, zaa, if_true, if_false, ↓reduceIte]) (by first | exact Ints_isG _ | exact Bools_isG _ | exact Cs_isG _ | (simp [zbd]; done))) ?_; simp only [frzTm, SV.frz, zbh, zbc, frzHp, frzO, Ints_frz, Bools_frz, zaf, zag, zaa, if_true, if_false, ↓reduceIte])
    (refine Imp.trans (imp_nilA _ _ 14 10 99 (by simp only []; omega) rfl) ?_)
    (refine imp_ren _ _ _ [(0, 99, ⟨[], 10⟩)] (by simp) (by simp) (by simp) (zaA rfl) ?_ rfl (by simp only [zab, zad, false_implies, implies_true, and_true, zaT, lookR, zaa, if_true, if_false, ↓reduceIte] <;> (repeat' apply zav) <;> (first | rfl | trivial)) (by simp only [zab, zad, false_implies, implies_true, and_true, true_and, flat_cons, flat_nil, flat_ints, flat_bools, flat_app, zaJ, and_self, eq_self_iff_true, zal]); simp only [zaf, zag, zab, zad, false_implies, implies_true, and_true, lk, slot, zaO, zaB, toN, zaa, if_true, if_false, ↓reduceIte, reduceCtorEq])
    all_goals ((repeat' apply zav) <;> (first | rfl | trivial))
  clear h1
  rintro m ⟨hm, hI⟩
  simp only at hm hI ⊢
  rcases zbb m l.length with hlt | hge
  case inr =>
    have c : ¬ (m : Int) < (l.length : Int) := by omega
    obtain rfl : m = l.length := by omega
    rw [if_pos ((allN_iff _ _).2 fun i hi => decide_eq_true (hI i hi))]
    have hRl := syN_len (syE l P q b s cp) l.length
    generalize syN (syE l P q b s cp) l.length = R at *
    simp only [go_sem, zaa, zai, zaj, zak, zam, zah, ↓reduceIte, reduceCtorEq, zac, zae, zan, zao, zap, decide_eq_false c]
    repeat' (first
 | (intros; (try simp only [zau, zax, zat, zas, zaq, zar, decide_eq_true_eq, decide_eq_false_iff_not] at *); omega))
    (refine fs_frz 0 ⟨Cs R, 10⟩ (by simp only [zaT, lookR, zaa, if_true, if_false, ↓reduceIte]) (by first | exact Ints_isG _ | exact Bools_isG _ | exact Cs_isG _ | (simp [zbd]; done)) ?_; simp only [frzTm, SV.frz, zbh, zbc, frzHp, frzO, Ints_frz, Bools_frz, zaf, zag, zaa, if_true, if_false, ↓reduceIte])
    apply fs_nil <;> (try simp only [go_sem, resV, resS, zaO, zaQ, zaB, zbj, zaT, idx, renO, zaP, evS, slot, lookR, zaa, ↓reduceIte, reduceCtorEq, if_true, if_false, zaR, zaS, zaf, zag, sLoad, readAt, readNeed, Ints_ren, Ints_length, Ints_getD, and_true, true_and, zaM, zaN]) <;> (try rfl)
    show SV.tup [.one (.gsl (Cs R) 0 l.length none), i1 0] = SV.tup [.one (.gsl (Cs R) 0 R.length none), i1 0]
    rw [hRl]
  have c : (m : Int) < (l.length : Int) := by omega
  have hT := nd_td l m hlt
  have hee : syE l P q b s cp m = if ixR (usb (gN l m).i s cp) P 0 < 0 then pnew (gN l m).i (q.getD m 0) (b.getD m 0) s cp else pchange (gP P (ixR (usb (gN l m).i s cp) P 0).toNat) (q.getD m 0) (b.getD m 0) := rfl
  have he3 := syE_e l P q b s cp m
  have hsu := syN_suc (syE l P q b s cp) m
  have hno : (syE l P q b s cp m).2 ≠ 0 → allN l.length (fun i => decide ((syE l P q b s cp i).2 = 0)) = false := fun hf => Bool.eq_false_iff.2 fun h => hf (of_decide_eq_true ((allN_iff _ _).1 h m hlt))
  have hcq : (m : Int) < (q.length : Int) := by omega
  have hcb : (m : Int) < (b.length : Int) := by omega
  have hix := pl3_ix 60 (ndc (gN l m)) [int s] [int cp] (usb (gN l m).i s cp) P (fun x _ => sync1_spec x (gN l m) s cp) k (by omega)
  have h2 := new_spec (gN l m).i (q.getD m 0) (b.getD m 0) s cp
  have hll := syN_len (syE l P q b s cp) m
  have htk : zbl (m * 10) (Cs (syN (syE l P q b s cp) m)) = Cs (syN (syE l P q b s cp) m) := Cs_all _ _ (by rw [hll]; exact zba _)
  have hpc := pl_len (syN (syE l P q b s cp) m)
  rw [hll] at hpc
  have hI2 : (syE l P q b s cp m).2 = 0 → ∀ i, i < m + 1 → (syE l P q b s cp i).2 = 0 := fun h0 i hi => by
    rcases Nat.lt_succ_iff_lt_or_eq.1 hi with h | h
    · exact hI i h
    · rw [h]; exact h0
  rcases ixR_at (usb (gN l m).i s cp) zpl P 0 with ⟨e1, _⟩ | ⟨t, e1, ht, _, _⟩
  · rw [e1, if_pos (by omega)] at hee
    rw [e1] at hix
    rw [← hee] at h2
    generalize hE : syE l P q b s cp = E at *
    generalize hr : E m = r at *
    obtain ⟨⟨s0, s1, s2, s3, s4, s5, s6, s7, s8, s9⟩, r2⟩ := r
    simp only at he3 hno hsu
    simp only [plc, plt, pre] at h2
    generalize gN l m = y at *
    obtain ⟨yi, yp, yn, yc, yk, yo⟩ := y
    simp only [ndc] at hT hix
    simp only at h2
    clear hee
    by_cases k0 : r2 = 0
    case neg =>
      obtain rfl : r2 = 3 := by omega
      rw [hno (by decide)]
      simp only [zbe, if_false, go_sem, zaa, zai, zaj, zak, zam, zah, ↓reduceIte, reduceCtorEq, zac, zae, zan, zao, zap, decide_eq_true c, hT]
      repeat' (first
 | with_reducible refine zav ?_ ?_
 | (intros; omega)
 | (intros; (try simp only [zau, zax, zat, zas, zaq, zar, decide_eq_true_eq, decide_eq_false_iff_not] at *); omega))
      (refine rgf_t _ (imp_frz _ _ 5 ⟨[int yi, int yp, st yn, int yc, int yk, int yo], 6⟩ (by simp only [zaT, lookR, zaa, if_true, if_false, ↓reduceIte]) (by first | exact Ints_isG _ | exact Bools_isG _ | exact Cs_isG _ | (simp [zbd]; done))) ?_; simp only [frzTm, SV.frz, zbh, zbc, frzHp, frzO, Ints_frz, Bools_frz, zaf, zag, zaa, if_true, if_false, ↓reduceIte])
      simp only [go_sem, zaa, zai, zaj, zak, zam, zah, ↓reduceIte, reduceCtorEq, zac, zae, zan, zao, zap]
      repeat' (first
 | with_reducible refine zav ?_ ?_
 | (unfold OKC; kernel_rfl)
 | (unfold EDG; kernel_rfl)
 | (apply cl_plain
    case hs => rfl
    case ha => (simp only [zaf, zag, prepV, prepC, idx, hpL', lookR, zaa, if_true, if_false]; rfl)
    case h => (first | exact hix .. | exact h2 ..))
 | ((first | refine s1_id ?_ | refine swp_id ?_ | refine sops_id ?_ | refine s2_id ?_); simp only [zaF, zaH, zal, zaG, zaI, zaD, zaE, zaC, zaK, zaL, zay, zaz, go_sem, zaa, zai, zaj, zak, zam, zah, ↓reduceIte, reduceCtorEq, zac, zae, zan, zao, zap, zaO, zaQ, zaB, zaP, renO, bk, back, outUpsFrom, Ints_ren])
 | (intros; omega)
 | (intros; (try simp only [zau, zax, zat, zas, zaq, zar, decide_eq_true_eq, decide_eq_false_iff_not] at *); omega))
      repeat' (first
 | exact fs_w trivial (svw_of (zav cw_gnil (zav (cw_rfl _) trivial)))
 | fail)
    subst k0
    have hpp : Cs (syN E m) ++ [int s0, int s1, int s2, int s3, int s4, .gsl (Ints s5) 0 s5.length none, int s6, int s7, int s8, .sc (.bool s9)] = Cs (syN E (m + 1)) := by
      rw [hsu]; exact Cs_snoc _ (⟨s0, s1, s2, s3, s4, s5, s6, s7, s8, s9⟩ : Pl)
    generalize syN E m = C at *
    simp only [go_sem, zaa, zai, zaj, zak, zam, zah, ↓reduceIte, reduceCtorEq, zac, zae, zan, zao, zap, decide_eq_true c, hT]
    repeat' (first
 | with_reducible refine zav ?_ ?_
 | (intros; omega)
 | (intros; (try simp only [zau, zax, zat, zas, zaq, zar, decide_eq_true_eq, decide_eq_false_iff_not] at *); omega))
    (refine rgf_t _ (imp_frz _ _ 5 ⟨[int yi, int yp, st yn, int yc, int yk, int yo], 6⟩ (by simp only [zaT, lookR, zaa, if_true, if_false, ↓reduceIte]) (by first | exact Ints_isG _ | exact Bools_isG _ | exact Cs_isG _ | (simp [zbd]; done))) ?_; simp only [frzTm, SV.frz, zbh, zbc, frzHp, frzO, Ints_frz, Bools_frz, zaf, zag, zaa, if_true, if_false, ↓reduceIte])
    simp only [go_sem, zaa, zai, zaj, zak, zam, zah, ↓reduceIte, reduceCtorEq, zac, zae, zan, zao, zap]
    repeat' (first
 | with_reducible refine zav ?_ ?_
 | (unfold OKC; kernel_rfl)
 | (unfold EDG; kernel_rfl)
 | (apply cl_plain
    case hs => rfl
    case ha => (simp only [zaf, zag, prepV, prepC, idx, hpL', lookR, zaa, if_true, if_false]; rfl)
    case h => (first | exact hix .. | exact h2 ..))
 | ((first | refine s1_id ?_ | refine swp_id ?_ | refine sops_id ?_ | refine s2_id ?_); simp only [htk, hpp, zaF, zaH, zal, zaG, zaI, zaD, zaE, zaC, zaK, zaL, zay, zaz, go_sem, zaa, zai, zaj, zak, zam, zah, ↓reduceIte, reduceCtorEq, zac, zae, zan, zao, zap, zaO, zaQ, zaB, zaP, renO, bk, back, outUpsFrom, Ints_ren])
 | (intros; omega)
 | (intros; (try simp only [zau, zax, zat, zas, zaq, zar, decide_eq_true_eq, decide_eq_false_iff_not] at *); omega))
    refine le_mk (m + 1) ?_ ⟨hlt, hI2 rfl⟩ (by omega)
    (refine imp_ren _ _ _ [(0, 41, ⟨Cs (syN E (m + 1)), 10⟩)] (by simp) (by simp) (by simp) (zaA rfl) ?_ rfl (by simp only [zab, zad, false_implies, implies_true, and_true, zaT, lookR, zaa, if_true, if_false, ↓reduceIte, Cs_flat] <;> (repeat' apply zav) <;> (first | rfl | trivial)) (by simp only [zab, zad, false_implies, implies_true, and_true, true_and, flat_cons, flat_nil, flat_ints, flat_bools, flat_app, zaJ, and_self, eq_self_iff_true, zal, Cs_flat]); simp only [zaf, zag, zab, zad, false_implies, implies_true, and_true, lk, slot, zaO, zaB, toN, zaa, if_true, if_false, ↓reduceIte, reduceCtorEq])
    all_goals ((repeat' apply zav) <;> (first | rfl | trivial | (simp only [zaw]; done) | (simp only [zaw]; rfl) | (simp only [zaw]; trivial)))
  · rw [Nat.zero_add] at e1
    rw [e1, if_neg (by omega), zaX] at hee
    rw [e1] at hix
    have h5 := change_spec (gP P t) none (q.getD m 0) (b.getD m 0)
    rw [← hee] at h5
    have hTt := pl_td P t ht
    have ct : ¬ (t : Int) < 0 := by omega
    generalize hE : syE l P q b s cp = E at *
    generalize hr : E m = r at *
    obtain ⟨⟨s0, s1, s2, s3, s4, s5, s6, s7, s8, s9⟩, r2⟩ := r
    simp only at he3 hno hsu
    generalize gN l m = y at *
    obtain ⟨yi, yp, yn, yc, yk, yo⟩ := y
    generalize gP P t = x at *
    obtain ⟨a0, a1, a2, a3, a4, a5, a6, a7, a8, a9⟩ := x
    simp only [plc, plt, pre] at h5 hTt
    simp only [ndc] at hT hix
    clear hee h2
    by_cases k0 : r2 = 0
    case neg =>
      obtain rfl : r2 = 3 := by omega
      rw [hno (by decide)]
      simp only [zbe, if_false, go_sem, zaa, zai, zaj, zak, zam, zah, ↓reduceIte, reduceCtorEq, zac, zae, zan, zao, zap, decide_eq_true c, hT]
      repeat' (first
 | with_reducible refine zav ?_ ?_
 | (intros; omega)
 | (intros; (try simp only [zau, zax, zat, zas, zaq, zar, decide_eq_true_eq, decide_eq_false_iff_not] at *); omega))
      (refine rgf_t _ (imp_frz _ _ 5 ⟨[int yi, int yp, st yn, int yc, int yk, int yo], 6⟩ (by simp only [zaT, lookR, zaa, if_true, if_false, ↓reduceIte]) (by first | exact Ints_isG _ | exact Bools_isG _ | exact Cs_isG _ | (simp [zbd]; done))) ?_; simp only [frzTm, SV.frz, zbh, zbc, frzHp, frzO, Ints_frz, Bools_frz, zaf, zag, zaa, if_true, if_false, ↓reduceIte])
      simp only [go_sem, zaa, zai, zaj, zak, zam, zah, ↓reduceIte, reduceCtorEq, zac, zae, zan, zao, zap, decide_eq_false ct, hTt]
      repeat' (first
 | with_reducible refine zav ?_ ?_
 | (unfold OKC; kernel_rfl)
 | (unfold EDG; kernel_rfl)
 | (apply cl_plain
    case hs => rfl
    case ha => (simp only [zaf, zag, prepV, prepC, idx, hpL', lookR, zaa, if_true, if_false]; rfl)
    case h => (first | exact hix .. | exact h5 ..))
 | ((first | refine s1_id ?_ | refine swp_id ?_ | refine sops_id ?_ | refine s2_id ?_); simp only [decide_eq_false ct, hTt, zaF, zaH, zal, zaG, zaI, zaD, zaE, zaC, zaK, zaL, zay, zaz, go_sem, zaa, zai, zaj, zak, zam, zah, ↓reduceIte, reduceCtorEq, zac, zae, zan, zao, zap, zaO, zaQ, zaB, zaP, renO, bk, back, outUpsFrom, Ints_ren])
 | (intros; omega)
 | (intros; (try simp only [zau, zax, zat, zas, zaq, zar, decide_eq_true_eq, decide_eq_false_iff_not] at *); omega))
      repeat' (first
 | exact fs_w trivial (svw_of (zav cw_gnil (zav (cw_rfl _) trivial)))
 | fail)
    subst k0
    have hpp : Cs (syN E m) ++ [int s0, int s1, int s2, int s3, int s4, .gsl (Ints s5) 0 s5.length none, int s6, int s7, int s8, .sc (.bool s9)] = Cs (syN E (m + 1)) := by
      rw [hsu]; exact Cs_snoc _ (⟨s0, s1, s2, s3, s4, s5, s6, s7, s8, s9⟩ : Pl)
    generalize syN E m = C at *
    simp only [go_sem, zaa, zai, zaj, zak, zam, zah, ↓reduceIte, reduceCtorEq, zac, zae, zan, zao, zap, decide_eq_true c, hT]
    repeat' (first
 | with_reducible refine zav ?_ ?_
 | (intros; omega)
 | (intros; (try simp only [zau, zax, zat, zas, zaq, zar, decide_eq_true_eq, decide_eq_false_iff_not] at *); omega))
    (refine rgf_t _ (imp_frz _ _ 5 ⟨[int yi, int yp, st yn, int yc, int yk, int yo], 6⟩ (by simp only [zaT, lookR, zaa, if_true, if_false, ↓reduceIte]) (by first | exact Ints_isG _ | exact Bools_isG _ | exact Cs_isG _ | (simp [zbd]; done))) ?_; simp only [frzTm, SV.frz, zbh, zbc, frzHp, frzO, Ints_frz, Bools_frz, zaf, zag, zaa, if_true, if_false, ↓reduceIte])
    simp only [go_sem, zaa, zai, zaj, zak, zam, zah, ↓reduceIte, reduceCtorEq, zac, zae, zan, zao, zap, decide_eq_false ct, hTt]
    repeat' (first
 | with_reducible refine zav ?_ ?_
 | (unfold OKC; kernel_rfl)
 | (unfold EDG; kernel_rfl)
 | (apply cl_plain
    case hs => rfl
    case ha => (simp only [zaf, zag, prepV, prepC, idx, hpL', lookR, zaa, if_true, if_false]; rfl)
    case h => (first | exact hix .. | exact h5 ..))
 | ((first | refine s1_id ?_ | refine swp_id ?_ | refine sops_id ?_ | refine s2_id ?_); simp only [decide_eq_false ct, hTt, htk, hpp, zaF, zaH, zal, zaG, zaI, zaD, zaE, zaC, zaK, zaL, zay, zaz, go_sem, zaa, zai, zaj, zak, zam, zah, ↓reduceIte, reduceCtorEq, zac, zae, zan, zao, zap, zaO, zaQ, zaB, zaP, renO, bk, back, outUpsFrom, Ints_ren])
 | (intros; omega)
 | (intros; (try simp only [zau, zax, zat, zas, zaq, zar, decide_eq_true_eq, decide_eq_false_iff_not] at *); omega))
    refine le_mk (m + 1) ?_ ⟨hlt, hI2 rfl⟩ (by omega)
    (refine imp_ren _ _ _ [(0, 41, ⟨Cs (syN E (m + 1)), 10⟩)] (by simp) (by simp) (by simp) (zaA rfl) ?_ rfl (by simp only [zab, zad, false_implies, implies_true, and_true, zaT, lookR, zaa, if_true, if_false, ↓reduceIte, Cs_flat] <;> (repeat' apply zav) <;> (first | rfl | trivial)) (by simp only [zab, zad, false_implies, implies_true, and_true, true_and, flat_cons, flat_nil, flat_ints, flat_bools, flat_app, zaJ, and_self, eq_self_iff_true, zal, Cs_flat]); simp only [zaf, zag, zab, zad, false_implies, implies_true, and_true, lk, slot, zaO, zaB, toN, zaa, if_true, if_false, ↓reduceIte, reduceCtorEq])
    all_goals ((repeat' apply zav) <;> (first | rfl | trivial | (simp only [zaw]; done) | (simp only [zaw]; rfl) | (simp only [zaw]; trivial)))
theorem thnew_spec (l : List Nd) (n : Int) (q b : List Int) (s cp : Int) (kq kb : Option Nat) (hl : l.length ≤ 1000000) (hq : q.length ≤ 9223372036854775807) (hb : b.length ≤ 9223372036854775807) (hnm : NmR l) (hct : CtR l) : FnSpec Tryz.prog 29 [trV l none n, gi q kq, gi b kb, i1 s, i1 cp] [] (.tup [gr (thSy l n [] q b s cp).1 none, i1 (thSy l n [] q b s cp).2]) [] := by
  have h1 : FnSpec Tryz.prog 27 [trV l none n, .one (.sc (.slice none 0 0)), gi q kq, gi b kb, i1 s, i1 cp] [] (.tup [gr (thSy l n [] q b s cp).1 none, i1 (thSy l n [] q b s cp).2]) [] := (thsync_spec l n [] none q b s cp kq kb hl (by decide) hq hb hnm hct).pre ⟨⟨cw_rfl _, cw_rfl _, trivial⟩, cw_gnil, cw_rfl _, cw_rfl _, cw_rfl _, cw_rfl _, trivial⟩
  generalize thSy l n [] q b s cp = r at *
  refine fnspec_of mixed TT_ok TT_cl ⟨fun _ => false, fun _ => [], 0, fun _ => false, fun _ => false⟩ Tryz.func29 rfl (by kernel_rfl) rfl 20 rfl [.tmp 10, .tmp 11] rfl ?_
  simp only [go_sem, zaa, zai, zaj, zak, zam, zah, ↓reduceIte, reduceCtorEq, zac, zae, zan, zao, zap]
  repeat' (first
 | (apply cl_plain
    case hs => rfl
    case ha => (simp only [zaf, zag, prepV, prepC, idx, hpL', lookR, zaa, if_true, if_false]; rfl)
    case h => (first | exact h1 ..))
 | ((first | refine s1_id ?_ | refine swp_id ?_ | refine sops_id ?_ | refine s2_id ?_); simp only [go_sem, zaa, zai, zaj, zak, zam, zah, ↓reduceIte, reduceCtorEq, zac, zae, zan, zao, zap, zaO, zaQ, zaB, zaP, renO, bk, back, outUpsFrom, Ints_ren])
 | exact fs_nil trivial rfl
 | fail)
end Go.Proofs.YtcnilpdlcmpbbaaGreat
-- NEWGO
-- PRUNE: cl_lendx
-- ISG: Cs_isG
-- FLAT: Cs_flat
namespace Go.Proofs.YtcnilpdlcmpbbaaGreat
set_option linter.unusedVariables false
set_option linter.unusedSimpArgs false
open Go.Proofs.YtcnilpdlcmpbbaaGreat.Sh
set_option maxRecDepth 20000
theorem VT.ctr {l : List Nd} {n : Int} (h : VT l n) : CtR l := fun x hx => by
  have := (h.vl.all x hx).2
  unfold rngOk at this
  simp only [zau, decide_eq_true_eq] at this
  omega
abbrev xT : List Nd := [⟨1, 0, [], 0, 0, 0⟩, ⟨2, 1, [97], 0, 0, 0⟩, ⟨3, 2, [98], 0, 0, 0⟩, ⟨4, 2, [99], 0, 0, 0⟩]
abbrev xQ : List Int := [4611686018427387904, 2, 4611686018427387904, 4611686018427387904]
def xP0 : List Pl := (thSy xT 5 [] xQ [0, 0, 0, 0] 1 1).1
def xP1 : List Pl := (thSp xT 5 xP0 3 0).1
def xP2 : List Pl := (thSp xT 5 xP1 4 0).1
set_option maxHeartbeats 4000000 in
theorem thsane_spec : FnSpec Tryz.prog 7 [] [] (b1 true) [] := by
  have hN : NmR xT := fun x hx => by simp only [zaU, zad, or_false] at hx; rcases hx with rfl | rfl | rfl | rfl <;> decide
  have hC : CtR xT := fun x hx => by simp only [zaU, zad, or_false] at hx; rcases hx with rfl | rfl | rfl | rfl <;> decide
  have a1 := radd_spec [⟨1, 0, [], 0, 0, 0⟩] none 2 1 [97] (by decide) (fun x hx => by rw [List.mem_singleton.1 hx]; decide) (by decide)
  have e1 : addM [⟨1, 0, [], 0, 0, 0⟩] 2 1 [97] = (([⟨1, 0, [], 0, 0, 0⟩, ⟨2, 1, [97], 0, 0, 0⟩], 3), 2, 0) := by kernel_rfl
  rw [e1] at a1
  have a2 := radd_spec [⟨1, 0, [], 0, 0, 0⟩, ⟨2, 1, [97], 0, 0, 0⟩] none 3 2 [98] (by decide) (fun x hx => by simp only [zaU, zad, or_false] at hx; rcases hx with rfl | rfl <;> decide) (by decide)
  have e2 : addM [⟨1, 0, [], 0, 0, 0⟩, ⟨2, 1, [97], 0, 0, 0⟩] 3 2 [98] = (([⟨1, 0, [], 0, 0, 0⟩, ⟨2, 1, [97], 0, 0, 0⟩, ⟨3, 2, [98], 0, 0, 0⟩], 4), 3, 0) := by kernel_rfl
  rw [e2] at a2
  have a3 := radd_spec [⟨1, 0, [], 0, 0, 0⟩, ⟨2, 1, [97], 0, 0, 0⟩, ⟨3, 2, [98], 0, 0, 0⟩] none 4 2 [99] (by decide) (fun x hx => by simp only [zaU, zad, or_false] at hx; rcases hx with rfl | rfl | rfl <;> decide) (by decide)
  have e3 : addM [⟨1, 0, [], 0, 0, 0⟩, ⟨2, 1, [97], 0, 0, 0⟩, ⟨3, 2, [98], 0, 0, 0⟩] 4 2 [99] = ((xT, 5), 4, 0) := by kernel_rfl
  rw [e3] at a3
  have b0 := thnew_spec xT 5 xQ [0, 0, 0, 0] 1 1 (some 4) (some 4) (by decide) (by decide) (by decide) hN hC
  have f0 : (thSy xT 5 [] xQ [0, 0, 0, 0] 1 1).2 = 0 := by kernel_rfl
  rw [f0, show (thSy xT 5 [] xQ [0, 0, 0, 0] 1 1).1 = xP0 from rfl] at b0
  have b0' : FnSpec Tryz.prog 29 [trV xT none 5, .one (.gsl (Ints [4611686018427387904, 2, 4611686018427387904, 4611686018427387904]) 0 4 (some 4)), .one (.gsl (Ints [0, 0, 0, 0]) 0 4 (some 4)), i1 1, i1 1] [] (.tup [gr xP0 none, i1 0]) [] := b0
  have l0 : xP0.length ≤ 1000000 := by decide +kernel
  have b1' := thspend_spec xT 5 xP0 none 3 0 (by decide) l0 hN hC
  have f1 : (thSp xT 5 xP0 3 0).2 = 0 := by kernel_rfl
  rw [f1, show (thSp xT 5 xP0 3 0).1 = xP1 from rfl] at b1'
  have l1 : xP1.length ≤ 1000000 := by decide +kernel
  have b2 := thspend_spec xT 5 xP1 none 4 0 (by decide) l1 hN hC
  have f2 : (thSp xT 5 xP1 4 0).2 = 0 := by kernel_rfl
  rw [f2, show (thSp xT 5 xP1 4 0).1 = xP2 from rfl] at b2
  have l2 : xP2.length ≤ 1000000 := by decide +kernel
  have b3 := thspend_spec xT 5 xP2 none 3 0 (by decide) l2 hN hC
  have f3 : (thSp xT 5 xP2 3 0).2 = 11 := by kernel_rfl
  rw [f3] at b3
  have b4 := thblk_spec xT 5 xP2 none 4 0 (by decide) l2 hN hC
  have f4 : bkF xP2 0 (wayM xT 5 xP2 4) = (2, true) := by kernel_rfl
  rw [f4] at b4
  have b4' : FnSpec Tryz.prog 35 [trV xT none 5, gr xP2 none, i1 4, i1 0] [] (.tup [i1 2, b1 true]) [] := b4
  clear b0 b4 f0 f1 f2 f3 f4 hN hC l0 l1 l2 e1 e2 e3
  simp only [adV] at a1 a2 a3
  generalize (thSp xT 5 xP2 3 0).1 = P3 at *
  generalize xP2 = P2 at *
  generalize xP1 = P1 at *
  generalize xP0 = P0 at *
  generalize xT = T3 at *
  obtain ⟨T2, hT2⟩ : ∃ T : List Nd, [⟨1, 0, [], 0, 0, 0⟩, ⟨2, 1, [97], 0, 0, 0⟩, ⟨3, 2, [98], 0, 0, 0⟩] = T := ⟨_, rfl⟩
  rw [hT2] at a2 a3
  obtain ⟨T1, hT1⟩ : ∃ T : List Nd, [⟨1, 0, [], 0, 0, 0⟩, ⟨2, 1, [97], 0, 0, 0⟩] = T := ⟨_, rfl⟩
  rw [hT1] at a1 a2
  clear hT1 hT2
  refine fnspec_of mixed TT_ok TT_cl ⟨fun _ => false, fun _ => [], 0, fun _ => false, fun _ => false⟩ Tryz.func7 rfl (by kernel_rfl) rfl 93 rfl [.tmp 0] rfl ?_
  simp only [go_sem, zaa, zai, zaj, zak, zam, zah, ↓reduceIte, reduceCtorEq, zac, zae, zan, zao, zap]
  repeat' (first
 | (apply cl_plain
    case hs => rfl
    case ha => (simp only [zaf, zag, prepV, prepC, idx, hpL', lookR, zaa, if_true, if_false]; rfl)
    case h => (first | exact trnew_spec .. | exact a1 .. | exact a2 .. | exact a3 .. | exact b0' .. | exact b1' .. | exact b2 .. | exact b3 .. | exact b4' ..))
 | (apply cl_use
    case hr => (simp only [zaf, zag, hpL', lookR, zaa, if_true, if_false]; first | exact map0 | exact map1 _ | exact map2 _ _ | exact map3 _ _ _)
    case ha => (simp only [zaf, zag, prepV, prepC, idx, hpL', lookR, zaa, if_true, if_false]; rfl)
    case hs => (simp only [snaps, SV.refs, zaJ, idx, List.flatMap_cons, List.flatMap_nil, zaI, zaG, zal, List.filter_cons, List.filter_nil, zaa, if_true, if_false, Option.isNone_none, Option.isNone_some, zbe, reduceCtorEq, ↓reduceIte]; rfl)
    case hn => decide
    case h => (first | exact trnew_spec .. | exact a1 .. | exact a2 .. | exact a3 .. | exact b0' .. | exact b1' .. | exact b2 .. | exact b3 .. | exact b4' ..)
    case hf => (simp only [zab, zad, false_implies, implies_true, and_true, true_and, flat_cons, flat_nil, flat_ints, flat_bools, flat_app, Cs_flat, zaJ, and_self, eq_self_iff_true, zal])
    case hg => ((simp [hpL', lookR, zbd]) <;> (repeat' apply zav) <;> (first | exact Ints_isG _ | exact Cs_isG _))
    case hl => (simp only [zay, zaz]; decide))
 | ((first | refine s1_id ?_ | refine swp_id ?_ | refine sops_id ?_ | refine s2_id ?_); simp only [zaF, zaH, zal, zaG, zaI, zaD, zaE, zaC, zaK, zaL, zay, zaz, go_sem, zaa, zai, zaj, zak, zam, zah, ↓reduceIte, reduceCtorEq, zac, zae, zan, zao, zap, zaO, zaQ, zaB, zaP, renO, bk, back, outUpsFrom, Ints_ren])
 | exact fs_nil trivial rfl
 | fail)
end Go.Proofs.YtcnilpdlcmpbbaaGreat
-- NEWGO
-- PRUNE: cl_lendx cl_use
-- ISG: Cs_isG
-- FLAT: Cs_flat
namespace Go.Proofs.YtcnilpdlcmpbbaaGreat
set_option linter.unusedVariables false
set_option linter.unusedSimpArgs false
open Go.Proofs.YtcnilpdlcmpbbaaGreat.Sh
set_option maxRecDepth 20000
def SpB (P : List Pl) (k : Int) : Prop := ∀ i, i < P.length → (gP P i).sp ≤ k
theorem SpB.map {P : List Pl} {k k' : Int} {f : Pl → Pl} (h : SpB P k) (hf : ∀ x ∈ P, x.sp ≤ k → (f x).sp ≤ k') : SpB (P.map f) k' := fun i hi => by
  rw [List.length_map] at hi
  rw [map_at f P i hi]
  exact hf _ (getD_mem P i zpl hi) (h i hi)
theorem spF_sp {x : Pl} {cpu : Int} (h : pck x = true) (hc : 0 ≤ cpu ∧ cpu < x.c.length) : (spF cpu x).sp ≤ x.sp + 1 := by
  rcases (pspend_ok h hc).2.2 with ⟨_, _, h3, _⟩ | ⟨_, _, _, _, h5⟩
  · unfold spF
    rw [h3]
    exact (mn_le _ _).1
  · unfold spF
    rw [h5]
    show x.sp ≤ x.sp + 1
    omega
theorem SpB.sp {l : List Nd} {n : Int} {P : List Pl} {c k : Int} (hP : Pv l n P c) (hk : 0 ≤ k) (h : SpB P k) {g cpu : Int} (he : (thSp l n P g cpu).2 = 0 ∨ (thSp l n P g cpu).2 = 11) : SpB (thSp l n P g cpu).1 (k + 1) := by
  unfold thSp at he ⊢
  rw [if_neg (by simp [hP.ok])] at he ⊢
  split at he
  · simp at he
  rename_i h1
  rw [if_neg h1]
  split at he
  · simp at he
  rename_i h2
  rw [if_neg h2]
  rw [zbi, wi_iff] at h2
  have h0 := hP.c 0 (by rw [hP.len]; exact hP.vt.ne)
  have hx : ∀ x ∈ P, x.sp ≤ k → (spF cpu x).sp ≤ k + 1 := fun x hx hs => by
    obtain ⟨i, hi, rfl⟩ := gP_mem P x hx
    have := spF_sp (cpu := cpu) (hP.pck hi) (by have := hP.c i hi; omega)
    omega
  split
  · exact h.map fun x hm hs => by split; (· exact hx x hm hs); (· omega)
  · exact h.map fun x hm hs => by split; (· exact hx x hm hs); (· omega)
theorem SpB.rf {l : List Nd} {n : Int} {P : List Pl} {c k : Int} (hP : Pv l n P c) (hk : 0 ≤ k) (h : SpB P k) (due : List Int) : SpB (thRf l n P due) k := by
  unfold thRf
  rw [if_pos hP.ok]
  refine h.map fun x hx hs => ?_
  unfold rfF
  split
  · unfold prefill
    split
    · show (0 : Int) ≤ k; exact hk
    · split
      · show (0 : Int) ≤ k; exact hk
      · show (0 : Int) ≤ k; exact hk
  · exact hs
theorem SpB.mono {P : List Pl} {k k' : Int} (h : SpB P k) (hk : k ≤ k') : SpB P k' := fun i hi => Int.le_trans (h i hi) hk
structure SpR (l : List Nd) (n : Int) (P : List Pl) (c g cpu : Int) (y : List Pl) (e a : Int) (bl : Bool) : Prop where
  ok : Pv l n y c
  e : e = if bl = true then 11 else 0
  bk : bkF P cpu (wayM l n P g) = (a, bl)
  em : (ancM l n g).any (fun id => decide (proom (gtM P id).1 cpu = 0)) = bl
  at' : decide (a ∈ ancM l n g) = bl
  rm : decide (thRm l n P g cpu = 0) = bl
  i : ∀ i, i < P.length → (gP y i).sp - (gP P i).sp = (if bl = false ∧ (gP P i).g ∈ ancM l n g then 1 else 0) ∧ (lim (gP P i) = true → hld (gP P i) - hld (gP y i) = (if bl = false ∧ (gP P i).g ∈ ancM l n g then 1 else 0)) ∧ ((gP y i).th = (gP P i).th ∨ (gP P i).g = a)
end Go.Proofs.YtcnilpdlcmpbbaaGreat
-- NEWGO
-- PRUNE: cl_lendx cl_use
-- ISG: Cs_isG
-- FLAT: Cs_flat
namespace Go.Proofs.YtcnilpdlcmpbbaaGreat
set_option linter.unusedVariables false
set_option linter.unusedSimpArgs false
open Go.Proofs.YtcnilpdlcmpbbaaGreat.Sh
set_option maxRecDepth 20000
structure QK (Q : Pl → Prop) : Prop where
  sp : ∀ x (cpu : Int), pck x = true → 0 ≤ cpu ∧ cpu < x.c.length → Q x → Q (spF cpu x)
  rf : ∀ x due, pck x = true → Q x → Q (rfF due x)
theorem QK.sp' {Q : Pl → Prop} (hQ : QK Q) {l : List Nd} {n : Int} {P : List Pl} {c : Int} (hP : Pv l n P c) (h : ∀ x ∈ P, Q x) {g cpu : Int} (he : (thSp l n P g cpu).2 = 0 ∨ (thSp l n P g cpu).2 = 11) : ∀ x ∈ (thSp l n P g cpu).1, Q x := by
  unfold thSp at he ⊢
  rw [if_neg (by simp [hP.ok])] at he ⊢
  split at he
  · simp at he
  rename_i h1
  rw [if_neg h1]
  split at he
  · simp at he
  rename_i h2
  rw [if_neg h2]
  rw [zbi, wi_iff] at h2
  have h0 := hP.c 0 (by rw [hP.len]; exact hP.vt.ne)
  have hx : ∀ x ∈ P, Q (spF cpu x) := fun x hx => by
    obtain ⟨i, hi, rfl⟩ := gP_mem P x hx
    exact hQ.sp _ cpu (hP.pck hi) (by have := hP.c i hi; omega) (h _ hx)
  split
  all_goals
    intro y hy
    obtain ⟨x, hm, rfl⟩ := List.mem_map.1 hy
    split
    · exact hx x hm
    · exact h x hm
theorem QK.rf' {Q : Pl → Prop} (hQ : QK Q) {l : List Nd} {n : Int} {P : List Pl} {c : Int} (hP : Pv l n P c) (h : ∀ x ∈ P, Q x) (due : List Int) : ∀ x ∈ thRf l n P due, Q x := by
  unfold thRf
  rw [if_pos hP.ok]
  intro y hy
  obtain ⟨x, hm, rfl⟩ := List.mem_map.1 hy
  exact hQ.rf x due (hP.all x hm) (h x hm)
theorem QK.plL {Q : Pl → Prop} (hQ : QK Q) {D : List Int} {l : List Nd} {n c : Int} : ∀ (m : Nat) {s : List Pl × Nat}, Pv l n s.1 c → (∀ x ∈ s.1, Q x) → ∀ x ∈ (plL D l n c m s).1, Q x
  | 0, s, h, hs => hs
  | m + 1, s, h, hs => by
    rw [Go.Proofs.YtcnilpdlcmpbbaaGreat.plL]
    have h1 := plP_ok (D := D) (s := s) h
    have h2 : ∀ x ∈ plP D l n c s, Q x := by
      unfold plP
      split
      · rename_i e; exact hQ.sp' h hs (.inl e)
      · exact hs
    have h3 : ∀ x ∈ (plS D l n c s).1, Q x := by
      unfold plS
      split
      · exact hQ.rf' h1 h2 _
      · exact h2
    exact hQ.plL m (plS_ok h) h3
theorem lsN_zero : ∀ (c : List Int), (∀ i, 0 ≤ c.getD i 0) → ∀ n, lsN c 0 n = (c, 0) := fun c hc n => by
  induction n with
  | zero => rfl
  | succ n ih =>
    have h1 := hc (c.length - 1 - n)
    have : mn (c.getD (c.length - 1 - n) 0) 0 = 0 := by unfold mn; split <;> omega
    rw [lsN, ih]
    simp only [this, Int.sub_zero, set_self]
theorem pchg_self {x : Pl} (h : pck x = true) : pchange x x.q x.b = (x, 0) := by
  have h1 := (pck_iff.1 h).2.1
  have h2 := (nums h).h
  have h3 := (nums h).l
  have h4 : pov x x.q x.b = 0 := by
    unfold pov
    rw [if_neg (by show ¬ 0 < hld x - mst x; omega)]
  unfold pchange
  rw [if_neg (by simp [h]), if_neg (by simp [h1])]
  unfold pchg
  rw [h4]
  have h5 : mn x.l 0 = 0 := by unfold mn; split <;> omega
  simp only [h5, Int.sub_zero, lsN_zero x.c fun i => (pck_all h i).1]
def Qb (p : Pl) (q b : Int) : Prop := (q = p.q ∧ b = p.b) ∨ (lim p = true ∧ q = max (p.q - 1) 1 ∧ b = 0)
theorem Qb.st {p : Pl} {q b : Int} (h : Qb p q b) (hp : stl p.q p.b = true) (hq : p.q = 4611686018427387904 ∨ p.q ≤ 6) : stl q b = true := by
  rcases h with ⟨rfl, rfl⟩ | ⟨h1, rfl, rfl⟩
  · exact hp
  · rw [stl_iff] at hp ⊢
    unfold lim at h1
    have : p.q ≠ 4611686018427387904 := by simpa using h1
    right; omega
structure SyR (l : List Nd) (n : Int) (P : List Pl) (q b : List Int) (M : List Pl) (i : Nat) : Prop where
  ok : pck (gP M i) = true
  old : i < l.length → gtM P (gP M i).g = (gP P i, true) ∧ (gP M i).g ≠ n ∧ pck (gP P i) = true ∧ (if (gP P i).q = q.getD i 0 ∧ (gP P i).b = b.getD i 0 then gP M i = gP P i else hld (gP M i) = min (hld (gP P i)) (q.getD i 0 + b.getD i 0) ∧ 0 ≤ q.getD i 0 + b.getD i 0 ∧ q.getD i 0 + b.getD i 0 ≤ 1000 ∧ 0 ≤ b.getD i 0 ∧ b.getD i 0 ≤ 1000)
  new : ¬ i < l.length → (gP M i).g = n ∧ hld (gP M i) = (gP M i).q ∧ (gP M i).pe = 1
end Go.Proofs.YtcnilpdlcmpbbaaGreat
-- NEWGO
-- PRUNE: cl_lendx cl_use
-- ISG: Cs_isG
-- FLAT: Cs_flat
namespace Go.Proofs.YtcnilpdlcmpbbaaGreat
set_option linter.unusedVariables false
set_option linter.unusedSimpArgs false
open Go.Proofs.YtcnilpdlcmpbbaaGreat.Sh
set_option maxRecDepth 20000
set_option maxHeartbeats 16000000 in
theorem rthnew_own (l : List Nd) (n : Int) (q b : List Int) (s cp : Int) (kq kb : Option Nat) (hl : l.length ≤ 1000000) (hnm : NmR l) (hbr : ∀ x ∈ b, -9223372036854775808 ≤ x ∧ x ≤ 9223372036854775807)
    (hk : chkT l n = true) (c1 : q.length = l.length) (c2 : b.length = l.length) (hE : ∀ i, i < l.length → (nwE l q b s cp i).2 = 0) : FnSpec Tryz.prog 39 [trV l none n, gi q kq, gi b kb, i1 s, i1 cp] [] (.tup [.one (.osl 0 0 l.length none), i1 0]) [some ⟨Cs (nwN l q b s cp l.length), 10⟩] := by
  have h1 := trcheck_spec l none n hl hnm
  have hnl := nd_len l
  rw [hk] at h1
  have c1' : (q.length : Int) = (l.length : Int) := by omega
  have c2' : (b.length : Int) = (l.length : Int) := by omega
  refine fnspec_of mixed TT_ok TT_cl ⟨fun _ => false, fun _ => [], 0, fun _ => false, fun _ => false⟩ Tryz.func39 rfl (by kernel_rfl) rfl 70 rfl [.tmp 10, .tmp 11] rfl ?_
  simp only [go_sem, zaa, zai, zaj, zak, zam, zah, ↓reduceIte, reduceCtorEq, zac, zae, zan, zao, zap, decide_eq_true c1', decide_eq_true c2']
  repeat' (first
 | (apply cl_plain
    case hs => rfl
    case ha => (simp only [zaf, zag, prepV, prepC, idx, hpL', lookR, zaa, if_true, if_false]; rfl)
    case h => (first | exact h1 ..))
 | ((first | refine s1_id ?_ | refine swp_id ?_ | refine sops_id ?_ | refine s2_id ?_); simp only [decide_eq_true c1', decide_eq_true c2', go_sem, zaa, zai, zaj, zak, zam, zah, ↓reduceIte, reduceCtorEq, zac, zae, zan, zao, zap, zaO, zaQ, zaB, zaP, renO, bk, back, outUpsFrom, Ints_ren])
 | (intros; (try simp only [zau, zax, zat, zas, zaq, zar, decide_eq_true_eq, decide_eq_false_iff_not] at *); omega))
  refine w_loop (ι := Nat) (fun m => ⟨[(1, gi q kq), (2, gi b kb), (3, i1 s), (4, i1 cp), (5, .one (.optr 0 0)), (12, .one (.osl 1 0 m none)), (13, i1 m)], [(0, some ⟨[.gsl (Cs l) 0 l.length none, int n], 2⟩), (1, some ⟨Cs (nwN l q b s cp m), 10⟩)], 2⟩) (fun m => m ≤ l.length) (fun m => l.length - m) 0 ?_ (zaY _) ?_
  · (refine Imp.trans (imp_nilA _ _ 12 10 99 (by simp only []; omega) rfl) ?_)
    (refine imp_ren _ _ _ [(0, 0, ⟨[.gsl (Cs l) 0 l.length none, int n], 2⟩), (1, 99, ⟨[], 10⟩)] (by simp) (by simp) (by simp) (zaA rfl) ?_ rfl (by simp only [zab, zad, false_implies, implies_true, and_true, zaT, lookR, zaa, if_true, if_false, ↓reduceIte] <;> (repeat' apply zav) <;> (first | rfl | trivial)) (by simp only [zab, zad, false_implies, implies_true, and_true, true_and, flat_cons, flat_nil, flat_ints, flat_bools, flat_app, zaJ, and_self, eq_self_iff_true, zal]); simp only [zaf, zag, zab, zad, false_implies, implies_true, and_true, lk, slot, zaO, zaB, toN, zaa, if_true, if_false, ↓reduceIte, reduceCtorEq])
    all_goals ((repeat' apply zav) <;> (first | rfl | trivial))
  clear h1
  intro m hm
  simp only at hm ⊢
  rcases zbb m l.length with hlt | hge
  case inr =>
    have c : ¬ (m : Int) < (l.length : Int) := by omega
    obtain rfl : m = l.length := by omega
    generalize nwN l q b s cp l.length = R at *
    simp only [go_sem, zaa, zai, zaj, zak, zam, zah, ↓reduceIte, reduceCtorEq, zac, zae, zan, zao, zap, decide_eq_false c]
    repeat' (first
 | (intros; (try simp only [zau, zax, zat, zas, zaq, zar, decide_eq_true_eq, decide_eq_false_iff_not] at *); omega))
    (refine fs_flat [(1, ⟨Cs R, 10⟩)] (by simp) (by simp only [zaf, zag]; decide) (by simp only [go_sem, resV, resS, zaO, zaQ, zaB, zbj, zaT, idx, renO, zaP, evS, slot, lookR, zaa, ↓reduceIte, reduceCtorEq, if_true, if_false, zaR, zaS, zaf, zag, sLoad, readAt, readNeed, Ints_ren, Ints_length, Ints_getD, and_true, true_and, zaM, zaN]; try decide) ?_ (by simp only [zab, zad, false_implies, implies_true, and_true, zaT, lookR, zaa, if_true, if_false, ↓reduceIte, Cs_flat] <;> (repeat' apply zav) <;> (first | rfl | trivial)) (by simp only [zab, zad, false_implies, implies_true, and_true, true_and, flat_cons, flat_nil, flat_ints, flat_bools, flat_app, zaJ, and_self, eq_self_iff_true, zal, Cs_flat]) ?_ <;> (try simp only [go_sem, resV, resS, zaO, zaQ, zaB, zbj, zaT, idx, renO, zaP, evS, slot, lookR, zaa, ↓reduceIte, reduceCtorEq, if_true, if_false, zaR, zaS, zaf, zag, sLoad, readAt, readNeed, Ints_ren, Ints_length, Ints_getD, and_true, true_and, zaM, zaN]) <;> (try rfl))
  have c : (m : Int) < (l.length : Int) := by omega
  obtain ⟨g1, _⟩ := nd_f l m hlt (.sc (.int .i64 0))
  have hbm := hbr _ (getD_mem b m 0 (by omega))
  have h2 := rnew_spec (gN l m).i (q.getD m 0) (b.getD m 0) s cp hbm
  have hee : nwE l q b s cp m = pnew (gN l m).i (q.getD m 0) (b.getD m 0) s cp := rfl
  have he0 := hE m hlt
  have hsu := nwN_suc l q b s cp m
  rw [hee] at hsu he0
  have hcq : (m : Int) < (q.length : Int) := by omega
  have hcb : (m : Int) < (b.length : Int) := by omega
  generalize pnew (gN l m).i (q.getD m 0) (b.getD m 0) s cp = r at *
  obtain ⟨⟨s0, s1, s2, s3, s4, s5, s6, s7, s8, s9⟩, r2⟩ := r
  simp only at he0 hsu
  simp only [plc, plt, pre] at h2
  subst he0
  have hll := nwN_len l q b s cp m
  have htk : zbl (m * 10) (Cs (nwN l q b s cp m)) = Cs (nwN l q b s cp m) := Cs_all _ _ (by rw [hll]; exact zba _)
  have hpp : Cs (nwN l q b s cp m) ++ [int s0, int s1, int s2, int s3, int s4, .gsl (Ints s5) 0 s5.length none, int s6, int s7, int s8, .sc (.bool s9)] = Cs (nwN l q b s cp (m + 1)) := by
    rw [hsu]; exact Cs_snoc _ (⟨s0, s1, s2, s3, s4, s5, s6, s7, s8, s9⟩ : Pl)
  have hpc := pl_len (nwN l q b s cp m)
  rw [hll] at hpc
  generalize nwN l q b s cp m = C at *
  simp only [go_sem, zaa, zai, zaj, zak, zam, zah, ↓reduceIte, reduceCtorEq, zac, zae, zan, zao, zap, decide_eq_true c, g1]
  repeat' (first
 | with_reducible refine zav ?_ ?_
 | (unfold OKC; kernel_rfl)
 | (unfold EDG; kernel_rfl)
 | (apply cl_plain
    case hs => rfl
    case ha => (simp only [zaf, zag, prepV, prepC, idx, hpL', lookR, zaa, if_true, if_false]; rfl)
    case h => (first | exact h2 ..))
 | ((first | refine s1_id ?_ | refine swp_id ?_ | refine sops_id ?_ | refine s2_id ?_); simp only [decide_eq_true c, g1, htk, hpp, zaF, zaH, zal, zaG, zaI, zaD, zaE, zaC, zaK, zaL, zay, zaz, go_sem, zaa, zai, zaj, zak, zam, zah, ↓reduceIte, reduceCtorEq, zac, zae, zan, zao, zap, zaO, zaQ, zaB, zaP, renO, bk, back, outUpsFrom, Ints_ren])
 | (intros; omega)
 | (intros; (try simp only [zau, zax, zat, zas, zaq, zar, decide_eq_true_eq, decide_eq_false_iff_not] at *); omega))
  refine le_mk (m + 1) ?_ hlt (by omega)
  (refine imp_ren _ _ _ [(0, 0, ⟨[.gsl (Cs l) 0 l.length none, int n], 2⟩), (1, 35, ⟨Cs (nwN l q b s cp (m + 1)), 10⟩)] (by simp) (by simp) (by simp) (zaA rfl) ?_ rfl (by simp only [zab, zad, false_implies, implies_true, and_true, zaT, lookR, zaa, if_true, if_false, ↓reduceIte, Cs_flat] <;> (repeat' apply zav) <;> (first | rfl | trivial)) (by simp only [zab, zad, false_implies, implies_true, and_true, true_and, flat_cons, flat_nil, flat_ints, flat_bools, flat_app, zaJ, and_self, eq_self_iff_true, zal, Cs_flat]); simp only [zaf, zag, zab, zad, false_implies, implies_true, and_true, lk, slot, zaO, zaB, toN, zaa, if_true, if_false, ↓reduceIte, reduceCtorEq])
  all_goals ((repeat' apply zav) <;> (first | rfl | trivial | (simp only [zaw]; done) | (simp only [zaw]; rfl) | (simp only [zaw]; trivial)))
theorem sy_nw (l : List Nd) (P : List Pl) (q b : List Int) (s c : Int) (i : Nat) : (syE l P q b s c i).2 = 0 ↔ (nwE l q b s c i).2 = 0 := by
  rcases ixR_at (usb (gN l i).i s c) zpl P 0 with ⟨e1, _⟩ | ⟨k, e1, h2, h3, _⟩
  · unfold syE nwE
    rw [if_pos (by omega)]
  · have e : syE l P q b s c i = pchange (gP P k) (q.getD i 0) (b.getD i 0) := by
      unfold syE
      rw [e1, Nat.zero_add, if_neg (by omega), zaX]
    rw [e]
    obtain ⟨u1, u2, u3, u4⟩ := usb_iff.1 h3
    have u4' : pck (gP P k) = true := u4
    have hn := nums u4'
    have hsl : (gP P k).s = s := u2
    have hg : (gP P k).g = (gN l i).i := u1
    have hc : ((gP P k).c.length : Int) = c := u3
    unfold pchange
    rw [if_neg (by rw [u4']; decide)]
    cases hst : stl (q.getD i 0) (b.getD i 0) with
    | false =>
      rw [if_pos rfl]
      unfold nwE pnew
      rw [if_neg (by rw [zbi, wi_iff]; have := hn.len; omega)]
      have : pck (pn0 (gN l i).i (q.getD i 0) (b.getD i 0) s c) = false := by
        cases hp : pck (pn0 (gN l i).i (q.getD i 0) (b.getD i 0) s c) with
        | false => rfl
        | true =>
          have := (pck_iff.1 hp).2.1
          rw [show (pn0 (gN l i).i (q.getD i 0) (b.getD i 0) s c).q = q.getD i 0 from rfl, show (pn0 (gN l i).i (q.getD i 0) (b.getD i 0) s c).b = b.getD i 0 from rfl, hst] at this
          cases this
      rw [if_pos this]
    | true =>
      rw [if_neg (by decide)]
      unfold nwE
      have hgr := hn.g
      have hsr := hn.s
      have hlr := hn.len
      rw [(pn0_pck (g := (gN l i).i) (by omega) hst (s := s) (c := c) (by omega) (by omega)).1]
theorem nwE_g {l : List Nd} {q b : List Int} {s c : Int} {i : Nat} (h : (nwE l q b s c i).2 = 0) : (nwE l q b s c i).1.g = (gN l i).i := by
  unfold nwE pnew at h ⊢
  split at h
  · cases h
  · rename_i h1
    rw [if_neg h1]
    split at h
    · cases h
    · rename_i h2
      rw [if_neg h2]; rfl
def mxN (E F : Nat → Pl × Int) (N m : Nat) : List Pl := (List.range N).map fun j => if j < m then (E j).1 else (F j).1
theorem mxN_len (E F : Nat → Pl × Int) (N m : Nat) : (mxN E F N m).length = N := by simp [mxN]
theorem mxN_at (E F : Nat → Pl × Int) (N m i : Nat) (h : i < N) : gP (mxN E F N m) i = if i < m then (E i).1 else (F i).1 := by
  unfold mxN gP
  simp [List.getD_eq_getElem?_getD, h]
theorem mxN_set (E F : Nat → Pl × Int) (N m : Nat) (h : m < N) : (mxN E F N m).set m (E m).1 = mxN E F N (m + 1) := by
  unfold mxN
  apply List.ext_getElem
  · simp
  · intro i h1 h2
    rw [List.getElem_set]
    simp only [List.getElem_map, List.getElem_range]
    by_cases e : m = i
    · subst e; rw [if_pos rfl, if_pos (by omega)]
    · rw [if_neg e]
      by_cases e2 : i < m
      · rw [if_pos e2, if_pos (by omega)]
      · rw [if_neg e2, if_neg (by omega)]
theorem mxN_skip (E F : Nat → Pl × Int) (N m : Nat) (h : m < N) (he : (E m).1 = (F m).1) : mxN E F N m = mxN E F N (m + 1) := by
  have h1 := mxN_set E F N m h
  have h2 := mxN_at E F N m m h
  rw [if_neg (Nat.lt_irrefl _)] at h2
  rw [← h1, he, ← h2, pl_self]
set_option maxHeartbeats 64000000 in
theorem rthsync_spec (l : List Nd) (n : Int) (P : List Pl) (k : Option Nat) (q b : List Int) (s cp : Int) (kq kb : Option Nat) (hl : l.length ≤ 1000000) (hP : P.length ≤ 1000000) (hq : q.length ≤ 9223372036854775807) (hb : b.length ≤ 9223372036854775807) (hnm : NmR l) (hbr : ∀ x ∈ b, -9223372036854775808 ≤ x ∧ x ≤ 9223372036854775807) (hwk : ∀ x ∈ P, Wk x) : FnSpec Tryz.prog 28 [trV l none n, gr P k, gi q kq, gi b kb, i1 s, i1 cp] [] (.tup [gr (thSy l n P q b s cp).1 none, i1 (thSy l n P q b s cp).2]) [] := by
  have h0 := rthnew_spec l n q b s cp kq kb hl hq hb hnm hbr
  have hno : (thNw l n q b s cp).2 ≠ 0 → (thSy l n P q b s cp) = ([], (thNw l n q b s cp).2) := fun hne => by
    unfold thNw thSy at *
    by_cases h1 : (chkT l n && (decide (q.length = l.length) && decide (b.length = l.length))) = true
    · rw [if_pos h1] at hne ⊢
      rw [if_pos h1]
      have he : allN l.length (fun i => decide ((syE l P q b s cp i).2 = 0)) = allN l.length (fun i => decide ((nwE l q b s cp i).2 = 0)) := by
        congr 1; funext i; exact decide_eq_decide.2 (sy_nw l P q b s cp i)
      rw [he]
      by_cases h2 : allN l.length (fun i => decide ((nwE l q b s cp i).2 = 0)) = true
      · rw [if_pos h2] at hne; exact absurd rfl hne
      · rw [if_neg h2, if_neg h2]
    · rw [if_neg h1, if_neg h1]
  by_cases hz : (thNw l n q b s cp).2 = 0
  case neg =>
    rw [hno hz]
    generalize thNw l n q b s cp = r at *
    obtain ⟨r1, r2⟩ := r
    simp only at h0 hz
    refine fnspec_of mixed TT_ok TT_cl ⟨fun _ => false, fun _ => [], 0, fun _ => false, fun _ => false⟩ Tryz.func28 rfl (by kernel_rfl) rfl 108 rfl [.tmp 12, .tmp 13] rfl ?_
    simp only [go_sem, zaa, zai, zaj, zak, zam, zah, ↓reduceIte, reduceCtorEq, zac, zae, zan, zao, zap, decide_eq_false hz]
    repeat' (first
 | (apply cl_plain
    case hs => rfl
    case ha => (simp only [zaf, zag, prepV, prepC, idx, hpL', lookR, zaa, if_true, if_false]; rfl)
    case h => (first | exact h0 ..))
 | ((first | refine s1_id ?_ | refine swp_id ?_ | refine sops_id ?_ | refine s2_id ?_); simp only [decide_eq_false hz, go_sem, zaa, zai, zaj, zak, zam, zah, ↓reduceIte, reduceCtorEq, zac, zae, zan, zao, zap, zaO, zaQ, zaB, zaP, renO, bk, back, outUpsFrom, Ints_ren])
 | (intros; (try simp only [zau, zax, zat, zas, zaq, zar, decide_eq_true_eq, decide_eq_false_iff_not] at *); omega))
    repeat' (first
 | exact fs_w trivial (svw_of (zav cw_gnil (zav (cw_rfl _) trivial)))
 | fail)
  clear hno h0
  have h1 : (chkT l n && (decide (q.length = l.length) && decide (b.length = l.length))) = true := by
    cases h1 : (chkT l n && (decide (q.length = l.length) && decide (b.length = l.length))) with
    | true => rfl
    | false => unfold thNw at hz; rw [h1, if_neg zaV] at hz; cases hz
  have h2 : allN l.length (fun i => decide ((nwE l q b s cp i).2 = 0)) = true := by
    cases h2 : allN l.length (fun i => decide ((nwE l q b s cp i).2 = 0)) with
    | true => rfl
    | false => unfold thNw at hz; rw [if_pos h1, h2, if_neg zaV] at hz; cases hz
  have hE : ∀ i, i < l.length → (nwE l q b s cp i).2 = 0 := fun i hi => of_decide_eq_true ((allN_iff _ _).1 h2 i hi)
  have h3 : allN l.length (fun i => decide ((syE l P q b s cp i).2 = 0)) = true := (allN_iff _ _).2 fun i hi => decide_eq_true ((sy_nw l P q b s cp i).2 (hE i hi))
  have hS : thSy l n P q b s cp = (syN (syE l P q b s cp) l.length, 0) := by
    unfold thSy
    rw [if_pos h1, if_pos h3]
  rw [hS]
  simp only [zau, decide_eq_true_eq] at h1
  obtain ⟨hk, c1, c2⟩ := h1
  have n1 := rthnew_own l n q b s cp kq kb hl hnm hbr hk c1 c2 hE
  have hx0 : nwN l q b s cp l.length = mxN (syE l P q b s cp) (nwE l q b s cp) l.length 0 := by
    unfold nwN mxN
    congr 1
  have hxN : syN (syE l P q b s cp) l.length = mxN (syE l P q b s cp) (nwE l q b s cp) l.length l.length := by
    unfold syN mxN
    refine List.map_congr_left fun i hi => ?_
    rw [if_pos (List.mem_range.1 hi)]
  rw [hx0] at n1
  rw [hxN]
  have hpl := pl_len P
  have hGn : ∀ i, i < l.length → (nwE l q b s cp i).1.g = (gN l i).i := fun i hi => nwE_g (hE i hi)
  have hSy : ∀ i, syE l P q b s cp i = if ixR (usb (gN l i).i s cp) P 0 < 0 then nwE l q b s cp i else pchange (gP P (ixR (usb (gN l i).i s cp) P 0).toNat) (q.getD i 0) (b.getD i 0) := fun i => rfl
  have hSe : ∀ i, i < l.length → (syE l P q b s cp i).2 = 0 := fun i hi => (sy_nw l P q b s cp i).2 (hE i hi)
  clear hS hx0 hxN h2 h3 hz hE
  generalize hEE : syE l P q b s cp = E at *
  generalize nwE l q b s cp = F at *
  clear hEE
  refine fnspec_of mixed TT_ok TT_cl ⟨fun _ => false, fun _ => [], 0, fun _ => false, fun _ => false⟩ Tryz.func28 rfl (by kernel_rfl) rfl 108 rfl [.tmp 12, .tmp 13] rfl ?_
  simp only [go_sem, zaa, zai, zaj, zak, zam, zah, ↓reduceIte, reduceCtorEq, zac, zae, zan, zao, zap]
  repeat' (first
 | (apply cl_plain
    case hs => rfl
    case ha => (simp only [zaf, zag, prepV, prepC, idx, hpL', lookR, zaa, if_true, if_false]; rfl)
    case h => (first | exact n1 ..))
 | ((first | refine s1_id ?_ | refine swp_id ?_ | refine sops_id ?_ | refine s2_id ?_); simp only [go_sem, zaa, zai, zaj, zak, zam, zah, ↓reduceIte, reduceCtorEq, zac, zae, zan, zao, zap, zaO, zaQ, zaB, zaP, renO, bk, back, outUpsFrom, Ints_ren])
 | (intros; (try simp only [zau, zax, zat, zas, zaq, zar, decide_eq_true_eq, decide_eq_false_iff_not] at *); omega))
  refine w_loop (ι := Nat) (fun m => ⟨[(1, gr P k), (2, gi q kq), (3, gi b kb), (4, i1 s), (5, i1 cp), (14, .one (.osl 0 0 l.length none)), (16, i1 m)], [(0, some ⟨Cs (mxN E F l.length m), 10⟩)], 1⟩) (fun m => m ≤ l.length) (fun m => l.length - m) 0 ?_ (zaY _) ?_
  · (refine imp_ren _ _ _ [(0, 8, ⟨Cs (mxN E F l.length 0), 10⟩)] (by simp) (by simp) (by simp) (zaA rfl) ?_ rfl (by simp only [zab, zad, false_implies, implies_true, and_true, zaT, lookR, zaa, if_true, if_false, ↓reduceIte, Cs_flat] <;> (repeat' apply zav) <;> (first | rfl | trivial)) (by simp only [zab, zad, false_implies, implies_true, and_true, true_and, flat_cons, flat_nil, flat_ints, flat_bools, flat_app, zaJ, and_self, eq_self_iff_true, zal, Cs_flat]); simp only [zaf, zag, zab, zad, false_implies, implies_true, and_true, lk, slot, zaO, zaB, toN, zaa, if_true, if_false, ↓reduceIte, reduceCtorEq])
    all_goals ((repeat' apply zav) <;> (first | rfl | trivial))
  clear n1
  intro m hm
  simp only at hm ⊢
  rcases zbb m l.length with hlt | hge
  case inr =>
    have c : ¬ (m : Int) < (l.length : Int) := by omega
    obtain rfl : m = l.length := by omega
    have hRl := mxN_len E F l.length l.length
    generalize mxN E F l.length l.length = R at *
    simp only [go_sem, zaa, zai, zaj, zak, zam, zah, ↓reduceIte, reduceCtorEq, zac, zae, zan, zao, zap, decide_eq_false c]
    repeat' (first
 | (intros; (try simp only [zau, zax, zat, zas, zaq, zar, decide_eq_true_eq, decide_eq_false_iff_not] at *); omega))
    (refine fs_frz 0 ⟨Cs R, 10⟩ (by simp only [zaT, lookR, zaa, if_true, if_false, ↓reduceIte]) (by first | exact Ints_isG _ | exact Bools_isG _ | exact Cs_isG _ | (simp [zbd]; done)) ?_; simp only [frzTm, SV.frz, zbh, zbc, frzHp, frzO, Ints_frz, Bools_frz, zaf, zag, zaa, if_true, if_false, ↓reduceIte])
    apply fs_nil <;> (try simp only [go_sem, resV, resS, zaO, zaQ, zaB, zbj, zaT, idx, renO, zaP, evS, slot, lookR, zaa, ↓reduceIte, reduceCtorEq, if_true, if_false, zaR, zaS, zaf, zag, sLoad, readAt, readNeed, Ints_ren, Ints_length, Ints_getD, and_true, true_and, zaM, zaN]) <;> (try rfl)
    show SV.tup [.one (.gsl (Cs R) 0 l.length none), i1 0] = SV.tup [.one (.gsl (Cs R) 0 R.length none), i1 0]
    rw [hRl]
  have c : (m : Int) < (l.length : Int) := by omega
  have hml := mxN_len E F l.length m
  have hmp := pl_len (mxN E F l.length m)
  rw [hml] at hmp
  have q0 := pl_f0 (mxN E F l.length m) m (by omega) (.sc (.int .i64 0))
  rw [mxN_at E F l.length m m hlt, if_neg (Nat.lt_irrefl _), hGn m hlt] at q0
  have hset := mxN_set E F l.length m hlt
  have hskip := mxN_skip E F l.length m hlt
  have hES := hSy m
  have hE0 := hSe m hlt
  have hpst := pl_set (mxN E F l.length m) m (E m).1 (by omega)
  rw [hset] at hpst
  have hqm : (m : Int) < (q.length : Int) := by omega
  have hbm : (m : Int) < (b.length : Int) := by omega
  have hbb := hbr _ (getD_mem b m 0 (by omega))
  have hgen : ixR (usb (gN l m).i s cp) P 0 < 0 → mxN E F l.length m = mxN E F l.length (m + 1) := fun h => hskip (by rw [hES, if_pos h])
  clear hset hskip hSy hSe hGn
  change putAt (Cs (mxN E F l.length m)) (m * 10) (plc (E m).1 none) = Cs (mxN E F l.length (m + 1)) at hpst
  simp only [go_sem, zaa, zai, zaj, zak, zam, zah, ↓reduceIte, reduceCtorEq, zac, zae, zan, zao, zap, decide_eq_true c]
  repeat' (first
 | (intros; (try simp only [zau, zax, zat, zas, zaq, zar, decide_eq_true_eq, decide_eq_false_iff_not] at *); omega))
  refine w_loop (ι := Nat) (fun j => ⟨[(1, gr P k), (2, gi q kq), (3, gi b kb), (4, i1 s), (5, i1 cp), (14, .one (.osl 0 0 l.length none)), (16, i1 m), (17, i1 j)], [(0, some ⟨Cs (mxN E F l.length m), 10⟩)], 1⟩) (fun j => j ≤ P.length ∧ ∀ i, i < j → usb (gN l m).i s cp (gP P i) = false) (fun j => P.length - j) 0 ?_ ⟨zaY _, fun i hi => absurd hi (Nat.not_lt_zero _)⟩ ?_
  · (refine imp_ren _ _ _ [(0, 0, ⟨Cs (mxN E F l.length m), 10⟩)] (by simp) (by simp) (by simp) (zaA rfl) ?_ rfl (by simp only [zab, zad, false_implies, implies_true, and_true, zaT, lookR, zaa, if_true, if_false, ↓reduceIte, Cs_flat] <;> (repeat' apply zav) <;> (first | rfl | trivial)) (by simp only [zab, zad, false_implies, implies_true, and_true, true_and, flat_cons, flat_nil, flat_ints, flat_bools, flat_app, zaJ, and_self, eq_self_iff_true, zal, Cs_flat]); simp only [zaf, zag, zab, zad, false_implies, implies_true, and_true, lk, slot, zaO, zaB, toN, zaa, if_true, if_false, ↓reduceIte, reduceCtorEq])
    all_goals ((repeat' apply zav) <;> (first | rfl | trivial))
  rintro j ⟨hj, hjN⟩
  simp only at hj hjN ⊢
  rcases zbb j P.length with hjl | hjg
  case inr =>
    have c3 : ¬ (j : Int) < (P.length : Int) := by omega
    have hx : ixR (usb (gN l m).i s cp) P 0 < 0 := by
      rcases ixR_at (usb (gN l m).i s cp) zpl P 0 with ⟨e1, _⟩ | ⟨t, e1, ht, h3, _⟩
      · omega
      · have := hjN t (by omega)
        rw [show usb (gN l m).i s cp (gP P t) = true from h3] at this; cases this
    have hR := hgen hx
    simp only [go_sem, zaa, zai, zaj, zak, zam, zah, ↓reduceIte, reduceCtorEq, zac, zae, zan, zao, zap, decide_eq_false c3]
    repeat' (first
 | with_reducible refine zav ?_ ?_
 | (intros; omega)
 | (intros; (try simp only [zau, zax, zat, zas, zaq, zar, decide_eq_true_eq, decide_eq_false_iff_not] at *); omega))
    refine le_mk (m + 1) ?_ hlt (by omega)
    simp only [← hR]
    (refine imp_ren _ _ _ [(0, 0, ⟨Cs (mxN E F l.length m), 10⟩)] (by simp) (by simp) (by simp) (zaA rfl) ?_ rfl (by simp only [zab, zad, false_implies, implies_true, and_true, zaT, lookR, zaa, if_true, if_false, ↓reduceIte, Cs_flat] <;> (repeat' apply zav) <;> (first | rfl | trivial)) (by simp only [zab, zad, false_implies, implies_true, and_true, true_and, flat_cons, flat_nil, flat_ints, flat_bools, flat_app, zaJ, and_self, eq_self_iff_true, zal, Cs_flat]); simp only [zaf, zag, zab, zad, false_implies, implies_true, and_true, lk, slot, zaO, zaB, toN, zaa, if_true, if_false, ↓reduceIte, reduceCtorEq])
    all_goals ((repeat' apply zav) <;> (first | rfl | trivial | (simp only [zaw]; done) | (simp only [zaw]; rfl) | (simp only [zaw]; trivial)))
  have c3 : (j : Int) < (P.length : Int) := by omega
  have hT := pl_td P j hjl
  have hwj := hwk _ (getD_mem P j zpl hjl)
  have hck := rchk_spec (gP P j) none hwj
  have hus : usb (gN l m).i s cp (gP P j) = (decide ((gP P j).g = (gN l m).i) && (decide ((gP P j).s = s) && (decide (((gP P j).c.length : Int) = cp) && pck (gP P j)))) := rfl
  have hjN2 : usb (gN l m).i s cp (gP P j) = false → ∀ i, i < j + 1 → usb (gN l m).i s cp (gP P i) = false := fun h i hi => by
    rcases Nat.lt_succ_iff_lt_or_eq.1 hi with h1 | h1
    · exact hjN i h1
    · rw [h1]; exact h
  have hyes : usb (gN l m).i s cp (gP P j) = true → E m = pchange (gP P j) (q.getD m 0) (b.getD m 0) := fun h => by
    rcases ixR_at (usb (gN l m).i s cp) zpl P 0 with ⟨_, e2⟩ | ⟨t, e1, ht, h3, h4⟩
    · have := e2 (gP P j) (getD_mem P j zpl hjl)
      rw [h] at this; cases this
    · have htj : t = j := by
        rcases Nat.lt_trichotomy t j with h5 | h5 | h5
        · have := hjN t h5
          rw [show usb (gN l m).i s cp (gP P t) = true from h3] at this; cases this
        · exact h5
        · have := h4 j h5
          rw [show usb (gN l m).i s cp (P.getD j zpl) = true from h] at this; cases this
      rw [hES, e1, Nat.zero_add, if_neg (by omega), zaX, htj]
  have hch := rchange_spec (gP P j) none (q.getD m 0) (b.getD m 0) hwj hbb
  have hslf : pck (gP P j) = true → pchange (gP P j) (gP P j).q (gP P j).b = (gP P j, 0) := fun h => pchg_self h
  have hpl16 : pck (gP P j) = true → (gP P j).c.length ≤ 1000 := fun h => pck_len h
  have hcpX := rcopyG_spec (gP P j) hwj.len
  have hplen : (pchange (gP P j) (q.getD m 0) (b.getD m 0)).1.c.length ≤ 1000 := by
    have := hwj.len
    unfold pchange
    repeat' split
    · show (0 : Nat) ≤ 1000; omega
    · show (0 : Nat) ≤ 1000; omega
    · simp only [pchg, lsN_len]; exact this
  have hcp2 := rcopyG_spec (pchange (gP P j) (q.getD m 0) (b.getD m 0)).1 hplen
  clear hplen hpl16
  generalize hpk : pck (gP P j) = pk at *
  generalize hx : gP P j = x at *
  obtain ⟨a0, a1, a2, a3, a4, a5, a6, a7, a8, a9⟩ := x
  generalize (gN l m).i = idn at *
  simp only at hus hslf
  simp only [plc, plt] at hT hck hcpX hch
  by_cases k0 : a0 = idn
  case neg =>
    rw [decide_eq_false k0] at hus
    simp only [go_sem, zaa, zai, zaj, zak, zam, zah, ↓reduceIte, reduceCtorEq, zac, zae, zan, zao, zap, decide_eq_true c3, hT, q0, decide_eq_false k0]
    repeat' (first
 | with_reducible refine zav ?_ ?_
 | (unfold OKC; kernel_rfl)
 | (unfold EDG; kernel_rfl)
 | (intros; omega)
 | (intros; (try simp only [zau, zax, zat, zas, zaq, zar, decide_eq_true_eq, decide_eq_false_iff_not] at *); omega))
    refine le_mk (j + 1) ?_ ⟨hjl, hjN2 (by first | (rw [hus]; done) | (rw [hus]; rfl))⟩ (by show P.length - (j + 1) < P.length - j; omega)
    (refine imp_ren _ _ _ [(0, 0, ⟨Cs (mxN E F l.length m), 10⟩)] (by simp) (by simp) (by simp) (zaA rfl) ?_ rfl (by simp only [zab, zad, false_implies, implies_true, and_true, zaT, lookR, zaa, if_true, if_false, ↓reduceIte, Cs_flat] <;> (repeat' apply zav) <;> (first | rfl | trivial)) (by simp only [zab, zad, false_implies, implies_true, and_true, true_and, flat_cons, flat_nil, flat_ints, flat_bools, flat_app, zaJ, and_self, eq_self_iff_true, zal, Cs_flat]); simp only [zaf, zag, zab, zad, false_implies, implies_true, and_true, lk, slot, zaO, zaB, toN, zaa, if_true, if_false, ↓reduceIte, reduceCtorEq])
    all_goals ((repeat' apply zav) <;> (first | rfl | trivial | (simp only [zaw]; done) | (simp only [zaw]; rfl) | (simp only [zaw]; trivial)))
  rw [decide_eq_true k0, zbf] at hus
  cases pk with
  | false =>
    rw [Bool.and_false, Bool.and_false] at hus
    simp only [go_sem, zaa, zai, zaj, zak, zam, zah, ↓reduceIte, reduceCtorEq, zac, zae, zan, zao, zap, decide_eq_true c3, hT, q0, decide_eq_true k0]
    repeat' (first
 | with_reducible refine zav ?_ ?_
 | (unfold OKC; kernel_rfl)
 | (unfold EDG; kernel_rfl)
 | (apply cg_tp
    case hl => rfl
    case ha => (simp only [zaf, zag, prepV, prepC, idx, hpL', lookR, zaa, if_true, if_false]; rfl)
    case hs => rfl
    case h => (first | exact hck ..))
 | ((first | refine s1_id ?_ | refine swp_id ?_ | refine sops_id ?_ | refine s2_id ?_); simp only [decide_eq_true c3, hT, q0, decide_eq_true k0, zaF, zaH, zal, zaG, zaI, zaD, zaE, zaC, zaK, zaL, zay, zaz, go_sem, zaa, zai, zaj, zak, zam, zah, ↓reduceIte, reduceCtorEq, zac, zae, zan, zao, zap, zaO, zaQ, zaB, zaP, renO, bk, back, outUpsFrom, Ints_ren])
 | (intros; omega)
 | (intros; (try simp only [zau, zax, zat, zas, zaq, zar, decide_eq_true_eq, decide_eq_false_iff_not] at *); omega))
    refine le_mk (j + 1) ?_ ⟨hjl, hjN2 (by first | (rw [hus]; done) | (rw [hus]; rfl))⟩ (by show P.length - (j + 1) < P.length - j; omega)
    (refine imp_ren _ _ _ [(0, 0, ⟨Cs (mxN E F l.length m), 10⟩)] (by simp) (by simp) (by simp) (zaA rfl) ?_ rfl (by simp only [zab, zad, false_implies, implies_true, and_true, zaT, lookR, zaa, if_true, if_false, ↓reduceIte, Cs_flat] <;> (repeat' apply zav) <;> (first | rfl | trivial)) (by simp only [zab, zad, false_implies, implies_true, and_true, true_and, flat_cons, flat_nil, flat_ints, flat_bools, flat_app, zaJ, and_self, eq_self_iff_true, zal, Cs_flat]); simp only [zaf, zag, zab, zad, false_implies, implies_true, and_true, lk, slot, zaO, zaB, toN, zaa, if_true, if_false, ↓reduceIte, reduceCtorEq])
    all_goals ((repeat' apply zav) <;> (first | rfl | trivial | (simp only [zaw]; done) | (simp only [zaw]; rfl) | (simp only [zaw]; trivial)))
  | true =>
  by_cases k2 : a3 = s
  case neg =>
    rw [decide_eq_false k2] at hus
    simp only [go_sem, zaa, zai, zaj, zak, zam, zah, ↓reduceIte, reduceCtorEq, zac, zae, zan, zao, zap, decide_eq_true c3, hT, q0, decide_eq_true k0, decide_eq_false k2]
    repeat' (first
 | with_reducible refine zav ?_ ?_
 | (unfold OKC; kernel_rfl)
 | (unfold EDG; kernel_rfl)
 | (apply cg_tp
    case hl => rfl
    case ha => (simp only [zaf, zag, prepV, prepC, idx, hpL', lookR, zaa, if_true, if_false]; rfl)
    case hs => rfl
    case h => (first | exact hck ..))
 | ((first | refine s1_id ?_ | refine swp_id ?_ | refine sops_id ?_ | refine s2_id ?_); simp only [decide_eq_true c3, hT, q0, decide_eq_true k0, decide_eq_false k2, zaF, zaH, zal, zaG, zaI, zaD, zaE, zaC, zaK, zaL, zay, zaz, go_sem, zaa, zai, zaj, zak, zam, zah, ↓reduceIte, reduceCtorEq, zac, zae, zan, zao, zap, zaO, zaQ, zaB, zaP, renO, bk, back, outUpsFrom, Ints_ren])
 | (intros; omega)
 | (intros; (try simp only [zau, zax, zat, zas, zaq, zar, decide_eq_true_eq, decide_eq_false_iff_not] at *); omega))
    refine le_mk (j + 1) ?_ ⟨hjl, hjN2 (by first | (rw [hus]; done) | (rw [hus]; rfl))⟩ (by show P.length - (j + 1) < P.length - j; omega)
    (refine imp_ren _ _ _ [(0, 0, ⟨Cs (mxN E F l.length m), 10⟩)] (by simp) (by simp) (by simp) (zaA rfl) ?_ rfl (by simp only [zab, zad, false_implies, implies_true, and_true, zaT, lookR, zaa, if_true, if_false, ↓reduceIte, Cs_flat] <;> (repeat' apply zav) <;> (first | rfl | trivial)) (by simp only [zab, zad, false_implies, implies_true, and_true, true_and, flat_cons, flat_nil, flat_ints, flat_bools, flat_app, zaJ, and_self, eq_self_iff_true, zal, Cs_flat]); simp only [zaf, zag, zab, zad, false_implies, implies_true, and_true, lk, slot, zaO, zaB, toN, zaa, if_true, if_false, ↓reduceIte, reduceCtorEq])
    all_goals ((repeat' apply zav) <;> (first | rfl | trivial | (simp only [zaw]; done) | (simp only [zaw]; rfl) | (simp only [zaw]; trivial)))
  by_cases k3 : (a5.length : Int) = cp
  case neg =>
    rw [decide_eq_false k3, Bool.false_and, Bool.and_false] at hus
    simp only [go_sem, zaa, zai, zaj, zak, zam, zah, ↓reduceIte, reduceCtorEq, zac, zae, zan, zao, zap, decide_eq_true c3, hT, q0, decide_eq_true k0, decide_eq_true k2, decide_eq_false k3]
    repeat' (first
 | with_reducible refine zav ?_ ?_
 | (unfold OKC; kernel_rfl)
 | (unfold EDG; kernel_rfl)
 | (apply cg_tp
    case hl => rfl
    case ha => (simp only [zaf, zag, prepV, prepC, idx, hpL', lookR, zaa, if_true, if_false]; rfl)
    case hs => rfl
    case h => (first | exact hck ..))
 | ((first | refine s1_id ?_ | refine swp_id ?_ | refine sops_id ?_ | refine s2_id ?_); simp only [decide_eq_true c3, hT, q0, decide_eq_true k0, decide_eq_true k2, decide_eq_false k3, zaF, zaH, zal, zaG, zaI, zaD, zaE, zaC, zaK, zaL, zay, zaz, go_sem, zaa, zai, zaj, zak, zam, zah, ↓reduceIte, reduceCtorEq, zac, zae, zan, zao, zap, zaO, zaQ, zaB, zaP, renO, bk, back, outUpsFrom, Ints_ren])
 | (intros; omega)
 | (intros; (try simp only [zau, zax, zat, zas, zaq, zar, decide_eq_true_eq, decide_eq_false_iff_not] at *); omega))
    refine le_mk (j + 1) ?_ ⟨hjl, hjN2 (by first | (rw [hus]; done) | (rw [hus]; rfl))⟩ (by show P.length - (j + 1) < P.length - j; omega)
    (refine imp_ren _ _ _ [(0, 0, ⟨Cs (mxN E F l.length m), 10⟩)] (by simp) (by simp) (by simp) (zaA rfl) ?_ rfl (by simp only [zab, zad, false_implies, implies_true, and_true, zaT, lookR, zaa, if_true, if_false, ↓reduceIte, Cs_flat] <;> (repeat' apply zav) <;> (first | rfl | trivial)) (by simp only [zab, zad, false_implies, implies_true, and_true, true_and, flat_cons, flat_nil, flat_ints, flat_bools, flat_app, zaJ, and_self, eq_self_iff_true, zal, Cs_flat]); simp only [zaf, zag, zab, zad, false_implies, implies_true, and_true, lk, slot, zaO, zaB, toN, zaa, if_true, if_false, ↓reduceIte, reduceCtorEq])
    all_goals ((repeat' apply zav) <;> (first | rfl | trivial | (simp only [zaw]; done) | (simp only [zaw]; rfl) | (simp only [zaw]; trivial)))
  rw [decide_eq_true k2, decide_eq_true k3] at hus
  have hEm := hyes hus
  clear hyes hjN2 hus hgen hES
  by_cases k4 : a1 = q.getD m 0
  · by_cases k5 : a2 = b.getD m 0
    · have hEx := hslf rfl
      rw [k4, k5] at hEx
      rw [hEm, k4, k5, hEx] at hpst
      simp only [plc, ← k4, ← k5] at hpst
      have hcp := hcpX
      simp only [go_sem, zaa, zai, zaj, zak, zam, zah, ↓reduceIte, reduceCtorEq, zac, zae, zan, zao, zap, decide_eq_true c3, hT, q0, decide_eq_true k0, decide_eq_true k2, decide_eq_true k3, decide_eq_true k4, decide_eq_true k5, hpst]
      repeat' (first
 | with_reducible refine zav ?_ ?_
 | (unfold OKC; kernel_rfl)
 | (unfold EDG; kernel_rfl)
 | (apply cg_tp
    case hl => rfl
    case ha => (simp only [zaf, zag, prepV, prepC, idx, hpL', lookR, zaa, if_true, if_false]; rfl)
    case hs => rfl
    case h => (first | exact hck .. | exact hch .. | exact hcp ..))
 | (apply cl_plain
    case hs => rfl
    case ha => (simp only [zaf, zag, prepV, prepC, idx, hpL', lookR, zaa, if_true, if_false]; rfl)
    case h => (first | exact hck .. | exact hch .. | exact hcp ..))
 | ((first | refine s1_id ?_ | refine swp_id ?_ | refine sops_id ?_ | refine s2_id ?_); simp only [decide_eq_true c3, hT, q0, decide_eq_true k0, decide_eq_true k2, decide_eq_true k3, decide_eq_true k4, decide_eq_true k5, hpst, zaF, zaH, zal, zaG, zaI, zaD, zaE, zaC, zaK, zaL, zay, zaz, go_sem, zaa, zai, zaj, zak, zam, zah, ↓reduceIte, reduceCtorEq, zac, zae, zan, zao, zap, zaO, zaQ, zaB, zaP, renO, bk, back, outUpsFrom, Ints_ren])
 | (intros; omega)
 | (intros; (try simp only [zau, zax, zat, zas, zaq, zar, decide_eq_true_eq, decide_eq_false_iff_not] at *); omega))
      refine le_mk (m + 1) ?_ hlt (by show l.length - (m + 1) < l.length - m; omega)
      (refine imp_ren _ _ _ [(0, 0, ⟨Cs (mxN E F l.length (m + 1)), 10⟩)] (by simp) (by simp) (by simp) (zaA rfl) ?_ rfl (by simp only [zab, zad, false_implies, implies_true, and_true, zaT, lookR, zaa, if_true, if_false, ↓reduceIte, Cs_flat] <;> (repeat' apply zav) <;> (first | rfl | trivial)) (by simp only [zab, zad, false_implies, implies_true, and_true, true_and, flat_cons, flat_nil, flat_ints, flat_bools, flat_app, zaJ, and_self, eq_self_iff_true, zal, Cs_flat]); simp only [zaf, zag, zab, zad, false_implies, implies_true, and_true, lk, slot, zaO, zaB, toN, zaa, if_true, if_false, ↓reduceIte, reduceCtorEq])
      all_goals ((repeat' apply zav) <;> (first | rfl | trivial | (simp only [zaw]; done) | (simp only [zaw]; rfl) | (simp only [zaw]; trivial)))
    · rw [hEm] at hpst
      have hcp := hcp2
      clear hcpX hslf hcp2
      generalize pchange ⟨a0, a1, a2, a3, a4, a5, a6, a7, a8, a9⟩ (q.getD m 0) (b.getD m 0) = r at *
      obtain ⟨⟨s0, s1, s2, s3, s4, s5, s6, s7, s8, s9⟩, r2⟩ := r
      simp only [plc, plt, pre] at hpst hcp hch
      simp only [go_sem, zaa, zai, zaj, zak, zam, zah, ↓reduceIte, reduceCtorEq, zac, zae, zan, zao, zap, decide_eq_true c3, hT, q0, decide_eq_true k0, decide_eq_true k2, decide_eq_true k3, decide_eq_true k4, decide_eq_false k5, hpst]
      repeat' (first
 | with_reducible refine zav ?_ ?_
 | (unfold OKC; kernel_rfl)
 | (unfold EDG; kernel_rfl)
 | (apply cg_tp
    case hl => rfl
    case ha => (simp only [zaf, zag, prepV, prepC, idx, hpL', lookR, zaa, if_true, if_false]; rfl)
    case hs => rfl
    case h => (first | exact hck .. | exact hch .. | exact hcp ..))
 | (apply cl_plain
    case hs => rfl
    case ha => (simp only [zaf, zag, prepV, prepC, idx, hpL', lookR, zaa, if_true, if_false]; rfl)
    case h => (first | exact hck .. | exact hch .. | exact hcp ..))
 | ((first | refine s1_id ?_ | refine swp_id ?_ | refine sops_id ?_ | refine s2_id ?_); simp only [decide_eq_true c3, hT, q0, decide_eq_true k0, decide_eq_true k2, decide_eq_true k3, decide_eq_true k4, decide_eq_false k5, hpst, zaF, zaH, zal, zaG, zaI, zaD, zaE, zaC, zaK, zaL, zay, zaz, go_sem, zaa, zai, zaj, zak, zam, zah, ↓reduceIte, reduceCtorEq, zac, zae, zan, zao, zap, zaO, zaQ, zaB, zaP, renO, bk, back, outUpsFrom, Ints_ren])
 | (intros; omega)
 | (intros; (try simp only [zau, zax, zat, zas, zaq, zar, decide_eq_true_eq, decide_eq_false_iff_not] at *); omega))
      refine le_mk (m + 1) ?_ hlt (by show l.length - (m + 1) < l.length - m; omega)
      (refine imp_ren _ _ _ [(0, 0, ⟨Cs (mxN E F l.length (m + 1)), 10⟩)] (by simp) (by simp) (by simp) (zaA rfl) ?_ rfl (by simp only [zab, zad, false_implies, implies_true, and_true, zaT, lookR, zaa, if_true, if_false, ↓reduceIte, Cs_flat] <;> (repeat' apply zav) <;> (first | rfl | trivial)) (by simp only [zab, zad, false_implies, implies_true, and_true, true_and, flat_cons, flat_nil, flat_ints, flat_bools, flat_app, zaJ, and_self, eq_self_iff_true, zal, Cs_flat]); simp only [zaf, zag, zab, zad, false_implies, implies_true, and_true, lk, slot, zaO, zaB, toN, zaa, if_true, if_false, ↓reduceIte, reduceCtorEq])
      all_goals ((repeat' apply zav) <;> (first | rfl | trivial | (simp only [zaw]; done) | (simp only [zaw]; rfl) | (simp only [zaw]; trivial)))
  · rw [hEm] at hpst
    have hcp := hcp2
    clear hcpX hslf hcp2
    generalize pchange ⟨a0, a1, a2, a3, a4, a5, a6, a7, a8, a9⟩ (q.getD m 0) (b.getD m 0) = r at *
    obtain ⟨⟨s0, s1, s2, s3, s4, s5, s6, s7, s8, s9⟩, r2⟩ := r
    simp only [plc, plt, pre] at hpst hcp hch
    simp only [go_sem, zaa, zai, zaj, zak, zam, zah, ↓reduceIte, reduceCtorEq, zac, zae, zan, zao, zap, decide_eq_true c3, hT, q0, decide_eq_true k0, decide_eq_true k2, decide_eq_true k3, decide_eq_false k4, hpst]
    repeat' (first
 | with_reducible refine zav ?_ ?_
 | (unfold OKC; kernel_rfl)
 | (unfold EDG; kernel_rfl)
 | (apply cg_tp
    case hl => rfl
    case ha => (simp only [zaf, zag, prepV, prepC, idx, hpL', lookR, zaa, if_true, if_false]; rfl)
    case hs => rfl
    case h => (first | exact hck .. | exact hch .. | exact hcp ..))
 | (apply cl_plain
    case hs => rfl
    case ha => (simp only [zaf, zag, prepV, prepC, idx, hpL', lookR, zaa, if_true, if_false]; rfl)
    case h => (first | exact hck .. | exact hch .. | exact hcp ..))
 | ((first | refine s1_id ?_ | refine swp_id ?_ | refine sops_id ?_ | refine s2_id ?_); simp only [decide_eq_true c3, hT, q0, decide_eq_true k0, decide_eq_true k2, decide_eq_true k3, decide_eq_false k4, hpst, zaF, zaH, zal, zaG, zaI, zaD, zaE, zaC, zaK, zaL, zay, zaz, go_sem, zaa, zai, zaj, zak, zam, zah, ↓reduceIte, reduceCtorEq, zac, zae, zan, zao, zap, zaO, zaQ, zaB, zaP, renO, bk, back, outUpsFrom, Ints_ren])
 | (intros; omega)
 | (intros; (try simp only [zau, zax, zat, zas, zaq, zar, decide_eq_true_eq, decide_eq_false_iff_not] at *); omega))
    refine le_mk (m + 1) ?_ hlt (by show l.length - (m + 1) < l.length - m; omega)
    (refine imp_ren _ _ _ [(0, 0, ⟨Cs (mxN E F l.length (m + 1)), 10⟩)] (by simp) (by simp) (by simp) (zaA rfl) ?_ rfl (by simp only [zab, zad, false_implies, implies_true, and_true, zaT, lookR, zaa, if_true, if_false, ↓reduceIte, Cs_flat] <;> (repeat' apply zav) <;> (first | rfl | trivial)) (by simp only [zab, zad, false_implies, implies_true, and_true, true_and, flat_cons, flat_nil, flat_ints, flat_bools, flat_app, zaJ, and_self, eq_self_iff_true, zal, Cs_flat]); simp only [zaf, zag, zab, zad, false_implies, implies_true, and_true, lk, slot, zaO, zaB, toN, zaa, if_true, if_false, ↓reduceIte, reduceCtorEq])
    all_goals ((repeat' apply zav) <;> (first | rfl | trivial | (simp only [zaw]; done) | (simp only [zaw]; rfl) | (simp only [zaw]; trivial)))
end Go.Proofs.YtcnilpdlcmpbbaaGreat
-- NEWGO
-- PRUNE: cl_lendx cl_use
-- ISG: Cs_isG
-- FLAT: Cs_flat
namespace Go.Proofs.YtcnilpdlcmpbbaaGreat
set_option linter.unusedVariables false
set_option linter.unusedSimpArgs false
open Go.Proofs.YtcnilpdlcmpbbaaGreat.Sh
set_option maxRecDepth 20000
abbrev plk (x : Pl) (c : Cell) : List Cell := [int x.g, int x.q, int x.b, int x.s, int x.l, c, int x.sp, int x.pe, int x.th, bool x.em]
def kcm (L : List Pl) (t : Nat) (c : Cell) (m : Nat) : List Cell := Cs (L.take t) ++ (plk (gP L t) c ++ Cs ((L.take m).drop (t + 1)))
theorem kcm_len (L : List Pl) (t : Nat) (c : Cell) (m : Nat) (ht : t < m) (hm : m ≤ L.length) : (kcm L t c m).length = m * 10 := by
  unfold kcm
  rw [List.length_append, List.length_append, pl_len, pl_len, zaW, zbk, zaW]
  simp only [plk, zay, zaz]
  omega
theorem kcm_first (L : List Pl) (t : Nat) (c : Cell) (ht : t < L.length) : kcm L t c (t + 1) = Cs (L.take t) ++ plk (gP L t) c := by
  unfold kcm
  rw [List.drop_of_length_le (by rw [zaW]; omega)]
  simp [Cs]
theorem kcm_snoc (L : List Pl) (t : Nat) (c : Cell) (m : Nat) (ht : t < m) (hm : m < L.length) : kcm L t c m ++ plc (gP L m) none = kcm L t c (m + 1) := by
  unfold kcm
  rw [take_getD L m zpl hm, List.drop_append_of_le_length (by rw [zaW]; omega), List.append_assoc, List.append_assoc]
  congr 2
  exact Cs_snoc _ _
theorem kcm_ren (L : List Pl) (t : Nat) (c : Cell) (m : Nat) (ρ : Nat → Option Nat) : (kcm L t c m).map (zaB ρ) = kcm L t (c.ren ρ) m := by
  unfold kcm
  rw [List.map_append, List.map_append, Cs_ren, Cs_ren]
  rfl
theorem kcm_frz (L : List Pl) (t : Nat) (c : Cell) (m r : Nat) (cs : List Cell) : (kcm L t c m).map (zbc r cs) = kcm L t (c.frz r cs) m := by
  unfold kcm
  rw [List.map_append, List.map_append, Cs_frz, Cs_frz]
  rfl
theorem kcm_getD (L : List Pl) (t : Nat) (c : Cell) (m : Nat) (ht : t < L.length) (d : Cell) : (kcm L t c m).getD (t * 10 + 5) d = c := by
  unfold kcm
  have h : (Cs (L.take t)).length = t * 10 := by rw [pl_len, zaW]; omega
  rw [List.getD_eq_getElem?_getD, List.getElem?_append_right (by omega), h, Nat.add_sub_cancel_left]
  rfl
theorem kcm_set (L : List Pl) (t : Nat) (c c' : Cell) (m : Nat) (ht : t < L.length) : (kcm L t c m).set (t * 10 + 5) c' = kcm L t c' m := by
  unfold kcm
  have h : (Cs (L.take t)).length = t * 10 := by rw [pl_len, zaW]; omega
  rw [List.set_append_right _ _ (by omega), h, Nat.add_sub_cancel_left]
  rfl
theorem kcm_all (L : List Pl) (t : Nat) (ht : t < L.length) (c : List Int) : kcm L t (.gsl (Ints c) 0 c.length none) L.length = Cs (L.set t { gP L t with c := c }) := by
  unfold kcm
  rw [List.take_length, List.set_eq_take_append_cons_drop, if_pos ht]
  simp only [Cs, List.flatMap_append, List.flatMap_cons]
  rfl
theorem kcm_refs (L : List Pl) (t : Nat) (c : Cell) (m : Nat) : ∀ d ∈ kcm L t c m, ∀ q ∈ d.refs, q ∈ c.refs := fun d hd q hq => by
  unfold kcm at hd
  rcases List.mem_append.1 hd with h | h
  · have := Cs_flat (L.take t) d h
    rw [this] at hq; cases hq
  · rcases List.mem_append.1 h with h | h
    · simp only [zaU, zad, or_false] at h
      rcases h with rfl | rfl | rfl | rfl | rfl | rfl | rfl | rfl | rfl | rfl
      all_goals first | exact hq | cases hq
    · have := Cs_flat ((L.take m).drop (t + 1)) d h
      rw [this] at hq; cases hq
def kst (L : List Pl) (k : Option Nat) (t m : Nat) : St :=
  if m ≤ t then ⟨[(0, gr L k), (3, .one (.osl 0 0 m none)), (4, i1 m)], [(0, some ⟨Cs (L.take m), 10⟩)], 1⟩
  else ⟨[(0, gr L k), (3, .one (.osl 0 0 m none)), (4, i1 m)], [(0, some ⟨kcm L t (.osl 1 0 (gP L t).c.length none) m, 10⟩), (1, some ⟨Ints (gP L t).c, 1⟩)], 2⟩
set_option maxHeartbeats 16000000 in
theorem rpools_keep (L : List Pl) (k : Option Nat) (t : Nat) (ht : t < L.length) (hl : L.length ≤ 1000000) (hc : ∀ x ∈ L, x.c.length ≤ 1000) : FnSpec Tryz.prog 53 [gr L k] [] (.one (.osl 0 0 L.length none)) [some ⟨kcm L t (.osl 1 0 (gP L t).c.length none) L.length, 10⟩, some ⟨Ints (gP L t).c, 1⟩] := by
  have hpl := pl_len L
  refine fnspec_of mixed TT_ok TT_cl ⟨fun _ => false, fun _ => [], 0, fun _ => false, fun _ => false⟩ Tryz.func53 rfl (by kernel_rfl) rfl 20 rfl [.tmp 2] rfl ?_
  simp only [go_sem, zaa, zai, zaj, zak, zam, zah, ↓reduceIte, reduceCtorEq, zac, zae, zan, zao, zap]
  repeat' (first
 | (intros; (try simp only [zau, zax, zat, zas, zaq, zar, decide_eq_true_eq, decide_eq_false_iff_not] at *); omega))
  refine w_loop (ι := Nat) (kst L k t) (fun m => m ≤ L.length) (fun m => L.length - m) 0 ?_ (zaY _) ?_
  · have e : kst L k t 0 = ⟨[(0, gr L k), (3, .one (.osl 0 0 0 none)), (4, i1 (0 : Nat))], [(0, some ⟨Cs (L.take 0), 10⟩)], 1⟩ := if_pos (zaY _)
    rw [e]
    (refine Imp.trans (imp_nilA _ _ 3 10 99 (by simp only []; omega) rfl) ?_)
    (refine imp_ren _ _ _ [(0, 99, ⟨[], 10⟩)] (by simp) (by simp) (by simp) (zaA rfl) ?_ rfl (by simp only [zab, zad, false_implies, implies_true, and_true, zaT, lookR, zaa, if_true, if_false, ↓reduceIte] <;> (repeat' apply zav) <;> (first | rfl | trivial)) (by simp only [zab, zad, false_implies, implies_true, and_true, true_and, flat_cons, flat_nil, flat_ints, flat_bools, flat_app, zaJ, and_self, eq_self_iff_true, zal]); simp only [zaf, zag, zab, zad, false_implies, implies_true, and_true, lk, slot, zaO, zaB, toN, zaa, if_true, if_false, ↓reduceIte, reduceCtorEq])
    all_goals ((repeat' apply zav) <;> (first | rfl | trivial))
  intro m hm
  rcases zbb m L.length with hlt | hge
  case inr =>
    have c : ¬ (m : Int) < (L.length : Int) := by omega
    obtain rfl : m = L.length := by omega
    have e : kst L k t L.length = ⟨[(0, gr L k), (3, .one (.osl 0 0 L.length none)), (4, i1 L.length)], [(0, some ⟨kcm L t (.osl 1 0 (gP L t).c.length none) L.length, 10⟩), (1, some ⟨Ints (gP L t).c, 1⟩)], 2⟩ := if_neg (by omega)
    rw [e]
    simp only [go_sem, zaa, zai, zaj, zak, zam, zah, ↓reduceIte, reduceCtorEq, zac, zae, zan, zao, zap, decide_eq_false c]
    repeat' (first
 | (intros; (try simp only [zau, zax, zat, zas, zaq, zar, decide_eq_true_eq, decide_eq_false_iff_not] at *); omega))
    refine fs_mk [0, 1] (by simp) (by decide) (by simp only [go_sem, resV, resS, zaO, zaQ, zaB, zbj, zaT, idx, renO, zaP, evS, slot, lookR, zaa, ↓reduceIte, reduceCtorEq, if_true, if_false, zaR, zaS, zaf, zag, sLoad, readAt, readNeed, Ints_ren, Ints_length, Ints_getD, and_true, true_and, zaM, zaN]) ?_ ?_ ?_ <;> (try simp only [go_sem, resV, resS, zaO, zaQ, zaB, zbj, zaT, idx, renO, zaP, evS, slot, lookR, zaa, ↓reduceIte, reduceCtorEq, if_true, if_false, zaR, zaS, zaf, zag, sLoad, readAt, readNeed, Ints_ren, Ints_length, Ints_getD, and_true, true_and, zaM, zaN, zaT, lookR, renO, zaP, zaB, idx, zaf, zag, Ints_ren, kcm_ren, zab, zad, false_implies, implies_true, Option.some.injEq, forall_eq', and_true, true_and]) <;> (try rfl)
    exact ⟨fun c hc q hq => by have := kcm_refs _ _ _ _ c hc q hq; simp only [zaJ, zaU, zad, or_false] at this; subst this; simp, fun c hc q hq => absurd hq (Ints_refs0 _ _ c hc)⟩
  have c : (m : Int) < (L.length : Int) := by omega
  have hT := pl_td L m hlt
  have hm' := getD_mem L m zpl hlt
  rcases Nat.lt_trichotomy m t with hmt | hmt | hmt
  · have e : kst L k t m = ⟨[(0, gr L k), (3, .one (.osl 0 0 m none)), (4, i1 m)], [(0, some ⟨Cs (L.take m), 10⟩)], 1⟩ := if_pos (by omega)
    have e2 : kst L k t (m + 1) = ⟨[(0, gr L k), (3, .one (.osl 0 0 (m + 1) none)), (4, i1 ((m + 1 : Nat) : Int))], [(0, some ⟨Cs (L.take (m + 1)), 10⟩)], 1⟩ := if_pos (by omega)
    have h2 := rcopyG_spec (gP L m) (hc _ hm')
    have hS : Cs (L.take m) ++ plc (gP L m) none = Cs (L.take (m + 1)) := by
      rw [take_getD L m zpl hlt]; exact Cs_snoc _ _
    have htl : (L.take m).length = m := by rw [zaW]; omega
    have htk : zbl (m * 10) (Cs (L.take m)) = Cs (L.take m) := Cs_all _ _ (by rw [htl]; exact zba _)
    have hpt := pl_len (L.take m)
    rw [htl] at hpt
    rw [e]
    generalize L.take m = W at *
    generalize gP L m = x at *
    obtain ⟨a, b, cc, d, e, f, q1, q2, q3, q4⟩ := x
    simp only [plc, plt] at hT h2 hS
    simp only [go_sem, zaa, zai, zaj, zak, zam, zah, ↓reduceIte, reduceCtorEq, zac, zae, zan, zao, zap, decide_eq_true c, hT, hS]
    repeat' (first
 | with_reducible refine zav ?_ ?_
 | (apply cl_plain
    case hs => rfl
    case ha => (simp only [zaf, zag, prepV, prepC, idx, hpL', lookR, zaa, if_true, if_false]; rfl)
    case h => (first | exact h2 ..))
 | ((first | refine s1_id ?_ | refine swp_id ?_ | refine sops_id ?_ | refine s2_id ?_); simp only [decide_eq_true c, hT, hS, htk, zaF, zaH, zal, zaG, zaI, zaD, zaE, zaC, zaK, zaL, zay, zaz, go_sem, zaa, zai, zaj, zak, zam, zah, ↓reduceIte, reduceCtorEq, zac, zae, zan, zao, zap, zaO, zaQ, zaB, zaP, renO, bk, back, outUpsFrom, Ints_ren])
 | (intros; omega)
 | (intros; (try simp only [zau, zax, zat, zas, zaq, zar, decide_eq_true_eq, decide_eq_false_iff_not] at *); omega))
    refine le_mk (m + 1) ?_ hlt (by omega)
    rw [e2]
    (refine imp_ren _ _ _ [(0, 12, ⟨Cs (L.take (m + 1)), 10⟩)] (by simp) (by simp) (by simp) (zaA rfl) ?_ rfl (by simp only [zab, zad, false_implies, implies_true, and_true, zaT, lookR, zaa, if_true, if_false, ↓reduceIte, Cs_flat] <;> (repeat' apply zav) <;> (first | rfl | trivial)) (by simp only [zab, zad, false_implies, implies_true, and_true, true_and, flat_cons, flat_nil, flat_ints, flat_bools, flat_app, zaJ, and_self, eq_self_iff_true, zal, Cs_flat]); simp only [zaf, zag, zab, zad, false_implies, implies_true, and_true, lk, slot, zaO, zaB, toN, zaa, if_true, if_false, ↓reduceIte, reduceCtorEq])
    all_goals ((repeat' apply zav) <;> (first | rfl | trivial | (simp only [zaw]; done) | (simp only [zaw]; rfl) | (simp only [zaw]; trivial)))
  · subst hmt
    have e : kst L k m m = ⟨[(0, gr L k), (3, .one (.osl 0 0 m none)), (4, i1 m)], [(0, some ⟨Cs (L.take m), 10⟩)], 1⟩ := if_pos (by omega)
    have e2 : kst L k m (m + 1) = ⟨[(0, gr L k), (3, .one (.osl 0 0 (m + 1) none)), (4, i1 ((m + 1 : Nat) : Int))], [(0, some ⟨kcm L m (.osl 1 0 (gP L m).c.length none) (m + 1), 10⟩), (1, some ⟨Ints (gP L m).c, 1⟩)], 2⟩ := if_neg (by omega)
    have h2 := rcopy_spec (gP L m) none (hc _ hm')
    have hS := fun c => kcm_first L m c hlt
    have htl : (L.take m).length = m := by rw [zaW]; omega
    have htk : zbl (m * 10) (Cs (L.take m)) = Cs (L.take m) := Cs_all _ _ (by rw [htl]; exact zba _)
    have hpt := pl_len (L.take m)
    rw [htl] at hpt
    have hKr := fun c ρ => kcm_ren L m c (m + 1) ρ
    have hKf := fun c => kcm_refs L m c (m + 1)
    rw [e]
    generalize hK : (fun c => kcm L m c (m + 1)) = K at *
    have hK' : ∀ c, kcm L m c (m + 1) = K c := fun c => by rw [← hK]
    simp only [hK'] at hS hKr hKf e2
    clear hK hK'
    generalize L.take m = W at *
    generalize gP L m = x at *
    obtain ⟨a, b, cc, d, e, f, q1, q2, q3, q4⟩ := x
    simp only [plc, plt, plo, plk] at hT h2 hS
    simp only [go_sem, zaa, zai, zaj, zak, zam, zah, ↓reduceIte, reduceCtorEq, zac, zae, zan, zao, zap, decide_eq_true c, hT]
    repeat' (first
 | with_reducible refine zav ?_ ?_
 | (apply cl_plain
    case hs => rfl
    case ha => (simp only [zaf, zag, prepV, prepC, idx, hpL', lookR, zaa, if_true, if_false]; rfl)
    case h => (first | exact h2 ..))
 | ((first | refine s1_id ?_ | refine swp_id ?_ | refine sops_id ?_ | refine s2_id ?_); simp only [decide_eq_true c, hT, htk, ← hS, zaF, zaH, zal, zaG, zaI, zaD, zaE, zaC, zaK, zaL, zay, zaz, go_sem, zaa, zai, zaj, zak, zam, zah, ↓reduceIte, reduceCtorEq, zac, zae, zan, zao, zap, zaO, zaQ, zaB, zaP, renO, bk, back, outUpsFrom, Ints_ren])
 | (intros; omega)
 | (intros; (try simp only [zau, zax, zat, zas, zaq, zar, decide_eq_true_eq, decide_eq_false_iff_not] at *); omega))
    refine le_mk (m + 1) ?_ hlt (by omega)
    rw [e2]
    refine imp_sub _ _ _ [(0, 12), (1, 10)] (by simp) (by simp) (by simp) (zaA rfl) ?_ ?_ ?_
    · simp only [zaf, zag, zab, zad, false_implies, implies_true, and_true, lk, slot, zaO, zaB, toN, zaa, if_true, if_false, ↓reduceIte, reduceCtorEq]
      all_goals ((repeat' apply zav) <;> (first | rfl | trivial | (simp only [zaw]; done) | (simp only [zaw]; rfl) | (simp only [zaw]; trivial)))
    · simp only [zaf, zag, zaT, lookR, renO, zaP, zaB, toN, hKr, Ints_ren, zaa, if_true, if_false, ↓reduceIte]
    · intro p hp row hrow c hc q hq
      simp only [zaU, zad, or_false] at hp
      rcases hp with rfl | rfl
      · simp only [zaT, lookR, zaa, if_true, if_false, ↓reduceIte, Option.some.injEq] at hrow
        subst hrow
        have h9 := hKf _ c hc q hq
        simp only [zaJ, zaU, zad, or_false] at h9
        subst h9
        rfl
      · simp only [zaT, lookR, zaa, if_true, if_false, ↓reduceIte, Option.some.injEq] at hrow
        subst hrow
        exact absurd hq (Ints_refs0 _ _ c hc)
  · have e : kst L k t m = ⟨[(0, gr L k), (3, .one (.osl 0 0 m none)), (4, i1 m)], [(0, some ⟨kcm L t (.osl 1 0 (gP L t).c.length none) m, 10⟩), (1, some ⟨Ints (gP L t).c, 1⟩)], 2⟩ := if_neg (by omega)
    have e2 : kst L k t (m + 1) = ⟨[(0, gr L k), (3, .one (.osl 0 0 (m + 1) none)), (4, i1 ((m + 1 : Nat) : Int))], [(0, some ⟨kcm L t (.osl 1 0 (gP L t).c.length none) (m + 1), 10⟩), (1, some ⟨Ints (gP L t).c, 1⟩)], 2⟩ := if_neg (by omega)
    have h2 := rcopyG_spec (gP L m) (hc _ hm')
    have hS := fun c => kcm_snoc L t c m hmt hlt
    have hlc := fun c => kcm_len L t c m hmt (by omega)
    have htk : ∀ c, zbl (m * 10) (kcm L t c m) = kcm L t c m := fun c => zbg (by rw [hlc]; exact zba _)
    have hKr := fun c ρ => kcm_ren L t c (m + 1) ρ
    have hKf := fun c => kcm_refs L t c (m + 1)
    have hKr0 := fun c ρ => kcm_ren L t c m ρ
    rw [e]
    generalize (gP L t).c = tc at *
    generalize gP L m = x at *
    obtain ⟨a, b, cc, d, e, f, q1, q2, q3, q4⟩ := x
    simp only [plc, plt] at hT h2 hS
    simp only [go_sem, zaa, zai, zaj, zak, zam, zah, ↓reduceIte, reduceCtorEq, zac, zae, zan, zao, zap, decide_eq_true c, hT]
    repeat' (first
 | with_reducible refine zav ?_ ?_
 | (apply cl_plain
    case hs => rfl
    case ha => (simp only [zaf, zag, prepV, prepC, idx, hpL', lookR, zaa, if_true, if_false]; rfl)
    case h => (first | exact h2 ..))
 | ((first | refine s1_id ?_ | refine swp_id ?_ | refine sops_id ?_ | refine s2_id ?_); simp only [decide_eq_true c, hT, htk, hS, hlc, zaF, zaH, zal, zaG, zaI, zaD, zaE, zaC, zaK, zaL, zay, zaz, go_sem, zaa, zai, zaj, zak, zam, zah, ↓reduceIte, reduceCtorEq, zac, zae, zan, zao, zap, zaO, zaQ, zaB, zaP, renO, bk, back, outUpsFrom, Ints_ren])
 | (intros; omega)
 | (intros; (try simp only [zau, zax, zat, zas, zaq, zar, decide_eq_true_eq, decide_eq_false_iff_not] at *); omega))
    refine le_mk (m + 1) ?_ hlt (by omega)
    rw [e2]
    refine imp_sub _ _ _ [(0, 13), (1, 1)] (by simp) (by simp) (by simp) (zaA rfl) ?_ ?_ ?_
    · simp only [zaf, zag, zab, zad, false_implies, implies_true, and_true, lk, slot, zaO, zaB, toN, zaa, if_true, if_false, ↓reduceIte, reduceCtorEq]
      all_goals ((repeat' apply zav) <;> (first | rfl | trivial | (simp only [zaw]; done) | (simp only [zaw]; rfl) | (simp only [zaw]; trivial)))
    · simp only [zaf, zag, zaT, lookR, renO, zaP, zaB, toN, hKr, Ints_ren, zaa, if_true, if_false, ↓reduceIte]
    · intro p hp row hrow c hc q hq
      simp only [zaU, zad, or_false] at hp
      rcases hp with rfl | rfl
      · simp only [zaT, lookR, zaa, if_true, if_false, ↓reduceIte, Option.some.injEq] at hrow
        subst hrow
        have h9 := hKf _ c hc q hq
        simp only [zaJ, zaU, zad, or_false] at h9
        subst h9
        rfl
      · simp only [zaT, lookR, zaa, if_true, if_false, ↓reduceIte, Option.some.injEq] at hrow
        subst hrow
        exact absurd hq (Ints_refs0 _ _ c hc)
end Go.Proofs.YtcnilpdlcmpbbaaGreat
-- NEWGO
-- PRUNE: cl_lendx cl_use
-- ISG: Cs_isG
-- FLAT: Cs_flat
namespace Go.Proofs.YtcnilpdlcmpbbaaGreat
set_option linter.unusedVariables false
set_option linter.unusedSimpArgs false
open Go.Proofs.YtcnilpdlcmpbbaaGreat.Sh
set_option maxRecDepth 20000
def odM (L : List Pl) (t : Nat) (v : Int) : List Pl :=
  if v = 0 then L.set t { gP L t with g := (gP L t).g + 1 } else if v = 1 then L.drop 1 else if v = 2 then L.set t { gP L t with l := -1 }
  else if v = 3 then L.set t { gP L t with c := (gP L t).c ++ [0] } else L.set t { gP L t with s := 9 }
def odP (D : List Int) (L : List Pl) (j : Nat) : List Pl × Nat :=
  (odM L (nxV D j L.length).toNat (nxV D (nxA D j L.length) 5), nxA D (nxA D j L.length) 5)
theorem pl_setf (L : List Pl) (t o : Nat) (v : Pl) (c : Cell) (ht : t < L.length) (ho : o < 10) (h : plc v none = (plc (gP L t) none).set o c) : (Cs L).set (t * 10 + o) c = Cs (L.set t v) := Cs_setf L t o v c ht ho h
theorem cw_dropP (L : List Pl) (n : Nat) : CW (.gsl (Cs L) 10 n none) (.gsl (Cs (L.drop 1)) 0 n none) := by
  have h1 := cw_sub (Cs L) 0 n none 10 ((Cs L).length)
  have h2 : ((Cs L).drop 10).take (Cs L).length = Cs (L.drop 1) := by
    rw [zbg (by rw [zbk]; omega)]
    exact Cs_drop L 1
  rw [h2] at h1
  exact h1
set_option maxHeartbeats 16000000 in
theorem odd_spec (D : List Int) (hl : D.length ≤ 600) (hr : ∀ x ∈ D, -9223372036854775808 ≤ x ∧ x ≤ 9223372036854775807) (j : Nat) (L : List Pl) (h1 : 1 ≤ L.length) (h64 : L.length ≤ 64) (hc : ∀ x ∈ L, x.c.length ≤ 1000) (hg : ∀ x ∈ L, 0 ≤ x.g ∧ x.g ≤ 2147483647) :
    FnSpec Tryz.prog 19 [dp, gr L none] [dice D j] (gr (odP D L j).1 none) [some (dice D (odP D L j).2)] := by
  have n1 := next_spec D j L.length hl hr (by omega)
  have r1 := nx_rng D j L.length (by omega)
  unfold odP
  obtain ⟨t, ht⟩ : ∃ t : Nat, nxV D j L.length = t := ⟨(nxV D j L.length).toNat, by omega⟩
  rw [ht] at n1 r1 ⊢
  rw [zaX]
  generalize nxA D j L.length = j1 at *
  have n2 := next_spec D j1 5 hl hr (by omega)
  have r2 := nx_rng D j1 5 (by omega)
  generalize nxV D j1 5 = v at *
  generalize nxA D j1 5 = j2 at *
  simp only
  have htl : t < L.length := by omega
  have hpl := pl_len L
  have c1 := rpools_own L none (by omega) hc
  have hm := getD_mem L t zpl htl
  have hgr := hg _ hm
  have q0 := pl_f0 L t htl (.sc (.int .i64 0))
  unfold odM
  have hv : v = 0 ∨ v = 1 ∨ v = 2 ∨ v = 3 ∨ v = 4 := by omega
  rcases hv with rfl | rfl | rfl | rfl | rfl
  · rw [if_pos rfl]
    have s1 := pl_setf L t 0 { gP L t with g := (gP L t).g + 1 } (int ((gP L t).g + 1)) htl (by decide) rfl
    rw [Nat.add_zero] at s1
    have hRl : (L.set t { gP L t with g := (gP L t).g + 1 }).length = L.length := zaZ
    generalize L.set t { gP L t with g := (gP L t).g + 1 } = R at *
    have hgr' : 0 ≤ (gP L t).g ∧ (gP L t).g ≤ 2147483647 := hgr
    clear hgr
    generalize (gP L t).g = gg at *
    refine fnspec_of mixed TT_ok TT_cl ⟨fun _ => false, lendN, 1, fun _ => false, fun _ => false⟩ Tryz.func19 rfl (by kernel_rfl) rfl 55 rfl [.tmp 4] rfl ?_
    simp only [go_sem, zaa, zai, zaj, zak, zam, zah, ↓reduceIte, reduceCtorEq, zac, zae, zan, zao, zap, lendN, q0, s1, ht]
    repeat' (first
 | with_reducible refine zav ?_ ?_
 | (apply cl_plain
    case hs => rfl
    case ha => (simp only [zaf, zag, prepV, prepC, idx, hpL', lookR, zaa, if_true, if_false]; rfl)
    case h => (first | exact c1 .. | exact n1 .. | exact n2 ..))
 | (apply cl_lend
    case hr => (simp only [zaf, zag, hpL', lookR, zaa, if_true, if_false]; first | exact map1 _ | exact map2 _ _ | exact map3 _ _ _)
    case ha => (simp only [zaf, zag, prepV, prepC, idx, hpL', lookR, zaa, if_true, if_false]; rfl)
    case hs => rfl
    case hn => decide
    case h => (first | exact c1 .. | exact n1 .. | exact n2 ..)
    case hf => (simp only [zab, zad, false_implies, implies_true, and_true, true_and, flat_cons, flat_nil, flat_ints, flat_bools, flat_app, Cs_flat, zaJ, and_self, eq_self_iff_true, zal])
    case hl => (simp only [zay, zaz]; decide))
 | ((first | refine s1_id ?_ | refine swp_id ?_ | refine sops_id ?_ | refine s2_id ?_); simp only [lendN, dice, q0, s1, ht, zaF, zaH, zal, zaG, zaI, zaD, zaE, zaC, zaK, zaL, zay, zaz, go_sem, zaa, zai, zaj, zak, zam, zah, ↓reduceIte, reduceCtorEq, zac, zae, zan, zao, zap, zaO, zaQ, zaB, zaP, renO, bk, back, outUpsFrom, Ints_ren])
 | (intros; omega)
 | (intros; (try simp only [zau, zax, zat, zas, zaq, zar, decide_eq_true_eq, decide_eq_false_iff_not] at *); omega))
    (refine fs_frz 3 ⟨Cs R, 10⟩ (by simp only [zaT, lookR, zaa, if_true, if_false, ↓reduceIte]) (by first | exact Ints_isG _ | exact Bools_isG _ | exact Cs_isG _ | (simp [zbd]; done)) ?_; simp only [frzTm, SV.frz, zbh, zbc, frzHp, frzO, Ints_frz, Bools_frz, zaf, zag, zaa, if_true, if_false, ↓reduceIte])
    rw [← hRl]
    (refine fs_flat [(0, dice D j2)] (by simp) (by simp only [zaf, zag]; decide) (by simp only [go_sem, resV, resS, zaO, zaQ, zaB, zbj, zaT, idx, renO, zaP, evS, slot, lookR, zaa, ↓reduceIte, reduceCtorEq, if_true, if_false, zaR, zaS, zaf, zag, sLoad, readAt, readNeed, Ints_ren, Ints_length, Ints_getD, and_true, true_and, zaM, zaN]; try decide) ?_ (by simp only [zab, zad, false_implies, implies_true, and_true, zaT, lookR, zaa, if_true, if_false, ↓reduceIte, dice] <;> (repeat' apply zav) <;> (first | rfl | trivial)) (by simp only [zab, zad, false_implies, implies_true, and_true, true_and, flat_cons, flat_nil, flat_ints, flat_bools, flat_app, zaJ, and_self, eq_self_iff_true, zal, dice]) ?_ <;> (try simp only [go_sem, resV, resS, zaO, zaQ, zaB, zbj, zaT, idx, renO, zaP, evS, slot, lookR, zaa, ↓reduceIte, reduceCtorEq, if_true, if_false, zaR, zaS, zaf, zag, sLoad, readAt, readNeed, Ints_ren, Ints_length, Ints_getD, and_true, true_and, zaM, zaN]) <;> (try rfl))
  · rw [if_neg (by decide), if_pos rfl]
    have hRl : (L.drop 1).length = L.length - 1 := zbk
    refine fnspec_of mixed TT_ok TT_cl ⟨fun _ => false, lendN, 1, fun _ => false, fun _ => false⟩ Tryz.func19 rfl (by kernel_rfl) rfl 55 rfl [.tmp 4] rfl ?_
    simp only [go_sem, zaa, zai, zaj, zak, zam, zah, ↓reduceIte, reduceCtorEq, zac, zae, zan, zao, zap, lendN, ht]
    repeat' (first
 | with_reducible refine zav ?_ ?_
 | (apply cl_plain
    case hs => rfl
    case ha => (simp only [zaf, zag, prepV, prepC, idx, hpL', lookR, zaa, if_true, if_false]; rfl)
    case h => (first | exact c1 .. | exact n1 .. | exact n2 ..))
 | (apply cl_lend
    case hr => (simp only [zaf, zag, hpL', lookR, zaa, if_true, if_false]; first | exact map1 _ | exact map2 _ _ | exact map3 _ _ _)
    case ha => (simp only [zaf, zag, prepV, prepC, idx, hpL', lookR, zaa, if_true, if_false]; rfl)
    case hs => rfl
    case hn => decide
    case h => (first | exact c1 .. | exact n1 .. | exact n2 ..)
    case hf => (simp only [zab, zad, false_implies, implies_true, and_true, true_and, flat_cons, flat_nil, flat_ints, flat_bools, flat_app, Cs_flat, zaJ, and_self, eq_self_iff_true, zal])
    case hl => (simp only [zay, zaz]; decide))
 | ((first | refine s1_id ?_ | refine swp_id ?_ | refine sops_id ?_ | refine s2_id ?_); simp only [lendN, dice, ht, zaF, zaH, zal, zaG, zaI, zaD, zaE, zaC, zaK, zaL, zay, zaz, go_sem, zaa, zai, zaj, zak, zam, zah, ↓reduceIte, reduceCtorEq, zac, zae, zan, zao, zap, zaO, zaQ, zaB, zaP, renO, bk, back, outUpsFrom, Ints_ren])
 | (intros; omega)
 | (intros; (try simp only [zau, zax, zat, zas, zaq, zar, decide_eq_true_eq, decide_eq_false_iff_not] at *); omega))
    all_goals try (intro row hrow; cases hrow; rfl)
    (refine fs_frz 3 ⟨Cs L, 10⟩ (by simp only [zaT, lookR, zaa, if_true, if_false, ↓reduceIte]) (by first | exact Ints_isG _ | exact Bools_isG _ | exact Cs_isG _ | (simp [zbd]; done)) ?_; simp only [frzTm, SV.frz, zbh, zbc, frzHp, frzO, Ints_frz, Bools_frz, zaf, zag, zaa, if_true, if_false, ↓reduceIte])
    have hgr2 : gr (L.drop 1) none = .one (.gsl (Cs (L.drop 1)) 0 (L.length - 1) none) := by rw [← hRl]
    rw [hgr2]
    refine fs_res (res0 := .one (.gsl (Cs L) 10 (L.length - 1) none)) (svw_of (cw_dropP L _)) ?_
    (refine fs_flat [(0, dice D j2)] (by simp) (by simp only [zaf, zag]; decide) (by simp only [go_sem, resV, resS, zaO, zaQ, zaB, zbj, zaT, idx, renO, zaP, evS, slot, lookR, zaa, ↓reduceIte, reduceCtorEq, if_true, if_false, zaR, zaS, zaf, zag, sLoad, readAt, readNeed, Ints_ren, Ints_length, Ints_getD, and_true, true_and, zaM, zaN]; try decide) ?_ (by simp only [zab, zad, false_implies, implies_true, and_true, zaT, lookR, zaa, if_true, if_false, ↓reduceIte, dice] <;> (repeat' apply zav) <;> (first | rfl | trivial)) (by simp only [zab, zad, false_implies, implies_true, and_true, true_and, flat_cons, flat_nil, flat_ints, flat_bools, flat_app, zaJ, and_self, eq_self_iff_true, zal, dice]) ?_ <;> (try simp only [go_sem, resV, resS, zaO, zaQ, zaB, zbj, zaT, idx, renO, zaP, evS, slot, lookR, zaa, ↓reduceIte, reduceCtorEq, if_true, if_false, zaR, zaS, zaf, zag, sLoad, readAt, readNeed, Ints_ren, Ints_length, Ints_getD, and_true, true_and, zaM, zaN]) <;> (try rfl))
  · rw [if_neg (by decide), if_neg (by decide), if_pos rfl]
    have s1 := pl_setf L t 4 { gP L t with l := -1 } (int (-1)) htl (by decide) rfl
    have hRl : (L.set t { gP L t with l := -1 }).length = L.length := zaZ
    generalize L.set t { gP L t with l := -1 } = R at *
    refine fnspec_of mixed TT_ok TT_cl ⟨fun _ => false, lendN, 1, fun _ => false, fun _ => false⟩ Tryz.func19 rfl (by kernel_rfl) rfl 55 rfl [.tmp 4] rfl ?_
    simp only [go_sem, zaa, zai, zaj, zak, zam, zah, ↓reduceIte, reduceCtorEq, zac, zae, zan, zao, zap, lendN, s1, ht]
    repeat' (first
 | with_reducible refine zav ?_ ?_
 | (apply cl_plain
    case hs => rfl
    case ha => (simp only [zaf, zag, prepV, prepC, idx, hpL', lookR, zaa, if_true, if_false]; rfl)
    case h => (first | exact c1 .. | exact n1 .. | exact n2 ..))
 | (apply cl_lend
    case hr => (simp only [zaf, zag, hpL', lookR, zaa, if_true, if_false]; first | exact map1 _ | exact map2 _ _ | exact map3 _ _ _)
    case ha => (simp only [zaf, zag, prepV, prepC, idx, hpL', lookR, zaa, if_true, if_false]; rfl)
    case hs => rfl
    case hn => decide
    case h => (first | exact c1 .. | exact n1 .. | exact n2 ..)
    case hf => (simp only [zab, zad, false_implies, implies_true, and_true, true_and, flat_cons, flat_nil, flat_ints, flat_bools, flat_app, Cs_flat, zaJ, and_self, eq_self_iff_true, zal])
    case hl => (simp only [zay, zaz]; decide))
 | ((first | refine s1_id ?_ | refine swp_id ?_ | refine sops_id ?_ | refine s2_id ?_); simp only [lendN, dice, s1, ht, zaF, zaH, zal, zaG, zaI, zaD, zaE, zaC, zaK, zaL, zay, zaz, go_sem, zaa, zai, zaj, zak, zam, zah, ↓reduceIte, reduceCtorEq, zac, zae, zan, zao, zap, zaO, zaQ, zaB, zaP, renO, bk, back, outUpsFrom, Ints_ren])
 | (intros; omega)
 | (intros; (try simp only [zau, zax, zat, zas, zaq, zar, decide_eq_true_eq, decide_eq_false_iff_not] at *); omega))
    (refine fs_frz 3 ⟨Cs R, 10⟩ (by simp only [zaT, lookR, zaa, if_true, if_false, ↓reduceIte]) (by first | exact Ints_isG _ | exact Bools_isG _ | exact Cs_isG _ | (simp [zbd]; done)) ?_; simp only [frzTm, SV.frz, zbh, zbc, frzHp, frzO, Ints_frz, Bools_frz, zaf, zag, zaa, if_true, if_false, ↓reduceIte])
    rw [← hRl]
    (refine fs_flat [(0, dice D j2)] (by simp) (by simp only [zaf, zag]; decide) (by simp only [go_sem, resV, resS, zaO, zaQ, zaB, zbj, zaT, idx, renO, zaP, evS, slot, lookR, zaa, ↓reduceIte, reduceCtorEq, if_true, if_false, zaR, zaS, zaf, zag, sLoad, readAt, readNeed, Ints_ren, Ints_length, Ints_getD, and_true, true_and, zaM, zaN]; try decide) ?_ (by simp only [zab, zad, false_implies, implies_true, and_true, zaT, lookR, zaa, if_true, if_false, ↓reduceIte, dice] <;> (repeat' apply zav) <;> (first | rfl | trivial)) (by simp only [zab, zad, false_implies, implies_true, and_true, true_and, flat_cons, flat_nil, flat_ints, flat_bools, flat_app, zaJ, and_self, eq_self_iff_true, zal, dice]) ?_ <;> (try simp only [go_sem, resV, resS, zaO, zaQ, zaB, zbj, zaT, idx, renO, zaP, evS, slot, lookR, zaa, ↓reduceIte, reduceCtorEq, if_true, if_false, zaR, zaS, zaf, zag, sLoad, readAt, readNeed, Ints_ren, Ints_length, Ints_getD, and_true, true_and, zaM, zaN]) <;> (try rfl))
  · rw [if_neg (by decide), if_neg (by decide), if_neg (by decide), if_pos rfl]
    have c3 := rpools_keep L none t htl (by omega) hc
    have hRl : (L.set t { gP L t with c := (gP L t).c ++ [0] }).length = L.length := zaZ
    have hall := kcm_all L t htl ((gP L t).c ++ [0])
    have hcl := hc _ hm
    have kg := fun c d => kcm_getD L t c L.length htl d
    have ks := fun c c' => kcm_set L t c c' L.length htl
    have kl := fun c => kcm_len L t c L.length htl (zba _)
    have kr := fun c ρ => kcm_ren L t c L.length ρ
    have kf := fun c r cs => kcm_frz L t c L.length r cs
    have krf := fun c => kcm_refs L t c L.length
    have hcl' : (gP L t).c.length ≤ 1000 := hcl
    clear hcl
    generalize L.set t { gP L t with c := (gP L t).c ++ [0] } = R at *
    generalize (gP L t).c = tc at *
    have htk : zbl tc.length (Ints tc) = Ints tc := zbg (by rw [Ints_length]; exact zba _)
    have hpp : Ints tc ++ [int 0] = Ints (tc ++ [0]) := by simp [Ints]
    have hla : (tc ++ [0]).length = tc.length + 1 := by simp
    rw [hla] at hall
    refine fnspec_of mixed TT_ok TT_cl ⟨fun _ => false, lendN, 1, fun _ => false, fun _ => false⟩ Tryz.func19 rfl (by kernel_rfl) rfl 55 rfl [.tmp 4] rfl ?_
    simp only [go_sem, zaa, zai, zaj, zak, zam, zah, ↓reduceIte, reduceCtorEq, zac, zae, zan, zao, zap, lendN, ht]
    repeat' (first
 | with_reducible refine zav ?_ ?_
 | (apply cl_plain
    case hs => rfl
    case ha => (simp only [zaf, zag, prepV, prepC, idx, hpL', lookR, zaa, if_true, if_false]; rfl)
    case h => (first | exact c3 .. | exact n1 .. | exact n2 ..))
 | (apply cl_lend
    case hr => (simp only [zaf, zag, hpL', lookR, zaa, if_true, if_false]; first | exact map1 _ | exact map2 _ _ | exact map3 _ _ _)
    case ha => (simp only [zaf, zag, prepV, prepC, idx, hpL', lookR, zaa, if_true, if_false]; rfl)
    case hs => rfl
    case hn => decide
    case h => (first | exact c3 .. | exact n1 .. | exact n2 ..)
    case hf => (simp only [zab, zad, false_implies, implies_true, and_true, true_and, flat_cons, flat_nil, flat_ints, flat_bools, flat_app, Cs_flat, zaJ, and_self, eq_self_iff_true, zal])
    case hl => (simp only [zay, zaz]; decide))
 | ((first | refine s1_id ?_ | refine swp_id ?_ | refine sops_id ?_ | refine s2_id ?_); simp only [lendN, dice, ht, kg, ks, kl, kr, htk, hpp, zaF, zaH, zal, zaG, zaI, zaD, zaE, zaC, zaK, zaL, zay, zaz, go_sem, zaa, zai, zaj, zak, zam, zah, ↓reduceIte, reduceCtorEq, zac, zae, zan, zao, zap, zaO, zaQ, zaB, zaP, renO, bk, back, outUpsFrom, Ints_ren])
 | (intros; omega)
 | (intros; (try simp only [zau, zax, zat, zas, zaq, zar, decide_eq_true_eq, decide_eq_false_iff_not] at *); omega))
    (refine fs_frz 29 ⟨Ints (tc ++ [0]), 1⟩ (by simp only [zaT, lookR, zaa, if_true, if_false, ↓reduceIte]) (by first | exact Ints_isG _ | exact Bools_isG _ | exact Cs_isG _ | (simp [zbd]; done)) ?_; simp only [frzTm, SV.frz, zbh, zbc, frzHp, frzO, Ints_frz, Bools_frz, zaf, zag, zaa, if_true, if_false, ↓reduceIte])
    simp only [kf, zbc, zaa, if_true, if_false, ↓reduceIte, hall]
    (refine fs_frz 3 ⟨Cs R, 10⟩ (by simp only [zaT, lookR, zaa, if_true, if_false, ↓reduceIte]) (by first | exact Ints_isG _ | exact Bools_isG _ | exact Cs_isG _ | (simp [zbd]; done)) ?_; simp only [frzTm, SV.frz, zbh, zbc, frzHp, frzO, Ints_frz, Bools_frz, zaf, zag, zaa, if_true, if_false, ↓reduceIte])
    rw [← hRl]
    (refine fs_flat [(0, dice D j2)] (by simp) (by simp only [zaf, zag]; decide) (by simp only [go_sem, resV, resS, zaO, zaQ, zaB, zbj, zaT, idx, renO, zaP, evS, slot, lookR, zaa, ↓reduceIte, reduceCtorEq, if_true, if_false, zaR, zaS, zaf, zag, sLoad, readAt, readNeed, Ints_ren, Ints_length, Ints_getD, and_true, true_and, zaM, zaN]; try decide) ?_ (by simp only [zab, zad, false_implies, implies_true, and_true, zaT, lookR, zaa, if_true, if_false, ↓reduceIte, dice] <;> (repeat' apply zav) <;> (first | rfl | trivial)) (by simp only [zab, zad, false_implies, implies_true, and_true, true_and, flat_cons, flat_nil, flat_ints, flat_bools, flat_app, zaJ, and_self, eq_self_iff_true, zal, dice]) ?_ <;> (try simp only [go_sem, resV, resS, zaO, zaQ, zaB, zbj, zaT, idx, renO, zaP, evS, slot, lookR, zaa, ↓reduceIte, reduceCtorEq, if_true, if_false, zaR, zaS, zaf, zag, sLoad, readAt, readNeed, Ints_ren, Ints_length, Ints_getD, and_true, true_and, zaM, zaN]) <;> (try rfl))
  · rw [if_neg (by decide), if_neg (by decide), if_neg (by decide), if_neg (by decide)]
    have s1 := pl_setf L t 3 { gP L t with s := 9 } (int 9) htl (by decide) rfl
    have hRl : (L.set t { gP L t with s := 9 }).length = L.length := zaZ
    generalize L.set t { gP L t with s := 9 } = R at *
    refine fnspec_of mixed TT_ok TT_cl ⟨fun _ => false, lendN, 1, fun _ => false, fun _ => false⟩ Tryz.func19 rfl (by kernel_rfl) rfl 55 rfl [.tmp 4] rfl ?_
    simp only [go_sem, zaa, zai, zaj, zak, zam, zah, ↓reduceIte, reduceCtorEq, zac, zae, zan, zao, zap, lendN, s1, ht]
    repeat' (first
 | with_reducible refine zav ?_ ?_
 | (apply cl_plain
    case hs => rfl
    case ha => (simp only [zaf, zag, prepV, prepC, idx, hpL', lookR, zaa, if_true, if_false]; rfl)
    case h => (first | exact c1 .. | exact n1 .. | exact n2 ..))
 | (apply cl_lend
    case hr => (simp only [zaf, zag, hpL', lookR, zaa, if_true, if_false]; first | exact map1 _ | exact map2 _ _ | exact map3 _ _ _)
    case ha => (simp only [zaf, zag, prepV, prepC, idx, hpL', lookR, zaa, if_true, if_false]; rfl)
    case hs => rfl
    case hn => decide
    case h => (first | exact c1 .. | exact n1 .. | exact n2 ..)
    case hf => (simp only [zab, zad, false_implies, implies_true, and_true, true_and, flat_cons, flat_nil, flat_ints, flat_bools, flat_app, Cs_flat, zaJ, and_self, eq_self_iff_true, zal])
    case hl => (simp only [zay, zaz]; decide))
 | ((first | refine s1_id ?_ | refine swp_id ?_ | refine sops_id ?_ | refine s2_id ?_); simp only [lendN, dice, s1, ht, zaF, zaH, zal, zaG, zaI, zaD, zaE, zaC, zaK, zaL, zay, zaz, go_sem, zaa, zai, zaj, zak, zam, zah, ↓reduceIte, reduceCtorEq, zac, zae, zan, zao, zap, zaO, zaQ, zaB, zaP, renO, bk, back, outUpsFrom, Ints_ren])
 | (intros; omega)
 | (intros; (try simp only [zau, zax, zat, zas, zaq, zar, decide_eq_true_eq, decide_eq_false_iff_not] at *); omega))
    (refine fs_frz 3 ⟨Cs R, 10⟩ (by simp only [zaT, lookR, zaa, if_true, if_false, ↓reduceIte]) (by first | exact Ints_isG _ | exact Bools_isG _ | exact Cs_isG _ | (simp [zbd]; done)) ?_; simp only [frzTm, SV.frz, zbh, zbc, frzHp, frzO, Ints_frz, Bools_frz, zaf, zag, zaa, if_true, if_false, ↓reduceIte])
    rw [← hRl]
    (refine fs_flat [(0, dice D j2)] (by simp) (by simp only [zaf, zag]; decide) (by simp only [go_sem, resV, resS, zaO, zaQ, zaB, zbj, zaT, idx, renO, zaP, evS, slot, lookR, zaa, ↓reduceIte, reduceCtorEq, if_true, if_false, zaR, zaS, zaf, zag, sLoad, readAt, readNeed, Ints_ren, Ints_length, Ints_getD, and_true, true_and, zaM, zaN]; try decide) ?_ (by simp only [zab, zad, false_implies, implies_true, and_true, zaT, lookR, zaa, if_true, if_false, ↓reduceIte, dice] <;> (repeat' apply zav) <;> (first | rfl | trivial)) (by simp only [zab, zad, false_implies, implies_true, and_true, true_and, flat_cons, flat_nil, flat_ints, flat_bools, flat_app, zaJ, and_self, eq_self_iff_true, zal, dice]) ?_ <;> (try simp only [go_sem, resV, resS, zaO, zaQ, zaB, zbj, zaT, idx, renO, zaP, evS, slot, lookR, zaa, ↓reduceIte, reduceCtorEq, if_true, if_false, zaR, zaS, zaf, zag, sLoad, readAt, readNeed, Ints_ren, Ints_length, Ints_getD, and_true, true_and, zaM, zaN]) <;> (try rfl))
end Go.Proofs.YtcnilpdlcmpbbaaGreat
-- NEWGO
-- PRUNE: cl_lendx cl_use
-- ISG: Cs_isG
-- FLAT: Cs_flat
namespace Go.Proofs.YtcnilpdlcmpbbaaGreat
set_option linter.unusedVariables false
set_option linter.unusedSimpArgs false
open Go.Proofs.YtcnilpdlcmpbbaaGreat.Sh
set_option maxRecDepth 20000
structure Rz (x : Pl) : Prop where
  sm : SmP x
  wk : Wk x
  l1 : x.c.length ≤ 1000
theorem rz_of {x : Pl} (h : pck x = true) : Rz x := ⟨smp_of h, wk_of h, pck_len h⟩
theorem odM_rz {l : List Nd} {n c : Int} {P : List Pl} (hP : Pv l n P c) (t : Nat) (v : Int) (ht : t < P.length) : (odM P t v).length ≤ P.length ∧ ∀ x ∈ odM P t v, Rz x := by
  have h := hP.pck ht
  have h1 := smp_of h
  have h2 := wk_of h
  have h3 := (nums h).len
  have hset : ∀ y : Pl, Rz y → ∀ x ∈ P.set t y, Rz x := fun y hy x hx => by
    rcases List.mem_or_eq_of_mem_set hx with hx | rfl
    · exact rz_of (hP.all x hx)
    · exact hy
  unfold odM
  repeat' split
  · exact ⟨by rw [zaZ]; exact zba _, hset _ ⟨⟨h1.hb, h1.hb0, h1.hp, h1.hlen⟩, ⟨h2.b, h2.pe, h2.len⟩, by simp only; omega⟩⟩
  · exact ⟨by rw [zbk]; omega, fun x hx => rz_of (hP.all x (List.mem_of_mem_drop hx))⟩
  · exact ⟨by rw [zaZ]; exact zba _, hset _ ⟨⟨h1.hb, h1.hb0, h1.hp, h1.hlen⟩, ⟨h2.b, h2.pe, h2.len⟩, by simp only; omega⟩⟩
  · have e : ((gP P t).c ++ [0]).length = (gP P t).c.length + 1 := by simp
    exact ⟨by rw [zaZ]; exact zba _, hset _ ⟨⟨h1.hb, h1.hb0, h1.hp, by simp only [e]; omega⟩, ⟨h2.b, h2.pe, by simp only [e]; omega⟩, by simp only [e]; omega⟩⟩
  · exact ⟨by rw [zaZ]; exact zba _, hset _ ⟨⟨h1.hb, h1.hb0, h1.hp, h1.hlen⟩, ⟨h2.b, h2.pe, h2.len⟩, by simp only; omega⟩⟩
theorem pv_of_thC {l : List Nd} {n : Int} {Y : List Pl} (h : thC l n Y = true) : Pv l n Y (gP Y 0).c.length := ⟨h, fun i hi => by rw [((thC_at h).2.2 i hi).2.2]⟩
theorem Pv.sm {l : List Nd} {n : Int} {P : List Pl} {c : Int} (h : Pv l n P c) : P.length ≤ 64 ∧ ∀ x ∈ P, x.c.length ≤ 1000 := ⟨by have := h.vt.le; rw [h.len]; exact this, fun x hx => pck_len (h.all x hx)⟩
theorem nil_sm : ([] : List Pl).length ≤ 64 ∧ ∀ x ∈ ([] : List Pl), x.c.length ≤ 1000 := ⟨by decide, fun x hx => by cases hx⟩
theorem thSp_sm (l : List Nd) (n : Int) (Y : List Pl) (g cpu : Int) : (thSp l n Y g cpu).1.length ≤ 64 ∧ ∀ x ∈ (thSp l n Y g cpu).1, x.c.length ≤ 1000 := by
  cases hc : thC l n Y with
  | false => unfold thSp; rw [if_pos hc]; exact nil_sm
  | true =>
    have hP := pv_of_thC hc
    by_cases he : (thSp l n Y g cpu).2 = 0 ∨ (thSp l n Y g cpu).2 = 11
    · exact (hP.sp he).sm
    · have : (thSp l n Y g cpu).1 = [] := by
        unfold thSp at he ⊢
        rw [if_neg (by simp [hc])] at he ⊢
        split at he
        · rename_i h1; rw [if_pos h1]
        · rename_i h1
          rw [if_neg h1]
          split at he
          · rename_i h2; rw [if_pos h2]
          · rename_i h2
            exfalso
            split at he <;> simp at he
      rw [this]; exact nil_sm
theorem thId_sm (l : List Nd) (n : Int) (Y : List Pl) (cpu : Int) : (thId l n Y cpu).length ≤ 64 ∧ ∀ x ∈ thId l n Y cpu, x.c.length ≤ 1000 := by
  cases hc : thC l n Y with
  | false => unfold thId thEa; rw [hc, if_neg zaV]; exact nil_sm
  | true => exact ((pv_of_thC hc).idle cpu).sm
theorem thRf_sm (l : List Nd) (n : Int) (Y : List Pl) (due : List Int) : (thRf l n Y due).length ≤ 64 ∧ ∀ x ∈ thRf l n Y due, x.c.length ≤ 1000 := by
  cases hc : thC l n Y with
  | false => unfold thRf; rw [hc, if_neg zaV]; exact nil_sm
  | true => exact ((pv_of_thC hc).rf due).sm
theorem pnew_l (g q b s n : Int) : (pnew g q b s n).1.c.length ≤ 1000 := by
  unfold pnew
  split
  · show (0 : Nat) ≤ 1000; omega
  · rename_i h
    rw [zbi, wi_iff] at h
    split
    · show (0 : Nat) ≤ 1000; omega
    · simp only [pn0, List.length_replicate]; omega
theorem pchange_l (x : Pl) (q b : Int) (h : x.c.length ≤ 1000) : (pchange x q b).1.c.length ≤ 1000 := by
  unfold pchange
  repeat' split
  · show (0 : Nat) ≤ 1000; omega
  · show (0 : Nat) ≤ 1000; omega
  · simp only [pchg, lsN_len]; exact h
theorem thSy_sm {l : List Nd} {n : Int} {Y : List Pl} (hY : ∀ x ∈ Y, x.c.length ≤ 1000) (hl : l.length ≤ 64) (q b : List Int) (s c : Int) : (thSy l n Y q b s c).1.length ≤ 64 ∧ ∀ x ∈ (thSy l n Y q b s c).1, x.c.length ≤ 1000 := by
  unfold thSy
  split
  · split
    · refine ⟨by rw [syN_len]; exact hl, fun x hx => ?_⟩
      unfold syN at hx
      obtain ⟨i, _, rfl⟩ := List.mem_map.1 hx
      unfold syE
      split
      · exact pnew_l _ _ _ _ _
      · rename_i h
        rcases ixR_at (usb (gN l i).i s c) zpl Y 0 with ⟨e1, _⟩ | ⟨k, e1, h2, _, _⟩
        · omega
        · rw [e1, Nat.zero_add, zaX]
          exact pchange_l _ _ _ (hY _ (getD_mem Y k zpl h2))
    · exact nil_sm
  · exact nil_sm
theorem thSy_new {l : List Nd} {n : Int} {q b : List Int} {s c : Int} (h : (thSy l n [] q b s c).2 = 0) : thC l n (thSy l n [] q b s c).1 = true := by
  unfold thSy at h ⊢
  by_cases h1 : (chkT l n && (decide (q.length = l.length) && decide (b.length = l.length))) = true
  case neg => rw [if_neg h1] at h; cases h
  rw [if_pos h1] at h ⊢
  by_cases h2 : allN l.length (fun i => decide ((syE l [] q b s c i).2 = 0)) = true
  case neg => rw [if_neg h2] at h; cases h
  rw [if_pos h2]
  simp only [zau, decide_eq_true_eq] at h1
  have hV := (chkT_iff l n).1 h1.1
  have hE : ∀ i, i < l.length → syE l [] q b s c i = (pn0 (gN l i).i (q.getD i 0) (b.getD i 0) s c, 0) ∧ pck (pn0 (gN l i).i (q.getD i 0) (b.getD i 0) s c) = true := fun i hi => by
    have h3 := of_decide_eq_true ((allN_iff _ _).1 h2 i hi)
    have e : syE l [] q b s c i = pnew (gN l i).i (q.getD i 0) (b.getD i 0) s c := by unfold syE; rw [if_pos (by show (-1 : Int) < 0; decide)]
    rw [e] at h3 ⊢
    unfold pnew at h3 ⊢
    split at h3
    · cases h3
    · rename_i h4
      rw [if_neg h4]
      split at h3
      · cases h3
      · rename_i h5
        rw [if_neg h5]
        exact ⟨rfl, by revert h5; cases pck (pn0 (gN l i).i (q.getD i 0) (b.getD i 0) s c) <;> simp⟩
  have hat : ∀ i, i < l.length → gP (syN (syE l [] q b s c) l.length) i = pn0 (gN l i).i (q.getD i 0) (b.getD i 0) s c := fun i hi => by
    have : gP (syN (syE l [] q b s c) l.length) i = (syE l [] q b s c i).1 := by
      unfold syN gP
      simp [List.getD_eq_getElem?_getD, hi]
    rw [this, (hE i hi).1]
  have : Pv l n (syN (syE l [] q b s c) l.length) (c.toNat : Int) := pv_of hV (syN_len _ _) fun i hi => by
    rw [syN_len] at hi
    rw [hat i hi]
    exact ⟨rfl, (hE i hi).2, by simp [pn0]⟩
  exact this.ok
def lendQ : FuncId → List Nat := fun f => if f = 9 then [0] else if f = 10 then [0] else if f = 11 then [0] else if f = 19 then [0] else if f = 20 then [0] else if f = 24 then [0] else if f = 26 then [0] else []
set_option maxHeartbeats 64000000 in
theorem steps_spec (D : List Int) (sl cp : Int) (hr : ∀ x ∈ D, -9223372036854775808 ≤ x ∧ x ≤ 9223372036854775807) : FnSpec Tryz.prog 4 [gi D none, i1 sl, i1 cp] [] (b1 true) [] := by
  by_cases hlen : (D.length : Int) ≤ 600
  case neg =>
    refine fnspec_of mixed TT_ok TT_cl ⟨fun _ => false, lendQ, 0, fun _ => false, fun _ => false⟩ Tryz.func4 rfl (by kernel_rfl) rfl 200 rfl [.tmp 6] rfl ?_
    simp only [go_sem, zaa, zai, zaj, zak, zam, zah, ↓reduceIte, reduceCtorEq, zac, zae, zan, zao, zap, decide_eq_false hlen, lendQ]
    repeat' (first
 | (apply cl_plain
    case hs => rfl
    case ha => (simp only [zaf, zag, prepV, prepC, idx, hpL', lookR, zaa, if_true, if_false]; rfl)
    case h => (first | exact light_spec .. | exact thsane_spec ..))
 | ((first | refine s1_id ?_ | refine swp_id ?_ | refine sops_id ?_ | refine s2_id ?_); simp only [decide_eq_false hlen, lendQ, go_sem, zaa, zai, zaj, zak, zam, zah, ↓reduceIte, reduceCtorEq, zac, zae, zan, zao, zap, zaO, zaQ, zaB, zaP, renO, bk, back, outUpsFrom, Ints_ren])
 | exact fs_nil trivial rfl
 | fail)
  have hl : D.length ≤ 600 := by omega
  have t1 := tree_spec D hl hr 0 7 (by decide)
  have hti := mkT_ok D 0 7
  generalize mkT D 0 7 = T at *
  obtain ⟨⟨l, n⟩, j1⟩ := T
  simp only at t1 hti
  have t2 := tree_spec D hl hr j1 7 (by decide)
  have hti2 := mkT_ok D j1 7
  generalize mkT D j1 7 = T at *
  obtain ⟨⟨l2, n'⟩, j1'⟩ := T
  simp only at t2 hti2
  have hV := hti.v.vt
  have hV2 := hti2.v.vt
  have hle := hti.len
  have hle2 := hti2.len
  have hnl := nd_len l
  have n1 := next_spec D j1' 3 hl hr (by decide)
  have r1 := nx_rng D j1' 3 (by decide)
  generalize nxV D j1' 3 = v1 at *
  generalize nxA D j1' 3 = j2 at *
  have p1 := mkpools_spec D hl hr j2 l n (1 + v1) hV hti.nr (by omega)
  have hP := mkP_ok (D := D) hV (c := 1 + v1) (by omega) j2
  generalize mkP D l n (1 + v1) j2 = q at *
  obtain ⟨P, j3⟩ := q
  simp only at p1 hP
  have hPl := hP.len
  have hall := hP.all
  have o1 := odd_spec D hl hr j3 P (by omega) (by omega) (fun x hx => pck_len (hall x hx)) (fun x hx => by have := (nums (hall x hx)).g; omega)
  have r3 := nx_rng D j3 P.length (by omega)
  have hO := odM_rz hP (nxV D j3 P.length).toNat (nxV D (nxA D j3 P.length) 5) (by omega)
  have hOe : (odP D P j3).1 = odM P (nxV D j3 P.length).toNat (nxV D (nxA D j3 P.length) 5) := rfl
  rw [← hOe] at hO
  clear hOe r3
  generalize odP D P j3 = q at *
  obtain ⟨O, j4⟩ := q
  simp only at o1 hO
  have hPr : ∀ x ∈ P, Rz x := fun x hx => rz_of (hall x hx)
  have hct := hV.ctr
  have hnr := hti.nr
  obtain ⟨E, hE⟩ : ∃ E : List Cell, [.gsl (Cs P) 0 P.length none, .gsl (Cs O) 0 O.length none] = E := ⟨_, rfl⟩
  have hEg : ∀ m : Nat, m < 2 → ∃ Y : List Pl, (∀ d, E.getD m d = .gsl (Cs Y) 0 Y.length none) ∧ Y.length ≤ 64 ∧ ∀ x ∈ Y, Rz x := fun m hm => by
    have hm2 : m = 0 ∨ m = 1 := by omega
    rcases hm2 with rfl | rfl
    · exact ⟨P, fun d => by rw [← hE]; rfl, by omega, hPr⟩
    · exact ⟨O, fun d => by rw [← hE]; rfl, by omega, hO.2⟩
  have hEl : E.length = 2 := by rw [← hE]; rfl
  have hEf : flat E := by
    rw [← hE]
    intro c hc
    simp only [zaU, zad, or_false] at hc
    rcases hc with rfl | rfl <;> rfl
  obtain ⟨F, hF⟩ : ∃ F : List Cell, [.gsl (Cs l) 0 l.length none, int n, .gsl (Cs l2) 0 l2.length none, int n'] = F := ⟨_, rfl⟩
  have hFg : ∀ m : Nat, m < 2 → ∃ (K : List Nd) (nk : Int), zbl 2 (List.drop (m * 2) F) = [.gsl (Cs K) 0 K.length none, int nk] ∧ TI K nk 8 := fun m hm => by
    have hm2 : m = 0 ∨ m = 1 := by omega
    rcases hm2 with rfl | rfl
    · exact ⟨l, n, by rw [← hF]; rfl, hti⟩
    · exact ⟨l2, n', by rw [← hF]; rfl, hti2⟩
  have hFl : F.length = 4 := by rw [← hF]; rfl
  have hFf : flat F := by
    rw [← hF]
    intro c hc
    simp only [zaU, zad, or_false] at hc
    rcases hc with rfl | rfl | rfl | rfl <;> rfl
  clear hP hall hO hPr
  refine fnspec_of mixed TT_ok TT_cl ⟨fun _ => false, lendQ, 0, fun _ => false, fun _ => false⟩ Tryz.func4 rfl (by kernel_rfl) rfl 200 rfl [.tmp 6] rfl ?_
  simp only [go_sem, zaa, zai, zaj, zak, zam, zah, ↓reduceIte, reduceCtorEq, zac, zae, zan, zao, zap, decide_eq_true hlen, lendQ, hE]
  repeat' (first
 | with_reducible refine zav ?_ ?_
 | (apply cl_plain
    case hs => rfl
    case ha => (simp only [zaf, zag, prepV, prepC, idx, hpL', lookR, zaa, if_true, if_false]; rfl)
    case h => (first | exact light_spec .. | exact roll_spec .. | exact t1 .. | exact t2 .. | exact n1 .. | exact p1 .. | exact o1 ..))
 | (apply cl_lend
    case hr => (simp only [zaf, zag, hpL', lookR, zaa, if_true, if_false]; first | exact map1 _ | exact map2 _ _ | exact map3 _ _ _)
    case ha => (simp only [zaf, zag, prepV, prepC, idx, hpL', lookR, zaa, if_true, if_false]; rfl)
    case hs => rfl
    case hn => decide
    case h => (first | exact light_spec .. | exact roll_spec .. | exact t1 .. | exact t2 .. | exact n1 .. | exact p1 .. | exact o1 ..)
    case hf => (simp only [zab, zad, false_implies, implies_true, and_true, true_and, flat_cons, flat_nil, flat_ints, flat_bools, flat_app, Cs_flat, zaJ, and_self, eq_self_iff_true, zal])
    case hl => (simp only [zay, zaz]; decide))
 | ((first | refine s1_id ?_ | refine swp_id ?_ | refine sops_id ?_ | refine s2_id ?_); simp only [decide_eq_true hlen, lendQ, dice, hE, go_sem, zaa, zai, zaj, zak, zam, zah, ↓reduceIte, reduceCtorEq, zac, zae, zan, zao, zap, zaO, zaQ, zaB, zaP, renO, bk, back, outUpsFrom, Ints_ren])
 | (intros; omega)
 | (intros; (try simp only [zau, zax, zat, zas, zaq, zar, decide_eq_true_eq, decide_eq_false_iff_not] at *); omega))
  refine w_loop (ι := Nat × Nat) (fun s => ⟨[(1, i1 sl), (2, i1 cp), (7, dp), (8, .one (.optr 1 0)), (9, .one (.optr 2 0)), (10, i1 (1 + v1)), (52, .one (.osl 3 0 2 (some 2))), (53, i1 2), (54, i1 s.1)], [(0, some (dice D s.2)), (1, some ⟨[.gsl (Cs l) 0 l.length none, int n], 2⟩), (2, some ⟨[.gsl (Cs l2) 0 l2.length none, int n'], 2⟩), (3, some ⟨E, 1⟩)], 4⟩) (fun s => s.1 ≤ 2) (fun s => 2 - s.1) (0, j4) ?_ (zaY _) ?_
  · (refine imp_ren _ _ _ [(0, 5, dice D j4), (1, 11, ⟨[.gsl (Cs l) 0 l.length none, int n], 2⟩), (2, 12, ⟨[.gsl (Cs l2) 0 l2.length none, int n'], 2⟩), (3, 28, ⟨E, 1⟩)] (by simp) (by simp) (by simp) (zaA rfl) ?_ rfl (by simp only [zab, zad, false_implies, implies_true, and_true, zaT, lookR, zaa, if_true, if_false, ↓reduceIte, dice, hEf] <;> (repeat' apply zav) <;> (first | rfl | trivial)) (by simp only [zab, zad, false_implies, implies_true, and_true, true_and, flat_cons, flat_nil, flat_ints, flat_bools, flat_app, zaJ, and_self, eq_self_iff_true, zal, dice, hEf]); simp only [zaf, zag, zab, zad, false_implies, implies_true, and_true, lk, slot, zaO, zaB, toN, zaa, if_true, if_false, ↓reduceIte, reduceCtorEq])
    all_goals ((repeat' apply zav) <;> (first | rfl | trivial))
  clear t1 t2 n1 p1 o1 hE
  rintro ⟨m, j⟩ hm
  simp only at hm ⊢
  rcases zbb m 2 with hlt | hge
  case inr =>
    have c : ¬ (m : Int) < 2 := by omega
    simp only [go_sem, zaa, zai, zaj, zak, zam, zah, ↓reduceIte, reduceCtorEq, zac, zae, zan, zao, zap, decide_eq_false c, lendQ]
    repeat' (first
 | (apply cl_plain
    case hs => rfl
    case ha => (simp only [zaf, zag, prepV, prepC, idx, hpL', lookR, zaa, if_true, if_false]; rfl)
    case h => (first | exact thsane_spec ..))
 | ((first | refine s1_id ?_ | refine swp_id ?_ | refine sops_id ?_ | refine s2_id ?_); simp only [decide_eq_false c, lendQ, go_sem, zaa, zai, zaj, zak, zam, zah, ↓reduceIte, reduceCtorEq, zac, zae, zan, zao, zap, zaO, zaQ, zaB, zaP, renO, bk, back, outUpsFrom, Ints_ren])
 | exact fs_nil trivial rfl
 | fail)
  have c : (m : Int) < 2 := by omega
  obtain ⟨Y, hY, hYl, hYr⟩ := hEg m hlt
  have n4 := next_spec D j 4 hl hr (by decide)
  have r4 := nx_rng D j 4 (by decide)
  generalize nxV D j 4 = v4 at *
  generalize nxA D j 4 = j5 at *
  simp only [go_sem, zaa, zai, zaj, zak, zam, zah, ↓reduceIte, reduceCtorEq, zac, zae, zan, zao, zap, decide_eq_true c, lendQ, hY]
  repeat' (first
 | with_reducible refine zav ?_ ?_
 | (apply cl_lend
    case hr => (simp only [zaf, zag, hpL', lookR, zaa, if_true, if_false]; first | exact map1 _ | exact map2 _ _ | exact map3 _ _ _)
    case ha => (simp only [zaf, zag, prepV, prepC, idx, hpL', lookR, zaa, if_true, if_false]; rfl)
    case hs => rfl
    case hn => decide
    case h => (first | exact n4 ..)
    case hf => (simp only [zab, zad, false_implies, implies_true, and_true, true_and, flat_cons, flat_nil, flat_ints, flat_bools, flat_app, Cs_flat, zaJ, and_self, eq_self_iff_true, zal])
    case hl => (simp only [zay, zaz]; decide))
 | ((first | refine s1_id ?_ | refine swp_id ?_ | refine sops_id ?_ | refine s2_id ?_); simp only [decide_eq_true c, lendQ, dice, hY, go_sem, zaa, zai, zaj, zak, zam, zah, ↓reduceIte, reduceCtorEq, zac, zae, zan, zao, zap, zaO, zaQ, zaB, zaP, renO, bk, back, outUpsFrom, Ints_ren])
 | (intros; omega)
 | (intros; (try simp only [zau, zax, zat, zas, zaq, zar, decide_eq_true_eq, decide_eq_false_iff_not] at *); omega))
  obtain ⟨W, hW⟩ : ∃ W : List Int, [cp, v4 - 1, 0] = W := ⟨_, rfl⟩
  have hWl : W.length = 3 := by rw [← hW]; rfl
  refine w_loop (ι := Nat × Nat) (fun s => ⟨[(1, i1 sl), (2, i1 cp), (7, dp), (8, .one (.optr 1 0)), (9, .one (.optr 2 0)), (10, i1 (1 + v1)), (13, gr Y none), (52, .one (.osl 3 0 2 (some 2))), (53, i1 2), (54, i1 m), (62, .one (.osl 4 0 3 (some 3))), (63, i1 3), (64, i1 s.1)], [(0, some (dice D s.2)), (1, some ⟨[.gsl (Cs l) 0 l.length none, int n], 2⟩), (2, some ⟨[.gsl (Cs l2) 0 l2.length none, int n'], 2⟩), (3, some ⟨E, 1⟩), (4, some ⟨Ints W, 1⟩)], 5⟩) (fun s => s.1 ≤ 3) (fun s => 3 - s.1) (0, j5) ?_ (zaY _) ?_
  · (refine imp_ren _ _ _ [(0, 0, dice D j5), (1, 1, ⟨[.gsl (Cs l) 0 l.length none, int n], 2⟩), (2, 2, ⟨[.gsl (Cs l2) 0 l2.length none, int n'], 2⟩), (3, 3, ⟨E, 1⟩), (4, 12, ⟨Ints W, 1⟩)] (by simp) (by simp) (by simp) (zaA rfl) ?_ rfl (by simp only [zab, zad, false_implies, implies_true, and_true, zaT, lookR, zaa, if_true, if_false, ↓reduceIte, dice, hEf, hW] <;> (repeat' apply zav) <;> (first | rfl | trivial)) (by simp only [zab, zad, false_implies, implies_true, and_true, true_and, flat_cons, flat_nil, flat_ints, flat_bools, flat_app, zaJ, and_self, eq_self_iff_true, zal, dice, hEf, hW]); simp only [zaf, zag, zab, zad, false_implies, implies_true, and_true, lk, slot, zaO, zaB, toN, zaa, if_true, if_false, ↓reduceIte, reduceCtorEq])
    all_goals ((repeat' apply zav) <;> (first | rfl | trivial))
  clear n4 hW
  rintro ⟨a, ja⟩ ha
  simp only at ha ⊢
  rcases zbb a 3 with halt | hage
  case inl =>
    have c2 : (a : Int) < 3 := by omega
    have d1 := dgroup_spec D hl hr ja l n hle.1 hle.2
    generalize dgV D l ja = g at *
    generalize dgA D l ja = jb at *
    have s1 := thspend_spec l n Y none g (W.getD a 0) (by omega) (by omega) hnr hct
    have s2 := rthspend_spec l n Y none g (W.getD a 0) (by omega) (by omega) hnr (fun x hx => (hYr x hx).sm) (fun x hx => (hYr x hx).wk) (fun x hx => (hYr x hx).l1)
    have sm1 := thSp_sm l n Y g (W.getD a 0)
    have s3 := rthsame_spec (thSp l n Y g (W.getD a 0)).1 none none (by omega) sm1.2
    have s4 := thidle_spec l n Y none (W.getD a 0) (by omega) (by omega) hnr hct
    have s5 := rthidle_spec l n Y none (W.getD a 0) (by omega) (by omega) hnr (fun x hx => (hYr x hx).sm) (fun x hx => (hYr x hx).wk) (fun x hx => (hYr x hx).l1)
    have sm2 := thId_sm l n Y (W.getD a 0)
    have s6 := rthsame_spec (thId l n Y (W.getD a 0)) none none (by omega) sm2.2
    clear sm1 sm2
    generalize thSp l n Y g (W.getD a 0) = z at *
    obtain ⟨z1, z2⟩ := z
    simp only at s1 s2 s3
    generalize thId l n Y (W.getD a 0) = Z at *
    simp only [go_sem, zaa, zai, zaj, zak, zam, zah, ↓reduceIte, reduceCtorEq, zac, zae, zan, zao, zap, decide_eq_true c2, lendQ]
    repeat' (first
 | with_reducible refine zav ?_ ?_
 | (unfold OKC; kernel_rfl)
 | (unfold EDG; kernel_rfl)
 | (apply cg_tp
    case hl => rfl
    case ha => (simp only [zaf, zag, prepV, prepC, idx, hpL', lookR, zaa, if_true, if_false]; rfl)
    case hs => rfl
    case h => (first | exact d1 .. | exact s1 .. | exact s2 .. | exact s3 .. | exact s4 .. | exact s5 .. | exact s6 ..))
 | (apply cl_plain
    case hs => rfl
    case ha => (simp only [zaf, zag, prepV, prepC, idx, hpL', lookR, zaa, if_true, if_false]; rfl)
    case h => (first | exact d1 .. | exact s1 .. | exact s2 .. | exact s3 .. | exact s4 .. | exact s5 .. | exact s6 ..))
 | (apply cl_lend
    case hr => (simp only [zaf, zag, hpL', lookR, zaa, if_true, if_false]; first | exact map1 _ | exact map2 _ _ | exact map3 _ _ _)
    case ha => (simp only [zaf, zag, prepV, prepC, idx, hpL', lookR, zaa, if_true, if_false]; rfl)
    case hs => rfl
    case hn => decide
    case h => (first | exact d1 .. | exact s1 .. | exact s2 .. | exact s3 .. | exact s4 .. | exact s5 .. | exact s6 ..)
    case hf => (simp only [zab, zad, false_implies, implies_true, and_true, true_and, flat_cons, flat_nil, flat_ints, flat_bools, flat_app, Cs_flat, zaJ, and_self, eq_self_iff_true, zal])
    case hl => (simp only [zay, zaz]; decide))
 | ((first | refine s1_id ?_ | refine swp_id ?_ | refine sops_id ?_ | refine s2_id ?_); simp only [decide_eq_true c2, lendQ, dice, beq_self_eq_true, zaF, zaH, zal, zaG, zaI, zaD, zaE, zaC, zaK, zaL, zay, zaz, go_sem, zaa, zai, zaj, zak, zam, zah, ↓reduceIte, reduceCtorEq, zac, zae, zan, zao, zap, zaO, zaQ, zaB, zaP, renO, bk, back, outUpsFrom, Ints_ren])
 | (intros; omega)
 | (intros; (try simp only [zau, zax, zat, zas, zaq, zar, decide_eq_true_eq, decide_eq_false_iff_not] at *); omega))
    refine le_mk (a + 1, jb) ?_ halt (by show 3 - (a + 1) < 3 - a; omega)
    (refine imp_ren _ _ _ [(0, 0, dice D jb), (1, 1, ⟨[.gsl (Cs l) 0 l.length none, int n], 2⟩), (2, 2, ⟨[.gsl (Cs l2) 0 l2.length none, int n'], 2⟩), (3, 3, ⟨E, 1⟩), (4, 4, ⟨Ints W, 1⟩)] (by simp) (by simp) (by simp) (zaA rfl) ?_ rfl (by simp only [zab, zad, false_implies, implies_true, and_true, zaT, lookR, zaa, if_true, if_false, ↓reduceIte, dice, hEf] <;> (repeat' apply zav) <;> (first | rfl | trivial)) (by simp only [zab, zad, false_implies, implies_true, and_true, true_and, flat_cons, flat_nil, flat_ints, flat_bools, flat_app, zaJ, and_self, eq_self_iff_true, zal, dice, hEf]); simp only [zaf, zag, zab, zad, false_implies, implies_true, and_true, lk, slot, zaO, zaB, toN, zaa, if_true, if_false, ↓reduceIte, reduceCtorEq])
    all_goals ((repeat' apply zav) <;> (first | rfl | trivial | (simp only [zaw]; done) | (simp only [zaw]; rfl) | (simp only [zaw]; trivial)))
  case inr =>
  have c2 : ¬ (a : Int) < 3 := by omega
  have e1 := dsome_spec D hl hr ja
  have e0 := dsV_len D ja
  generalize dsV D ja = w at *
  obtain ⟨due, jc⟩ := w
  simp only at e1 e0
  have e2 := threfill_spec l n Y none due none (by omega) (by omega) (by omega) hnr hct
  have e3 := rthrefill_spec l n Y none due none (by omega) (by omega) (by omega) hnr (fun x hx => (hYr x hx).sm) (fun x hx => (hYr x hx).wk) (fun x hx => (hYr x hx).l1)
  have sm3 := thRf_sm l n Y due
  have e4 := rthsame_spec (thRf l n Y due) none none (by omega) sm3.2
  clear sm3
  generalize thRf l n Y due = Z at *
  simp only [go_sem, zaa, zai, zaj, zak, zam, zah, ↓reduceIte, reduceCtorEq, zac, zae, zan, zao, zap, decide_eq_false c2, lendQ, hF]
  repeat' (first
 | with_reducible refine zav ?_ ?_
 | (unfold OKC; kernel_rfl)
 | (unfold EDG; kernel_rfl)
 | (apply cl_plain
    case hs => rfl
    case ha => (simp only [zaf, zag, prepV, prepC, idx, hpL', lookR, zaa, if_true, if_false]; rfl)
    case h => (first | exact e1 .. | exact e2 .. | exact e3 .. | exact e4 ..))
 | (apply cl_lend
    case hr => (simp only [zaf, zag, hpL', lookR, zaa, if_true, if_false]; first | exact map1 _ | exact map2 _ _ | exact map3 _ _ _)
    case ha => (simp only [zaf, zag, prepV, prepC, idx, hpL', lookR, zaa, if_true, if_false]; rfl)
    case hs => rfl
    case hn => decide
    case h => (first | exact e1 .. | exact e2 .. | exact e3 .. | exact e4 ..)
    case hf => (simp only [zab, zad, false_implies, implies_true, and_true, true_and, flat_cons, flat_nil, flat_ints, flat_bools, flat_app, Cs_flat, zaJ, and_self, eq_self_iff_true, zal])
    case hl => (simp only [zay, zaz]; decide))
 | ((first | refine s1_id ?_ | refine swp_id ?_ | refine sops_id ?_ | refine s2_id ?_); simp only [decide_eq_false c2, lendQ, dice, hF, zaF, zaH, zal, zaG, zaI, zaD, zaE, zaC, zaK, zaL, zay, zaz, go_sem, zaa, zai, zaj, zak, zam, zah, ↓reduceIte, reduceCtorEq, zac, zae, zan, zao, zap, zaO, zaQ, zaB, zaP, renO, bk, back, outUpsFrom, Ints_ren])
 | (intros; (try simp only [zau, zax, zat, zas, zaq, zar, decide_eq_true_eq, decide_eq_false_iff_not] at *); omega))
  refine w_loop (ι := Nat × Nat) (fun s => ⟨[(1, i1 sl), (2, i1 cp), (7, dp), (8, .one (.optr 1 0)), (9, .one (.optr 2 0)), (10, i1 (1 + v1)), (13, gr Y none), (52, .one (.osl 3 0 2 (some 2))), (53, i1 2), (54, i1 m), (123, .one (.osl 4 0 2 (some 2))), (124, i1 2), (125, i1 s.1)], [(0, some (dice D s.2)), (1, some ⟨[.gsl (Cs l) 0 l.length none, int n], 2⟩), (2, some ⟨[.gsl (Cs l2) 0 l2.length none, int n'], 2⟩), (3, some ⟨E, 1⟩), (4, some ⟨F, 2⟩)], 5⟩) (fun s => s.1 ≤ 2) (fun s => 2 - s.1) (0, jc) ?_ (zaY _) ?_
  · (refine imp_ren _ _ _ [(0, 0, dice D jc), (1, 1, ⟨[.gsl (Cs l) 0 l.length none, int n], 2⟩), (2, 2, ⟨[.gsl (Cs l2) 0 l2.length none, int n'], 2⟩), (3, 3, ⟨E, 1⟩), (4, 21, ⟨F, 2⟩)] (by simp) (by simp) (by simp) (zaA rfl) ?_ rfl (by simp only [zab, zad, false_implies, implies_true, and_true, zaT, lookR, zaa, if_true, if_false, ↓reduceIte, dice, hEf, hFf] <;> (repeat' apply zav) <;> (first | rfl | trivial)) (by simp only [zab, zad, false_implies, implies_true, and_true, true_and, flat_cons, flat_nil, flat_ints, flat_bools, flat_app, zaJ, and_self, eq_self_iff_true, zal, dice, hEf, hFf]); simp only [zaf, zag, zab, zad, false_implies, implies_true, and_true, lk, slot, zaO, zaB, toN, zaa, if_true, if_false, ↓reduceIte, reduceCtorEq])
    all_goals ((repeat' apply zav) <;> (first | rfl | trivial))
  clear e1 e2 e3 e4
  rintro ⟨u, ju⟩ hu
  simp only at hu ⊢
  rcases zbb u 2 with hult | huge
  case inr =>
    have c3 : ¬ (u : Int) < 2 := by omega
    simp only [go_sem, zaa, zai, zaj, zak, zam, zah, ↓reduceIte, reduceCtorEq, zac, zae, zan, zao, zap, decide_eq_false c3, lendQ]
    repeat' (first
 | with_reducible refine zav ?_ ?_
 | (intros; omega)
 | (intros; (try simp only [zau, zax, zat, zas, zaq, zar, decide_eq_true_eq, decide_eq_false_iff_not] at *); omega))
    refine le_mk (m + 1, ju) ?_ hlt (by show 2 - (m + 1) < 2 - m; omega)
    (refine imp_ren _ _ _ [(0, 0, dice D ju), (1, 1, ⟨[.gsl (Cs l) 0 l.length none, int n], 2⟩), (2, 2, ⟨[.gsl (Cs l2) 0 l2.length none, int n'], 2⟩), (3, 3, ⟨E, 1⟩)] (by simp) (by simp) (by simp) (zaA rfl) ?_ rfl (by simp only [zab, zad, false_implies, implies_true, and_true, zaT, lookR, zaa, if_true, if_false, ↓reduceIte, dice, hEf] <;> (repeat' apply zav) <;> (first | rfl | trivial)) (by simp only [zab, zad, false_implies, implies_true, and_true, true_and, flat_cons, flat_nil, flat_ints, flat_bools, flat_app, zaJ, and_self, eq_self_iff_true, zal, dice, hEf]); simp only [zaf, zag, zab, zad, false_implies, implies_true, and_true, lk, slot, zaO, zaB, toN, zaa, if_true, if_false, ↓reduceIte, reduceCtorEq])
    all_goals ((repeat' apply zav) <;> (first | rfl | trivial | (simp only [zaw]; done) | (simp only [zaw]; rfl) | (simp only [zaw]; trivial)))
  have c3 : (u : Int) < 2 := by omega
  obtain ⟨K, nk, hK, hKt⟩ := hFg u hult
  have hVK := hKt.v.vt
  have hKl := hKt.len
  have n8 := next_spec D ju 8 hl hr (by decide)
  have r8 := nx_rng D ju 8 (by decide)
  obtain ⟨N, hN⟩ : ∃ N : Nat, (K.length : Int) + (nxV D ju 8).tdiv 7 = N ∧ N ≤ 1000 := by
    have h7 : 0 ≤ (nxV D ju 8).tdiv 7 ∧ (nxV D ju 8).tdiv 7 ≤ 1 := by
      rw [Int.tdiv_eq_ediv_of_nonneg r8.1]; omega
    exact ⟨((K.length : Int) + (nxV D ju 8).tdiv 7).toNat, by omega, by omega⟩
  generalize nxV D ju 8 = v8 at *
  generalize nxA D ju 8 = k1 at *
  have nu := numbers_spec D hl hr k1 N (by omega)
  have nuo := mkNu_ok D k1 N
  generalize mkNu D k1 N = w at *
  obtain ⟨⟨q, b⟩, k2⟩ := w
  simp only at nu nuo
  have n3 := next_spec D k2 3 hl hr (by decide)
  have r3 := nx_rng D k2 3 (by decide)
  generalize nxV D k2 3 = v3 at *
  generalize nxA D k2 3 = k3 at *
  have n5 := next_spec D k3 3 hl hr (by decide)
  have r5 := nx_rng D k3 3 (by decide)
  obtain ⟨ix, hix⟩ : ∃ ix : Nat, nxV D k3 3 = ix := ⟨(nxV D k3 3).toNat, by omega⟩
  rw [hix] at n5 r5
  generalize nxA D k3 3 = k4 at *
  have n6 := next_spec D k4 18 hl hr (by decide)
  generalize nxV D k4 18 = v18 at *
  generalize nxA D k4 18 = k5 at *
  obtain ⟨V, hVe⟩ : ∃ V : List Int, [sl, 1 + v3, 1] = V := ⟨_, rfl⟩
  have hql : q.length = N := nuo.l1
  have hbl : b.length = N := nuo.l2
  have y1 := thsync_spec K nk Y none q b (V.getD ix 0) (1 + v1) none none (by omega) (by omega) (by omega) (by omega) hKt.nr hVK.ctr
  have y2 := rthsync_spec K nk Y none q b (V.getD ix 0) (1 + v1) none none (by omega) (by omega) (by omega) (by omega) hKt.nr (fun x hx => by have := nuo.b x hx; omega) (fun x hx => (hYr x hx).wk)
  have sm4 := thSy_sm (l := K) (n := nk) (fun x hx => (hYr x hx).l1) hKl.2 q b (V.getD ix 0) (1 + v1)
  have y3 := rthsame_spec (thSy K nk Y q b (V.getD ix 0) (1 + v1)).1 none none (by omega) sm4.2
  have y4 := thnew_spec K nk q b (V.getD ix 0) v18 none none (by omega) (by omega) (by omega) hKt.nr hVK.ctr
  have y5 := fun h => thSy_new (l := K) (n := nk) (q := q) (b := b) (s := V.getD ix 0) (c := v18) h
  clear sm4
  generalize thSy K nk Y q b (V.getD ix 0) (1 + v1) = z at *
  obtain ⟨z1, z2⟩ := z
  generalize thSy K nk [] q b (V.getD ix 0) v18 = x at *
  obtain ⟨x1, x2⟩ := x
  simp only at y1 y2 y3 y4 y5
  have hkl := nd_len K
  have hVlen : V.length = 3 := by rw [← hVe]; rfl
  by_cases hx2 : x2 = 0
  · have hxc := y5 hx2
    have hxv := pv_of_thC hxc
    have y6 := rthck_spec K nk x1 none (by omega) (by have := hxv.len; omega) hKt.nr (fun x hx => smp_of (hxv.all x hx))
    rw [hxc] at y6
    simp only [go_sem, zaa, zai, zaj, zak, zam, zah, ↓reduceIte, reduceCtorEq, zac, zae, zan, zao, zap, decide_eq_true c3, lendQ, hK, hN.1, hVe, hix]
    repeat' (first
 | with_reducible refine zav ?_ ?_
 | (unfold OKC; kernel_rfl)
 | (unfold EDG; kernel_rfl)
 | (apply cg_tp
    case hl => rfl
    case ha => (simp only [zaf, zag, prepV, prepC, idx, hpL', lookR, zaa, if_true, if_false]; rfl)
    case hs => rfl
    case h => (first | exact n8 .. | exact nu .. | exact n3 .. | exact n5 .. | exact n6 .. | exact y1 .. | exact y2 .. | exact y3 .. | exact y4 .. | exact y6 ..))
 | (apply cl_plain
    case hs => rfl
    case ha => (simp only [zaf, zag, prepV, prepC, idx, hpL', lookR, zaa, if_true, if_false]; rfl)
    case h => (first | exact n8 .. | exact nu .. | exact n3 .. | exact n5 .. | exact n6 .. | exact y1 .. | exact y2 .. | exact y3 .. | exact y4 .. | exact y6 ..))
 | (apply cl_lend
    case hr => (simp only [zaf, zag, hpL', lookR, zaa, if_true, if_false]; first | exact map1 _ | exact map2 _ _ | exact map3 _ _ _)
    case ha => (simp only [zaf, zag, prepV, prepC, idx, hpL', lookR, zaa, if_true, if_false]; rfl)
    case hs => rfl
    case hn => decide
    case h => (first | exact n8 .. | exact nu .. | exact n3 .. | exact n5 .. | exact n6 .. | exact y1 .. | exact y2 .. | exact y3 .. | exact y4 .. | exact y6 ..)
    case hf => (simp only [zab, zad, false_implies, implies_true, and_true, true_and, flat_cons, flat_nil, flat_ints, flat_bools, flat_app, Cs_flat, zaJ, and_self, eq_self_iff_true, zal])
    case hl => (simp only [zay, zaz]; decide))
 | ((first | refine s1_id ?_ | refine swp_id ?_ | refine sops_id ?_ | refine s2_id ?_); simp only [decide_eq_true c3, lendQ, dice, hK, hN.1, hVe, hix, beq_self_eq_true, decide_eq_true hx2, zaF, zaH, zal, zaG, zaI, zaD, zaE, zaC, zaK, zaL, zay, zaz, go_sem, zaa, zai, zaj, zak, zam, zah, ↓reduceIte, reduceCtorEq, zac, zae, zan, zao, zap, zaO, zaQ, zaB, zaP, renO, bk, back, outUpsFrom, Ints_ren])
 | (intros; omega)
 | (intros; (try simp only [zau, zax, zat, zas, zaq, zar, decide_eq_true_eq, decide_eq_false_iff_not] at *); omega))
    refine le_mk (u + 1, k5) ?_ hult (by show 2 - (u + 1) < 2 - u; omega)
    (refine imp_ren _ _ _ [(0, 0, dice D k5), (1, 1, ⟨[.gsl (Cs l) 0 l.length none, int n], 2⟩), (2, 2, ⟨[.gsl (Cs l2) 0 l2.length none, int n'], 2⟩), (3, 3, ⟨E, 1⟩), (4, 4, ⟨F, 2⟩)] (by simp) (by simp) (by simp) (zaA rfl) ?_ rfl (by simp only [zab, zad, false_implies, implies_true, and_true, zaT, lookR, zaa, if_true, if_false, ↓reduceIte, dice, hEf, hFf] <;> (repeat' apply zav) <;> (first | rfl | trivial)) (by simp only [zab, zad, false_implies, implies_true, and_true, true_and, flat_cons, flat_nil, flat_ints, flat_bools, flat_app, zaJ, and_self, eq_self_iff_true, zal, dice, hEf, hFf]); simp only [zaf, zag, zab, zad, false_implies, implies_true, and_true, lk, slot, zaO, zaB, toN, zaa, if_true, if_false, ↓reduceIte, reduceCtorEq])
    all_goals ((repeat' apply zav) <;> (first | rfl | trivial | (simp only [zaw]; done) | (simp only [zaw]; rfl) | (simp only [zaw]; trivial)))
  · simp only [go_sem, zaa, zai, zaj, zak, zam, zah, ↓reduceIte, reduceCtorEq, zac, zae, zan, zao, zap, decide_eq_true c3, lendQ, hK, hN.1, hVe, hix]
    repeat' (first
 | with_reducible refine zav ?_ ?_
 | (unfold OKC; kernel_rfl)
 | (unfold EDG; kernel_rfl)
 | (apply cg_tp
    case hl => rfl
    case ha => (simp only [zaf, zag, prepV, prepC, idx, hpL', lookR, zaa, if_true, if_false]; rfl)
    case hs => rfl
    case h => (first | exact n8 .. | exact nu .. | exact n3 .. | exact n5 .. | exact n6 .. | exact y1 .. | exact y2 .. | exact y3 .. | exact y4 ..))
 | (apply cl_plain
    case hs => rfl
    case ha => (simp only [zaf, zag, prepV, prepC, idx, hpL', lookR, zaa, if_true, if_false]; rfl)
    case h => (first | exact n8 .. | exact nu .. | exact n3 .. | exact n5 .. | exact n6 .. | exact y1 .. | exact y2 .. | exact y3 .. | exact y4 ..))
 | (apply cl_lend
    case hr => (simp only [zaf, zag, hpL', lookR, zaa, if_true, if_false]; first | exact map1 _ | exact map2 _ _ | exact map3 _ _ _)
    case ha => (simp only [zaf, zag, prepV, prepC, idx, hpL', lookR, zaa, if_true, if_false]; rfl)
    case hs => rfl
    case hn => decide
    case h => (first | exact n8 .. | exact nu .. | exact n3 .. | exact n5 .. | exact n6 .. | exact y1 .. | exact y2 .. | exact y3 .. | exact y4 ..)
    case hf => (simp only [zab, zad, false_implies, implies_true, and_true, true_and, flat_cons, flat_nil, flat_ints, flat_bools, flat_app, Cs_flat, zaJ, and_self, eq_self_iff_true, zal])
    case hl => (simp only [zay, zaz]; decide))
 | ((first | refine s1_id ?_ | refine swp_id ?_ | refine sops_id ?_ | refine s2_id ?_); simp only [decide_eq_true c3, lendQ, dice, hK, hN.1, hVe, hix, beq_self_eq_true, decide_eq_false hx2, zaF, zaH, zal, zaG, zaI, zaD, zaE, zaC, zaK, zaL, zay, zaz, go_sem, zaa, zai, zaj, zak, zam, zah, ↓reduceIte, reduceCtorEq, zac, zae, zan, zao, zap, zaO, zaQ, zaB, zaP, renO, bk, back, outUpsFrom, Ints_ren])
 | (intros; omega)
 | (intros; (try simp only [zau, zax, zat, zas, zaq, zar, decide_eq_true_eq, decide_eq_false_iff_not] at *); omega))
    refine le_mk (u + 1, k5) ?_ hult (by show 2 - (u + 1) < 2 - u; omega)
    (refine imp_ren _ _ _ [(0, 0, dice D k5), (1, 1, ⟨[.gsl (Cs l) 0 l.length none, int n], 2⟩), (2, 2, ⟨[.gsl (Cs l2) 0 l2.length none, int n'], 2⟩), (3, 3, ⟨E, 1⟩), (4, 4, ⟨F, 2⟩)] (by simp) (by simp) (by simp) (zaA rfl) ?_ rfl (by simp only [zab, zad, false_implies, implies_true, and_true, zaT, lookR, zaa, if_true, if_false, ↓reduceIte, dice, hEf, hFf] <;> (repeat' apply zav) <;> (first | rfl | trivial)) (by simp only [zab, zad, false_implies, implies_true, and_true, true_and, flat_cons, flat_nil, flat_ints, flat_bools, flat_app, zaJ, and_self, eq_self_iff_true, zal, dice, hEf, hFf]); simp only [zaf, zag, zab, zad, false_implies, implies_true, and_true, lk, slot, zaO, zaB, toN, zaa, if_true, if_false, ↓reduceIte, reduceCtorEq])
    all_goals ((repeat' apply zav) <;> (first | rfl | trivial | (simp only [zaw]; done) | (simp only [zaw]; rfl) | (simp only [zaw]; trivial)))
theorem steps_main (g0 : List Cell) (s0 : GTy Tryz.prog 12 22 g0) (g1 : List Cell) (s1 : GTy Tryz.prog 12 3 g1) (g2 : List Cell) (s2 : GTy Tryz.prog 12 3 g2) : FnSpec Tryz.prog 4 [svOf Tryz.prog 22 g0, svOf Tryz.prog 3 g1, svOf Tryz.prog 3 g2] [] (b1 true) [] := by
  obtain ⟨l, rfl, hl, hr⟩ := gty_ints (n := 10) Tryz.underlying22 Tryz.underlying3 s0
  obtain ⟨a, rfl, _⟩ := gty_int (n := 11) Tryz.underlying3 s1
  obtain ⟨b, rfl, _⟩ := gty_int (n := 11) Tryz.underlying3 s2
  simp only [svOf, Tryz.underlying22, Tryz.underlying3, List.headD_cons]
  exact steps_spec l a b hr
end Go.Proofs.YtcnilpdlcmpbbaaGreat
