/- Contracts of functions, told of values, on the way to ThrottleAllOrNone (part 8). -/
import Derived.Test.YtcnilpdlcmpbbaaThrottleAllOrNoneM3
import Derived.Test.YtcnilpdlcmpbbaaThrottleAllOrNoneM7
-- short names of the library's lemmas
open Nat renaming reduceEqDiff → zaa, reduceLeDiff → zaf, reduceAdd → zai, reduceSub → zaj, reduceMul → zak, reduceLT → zal, le_of_ble_eq_true → zay, zero_le → zaS
open List renaming reduceReplicate → zab, forall_mem_cons → zac, map_cons → zae, not_mem_nil → zag, map_nil → zah, append_nil → zap, length_nil → zau, length_cons → zav, take_succ_cons → zax, set_cons_zero → zaA, set_cons_succ → zaB, flatten_cons → zaD, cons_append → zaE, getD_cons_zero → zaF, getD_cons_succ → zaG, flatten_nil → zaH, nil_append → zaJ, take_zero → zaK, take_nil → zaN
open Int renaming cast_ofNat_Int → zad, reduceEq → zam, reduceLT → zan, reduceLE → zao, natCast_add → zaq, toNat_natCast → zaO
open Option renaming getD_some → zaL, getD_none → zaM
open Bool renaming and_eq_false_iff → zar, or_eq_false_iff → zat, not_eq_false' → zaw, not_eq_true' → zaz, and_eq_true → zaC, or_eq_true → zaI, false_eq_true → zaP, false_ne_true → zaQ, true_and → zaR
open And renaming intro → zas
-- NEWGO
-- PRUNE: cl_lendx cl_use
-- ISG: Cs_isG
-- FLAT: Cs_flat
namespace Go.Proofs.Ytcnilpdlcmpbbaa
set_option linter.unusedVariables false
set_option linter.unusedSimpArgs false
open Go.Proofs.Ytcnilpdlcmpbbaa.Sh
set_option maxRecDepth 20000
def lendP : FuncId → List Nat := fun f => if f = 12 then [0] else if f = 15 then [0] else if f = 22 then [0] else if f = 40 then [0] else if f = 36 then [0] else []
def plG (D : List Int) (l : List Nd) (n c : Int) (s : List Pl × Nat) : List Pl × Int := thSp l n s.1 (dgV D l s.2) (nxV D (dgA D l s.2) c)
def plP (D : List Int) (l : List Nd) (n c : Int) (s : List Pl × Nat) : List Pl := if (plG D l n c s).2 = 0 then (plG D l n c s).1 else s.1
def plJ (D : List Int) (l : List Nd) (c : Int) (s : List Pl × Nat) : Nat := nxA D (dgA D l s.2) c
def plS (D : List Int) (l : List Nd) (n c : Int) (s : List Pl × Nat) : List Pl × Nat :=
  if nxV D (plJ D l c s) 8 = 7 then (thRf l n (plP D l n c s) (dsV D (nxA D (plJ D l c s) 8)).1, (dsV D (nxA D (plJ D l c s) 8)).2) else (plP D l n c s, nxA D (plJ D l c s) 8)
def plL (D : List Int) (l : List Nd) (n c : Int) : Nat → List Pl × Nat → List Pl × Nat
  | 0, s => s
  | m + 1, s => plL D l n c m (plS D l n c s)
theorem plP_ok {D : List Int} {l : List Nd} {n c : Int} {s : List Pl × Nat} (h : Pv l n s.1 c) : Pv l n (plP D l n c s) c := by
  unfold plP
  split
  · rename_i e; exact h.sp (.inl e)
  · exact h
theorem plS_ok {D : List Int} {l : List Nd} {n c : Int} {s : List Pl × Nat} (h : Pv l n s.1 c) : Pv l n (plS D l n c s).1 c := by
  have h1 := plP_ok (D := D) h
  unfold plS
  split
  · exact h1.rf _
  · exact h1
theorem plL_ok {D : List Int} {l : List Nd} {n c : Int} : ∀ (m : Nat) {s : List Pl × Nat}, Pv l n s.1 c → Pv l n (plL D l n c m s).1 c
  | 0, s, h => h
  | m + 1, s, h => plL_ok m (plS_ok h)
def plQ (D : List Int) (l : List Nd) (j : Nat) : (List Int × List Int) × Nat := mkNu D j l.length
def plI (D : List Int) (l : List Nd) (c : Int) (j : Nat) : List Pl := nwN l (plQ D l j).1.1 (plQ D l j).1.2 (1 + nxV D (plQ D l j).2 3) c l.length
def mkP (D : List Int) (l : List Nd) (n c : Int) (j : Nat) : List Pl × Nat := plL D l n c (nxV D (nxA D (plQ D l j).2 3) 12).toNat (plI D l c j, nxA D (nxA D (plQ D l j).2 3) 12)
theorem plI_ok {D : List Int} {l : List Nd} {n c : Int} (hV : VT l n) (hc : 1 ≤ c ∧ c ≤ 16) (j : Nat) : Pv l n (plI D l c j) c := by
  have h3 := nx_rng D (plQ D l j).2 3 (by decide)
  exact (thNw_ok hV (mkNu_ok D j l.length) (by omega) hc).2.1
theorem mkP_ok {D : List Int} {l : List Nd} {n c : Int} (hV : VT l n) (hc : 1 ≤ c ∧ c ≤ 16) (j : Nat) : Pv l n (mkP D l n c j).1 c := plL_ok _ (plI_ok hV hc j)
set_option maxHeartbeats 16000000 in
theorem mkpools_spec (D : List Int) (hl : D.length ≤ 600) (hr : ∀ x ∈ D, -9223372036854775808 ≤ x ∧ x ≤ 9223372036854775807) (j : Nat) (l : List Nd) (n c : Int) (hV : VT l n) (hnm : NmR l) (hc : 1 ≤ c ∧ c ≤ 16) :
    FnSpec Try.prog 10 [dp, trV l none n, i1 c] [dice D j] (gr (mkP D l n c j).1 none) [some (dice D (mkP D l n c j).2)] := by
  have hnl := nd_len l
  have hle := hV.le
  have hne := hV.ne
  have h1 := numbers_spec D hl hr j l.length (by omega)
  have hq := mkNu_ok D j l.length
  have h3 := nx_rng D (plQ D l j).2 3 (by decide)
  obtain ⟨e1, e2, _⟩ := thNw_ok hV hq (s := 1 + nxV D (plQ D l j).2 3) (by omega) hc
  have h2 := rthnew_spec l n (mkNu D j l.length).1.1 (mkNu D j l.length).1.2 (1 + nxV D (plQ D l j).2 3) c none none (by omega) (by rw [hq.l1]; omega) (by rw [hq.l2]; omega) hnm fun x hx => by have := hq.b x hx; omega
  rw [e1] at h2
  have n3 := next_spec D (plQ D l j).2 3 hl hr (by decide)
  have n12 := next_spec D (nxA D (plQ D l j).2 3) 12 hl hr (by decide)
  have r12 := nx_rng D (nxA D (plQ D l j).2 3) 12 (by decide)
  have hI : plI D l c j = nwN l (mkNu D j l.length).1.1 (mkNu D j l.length).1.2 (1 + nxV D (plQ D l j).2 3) c l.length := rfl
  rw [← hI] at h2 e2
  clear e1 hI
  obtain ⟨T, hT⟩ : ∃ T, mkP D l n c j = T := ⟨_, rfl⟩
  rw [hT]
  unfold mkP at hT
  rw [show mkNu D j l.length = plQ D l j from rfl] at *
  generalize plI D l c j = P0 at *
  generalize plQ D l j = Q at *
  obtain ⟨⟨q, b⟩, j1⟩ := Q
  simp only at h1 h2 h3 n3 n12 r12 hT
  generalize nxV D j1 3 = v3 at *
  generalize nxA D j1 3 = j2 at *
  obtain ⟨K, hK⟩ : ∃ K : Nat, nxV D j2 12 = K := ⟨(nxV D j2 12).toNat, by omega⟩
  rw [hK] at n12 r12 hT
  rw [zaO] at hT
  generalize nxA D j2 12 = j3 at *
  obtain ⟨PT, JT⟩ := T
  refine fnspec_of mixed TT_ok TT_cl ⟨fun _ => false, lendP, 1, fun _ => false, fun _ => false⟩ Try.func10 rfl (by kernel_rfl) rfl 62 rfl [.tmp 6] rfl ?_
  simp only [go_sem, zaa, zai, zaj, zak, zal, zaf, ↓reduceIte, reduceCtorEq, zab, zad, zam, zan, zao, lendP]
  repeat' (first
    | with_reducible refine zas ?_ ?_
    | (unfold OKC; kernel_rfl)
    | (unfold EDG; kernel_rfl)
    | (intros; (try simp only [zaC, zaI, zaz, zaw, zar, zat, decide_eq_true_eq, decide_eq_false_iff_not] at *); omega)
    | (apply cl_plain
       case hs => rfl
       case ha => (simp only [zae, zah, prepV, prepC, idx, hpL', lookR, zaa, if_true, if_false]; rfl)
       case h => (first | exact h1 .. | exact h2 .. | exact n3 .. | exact n12 ..))
    | (apply cl_lend
       case hr => (simp only [zae, zah, hpL', lookR, zaa, if_true, if_false]; first | exact map1 _ | exact map2 _ _ | exact map3 _ _ _)
       case ha => (simp only [zae, zah, prepV, prepC, idx, hpL', lookR, zaa, if_true, if_false]; rfl)
       case hs => rfl
       case hn => decide
       case h => (first | exact h1 .. | exact h2 .. | exact n3 .. | exact n12 ..)
       case hf => (simp only [zac, zag, false_implies, implies_true, and_true, true_and, flat_cons, flat_nil, flat_ints, flat_bools, flat_app, Cs_flat, Cell.refs, and_self, eq_self_iff_true, zap])
       case hl => (simp only [zav, zau]; decide))
    | ((first | refine s1_id ?_ | refine swp_id ?_ | refine sops_id ?_ | refine s2_id ?_); simp only [lendP, dice, go_sem, zaa, zai, zaj, zak, zal, zaf, ↓reduceIte, reduceCtorEq, zab, zad, zam, zan, zao, SV.ren, SV.renL, Cell.ren, Row.ren, renO, bk, back, outUpsFrom, Ints_ren]))
  refine w_loop (ι := Nat × List Pl × Nat) (fun s => ⟨[(0, dp), (2, i1 c), (4, .one (.optr 1 0)), (9, gr s.2.1 none), (11, i1 s.1)], [(0, some (dice D s.2.2)), (1, some ⟨[.gsl (Cs l) 0 l.length none, int n], 2⟩)], 2⟩) (fun s => s.1 ≤ 12 ∧ Pv l n s.2.1 c ∧ plL D l n c s.1 s.2 = (PT, JT)) (fun s => s.1) (K, P0, j3) ?_ ⟨by show K ≤ 12; omega, e2, hT⟩ ?_
  · (refine imp_ren _ _ _ [(0, 0, dice D j3), (1, 1, ⟨[.gsl (Cs l) 0 l.length none, int n], 2⟩)] (by simp) (by simp) (by simp) (zay rfl) ?_ rfl (by simp only [zac, zag, false_implies, implies_true, and_true, St.hpF, lookR, zaa, if_true, if_false, ↓reduceIte, dice] <;> (repeat' apply zas) <;> (first | rfl | trivial)) (by simp only [zac, zag, false_implies, implies_true, and_true, true_and, flat_cons, flat_nil, flat_ints, flat_bools, flat_app, Cell.refs, and_self, eq_self_iff_true, zap, dice]); simp only [zae, zah, zac, zag, false_implies, implies_true, and_true, lk, slot, SV.ren, Cell.ren, toN, zaa, if_true, if_false, ↓reduceIte, reduceCtorEq])
    all_goals ((repeat' apply zas) <;> (first | rfl | trivial))
  clear h1 h2 n3 n12 hT e2 hq
  rintro ⟨m, P, j0⟩ ⟨hm, hP, hL⟩
  simp only at hm hP hL ⊢
  rcases Nat.eq_zero_or_pos m with h0 | h0
  · subst h0
    have c0 : ¬ (0 : Int) < ((0 : Nat) : Int) := by omega
    obtain ⟨rfl, rfl⟩ := Prod.mk.inj (show (P, j0) = (PT, JT) from hL)
    simp only [go_sem, zaa, zai, zaj, zak, zal, zaf, ↓reduceIte, reduceCtorEq, zab, zad, zam, zan, zao, decide_eq_false c0, lendP]
    repeat' (first
    | ((first | refine s1_id ?_ | refine swp_id ?_ | refine sops_id ?_ | refine s2_id ?_); simp only [decide_eq_false c0, lendP, dice, go_sem, zaa, zai, zaj, zak, zal, zaf, ↓reduceIte, reduceCtorEq, zab, zad, zam, zan, zao, SV.ren, SV.renL, Cell.ren, Row.ren, renO, bk, back, outUpsFrom, Ints_ren]))
    (refine fs_flat [(0, dice D j0)] (by simp) (by simp only [zae, zah]; decide) (by simp only [go_sem, resV, resS, SV.ren, SV.renL, Cell.ren, St.tmF, St.hpF, idx, renO, Row.ren, evS, slot, lookR, zaa, ↓reduceIte, reduceCtorEq, if_true, if_false, zaL, zaM, zae, zah, sLoad, readAt, readNeed, Ints_ren, Ints_length, Ints_getD, and_true, true_and, zaF, zaG]; try decide) ?_ (by simp only [zac, zag, false_implies, implies_true, and_true, St.hpF, lookR, zaa, if_true, if_false, ↓reduceIte, dice] <;> (repeat' apply zas) <;> (first | rfl | trivial)) (by simp only [zac, zag, false_implies, implies_true, and_true, true_and, flat_cons, flat_nil, flat_ints, flat_bools, flat_app, Cell.refs, and_self, eq_self_iff_true, zap, dice]) ?_ <;> (try simp only [go_sem, resV, resS, SV.ren, SV.renL, Cell.ren, St.tmF, St.hpF, idx, renO, Row.ren, evS, slot, lookR, zaa, ↓reduceIte, reduceCtorEq, if_true, if_false, zaL, zaM, zae, zah, sLoad, readAt, readNeed, Ints_ren, Ints_length, Ints_getD, and_true, true_and, zaF, zaG]) <;> (try rfl))
  obtain ⟨m', rfl⟩ : ∃ m', m = m' + 1 := ⟨m - 1, by omega⟩
  have c0 : (0 : Int) < ((m' + 1 : Nat) : Int) := by omega
  have hmm : ((m' + 1 : Nat) : Int) - 1 = (m' : Int) := by omega
  rw [plL] at hL
  have hS := plS_ok (D := D) (s := (P, j0)) hP
  have hPl := hP.len
  have hall := hP.all
  have h1 := dgroup_spec D hl hr j0 l n hne hle
  have h2 := next_spec D (dgA D l j0) c hl hr (by omega)
  have h3 := rthspend_spec l n P none (dgV D l j0) (nxV D (dgA D l j0) c) (by omega) (by omega) hnm (fun x hx => smp_of (hall x hx)) (fun x hx => wk_of (hall x hx)) (fun x hx => pck_len (hall x hx))
  have hb := bool_spec D (plJ D l c (P, j0)) 8 hl hr (by decide)
  have hPP := plP_ok (D := D) (s := (P, j0)) hP
  have hG : plG D l n c (P, j0) = thSp l n P (dgV D l j0) (nxV D (dgA D l j0) c) := rfl
  have hPd : plP D l n c (P, j0) = if (plG D l n c (P, j0)).2 = 0 then (plG D l n c (P, j0)).1 else P := rfl
  have hJd : plJ D l c (P, j0) = nxA D (dgA D l j0) c := rfl
  have hSd : plS D l n c (P, j0) = if nxV D (plJ D l c (P, j0)) 8 = 7 then (thRf l n (plP D l n c (P, j0)) (dsV D (nxA D (plJ D l c (P, j0)) 8)).1, (dsV D (nxA D (plJ D l c (P, j0)) 8)).2) else (plP D l n c (P, j0), nxA D (plJ D l c (P, j0)) 8) := rfl
  rw [← hG] at h3
  clear hG
  generalize plG D l n c (P, j0) = r at *
  obtain ⟨R, e⟩ := r
  simp only at h3 hPd
  rw [← hJd] at h2
  clear hJd
  have hPPl := hPP.len
  have hall2 := hPP.all
  have h5 := dsome_spec D hl hr (nxA D (plJ D l c (P, j0)) 8)
  have h6 := rthrefill_spec l n (plP D l n c (P, j0)) none (dsV D (nxA D (plJ D l c (P, j0)) 8)).1 none (by omega) (by omega) (by have := dsV_len D (nxA D (plJ D l c (P, j0)) 8); omega) hnm (fun x hx => smp_of (hall2 x hx)) (fun x hx => wk_of (hall2 x hx)) (fun x hx => pck_len (hall2 x hx))
  clear hall hall2
  by_cases hv : nxV D (plJ D l c (P, j0)) 8 = 7
  · rw [if_pos hv] at hSd
    rw [hSd] at hS hL
    rw [decide_eq_true (by omega : nxV D (plJ D l c (P, j0)) 8 = 8 - 1)] at hb
    clear hSd hv
    generalize plJ D l c (P, j0) = j3 at *
    generalize dsV D (nxA D j3 8) = w at *
    obtain ⟨due, j5⟩ := w
    simp only at h5 h6 hL hS
    by_cases he : e = 0
    · rw [if_pos he] at hPd
      rw [hPd] at h6 hL hS
      generalize thRf l n R due = Z at *
      simp only [go_sem, zaa, zai, zaj, zak, zal, zaf, ↓reduceIte, reduceCtorEq, zab, zad, zam, zan, zao, decide_eq_true c0, lendP, decide_eq_true he]
      repeat' (first
    | with_reducible refine zas ?_ ?_
    | (unfold OKC; kernel_rfl)
    | (unfold EDG; kernel_rfl)
    | (intros; (try simp only [zaC, zaI, zaz, zaw, zar, zat, decide_eq_true_eq, decide_eq_false_iff_not] at *); omega)
    | (apply cl_plain
       case hs => rfl
       case ha => (simp only [zae, zah, prepV, prepC, idx, hpL', lookR, zaa, if_true, if_false]; rfl)
       case h => (first | exact h1 .. | exact h2 .. | exact h3 .. | exact hb .. | exact h5 .. | exact h6 ..))
    | (apply cl_lend
       case hr => (simp only [zae, zah, hpL', lookR, zaa, if_true, if_false]; first | exact map1 _ | exact map2 _ _ | exact map3 _ _ _)
       case ha => (simp only [zae, zah, prepV, prepC, idx, hpL', lookR, zaa, if_true, if_false]; rfl)
       case hs => rfl
       case hn => decide
       case h => (first | exact h1 .. | exact h2 .. | exact h3 .. | exact hb .. | exact h5 .. | exact h6 ..)
       case hf => (simp only [zac, zag, false_implies, implies_true, and_true, true_and, flat_cons, flat_nil, flat_ints, flat_bools, flat_app, Cs_flat, Cell.refs, and_self, eq_self_iff_true, zap])
       case hl => (simp only [zav, zau]; decide))
    | ((first | refine s1_id ?_ | refine swp_id ?_ | refine sops_id ?_ | refine s2_id ?_); simp only [lendP, dice, decide_eq_true c0, decide_eq_true he, zaD, zaH, zap, zaE, zaJ, zaA, zaB, zax, zaK, zaN, zav, zau, go_sem, zaa, zai, zaj, zak, zal, zaf, ↓reduceIte, reduceCtorEq, zab, zad, zam, zan, zao, SV.ren, SV.renL, Cell.ren, Row.ren, renO, bk, back, outUpsFrom, Ints_ren]))
      refine le_mk (m', Z, j5) ?_ ⟨by show m' ≤ 12; omega, hS, hL⟩ (by show m' < m' + 1; omega)
      (refine imp_ren _ _ _ [(0, 0, dice D j5), (1, 1, ⟨[.gsl (Cs l) 0 l.length none, int n], 2⟩)] (by simp) (by simp) (by simp) (zay rfl) ?_ rfl (by simp only [zac, zag, false_implies, implies_true, and_true, St.hpF, lookR, zaa, if_true, if_false, ↓reduceIte, dice] <;> (repeat' apply zas) <;> (first | rfl | trivial)) (by simp only [zac, zag, false_implies, implies_true, and_true, true_and, flat_cons, flat_nil, flat_ints, flat_bools, flat_app, Cell.refs, and_self, eq_self_iff_true, zap, dice]); simp only [zae, zah, zac, zag, false_implies, implies_true, and_true, lk, slot, SV.ren, Cell.ren, toN, zaa, if_true, if_false, ↓reduceIte, reduceCtorEq])
      all_goals ((repeat' apply zas) <;> (first | rfl | trivial | (simp only [hmm]; done) | (simp only [hmm]; rfl) | (simp only [hmm]; trivial)))
    · rw [if_neg he] at hPd
      rw [hPd] at h6 hL hS
      generalize thRf l n P due = Z at *
      simp only [go_sem, zaa, zai, zaj, zak, zal, zaf, ↓reduceIte, reduceCtorEq, zab, zad, zam, zan, zao, decide_eq_true c0, lendP, decide_eq_false he]
      repeat' (first
    | with_reducible refine zas ?_ ?_
    | (unfold OKC; kernel_rfl)
    | (unfold EDG; kernel_rfl)
    | (intros; (try simp only [zaC, zaI, zaz, zaw, zar, zat, decide_eq_true_eq, decide_eq_false_iff_not] at *); omega)
    | (apply cl_plain
       case hs => rfl
       case ha => (simp only [zae, zah, prepV, prepC, idx, hpL', lookR, zaa, if_true, if_false]; rfl)
       case h => (first | exact h1 .. | exact h2 .. | exact h3 .. | exact hb .. | exact h5 .. | exact h6 ..))
    | (apply cl_lend
       case hr => (simp only [zae, zah, hpL', lookR, zaa, if_true, if_false]; first | exact map1 _ | exact map2 _ _ | exact map3 _ _ _)
       case ha => (simp only [zae, zah, prepV, prepC, idx, hpL', lookR, zaa, if_true, if_false]; rfl)
       case hs => rfl
       case hn => decide
       case h => (first | exact h1 .. | exact h2 .. | exact h3 .. | exact hb .. | exact h5 .. | exact h6 ..)
       case hf => (simp only [zac, zag, false_implies, implies_true, and_true, true_and, flat_cons, flat_nil, flat_ints, flat_bools, flat_app, Cs_flat, Cell.refs, and_self, eq_self_iff_true, zap])
       case hl => (simp only [zav, zau]; decide))
    | ((first | refine s1_id ?_ | refine swp_id ?_ | refine sops_id ?_ | refine s2_id ?_); simp only [lendP, dice, decide_eq_true c0, decide_eq_false he, zaD, zaH, zap, zaE, zaJ, zaA, zaB, zax, zaK, zaN, zav, zau, go_sem, zaa, zai, zaj, zak, zal, zaf, ↓reduceIte, reduceCtorEq, zab, zad, zam, zan, zao, SV.ren, SV.renL, Cell.ren, Row.ren, renO, bk, back, outUpsFrom, Ints_ren]))
      refine le_mk (m', Z, j5) ?_ ⟨by show m' ≤ 12; omega, hS, hL⟩ (by show m' < m' + 1; omega)
      (refine imp_ren _ _ _ [(0, 0, dice D j5), (1, 1, ⟨[.gsl (Cs l) 0 l.length none, int n], 2⟩)] (by simp) (by simp) (by simp) (zay rfl) ?_ rfl (by simp only [zac, zag, false_implies, implies_true, and_true, St.hpF, lookR, zaa, if_true, if_false, ↓reduceIte, dice] <;> (repeat' apply zas) <;> (first | rfl | trivial)) (by simp only [zac, zag, false_implies, implies_true, and_true, true_and, flat_cons, flat_nil, flat_ints, flat_bools, flat_app, Cell.refs, and_self, eq_self_iff_true, zap, dice]); simp only [zae, zah, zac, zag, false_implies, implies_true, and_true, lk, slot, SV.ren, Cell.ren, toN, zaa, if_true, if_false, ↓reduceIte, reduceCtorEq])
      all_goals ((repeat' apply zas) <;> (first | rfl | trivial | (simp only [hmm]; done) | (simp only [hmm]; rfl) | (simp only [hmm]; trivial)))
  · rw [if_neg hv] at hSd
    rw [hSd] at hS hL
    rw [decide_eq_false (by omega : ¬ nxV D (plJ D l c (P, j0)) 8 = 8 - 1)] at hb
    clear hSd hv h5 h6
    generalize plJ D l c (P, j0) = j3 at *
    by_cases he : e = 0
    · rw [if_pos he] at hPd
      rw [hPd] at hL hS
      simp only [go_sem, zaa, zai, zaj, zak, zal, zaf, ↓reduceIte, reduceCtorEq, zab, zad, zam, zan, zao, decide_eq_true c0, lendP, decide_eq_true he]
      repeat' (first
    | with_reducible refine zas ?_ ?_
    | (unfold OKC; kernel_rfl)
    | (unfold EDG; kernel_rfl)
    | (intros; (try simp only [zaC, zaI, zaz, zaw, zar, zat, decide_eq_true_eq, decide_eq_false_iff_not] at *); omega)
    | (apply cl_plain
       case hs => rfl
       case ha => (simp only [zae, zah, prepV, prepC, idx, hpL', lookR, zaa, if_true, if_false]; rfl)
       case h => (first | exact h1 .. | exact h2 .. | exact h3 .. | exact hb ..))
    | (apply cl_lend
       case hr => (simp only [zae, zah, hpL', lookR, zaa, if_true, if_false]; first | exact map1 _ | exact map2 _ _ | exact map3 _ _ _)
       case ha => (simp only [zae, zah, prepV, prepC, idx, hpL', lookR, zaa, if_true, if_false]; rfl)
       case hs => rfl
       case hn => decide
       case h => (first | exact h1 .. | exact h2 .. | exact h3 .. | exact hb ..)
       case hf => (simp only [zac, zag, false_implies, implies_true, and_true, true_and, flat_cons, flat_nil, flat_ints, flat_bools, flat_app, Cs_flat, Cell.refs, and_self, eq_self_iff_true, zap])
       case hl => (simp only [zav, zau]; decide))
    | ((first | refine s1_id ?_ | refine swp_id ?_ | refine sops_id ?_ | refine s2_id ?_); simp only [lendP, dice, decide_eq_true c0, decide_eq_true he, zaD, zaH, zap, zaE, zaJ, zaA, zaB, zax, zaK, zaN, zav, zau, go_sem, zaa, zai, zaj, zak, zal, zaf, ↓reduceIte, reduceCtorEq, zab, zad, zam, zan, zao, SV.ren, SV.renL, Cell.ren, Row.ren, renO, bk, back, outUpsFrom, Ints_ren]))
      refine le_mk (m', R, nxA D j3 8) ?_ ⟨by show m' ≤ 12; omega, hS, hL⟩ (by show m' < m' + 1; omega)
      (refine imp_ren _ _ _ [(0, 0, dice D (nxA D j3 8)), (1, 1, ⟨[.gsl (Cs l) 0 l.length none, int n], 2⟩)] (by simp) (by simp) (by simp) (zay rfl) ?_ rfl (by simp only [zac, zag, false_implies, implies_true, and_true, St.hpF, lookR, zaa, if_true, if_false, ↓reduceIte, dice] <;> (repeat' apply zas) <;> (first | rfl | trivial)) (by simp only [zac, zag, false_implies, implies_true, and_true, true_and, flat_cons, flat_nil, flat_ints, flat_bools, flat_app, Cell.refs, and_self, eq_self_iff_true, zap, dice]); simp only [zae, zah, zac, zag, false_implies, implies_true, and_true, lk, slot, SV.ren, Cell.ren, toN, zaa, if_true, if_false, ↓reduceIte, reduceCtorEq])
      all_goals ((repeat' apply zas) <;> (first | rfl | trivial | (simp only [hmm]; done) | (simp only [hmm]; rfl) | (simp only [hmm]; trivial)))
    · rw [if_neg he] at hPd
      rw [hPd] at hL hS
      simp only [go_sem, zaa, zai, zaj, zak, zal, zaf, ↓reduceIte, reduceCtorEq, zab, zad, zam, zan, zao, decide_eq_true c0, lendP, decide_eq_false he]
      repeat' (first
    | with_reducible refine zas ?_ ?_
    | (unfold OKC; kernel_rfl)
    | (unfold EDG; kernel_rfl)
    | (intros; (try simp only [zaC, zaI, zaz, zaw, zar, zat, decide_eq_true_eq, decide_eq_false_iff_not] at *); omega)
    | (apply cl_plain
       case hs => rfl
       case ha => (simp only [zae, zah, prepV, prepC, idx, hpL', lookR, zaa, if_true, if_false]; rfl)
       case h => (first | exact h1 .. | exact h2 .. | exact h3 .. | exact hb ..))
    | (apply cl_lend
       case hr => (simp only [zae, zah, hpL', lookR, zaa, if_true, if_false]; first | exact map1 _ | exact map2 _ _ | exact map3 _ _ _)
       case ha => (simp only [zae, zah, prepV, prepC, idx, hpL', lookR, zaa, if_true, if_false]; rfl)
       case hs => rfl
       case hn => decide
       case h => (first | exact h1 .. | exact h2 .. | exact h3 .. | exact hb ..)
       case hf => (simp only [zac, zag, false_implies, implies_true, and_true, true_and, flat_cons, flat_nil, flat_ints, flat_bools, flat_app, Cs_flat, Cell.refs, and_self, eq_self_iff_true, zap])
       case hl => (simp only [zav, zau]; decide))
    | ((first | refine s1_id ?_ | refine swp_id ?_ | refine sops_id ?_ | refine s2_id ?_); simp only [lendP, dice, decide_eq_true c0, decide_eq_false he, zaD, zaH, zap, zaE, zaJ, zaA, zaB, zax, zaK, zaN, zav, zau, go_sem, zaa, zai, zaj, zak, zal, zaf, ↓reduceIte, reduceCtorEq, zab, zad, zam, zan, zao, SV.ren, SV.renL, Cell.ren, Row.ren, renO, bk, back, outUpsFrom, Ints_ren]))
      refine le_mk (m', P, nxA D j3 8) ?_ ⟨by show m' ≤ 12; omega, hS, hL⟩ (by show m' < m' + 1; omega)
      (refine imp_ren _ _ _ [(0, 0, dice D (nxA D j3 8)), (1, 1, ⟨[.gsl (Cs l) 0 l.length none, int n], 2⟩)] (by simp) (by simp) (by simp) (zay rfl) ?_ rfl (by simp only [zac, zag, false_implies, implies_true, and_true, St.hpF, lookR, zaa, if_true, if_false, ↓reduceIte, dice] <;> (repeat' apply zas) <;> (first | rfl | trivial)) (by simp only [zac, zag, false_implies, implies_true, and_true, true_and, flat_cons, flat_nil, flat_ints, flat_bools, flat_app, Cell.refs, and_self, eq_self_iff_true, zap, dice]); simp only [zae, zah, zac, zag, false_implies, implies_true, and_true, lk, slot, SV.ren, Cell.ren, toN, zaa, if_true, if_false, ↓reduceIte, reduceCtorEq])
      all_goals ((repeat' apply zas) <;> (first | rfl | trivial | (simp only [hmm]; done) | (simp only [hmm]; rfl) | (simp only [hmm]; trivial)))
end Go.Proofs.Ytcnilpdlcmpbbaa
-- NEWGO
-- PRUNE: cl_lendx cl_use cl_lend
-- ISG: Cs_isG
-- FLAT: Cs_flat
namespace Go.Proofs.Ytcnilpdlcmpbbaa
set_option linter.unusedVariables false
set_option linter.unusedSimpArgs false
open Go.Proofs.Ytcnilpdlcmpbbaa.Sh
set_option maxRecDepth 20000
set_option maxHeartbeats 4000000 in
theorem pl3_ix (g : FuncId) (c0 : List Cell) (c1 : List Cell) (c2 : List Cell) (q : Pl → Bool) (xs : List (Pl)) (hg : ∀ x ∈ xs, FnSpec Try.prog g [.agg (Rec.cs x), .one (.gptr c0 0), .one (.gptr c1 0), .one (.gptr c2 0)] [] (b1 (q x)) []) (cap : Option Nat)
    (hs : xs.length ≤ 9223372036854775807) : FnSpec Try.prog 50 [gr xs cap, .one (.fn g [.gptr c0 0, .gptr c1 0, .gptr c2 0])] [] (i1 (ixR q xs 0)) [] := by
  refine fnspec_of mixed TT_ok TT_cl ⟨fun _ => false, fun _ => [], 0, fun _ => false, fun _ => false⟩ Try.func50 rfl (by kernel_rfl) rfl 19 rfl [.tmp 4] rfl ?_
  simp only [go_sem, zaa, zai, zaj, zak, zal, zaf, ↓reduceIte, reduceCtorEq, zab, zad, zam, zan, zao]
  repeat' (first
    | ((first | refine s1_id ?_ | refine swp_id ?_ | refine sops_id ?_ | refine s2_id ?_); simp only [go_sem, zaa, zai, zaj, zak, zal, zaf, ↓reduceIte, reduceCtorEq, zab, zad, zam, zan, zao, SV.ren, SV.renL, Cell.ren, Row.ren, renO, bk, back, outUpsFrom, Ints_ren]))
  refine w_loop (ι := Nat) (fun i => ⟨[(0, gr xs cap), (1, .one (.fn g [.gptr c0 0, .gptr c1 0, .gptr c2 0])), (7, i1 xs.length), (8, i1 i)], [], 0⟩) (fun i => i ≤ xs.length ∧ ixR q xs 0 = ixR q (xs.drop i) i) (fun i => xs.length - i) 0 ?_ ⟨zaS _, rfl⟩ ?_
  · (refine imp_sub _ _ _ [] (by simp) (by simp) (by simp) (zaS _) ?_ rfl (by simp); simp only [zac, zag, false_implies, implies_true, and_true, lk, slot, SV.ren, Cell.ren, zaa, if_true, if_false, ↓reduceIte, reduceCtorEq])
    all_goals ((repeat' apply zas) <;> (first | rfl | trivial))
  rintro i ⟨hi, he⟩
  simp only at hi he ⊢
  rcases Nat.lt_or_ge i xs.length with hlt | hge
  case inr =>
    have hlt' : ¬ (i : Int) < (xs.length : Int) := by omega
    rw [List.drop_of_length_le hge] at he
    rw [he]
    simp only [go_sem, zaa, zai, zaj, zak, zal, zaf, ↓reduceIte, reduceCtorEq, zab, zad, zam, zan, zao, decide_eq_false hlt', ixR]
    repeat' (first
    | (apply fs_nil <;> (try simp only [go_sem, resV, resS, SV.ren, SV.renL, Cell.ren, St.tmF, St.hpF, idx, renO, Row.ren, evS, slot, lookR, zaa, ↓reduceIte, reduceCtorEq, if_true, if_false, zaL, zaM, zae, zah, sLoad, readAt, readNeed, Ints_ren, Ints_length, Ints_getD, and_true, true_and, zaF, zaG]) <;> (try rfl)))
  have hlt' : (i : Int) < (xs.length : Int) := by omega
  have hcl : (Cs xs).length = xs.length * 10 := Cs_len xs
  have hat : List.take 10 (List.drop (i * 10) (Cs xs)) = Rec.cs (xs.getD i Rec.z) := Cs_td xs i hlt
  have hm := getD_mem xs i Rec.z hlt
  have hc := hg _ hm
  rw [drop_getD xs i Rec.z hlt, ixR] at he
  have hrl : (Rec.cs (xs.getD i Rec.z)).length = 10 := Rec.len _
  have hrg := Rec.g (xs.getD i Rec.z)
  generalize xs.getD i Rec.z = b at *
  have hcs : Rec.cs b = [int b.g, int b.q, int b.b, int b.s, int b.l, .gsl (Ints b.c) 0 b.c.length none, int b.sp, int b.pe, int b.th, bool b.em] := rfl
  rw [hcs] at hat hc
  clear hrl hrg
  cases hqb : q b with
  | true =>
    rw [hqb] at hc he
    simp only [if_true] at he
    rw [he]
    simp only [go_sem, zaa, zai, zaj, zak, zal, zaf, ↓reduceIte, reduceCtorEq, zab, zad, zam, zan, zao, decide_eq_true hlt', hat]
    repeat' (first
    | with_reducible refine zas ?_ ?_
    | (intros; (try simp only [zaC, zaI, zaz, zaw, zar, zat, decide_eq_true_eq, decide_eq_false_iff_not] at *); omega)
    | (apply cl_plain
       case hs => rfl
       case ha => (simp only [zae, zah, prepV, prepC, idx, hpL', lookR, zaa, if_true, if_false]; rfl)
       case h => (first | exact hc ..))
    | ((first | refine s1_id ?_ | refine swp_id ?_ | refine sops_id ?_ | refine s2_id ?_); simp only [decide_eq_true hlt', hat, go_sem, zaa, zai, zaj, zak, zal, zaf, ↓reduceIte, reduceCtorEq, zab, zad, zam, zan, zao, SV.ren, SV.renL, Cell.ren, Row.ren, renO, bk, back, outUpsFrom, Ints_ren])
    | (apply fs_nil <;> (try simp only [go_sem, resV, resS, SV.ren, SV.renL, Cell.ren, St.tmF, St.hpF, idx, renO, Row.ren, evS, slot, lookR, zaa, ↓reduceIte, reduceCtorEq, if_true, if_false, zaL, zaM, zae, zah, sLoad, readAt, readNeed, Ints_ren, Ints_length, Ints_getD, and_true, true_and, zaF, zaG]) <;> (try rfl)))
  | false =>
    rw [hqb] at hc he
    simp only [zaP, if_false] at he
    simp only [go_sem, zaa, zai, zaj, zak, zal, zaf, ↓reduceIte, reduceCtorEq, zab, zad, zam, zan, zao, decide_eq_true hlt', hat]
    repeat' (first
    | with_reducible refine zas ?_ ?_
    | (intros; (try simp only [zaC, zaI, zaz, zaw, zar, zat, decide_eq_true_eq, decide_eq_false_iff_not] at *); omega)
    | (apply cl_plain
       case hs => rfl
       case ha => (simp only [zae, zah, prepV, prepC, idx, hpL', lookR, zaa, if_true, if_false]; rfl)
       case h => (first | exact hc ..))
    | ((first | refine s1_id ?_ | refine swp_id ?_ | refine sops_id ?_ | refine s2_id ?_); simp only [decide_eq_true hlt', hat, go_sem, zaa, zai, zaj, zak, zal, zaf, ↓reduceIte, reduceCtorEq, zab, zad, zam, zan, zao, SV.ren, SV.renL, Cell.ren, Row.ren, renO, bk, back, outUpsFrom, Ints_ren]))
    refine le_mk (i + 1) ?_ ⟨by omega, he⟩ (by omega)
    (refine imp_sub _ _ _ [] (by simp) (by simp) (by simp) (zaS _) ?_ rfl (by simp); simp only [zac, zag, false_implies, implies_true, and_true, lk, slot, SV.ren, Cell.ren, zaa, if_true, if_false, ↓reduceIte, reduceCtorEq])
    all_goals ((repeat' apply zas) <;> (first | rfl | trivial | (simp only [zaq]; done) | (simp only [zaq]; rfl) | (simp only [zaq]; trivial)))
def usb (id s c : Int) (x : Pl) : Bool := decide (x.g = id) && (decide (x.s = s) && (decide ((x.c.length : Int) = c) && pck x))
set_option maxHeartbeats 4000000 in
theorem sync1_spec (x : Pl) (y : Nd) (s cp : Int) : FnSpec Try.prog 48 [.agg (Rec.cs x), .one (.gptr (ndc y) 0), .one (.gptr [int s] 0), .one (.gptr [int cp] 0)] [] (b1 (usb y.i s cp x)) [] := by
  show FnSpec Try.prog 48 [.agg (plc x none), .one (.gptr (ndc y) 0), .one (.gptr [int s] 0), .one (.gptr [int cp] 0)] [] (b1 (usb y.i s cp x)) []
  have h1 := check_spec x none
  unfold usb
  generalize pck x = P at *
  obtain ⟨a, b, c, d, e, f, g1, h1', i1', j1⟩ := x
  obtain ⟨yi, yp, yn, yc, yk, yo⟩ := y
  simp only [plc, plt, ndc] at h1 ⊢
  by_cases k0 : a = yi
  case neg =>
    rw [decide_eq_false k0]
    refine fnspec_of mixed TT_ok TT_cl ⟨fun _ => false, fun _ => [], 0, fun _ => false, fun _ => false⟩ Try.func48 rfl (by kernel_rfl) rfl 28 rfl [.tmp 5] rfl ?_
    simp only [go_sem, zaa, zai, zaj, zak, zal, zaf, ↓reduceIte, reduceCtorEq, zab, zad, zam, zan, zao, decide_eq_false k0]
    repeat' (first
    | (apply fs_nil <;> (try simp only [go_sem, resV, resS, SV.ren, SV.renL, Cell.ren, St.tmF, St.hpF, idx, renO, Row.ren, evS, slot, lookR, zaa, ↓reduceIte, reduceCtorEq, if_true, if_false, zaL, zaM, zae, zah, sLoad, readAt, readNeed, Ints_ren, Ints_length, Ints_getD, and_true, true_and, zaF, zaG]) <;> (try rfl)))
  by_cases k1 : d = s
  case neg =>
    rw [decide_eq_true k0, decide_eq_false k1]
    refine fnspec_of mixed TT_ok TT_cl ⟨fun _ => false, fun _ => [], 0, fun _ => false, fun _ => false⟩ Try.func48 rfl (by kernel_rfl) rfl 28 rfl [.tmp 5] rfl ?_
    simp only [go_sem, zaa, zai, zaj, zak, zal, zaf, ↓reduceIte, reduceCtorEq, zab, zad, zam, zan, zao, decide_eq_true k0, decide_eq_false k1]
    repeat' (first
    | (apply fs_nil <;> (try simp only [go_sem, resV, resS, SV.ren, SV.renL, Cell.ren, St.tmF, St.hpF, idx, renO, Row.ren, evS, slot, lookR, zaa, ↓reduceIte, reduceCtorEq, if_true, if_false, zaL, zaM, zae, zah, sLoad, readAt, readNeed, Ints_ren, Ints_length, Ints_getD, and_true, true_and, zaF, zaG]) <;> (try rfl)))
  by_cases k2 : (f.length : Int) = cp
  case neg =>
    rw [decide_eq_true k0, decide_eq_true k1, decide_eq_false k2]
    refine fnspec_of mixed TT_ok TT_cl ⟨fun _ => false, fun _ => [], 0, fun _ => false, fun _ => false⟩ Try.func48 rfl (by kernel_rfl) rfl 28 rfl [.tmp 5] rfl ?_
    simp only [go_sem, zaa, zai, zaj, zak, zal, zaf, ↓reduceIte, reduceCtorEq, zab, zad, zam, zan, zao, decide_eq_true k0, decide_eq_true k1, decide_eq_false k2]
    repeat' (first
    | (apply fs_nil <;> (try simp only [go_sem, resV, resS, SV.ren, SV.renL, Cell.ren, St.tmF, St.hpF, idx, renO, Row.ren, evS, slot, lookR, zaa, ↓reduceIte, reduceCtorEq, if_true, if_false, zaL, zaM, zae, zah, sLoad, readAt, readNeed, Ints_ren, Ints_length, Ints_getD, and_true, true_and, zaF, zaG]) <;> (try rfl)))
  rw [decide_eq_true k0, decide_eq_true k1, decide_eq_true k2, zaR, zaR, zaR]
  refine fnspec_of mixed TT_ok TT_cl ⟨fun _ => false, fun _ => [], 0, fun _ => false, fun _ => false⟩ Try.func48 rfl (by kernel_rfl) rfl 28 rfl [.tmp 5] rfl ?_
  simp only [go_sem, zaa, zai, zaj, zak, zal, zaf, ↓reduceIte, reduceCtorEq, zab, zad, zam, zan, zao, decide_eq_true k0, decide_eq_true k1, decide_eq_true k2]
  repeat' (first
    | (apply cg_tp
       case hl => rfl
       case ha => (simp only [zae, zah, prepV, prepC, idx, hpL', lookR, zaa, if_true, if_false]; rfl)
       case hs => rfl
       case h => (first | exact h1 ..))
    | ((first | refine s1_id ?_ | refine swp_id ?_ | refine sops_id ?_ | refine s2_id ?_); simp only [decide_eq_true k0, decide_eq_true k1, decide_eq_true k2, zaD, zaH, zap, zaE, zaJ, zaA, zaB, zax, zaK, zaN, zav, zau, go_sem, zaa, zai, zaj, zak, zal, zaf, ↓reduceIte, reduceCtorEq, zab, zad, zam, zan, zao, SV.ren, SV.renL, Cell.ren, Row.ren, renO, bk, back, outUpsFrom, Ints_ren])
    | (apply fs_nil <;> (try simp only [go_sem, resV, resS, SV.ren, SV.renL, Cell.ren, St.tmF, St.hpF, idx, renO, Row.ren, evS, slot, lookR, zaa, ↓reduceIte, reduceCtorEq, if_true, if_false, zaL, zaM, zae, zah, sLoad, readAt, readNeed, Ints_ren, Ints_length, Ints_getD, and_true, true_and, zaF, zaG]) <;> (try rfl)))
def syE (l : List Nd) (P : List Pl) (q b : List Int) (s c : Int) (i : Nat) : Pl × Int :=
  if ixR (usb (gN l i).i s c) P 0 < 0 then pnew (gN l i).i (q.getD i 0) (b.getD i 0) s c else pchange (gP P (ixR (usb (gN l i).i s c) P 0).toNat) (q.getD i 0) (b.getD i 0)
def syN (E : Nat → Pl × Int) (m : Nat) : List Pl := (List.range m).map fun i => (E i).1
def thSy (l : List Nd) (n : Int) (P : List Pl) (q b : List Int) (s c : Int) : List Pl × Int :=
  if (chkT l n && (decide (q.length = l.length) && decide (b.length = l.length))) = true then
    (if allN l.length (fun i => decide ((syE l P q b s c i).2 = 0)) = true then (syN (syE l P q b s c) l.length, 0) else ([], 3)) else ([], 1)
theorem syN_len (E : Nat → Pl × Int) (m : Nat) : (syN E m).length = m := by simp [syN]
theorem syN_suc (E : Nat → Pl × Int) (m : Nat) : syN E (m + 1) = syN E m ++ [(E m).1] := by simp [syN, List.range_succ]
theorem usb_iff {id s c : Int} {x : Pl} : usb id s c x = true ↔ x.g = id ∧ x.s = s ∧ (x.c.length : Int) = c ∧ pck x = true := by
  unfold usb
  simp only [zaC, decide_eq_true_eq]
theorem syE_e (l : List Nd) (P : List Pl) (q b : List Int) (s c : Int) (i : Nat) : (syE l P q b s c i).2 = 0 ∨ (syE l P q b s c i).2 = 3 := by
  unfold syE
  split
  · exact pnew_e _ _ _ _ _
  · rename_i h
    rcases ixR_at (usb (gN l i).i s c) zpl P 0 with ⟨h1, _⟩ | ⟨k, h1, h2, h3, _⟩
    · omega
    · rw [Nat.zero_add] at h1
      rw [h1, zaO]
      have := (usb_iff.1 h3).2.2.2
      unfold pchange
      rw [if_neg (by rw [show pck (gP P k) = true from this]; decide)]
      split <;> simp
set_option maxHeartbeats 16000000 in
theorem thsync_spec (l : List Nd) (n : Int) (P : List Pl) (k : Option Nat) (q b : List Int) (s cp : Int) (kq kb : Option Nat) (hl : l.length ≤ 1000000) (hP : P.length ≤ 1000000) (hq : q.length ≤ 9223372036854775807) (hb : b.length ≤ 9223372036854775807) (hnm : NmR l) (hct : CtR l) : FnSpec Try.prog 16 [trV l none n, gr P k, gi q kq, gi b kb, i1 s, i1 cp] [] (.tup [gr (thSy l n P q b s cp).1 none, i1 (thSy l n P q b s cp).2]) [] := by
  have h1 := tchk_spec l n hl hnm hct
  have hnl := nd_len l
  have hpl := pl_len P
  unfold thSy
  cases hk : chkT l n with
  | false =>
    rw [hk] at h1
    rw [Bool.false_and, if_neg zaQ]
    refine fnspec_of mixed TT_ok TT_cl ⟨fun _ => false, fun _ => [], 0, fun _ => false, fun _ => false⟩ Try.func16 rfl (by kernel_rfl) rfl 95 rfl [.tmp 12, .tmp 13] rfl ?_
    simp only [go_sem, zaa, zai, zaj, zak, zal, zaf, ↓reduceIte, reduceCtorEq, zab, zad, zam, zan, zao]
    repeat' (first
    | (apply cl_plain
       case hs => rfl
       case ha => (simp only [zae, zah, prepV, prepC, idx, hpL', lookR, zaa, if_true, if_false]; rfl)
       case h => (first | exact h1 ..))
    | ((first | refine s1_id ?_ | refine swp_id ?_ | refine sops_id ?_ | refine s2_id ?_); simp only [go_sem, zaa, zai, zaj, zak, zal, zaf, ↓reduceIte, reduceCtorEq, zab, zad, zam, zan, zao, SV.ren, SV.renL, Cell.ren, Row.ren, renO, bk, back, outUpsFrom, Ints_ren]))
    (refine fs_w (by simp only [go_sem, resV, resS, SV.ren, SV.renL, Cell.ren, St.tmF, St.hpF, idx, renO, Row.ren, evS, slot, lookR, zaa, ↓reduceIte, reduceCtorEq, if_true, if_false, zaL, zaM, zae, zah, sLoad, readAt, readNeed, Ints_ren, Ints_length, Ints_getD, and_true, true_and, zaF, zaG]; try trivial) ?_; simp only [go_sem, resV, resS, SV.ren, SV.renL, Cell.ren, St.tmF, St.hpF, idx, renO, Row.ren, evS, slot, lookR, zaa, ↓reduceIte, reduceCtorEq, if_true, if_false, zaL, zaM, zae, zah, sLoad, readAt, readNeed, Ints_ren, Ints_length, Ints_getD, and_true, true_and, zaF, zaG]; refine svw_of ?_; simp only [sw_tup, swl_cons, swl_nil, sw_one, sw_agg, cwl_cons, cwl_nil, cw_id, cw_nil0, cw_cap0, zau, and_true, true_and, and_self] <;> (try ((repeat' with_reducible apply zas) <;> (first | with_reducible trivial | exact cw_rfl _ | exact cw_gnil | exact cw_niln _ _ | exact cw_cap _ _ _ _ | (refine cw_eq ?_; congr; done)))))
  | true =>
  rw [hk] at h1
  rw [zaR]
  by_cases c1 : q.length = l.length
  case neg =>
    have c1' : ¬ (q.length : Int) = (l.length : Int) := by omega
    rw [decide_eq_false c1, Bool.false_and, if_neg zaQ]
    refine fnspec_of mixed TT_ok TT_cl ⟨fun _ => false, fun _ => [], 0, fun _ => false, fun _ => false⟩ Try.func16 rfl (by kernel_rfl) rfl 95 rfl [.tmp 12, .tmp 13] rfl ?_
    simp only [go_sem, zaa, zai, zaj, zak, zal, zaf, ↓reduceIte, reduceCtorEq, zab, zad, zam, zan, zao, decide_eq_false c1']
    repeat' (first
    | (apply cl_plain
       case hs => rfl
       case ha => (simp only [zae, zah, prepV, prepC, idx, hpL', lookR, zaa, if_true, if_false]; rfl)
       case h => (first | exact h1 ..))
    | ((first | refine s1_id ?_ | refine swp_id ?_ | refine sops_id ?_ | refine s2_id ?_); simp only [decide_eq_false c1', go_sem, zaa, zai, zaj, zak, zal, zaf, ↓reduceIte, reduceCtorEq, zab, zad, zam, zan, zao, SV.ren, SV.renL, Cell.ren, Row.ren, renO, bk, back, outUpsFrom, Ints_ren]))
    (refine fs_w (by simp only [go_sem, resV, resS, SV.ren, SV.renL, Cell.ren, St.tmF, St.hpF, idx, renO, Row.ren, evS, slot, lookR, zaa, ↓reduceIte, reduceCtorEq, if_true, if_false, zaL, zaM, zae, zah, sLoad, readAt, readNeed, Ints_ren, Ints_length, Ints_getD, and_true, true_and, zaF, zaG]; try trivial) ?_; simp only [go_sem, resV, resS, SV.ren, SV.renL, Cell.ren, St.tmF, St.hpF, idx, renO, Row.ren, evS, slot, lookR, zaa, ↓reduceIte, reduceCtorEq, if_true, if_false, zaL, zaM, zae, zah, sLoad, readAt, readNeed, Ints_ren, Ints_length, Ints_getD, and_true, true_and, zaF, zaG]; refine svw_of ?_; simp only [sw_tup, swl_cons, swl_nil, sw_one, sw_agg, cwl_cons, cwl_nil, cw_id, cw_nil0, cw_cap0, zau, and_true, true_and, and_self] <;> (try ((repeat' with_reducible apply zas) <;> (first | with_reducible trivial | exact cw_rfl _ | exact cw_gnil | exact cw_niln _ _ | exact cw_cap _ _ _ _ | (refine cw_eq ?_; congr; done)))))
  have c1' : (q.length : Int) = (l.length : Int) := by omega
  rw [decide_eq_true c1, zaR]
  by_cases c2 : b.length = l.length
  case neg =>
    have c2' : ¬ (b.length : Int) = (l.length : Int) := by omega
    rw [decide_eq_false c2, if_neg zaQ]
    refine fnspec_of mixed TT_ok TT_cl ⟨fun _ => false, fun _ => [], 0, fun _ => false, fun _ => false⟩ Try.func16 rfl (by kernel_rfl) rfl 95 rfl [.tmp 12, .tmp 13] rfl ?_
    simp only [go_sem, zaa, zai, zaj, zak, zal, zaf, ↓reduceIte, reduceCtorEq, zab, zad, zam, zan, zao, decide_eq_true c1', decide_eq_false c2']
    repeat' (first
    | (apply cl_plain
       case hs => rfl
       case ha => (simp only [zae, zah, prepV, prepC, idx, hpL', lookR, zaa, if_true, if_false]; rfl)
       case h => (first | exact h1 ..))
    | ((first | refine s1_id ?_ | refine swp_id ?_ | refine sops_id ?_ | refine s2_id ?_); simp only [decide_eq_true c1', decide_eq_false c2', go_sem, zaa, zai, zaj, zak, zal, zaf, ↓reduceIte, reduceCtorEq, zab, zad, zam, zan, zao, SV.ren, SV.renL, Cell.ren, Row.ren, renO, bk, back, outUpsFrom, Ints_ren]))
    (refine fs_w (by simp only [go_sem, resV, resS, SV.ren, SV.renL, Cell.ren, St.tmF, St.hpF, idx, renO, Row.ren, evS, slot, lookR, zaa, ↓reduceIte, reduceCtorEq, if_true, if_false, zaL, zaM, zae, zah, sLoad, readAt, readNeed, Ints_ren, Ints_length, Ints_getD, and_true, true_and, zaF, zaG]; try trivial) ?_; simp only [go_sem, resV, resS, SV.ren, SV.renL, Cell.ren, St.tmF, St.hpF, idx, renO, Row.ren, evS, slot, lookR, zaa, ↓reduceIte, reduceCtorEq, if_true, if_false, zaL, zaM, zae, zah, sLoad, readAt, readNeed, Ints_ren, Ints_length, Ints_getD, and_true, true_and, zaF, zaG]; refine svw_of ?_; simp only [sw_tup, swl_cons, swl_nil, sw_one, sw_agg, cwl_cons, cwl_nil, cw_id, cw_nil0, cw_cap0, zau, and_true, true_and, and_self] <;> (try ((repeat' with_reducible apply zas) <;> (first | with_reducible trivial | exact cw_rfl _ | exact cw_gnil | exact cw_niln _ _ | exact cw_cap _ _ _ _ | (refine cw_eq ?_; congr; done)))))
  have c2' : (b.length : Int) = (l.length : Int) := by omega
  rw [decide_eq_true c2, if_pos rfl]
  refine fnspec_of mixed TT_ok TT_cl ⟨fun _ => false, fun _ => [], 0 , fun _ => false, fun i => if i = 7 then true else false⟩ Try.func16 rfl (by kernel_rfl) rfl 95 rfl [.tmp 12, .tmp 13] rfl ?_
  simp only [go_sem, zaa, zai, zaj, zak, zal, zaf, ↓reduceIte, reduceCtorEq, zab, zad, zam, zan, zao, decide_eq_true c1', decide_eq_true c2']
  repeat' (first
    | (apply cl_plain
       case hs => rfl
       case ha => (simp only [zae, zah, prepV, prepC, idx, hpL', lookR, zaa, if_true, if_false]; rfl)
       case h => (first | exact h1 ..))
    | ((first | refine s1_id ?_ | refine swp_id ?_ | refine sops_id ?_ | refine s2_id ?_); simp only [decide_eq_true c1', decide_eq_true c2', go_sem, zaa, zai, zaj, zak, zal, zaf, ↓reduceIte, reduceCtorEq, zab, zad, zam, zan, zao, SV.ren, SV.renL, Cell.ren, Row.ren, renO, bk, back, outUpsFrom, Ints_ren]))
  refine w_loop (ι := Nat) (fun m => ⟨[(1, gr P k), (2, gi q kq), (3, gi b kb), (10, .one (.gptr [int s] 0)), (11, .one (.gptr [int cp] 0)), (14, .one (.osl 0 0 m none)), (41, gr l none), (42, i1 l.length), (43, i1 m)], [(0, some ⟨Cs (syN (syE l P q b s cp) m), 10⟩)], 1⟩) (fun m => m ≤ l.length ∧ ∀ i, i < m → (syE l P q b s cp i).2 = 0) (fun m => l.length - m) 0 ?_ ⟨zaS _, fun i hi => absurd hi (Nat.not_lt_zero _)⟩ ?_
  · (refine Imp.trans (imp_frz _ _ 1 ⟨[int s], 1⟩ (by simp only [St.hpF, lookR, zaa, if_true, if_false, ↓reduceIte]) (by first | exact Ints_isG _ | exact Bools_isG _ | exact Cs_isG _ | (simp [Cell.isG]; done))) ?_; simp only [frzTm, SV.frz, SV.frzL, Cell.frz, frzHp, frzO, Ints_frz, Bools_frz, zae, zah, zaa, if_true, if_false, ↓reduceIte])
    (refine Imp.trans (imp_frz _ _ 2 ⟨[int cp], 1⟩ (by simp only [St.hpF, lookR, zaa, if_true, if_false, ↓reduceIte]) (by first | exact Ints_isG _ | exact Bools_isG _ | exact Cs_isG _ | (simp [Cell.isG]; done))) ?_; simp only [frzTm, SV.frz, SV.frzL, Cell.frz, frzHp, frzO, Ints_frz, Bools_frz, zae, zah, zaa, if_true, if_false, ↓reduceIte])
    (refine Imp.trans (imp_nilA _ _ 14 10 99 (by simp only []; omega) rfl) ?_)
    (refine imp_ren _ _ _ [(0, 99, ⟨[], 10⟩)] (by simp) (by simp) (by simp) (zay rfl) ?_ rfl (by simp only [zac, zag, false_implies, implies_true, and_true, St.hpF, lookR, zaa, if_true, if_false, ↓reduceIte] <;> (repeat' apply zas) <;> (first | rfl | trivial)) (by simp only [zac, zag, false_implies, implies_true, and_true, true_and, flat_cons, flat_nil, flat_ints, flat_bools, flat_app, Cell.refs, and_self, eq_self_iff_true, zap]); simp only [zae, zah, zac, zag, false_implies, implies_true, and_true, lk, slot, SV.ren, Cell.ren, toN, zaa, if_true, if_false, ↓reduceIte, reduceCtorEq])
    all_goals ((repeat' apply zas) <;> (first | rfl | trivial))
  clear h1
  rintro m ⟨hm, hI⟩
  simp only at hm hI ⊢
  rcases Nat.lt_or_ge m l.length with hlt | hge
  case inr =>
    have c : ¬ (m : Int) < (l.length : Int) := by omega
    obtain rfl : m = l.length := by omega
    rw [if_pos ((allN_iff _ _).2 fun i hi => decide_eq_true (hI i hi))]
    have hRl := syN_len (syE l P q b s cp) l.length
    generalize syN (syE l P q b s cp) l.length = R at *
    simp only [go_sem, zaa, zai, zaj, zak, zal, zaf, ↓reduceIte, reduceCtorEq, zab, zad, zam, zan, zao, decide_eq_false c]
    repeat' (first
    | ((first | refine s1_id ?_ | refine swp_id ?_ | refine sops_id ?_ | refine s2_id ?_); simp only [decide_eq_false c, go_sem, zaa, zai, zaj, zak, zal, zaf, ↓reduceIte, reduceCtorEq, zab, zad, zam, zan, zao, SV.ren, SV.renL, Cell.ren, Row.ren, renO, bk, back, outUpsFrom, Ints_ren]))
    (refine fs_frz 0 ⟨Cs R, 10⟩ (by simp only [St.hpF, lookR, zaa, if_true, if_false, ↓reduceIte]) (by first | exact Ints_isG _ | exact Bools_isG _ | exact Cs_isG _ | (simp [Cell.isG]; done)) ?_; simp only [frzTm, SV.frz, SV.frzL, Cell.frz, frzHp, frzO, Ints_frz, Bools_frz, zae, zah, zaa, if_true, if_false, ↓reduceIte])
    apply fs_nil <;> (try simp only [go_sem, resV, resS, SV.ren, SV.renL, Cell.ren, St.tmF, St.hpF, idx, renO, Row.ren, evS, slot, lookR, zaa, ↓reduceIte, reduceCtorEq, if_true, if_false, zaL, zaM, zae, zah, sLoad, readAt, readNeed, Ints_ren, Ints_length, Ints_getD, and_true, true_and, zaF, zaG]) <;> (try rfl)
    show SV.tup [.one (.gsl (Cs R) 0 l.length none), i1 0] = SV.tup [.one (.gsl (Cs R) 0 R.length none), i1 0]
    rw [hRl]
  have c : (m : Int) < (l.length : Int) := by omega
  have hT := nd_td l m hlt
  have hee : syE l P q b s cp m = if ixR (usb (gN l m).i s cp) P 0 < 0 then pnew (gN l m).i (q.getD m 0) (b.getD m 0) s cp else pchange (gP P (ixR (usb (gN l m).i s cp) P 0).toNat) (q.getD m 0) (b.getD m 0) := rfl
  have he3 := syE_e l P q b s cp m
  have hsu := syN_suc (syE l P q b s cp) m
  have hno : (syE l P q b s cp m).2 ≠ 0 → allN l.length (fun i => decide ((syE l P q b s cp i).2 = 0)) = false := fun hf => Bool.eq_false_iff.2 fun h => hf (of_decide_eq_true ((allN_iff _ _).1 h m hlt))
  have hcq : (m : Int) < (q.length : Int) := by omega
  have hcb : (m : Int) < (b.length : Int) := by omega
  have hix := pl3_ix 48 (ndc (gN l m)) [int s] [int cp] (usb (gN l m).i s cp) P (fun x _ => sync1_spec x (gN l m) s cp) k (by omega)
  have h2 := new_spec (gN l m).i (q.getD m 0) (b.getD m 0) s cp
  have hll := syN_len (syE l P q b s cp) m
  have htk : List.take (m * 10) (Cs (syN (syE l P q b s cp) m)) = Cs (syN (syE l P q b s cp) m) := Cs_all _ _ (by rw [hll]; exact Nat.le_refl _)
  have hpc := pl_len (syN (syE l P q b s cp) m)
  rw [hll] at hpc
  have hI2 : (syE l P q b s cp m).2 = 0 → ∀ i, i < m + 1 → (syE l P q b s cp i).2 = 0 := fun h0 i hi => by
    rcases Nat.lt_succ_iff_lt_or_eq.1 hi with h | h
    · exact hI i h
    · rw [h]; exact h0
  rcases ixR_at (usb (gN l m).i s cp) zpl P 0 with ⟨e1, _⟩ | ⟨t, e1, ht, _, _⟩
  · rw [e1, if_pos (by omega)] at hee
    rw [e1] at hix
    rw [← hee] at h2
    generalize hE : syE l P q b s cp = E at *
    generalize hr : E m = r at *
    obtain ⟨⟨s0, s1, s2, s3, s4, s5, s6, s7, s8, s9⟩, r2⟩ := r
    simp only at he3 hno hsu
    simp only [plc, plt, pre] at h2
    generalize gN l m = y at *
    obtain ⟨yi, yp, yn, yc, yk, yo⟩ := y
    simp only [ndc] at hT hix
    simp only at h2
    clear hee
    by_cases k0 : r2 = 0
    case neg =>
      obtain rfl : r2 = 3 := by omega
      rw [hno (by decide)]
      simp only [zaP, if_false, go_sem, zaa, zai, zaj, zak, zal, zaf, ↓reduceIte, reduceCtorEq, zab, zad, zam, zan, zao, decide_eq_true c, hT]
      repeat' (first
    | with_reducible refine zas ?_ ?_
    | (intros; (try simp only [zaC, zaI, zaz, zaw, zar, zat, decide_eq_true_eq, decide_eq_false_iff_not] at *); omega)
    | ((first | refine s1_id ?_ | refine swp_id ?_ | refine sops_id ?_ | refine s2_id ?_); simp only [decide_eq_true c, hT, zaD, zaH, zap, zaE, zaJ, zaA, zaB, zax, zaK, zaN, zav, zau, go_sem, zaa, zai, zaj, zak, zal, zaf, ↓reduceIte, reduceCtorEq, zab, zad, zam, zan, zao, SV.ren, SV.renL, Cell.ren, Row.ren, renO, bk, back, outUpsFrom, Ints_ren]))
      (refine rgf_t _ (imp_frz _ _ 5 ⟨[int yi, int yp, st yn, int yc, int yk, int yo], 6⟩ (by simp only [St.hpF, lookR, zaa, if_true, if_false, ↓reduceIte]) (by first | exact Ints_isG _ | exact Bools_isG _ | exact Cs_isG _ | (simp [Cell.isG]; done))) ?_; simp only [frzTm, SV.frz, SV.frzL, Cell.frz, frzHp, frzO, Ints_frz, Bools_frz, zae, zah, zaa, if_true, if_false, ↓reduceIte])
      simp only [go_sem, zaa, zai, zaj, zak, zal, zaf, ↓reduceIte, reduceCtorEq, zab, zad, zam, zan, zao]
      repeat' (first
    | with_reducible refine zas ?_ ?_
    | (unfold OKC; kernel_rfl)
    | (unfold EDG; kernel_rfl)
    | (intros; (try simp only [zaC, zaI, zaz, zaw, zar, zat, decide_eq_true_eq, decide_eq_false_iff_not] at *); omega)
    | (apply cl_plain
       case hs => rfl
       case ha => (simp only [zae, zah, prepV, prepC, idx, hpL', lookR, zaa, if_true, if_false]; rfl)
       case h => (first | exact hix .. | exact h2 ..))
    | ((first | refine s1_id ?_ | refine swp_id ?_ | refine sops_id ?_ | refine s2_id ?_); simp only [zaD, zaH, zap, zaE, zaJ, zaA, zaB, zax, zaK, zaN, zav, zau, go_sem, zaa, zai, zaj, zak, zal, zaf, ↓reduceIte, reduceCtorEq, zab, zad, zam, zan, zao, SV.ren, SV.renL, Cell.ren, Row.ren, renO, bk, back, outUpsFrom, Ints_ren]))
      (refine fs_w (by simp only [go_sem, resV, resS, SV.ren, SV.renL, Cell.ren, St.tmF, St.hpF, idx, renO, Row.ren, evS, slot, lookR, zaa, ↓reduceIte, reduceCtorEq, if_true, if_false, zaL, zaM, zae, zah, sLoad, readAt, readNeed, Ints_ren, Ints_length, Ints_getD, and_true, true_and, zaF, zaG]; try trivial) ?_; simp only [go_sem, resV, resS, SV.ren, SV.renL, Cell.ren, St.tmF, St.hpF, idx, renO, Row.ren, evS, slot, lookR, zaa, ↓reduceIte, reduceCtorEq, if_true, if_false, zaL, zaM, zae, zah, sLoad, readAt, readNeed, Ints_ren, Ints_length, Ints_getD, and_true, true_and, zaF, zaG]; refine svw_of ?_; simp only [sw_tup, swl_cons, swl_nil, sw_one, sw_agg, cwl_cons, cwl_nil, cw_id, cw_nil0, cw_cap0, zau, and_true, true_and, and_self] <;> (try ((repeat' with_reducible apply zas) <;> (first | with_reducible trivial | exact cw_rfl _ | exact cw_gnil | exact cw_niln _ _ | exact cw_cap _ _ _ _ | (refine cw_eq ?_; congr; done)))))
    subst k0
    have hpp : Cs (syN E m) ++ [int s0, int s1, int s2, int s3, int s4, .gsl (Ints s5) 0 s5.length none, int s6, int s7, int s8, .sc (.bool s9)] = Cs (syN E (m + 1)) := by
      rw [hsu]; exact Cs_snoc _ (⟨s0, s1, s2, s3, s4, s5, s6, s7, s8, s9⟩ : Pl)
    generalize syN E m = C at *
    simp only [go_sem, zaa, zai, zaj, zak, zal, zaf, ↓reduceIte, reduceCtorEq, zab, zad, zam, zan, zao, decide_eq_true c, hT]
    repeat' (first
    | with_reducible refine zas ?_ ?_
    | (intros; (try simp only [zaC, zaI, zaz, zaw, zar, zat, decide_eq_true_eq, decide_eq_false_iff_not] at *); omega)
    | ((first | refine s1_id ?_ | refine swp_id ?_ | refine sops_id ?_ | refine s2_id ?_); simp only [decide_eq_true c, hT, zaD, zaH, zap, zaE, zaJ, zaA, zaB, zax, zaK, zaN, zav, zau, go_sem, zaa, zai, zaj, zak, zal, zaf, ↓reduceIte, reduceCtorEq, zab, zad, zam, zan, zao, SV.ren, SV.renL, Cell.ren, Row.ren, renO, bk, back, outUpsFrom, Ints_ren]))
    (refine rgf_t _ (imp_frz _ _ 5 ⟨[int yi, int yp, st yn, int yc, int yk, int yo], 6⟩ (by simp only [St.hpF, lookR, zaa, if_true, if_false, ↓reduceIte]) (by first | exact Ints_isG _ | exact Bools_isG _ | exact Cs_isG _ | (simp [Cell.isG]; done))) ?_; simp only [frzTm, SV.frz, SV.frzL, Cell.frz, frzHp, frzO, Ints_frz, Bools_frz, zae, zah, zaa, if_true, if_false, ↓reduceIte])
    simp only [go_sem, zaa, zai, zaj, zak, zal, zaf, ↓reduceIte, reduceCtorEq, zab, zad, zam, zan, zao]
    repeat' (first
    | with_reducible refine zas ?_ ?_
    | (unfold OKC; kernel_rfl)
    | (unfold EDG; kernel_rfl)
    | (intros; (try simp only [zaC, zaI, zaz, zaw, zar, zat, decide_eq_true_eq, decide_eq_false_iff_not] at *); omega)
    | (apply cl_plain
       case hs => rfl
       case ha => (simp only [zae, zah, prepV, prepC, idx, hpL', lookR, zaa, if_true, if_false]; rfl)
       case h => (first | exact hix .. | exact h2 ..))
    | ((first | refine s1_id ?_ | refine swp_id ?_ | refine sops_id ?_ | refine s2_id ?_); simp only [htk, hpp, zaD, zaH, zap, zaE, zaJ, zaA, zaB, zax, zaK, zaN, zav, zau, go_sem, zaa, zai, zaj, zak, zal, zaf, ↓reduceIte, reduceCtorEq, zab, zad, zam, zan, zao, SV.ren, SV.renL, Cell.ren, Row.ren, renO, bk, back, outUpsFrom, Ints_ren]))
    refine le_mk (m + 1) ?_ ⟨hlt, hI2 rfl⟩ (by omega)
    (refine imp_ren _ _ _ [(0, 41, ⟨Cs (syN E (m + 1)), 10⟩)] (by simp) (by simp) (by simp) (zay rfl) ?_ rfl (by simp only [zac, zag, false_implies, implies_true, and_true, St.hpF, lookR, zaa, if_true, if_false, ↓reduceIte, Cs_flat] <;> (repeat' apply zas) <;> (first | rfl | trivial)) (by simp only [zac, zag, false_implies, implies_true, and_true, true_and, flat_cons, flat_nil, flat_ints, flat_bools, flat_app, Cell.refs, and_self, eq_self_iff_true, zap, Cs_flat]); simp only [zae, zah, zac, zag, false_implies, implies_true, and_true, lk, slot, SV.ren, Cell.ren, toN, zaa, if_true, if_false, ↓reduceIte, reduceCtorEq])
    all_goals ((repeat' apply zas) <;> (first | rfl | trivial | (simp only [zaq]; done) | (simp only [zaq]; rfl) | (simp only [zaq]; trivial)))
  · rw [Nat.zero_add] at e1
    rw [e1, if_neg (by omega), zaO] at hee
    rw [e1] at hix
    have h5 := change_spec (gP P t) none (q.getD m 0) (b.getD m 0)
    rw [← hee] at h5
    have hTt := pl_td P t ht
    have ct : ¬ (t : Int) < 0 := by omega
    generalize hE : syE l P q b s cp = E at *
    generalize hr : E m = r at *
    obtain ⟨⟨s0, s1, s2, s3, s4, s5, s6, s7, s8, s9⟩, r2⟩ := r
    simp only at he3 hno hsu
    generalize gN l m = y at *
    obtain ⟨yi, yp, yn, yc, yk, yo⟩ := y
    generalize gP P t = x at *
    obtain ⟨a0, a1, a2, a3, a4, a5, a6, a7, a8, a9⟩ := x
    simp only [plc, plt, pre] at h5 hTt
    simp only [ndc] at hT hix
    clear hee h2
    by_cases k0 : r2 = 0
    case neg =>
      obtain rfl : r2 = 3 := by omega
      rw [hno (by decide)]
      simp only [zaP, if_false, go_sem, zaa, zai, zaj, zak, zal, zaf, ↓reduceIte, reduceCtorEq, zab, zad, zam, zan, zao, decide_eq_true c, hT]
      repeat' (first
    | with_reducible refine zas ?_ ?_
    | (intros; (try simp only [zaC, zaI, zaz, zaw, zar, zat, decide_eq_true_eq, decide_eq_false_iff_not] at *); omega)
    | ((first | refine s1_id ?_ | refine swp_id ?_ | refine sops_id ?_ | refine s2_id ?_); simp only [decide_eq_true c, hT, zaD, zaH, zap, zaE, zaJ, zaA, zaB, zax, zaK, zaN, zav, zau, go_sem, zaa, zai, zaj, zak, zal, zaf, ↓reduceIte, reduceCtorEq, zab, zad, zam, zan, zao, SV.ren, SV.renL, Cell.ren, Row.ren, renO, bk, back, outUpsFrom, Ints_ren]))
      (refine rgf_t _ (imp_frz _ _ 5 ⟨[int yi, int yp, st yn, int yc, int yk, int yo], 6⟩ (by simp only [St.hpF, lookR, zaa, if_true, if_false, ↓reduceIte]) (by first | exact Ints_isG _ | exact Bools_isG _ | exact Cs_isG _ | (simp [Cell.isG]; done))) ?_; simp only [frzTm, SV.frz, SV.frzL, Cell.frz, frzHp, frzO, Ints_frz, Bools_frz, zae, zah, zaa, if_true, if_false, ↓reduceIte])
      simp only [go_sem, zaa, zai, zaj, zak, zal, zaf, ↓reduceIte, reduceCtorEq, zab, zad, zam, zan, zao, decide_eq_false ct, hTt]
      repeat' (first
    | with_reducible refine zas ?_ ?_
    | (unfold OKC; kernel_rfl)
    | (unfold EDG; kernel_rfl)
    | (intros; (try simp only [zaC, zaI, zaz, zaw, zar, zat, decide_eq_true_eq, decide_eq_false_iff_not] at *); omega)
    | (apply cl_plain
       case hs => rfl
       case ha => (simp only [zae, zah, prepV, prepC, idx, hpL', lookR, zaa, if_true, if_false]; rfl)
       case h => (first | exact hix .. | exact h5 ..))
    | ((first | refine s1_id ?_ | refine swp_id ?_ | refine sops_id ?_ | refine s2_id ?_); simp only [decide_eq_false ct, hTt, zaD, zaH, zap, zaE, zaJ, zaA, zaB, zax, zaK, zaN, zav, zau, go_sem, zaa, zai, zaj, zak, zal, zaf, ↓reduceIte, reduceCtorEq, zab, zad, zam, zan, zao, SV.ren, SV.renL, Cell.ren, Row.ren, renO, bk, back, outUpsFrom, Ints_ren]))
      (refine fs_w (by simp only [go_sem, resV, resS, SV.ren, SV.renL, Cell.ren, St.tmF, St.hpF, idx, renO, Row.ren, evS, slot, lookR, zaa, ↓reduceIte, reduceCtorEq, if_true, if_false, zaL, zaM, zae, zah, sLoad, readAt, readNeed, Ints_ren, Ints_length, Ints_getD, and_true, true_and, zaF, zaG]; try trivial) ?_; simp only [go_sem, resV, resS, SV.ren, SV.renL, Cell.ren, St.tmF, St.hpF, idx, renO, Row.ren, evS, slot, lookR, zaa, ↓reduceIte, reduceCtorEq, if_true, if_false, zaL, zaM, zae, zah, sLoad, readAt, readNeed, Ints_ren, Ints_length, Ints_getD, and_true, true_and, zaF, zaG]; refine svw_of ?_; simp only [sw_tup, swl_cons, swl_nil, sw_one, sw_agg, cwl_cons, cwl_nil, cw_id, cw_nil0, cw_cap0, zau, and_true, true_and, and_self] <;> (try ((repeat' with_reducible apply zas) <;> (first | with_reducible trivial | exact cw_rfl _ | exact cw_gnil | exact cw_niln _ _ | exact cw_cap _ _ _ _ | (refine cw_eq ?_; congr; done)))))
    subst k0
    have hpp : Cs (syN E m) ++ [int s0, int s1, int s2, int s3, int s4, .gsl (Ints s5) 0 s5.length none, int s6, int s7, int s8, .sc (.bool s9)] = Cs (syN E (m + 1)) := by
      rw [hsu]; exact Cs_snoc _ (⟨s0, s1, s2, s3, s4, s5, s6, s7, s8, s9⟩ : Pl)
    generalize syN E m = C at *
    simp only [go_sem, zaa, zai, zaj, zak, zal, zaf, ↓reduceIte, reduceCtorEq, zab, zad, zam, zan, zao, decide_eq_true c, hT]
    repeat' (first
    | with_reducible refine zas ?_ ?_
    | (intros; (try simp only [zaC, zaI, zaz, zaw, zar, zat, decide_eq_true_eq, decide_eq_false_iff_not] at *); omega)
    | ((first | refine s1_id ?_ | refine swp_id ?_ | refine sops_id ?_ | refine s2_id ?_); simp only [decide_eq_true c, hT, zaD, zaH, zap, zaE, zaJ, zaA, zaB, zax, zaK, zaN, zav, zau, go_sem, zaa, zai, zaj, zak, zal, zaf, ↓reduceIte, reduceCtorEq, zab, zad, zam, zan, zao, SV.ren, SV.renL, Cell.ren, Row.ren, renO, bk, back, outUpsFrom, Ints_ren]))
    (refine rgf_t _ (imp_frz _ _ 5 ⟨[int yi, int yp, st yn, int yc, int yk, int yo], 6⟩ (by simp only [St.hpF, lookR, zaa, if_true, if_false, ↓reduceIte]) (by first | exact Ints_isG _ | exact Bools_isG _ | exact Cs_isG _ | (simp [Cell.isG]; done))) ?_; simp only [frzTm, SV.frz, SV.frzL, Cell.frz, frzHp, frzO, Ints_frz, Bools_frz, zae, zah, zaa, if_true, if_false, ↓reduceIte])
    simp only [go_sem, zaa, zai, zaj, zak, zal, zaf, ↓reduceIte, reduceCtorEq, zab, zad, zam, zan, zao, decide_eq_false ct, hTt]
    repeat' (first
    | with_reducible refine zas ?_ ?_
    | (unfold OKC; kernel_rfl)
    | (unfold EDG; kernel_rfl)
    | (intros; (try simp only [zaC, zaI, zaz, zaw, zar, zat, decide_eq_true_eq, decide_eq_false_iff_not] at *); omega)
    | (apply cl_plain
       case hs => rfl
       case ha => (simp only [zae, zah, prepV, prepC, idx, hpL', lookR, zaa, if_true, if_false]; rfl)
       case h => (first | exact hix .. | exact h5 ..))
    | ((first | refine s1_id ?_ | refine swp_id ?_ | refine sops_id ?_ | refine s2_id ?_); simp only [decide_eq_false ct, hTt, htk, hpp, zaD, zaH, zap, zaE, zaJ, zaA, zaB, zax, zaK, zaN, zav, zau, go_sem, zaa, zai, zaj, zak, zal, zaf, ↓reduceIte, reduceCtorEq, zab, zad, zam, zan, zao, SV.ren, SV.renL, Cell.ren, Row.ren, renO, bk, back, outUpsFrom, Ints_ren]))
    refine le_mk (m + 1) ?_ ⟨hlt, hI2 rfl⟩ (by omega)
    (refine imp_ren _ _ _ [(0, 41, ⟨Cs (syN E (m + 1)), 10⟩)] (by simp) (by simp) (by simp) (zay rfl) ?_ rfl (by simp only [zac, zag, false_implies, implies_true, and_true, St.hpF, lookR, zaa, if_true, if_false, ↓reduceIte, Cs_flat] <;> (repeat' apply zas) <;> (first | rfl | trivial)) (by simp only [zac, zag, false_implies, implies_true, and_true, true_and, flat_cons, flat_nil, flat_ints, flat_bools, flat_app, Cell.refs, and_self, eq_self_iff_true, zap, Cs_flat]); simp only [zae, zah, zac, zag, false_implies, implies_true, and_true, lk, slot, SV.ren, Cell.ren, toN, zaa, if_true, if_false, ↓reduceIte, reduceCtorEq])
    all_goals ((repeat' apply zas) <;> (first | rfl | trivial | (simp only [zaq]; done) | (simp only [zaq]; rfl) | (simp only [zaq]; trivial)))
theorem thnew_spec (l : List Nd) (n : Int) (q b : List Int) (s cp : Int) (kq kb : Option Nat) (hl : l.length ≤ 1000000) (hq : q.length ≤ 9223372036854775807) (hb : b.length ≤ 9223372036854775807) (hnm : NmR l) (hct : CtR l) : FnSpec Try.prog 33 [trV l none n, gi q kq, gi b kb, i1 s, i1 cp] [] (.tup [gr (thSy l n [] q b s cp).1 none, i1 (thSy l n [] q b s cp).2]) [] := by
  have h1 : FnSpec Try.prog 16 [trV l none n, .one (.sc (.slice none 0 0)), gi q kq, gi b kb, i1 s, i1 cp] [] (.tup [gr (thSy l n [] q b s cp).1 none, i1 (thSy l n [] q b s cp).2]) [] := (thsync_spec l n [] none q b s cp kq kb hl (by decide) hq hb hnm hct).pre ⟨⟨cw_rfl _, cw_rfl _, trivial⟩, cw_gnil, cw_rfl _, cw_rfl _, cw_rfl _, cw_rfl _, trivial⟩
  generalize thSy l n [] q b s cp = r at *
  refine fnspec_of mixed TT_ok TT_cl ⟨fun _ => false, fun _ => [], 0, fun _ => false, fun _ => false⟩ Try.func33 rfl (by kernel_rfl) rfl 20 rfl [.tmp 10, .tmp 11] rfl ?_
  simp only [go_sem, zaa, zai, zaj, zak, zal, zaf, ↓reduceIte, reduceCtorEq, zab, zad, zam, zan, zao]
  repeat' (first
    | (apply cl_plain
       case hs => rfl
       case ha => (simp only [zae, zah, prepV, prepC, idx, hpL', lookR, zaa, if_true, if_false]; rfl)
       case h => (first | exact h1 ..))
    | ((first | refine s1_id ?_ | refine swp_id ?_ | refine sops_id ?_ | refine s2_id ?_); simp only [go_sem, zaa, zai, zaj, zak, zal, zaf, ↓reduceIte, reduceCtorEq, zab, zad, zam, zan, zao, SV.ren, SV.renL, Cell.ren, Row.ren, renO, bk, back, outUpsFrom, Ints_ren])
    | (apply fs_nil <;> (try simp only [go_sem, resV, resS, SV.ren, SV.renL, Cell.ren, St.tmF, St.hpF, idx, renO, Row.ren, evS, slot, lookR, zaa, ↓reduceIte, reduceCtorEq, if_true, if_false, zaL, zaM, zae, zah, sLoad, readAt, readNeed, Ints_ren, Ints_length, Ints_getD, and_true, true_and, zaF, zaG]) <;> (try rfl)))
end Go.Proofs.Ytcnilpdlcmpbbaa
-- NEWGO
-- PRUNE: cl_lendx
-- ISG: Cs_isG
-- FLAT: Cs_flat
namespace Go.Proofs.Ytcnilpdlcmpbbaa
set_option linter.unusedVariables false
set_option linter.unusedSimpArgs false
open Go.Proofs.Ytcnilpdlcmpbbaa.Sh
set_option maxRecDepth 20000
theorem VT.ctr {l : List Nd} {n : Int} (h : VT l n) : CtR l := fun x hx => by
  have := (h.vl.all x hx).2
  unfold rngOk at this
  simp only [zaC, decide_eq_true_eq] at this
  omega
abbrev xT : List Nd := [⟨1, 0, [], 0, 0, 0⟩, ⟨2, 1, [97], 0, 0, 0⟩, ⟨3, 2, [98], 0, 0, 0⟩, ⟨4, 2, [99], 0, 0, 0⟩]
abbrev xQ : List Int := [4611686018427387904, 2, 4611686018427387904, 4611686018427387904]
def xP0 : List Pl := (thSy xT 5 [] xQ [0, 0, 0, 0] 1 1).1
def xP1 : List Pl := (thSp xT 5 xP0 3 0).1
def xP2 : List Pl := (thSp xT 5 xP1 4 0).1
set_option maxHeartbeats 4000000 in
theorem thsane_spec : FnSpec Try.prog 7 [] [] (b1 true) [] := by
  have hN : NmR xT := fun x hx => by simp only [List.mem_cons, zag, or_false] at hx; rcases hx with rfl | rfl | rfl | rfl <;> decide
  have hC : CtR xT := fun x hx => by simp only [List.mem_cons, zag, or_false] at hx; rcases hx with rfl | rfl | rfl | rfl <;> decide
  have a1 := radd_spec [⟨1, 0, [], 0, 0, 0⟩] none 2 1 [97] (by decide) (fun x hx => by rw [List.mem_singleton.1 hx]; decide) (by decide)
  have e1 : addM [⟨1, 0, [], 0, 0, 0⟩] 2 1 [97] = (([⟨1, 0, [], 0, 0, 0⟩, ⟨2, 1, [97], 0, 0, 0⟩], 3), 2, 0) := by kernel_rfl
  rw [e1] at a1
  have a2 := radd_spec [⟨1, 0, [], 0, 0, 0⟩, ⟨2, 1, [97], 0, 0, 0⟩] none 3 2 [98] (by decide) (fun x hx => by simp only [List.mem_cons, zag, or_false] at hx; rcases hx with rfl | rfl <;> decide) (by decide)
  have e2 : addM [⟨1, 0, [], 0, 0, 0⟩, ⟨2, 1, [97], 0, 0, 0⟩] 3 2 [98] = (([⟨1, 0, [], 0, 0, 0⟩, ⟨2, 1, [97], 0, 0, 0⟩, ⟨3, 2, [98], 0, 0, 0⟩], 4), 3, 0) := by kernel_rfl
  rw [e2] at a2
  have a3 := radd_spec [⟨1, 0, [], 0, 0, 0⟩, ⟨2, 1, [97], 0, 0, 0⟩, ⟨3, 2, [98], 0, 0, 0⟩] none 4 2 [99] (by decide) (fun x hx => by simp only [List.mem_cons, zag, or_false] at hx; rcases hx with rfl | rfl | rfl <;> decide) (by decide)
  have e3 : addM [⟨1, 0, [], 0, 0, 0⟩, ⟨2, 1, [97], 0, 0, 0⟩, ⟨3, 2, [98], 0, 0, 0⟩] 4 2 [99] = ((xT, 5), 4, 0) := by kernel_rfl
  rw [e3] at a3
  have b0 := thnew_spec xT 5 xQ [0, 0, 0, 0] 1 1 (some 4) (some 4) (by decide) (by decide) (by decide) hN hC
  have f0 : (thSy xT 5 [] xQ [0, 0, 0, 0] 1 1).2 = 0 := by kernel_rfl
  rw [f0, show (thSy xT 5 [] xQ [0, 0, 0, 0] 1 1).1 = xP0 from rfl] at b0
  have b0' : FnSpec Try.prog 33 [trV xT none 5, .one (.gsl (Ints [4611686018427387904, 2, 4611686018427387904, 4611686018427387904]) 0 4 (some 4)), .one (.gsl (Ints [0, 0, 0, 0]) 0 4 (some 4)), i1 1, i1 1] [] (.tup [gr xP0 none, i1 0]) [] := b0
  have l0 : xP0.length ≤ 1000000 := by decide +kernel
  have b1' := thspend_spec xT 5 xP0 none 3 0 (by decide) l0 hN hC
  have f1 : (thSp xT 5 xP0 3 0).2 = 0 := by kernel_rfl
  rw [f1, show (thSp xT 5 xP0 3 0).1 = xP1 from rfl] at b1'
  have l1 : xP1.length ≤ 1000000 := by decide +kernel
  have b2 := thspend_spec xT 5 xP1 none 4 0 (by decide) l1 hN hC
  have f2 : (thSp xT 5 xP1 4 0).2 = 0 := by kernel_rfl
  rw [f2, show (thSp xT 5 xP1 4 0).1 = xP2 from rfl] at b2
  have l2 : xP2.length ≤ 1000000 := by decide +kernel
  have b3 := thspend_spec xT 5 xP2 none 3 0 (by decide) l2 hN hC
  have f3 : (thSp xT 5 xP2 3 0).2 = 11 := by kernel_rfl
  rw [f3] at b3
  have b4 := thblk_spec xT 5 xP2 none 4 0 (by decide) l2 hN hC
  have f4 : bkF xP2 0 (wayM xT 5 xP2 4) = (2, true) := by kernel_rfl
  rw [f4] at b4
  have b4' : FnSpec Try.prog 24 [trV xT none 5, gr xP2 none, i1 4, i1 0] [] (.tup [i1 2, b1 true]) [] := b4
  clear b0 b4 f0 f1 f2 f3 f4 hN hC l0 l1 l2 e1 e2 e3
  simp only [adV] at a1 a2 a3
  generalize (thSp xT 5 xP2 3 0).1 = P3 at *
  generalize xP2 = P2 at *
  generalize xP1 = P1 at *
  generalize xP0 = P0 at *
  generalize xT = T3 at *
  obtain ⟨T2, hT2⟩ : ∃ T : List Nd, [⟨1, 0, [], 0, 0, 0⟩, ⟨2, 1, [97], 0, 0, 0⟩, ⟨3, 2, [98], 0, 0, 0⟩] = T := ⟨_, rfl⟩
  rw [hT2] at a2 a3
  obtain ⟨T1, hT1⟩ : ∃ T : List Nd, [⟨1, 0, [], 0, 0, 0⟩, ⟨2, 1, [97], 0, 0, 0⟩] = T := ⟨_, rfl⟩
  rw [hT1] at a1 a2
  clear hT1 hT2
  refine fnspec_of mixed TT_ok TT_cl ⟨fun _ => false, fun _ => [], 0, fun _ => false, fun _ => false⟩ Try.func7 rfl (by kernel_rfl) rfl 93 rfl [.tmp 0] rfl ?_
  simp only [go_sem, zaa, zai, zaj, zak, zal, zaf, ↓reduceIte, reduceCtorEq, zab, zad, zam, zan, zao]
  repeat' (first
    | (apply cl_plain
       case hs => rfl
       case ha => (simp only [zae, zah, prepV, prepC, idx, hpL', lookR, zaa, if_true, if_false]; rfl)
       case h => (first | exact trnew_spec .. | exact a1 .. | exact a2 .. | exact a3 .. | exact b0' .. | exact b1' .. | exact b2 .. | exact b3 .. | exact b4' ..))
    | (apply cl_use
       case hr => (simp only [zae, zah, hpL', lookR, zaa, if_true, if_false]; first | exact map0 | exact map1 _ | exact map2 _ _ | exact map3 _ _ _)
       case ha => (simp only [zae, zah, prepV, prepC, idx, hpL', lookR, zaa, if_true, if_false]; rfl)
       case hs => (simp only [snaps, SV.refs, Cell.refs, idx, List.flatMap_cons, List.flatMap_nil, zaJ, zaE, zap, List.filter_cons, List.filter_nil, zaa, if_true, if_false, Option.isNone_none, Option.isNone_some, zaP, reduceCtorEq, ↓reduceIte]; rfl)
       case hn => decide
       case h => (first | exact trnew_spec .. | exact a1 .. | exact a2 .. | exact a3 .. | exact b0' .. | exact b1' .. | exact b2 .. | exact b3 .. | exact b4' ..)
       case hf => (simp only [zac, zag, false_implies, implies_true, and_true, true_and, flat_cons, flat_nil, flat_ints, flat_bools, flat_app, Cs_flat, Cell.refs, and_self, eq_self_iff_true, zap])
       case hg => ((simp [hpL', lookR, Cell.isG]) <;> (repeat' apply zas) <;> (first | exact Ints_isG _ | exact Cs_isG _))
       case hl => (simp only [zav, zau]; decide))
    | ((first | refine s1_id ?_ | refine swp_id ?_ | refine sops_id ?_ | refine s2_id ?_); simp only [zaD, zaH, zap, zaE, zaJ, zaA, zaB, zax, zaK, zaN, zav, zau, go_sem, zaa, zai, zaj, zak, zal, zaf, ↓reduceIte, reduceCtorEq, zab, zad, zam, zan, zao, SV.ren, SV.renL, Cell.ren, Row.ren, renO, bk, back, outUpsFrom, Ints_ren])
    | (apply fs_nil <;> (try simp only [go_sem, resV, resS, SV.ren, SV.renL, Cell.ren, St.tmF, St.hpF, idx, renO, Row.ren, evS, slot, lookR, zaa, ↓reduceIte, reduceCtorEq, if_true, if_false, zaL, zaM, zae, zah, sLoad, readAt, readNeed, Ints_ren, Ints_length, Ints_getD, and_true, true_and, zaF, zaG]) <;> (try rfl)))
end Go.Proofs.Ytcnilpdlcmpbbaa
-- NEWGO
-- PRUNE: cl_lendx cl_use
-- ISG: Cs_isG
-- FLAT: Cs_flat
namespace Go.Proofs.Ytcnilpdlcmpbbaa
set_option linter.unusedVariables false
set_option linter.unusedSimpArgs false
open Go.Proofs.Ytcnilpdlcmpbbaa.Sh
set_option maxRecDepth 20000
theorem proom_nn {x : Pl} (h : pck x = true) (cpu : Int) : 0 ≤ proom x cpu := by
  have h1 := pck_all h cpu.toNat
  have h2 := (nums h).l
  unfold proom
  split
  · omega
  · split <;> omega
theorem rmF_zero {P : List Pl} {cpu : Int} : ∀ (W : List Int) (m : Int), 0 ≤ m → (∀ i ∈ W, 0 ≤ proom (gP P i.toNat) cpu) → (rmF P cpu W m = 0 ↔ m = 0 ∨ ∃ i ∈ W, proom (gP P i.toNat) cpu = 0)
  | [], m, _, _ => by simp [rmF]
  | w :: W, m, h, hw => by
    have h1 := hw w List.mem_cons_self
    rw [rmF, rmF_zero W _ (by omega) fun i hi => hw i (List.mem_cons_of_mem _ hi)]
    constructor
    · rintro (h2 | ⟨i, hi, h2⟩)
      · by_cases hm : m = 0
        · exact .inl hm
        · exact .inr ⟨w, List.mem_cons_self, by omega⟩
      · exact .inr ⟨i, List.mem_cons_of_mem _ hi, h2⟩
    · rintro (h2 | ⟨i, hi, h2⟩)
      · left; omega
      · rcases List.mem_cons.1 hi with rfl | hi
        · left; omega
        · exact .inr ⟨i, hi, h2⟩
theorem psp_th {x : Pl} {cpu : Int} (h : (pspend x cpu).2 = 0) (hc : pchk x cpu = 0) : (pspend x cpu).1.th = x.th := by
  unfold pspend at h ⊢
  rw [if_neg (by simp [hc])] at h ⊢
  repeat' split at h
  all_goals first | (exfalso; simp at h; done) | skip
  all_goals (repeat' split)
  all_goals first | rfl | (exfalso; simp_all; done)
def SpB (P : List Pl) (k : Int) : Prop := ∀ i, i < P.length → (gP P i).sp ≤ k
theorem SpB.map {P : List Pl} {k k' : Int} {f : Pl → Pl} (h : SpB P k) (hf : ∀ x ∈ P, x.sp ≤ k → (f x).sp ≤ k') : SpB (P.map f) k' := fun i hi => by
  rw [List.length_map] at hi
  rw [map_at f P i hi]
  exact hf _ (getD_mem P i zpl hi) (h i hi)
theorem spF_sp {x : Pl} {cpu : Int} (h : pck x = true) (hc : 0 ≤ cpu ∧ cpu < x.c.length) : (spF cpu x).sp ≤ x.sp + 1 := by
  rcases (pspend_ok h hc).2.2 with ⟨_, _, h3, _⟩ | ⟨_, _, _, _, h5⟩
  · unfold spF
    rw [h3]
    exact (mn_le _ _).1
  · unfold spF
    rw [h5]
    show x.sp ≤ x.sp + 1
    omega
theorem SpB.sp {l : List Nd} {n : Int} {P : List Pl} {c k : Int} (hP : Pv l n P c) (hk : 0 ≤ k) (h : SpB P k) {g cpu : Int} (he : (thSp l n P g cpu).2 = 0 ∨ (thSp l n P g cpu).2 = 11) : SpB (thSp l n P g cpu).1 (k + 1) := by
  unfold thSp at he ⊢
  rw [if_neg (by simp [hP.ok])] at he ⊢
  split at he
  · simp at he
  rename_i h1
  rw [if_neg h1]
  split at he
  · simp at he
  rename_i h2
  rw [if_neg h2]
  rw [Bool.not_eq_false, wi_iff] at h2
  have h0 := hP.c 0 (by rw [hP.len]; exact hP.vt.ne)
  have hx : ∀ x ∈ P, x.sp ≤ k → (spF cpu x).sp ≤ k + 1 := fun x hx hs => by
    obtain ⟨i, hi, rfl⟩ := gP_mem P x hx
    have := spF_sp (cpu := cpu) (hP.pck hi) (by have := hP.c i hi; omega)
    omega
  split
  · exact h.map fun x hm hs => by split; (· exact hx x hm hs); (· omega)
  · exact h.map fun x hm hs => by split; (· exact hx x hm hs); (· omega)
theorem SpB.rf {l : List Nd} {n : Int} {P : List Pl} {c k : Int} (hP : Pv l n P c) (hk : 0 ≤ k) (h : SpB P k) (due : List Int) : SpB (thRf l n P due) k := by
  unfold thRf
  rw [if_pos hP.ok]
  refine h.map fun x hx hs => ?_
  unfold rfF
  split
  · unfold prefill
    split
    · show (0 : Int) ≤ k; exact hk
    · split
      · show (0 : Int) ≤ k; exact hk
      · show (0 : Int) ≤ k; exact hk
  · exact hs
theorem SpB.mono {P : List Pl} {k k' : Int} (h : SpB P k) (hk : k ≤ k') : SpB P k' := fun i hi => Int.le_trans (h i hi) hk
theorem plL_sp {D : List Int} {l : List Nd} {n c : Int} : ∀ (m : Nat) {s : List Pl × Nat} {k : Int}, Pv l n s.1 c → 0 ≤ k → SpB s.1 k → SpB (plL D l n c m s).1 (k + m)
  | 0, s, k, h, hk, hs => by rw [plL]; exact hs.mono (by omega)
  | m + 1, s, k, h, hk, hs => by
    rw [plL]
    have h1 := plP_ok (D := D) (s := s) h
    have h2 : SpB (plP D l n c s) (k + 1) := by
      unfold plP
      split
      · rename_i e; exact hs.sp h hk (.inl e)
      · exact hs.mono (by omega)
    have h3 : SpB (plS D l n c s).1 (k + 1) := by
      unfold plS
      split
      · exact h2.rf h1 (by omega) _
      · exact h2
    exact (plL_sp m (plS_ok h) (by omega) h3).mono (by omega)
theorem mkP_sp {D : List Int} {l : List Nd} {n c : Int} (hV : VT l n) (hc : 1 ≤ c ∧ c ≤ 16) (j : Nat) : SpB (mkP D l n c j).1 12 := by
  have h3 := nx_rng D (plQ D l j).2 3 (by decide)
  have h4 := nx_rng D (nxA D (plQ D l j).2 3) 12 (by decide)
  have h5 := (thNw_ok hV (mkNu_ok D j l.length) (s := 1 + nxV D (plQ D l j).2 3) (by omega) hc).2.2
  have h6 := plI_ok (D := D) hV hc j
  unfold mkP
  have h7 : SpB (plI D l c j) 0 := fun i hi => by
    have e := h5 i (by rw [← h6.len]; exact hi)
    show (gP (plI D l c j) i).sp ≤ 0
    rw [show plI D l c j = nwN l (mkNu D j l.length).1.1 (mkNu D j l.length).1.2 (1 + nxV D (plQ D l j).2 3) c l.length from rfl, e]
    exact Int.le_refl _
  have h8 := plL_sp (D := D) (nxV D (nxA D (plQ D l j).2 3) 12).toNat (s := (plI D l c j, nxA D (nxA D (plQ D l j).2 3) 12)) h6 (Int.le_refl 0) h7
  exact h8.mono (by omega)
structure SpR (l : List Nd) (n : Int) (P : List Pl) (c g cpu : Int) (y : List Pl) (e a : Int) (bl : Bool) : Prop where
  ok : Pv l n y c
  e : e = if bl = true then 11 else 0
  bk : bkF P cpu (wayM l n P g) = (a, bl)
  em : (ancM l n g).any (fun id => decide (proom (gtM P id).1 cpu = 0)) = bl
  at' : decide (a ∈ ancM l n g) = bl
  rm : decide (thRm l n P g cpu = 0) = bl
  i : ∀ i, i < P.length → (gP y i).sp - (gP P i).sp = (if bl = false ∧ (gP P i).g ∈ ancM l n g then 1 else 0) ∧ (lim (gP P i) = true → hld (gP P i) - hld (gP y i) = (if bl = false ∧ (gP P i).g ∈ ancM l n g then 1 else 0)) ∧ ((gP y i).th = (gP P i).th ∨ (gP P i).g = a)
theorem thSp_r {l : List Nd} {n : Int} {P : List Pl} {c g cpu : Int} (hP : Pv l n P c) (hg : hasM l n g = true) (hc : 0 ≤ cpu ∧ cpu < c) (hs : SpB P 1000) : ∃ a bl, SpR l n P c g cpu (thSp l n P g cpu).1 (thSp l n P g cpu).2 a bl := by
  obtain ⟨q, hq⟩ : ∃ q, bkF P cpu (wayM l n P g) = q := ⟨_, rfl⟩
  obtain ⟨a, bl⟩ := q
  have h0 := hP.c 0 (by rw [hP.len]; exact hP.vt.ne)
  have e0 : thSp l n P g cpu = if bl = true then (upF [a] (spF cpu) P, 11) else (upF (ancM l n g) (spF cpu) P, 0) := by
    unfold thSp
    rw [if_neg (by simp [hP.ok]), if_neg (by simp [hg]), if_neg (by rw [Bool.not_eq_false, wi_iff]; omega), hq]
  have hga := gt_at hP.ok g
  have hw : wayM l n P g = poL P (ancM l n g) := by unfold wayM; rw [if_pos hP.ok]
  have hnn : ∀ i ∈ wayM l n P g, 0 ≤ proom (gP P i.toNat) cpu := fun i hi => by
    obtain ⟨t, rfl, ht⟩ := way_in hP.ok g i hi
    rw [zaO]
    exact proom_nn (hP.pck ht) cpu
  have hcc : ∀ i, i < P.length → 0 ≤ cpu ∧ cpu < (gP P i).c.length := fun i hi => by have := hP.c i hi; omega
  have hwz : ∀ {i : Int}, i ∈ wayM l n P g → ∃ id ∈ ancM l n g, proom (gtM P id).1 cpu = proom (gP P i.toNat) cpu ∧ (gP P i.toNat).g = id := fun {i} hi => by
    rw [hw] at hi
    obtain ⟨id, hid, rfl⟩ := List.mem_map.1 hi
    obtain ⟨t, ht, _, htg, hgt⟩ := hga id hid
    rw [ht, zaO]
    exact ⟨id, hid, by rw [hgt], htg⟩
  have hzw : ∀ {id : Int}, id ∈ ancM l n g → ∃ i ∈ wayM l n P g, proom (gtM P id).1 cpu = proom (gP P i.toNat) cpu := fun {id} hid => by
    obtain ⟨t, ht, _, htg, hgt⟩ := hga id hid
    refine ⟨ixR (fun x : Pl => decide (x.g = id)) P 0, by rw [hw]; exact List.mem_map.2 ⟨id, hid, rfl⟩, ?_⟩
    rw [ht, zaO, hgt]
  have hem : (ancM l n g).any (fun id => decide (proom (gtM P id).1 cpu = 0)) = bl := by
    cases bl with
    | true =>
      obtain ⟨i, hi, h1, _⟩ := bkF_yes (L := P) (cpu := cpu) (W := wayM l n P g) (by rw [hq])
      obtain ⟨id, hid, h2, _⟩ := hwz hi
      exact List.any_eq_true.2 ⟨id, hid, decide_eq_true (by rw [h2, h1])⟩
    | false =>
      have h1 := bkF_no (L := P) (cpu := cpu) (W := wayM l n P g) (by rw [hq])
      refine Bool.eq_false_iff.2 fun h2 => ?_
      obtain ⟨id, hid, h3⟩ := List.any_eq_true.1 h2
      obtain ⟨i, hi, h4⟩ := hzw hid
      exact h1 i hi (by rw [← h4]; exact of_decide_eq_true h3)
  have hrm : decide (thRm l n P g cpu = 0) = bl := by
    have hne : (wayM l n P g).length ≠ 0 := by rw [hw, poL_len]; exact anc_ne hg
    unfold thRm
    rw [if_neg hne]
    have hz := rmF_zero (P := P) (cpu := cpu) (wayM l n P g) 1099511627776 (by decide) hnn
    cases bl with
    | true =>
      obtain ⟨i, hi, h1, _⟩ := bkF_yes (L := P) (cpu := cpu) (W := wayM l n P g) (by rw [hq])
      exact decide_eq_true (hz.2 (.inr ⟨i, hi, h1⟩))
    | false =>
      have h1 := bkF_no (L := P) (cpu := cpu) (W := wayM l n P g) (by rw [hq])
      refine decide_eq_false fun h2 => ?_
      rcases hz.1 h2 with h3 | ⟨i, hi, h3⟩
      · cases h3
      · exact h1 i hi h3
  cases bl with
  | true =>
    rw [if_pos rfl] at e0
    obtain ⟨i, hiw, h1, h2⟩ := bkF_yes (L := P) (cpu := cpu) (W := wayM l n P g) (by rw [hq])
    rw [hq] at h2
    obtain ⟨id, hid, h3, h4⟩ := hwz hiw
    obtain ⟨t, rfl, ht⟩ := way_in hP.ok g i hiw
    rw [zaO] at h1 h2 h3 h4
    refine ⟨a, true, ⟨hP.sp (.inr (by rw [e0])), by rw [e0]; rfl, hq, hem, decide_eq_true (by rw [show a = id by rw [← h4]; exact h2]; exact hid), hrm, fun i hi => ?_⟩⟩
    rw [e0]
    simp only [Bool.true_eq_false, false_and, if_false]
    rw [upF_at [a] (spF cpu) P i hi]
    by_cases e : (gP P i).g ∈ [a]
    · rw [if_pos e]
      have e' : (gP P i).g = a := List.mem_singleton.1 e
      have hit : i = t := thC_asc hP.ok hi ht (by rw [e']; exact h2)
      subst hit
      rcases (pspend_ok (hP.pck hi) (hcc i hi)).2.2 with ⟨q1, _⟩ | ⟨q1, q2, q3, q4, q5⟩
      · refine absurd h1 fun hz => ?_
        rcases (pspend_ok (hP.pck hi) (hcc i hi)).2.2 with ⟨_, _, _, q6⟩ | ⟨q7, _⟩
        · unfold proom at hz
          rw [if_neg (fun q => q (pchk_in (hP.pck hi) (hcc i hi)))] at hz
          rcases q6 with q6 | q6
          · rw [if_pos q6] at hz; omega
          · split at hz <;> omega
        · rw [q7] at q1; cases q1
      · unfold spF
        refine ⟨?_, fun _ => by rw [q2]; omega, .inr e'⟩
        rw [q5]; show (gP P i).sp - (gP P i).sp = 0; omega
    · rw [if_neg e]
      exact ⟨by omega, fun _ => by omega, .inl rfl⟩
  | false =>
    rw [if_neg zaQ] at e0
    have h1 := bkF_no (L := P) (cpu := cpu) (W := wayM l n P g) (by rw [hq])
    have ha : a = 0 := by
      have : ∀ W : List Int, (bkF P cpu W).2 = false → (bkF P cpu W).1 = 0 := fun W => by
        induction W with
        | nil => intro _; rfl
        | cons w W ih =>
          intro hh
          rw [bkF] at hh ⊢
          split at hh
          · cases hh
          · rename_i hp; rw [if_neg hp]; exact ih hh
      have h3 := this (wayM l n P g) (by rw [hq])
      rw [hq] at h3
      exact h3
    have hna : a ∉ ancM l n g := fun hm => by
      obtain ⟨t, _, ht, htg, _⟩ := hga a hm
      have := hP.vt.pos (i := t) (by rw [← hP.len]; exact ht)
      rw [← hP.g ht] at this
      omega
    refine ⟨a, false, ⟨hP.sp (.inl (by rw [e0])), by rw [e0]; rfl, hq, hem, decide_eq_false hna, hrm, fun i hi => ?_⟩⟩
    rw [e0]
    simp only [true_and]
    rw [upF_at (ancM l n g) (spF cpu) P i hi]
    by_cases e : (gP P i).g ∈ ancM l n g
    · rw [if_pos e, if_pos e]
      obtain ⟨w, hw1, hw2⟩ := hzw e
      have hz := h1 w hw1
      rw [← hw2] at hz
      obtain ⟨t, _, ht, htg, hgt⟩ := hga _ e
      have hit : t = i := thC_asc hP.ok ht hi htg
      subst hit
      rw [hgt] at hz
      have hz0 := psp_zero (hP.pck hi) (hcc t hi) hz
      have hth := psp_th hz0 (pchk_in (hP.pck hi) (hcc t hi))
      have hsb := hs t hi
      rcases (pspend_ok (hP.pck hi) (hcc t hi)).2.2 with ⟨_, q2, q3, _⟩ | ⟨q7, _⟩
      · unfold spF
        refine ⟨?_, fun hl => by rw [q2, if_pos hl]; omega, .inl hth⟩
        rw [q3]
        unfold msp mn
        rw [if_neg (by omega)]; omega
      · rw [q7] at hz0; cases hz0
    · rw [if_neg e, if_neg e]
      exact ⟨by omega, fun _ => by omega, .inl rfl⟩
end Go.Proofs.Ytcnilpdlcmpbbaa
-- NEWGO
-- PRUNE: cl_lendx cl_use
-- ISG: Cs_isG
-- FLAT: Cs_flat
namespace Go.Proofs.Ytcnilpdlcmpbbaa
set_option linter.unusedVariables false
set_option linter.unusedSimpArgs false
open Go.Proofs.Ytcnilpdlcmpbbaa.Sh
set_option maxRecDepth 20000
def lendL : FuncId → List Nat := fun f => if f = 9 then [0] else if f = 10 then [0] else if f = 12 then [0] else []
theorem any_take (U : List Int) (f : Int → Bool) (m : Nat) (h : m < U.length) : (U.take (m + 1)).any f = ((U.take m).any f || f (U.getD m 0)) := by
  rw [take_getD U m 0 h, List.any_append]
  simp
set_option maxHeartbeats 64000000 in
theorem allor_spec (D : List Int) (hr : ∀ x ∈ D, -9223372036854775808 ≤ x ∧ x ≤ 9223372036854775807) : FnSpec Try.prog 5 [gi D none] [] (b1 true) [] := by
  by_cases hlen : (D.length : Int) ≤ 600
  case neg =>
    refine fnspec_of mixed TT_ok TT_cl ⟨fun _ => false, lendL, 0, fun _ => false, fun _ => false⟩ Try.func5 rfl (by kernel_rfl) rfl 185 rfl [.tmp 2] rfl ?_
    simp only [go_sem, zaa, zai, zaj, zak, zal, zaf, ↓reduceIte, reduceCtorEq, zab, zad, zam, zan, zao, decide_eq_false hlen, lendL]
    repeat' (first
    | (apply cl_plain
       case hs => rfl
       case ha => (simp only [zae, zah, prepV, prepC, idx, hpL', lookR, zaa, if_true, if_false]; rfl)
       case h => (first | exact light_spec .. | exact thsane_spec ..))
    | ((first | refine s1_id ?_ | refine swp_id ?_ | refine sops_id ?_ | refine s2_id ?_); simp only [decide_eq_false hlen, lendL, go_sem, zaa, zai, zaj, zak, zal, zaf, ↓reduceIte, reduceCtorEq, zab, zad, zam, zan, zao, SV.ren, SV.renL, Cell.ren, Row.ren, renO, bk, back, outUpsFrom, Ints_ren])
    | (apply fs_nil <;> (try simp only [go_sem, resV, resS, SV.ren, SV.renL, Cell.ren, St.tmF, St.hpF, idx, renO, Row.ren, evS, slot, lookR, zaa, ↓reduceIte, reduceCtorEq, if_true, if_false, zaL, zaM, zae, zah, sLoad, readAt, readNeed, Ints_ren, Ints_length, Ints_getD, and_true, true_and, zaF, zaG]) <;> (try rfl)))
  have hl : D.length ≤ 600 := by omega
  have t1 := tree_spec D hl hr 0 7 (by decide)
  have hti := mkT_ok D 0 7
  generalize mkT D 0 7 = T at *
  obtain ⟨⟨l, n⟩, j1⟩ := T
  simp only at t1 hti
  have hV := hti.v.vt
  have hle := hti.len
  have hnl := nd_len l
  have n1 := next_spec D j1 3 hl hr (by decide)
  have r1 := nx_rng D j1 3 (by decide)
  generalize nxV D j1 3 = v1 at *
  generalize nxA D j1 3 = j2 at *
  have p1 := mkpools_spec D hl hr j2 l n (1 + v1) hV hti.nr (by omega)
  have hP := mkP_ok (D := D) hV (c := 1 + v1) (by omega) j2
  have hSp := mkP_sp (D := D) hV (c := 1 + v1) (by omega) j2
  generalize mkP D l n (1 + v1) j2 = q at *
  obtain ⟨P, j3⟩ := q
  simp only at p1 hP hSp
  have n2 := next_spec D j3 l.length hl hr (by omega)
  have r2 := nx_rng D j3 l.length (by omega)
  obtain ⟨t, ht⟩ : ∃ t : Nat, nxV D j3 l.length = t := ⟨(nxV D j3 l.length).toNat, by omega⟩
  rw [ht] at n2 r2
  generalize nxA D j3 l.length = j4 at *
  have n3 := next_spec D j4 (1 + v1) hl hr (by omega)
  have r3 := nx_rng D j4 (1 + v1) (by omega)
  generalize nxV D j4 (1 + v1) = cp at *
  generalize nxA D j4 (1 + v1) = j5 at *
  have hPl := hP.len
  have htl : t < l.length := by omega
  obtain ⟨g1, _⟩ := nd_f l t htl (.sc (.int .i64 0))
  have hgm : hasM l n (gN l t).i = true := hasM_iff.2 ⟨(chkT_iff l n).2 hV, gN l t, getD_mem l t zn htl, rfl⟩
  generalize (gN l t).i = g at *
  have s1 := thspend_spec l n P none g cp (by omega) (by omega) hti.nr hV.ctr
  obtain ⟨a, bl, hR⟩ := thSp_r hP hgm r3 (hSp.mono (by decide))
  generalize thSp l n P g cp = z at *
  obtain ⟨y, e⟩ := z
  simp only at s1 hR
  have s2 := thblk_spec l n P none g cp (by omega) (by omega) hti.nr hV.ctr
  rw [hR.bk] at s2
  simp only at s2
  have s3 := throom_spec l n P none g cp (by omega) (by omega) hti.nr hV.ctr
  have hrm := hR.rm
  generalize thRm l n P g cp = rm at *
  have u1 := ranc_spec l none n g (by omega) hti.nr
  have hU := hR.em
  have hat := hR.at'
  have hi := hR.i
  have hyl : y.length = P.length := by rw [hR.ok.len, hPl]
  have hUl := ancM_len l n g
  have hgt := gt_at hP.ok g
  have he := hR.e
  generalize ancM l n g = U at *
  have hs1 := has_spec U none a (by omega)
  rw [hat] at hs1
  have hall := hP.all
  have hgp : ∀ id ∈ U, pck (gtM P id).1 = true := fun id hid => by
    obtain ⟨t, _, ht, _, e2⟩ := hgt id hid
    rw [e2]; exact hP.pck ht
  have kF : ∀ i, i < P.length → pck (gP P i) = true ∧ pck (gP y i) = true := fun i hi => ⟨hP.pck hi, hR.ok.pck (by rw [hyl]; exact hi)⟩
  have hpl := pl_len P
  have hyp := pl_len y
  rw [hyl] at hyp
  have y1 : FnSpec Try.prog 28 [trV l none n, gr P none, i1 g, i1 cp] [] (.tup [.one (.gsl (Cs y) 0 P.length none), i1 e]) [] := by rw [← hyl]; exact s1
  clear s1 hR hSp hgt hP hat
  refine fnspec_of mixed TT_ok TT_cl ⟨fun _ => false, lendL, 0, fun _ => false, fun _ => false⟩ Try.func5 rfl (by kernel_rfl) rfl 185 rfl [.tmp 2] rfl ?_
  simp only [go_sem, zaa, zai, zaj, zak, zal, zaf, ↓reduceIte, reduceCtorEq, zab, zad, zam, zan, zao, decide_eq_true hlen, lendL, ht, g1]
  repeat' (first
    | with_reducible refine zas ?_ ?_
    | (unfold OKC; kernel_rfl)
    | (unfold EDG; kernel_rfl)
    | (intros; (try simp only [zaC, zaI, zaz, zaw, zar, zat, decide_eq_true_eq, decide_eq_false_iff_not] at *); omega)
    | (apply cl_plain
       case hs => rfl
       case ha => (simp only [zae, zah, prepV, prepC, idx, hpL', lookR, zaa, if_true, if_false]; rfl)
       case h => (first | exact light_spec .. | exact roll_spec .. | exact t1 .. | exact n1 .. | exact p1 .. | exact n2 .. | exact n3 .. | exact y1 .. | exact u1 ..))
    | (apply cl_lend
       case hr => (simp only [zae, zah, hpL', lookR, zaa, if_true, if_false]; first | exact map1 _ | exact map2 _ _ | exact map3 _ _ _)
       case ha => (simp only [zae, zah, prepV, prepC, idx, hpL', lookR, zaa, if_true, if_false]; rfl)
       case hs => rfl
       case hn => decide
       case h => (first | exact light_spec .. | exact roll_spec .. | exact t1 .. | exact n1 .. | exact p1 .. | exact n2 .. | exact n3 .. | exact y1 .. | exact u1 ..)
       case hf => (simp only [zac, zag, false_implies, implies_true, and_true, true_and, flat_cons, flat_nil, flat_ints, flat_bools, flat_app, Cs_flat, Cell.refs, and_self, eq_self_iff_true, zap])
       case hl => (simp only [zav, zau]; decide))
    | ((first | refine s1_id ?_ | refine swp_id ?_ | refine sops_id ?_ | refine s2_id ?_); simp only [decide_eq_true hlen, lendL, dice, ht, g1, go_sem, zaa, zai, zaj, zak, zal, zaf, ↓reduceIte, reduceCtorEq, zab, zad, zam, zan, zao, SV.ren, SV.renL, Cell.ren, Row.ren, renO, bk, back, outUpsFrom, Ints_ren]))
  refine w_loop (ι := Nat) (fun m => ⟨[(4, .one (.optr 0 0)), (6, gr P none), (7, i1 g), (8, i1 cp), (9, .one (.gsl (Cs y) 0 P.length none)), (10, i1 e), (11, b1 ((U.take m).any fun id => decide (proom (gtM P id).1 cp = 0))), (62, gi U none), (63, i1 U.length), (64, i1 m)], [(0, some ⟨[.gsl (Cs l) 0 l.length none, int n], 2⟩)], 1⟩) (fun m => m ≤ U.length) (fun m => U.length - m) 0 ?_ (zaS _) ?_
  · simp only [zaK, List.any_nil]
    (refine imp_ren _ _ _ [(0, 9, ⟨[.gsl (Cs l) 0 l.length none, int n], 2⟩)] (by simp) (by simp) (by simp) (zay rfl) ?_ rfl (by simp only [zac, zag, false_implies, implies_true, and_true, St.hpF, lookR, zaa, if_true, if_false, ↓reduceIte] <;> (repeat' apply zas) <;> (first | rfl | trivial)) (by simp only [zac, zag, false_implies, implies_true, and_true, true_and, flat_cons, flat_nil, flat_ints, flat_bools, flat_app, Cell.refs, and_self, eq_self_iff_true, zap]); simp only [zae, zah, zac, zag, false_implies, implies_true, and_true, lk, slot, SV.ren, Cell.ren, toN, zaa, if_true, if_false, ↓reduceIte, reduceCtorEq])
    all_goals ((repeat' apply zas) <;> (first | rfl | trivial))
  clear t1 n1 p1 n2 n3 y1
  intro m hm
  simp only at hm ⊢
  rcases Nat.lt_or_ge m U.length with hlt | hge
  case inl =>
    have c : (m : Int) < (U.length : Int) := by omega
    have hat := any_take U (fun id => decide (proom (gtM P id).1 cp = 0)) m hlt
    have h1 := rgetP_spec P none (U.getD m 0) (by omega) (fun x hx => pck_len (hall x hx))
    have h2 := rroom_spec (gtM P (U.getD m 0)).1 none cp (wk_of (hgp _ (getD_mem U m 0 hlt)))
    generalize ((U.take m).any fun id => decide (proom (gtM P id).1 cp = 0)) = em at *
    generalize proom (gtM P (U.getD m 0)).1 cp = pr at *
    generalize gtM P (U.getD m 0) = w at *
    obtain ⟨⟨s0, s1, s2', s3', s4, s5, s6, s7, s8, s9⟩, wb⟩ := w
    simp only [plc, plt] at h1 h2
    cases em with
    | true =>
      rw [Bool.true_or] at hat
      simp only [go_sem, zaa, zai, zaj, zak, zal, zaf, ↓reduceIte, reduceCtorEq, zab, zad, zam, zan, zao, decide_eq_true c, lendL]
      repeat' (first
    | with_reducible refine zas ?_ ?_
    | (intros; (try simp only [zaC, zaI, zaz, zaw, zar, zat, decide_eq_true_eq, decide_eq_false_iff_not] at *); omega)
    | (apply cl_plain
       case hs => rfl
       case ha => (simp only [zae, zah, prepV, prepC, idx, hpL', lookR, zaa, if_true, if_false]; rfl)
       case h => (first | exact h1 .. | exact h2 ..))
    | ((first | refine s1_id ?_ | refine swp_id ?_ | refine sops_id ?_ | refine s2_id ?_); simp only [decide_eq_true c, lendL, zaD, zaH, zap, zaE, zaJ, zaA, zaB, zax, zaK, zaN, zav, zau, go_sem, zaa, zai, zaj, zak, zal, zaf, ↓reduceIte, reduceCtorEq, zab, zad, zam, zan, zao, SV.ren, SV.renL, Cell.ren, Row.ren, renO, bk, back, outUpsFrom, Ints_ren]))
      refine le_mk (m + 1) ?_ hlt (by omega)
      simp only [hat]
      (refine imp_ren _ _ _ [(0, 0, ⟨[.gsl (Cs l) 0 l.length none, int n], 2⟩)] (by simp) (by simp) (by simp) (zay rfl) ?_ rfl (by simp only [zac, zag, false_implies, implies_true, and_true, St.hpF, lookR, zaa, if_true, if_false, ↓reduceIte] <;> (repeat' apply zas) <;> (first | rfl | trivial)) (by simp only [zac, zag, false_implies, implies_true, and_true, true_and, flat_cons, flat_nil, flat_ints, flat_bools, flat_app, Cell.refs, and_self, eq_self_iff_true, zap]); simp only [zae, zah, zac, zag, false_implies, implies_true, and_true, lk, slot, SV.ren, Cell.ren, toN, zaa, if_true, if_false, ↓reduceIte, reduceCtorEq])
      all_goals ((repeat' apply zas) <;> (first | rfl | trivial | (simp only [zaq]; done) | (simp only [zaq]; rfl) | (simp only [zaq]; trivial)))
    | false =>
      rw [Bool.false_or] at hat
      simp only [go_sem, zaa, zai, zaj, zak, zal, zaf, ↓reduceIte, reduceCtorEq, zab, zad, zam, zan, zao, decide_eq_true c, lendL]
      repeat' (first
    | with_reducible refine zas ?_ ?_
    | (intros; (try simp only [zaC, zaI, zaz, zaw, zar, zat, decide_eq_true_eq, decide_eq_false_iff_not] at *); omega)
    | (apply cg_tp
       case hl => rfl
       case ha => (simp only [zae, zah, prepV, prepC, idx, hpL', lookR, zaa, if_true, if_false]; rfl)
       case hs => rfl
       case h => (first | exact h1 .. | exact h2 ..))
    | (apply cl_plain
       case hs => rfl
       case ha => (simp only [zae, zah, prepV, prepC, idx, hpL', lookR, zaa, if_true, if_false]; rfl)
       case h => (first | exact h1 .. | exact h2 ..))
    | ((first | refine s1_id ?_ | refine swp_id ?_ | refine sops_id ?_ | refine s2_id ?_); simp only [decide_eq_true c, lendL, zaD, zaH, zap, zaE, zaJ, zaA, zaB, zax, zaK, zaN, zav, zau, go_sem, zaa, zai, zaj, zak, zal, zaf, ↓reduceIte, reduceCtorEq, zab, zad, zam, zan, zao, SV.ren, SV.renL, Cell.ren, Row.ren, renO, bk, back, outUpsFrom, Ints_ren]))
      refine le_mk (m + 1) ?_ hlt (by omega)
      simp only [hat]
      (refine imp_ren _ _ _ [(0, 0, ⟨[.gsl (Cs l) 0 l.length none, int n], 2⟩)] (by simp) (by simp) (by simp) (zay rfl) ?_ rfl (by simp only [zac, zag, false_implies, implies_true, and_true, St.hpF, lookR, zaa, if_true, if_false, ↓reduceIte] <;> (repeat' apply zas) <;> (first | rfl | trivial)) (by simp only [zac, zag, false_implies, implies_true, and_true, true_and, flat_cons, flat_nil, flat_ints, flat_bools, flat_app, Cell.refs, and_self, eq_self_iff_true, zap]); simp only [zae, zah, zac, zag, false_implies, implies_true, and_true, lk, slot, SV.ren, Cell.ren, toN, zaa, if_true, if_false, ↓reduceIte, reduceCtorEq])
      all_goals ((repeat' apply zas) <;> (first | rfl | trivial | (simp only [zaq]; done) | (simp only [zaq]; rfl) | (simp only [zaq]; trivial)))
  case inr =>
  have c : ¬ (m : Int) < (U.length : Int) := by omega
  rw [List.take_of_length_le hge, hU]
  have heb : decide (e = 11) = bl := by
    rw [he]; cases bl <;> rfl
  have hee : decide (e = 0) = !bl := by
    rw [he]; cases bl <;> rfl
  simp only [go_sem, zaa, zai, zaj, zak, zal, zaf, ↓reduceIte, reduceCtorEq, zab, zad, zam, zan, zao, decide_eq_false c, lendL]
  repeat' (first
    | (apply cg_tp
       case hl => rfl
       case ha => (simp only [zae, zah, prepV, prepC, idx, hpL', lookR, zaa, if_true, if_false]; rfl)
       case hs => rfl
       case h => (first | exact s2 .. | exact u1 .. | exact hs1 .. | exact s3 ..))
    | (apply cl_plain
       case hs => rfl
       case ha => (simp only [zae, zah, prepV, prepC, idx, hpL', lookR, zaa, if_true, if_false]; rfl)
       case h => (first | exact s2 .. | exact u1 .. | exact hs1 .. | exact s3 ..))
    | ((first | refine s1_id ?_ | refine swp_id ?_ | refine sops_id ?_ | refine s2_id ?_); simp only [decide_eq_false c, lendL, heb, hrm, beq_self_eq_true, go_sem, zaa, zai, zaj, zak, zal, zaf, ↓reduceIte, reduceCtorEq, zab, zad, zam, zan, zao, SV.ren, SV.renL, Cell.ren, Row.ren, renO, bk, back, outUpsFrom, Ints_ren]))
  refine w_loop (ι := Nat) (fun m => ⟨[(4, .one (.optr 0 0)), (6, gr P none), (7, i1 g), (9, .one (.gsl (Cs y) 0 P.length none)), (10, i1 e), (16, i1 a), (126, i1 P.length), (127, i1 m)], [(0, some ⟨[.gsl (Cs l) 0 l.length none, int n], 2⟩)], 1⟩) (fun m => m ≤ P.length) (fun m => P.length - m) 0 ?_ (zaS _) ?_
  · (refine imp_ren _ _ _ [(0, 0, ⟨[.gsl (Cs l) 0 l.length none, int n], 2⟩)] (by simp) (by simp) (by simp) (zay rfl) ?_ rfl (by simp only [zac, zag, false_implies, implies_true, and_true, St.hpF, lookR, zaa, if_true, if_false, ↓reduceIte] <;> (repeat' apply zas) <;> (first | rfl | trivial)) (by simp only [zac, zag, false_implies, implies_true, and_true, true_and, flat_cons, flat_nil, flat_ints, flat_bools, flat_app, Cell.refs, and_self, eq_self_iff_true, zap]); simp only [zae, zah, zac, zag, false_implies, implies_true, and_true, lk, slot, SV.ren, Cell.ren, toN, zaa, if_true, if_false, ↓reduceIte, reduceCtorEq])
    all_goals ((repeat' apply zas) <;> (first | rfl | trivial))
  clear s2 hs1 s3 hU hrm heb
  intro m hm
  simp only at hm ⊢
  rcases Nat.lt_or_ge m P.length with hlt | hge
  case inr =>
    have c : ¬ (m : Int) < (P.length : Int) := by omega
    simp only [go_sem, zaa, zai, zaj, zak, zal, zaf, ↓reduceIte, reduceCtorEq, zab, zad, zam, zan, zao, decide_eq_false c, lendL]
    repeat' (first
    | (apply cl_plain
       case hs => rfl
       case ha => (simp only [zae, zah, prepV, prepC, idx, hpL', lookR, zaa, if_true, if_false]; rfl)
       case h => (first | exact thsane_spec ..))
    | ((first | refine s1_id ?_ | refine swp_id ?_ | refine sops_id ?_ | refine s2_id ?_); simp only [decide_eq_false c, lendL, go_sem, zaa, zai, zaj, zak, zal, zaf, ↓reduceIte, reduceCtorEq, zab, zad, zam, zan, zao, SV.ren, SV.renL, Cell.ren, Row.ren, renO, bk, back, outUpsFrom, Ints_ren])
    | (apply fs_nil <;> (try simp only [go_sem, resV, resS, SV.ren, SV.renL, Cell.ren, St.tmF, St.hpF, idx, renO, Row.ren, evS, slot, lookR, zaa, ↓reduceIte, reduceCtorEq, if_true, if_false, zaL, zaM, zae, zah, sLoad, readAt, readNeed, Ints_ren, Ints_length, Ints_getD, and_true, true_and, zaF, zaG]) <;> (try rfl)))
  have c : (m : Int) < (P.length : Int) := by omega
  have hT := pl_td P m hlt
  have hT2 := pl_td y m (by omega)
  obtain ⟨k1, k2⟩ := kF m hlt
  have b1' := sml_pck k1
  have b2' := sml_pck k2
  have d1 := rheld_spec (gP P m) none b1'
  have d2 := rheld_spec (gP y m) none b2'
  have d3 := rlimited_spec (gP P m) none
  have d4 := has_spec U none (gP P m).g (by omega)
  obtain ⟨i1', i2, i3⟩ := hi m hlt
  have r1' := (nums k1).h
  have r2' := (nums k2).h
  have r3' := (nums k1).m
  have r4' := (nums k2).m
  have q1' := hld_ge k1
  have q2' := hld_ge k2
  have x3 := zas (nums k1).sp (nums k2).sp
  clear kF hi k1 k2 b1' b2'
  generalize hld (gP P m) = h1 at *
  generalize hld (gP y m) = h2 at *
  generalize mst (gP P m) = m1 at *
  generalize mst (gP y m) = m2 at *
  generalize lim (gP P m) = li at *
  obtain ⟨wn, hwn⟩ : ∃ wn : Int, wn = if bl = false ∧ (gP P m).g ∈ U then 1 else 0 := ⟨_, rfl⟩
  rw [← hwn] at i1' i2
  generalize gP P m = x at *
  generalize gP y m = w at *
  obtain ⟨a0, a1, a2, a3, a4, a5, a6, a7, a8, a9⟩ := x
  obtain ⟨s0, s1, s2, s3, s4, s5, s6, s7, s8, s9⟩ := w
  simp only [plc, plt] at hT hT2 d1 d2 d3
  simp only at d4 i1' i3 hwn x3
  have hu1 : s6 - a6 = wn := i1'
  have hg1 : li = true → h1 - h2 = wn := i2
  have hmm0 : True := trivial
  cases bl with
  | true =>
    simp only [Bool.true_eq_false, false_and, if_false] at hwn
    subst hwn
    replace hee : decide (e = 0) = false := hee
    have fu : s6 - a6 = 0 := by omega
    cases li
    · skip
      by_cases ft : s8 = a8
      · skip
        simp only [go_sem, zaa, zai, zaj, zak, zal, zaf, ↓reduceIte, reduceCtorEq, zab, zad, zam, zan, zao, decide_eq_true c, lendL, hT, hT2, hee, decide_eq_true fu, decide_eq_true ft]
        repeat' (first
    | with_reducible refine zas ?_ ?_
    | (unfold OKC; kernel_rfl)
    | (unfold EDG; kernel_rfl)
    | (intros; (try simp only [zaC, zaI, zaz, zaw, zar, zat, decide_eq_true_eq, decide_eq_false_iff_not] at *); omega)
    | (apply cg_tp
       case hl => rfl
       case ha => (simp only [zae, zah, prepV, prepC, idx, hpL', lookR, zaa, if_true, if_false]; rfl)
       case hs => rfl
       case h => (first | exact d1 .. | exact d2 .. | exact d3 .. | exact u1 .. | exact d4 ..))
    | (apply cl_plain
       case hs => rfl
       case ha => (simp only [zae, zah, prepV, prepC, idx, hpL', lookR, zaa, if_true, if_false]; rfl)
       case h => (first | exact d1 .. | exact d2 .. | exact d3 .. | exact u1 .. | exact d4 ..))
    | ((first | refine s1_id ?_ | refine swp_id ?_ | refine sops_id ?_ | refine s2_id ?_); simp only [decide_eq_true c, lendL, hT, hT2, hee, decide_eq_true fu, decide_eq_true ft, zaD, zaH, zap, zaE, zaJ, zaA, zaB, zax, zaK, zaN, zav, zau, go_sem, zaa, zai, zaj, zak, zal, zaf, ↓reduceIte, reduceCtorEq, zab, zad, zam, zan, zao, SV.ren, SV.renL, Cell.ren, Row.ren, renO, bk, back, outUpsFrom, Ints_ren]))
        refine le_mk (m + 1) ?_ hlt (by omega)
        (refine imp_ren _ _ _ [(0, 0, ⟨[.gsl (Cs l) 0 l.length none, int n], 2⟩)] (by simp) (by simp) (by simp) (zay rfl) ?_ rfl (by simp only [zac, zag, false_implies, implies_true, and_true, St.hpF, lookR, zaa, if_true, if_false, ↓reduceIte] <;> (repeat' apply zas) <;> (first | rfl | trivial)) (by simp only [zac, zag, false_implies, implies_true, and_true, true_and, flat_cons, flat_nil, flat_ints, flat_bools, flat_app, Cell.refs, and_self, eq_self_iff_true, zap]); simp only [zae, zah, zac, zag, false_implies, implies_true, and_true, lk, slot, SV.ren, Cell.ren, toN, zaa, if_true, if_false, ↓reduceIte, reduceCtorEq])
        all_goals ((repeat' apply zas) <;> (first | rfl | trivial | (simp only [zaq]; done) | (simp only [zaq]; rfl) | (simp only [zaq]; trivial)))
      · have fa : a0 = a := i3.resolve_left ft
        simp only [go_sem, zaa, zai, zaj, zak, zal, zaf, ↓reduceIte, reduceCtorEq, zab, zad, zam, zan, zao, decide_eq_true c, lendL, hT, hT2, hee, decide_eq_true fu, decide_eq_false ft, decide_eq_true fa]
        repeat' (first
    | with_reducible refine zas ?_ ?_
    | (unfold OKC; kernel_rfl)
    | (unfold EDG; kernel_rfl)
    | (intros; (try simp only [zaC, zaI, zaz, zaw, zar, zat, decide_eq_true_eq, decide_eq_false_iff_not] at *); omega)
    | (apply cg_tp
       case hl => rfl
       case ha => (simp only [zae, zah, prepV, prepC, idx, hpL', lookR, zaa, if_true, if_false]; rfl)
       case hs => rfl
       case h => (first | exact d1 .. | exact d2 .. | exact d3 .. | exact u1 .. | exact d4 ..))
    | (apply cl_plain
       case hs => rfl
       case ha => (simp only [zae, zah, prepV, prepC, idx, hpL', lookR, zaa, if_true, if_false]; rfl)
       case h => (first | exact d1 .. | exact d2 .. | exact d3 .. | exact u1 .. | exact d4 ..))
    | ((first | refine s1_id ?_ | refine swp_id ?_ | refine sops_id ?_ | refine s2_id ?_); simp only [decide_eq_true c, lendL, hT, hT2, hee, decide_eq_true fu, decide_eq_false ft, decide_eq_true fa, zaD, zaH, zap, zaE, zaJ, zaA, zaB, zax, zaK, zaN, zav, zau, go_sem, zaa, zai, zaj, zak, zal, zaf, ↓reduceIte, reduceCtorEq, zab, zad, zam, zan, zao, SV.ren, SV.renL, Cell.ren, Row.ren, renO, bk, back, outUpsFrom, Ints_ren]))
        refine le_mk (m + 1) ?_ hlt (by omega)
        (refine imp_ren _ _ _ [(0, 0, ⟨[.gsl (Cs l) 0 l.length none, int n], 2⟩)] (by simp) (by simp) (by simp) (zay rfl) ?_ rfl (by simp only [zac, zag, false_implies, implies_true, and_true, St.hpF, lookR, zaa, if_true, if_false, ↓reduceIte] <;> (repeat' apply zas) <;> (first | rfl | trivial)) (by simp only [zac, zag, false_implies, implies_true, and_true, true_and, flat_cons, flat_nil, flat_ints, flat_bools, flat_app, Cell.refs, and_self, eq_self_iff_true, zap]); simp only [zae, zah, zac, zag, false_implies, implies_true, and_true, lk, slot, SV.ren, Cell.ren, toN, zaa, if_true, if_false, ↓reduceIte, reduceCtorEq])
        all_goals ((repeat' apply zas) <;> (first | rfl | trivial | (simp only [zaq]; done) | (simp only [zaq]; rfl) | (simp only [zaq]; trivial)))
    · skip
      have fl : h1 - h2 = 0 := by have := hg1 rfl; omega
      by_cases ft : s8 = a8
      · skip
        simp only [go_sem, zaa, zai, zaj, zak, zal, zaf, ↓reduceIte, reduceCtorEq, zab, zad, zam, zan, zao, decide_eq_true c, lendL, hT, hT2, hee, decide_eq_true fu, decide_eq_true fl, decide_eq_true ft]
        repeat' (first
    | with_reducible refine zas ?_ ?_
    | (unfold OKC; kernel_rfl)
    | (unfold EDG; kernel_rfl)
    | (intros; (try simp only [zaC, zaI, zaz, zaw, zar, zat, decide_eq_true_eq, decide_eq_false_iff_not] at *); omega)
    | (apply cg_tp
       case hl => rfl
       case ha => (simp only [zae, zah, prepV, prepC, idx, hpL', lookR, zaa, if_true, if_false]; rfl)
       case hs => rfl
       case h => (first | exact d1 .. | exact d2 .. | exact d3 .. | exact u1 .. | exact d4 ..))
    | (apply cl_plain
       case hs => rfl
       case ha => (simp only [zae, zah, prepV, prepC, idx, hpL', lookR, zaa, if_true, if_false]; rfl)
       case h => (first | exact d1 .. | exact d2 .. | exact d3 .. | exact u1 .. | exact d4 ..))
    | ((first | refine s1_id ?_ | refine swp_id ?_ | refine sops_id ?_ | refine s2_id ?_); simp only [decide_eq_true c, lendL, hT, hT2, hee, decide_eq_true fu, decide_eq_true fl, decide_eq_true ft, zaD, zaH, zap, zaE, zaJ, zaA, zaB, zax, zaK, zaN, zav, zau, go_sem, zaa, zai, zaj, zak, zal, zaf, ↓reduceIte, reduceCtorEq, zab, zad, zam, zan, zao, SV.ren, SV.renL, Cell.ren, Row.ren, renO, bk, back, outUpsFrom, Ints_ren]))
        refine le_mk (m + 1) ?_ hlt (by omega)
        (refine imp_ren _ _ _ [(0, 0, ⟨[.gsl (Cs l) 0 l.length none, int n], 2⟩)] (by simp) (by simp) (by simp) (zay rfl) ?_ rfl (by simp only [zac, zag, false_implies, implies_true, and_true, St.hpF, lookR, zaa, if_true, if_false, ↓reduceIte] <;> (repeat' apply zas) <;> (first | rfl | trivial)) (by simp only [zac, zag, false_implies, implies_true, and_true, true_and, flat_cons, flat_nil, flat_ints, flat_bools, flat_app, Cell.refs, and_self, eq_self_iff_true, zap]); simp only [zae, zah, zac, zag, false_implies, implies_true, and_true, lk, slot, SV.ren, Cell.ren, toN, zaa, if_true, if_false, ↓reduceIte, reduceCtorEq])
        all_goals ((repeat' apply zas) <;> (first | rfl | trivial | (simp only [zaq]; done) | (simp only [zaq]; rfl) | (simp only [zaq]; trivial)))
      · have fa : a0 = a := i3.resolve_left ft
        simp only [go_sem, zaa, zai, zaj, zak, zal, zaf, ↓reduceIte, reduceCtorEq, zab, zad, zam, zan, zao, decide_eq_true c, lendL, hT, hT2, hee, decide_eq_true fu, decide_eq_true fl, decide_eq_false ft, decide_eq_true fa]
        repeat' (first
    | with_reducible refine zas ?_ ?_
    | (unfold OKC; kernel_rfl)
    | (unfold EDG; kernel_rfl)
    | (intros; (try simp only [zaC, zaI, zaz, zaw, zar, zat, decide_eq_true_eq, decide_eq_false_iff_not] at *); omega)
    | (apply cg_tp
       case hl => rfl
       case ha => (simp only [zae, zah, prepV, prepC, idx, hpL', lookR, zaa, if_true, if_false]; rfl)
       case hs => rfl
       case h => (first | exact d1 .. | exact d2 .. | exact d3 .. | exact u1 .. | exact d4 ..))
    | (apply cl_plain
       case hs => rfl
       case ha => (simp only [zae, zah, prepV, prepC, idx, hpL', lookR, zaa, if_true, if_false]; rfl)
       case h => (first | exact d1 .. | exact d2 .. | exact d3 .. | exact u1 .. | exact d4 ..))
    | ((first | refine s1_id ?_ | refine swp_id ?_ | refine sops_id ?_ | refine s2_id ?_); simp only [decide_eq_true c, lendL, hT, hT2, hee, decide_eq_true fu, decide_eq_true fl, decide_eq_false ft, decide_eq_true fa, zaD, zaH, zap, zaE, zaJ, zaA, zaB, zax, zaK, zaN, zav, zau, go_sem, zaa, zai, zaj, zak, zal, zaf, ↓reduceIte, reduceCtorEq, zab, zad, zam, zan, zao, SV.ren, SV.renL, Cell.ren, Row.ren, renO, bk, back, outUpsFrom, Ints_ren]))
        refine le_mk (m + 1) ?_ hlt (by omega)
        (refine imp_ren _ _ _ [(0, 0, ⟨[.gsl (Cs l) 0 l.length none, int n], 2⟩)] (by simp) (by simp) (by simp) (zay rfl) ?_ rfl (by simp only [zac, zag, false_implies, implies_true, and_true, St.hpF, lookR, zaa, if_true, if_false, ↓reduceIte] <;> (repeat' apply zas) <;> (first | rfl | trivial)) (by simp only [zac, zag, false_implies, implies_true, and_true, true_and, flat_cons, flat_nil, flat_ints, flat_bools, flat_app, Cell.refs, and_self, eq_self_iff_true, zap]); simp only [zae, zah, zac, zag, false_implies, implies_true, and_true, lk, slot, SV.ren, Cell.ren, toN, zaa, if_true, if_false, ↓reduceIte, reduceCtorEq])
        all_goals ((repeat' apply zas) <;> (first | rfl | trivial | (simp only [zaq]; done) | (simp only [zaq]; rfl) | (simp only [zaq]; trivial)))
  | false =>
    replace hee : decide (e = 0) = true := hee
    by_cases hin : a0 ∈ U
    · rw [decide_eq_true hin] at d4
      simp only [hin, and_true, and_false, if_true, if_false] at hwn
      subst hwn
      have fu : s6 - a6 = 1 := by omega
      cases li
      · skip
        by_cases ft : s8 = a8
        · skip
          simp only [go_sem, zaa, zai, zaj, zak, zal, zaf, ↓reduceIte, reduceCtorEq, zab, zad, zam, zan, zao, decide_eq_true c, lendL, hT, hT2, hee, decide_eq_true fu, decide_eq_true ft]
          repeat' (first
    | with_reducible refine zas ?_ ?_
    | (unfold OKC; kernel_rfl)
    | (unfold EDG; kernel_rfl)
    | (intros; (try simp only [zaC, zaI, zaz, zaw, zar, zat, decide_eq_true_eq, decide_eq_false_iff_not] at *); omega)
    | (apply cg_tp
       case hl => rfl
       case ha => (simp only [zae, zah, prepV, prepC, idx, hpL', lookR, zaa, if_true, if_false]; rfl)
       case hs => rfl
       case h => (first | exact d1 .. | exact d2 .. | exact d3 .. | exact u1 .. | exact d4 ..))
    | (apply cl_plain
       case hs => rfl
       case ha => (simp only [zae, zah, prepV, prepC, idx, hpL', lookR, zaa, if_true, if_false]; rfl)
       case h => (first | exact d1 .. | exact d2 .. | exact d3 .. | exact u1 .. | exact d4 ..))
    | ((first | refine s1_id ?_ | refine swp_id ?_ | refine sops_id ?_ | refine s2_id ?_); simp only [decide_eq_true c, lendL, hT, hT2, hee, decide_eq_true fu, decide_eq_true ft, zaD, zaH, zap, zaE, zaJ, zaA, zaB, zax, zaK, zaN, zav, zau, go_sem, zaa, zai, zaj, zak, zal, zaf, ↓reduceIte, reduceCtorEq, zab, zad, zam, zan, zao, SV.ren, SV.renL, Cell.ren, Row.ren, renO, bk, back, outUpsFrom, Ints_ren]))
          refine le_mk (m + 1) ?_ hlt (by omega)
          (refine imp_ren _ _ _ [(0, 0, ⟨[.gsl (Cs l) 0 l.length none, int n], 2⟩)] (by simp) (by simp) (by simp) (zay rfl) ?_ rfl (by simp only [zac, zag, false_implies, implies_true, and_true, St.hpF, lookR, zaa, if_true, if_false, ↓reduceIte] <;> (repeat' apply zas) <;> (first | rfl | trivial)) (by simp only [zac, zag, false_implies, implies_true, and_true, true_and, flat_cons, flat_nil, flat_ints, flat_bools, flat_app, Cell.refs, and_self, eq_self_iff_true, zap]); simp only [zae, zah, zac, zag, false_implies, implies_true, and_true, lk, slot, SV.ren, Cell.ren, toN, zaa, if_true, if_false, ↓reduceIte, reduceCtorEq])
          all_goals ((repeat' apply zas) <;> (first | rfl | trivial | (simp only [zaq]; done) | (simp only [zaq]; rfl) | (simp only [zaq]; trivial)))
        · have fa : a0 = a := i3.resolve_left ft
          simp only [go_sem, zaa, zai, zaj, zak, zal, zaf, ↓reduceIte, reduceCtorEq, zab, zad, zam, zan, zao, decide_eq_true c, lendL, hT, hT2, hee, decide_eq_true fu, decide_eq_false ft, decide_eq_true fa]
          repeat' (first
    | with_reducible refine zas ?_ ?_
    | (unfold OKC; kernel_rfl)
    | (unfold EDG; kernel_rfl)
    | (intros; (try simp only [zaC, zaI, zaz, zaw, zar, zat, decide_eq_true_eq, decide_eq_false_iff_not] at *); omega)
    | (apply cg_tp
       case hl => rfl
       case ha => (simp only [zae, zah, prepV, prepC, idx, hpL', lookR, zaa, if_true, if_false]; rfl)
       case hs => rfl
       case h => (first | exact d1 .. | exact d2 .. | exact d3 .. | exact u1 .. | exact d4 ..))
    | (apply cl_plain
       case hs => rfl
       case ha => (simp only [zae, zah, prepV, prepC, idx, hpL', lookR, zaa, if_true, if_false]; rfl)
       case h => (first | exact d1 .. | exact d2 .. | exact d3 .. | exact u1 .. | exact d4 ..))
    | ((first | refine s1_id ?_ | refine swp_id ?_ | refine sops_id ?_ | refine s2_id ?_); simp only [decide_eq_true c, lendL, hT, hT2, hee, decide_eq_true fu, decide_eq_false ft, decide_eq_true fa, zaD, zaH, zap, zaE, zaJ, zaA, zaB, zax, zaK, zaN, zav, zau, go_sem, zaa, zai, zaj, zak, zal, zaf, ↓reduceIte, reduceCtorEq, zab, zad, zam, zan, zao, SV.ren, SV.renL, Cell.ren, Row.ren, renO, bk, back, outUpsFrom, Ints_ren]))
          refine le_mk (m + 1) ?_ hlt (by omega)
          (refine imp_ren _ _ _ [(0, 0, ⟨[.gsl (Cs l) 0 l.length none, int n], 2⟩)] (by simp) (by simp) (by simp) (zay rfl) ?_ rfl (by simp only [zac, zag, false_implies, implies_true, and_true, St.hpF, lookR, zaa, if_true, if_false, ↓reduceIte] <;> (repeat' apply zas) <;> (first | rfl | trivial)) (by simp only [zac, zag, false_implies, implies_true, and_true, true_and, flat_cons, flat_nil, flat_ints, flat_bools, flat_app, Cell.refs, and_self, eq_self_iff_true, zap]); simp only [zae, zah, zac, zag, false_implies, implies_true, and_true, lk, slot, SV.ren, Cell.ren, toN, zaa, if_true, if_false, ↓reduceIte, reduceCtorEq])
          all_goals ((repeat' apply zas) <;> (first | rfl | trivial | (simp only [zaq]; done) | (simp only [zaq]; rfl) | (simp only [zaq]; trivial)))
      · skip
        have fl : h1 - h2 = 1 := by have := hg1 rfl; omega
        by_cases ft : s8 = a8
        · skip
          simp only [go_sem, zaa, zai, zaj, zak, zal, zaf, ↓reduceIte, reduceCtorEq, zab, zad, zam, zan, zao, decide_eq_true c, lendL, hT, hT2, hee, decide_eq_true fu, decide_eq_true fl, decide_eq_true ft]
          repeat' (first
    | with_reducible refine zas ?_ ?_
    | (unfold OKC; kernel_rfl)
    | (unfold EDG; kernel_rfl)
    | (intros; (try simp only [zaC, zaI, zaz, zaw, zar, zat, decide_eq_true_eq, decide_eq_false_iff_not] at *); omega)
    | (apply cg_tp
       case hl => rfl
       case ha => (simp only [zae, zah, prepV, prepC, idx, hpL', lookR, zaa, if_true, if_false]; rfl)
       case hs => rfl
       case h => (first | exact d1 .. | exact d2 .. | exact d3 .. | exact u1 .. | exact d4 ..))
    | (apply cl_plain
       case hs => rfl
       case ha => (simp only [zae, zah, prepV, prepC, idx, hpL', lookR, zaa, if_true, if_false]; rfl)
       case h => (first | exact d1 .. | exact d2 .. | exact d3 .. | exact u1 .. | exact d4 ..))
    | ((first | refine s1_id ?_ | refine swp_id ?_ | refine sops_id ?_ | refine s2_id ?_); simp only [decide_eq_true c, lendL, hT, hT2, hee, decide_eq_true fu, decide_eq_true fl, decide_eq_true ft, zaD, zaH, zap, zaE, zaJ, zaA, zaB, zax, zaK, zaN, zav, zau, go_sem, zaa, zai, zaj, zak, zal, zaf, ↓reduceIte, reduceCtorEq, zab, zad, zam, zan, zao, SV.ren, SV.renL, Cell.ren, Row.ren, renO, bk, back, outUpsFrom, Ints_ren]))
          refine le_mk (m + 1) ?_ hlt (by omega)
          (refine imp_ren _ _ _ [(0, 0, ⟨[.gsl (Cs l) 0 l.length none, int n], 2⟩)] (by simp) (by simp) (by simp) (zay rfl) ?_ rfl (by simp only [zac, zag, false_implies, implies_true, and_true, St.hpF, lookR, zaa, if_true, if_false, ↓reduceIte] <;> (repeat' apply zas) <;> (first | rfl | trivial)) (by simp only [zac, zag, false_implies, implies_true, and_true, true_and, flat_cons, flat_nil, flat_ints, flat_bools, flat_app, Cell.refs, and_self, eq_self_iff_true, zap]); simp only [zae, zah, zac, zag, false_implies, implies_true, and_true, lk, slot, SV.ren, Cell.ren, toN, zaa, if_true, if_false, ↓reduceIte, reduceCtorEq])
          all_goals ((repeat' apply zas) <;> (first | rfl | trivial | (simp only [zaq]; done) | (simp only [zaq]; rfl) | (simp only [zaq]; trivial)))
        · have fa : a0 = a := i3.resolve_left ft
          simp only [go_sem, zaa, zai, zaj, zak, zal, zaf, ↓reduceIte, reduceCtorEq, zab, zad, zam, zan, zao, decide_eq_true c, lendL, hT, hT2, hee, decide_eq_true fu, decide_eq_true fl, decide_eq_false ft, decide_eq_true fa]
          repeat' (first
    | with_reducible refine zas ?_ ?_
    | (unfold OKC; kernel_rfl)
    | (unfold EDG; kernel_rfl)
    | (intros; (try simp only [zaC, zaI, zaz, zaw, zar, zat, decide_eq_true_eq, decide_eq_false_iff_not] at *); omega)
    | (apply cg_tp
       case hl => rfl
       case ha => (simp only [zae, zah, prepV, prepC, idx, hpL', lookR, zaa, if_true, if_false]; rfl)
       case hs => rfl
       case h => (first | exact d1 .. | exact d2 .. | exact d3 .. | exact u1 .. | exact d4 ..))
    | (apply cl_plain
       case hs => rfl
       case ha => (simp only [zae, zah, prepV, prepC, idx, hpL', lookR, zaa, if_true, if_false]; rfl)
       case h => (first | exact d1 .. | exact d2 .. | exact d3 .. | exact u1 .. | exact d4 ..))
    | ((first | refine s1_id ?_ | refine swp_id ?_ | refine sops_id ?_ | refine s2_id ?_); simp only [decide_eq_true c, lendL, hT, hT2, hee, decide_eq_true fu, decide_eq_true fl, decide_eq_false ft, decide_eq_true fa, zaD, zaH, zap, zaE, zaJ, zaA, zaB, zax, zaK, zaN, zav, zau, go_sem, zaa, zai, zaj, zak, zal, zaf, ↓reduceIte, reduceCtorEq, zab, zad, zam, zan, zao, SV.ren, SV.renL, Cell.ren, Row.ren, renO, bk, back, outUpsFrom, Ints_ren]))
          refine le_mk (m + 1) ?_ hlt (by omega)
          (refine imp_ren _ _ _ [(0, 0, ⟨[.gsl (Cs l) 0 l.length none, int n], 2⟩)] (by simp) (by simp) (by simp) (zay rfl) ?_ rfl (by simp only [zac, zag, false_implies, implies_true, and_true, St.hpF, lookR, zaa, if_true, if_false, ↓reduceIte] <;> (repeat' apply zas) <;> (first | rfl | trivial)) (by simp only [zac, zag, false_implies, implies_true, and_true, true_and, flat_cons, flat_nil, flat_ints, flat_bools, flat_app, Cell.refs, and_self, eq_self_iff_true, zap]); simp only [zae, zah, zac, zag, false_implies, implies_true, and_true, lk, slot, SV.ren, Cell.ren, toN, zaa, if_true, if_false, ↓reduceIte, reduceCtorEq])
          all_goals ((repeat' apply zas) <;> (first | rfl | trivial | (simp only [zaq]; done) | (simp only [zaq]; rfl) | (simp only [zaq]; trivial)))
    · rw [decide_eq_false hin] at d4
      simp only [hin, and_true, and_false, if_true, if_false] at hwn
      subst hwn
      have fu : s6 - a6 = 0 := by omega
      cases li
      · skip
        by_cases ft : s8 = a8
        · skip
          simp only [go_sem, zaa, zai, zaj, zak, zal, zaf, ↓reduceIte, reduceCtorEq, zab, zad, zam, zan, zao, decide_eq_true c, lendL, hT, hT2, hee, decide_eq_true fu, decide_eq_true ft]
          repeat' (first
    | with_reducible refine zas ?_ ?_
    | (unfold OKC; kernel_rfl)
    | (unfold EDG; kernel_rfl)
    | (intros; (try simp only [zaC, zaI, zaz, zaw, zar, zat, decide_eq_true_eq, decide_eq_false_iff_not] at *); omega)
    | (apply cg_tp
       case hl => rfl
       case ha => (simp only [zae, zah, prepV, prepC, idx, hpL', lookR, zaa, if_true, if_false]; rfl)
       case hs => rfl
       case h => (first | exact d1 .. | exact d2 .. | exact d3 .. | exact u1 .. | exact d4 ..))
    | (apply cl_plain
       case hs => rfl
       case ha => (simp only [zae, zah, prepV, prepC, idx, hpL', lookR, zaa, if_true, if_false]; rfl)
       case h => (first | exact d1 .. | exact d2 .. | exact d3 .. | exact u1 .. | exact d4 ..))
    | ((first | refine s1_id ?_ | refine swp_id ?_ | refine sops_id ?_ | refine s2_id ?_); simp only [decide_eq_true c, lendL, hT, hT2, hee, decide_eq_true fu, decide_eq_true ft, zaD, zaH, zap, zaE, zaJ, zaA, zaB, zax, zaK, zaN, zav, zau, go_sem, zaa, zai, zaj, zak, zal, zaf, ↓reduceIte, reduceCtorEq, zab, zad, zam, zan, zao, SV.ren, SV.renL, Cell.ren, Row.ren, renO, bk, back, outUpsFrom, Ints_ren]))
          refine le_mk (m + 1) ?_ hlt (by omega)
          (refine imp_ren _ _ _ [(0, 0, ⟨[.gsl (Cs l) 0 l.length none, int n], 2⟩)] (by simp) (by simp) (by simp) (zay rfl) ?_ rfl (by simp only [zac, zag, false_implies, implies_true, and_true, St.hpF, lookR, zaa, if_true, if_false, ↓reduceIte] <;> (repeat' apply zas) <;> (first | rfl | trivial)) (by simp only [zac, zag, false_implies, implies_true, and_true, true_and, flat_cons, flat_nil, flat_ints, flat_bools, flat_app, Cell.refs, and_self, eq_self_iff_true, zap]); simp only [zae, zah, zac, zag, false_implies, implies_true, and_true, lk, slot, SV.ren, Cell.ren, toN, zaa, if_true, if_false, ↓reduceIte, reduceCtorEq])
          all_goals ((repeat' apply zas) <;> (first | rfl | trivial | (simp only [zaq]; done) | (simp only [zaq]; rfl) | (simp only [zaq]; trivial)))
        · have fa : a0 = a := i3.resolve_left ft
          simp only [go_sem, zaa, zai, zaj, zak, zal, zaf, ↓reduceIte, reduceCtorEq, zab, zad, zam, zan, zao, decide_eq_true c, lendL, hT, hT2, hee, decide_eq_true fu, decide_eq_false ft, decide_eq_true fa]
          repeat' (first
    | with_reducible refine zas ?_ ?_
    | (unfold OKC; kernel_rfl)
    | (unfold EDG; kernel_rfl)
    | (intros; (try simp only [zaC, zaI, zaz, zaw, zar, zat, decide_eq_true_eq, decide_eq_false_iff_not] at *); omega)
    | (apply cg_tp
       case hl => rfl
       case ha => (simp only [zae, zah, prepV, prepC, idx, hpL', lookR, zaa, if_true, if_false]; rfl)
       case hs => rfl
       case h => (first | exact d1 .. | exact d2 .. | exact d3 .. | exact u1 .. | exact d4 ..))
    | (apply cl_plain
       case hs => rfl
       case ha => (simp only [zae, zah, prepV, prepC, idx, hpL', lookR, zaa, if_true, if_false]; rfl)
       case h => (first | exact d1 .. | exact d2 .. | exact d3 .. | exact u1 .. | exact d4 ..))
    | ((first | refine s1_id ?_ | refine swp_id ?_ | refine sops_id ?_ | refine s2_id ?_); simp only [decide_eq_true c, lendL, hT, hT2, hee, decide_eq_true fu, decide_eq_false ft, decide_eq_true fa, zaD, zaH, zap, zaE, zaJ, zaA, zaB, zax, zaK, zaN, zav, zau, go_sem, zaa, zai, zaj, zak, zal, zaf, ↓reduceIte, reduceCtorEq, zab, zad, zam, zan, zao, SV.ren, SV.renL, Cell.ren, Row.ren, renO, bk, back, outUpsFrom, Ints_ren]))
          refine le_mk (m + 1) ?_ hlt (by omega)
          (refine imp_ren _ _ _ [(0, 0, ⟨[.gsl (Cs l) 0 l.length none, int n], 2⟩)] (by simp) (by simp) (by simp) (zay rfl) ?_ rfl (by simp only [zac, zag, false_implies, implies_true, and_true, St.hpF, lookR, zaa, if_true, if_false, ↓reduceIte] <;> (repeat' apply zas) <;> (first | rfl | trivial)) (by simp only [zac, zag, false_implies, implies_true, and_true, true_and, flat_cons, flat_nil, flat_ints, flat_bools, flat_app, Cell.refs, and_self, eq_self_iff_true, zap]); simp only [zae, zah, zac, zag, false_implies, implies_true, and_true, lk, slot, SV.ren, Cell.ren, toN, zaa, if_true, if_false, ↓reduceIte, reduceCtorEq])
          all_goals ((repeat' apply zas) <;> (first | rfl | trivial | (simp only [zaq]; done) | (simp only [zaq]; rfl) | (simp only [zaq]; trivial)))
      · skip
        have fl : h1 - h2 = 0 := by have := hg1 rfl; omega
        by_cases ft : s8 = a8
        · skip
          simp only [go_sem, zaa, zai, zaj, zak, zal, zaf, ↓reduceIte, reduceCtorEq, zab, zad, zam, zan, zao, decide_eq_true c, lendL, hT, hT2, hee, decide_eq_true fu, decide_eq_true fl, decide_eq_true ft]
          repeat' (first
    | with_reducible refine zas ?_ ?_
    | (unfold OKC; kernel_rfl)
    | (unfold EDG; kernel_rfl)
    | (intros; (try simp only [zaC, zaI, zaz, zaw, zar, zat, decide_eq_true_eq, decide_eq_false_iff_not] at *); omega)
    | (apply cg_tp
       case hl => rfl
       case ha => (simp only [zae, zah, prepV, prepC, idx, hpL', lookR, zaa, if_true, if_false]; rfl)
       case hs => rfl
       case h => (first | exact d1 .. | exact d2 .. | exact d3 .. | exact u1 .. | exact d4 ..))
    | (apply cl_plain
       case hs => rfl
       case ha => (simp only [zae, zah, prepV, prepC, idx, hpL', lookR, zaa, if_true, if_false]; rfl)
       case h => (first | exact d1 .. | exact d2 .. | exact d3 .. | exact u1 .. | exact d4 ..))
    | ((first | refine s1_id ?_ | refine swp_id ?_ | refine sops_id ?_ | refine s2_id ?_); simp only [decide_eq_true c, lendL, hT, hT2, hee, decide_eq_true fu, decide_eq_true fl, decide_eq_true ft, zaD, zaH, zap, zaE, zaJ, zaA, zaB, zax, zaK, zaN, zav, zau, go_sem, zaa, zai, zaj, zak, zal, zaf, ↓reduceIte, reduceCtorEq, zab, zad, zam, zan, zao, SV.ren, SV.renL, Cell.ren, Row.ren, renO, bk, back, outUpsFrom, Ints_ren]))
          refine le_mk (m + 1) ?_ hlt (by omega)
          (refine imp_ren _ _ _ [(0, 0, ⟨[.gsl (Cs l) 0 l.length none, int n], 2⟩)] (by simp) (by simp) (by simp) (zay rfl) ?_ rfl (by simp only [zac, zag, false_implies, implies_true, and_true, St.hpF, lookR, zaa, if_true, if_false, ↓reduceIte] <;> (repeat' apply zas) <;> (first | rfl | trivial)) (by simp only [zac, zag, false_implies, implies_true, and_true, true_and, flat_cons, flat_nil, flat_ints, flat_bools, flat_app, Cell.refs, and_self, eq_self_iff_true, zap]); simp only [zae, zah, zac, zag, false_implies, implies_true, and_true, lk, slot, SV.ren, Cell.ren, toN, zaa, if_true, if_false, ↓reduceIte, reduceCtorEq])
          all_goals ((repeat' apply zas) <;> (first | rfl | trivial | (simp only [zaq]; done) | (simp only [zaq]; rfl) | (simp only [zaq]; trivial)))
        · have fa : a0 = a := i3.resolve_left ft
          simp only [go_sem, zaa, zai, zaj, zak, zal, zaf, ↓reduceIte, reduceCtorEq, zab, zad, zam, zan, zao, decide_eq_true c, lendL, hT, hT2, hee, decide_eq_true fu, decide_eq_true fl, decide_eq_false ft, decide_eq_true fa]
          repeat' (first
    | with_reducible refine zas ?_ ?_
    | (unfold OKC; kernel_rfl)
    | (unfold EDG; kernel_rfl)
    | (intros; (try simp only [zaC, zaI, zaz, zaw, zar, zat, decide_eq_true_eq, decide_eq_false_iff_not] at *); omega)
    | (apply cg_tp
       case hl => rfl
       case ha => (simp only [zae, zah, prepV, prepC, idx, hpL', lookR, zaa, if_true, if_false]; rfl)
       case hs => rfl
       case h => (first | exact d1 .. | exact d2 .. | exact d3 .. | exact u1 .. | exact d4 ..))
    | (apply cl_plain
       case hs => rfl
       case ha => (simp only [zae, zah, prepV, prepC, idx, hpL', lookR, zaa, if_true, if_false]; rfl)
       case h => (first | exact d1 .. | exact d2 .. | exact d3 .. | exact u1 .. | exact d4 ..))
    | ((first | refine s1_id ?_ | refine swp_id ?_ | refine sops_id ?_ | refine s2_id ?_); simp only [decide_eq_true c, lendL, hT, hT2, hee, decide_eq_true fu, decide_eq_true fl, decide_eq_false ft, decide_eq_true fa, zaD, zaH, zap, zaE, zaJ, zaA, zaB, zax, zaK, zaN, zav, zau, go_sem, zaa, zai, zaj, zak, zal, zaf, ↓reduceIte, reduceCtorEq, zab, zad, zam, zan, zao, SV.ren, SV.renL, Cell.ren, Row.ren, renO, bk, back, outUpsFrom, Ints_ren]))
          refine le_mk (m + 1) ?_ hlt (by omega)
          (refine imp_ren _ _ _ [(0, 0, ⟨[.gsl (Cs l) 0 l.length none, int n], 2⟩)] (by simp) (by simp) (by simp) (zay rfl) ?_ rfl (by simp only [zac, zag, false_implies, implies_true, and_true, St.hpF, lookR, zaa, if_true, if_false, ↓reduceIte] <;> (repeat' apply zas) <;> (first | rfl | trivial)) (by simp only [zac, zag, false_implies, implies_true, and_true, true_and, flat_cons, flat_nil, flat_ints, flat_bools, flat_app, Cell.refs, and_self, eq_self_iff_true, zap]); simp only [zae, zah, zac, zag, false_implies, implies_true, and_true, lk, slot, SV.ren, Cell.ren, toN, zaa, if_true, if_false, ↓reduceIte, reduceCtorEq])
          all_goals ((repeat' apply zas) <;> (first | rfl | trivial | (simp only [zaq]; done) | (simp only [zaq]; rfl) | (simp only [zaq]; trivial)))
theorem allor_main (g0 : List Cell) (s0 : GTy Try.prog 12 22 g0) : FnSpec Try.prog 5 [svOf Try.prog 22 g0] [] (b1 true) [] := by
  obtain ⟨l, rfl, hl, hr⟩ := gty_ints (n := 10) Try.underlying22 Try.underlying3 s0
  simp only [svOf, Try.underlying22, List.headD_cons]
  exact allor_spec l hr
end Go.Proofs.Ytcnilpdlcmpbbaa
