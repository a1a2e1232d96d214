/- Contracts of functions, told of values, on the way to ThrottleReads (part 8). -/
import Derived.Test.YtcnilpdlcmpbbaaThrottleReadsM3
import Derived.Test.YtcnilpdlcmpbbaaThrottleReadsM7
-- short names of the library's lemmas
open Nat renaming reduceEqDiff → zaa, reduceLeDiff → zae, reduceAdd → zai, reduceSub → zaj, reduceMul → zak, reduceLT → zal, le_of_ble_eq_true → zaz, zero_le → zaL
open List renaming reduceReplicate → zab, forall_mem_cons → zac, not_mem_nil → zaf, map_cons → zag, map_nil → zah, append_nil → zar, length_cons → zax, length_nil → zay, take_succ_cons → zaB, set_cons_zero → zaC, set_cons_succ → zaD, cons_append → zaE, flatten_cons → zaF, flatten_nil → zaG, nil_append → zaH, take_zero → zaI, take_nil → zaJ, mem_cons → zaN
open Int renaming cast_ofNat_Int → zad, reduceEq → zam, reduceLT → zan, reduceLE → zao, natCast_add → zaA
open Bool renaming and_eq_false_iff → zap, or_eq_false_iff → zaq, not_eq_false' → zas, not_eq_true' → zat, and_eq_true → zau, or_eq_true → zav, false_eq_true → zaK, true_and → zaM
open And renaming intro → zaw
-- NEWGO
-- PRUNE: cl_lendx cl_use
-- ISG: Cs_isG
-- FLAT: Cs_flat
namespace Go.Proofs.Ytcnilpdlcmpbbaa
set_option linter.unusedVariables false
set_option linter.unusedSimpArgs false
open Go.Proofs.Ytcnilpdlcmpbbaa.Sh
set_option maxRecDepth 20000
def lendP : FuncId → List Nat := fun f => if f = 12 then [0] else if f = 15 then [0] else if f = 22 then [0] else if f = 40 then [0] else if f = 36 then [0] else []
def plG (D : List Int) (l : List Nd) (n c : Int) (s : List Pl × Nat) : List Pl × Int := thSp l n s.1 (dgV D l s.2) (nxV D (dgA D l s.2) c)
def plP (D : List Int) (l : List Nd) (n c : Int) (s : List Pl × Nat) : List Pl := if (plG D l n c s).2 = 0 then (plG D l n c s).1 else s.1
def plJ (D : List Int) (l : List Nd) (c : Int) (s : List Pl × Nat) : Nat := nxA D (dgA D l s.2) c
def plS (D : List Int) (l : List Nd) (n c : Int) (s : List Pl × Nat) : List Pl × Nat :=
  if nxV D (plJ D l c s) 8 = 7 then (thRf l n (plP D l n c s) (dsV D (nxA D (plJ D l c s) 8)).1, (dsV D (nxA D (plJ D l c s) 8)).2) else (plP D l n c s, nxA D (plJ D l c s) 8)
def plL (D : List Int) (l : List Nd) (n c : Int) : Nat → List Pl × Nat → List Pl × Nat
  | 0, s => s
  | m + 1, s => plL D l n c m (plS D l n c s)
theorem plP_ok {D : List Int} {l : List Nd} {n c : Int} {s : List Pl × Nat} (h : Pv l n s.1 c) : Pv l n (plP D l n c s) c := by
  unfold plP
  split
  · rename_i e; exact h.sp (.inl e)
  · exact h
theorem plS_ok {D : List Int} {l : List Nd} {n c : Int} {s : List Pl × Nat} (h : Pv l n s.1 c) : Pv l n (plS D l n c s).1 c := by
  have h1 := plP_ok (D := D) h
  unfold plS
  split
  · exact h1.rf _
  · exact h1
theorem plL_ok {D : List Int} {l : List Nd} {n c : Int} : ∀ (m : Nat) {s : List Pl × Nat}, Pv l n s.1 c → Pv l n (plL D l n c m s).1 c
  | 0, s, h => h
  | m + 1, s, h => plL_ok m (plS_ok h)
def plQ (D : List Int) (l : List Nd) (j : Nat) : (List Int × List Int) × Nat := mkNu D j l.length
def plI (D : List Int) (l : List Nd) (c : Int) (j : Nat) : List Pl := nwN l (plQ D l j).1.1 (plQ D l j).1.2 (1 + nxV D (plQ D l j).2 3) c l.length
def mkP (D : List Int) (l : List Nd) (n c : Int) (j : Nat) : List Pl × Nat := plL D l n c (nxV D (nxA D (plQ D l j).2 3) 12).toNat (plI D l c j, nxA D (nxA D (plQ D l j).2 3) 12)
theorem plI_ok {D : List Int} {l : List Nd} {n c : Int} (hV : VT l n) (hc : 1 ≤ c ∧ c ≤ 16) (j : Nat) : Pv l n (plI D l c j) c := by
  have h3 := nx_rng D (plQ D l j).2 3 (by decide)
  exact (thNw_ok hV (mkNu_ok D j l.length) (by omega) hc).2.1
theorem mkP_ok {D : List Int} {l : List Nd} {n c : Int} (hV : VT l n) (hc : 1 ≤ c ∧ c ≤ 16) (j : Nat) : Pv l n (mkP D l n c j).1 c := plL_ok _ (plI_ok hV hc j)
set_option maxHeartbeats 16000000 in
theorem mkpools_spec (D : List Int) (hl : D.length ≤ 600) (hr : ∀ x ∈ D, -9223372036854775808 ≤ x ∧ x ≤ 9223372036854775807) (j : Nat) (l : List Nd) (n c : Int) (hV : VT l n) (hnm : NmR l) (hc : 1 ≤ c ∧ c ≤ 16) :
    FnSpec Try.prog 10 [dp, trV l none n, i1 c] [dice D j] (gr (mkP D l n c j).1 none) [some (dice D (mkP D l n c j).2)] := by
  have hnl := nd_len l
  have hle := hV.le
  have hne := hV.ne
  have h1 := numbers_spec D hl hr j l.length (by omega)
  have hq := mkNu_ok D j l.length
  have h3 := nx_rng D (plQ D l j).2 3 (by decide)
  obtain ⟨e1, e2, _⟩ := thNw_ok hV hq (s := 1 + nxV D (plQ D l j).2 3) (by omega) hc
  have h2 := rthnew_spec l n (mkNu D j l.length).1.1 (mkNu D j l.length).1.2 (1 + nxV D (plQ D l j).2 3) c none none (by omega) (by rw [hq.l1]; omega) (by rw [hq.l2]; omega) hnm fun x hx => by have := hq.b x hx; omega
  rw [e1] at h2
  have n3 := next_spec D (plQ D l j).2 3 hl hr (by decide)
  have n12 := next_spec D (nxA D (plQ D l j).2 3) 12 hl hr (by decide)
  have r12 := nx_rng D (nxA D (plQ D l j).2 3) 12 (by decide)
  have hI : plI D l c j = nwN l (mkNu D j l.length).1.1 (mkNu D j l.length).1.2 (1 + nxV D (plQ D l j).2 3) c l.length := rfl
  rw [← hI] at h2 e2
  clear e1 hI
  obtain ⟨T, hT⟩ : ∃ T, mkP D l n c j = T := ⟨_, rfl⟩
  rw [hT]
  unfold mkP at hT
  rw [show mkNu D j l.length = plQ D l j from rfl] at *
  generalize plI D l c j = P0 at *
  generalize plQ D l j = Q at *
  obtain ⟨⟨q, b⟩, j1⟩ := Q
  simp only at h1 h2 h3 n3 n12 r12 hT
  generalize nxV D j1 3 = v3 at *
  generalize nxA D j1 3 = j2 at *
  obtain ⟨K, hK⟩ : ∃ K : Nat, nxV D j2 12 = K := ⟨(nxV D j2 12).toNat, by omega⟩
  rw [hK] at n12 r12 hT
  rw [Int.toNat_natCast] at hT
  generalize nxA D j2 12 = j3 at *
  obtain ⟨PT, JT⟩ := T
  refine fnspec_of mixed TT_ok TT_cl ⟨fun _ => false, lendP, 1, fun _ => false, fun _ => false⟩ Try.func10 rfl (by kernel_rfl) rfl 62 rfl [.tmp 6] rfl ?_
  simp only [go_sem, zaa, zai, zaj, zak, zal, zae, ↓reduceIte, reduceCtorEq, zab, zad, zam, zan, zao, lendP]
  repeat' (first
    | with_reducible refine zaw ?_ ?_
    | (unfold OKC; kernel_rfl)
    | (unfold EDG; kernel_rfl)
    | (apply cl_plain
       case hs => rfl
       case ha => (simp only [zag, zah, prepV, prepC, idx, hpL', lookR, zaa, if_true, if_false]; rfl)
       case h => (first | exact h1 .. | exact h2 .. | exact n3 .. | exact n12 ..))
    | (apply cl_lend
       case hr => (simp only [zag, zah, hpL', lookR, zaa, if_true, if_false]; first | exact map1 _ | exact map2 _ _ | exact map3 _ _ _)
       case ha => (simp only [zag, zah, prepV, prepC, idx, hpL', lookR, zaa, if_true, if_false]; rfl)
       case hs => rfl
       case hn => decide
       case h => (first | exact h1 .. | exact h2 .. | exact n3 .. | exact n12 ..)
       case hf => (simp only [zac, zaf, false_implies, implies_true, and_true, true_and, flat_cons, flat_nil, flat_ints, flat_bools, flat_app, Cs_flat, Cell.refs, and_self, eq_self_iff_true, zar])
       case hl => (simp only [zax, zay]; decide))
    | ((first | refine s1_id ?_ | refine swp_id ?_ | refine sops_id ?_ | refine s2_id ?_); simp only [lendP, dice, go_sem, zaa, zai, zaj, zak, zal, zae, ↓reduceIte, reduceCtorEq, zab, zad, zam, zan, zao, SV.ren, SV.renL, Cell.ren, Row.ren, renO, bk, back, outUpsFrom, Ints_ren])
    | (intros; omega)
    | (intros; (try simp only [zau, zav, zat, zas, zap, zaq, decide_eq_true_eq, decide_eq_false_iff_not] at *); omega))
  refine w_loop (ι := Nat × List Pl × Nat) (fun s => ⟨[(0, dp), (2, i1 c), (4, .one (.optr 1 0)), (9, gr s.2.1 none), (11, i1 s.1)], [(0, some (dice D s.2.2)), (1, some ⟨[.gsl (Cs l) 0 l.length none, int n], 2⟩)], 2⟩) (fun s => s.1 ≤ 12 ∧ Pv l n s.2.1 c ∧ plL D l n c s.1 s.2 = (PT, JT)) (fun s => s.1) (K, P0, j3) ?_ ⟨by show K ≤ 12; omega, e2, hT⟩ ?_
  · (refine imp_ren _ _ _ [(0, 0, dice D j3), (1, 1, ⟨[.gsl (Cs l) 0 l.length none, int n], 2⟩)] (by simp) (by simp) (by simp) (zaz rfl) ?_ rfl (by simp only [zac, zaf, false_implies, implies_true, and_true, St.hpF, lookR, zaa, if_true, if_false, ↓reduceIte, dice] <;> (repeat' apply zaw) <;> (first | rfl | trivial)) (by simp only [zac, zaf, false_implies, implies_true, and_true, true_and, flat_cons, flat_nil, flat_ints, flat_bools, flat_app, Cell.refs, and_self, eq_self_iff_true, zar, dice]); simp only [zag, zah, zac, zaf, false_implies, implies_true, and_true, lk, slot, SV.ren, Cell.ren, toN, zaa, if_true, if_false, ↓reduceIte, reduceCtorEq])
    all_goals ((repeat' apply zaw) <;> (first | rfl | trivial))
  clear h1 h2 n3 n12 hT e2 hq
  rintro ⟨m, P, j0⟩ ⟨hm, hP, hL⟩
  simp only at hm hP hL ⊢
  rcases Nat.eq_zero_or_pos m with h0 | h0
  · subst h0
    have c0 : ¬ (0 : Int) < ((0 : Nat) : Int) := by omega
    obtain ⟨rfl, rfl⟩ := Prod.mk.inj (show (P, j0) = (PT, JT) from hL)
    simp only [go_sem, zaa, zai, zaj, zak, zal, zae, ↓reduceIte, reduceCtorEq, zab, zad, zam, zan, zao, decide_eq_false c0, lendP]
    repeat' (first
    | (intros; (try simp only [zau, zav, zat, zas, zap, zaq, decide_eq_true_eq, decide_eq_false_iff_not] at *); omega))
    (refine fs_flat [(0, dice D j0)] (by simp) (by simp only [zag, zah]; decide) (by simp only [go_sem, resV, resS, SV.ren, SV.renL, Cell.ren, St.tmF, St.hpF, idx, renO, Row.ren, evS, slot, lookR, zaa, ↓reduceIte, reduceCtorEq, if_true, if_false, Option.getD_some, Option.getD_none, zag, zah, sLoad, readAt, readNeed, Ints_ren, Ints_length, Ints_getD, and_true, true_and, List.getD_cons_zero, List.getD_cons_succ]; try decide) ?_ (by simp only [zac, zaf, false_implies, implies_true, and_true, St.hpF, lookR, zaa, if_true, if_false, ↓reduceIte, dice] <;> (repeat' apply zaw) <;> (first | rfl | trivial)) (by simp only [zac, zaf, false_implies, implies_true, and_true, true_and, flat_cons, flat_nil, flat_ints, flat_bools, flat_app, Cell.refs, and_self, eq_self_iff_true, zar, dice]) ?_ <;> (try simp only [go_sem, resV, resS, SV.ren, SV.renL, Cell.ren, St.tmF, St.hpF, idx, renO, Row.ren, evS, slot, lookR, zaa, ↓reduceIte, reduceCtorEq, if_true, if_false, Option.getD_some, Option.getD_none, zag, zah, sLoad, readAt, readNeed, Ints_ren, Ints_length, Ints_getD, and_true, true_and, List.getD_cons_zero, List.getD_cons_succ]) <;> (try rfl))
  obtain ⟨m', rfl⟩ : ∃ m', m = m' + 1 := ⟨m - 1, by omega⟩
  have c0 : (0 : Int) < ((m' + 1 : Nat) : Int) := by omega
  have hmm : ((m' + 1 : Nat) : Int) - 1 = (m' : Int) := by omega
  rw [plL] at hL
  have hS := plS_ok (D := D) (s := (P, j0)) hP
  have hPl := hP.len
  have hall := hP.all
  have h1 := dgroup_spec D hl hr j0 l n hne hle
  have h2 := next_spec D (dgA D l j0) c hl hr (by omega)
  have h3 := rthspend_spec l n P none (dgV D l j0) (nxV D (dgA D l j0) c) (by omega) (by omega) hnm (fun x hx => smp_of (hall x hx)) (fun x hx => wk_of (hall x hx)) (fun x hx => pck_len (hall x hx))
  have hb := bool_spec D (plJ D l c (P, j0)) 8 hl hr (by decide)
  have hPP := plP_ok (D := D) (s := (P, j0)) hP
  have hG : plG D l n c (P, j0) = thSp l n P (dgV D l j0) (nxV D (dgA D l j0) c) := rfl
  have hPd : plP D l n c (P, j0) = if (plG D l n c (P, j0)).2 = 0 then (plG D l n c (P, j0)).1 else P := rfl
  have hJd : plJ D l c (P, j0) = nxA D (dgA D l j0) c := rfl
  have hSd : plS D l n c (P, j0) = if nxV D (plJ D l c (P, j0)) 8 = 7 then (thRf l n (plP D l n c (P, j0)) (dsV D (nxA D (plJ D l c (P, j0)) 8)).1, (dsV D (nxA D (plJ D l c (P, j0)) 8)).2) else (plP D l n c (P, j0), nxA D (plJ D l c (P, j0)) 8) := rfl
  rw [← hG] at h3
  clear hG
  generalize plG D l n c (P, j0) = r at *
  obtain ⟨R, e⟩ := r
  simp only at h3 hPd
  rw [← hJd] at h2
  clear hJd
  have hPPl := hPP.len
  have hall2 := hPP.all
  have h5 := dsome_spec D hl hr (nxA D (plJ D l c (P, j0)) 8)
  have h6 := rthrefill_spec l n (plP D l n c (P, j0)) none (dsV D (nxA D (plJ D l c (P, j0)) 8)).1 none (by omega) (by omega) (by have := dsV_len D (nxA D (plJ D l c (P, j0)) 8); omega) hnm (fun x hx => smp_of (hall2 x hx)) (fun x hx => wk_of (hall2 x hx)) (fun x hx => pck_len (hall2 x hx))
  clear hall hall2
  by_cases hv : nxV D (plJ D l c (P, j0)) 8 = 7
  · rw [if_pos hv] at hSd
    rw [hSd] at hS hL
    rw [decide_eq_true (by omega : nxV D (plJ D l c (P, j0)) 8 = 8 - 1)] at hb
    clear hSd hv
    generalize plJ D l c (P, j0) = j3 at *
    generalize dsV D (nxA D j3 8) = w at *
    obtain ⟨due, j5⟩ := w
    simp only at h5 h6 hL hS
    by_cases he : e = 0
    · rw [if_pos he] at hPd
      rw [hPd] at h6 hL hS
      generalize thRf l n R due = Z at *
      simp only [go_sem, zaa, zai, zaj, zak, zal, zae, ↓reduceIte, reduceCtorEq, zab, zad, zam, zan, zao, decide_eq_true c0, lendP, decide_eq_true he]
      repeat' (first
    | with_reducible refine zaw ?_ ?_
    | (unfold OKC; kernel_rfl)
    | (unfold EDG; kernel_rfl)
    | (apply cl_plain
       case hs => rfl
       case ha => (simp only [zag, zah, prepV, prepC, idx, hpL', lookR, zaa, if_true, if_false]; rfl)
       case h => (first | exact h1 .. | exact h2 .. | exact h3 .. | exact hb .. | exact h5 .. | exact h6 ..))
    | (apply cl_lend
       case hr => (simp only [zag, zah, hpL', lookR, zaa, if_true, if_false]; first | exact map1 _ | exact map2 _ _ | exact map3 _ _ _)
       case ha => (simp only [zag, zah, prepV, prepC, idx, hpL', lookR, zaa, if_true, if_false]; rfl)
       case hs => rfl
       case hn => decide
       case h => (first | exact h1 .. | exact h2 .. | exact h3 .. | exact hb .. | exact h5 .. | exact h6 ..)
       case hf => (simp only [zac, zaf, false_implies, implies_true, and_true, true_and, flat_cons, flat_nil, flat_ints, flat_bools, flat_app, Cs_flat, Cell.refs, and_self, eq_self_iff_true, zar])
       case hl => (simp only [zax, zay]; decide))
    | ((first | refine s1_id ?_ | refine swp_id ?_ | refine sops_id ?_ | refine s2_id ?_); simp only [lendP, dice, decide_eq_true c0, decide_eq_true he, zaF, zaG, zar, zaE, zaH, zaC, zaD, zaB, zaI, zaJ, zax, zay, go_sem, zaa, zai, zaj, zak, zal, zae, ↓reduceIte, reduceCtorEq, zab, zad, zam, zan, zao, SV.ren, SV.renL, Cell.ren, Row.ren, renO, bk, back, outUpsFrom, Ints_ren])
    | (intros; omega)
    | (intros; (try simp only [zau, zav, zat, zas, zap, zaq, decide_eq_true_eq, decide_eq_false_iff_not] at *); omega))
      refine le_mk (m', Z, j5) ?_ ⟨by show m' ≤ 12; omega, hS, hL⟩ (by show m' < m' + 1; omega)
      (refine imp_ren _ _ _ [(0, 0, dice D j5), (1, 1, ⟨[.gsl (Cs l) 0 l.length none, int n], 2⟩)] (by simp) (by simp) (by simp) (zaz rfl) ?_ rfl (by simp only [zac, zaf, false_implies, implies_true, and_true, St.hpF, lookR, zaa, if_true, if_false, ↓reduceIte, dice] <;> (repeat' apply zaw) <;> (first | rfl | trivial)) (by simp only [zac, zaf, false_implies, implies_true, and_true, true_and, flat_cons, flat_nil, flat_ints, flat_bools, flat_app, Cell.refs, and_self, eq_self_iff_true, zar, dice]); simp only [zag, zah, zac, zaf, false_implies, implies_true, and_true, lk, slot, SV.ren, Cell.ren, toN, zaa, if_true, if_false, ↓reduceIte, reduceCtorEq])
      all_goals ((repeat' apply zaw) <;> (first | rfl | trivial | (simp only [hmm]; done) | (simp only [hmm]; rfl) | (simp only [hmm]; trivial)))
    · rw [if_neg he] at hPd
      rw [hPd] at h6 hL hS
      generalize thRf l n P due = Z at *
      simp only [go_sem, zaa, zai, zaj, zak, zal, zae, ↓reduceIte, reduceCtorEq, zab, zad, zam, zan, zao, decide_eq_true c0, lendP, decide_eq_false he]
      repeat' (first
    | with_reducible refine zaw ?_ ?_
    | (unfold OKC; kernel_rfl)
    | (unfold EDG; kernel_rfl)
    | (apply cl_plain
       case hs => rfl
       case ha => (simp only [zag, zah, prepV, prepC, idx, hpL', lookR, zaa, if_true, if_false]; rfl)
       case h => (first | exact h1 .. | exact h2 .. | exact h3 .. | exact hb .. | exact h5 .. | exact h6 ..))
    | (apply cl_lend
       case hr => (simp only [zag, zah, hpL', lookR, zaa, if_true, if_false]; first | exact map1 _ | exact map2 _ _ | exact map3 _ _ _)
       case ha => (simp only [zag, zah, prepV, prepC, idx, hpL', lookR, zaa, if_true, if_false]; rfl)
       case hs => rfl
       case hn => decide
       case h => (first | exact h1 .. | exact h2 .. | exact h3 .. | exact hb .. | exact h5 .. | exact h6 ..)
       case hf => (simp only [zac, zaf, false_implies, implies_true, and_true, true_and, flat_cons, flat_nil, flat_ints, flat_bools, flat_app, Cs_flat, Cell.refs, and_self, eq_self_iff_true, zar])
       case hl => (simp only [zax, zay]; decide))
    | ((first | refine s1_id ?_ | refine swp_id ?_ | refine sops_id ?_ | refine s2_id ?_); simp only [lendP, dice, decide_eq_true c0, decide_eq_false he, zaF, zaG, zar, zaE, zaH, zaC, zaD, zaB, zaI, zaJ, zax, zay, go_sem, zaa, zai, zaj, zak, zal, zae, ↓reduceIte, reduceCtorEq, zab, zad, zam, zan, zao, SV.ren, SV.renL, Cell.ren, Row.ren, renO, bk, back, outUpsFrom, Ints_ren])
    | (intros; omega)
    | (intros; (try simp only [zau, zav, zat, zas, zap, zaq, decide_eq_true_eq, decide_eq_false_iff_not] at *); omega))
      refine le_mk (m', Z, j5) ?_ ⟨by show m' ≤ 12; omega, hS, hL⟩ (by show m' < m' + 1; omega)
      (refine imp_ren _ _ _ [(0, 0, dice D j5), (1, 1, ⟨[.gsl (Cs l) 0 l.length none, int n], 2⟩)] (by simp) (by simp) (by simp) (zaz rfl) ?_ rfl (by simp only [zac, zaf, false_implies, implies_true, and_true, St.hpF, lookR, zaa, if_true, if_false, ↓reduceIte, dice] <;> (repeat' apply zaw) <;> (first | rfl | trivial)) (by simp only [zac, zaf, false_implies, implies_true, and_true, true_and, flat_cons, flat_nil, flat_ints, flat_bools, flat_app, Cell.refs, and_self, eq_self_iff_true, zar, dice]); simp only [zag, zah, zac, zaf, false_implies, implies_true, and_true, lk, slot, SV.ren, Cell.ren, toN, zaa, if_true, if_false, ↓reduceIte, reduceCtorEq])
      all_goals ((repeat' apply zaw) <;> (first | rfl | trivial | (simp only [hmm]; done) | (simp only [hmm]; rfl) | (simp only [hmm]; trivial)))
  · rw [if_neg hv] at hSd
    rw [hSd] at hS hL
    rw [decide_eq_false (by omega : ¬ nxV D (plJ D l c (P, j0)) 8 = 8 - 1)] at hb
    clear hSd hv h5 h6
    generalize plJ D l c (P, j0) = j3 at *
    by_cases he : e = 0
    · rw [if_pos he] at hPd
      rw [hPd] at hL hS
      simp only [go_sem, zaa, zai, zaj, zak, zal, zae, ↓reduceIte, reduceCtorEq, zab, zad, zam, zan, zao, decide_eq_true c0, lendP, decide_eq_true he]
      repeat' (first
    | with_reducible refine zaw ?_ ?_
    | (unfold OKC; kernel_rfl)
    | (unfold EDG; kernel_rfl)
    | (apply cl_plain
       case hs => rfl
       case ha => (simp only [zag, zah, prepV, prepC, idx, hpL', lookR, zaa, if_true, if_false]; rfl)
       case h => (first | exact h1 .. | exact h2 .. | exact h3 .. | exact hb ..))
    | (apply cl_lend
       case hr => (simp only [zag, zah, hpL', lookR, zaa, if_true, if_false]; first | exact map1 _ | exact map2 _ _ | exact map3 _ _ _)
       case ha => (simp only [zag, zah, prepV, prepC, idx, hpL', lookR, zaa, if_true, if_false]; rfl)
       case hs => rfl
       case hn => decide
       case h => (first | exact h1 .. | exact h2 .. | exact h3 .. | exact hb ..)
       case hf => (simp only [zac, zaf, false_implies, implies_true, and_true, true_and, flat_cons, flat_nil, flat_ints, flat_bools, flat_app, Cs_flat, Cell.refs, and_self, eq_self_iff_true, zar])
       case hl => (simp only [zax, zay]; decide))
    | ((first | refine s1_id ?_ | refine swp_id ?_ | refine sops_id ?_ | refine s2_id ?_); simp only [lendP, dice, decide_eq_true c0, decide_eq_true he, zaF, zaG, zar, zaE, zaH, zaC, zaD, zaB, zaI, zaJ, zax, zay, go_sem, zaa, zai, zaj, zak, zal, zae, ↓reduceIte, reduceCtorEq, zab, zad, zam, zan, zao, SV.ren, SV.renL, Cell.ren, Row.ren, renO, bk, back, outUpsFrom, Ints_ren])
    | (intros; omega)
    | (intros; (try simp only [zau, zav, zat, zas, zap, zaq, decide_eq_true_eq, decide_eq_false_iff_not] at *); omega))
      refine le_mk (m', R, nxA D j3 8) ?_ ⟨by show m' ≤ 12; omega, hS, hL⟩ (by show m' < m' + 1; omega)
      (refine imp_ren _ _ _ [(0, 0, dice D (nxA D j3 8)), (1, 1, ⟨[.gsl (Cs l) 0 l.length none, int n], 2⟩)] (by simp) (by simp) (by simp) (zaz rfl) ?_ rfl (by simp only [zac, zaf, false_implies, implies_true, and_true, St.hpF, lookR, zaa, if_true, if_false, ↓reduceIte, dice] <;> (repeat' apply zaw) <;> (first | rfl | trivial)) (by simp only [zac, zaf, false_implies, implies_true, and_true, true_and, flat_cons, flat_nil, flat_ints, flat_bools, flat_app, Cell.refs, and_self, eq_self_iff_true, zar, dice]); simp only [zag, zah, zac, zaf, false_implies, implies_true, and_true, lk, slot, SV.ren, Cell.ren, toN, zaa, if_true, if_false, ↓reduceIte, reduceCtorEq])
      all_goals ((repeat' apply zaw) <;> (first | rfl | trivial | (simp only [hmm]; done) | (simp only [hmm]; rfl) | (simp only [hmm]; trivial)))
    · rw [if_neg he] at hPd
      rw [hPd] at hL hS
      simp only [go_sem, zaa, zai, zaj, zak, zal, zae, ↓reduceIte, reduceCtorEq, zab, zad, zam, zan, zao, decide_eq_true c0, lendP, decide_eq_false he]
      repeat' (first
    | with_reducible refine zaw ?_ ?_
    | (unfold OKC; kernel_rfl)
    | (unfold EDG; kernel_rfl)
    | (apply cl_plain
       case hs => rfl
       case ha => (simp only [zag, zah, prepV, prepC, idx, hpL', lookR, zaa, if_true, if_false]; rfl)
       case h => (first | exact h1 .. | exact h2 .. | exact h3 .. | exact hb ..))
    | (apply cl_lend
       case hr => (simp only [zag, zah, hpL', lookR, zaa, if_true, if_false]; first | exact map1 _ | exact map2 _ _ | exact map3 _ _ _)
       case ha => (simp only [zag, zah, prepV, prepC, idx, hpL', lookR, zaa, if_true, if_false]; rfl)
       case hs => rfl
       case hn => decide
       case h => (first | exact h1 .. | exact h2 .. | exact h3 .. | exact hb ..)
       case hf => (simp only [zac, zaf, false_implies, implies_true, and_true, true_and, flat_cons, flat_nil, flat_ints, flat_bools, flat_app, Cs_flat, Cell.refs, and_self, eq_self_iff_true, zar])
       case hl => (simp only [zax, zay]; decide))
    | ((first | refine s1_id ?_ | refine swp_id ?_ | refine sops_id ?_ | refine s2_id ?_); simp only [lendP, dice, decide_eq_true c0, decide_eq_false he, zaF, zaG, zar, zaE, zaH, zaC, zaD, zaB, zaI, zaJ, zax, zay, go_sem, zaa, zai, zaj, zak, zal, zae, ↓reduceIte, reduceCtorEq, zab, zad, zam, zan, zao, SV.ren, SV.renL, Cell.ren, Row.ren, renO, bk, back, outUpsFrom, Ints_ren])
    | (intros; omega)
    | (intros; (try simp only [zau, zav, zat, zas, zap, zaq, decide_eq_true_eq, decide_eq_false_iff_not] at *); omega))
      refine le_mk (m', P, nxA D j3 8) ?_ ⟨by show m' ≤ 12; omega, hS, hL⟩ (by show m' < m' + 1; omega)
      (refine imp_ren _ _ _ [(0, 0, dice D (nxA D j3 8)), (1, 1, ⟨[.gsl (Cs l) 0 l.length none, int n], 2⟩)] (by simp) (by simp) (by simp) (zaz rfl) ?_ rfl (by simp only [zac, zaf, false_implies, implies_true, and_true, St.hpF, lookR, zaa, if_true, if_false, ↓reduceIte, dice] <;> (repeat' apply zaw) <;> (first | rfl | trivial)) (by simp only [zac, zaf, false_implies, implies_true, and_true, true_and, flat_cons, flat_nil, flat_ints, flat_bools, flat_app, Cell.refs, and_self, eq_self_iff_true, zar, dice]); simp only [zag, zah, zac, zaf, false_implies, implies_true, and_true, lk, slot, SV.ren, Cell.ren, toN, zaa, if_true, if_false, ↓reduceIte, reduceCtorEq])
      all_goals ((repeat' apply zaw) <;> (first | rfl | trivial | (simp only [hmm]; done) | (simp only [hmm]; rfl) | (simp only [hmm]; trivial)))
end Go.Proofs.Ytcnilpdlcmpbbaa
-- NEWGO
-- PRUNE: cl_lendx cl_use cl_lend
-- ISG: Cs_isG
-- FLAT: Cs_flat
namespace Go.Proofs.Ytcnilpdlcmpbbaa
set_option linter.unusedVariables false
set_option linter.unusedSimpArgs false
open Go.Proofs.Ytcnilpdlcmpbbaa.Sh
set_option maxRecDepth 20000
set_option maxHeartbeats 4000000 in
theorem pl3_ix (g : FuncId) (c0 : List Cell) (c1 : List Cell) (c2 : List Cell) (q : Pl → Bool) (xs : List (Pl)) (hg : ∀ x ∈ xs, FnSpec Try.prog g [.agg (Rec.cs x), .one (.gptr c0 0), .one (.gptr c1 0), .one (.gptr c2 0)] [] (b1 (q x)) []) (cap : Option Nat)
    (hs : xs.length ≤ 9223372036854775807) : FnSpec Try.prog 50 [gr xs cap, .one (.fn g [.gptr c0 0, .gptr c1 0, .gptr c2 0])] [] (i1 (ixR q xs 0)) [] := by
  refine fnspec_of mixed TT_ok TT_cl ⟨fun _ => false, fun _ => [], 0, fun _ => false, fun _ => false⟩ Try.func50 rfl (by kernel_rfl) rfl 19 rfl [.tmp 4] rfl ?_
  simp only [go_sem, zaa, zai, zaj, zak, zal, zae, ↓reduceIte, reduceCtorEq, zab, zad, zam, zan, zao]
  repeat' (first
    | (intros; (try simp only [zau, zav, zat, zas, zap, zaq, decide_eq_true_eq, decide_eq_false_iff_not] at *); omega))
  refine w_loop (ι := Nat) (fun i => ⟨[(0, gr xs cap), (1, .one (.fn g [.gptr c0 0, .gptr c1 0, .gptr c2 0])), (7, i1 xs.length), (8, i1 i)], [], 0⟩) (fun i => i ≤ xs.length ∧ ixR q xs 0 = ixR q (xs.drop i) i) (fun i => xs.length - i) 0 ?_ ⟨zaL _, rfl⟩ ?_
  · (refine imp_sub _ _ _ [] (by simp) (by simp) (by simp) (zaL _) ?_ rfl (by simp); simp only [zac, zaf, false_implies, implies_true, and_true, lk, slot, SV.ren, Cell.ren, zaa, if_true, if_false, ↓reduceIte, reduceCtorEq])
    all_goals ((repeat' apply zaw) <;> (first | rfl | trivial))
  rintro i ⟨hi, he⟩
  simp only at hi he ⊢
  rcases Nat.lt_or_ge i xs.length with hlt | hge
  case inr =>
    have hlt' : ¬ (i : Int) < (xs.length : Int) := by omega
    rw [List.drop_of_length_le hge] at he
    rw [he]
    simp only [go_sem, zaa, zai, zaj, zak, zal, zae, ↓reduceIte, reduceCtorEq, zab, zad, zam, zan, zao, decide_eq_false hlt', ixR]
    repeat' (first
    | exact fs_nil trivial rfl
    | fail)
  have hlt' : (i : Int) < (xs.length : Int) := by omega
  have hcl : (Cs xs).length = xs.length * 10 := Cs_len xs
  have hat : List.take 10 (List.drop (i * 10) (Cs xs)) = Rec.cs (xs.getD i Rec.z) := Cs_td xs i hlt
  have hm := getD_mem xs i Rec.z hlt
  have hc := hg _ hm
  rw [drop_getD xs i Rec.z hlt, ixR] at he
  have hrl : (Rec.cs (xs.getD i Rec.z)).length = 10 := Rec.len _
  have hrg := Rec.g (xs.getD i Rec.z)
  generalize xs.getD i Rec.z = b at *
  have hcs : Rec.cs b = [int b.g, int b.q, int b.b, int b.s, int b.l, .gsl (Ints b.c) 0 b.c.length none, int b.sp, int b.pe, int b.th, bool b.em] := rfl
  rw [hcs] at hat hc
  clear hrl hrg
  cases hqb : q b with
  | true =>
    rw [hqb] at hc he
    simp only [if_true] at he
    rw [he]
    simp only [go_sem, zaa, zai, zaj, zak, zal, zae, ↓reduceIte, reduceCtorEq, zab, zad, zam, zan, zao, decide_eq_true hlt', hat]
    repeat' (first
    | with_reducible refine zaw ?_ ?_
    | (apply cl_plain
       case hs => rfl
       case ha => (simp only [zag, zah, prepV, prepC, idx, hpL', lookR, zaa, if_true, if_false]; rfl)
       case h => (first | exact hc ..))
    | ((first | refine s1_id ?_ | refine swp_id ?_ | refine sops_id ?_ | refine s2_id ?_); simp only [decide_eq_true hlt', hat, go_sem, zaa, zai, zaj, zak, zal, zae, ↓reduceIte, reduceCtorEq, zab, zad, zam, zan, zao, SV.ren, SV.renL, Cell.ren, Row.ren, renO, bk, back, outUpsFrom, Ints_ren])
    | (intros; omega)
    | exact fs_nil trivial rfl
    | fail)
  | false =>
    rw [hqb] at hc he
    simp only [zaK, if_false] at he
    simp only [go_sem, zaa, zai, zaj, zak, zal, zae, ↓reduceIte, reduceCtorEq, zab, zad, zam, zan, zao, decide_eq_true hlt', hat]
    repeat' (first
    | with_reducible refine zaw ?_ ?_
    | (apply cl_plain
       case hs => rfl
       case ha => (simp only [zag, zah, prepV, prepC, idx, hpL', lookR, zaa, if_true, if_false]; rfl)
       case h => (first | exact hc ..))
    | ((first | refine s1_id ?_ | refine swp_id ?_ | refine sops_id ?_ | refine s2_id ?_); simp only [decide_eq_true hlt', hat, go_sem, zaa, zai, zaj, zak, zal, zae, ↓reduceIte, reduceCtorEq, zab, zad, zam, zan, zao, SV.ren, SV.renL, Cell.ren, Row.ren, renO, bk, back, outUpsFrom, Ints_ren])
    | (intros; omega)
    | (intros; (try simp only [zau, zav, zat, zas, zap, zaq, decide_eq_true_eq, decide_eq_false_iff_not] at *); omega))
    refine le_mk (i + 1) ?_ ⟨by omega, he⟩ (by omega)
    (refine imp_sub _ _ _ [] (by simp) (by simp) (by simp) (zaL _) ?_ rfl (by simp); simp only [zac, zaf, false_implies, implies_true, and_true, lk, slot, SV.ren, Cell.ren, zaa, if_true, if_false, ↓reduceIte, reduceCtorEq])
    all_goals ((repeat' apply zaw) <;> (first | rfl | trivial | (simp only [zaA]; done) | (simp only [zaA]; rfl) | (simp only [zaA]; trivial)))
def usb (id s c : Int) (x : Pl) : Bool := decide (x.g = id) && (decide (x.s = s) && (decide ((x.c.length : Int) = c) && pck x))
set_option maxHeartbeats 4000000 in
theorem sync1_spec (x : Pl) (y : Nd) (s cp : Int) : FnSpec Try.prog 48 [.agg (Rec.cs x), .one (.gptr (ndc y) 0), .one (.gptr [int s] 0), .one (.gptr [int cp] 0)] [] (b1 (usb y.i s cp x)) [] := by
  show FnSpec Try.prog 48 [.agg (plc x none), .one (.gptr (ndc y) 0), .one (.gptr [int s] 0), .one (.gptr [int cp] 0)] [] (b1 (usb y.i s cp x)) []
  have h1 := check_spec x none
  unfold usb
  generalize pck x = P at *
  obtain ⟨a, b, c, d, e, f, g1, h1', i1', j1⟩ := x
  obtain ⟨yi, yp, yn, yc, yk, yo⟩ := y
  simp only [plc, plt, ndc] at h1 ⊢
  by_cases k0 : a = yi
  case neg =>
    rw [decide_eq_false k0]
    refine fnspec_of mixed TT_ok TT_cl ⟨fun _ => false, fun _ => [], 0, fun _ => false, fun _ => false⟩ Try.func48 rfl (by kernel_rfl) rfl 28 rfl [.tmp 5] rfl ?_
    simp only [go_sem, zaa, zai, zaj, zak, zal, zae, ↓reduceIte, reduceCtorEq, zab, zad, zam, zan, zao, decide_eq_false k0]
    repeat' (first
    | exact fs_nil trivial rfl
    | fail)
  by_cases k1 : d = s
  case neg =>
    rw [decide_eq_true k0, decide_eq_false k1]
    refine fnspec_of mixed TT_ok TT_cl ⟨fun _ => false, fun _ => [], 0, fun _ => false, fun _ => false⟩ Try.func48 rfl (by kernel_rfl) rfl 28 rfl [.tmp 5] rfl ?_
    simp only [go_sem, zaa, zai, zaj, zak, zal, zae, ↓reduceIte, reduceCtorEq, zab, zad, zam, zan, zao, decide_eq_true k0, decide_eq_false k1]
    repeat' (first
    | exact fs_nil trivial rfl
    | fail)
  by_cases k2 : (f.length : Int) = cp
  case neg =>
    rw [decide_eq_true k0, decide_eq_true k1, decide_eq_false k2]
    refine fnspec_of mixed TT_ok TT_cl ⟨fun _ => false, fun _ => [], 0, fun _ => false, fun _ => false⟩ Try.func48 rfl (by kernel_rfl) rfl 28 rfl [.tmp 5] rfl ?_
    simp only [go_sem, zaa, zai, zaj, zak, zal, zae, ↓reduceIte, reduceCtorEq, zab, zad, zam, zan, zao, decide_eq_true k0, decide_eq_true k1, decide_eq_false k2]
    repeat' (first
    | exact fs_nil trivial rfl
    | fail)
  rw [decide_eq_true k0, decide_eq_true k1, decide_eq_true k2, zaM, zaM, zaM]
  refine fnspec_of mixed TT_ok TT_cl ⟨fun _ => false, fun _ => [], 0, fun _ => false, fun _ => false⟩ Try.func48 rfl (by kernel_rfl) rfl 28 rfl [.tmp 5] rfl ?_
  simp only [go_sem, zaa, zai, zaj, zak, zal, zae, ↓reduceIte, reduceCtorEq, zab, zad, zam, zan, zao, decide_eq_true k0, decide_eq_true k1, decide_eq_true k2]
  repeat' (first
    | (apply cg_tp
       case hl => rfl
       case ha => (simp only [zag, zah, prepV, prepC, idx, hpL', lookR, zaa, if_true, if_false]; rfl)
       case hs => rfl
       case h => (first | exact h1 ..))
    | ((first | refine s1_id ?_ | refine swp_id ?_ | refine sops_id ?_ | refine s2_id ?_); simp only [decide_eq_true k0, decide_eq_true k1, decide_eq_true k2, zaF, zaG, zar, zaE, zaH, zaC, zaD, zaB, zaI, zaJ, zax, zay, go_sem, zaa, zai, zaj, zak, zal, zae, ↓reduceIte, reduceCtorEq, zab, zad, zam, zan, zao, SV.ren, SV.renL, Cell.ren, Row.ren, renO, bk, back, outUpsFrom, Ints_ren])
    | exact fs_nil trivial rfl
    | fail)
def syE (l : List Nd) (P : List Pl) (q b : List Int) (s c : Int) (i : Nat) : Pl × Int :=
  if ixR (usb (gN l i).i s c) P 0 < 0 then pnew (gN l i).i (q.getD i 0) (b.getD i 0) s c else pchange (gP P (ixR (usb (gN l i).i s c) P 0).toNat) (q.getD i 0) (b.getD i 0)
def syN (E : Nat → Pl × Int) (m : Nat) : List Pl := (List.range m).map fun i => (E i).1
def thSy (l : List Nd) (n : Int) (P : List Pl) (q b : List Int) (s c : Int) : List Pl × Int :=
  if (chkT l n && (decide (q.length = l.length) && decide (b.length = l.length))) = true then
    (if allN l.length (fun i => decide ((syE l P q b s c i).2 = 0)) = true then (syN (syE l P q b s c) l.length, 0) else ([], 3)) else ([], 1)
theorem syN_len (E : Nat → Pl × Int) (m : Nat) : (syN E m).length = m := by simp [syN]
theorem syN_suc (E : Nat → Pl × Int) (m : Nat) : syN E (m + 1) = syN E m ++ [(E m).1] := by simp [syN, List.range_succ]
theorem usb_iff {id s c : Int} {x : Pl} : usb id s c x = true ↔ x.g = id ∧ x.s = s ∧ (x.c.length : Int) = c ∧ pck x = true := by
  unfold usb
  simp only [zau, decide_eq_true_eq]
theorem syE_e (l : List Nd) (P : List Pl) (q b : List Int) (s c : Int) (i : Nat) : (syE l P q b s c i).2 = 0 ∨ (syE l P q b s c i).2 = 3 := by
  unfold syE
  split
  · exact pnew_e _ _ _ _ _
  · rename_i h
    rcases ixR_at (usb (gN l i).i s c) zpl P 0 with ⟨h1, _⟩ | ⟨k, h1, h2, h3, _⟩
    · omega
    · rw [Nat.zero_add] at h1
      rw [h1, Int.toNat_natCast]
      have := (usb_iff.1 h3).2.2.2
      unfold pchange
      rw [if_neg (by rw [show pck (gP P k) = true from this]; decide)]
      split <;> simp
set_option maxHeartbeats 16000000 in
theorem thsync_spec (l : List Nd) (n : Int) (P : List Pl) (k : Option Nat) (q b : List Int) (s cp : Int) (kq kb : Option Nat) (hl : l.length ≤ 1000000) (hP : P.length ≤ 1000000) (hq : q.length ≤ 9223372036854775807) (hb : b.length ≤ 9223372036854775807) (hnm : NmR l) (hct : CtR l) : FnSpec Try.prog 16 [trV l none n, gr P k, gi q kq, gi b kb, i1 s, i1 cp] [] (.tup [gr (thSy l n P q b s cp).1 none, i1 (thSy l n P q b s cp).2]) [] := by
  have h1 := tchk_spec l n hl hnm hct
  have hnl := nd_len l
  have hpl := pl_len P
  unfold thSy
  cases hk : chkT l n with
  | false =>
    rw [hk] at h1
    rw [Bool.false_and, if_neg Bool.false_ne_true]
    refine fnspec_of mixed TT_ok TT_cl ⟨fun _ => false, fun _ => [], 0, fun _ => false, fun _ => false⟩ Try.func16 rfl (by kernel_rfl) rfl 95 rfl [.tmp 12, .tmp 13] rfl ?_
    simp only [go_sem, zaa, zai, zaj, zak, zal, zae, ↓reduceIte, reduceCtorEq, zab, zad, zam, zan, zao]
    repeat' (first
    | (apply cl_plain
       case hs => rfl
       case ha => (simp only [zag, zah, prepV, prepC, idx, hpL', lookR, zaa, if_true, if_false]; rfl)
       case h => (first | exact h1 ..))
    | ((first | refine s1_id ?_ | refine swp_id ?_ | refine sops_id ?_ | refine s2_id ?_); simp only [go_sem, zaa, zai, zaj, zak, zal, zae, ↓reduceIte, reduceCtorEq, zab, zad, zam, zan, zao, SV.ren, SV.renL, Cell.ren, Row.ren, renO, bk, back, outUpsFrom, Ints_ren])
    | (intros; (try simp only [zau, zav, zat, zas, zap, zaq, decide_eq_true_eq, decide_eq_false_iff_not] at *); omega))
    repeat' (first
    | exact fs_w trivial (svw_of ⟨cw_gnil, cw_rfl _, trivial⟩)
    | fail)
  | true =>
  rw [hk] at h1
  rw [zaM]
  by_cases c1 : q.length = l.length
  case neg =>
    have c1' : ¬ (q.length : Int) = (l.length : Int) := by omega
    rw [decide_eq_false c1, Bool.false_and, if_neg Bool.false_ne_true]
    refine fnspec_of mixed TT_ok TT_cl ⟨fun _ => false, fun _ => [], 0, fun _ => false, fun _ => false⟩ Try.func16 rfl (by kernel_rfl) rfl 95 rfl [.tmp 12, .tmp 13] rfl ?_
    simp only [go_sem, zaa, zai, zaj, zak, zal, zae, ↓reduceIte, reduceCtorEq, zab, zad, zam, zan, zao, decide_eq_false c1']
    repeat' (first
    | (apply cl_plain
       case hs => rfl
       case ha => (simp only [zag, zah, prepV, prepC, idx, hpL', lookR, zaa, if_true, if_false]; rfl)
       case h => (first | exact h1 ..))
    | ((first | refine s1_id ?_ | refine swp_id ?_ | refine sops_id ?_ | refine s2_id ?_); simp only [decide_eq_false c1', go_sem, zaa, zai, zaj, zak, zal, zae, ↓reduceIte, reduceCtorEq, zab, zad, zam, zan, zao, SV.ren, SV.renL, Cell.ren, Row.ren, renO, bk, back, outUpsFrom, Ints_ren])
    | (intros; (try simp only [zau, zav, zat, zas, zap, zaq, decide_eq_true_eq, decide_eq_false_iff_not] at *); omega))
    repeat' (first
    | exact fs_w trivial (svw_of ⟨cw_gnil, cw_rfl _, trivial⟩)
    | fail)
  have c1' : (q.length : Int) = (l.length : Int) := by omega
  rw [decide_eq_true c1, zaM]
  by_cases c2 : b.length = l.length
  case neg =>
    have c2' : ¬ (b.length : Int) = (l.length : Int) := by omega
    rw [decide_eq_false c2, if_neg Bool.false_ne_true]
    refine fnspec_of mixed TT_ok TT_cl ⟨fun _ => false, fun _ => [], 0, fun _ => false, fun _ => false⟩ Try.func16 rfl (by kernel_rfl) rfl 95 rfl [.tmp 12, .tmp 13] rfl ?_
    simp only [go_sem, zaa, zai, zaj, zak, zal, zae, ↓reduceIte, reduceCtorEq, zab, zad, zam, zan, zao, decide_eq_true c1', decide_eq_false c2']
    repeat' (first
    | (apply cl_plain
       case hs => rfl
       case ha => (simp only [zag, zah, prepV, prepC, idx, hpL', lookR, zaa, if_true, if_false]; rfl)
       case h => (first | exact h1 ..))
    | ((first | refine s1_id ?_ | refine swp_id ?_ | refine sops_id ?_ | refine s2_id ?_); simp only [decide_eq_true c1', decide_eq_false c2', go_sem, zaa, zai, zaj, zak, zal, zae, ↓reduceIte, reduceCtorEq, zab, zad, zam, zan, zao, SV.ren, SV.renL, Cell.ren, Row.ren, renO, bk, back, outUpsFrom, Ints_ren])
    | (intros; (try simp only [zau, zav, zat, zas, zap, zaq, decide_eq_true_eq, decide_eq_false_iff_not] at *); omega))
    repeat' (first
    | exact fs_w trivial (svw_of ⟨cw_gnil, cw_rfl _, trivial⟩)
    | fail)
  have c2' : (b.length : Int) = (l.length : Int) := by omega
  rw [decide_eq_true c2, if_pos rfl]
  refine fnspec_of mixed TT_ok TT_cl ⟨fun _ => false, fun _ => [], 0 , fun _ => false, fun i => if i = 7 then true else false⟩ Try.func16 rfl (by kernel_rfl) rfl 95 rfl [.tmp 12, .tmp 13] rfl ?_
  simp only [go_sem, zaa, zai, zaj, zak, zal, zae, ↓reduceIte, reduceCtorEq, zab, zad, zam, zan, zao, decide_eq_true c1', decide_eq_true c2']
  repeat' (first
    | (apply cl_plain
       case hs => rfl
       case ha => (simp only [zag, zah, prepV, prepC, idx, hpL', lookR, zaa, if_true, if_false]; rfl)
       case h => (first | exact h1 ..))
    | ((first | refine s1_id ?_ | refine swp_id ?_ | refine sops_id ?_ | refine s2_id ?_); simp only [decide_eq_true c1', decide_eq_true c2', go_sem, zaa, zai, zaj, zak, zal, zae, ↓reduceIte, reduceCtorEq, zab, zad, zam, zan, zao, SV.ren, SV.renL, Cell.ren, Row.ren, renO, bk, back, outUpsFrom, Ints_ren])
    | (intros; (try simp only [zau, zav, zat, zas, zap, zaq, decide_eq_true_eq, decide_eq_false_iff_not] at *); omega))
  refine w_loop (ι := Nat) (fun m => ⟨[(1, gr P k), (2, gi q kq), (3, gi b kb), (10, .one (.gptr [int s] 0)), (11, .one (.gptr [int cp] 0)), (14, .one (.osl 0 0 m none)), (41, gr l none), (42, i1 l.length), (43, i1 m)], [(0, some ⟨Cs (syN (syE l P q b s cp) m), 10⟩)], 1⟩) (fun m => m ≤ l.length ∧ ∀ i, i < m → (syE l P q b s cp i).2 = 0) (fun m => l.length - m) 0 ?_ ⟨zaL _, fun i hi => absurd hi (Nat.not_lt_zero _)⟩ ?_
  · (refine Imp.trans (imp_frz _ _ 1 ⟨[int s], 1⟩ (by simp only [St.hpF, lookR, zaa, if_true, if_false, ↓reduceIte]) (by first | exact Ints_isG _ | exact Bools_isG _ | exact Cs_isG _ | (simp [Cell.isG]; done))) ?_; simp only [frzTm, SV.frz, SV.frzL, Cell.frz, frzHp, frzO, Ints_frz, Bools_frz, zag, zah, zaa, if_true, if_false, ↓reduceIte])
    (refine Imp.trans (imp_frz _ _ 2 ⟨[int cp], 1⟩ (by simp only [St.hpF, lookR, zaa, if_true, if_false, ↓reduceIte]) (by first | exact Ints_isG _ | exact Bools_isG _ | exact Cs_isG _ | (simp [Cell.isG]; done))) ?_; simp only [frzTm, SV.frz, SV.frzL, Cell.frz, frzHp, frzO, Ints_frz, Bools_frz, zag, zah, zaa, if_true, if_false, ↓reduceIte])
    (refine Imp.trans (imp_nilA _ _ 14 10 99 (by simp only []; omega) rfl) ?_)
    (refine imp_ren _ _ _ [(0, 99, ⟨[], 10⟩)] (by simp) (by simp) (by simp) (zaz rfl) ?_ rfl (by simp only [zac, zaf, false_implies, implies_true, and_true, St.hpF, lookR, zaa, if_true, if_false, ↓reduceIte] <;> (repeat' apply zaw) <;> (first | rfl | trivial)) (by simp only [zac, zaf, false_implies, implies_true, and_true, true_and, flat_cons, flat_nil, flat_ints, flat_bools, flat_app, Cell.refs, and_self, eq_self_iff_true, zar]); simp only [zag, zah, zac, zaf, false_implies, implies_true, and_true, lk, slot, SV.ren, Cell.ren, toN, zaa, if_true, if_false, ↓reduceIte, reduceCtorEq])
    all_goals ((repeat' apply zaw) <;> (first | rfl | trivial))
  clear h1
  rintro m ⟨hm, hI⟩
  simp only at hm hI ⊢
  rcases Nat.lt_or_ge m l.length with hlt | hge
  case inr =>
    have c : ¬ (m : Int) < (l.length : Int) := by omega
    obtain rfl : m = l.length := by omega
    rw [if_pos ((allN_iff _ _).2 fun i hi => decide_eq_true (hI i hi))]
    have hRl := syN_len (syE l P q b s cp) l.length
    generalize syN (syE l P q b s cp) l.length = R at *
    simp only [go_sem, zaa, zai, zaj, zak, zal, zae, ↓reduceIte, reduceCtorEq, zab, zad, zam, zan, zao, decide_eq_false c]
    repeat' (first
    | (intros; (try simp only [zau, zav, zat, zas, zap, zaq, decide_eq_true_eq, decide_eq_false_iff_not] at *); omega))
    (refine fs_frz 0 ⟨Cs R, 10⟩ (by simp only [St.hpF, lookR, zaa, if_true, if_false, ↓reduceIte]) (by first | exact Ints_isG _ | exact Bools_isG _ | exact Cs_isG _ | (simp [Cell.isG]; done)) ?_; simp only [frzTm, SV.frz, SV.frzL, Cell.frz, frzHp, frzO, Ints_frz, Bools_frz, zag, zah, zaa, if_true, if_false, ↓reduceIte])
    apply fs_nil <;> (try simp only [go_sem, resV, resS, SV.ren, SV.renL, Cell.ren, St.tmF, St.hpF, idx, renO, Row.ren, evS, slot, lookR, zaa, ↓reduceIte, reduceCtorEq, if_true, if_false, Option.getD_some, Option.getD_none, zag, zah, sLoad, readAt, readNeed, Ints_ren, Ints_length, Ints_getD, and_true, true_and, List.getD_cons_zero, List.getD_cons_succ]) <;> (try rfl)
    show SV.tup [.one (.gsl (Cs R) 0 l.length none), i1 0] = SV.tup [.one (.gsl (Cs R) 0 R.length none), i1 0]
    rw [hRl]
  have c : (m : Int) < (l.length : Int) := by omega
  have hT := nd_td l m hlt
  have hee : syE l P q b s cp m = if ixR (usb (gN l m).i s cp) P 0 < 0 then pnew (gN l m).i (q.getD m 0) (b.getD m 0) s cp else pchange (gP P (ixR (usb (gN l m).i s cp) P 0).toNat) (q.getD m 0) (b.getD m 0) := rfl
  have he3 := syE_e l P q b s cp m
  have hsu := syN_suc (syE l P q b s cp) m
  have hno : (syE l P q b s cp m).2 ≠ 0 → allN l.length (fun i => decide ((syE l P q b s cp i).2 = 0)) = false := fun hf => Bool.eq_false_iff.2 fun h => hf (of_decide_eq_true ((allN_iff _ _).1 h m hlt))
  have hcq : (m : Int) < (q.length : Int) := by omega
  have hcb : (m : Int) < (b.length : Int) := by omega
  have hix := pl3_ix 48 (ndc (gN l m)) [int s] [int cp] (usb (gN l m).i s cp) P (fun x _ => sync1_spec x (gN l m) s cp) k (by omega)
  have h2 := new_spec (gN l m).i (q.getD m 0) (b.getD m 0) s cp
  have hll := syN_len (syE l P q b s cp) m
  have htk : List.take (m * 10) (Cs (syN (syE l P q b s cp) m)) = Cs (syN (syE l P q b s cp) m) := Cs_all _ _ (by rw [hll]; exact Nat.le_refl _)
  have hpc := pl_len (syN (syE l P q b s cp) m)
  rw [hll] at hpc
  have hI2 : (syE l P q b s cp m).2 = 0 → ∀ i, i < m + 1 → (syE l P q b s cp i).2 = 0 := fun h0 i hi => by
    rcases Nat.lt_succ_iff_lt_or_eq.1 hi with h | h
    · exact hI i h
    · rw [h]; exact h0
  rcases ixR_at (usb (gN l m).i s cp) zpl P 0 with ⟨e1, _⟩ | ⟨t, e1, ht, _, _⟩
  · rw [e1, if_pos (by omega)] at hee
    rw [e1] at hix
    rw [← hee] at h2
    generalize hE : syE l P q b s cp = E at *
    generalize hr : E m = r at *
    obtain ⟨⟨s0, s1, s2, s3, s4, s5, s6, s7, s8, s9⟩, r2⟩ := r
    simp only at he3 hno hsu
    simp only [plc, plt, pre] at h2
    generalize gN l m = y at *
    obtain ⟨yi, yp, yn, yc, yk, yo⟩ := y
    simp only [ndc] at hT hix
    simp only at h2
    clear hee
    by_cases k0 : r2 = 0
    case neg =>
      obtain rfl : r2 = 3 := by omega
      rw [hno (by decide)]
      simp only [zaK, if_false, go_sem, zaa, zai, zaj, zak, zal, zae, ↓reduceIte, reduceCtorEq, zab, zad, zam, zan, zao, decide_eq_true c, hT]
      repeat' (first
    | with_reducible refine zaw ?_ ?_
    | (intros; omega)
    | (intros; (try simp only [zau, zav, zat, zas, zap, zaq, decide_eq_true_eq, decide_eq_false_iff_not] at *); omega))
      (refine rgf_t _ (imp_frz _ _ 5 ⟨[int yi, int yp, st yn, int yc, int yk, int yo], 6⟩ (by simp only [St.hpF, lookR, zaa, if_true, if_false, ↓reduceIte]) (by first | exact Ints_isG _ | exact Bools_isG _ | exact Cs_isG _ | (simp [Cell.isG]; done))) ?_; simp only [frzTm, SV.frz, SV.frzL, Cell.frz, frzHp, frzO, Ints_frz, Bools_frz, zag, zah, zaa, if_true, if_false, ↓reduceIte])
      simp only [go_sem, zaa, zai, zaj, zak, zal, zae, ↓reduceIte, reduceCtorEq, zab, zad, zam, zan, zao]
      repeat' (first
    | with_reducible refine zaw ?_ ?_
    | (unfold OKC; kernel_rfl)
    | (unfold EDG; kernel_rfl)
    | (apply cl_plain
       case hs => rfl
       case ha => (simp only [zag, zah, prepV, prepC, idx, hpL', lookR, zaa, if_true, if_false]; rfl)
       case h => (first | exact hix .. | exact h2 ..))
    | ((first | refine s1_id ?_ | refine swp_id ?_ | refine sops_id ?_ | refine s2_id ?_); simp only [zaF, zaG, zar, zaE, zaH, zaC, zaD, zaB, zaI, zaJ, zax, zay, go_sem, zaa, zai, zaj, zak, zal, zae, ↓reduceIte, reduceCtorEq, zab, zad, zam, zan, zao, SV.ren, SV.renL, Cell.ren, Row.ren, renO, bk, back, outUpsFrom, Ints_ren])
    | (intros; omega)
    | (intros; (try simp only [zau, zav, zat, zas, zap, zaq, decide_eq_true_eq, decide_eq_false_iff_not] at *); omega))
      repeat' (first
    | exact fs_w trivial (svw_of ⟨cw_gnil, cw_rfl _, trivial⟩)
    | fail)
    subst k0
    have hpp : Cs (syN E m) ++ [int s0, int s1, int s2, int s3, int s4, .gsl (Ints s5) 0 s5.length none, int s6, int s7, int s8, .sc (.bool s9)] = Cs (syN E (m + 1)) := by
      rw [hsu]; exact Cs_snoc _ (⟨s0, s1, s2, s3, s4, s5, s6, s7, s8, s9⟩ : Pl)
    generalize syN E m = C at *
    simp only [go_sem, zaa, zai, zaj, zak, zal, zae, ↓reduceIte, reduceCtorEq, zab, zad, zam, zan, zao, decide_eq_true c, hT]
    repeat' (first
    | with_reducible refine zaw ?_ ?_
    | (intros; omega)
    | (intros; (try simp only [zau, zav, zat, zas, zap, zaq, decide_eq_true_eq, decide_eq_false_iff_not] at *); omega))
    (refine rgf_t _ (imp_frz _ _ 5 ⟨[int yi, int yp, st yn, int yc, int yk, int yo], 6⟩ (by simp only [St.hpF, lookR, zaa, if_true, if_false, ↓reduceIte]) (by first | exact Ints_isG _ | exact Bools_isG _ | exact Cs_isG _ | (simp [Cell.isG]; done))) ?_; simp only [frzTm, SV.frz, SV.frzL, Cell.frz, frzHp, frzO, Ints_frz, Bools_frz, zag, zah, zaa, if_true, if_false, ↓reduceIte])
    simp only [go_sem, zaa, zai, zaj, zak, zal, zae, ↓reduceIte, reduceCtorEq, zab, zad, zam, zan, zao]
    repeat' (first
    | with_reducible refine zaw ?_ ?_
    | (unfold OKC; kernel_rfl)
    | (unfold EDG; kernel_rfl)
    | (apply cl_plain
       case hs => rfl
       case ha => (simp only [zag, zah, prepV, prepC, idx, hpL', lookR, zaa, if_true, if_false]; rfl)
       case h => (first | exact hix .. | exact h2 ..))
    | ((first | refine s1_id ?_ | refine swp_id ?_ | refine sops_id ?_ | refine s2_id ?_); simp only [htk, hpp, zaF, zaG, zar, zaE, zaH, zaC, zaD, zaB, zaI, zaJ, zax, zay, go_sem, zaa, zai, zaj, zak, zal, zae, ↓reduceIte, reduceCtorEq, zab, zad, zam, zan, zao, SV.ren, SV.renL, Cell.ren, Row.ren, renO, bk, back, outUpsFrom, Ints_ren])
    | (intros; omega)
    | (intros; (try simp only [zau, zav, zat, zas, zap, zaq, decide_eq_true_eq, decide_eq_false_iff_not] at *); omega))
    refine le_mk (m + 1) ?_ ⟨hlt, hI2 rfl⟩ (by omega)
    (refine imp_ren _ _ _ [(0, 41, ⟨Cs (syN E (m + 1)), 10⟩)] (by simp) (by simp) (by simp) (zaz rfl) ?_ rfl (by simp only [zac, zaf, false_implies, implies_true, and_true, St.hpF, lookR, zaa, if_true, if_false, ↓reduceIte, Cs_flat] <;> (repeat' apply zaw) <;> (first | rfl | trivial)) (by simp only [zac, zaf, false_implies, implies_true, and_true, true_and, flat_cons, flat_nil, flat_ints, flat_bools, flat_app, Cell.refs, and_self, eq_self_iff_true, zar, Cs_flat]); simp only [zag, zah, zac, zaf, false_implies, implies_true, and_true, lk, slot, SV.ren, Cell.ren, toN, zaa, if_true, if_false, ↓reduceIte, reduceCtorEq])
    all_goals ((repeat' apply zaw) <;> (first | rfl | trivial | (simp only [zaA]; done) | (simp only [zaA]; rfl) | (simp only [zaA]; trivial)))
  · rw [Nat.zero_add] at e1
    rw [e1, if_neg (by omega), Int.toNat_natCast] at hee
    rw [e1] at hix
    have h5 := change_spec (gP P t) none (q.getD m 0) (b.getD m 0)
    rw [← hee] at h5
    have hTt := pl_td P t ht
    have ct : ¬ (t : Int) < 0 := by omega
    generalize hE : syE l P q b s cp = E at *
    generalize hr : E m = r at *
    obtain ⟨⟨s0, s1, s2, s3, s4, s5, s6, s7, s8, s9⟩, r2⟩ := r
    simp only at he3 hno hsu
    generalize gN l m = y at *
    obtain ⟨yi, yp, yn, yc, yk, yo⟩ := y
    generalize gP P t = x at *
    obtain ⟨a0, a1, a2, a3, a4, a5, a6, a7, a8, a9⟩ := x
    simp only [plc, plt, pre] at h5 hTt
    simp only [ndc] at hT hix
    clear hee h2
    by_cases k0 : r2 = 0
    case neg =>
      obtain rfl : r2 = 3 := by omega
      rw [hno (by decide)]
      simp only [zaK, if_false, go_sem, zaa, zai, zaj, zak, zal, zae, ↓reduceIte, reduceCtorEq, zab, zad, zam, zan, zao, decide_eq_true c, hT]
      repeat' (first
    | with_reducible refine zaw ?_ ?_
    | (intros; omega)
    | (intros; (try simp only [zau, zav, zat, zas, zap, zaq, decide_eq_true_eq, decide_eq_false_iff_not] at *); omega))
      (refine rgf_t _ (imp_frz _ _ 5 ⟨[int yi, int yp, st yn, int yc, int yk, int yo], 6⟩ (by simp only [St.hpF, lookR, zaa, if_true, if_false, ↓reduceIte]) (by first | exact Ints_isG _ | exact Bools_isG _ | exact Cs_isG _ | (simp [Cell.isG]; done))) ?_; simp only [frzTm, SV.frz, SV.frzL, Cell.frz, frzHp, frzO, Ints_frz, Bools_frz, zag, zah, zaa, if_true, if_false, ↓reduceIte])
      simp only [go_sem, zaa, zai, zaj, zak, zal, zae, ↓reduceIte, reduceCtorEq, zab, zad, zam, zan, zao, decide_eq_false ct, hTt]
      repeat' (first
    | with_reducible refine zaw ?_ ?_
    | (unfold OKC; kernel_rfl)
    | (unfold EDG; kernel_rfl)
    | (apply cl_plain
       case hs => rfl
       case ha => (simp only [zag, zah, prepV, prepC, idx, hpL', lookR, zaa, if_true, if_false]; rfl)
       case h => (first | exact hix .. | exact h5 ..))
    | ((first | refine s1_id ?_ | refine swp_id ?_ | refine sops_id ?_ | refine s2_id ?_); simp only [decide_eq_false ct, hTt, zaF, zaG, zar, zaE, zaH, zaC, zaD, zaB, zaI, zaJ, zax, zay, go_sem, zaa, zai, zaj, zak, zal, zae, ↓reduceIte, reduceCtorEq, zab, zad, zam, zan, zao, SV.ren, SV.renL, Cell.ren, Row.ren, renO, bk, back, outUpsFrom, Ints_ren])
    | (intros; omega)
    | (intros; (try simp only [zau, zav, zat, zas, zap, zaq, decide_eq_true_eq, decide_eq_false_iff_not] at *); omega))
      repeat' (first
    | exact fs_w trivial (svw_of ⟨cw_gnil, cw_rfl _, trivial⟩)
    | fail)
    subst k0
    have hpp : Cs (syN E m) ++ [int s0, int s1, int s2, int s3, int s4, .gsl (Ints s5) 0 s5.length none, int s6, int s7, int s8, .sc (.bool s9)] = Cs (syN E (m + 1)) := by
      rw [hsu]; exact Cs_snoc _ (⟨s0, s1, s2, s3, s4, s5, s6, s7, s8, s9⟩ : Pl)
    generalize syN E m = C at *
    simp only [go_sem, zaa, zai, zaj, zak, zal, zae, ↓reduceIte, reduceCtorEq, zab, zad, zam, zan, zao, decide_eq_true c, hT]
    repeat' (first
    | with_reducible refine zaw ?_ ?_
    | (intros; omega)
    | (intros; (try simp only [zau, zav, zat, zas, zap, zaq, decide_eq_true_eq, decide_eq_false_iff_not] at *); omega))
    (refine rgf_t _ (imp_frz _ _ 5 ⟨[int yi, int yp, st yn, int yc, int yk, int yo], 6⟩ (by simp only [St.hpF, lookR, zaa, if_true, if_false, ↓reduceIte]) (by first | exact Ints_isG _ | exact Bools_isG _ | exact Cs_isG _ | (simp [Cell.isG]; done))) ?_; simp only [frzTm, SV.frz, SV.frzL, Cell.frz, frzHp, frzO, Ints_frz, Bools_frz, zag, zah, zaa, if_true, if_false, ↓reduceIte])
    simp only [go_sem, zaa, zai, zaj, zak, zal, zae, ↓reduceIte, reduceCtorEq, zab, zad, zam, zan, zao, decide_eq_false ct, hTt]
    repeat' (first
    | with_reducible refine zaw ?_ ?_
    | (unfold OKC; kernel_rfl)
    | (unfold EDG; kernel_rfl)
    | (apply cl_plain
       case hs => rfl
       case ha => (simp only [zag, zah, prepV, prepC, idx, hpL', lookR, zaa, if_true, if_false]; rfl)
       case h => (first | exact hix .. | exact h5 ..))
    | ((first | refine s1_id ?_ | refine swp_id ?_ | refine sops_id ?_ | refine s2_id ?_); simp only [decide_eq_false ct, hTt, htk, hpp, zaF, zaG, zar, zaE, zaH, zaC, zaD, zaB, zaI, zaJ, zax, zay, go_sem, zaa, zai, zaj, zak, zal, zae, ↓reduceIte, reduceCtorEq, zab, zad, zam, zan, zao, SV.ren, SV.renL, Cell.ren, Row.ren, renO, bk, back, outUpsFrom, Ints_ren])
    | (intros; omega)
    | (intros; (try simp only [zau, zav, zat, zas, zap, zaq, decide_eq_true_eq, decide_eq_false_iff_not] at *); omega))
    refine le_mk (m + 1) ?_ ⟨hlt, hI2 rfl⟩ (by omega)
    (refine imp_ren _ _ _ [(0, 41, ⟨Cs (syN E (m + 1)), 10⟩)] (by simp) (by simp) (by simp) (zaz rfl) ?_ rfl (by simp only [zac, zaf, false_implies, implies_true, and_true, St.hpF, lookR, zaa, if_true, if_false, ↓reduceIte, Cs_flat] <;> (repeat' apply zaw) <;> (first | rfl | trivial)) (by simp only [zac, zaf, false_implies, implies_true, and_true, true_and, flat_cons, flat_nil, flat_ints, flat_bools, flat_app, Cell.refs, and_self, eq_self_iff_true, zar, Cs_flat]); simp only [zag, zah, zac, zaf, false_implies, implies_true, and_true, lk, slot, SV.ren, Cell.ren, toN, zaa, if_true, if_false, ↓reduceIte, reduceCtorEq])
    all_goals ((repeat' apply zaw) <;> (first | rfl | trivial | (simp only [zaA]; done) | (simp only [zaA]; rfl) | (simp only [zaA]; trivial)))
theorem thnew_spec (l : List Nd) (n : Int) (q b : List Int) (s cp : Int) (kq kb : Option Nat) (hl : l.length ≤ 1000000) (hq : q.length ≤ 9223372036854775807) (hb : b.length ≤ 9223372036854775807) (hnm : NmR l) (hct : CtR l) : FnSpec Try.prog 33 [trV l none n, gi q kq, gi b kb, i1 s, i1 cp] [] (.tup [gr (thSy l n [] q b s cp).1 none, i1 (thSy l n [] q b s cp).2]) [] := by
  have h1 : FnSpec Try.prog 16 [trV l none n, .one (.sc (.slice none 0 0)), gi q kq, gi b kb, i1 s, i1 cp] [] (.tup [gr (thSy l n [] q b s cp).1 none, i1 (thSy l n [] q b s cp).2]) [] := (thsync_spec l n [] none q b s cp kq kb hl (by decide) hq hb hnm hct).pre ⟨⟨cw_rfl _, cw_rfl _, trivial⟩, cw_gnil, cw_rfl _, cw_rfl _, cw_rfl _, cw_rfl _, trivial⟩
  generalize thSy l n [] q b s cp = r at *
  refine fnspec_of mixed TT_ok TT_cl ⟨fun _ => false, fun _ => [], 0, fun _ => false, fun _ => false⟩ Try.func33 rfl (by kernel_rfl) rfl 20 rfl [.tmp 10, .tmp 11] rfl ?_
  simp only [go_sem, zaa, zai, zaj, zak, zal, zae, ↓reduceIte, reduceCtorEq, zab, zad, zam, zan, zao]
  repeat' (first
    | (apply cl_plain
       case hs => rfl
       case ha => (simp only [zag, zah, prepV, prepC, idx, hpL', lookR, zaa, if_true, if_false]; rfl)
       case h => (first | exact h1 ..))
    | ((first | refine s1_id ?_ | refine swp_id ?_ | refine sops_id ?_ | refine s2_id ?_); simp only [go_sem, zaa, zai, zaj, zak, zal, zae, ↓reduceIte, reduceCtorEq, zab, zad, zam, zan, zao, SV.ren, SV.renL, Cell.ren, Row.ren, renO, bk, back, outUpsFrom, Ints_ren])
    | exact fs_nil trivial rfl
    | fail)
end Go.Proofs.Ytcnilpdlcmpbbaa
-- NEWGO
-- PRUNE: cl_lendx
-- ISG: Cs_isG
-- FLAT: Cs_flat
namespace Go.Proofs.Ytcnilpdlcmpbbaa
set_option linter.unusedVariables false
set_option linter.unusedSimpArgs false
open Go.Proofs.Ytcnilpdlcmpbbaa.Sh
set_option maxRecDepth 20000
theorem VT.ctr {l : List Nd} {n : Int} (h : VT l n) : CtR l := fun x hx => by
  have := (h.vl.all x hx).2
  unfold rngOk at this
  simp only [zau, decide_eq_true_eq] at this
  omega
abbrev xT : List Nd := [⟨1, 0, [], 0, 0, 0⟩, ⟨2, 1, [97], 0, 0, 0⟩, ⟨3, 2, [98], 0, 0, 0⟩, ⟨4, 2, [99], 0, 0, 0⟩]
abbrev xQ : List Int := [4611686018427387904, 2, 4611686018427387904, 4611686018427387904]
def xP0 : List Pl := (thSy xT 5 [] xQ [0, 0, 0, 0] 1 1).1
def xP1 : List Pl := (thSp xT 5 xP0 3 0).1
def xP2 : List Pl := (thSp xT 5 xP1 4 0).1
set_option maxHeartbeats 4000000 in
theorem thsane_spec : FnSpec Try.prog 7 [] [] (b1 true) [] := by
  have hN : NmR xT := fun x hx => by simp only [zaN, zaf, or_false] at hx; rcases hx with rfl | rfl | rfl | rfl <;> decide
  have hC : CtR xT := fun x hx => by simp only [zaN, zaf, or_false] at hx; rcases hx with rfl | rfl | rfl | rfl <;> decide
  have a1 := radd_spec [⟨1, 0, [], 0, 0, 0⟩] none 2 1 [97] (by decide) (fun x hx => by rw [List.mem_singleton.1 hx]; decide) (by decide)
  have e1 : addM [⟨1, 0, [], 0, 0, 0⟩] 2 1 [97] = (([⟨1, 0, [], 0, 0, 0⟩, ⟨2, 1, [97], 0, 0, 0⟩], 3), 2, 0) := by kernel_rfl
  rw [e1] at a1
  have a2 := radd_spec [⟨1, 0, [], 0, 0, 0⟩, ⟨2, 1, [97], 0, 0, 0⟩] none 3 2 [98] (by decide) (fun x hx => by simp only [zaN, zaf, or_false] at hx; rcases hx with rfl | rfl <;> decide) (by decide)
  have e2 : addM [⟨1, 0, [], 0, 0, 0⟩, ⟨2, 1, [97], 0, 0, 0⟩] 3 2 [98] = (([⟨1, 0, [], 0, 0, 0⟩, ⟨2, 1, [97], 0, 0, 0⟩, ⟨3, 2, [98], 0, 0, 0⟩], 4), 3, 0) := by kernel_rfl
  rw [e2] at a2
  have a3 := radd_spec [⟨1, 0, [], 0, 0, 0⟩, ⟨2, 1, [97], 0, 0, 0⟩, ⟨3, 2, [98], 0, 0, 0⟩] none 4 2 [99] (by decide) (fun x hx => by simp only [zaN, zaf, or_false] at hx; rcases hx with rfl | rfl | rfl <;> decide) (by decide)
  have e3 : addM [⟨1, 0, [], 0, 0, 0⟩, ⟨2, 1, [97], 0, 0, 0⟩, ⟨3, 2, [98], 0, 0, 0⟩] 4 2 [99] = ((xT, 5), 4, 0) := by kernel_rfl
  rw [e3] at a3
  have b0 := thnew_spec xT 5 xQ [0, 0, 0, 0] 1 1 (some 4) (some 4) (by decide) (by decide) (by decide) hN hC
  have f0 : (thSy xT 5 [] xQ [0, 0, 0, 0] 1 1).2 = 0 := by kernel_rfl
  rw [f0, show (thSy xT 5 [] xQ [0, 0, 0, 0] 1 1).1 = xP0 from rfl] at b0
  have b0' : FnSpec Try.prog 33 [trV xT none 5, .one (.gsl (Ints [4611686018427387904, 2, 4611686018427387904, 4611686018427387904]) 0 4 (some 4)), .one (.gsl (Ints [0, 0, 0, 0]) 0 4 (some 4)), i1 1, i1 1] [] (.tup [gr xP0 none, i1 0]) [] := b0
  have l0 : xP0.length ≤ 1000000 := by decide +kernel
  have b1' := thspend_spec xT 5 xP0 none 3 0 (by decide) l0 hN hC
  have f1 : (thSp xT 5 xP0 3 0).2 = 0 := by kernel_rfl
  rw [f1, show (thSp xT 5 xP0 3 0).1 = xP1 from rfl] at b1'
  have l1 : xP1.length ≤ 1000000 := by decide +kernel
  have b2 := thspend_spec xT 5 xP1 none 4 0 (by decide) l1 hN hC
  have f2 : (thSp xT 5 xP1 4 0).2 = 0 := by kernel_rfl
  rw [f2, show (thSp xT 5 xP1 4 0).1 = xP2 from rfl] at b2
  have l2 : xP2.length ≤ 1000000 := by decide +kernel
  have b3 := thspend_spec xT 5 xP2 none 3 0 (by decide) l2 hN hC
  have f3 : (thSp xT 5 xP2 3 0).2 = 11 := by kernel_rfl
  rw [f3] at b3
  have b4 := thblk_spec xT 5 xP2 none 4 0 (by decide) l2 hN hC
  have f4 : bkF xP2 0 (wayM xT 5 xP2 4) = (2, true) := by kernel_rfl
  rw [f4] at b4
  have b4' : FnSpec Try.prog 24 [trV xT none 5, gr xP2 none, i1 4, i1 0] [] (.tup [i1 2, b1 true]) [] := b4
  clear b0 b4 f0 f1 f2 f3 f4 hN hC l0 l1 l2 e1 e2 e3
  simp only [adV] at a1 a2 a3
  generalize (thSp xT 5 xP2 3 0).1 = P3 at *
  generalize xP2 = P2 at *
  generalize xP1 = P1 at *
  generalize xP0 = P0 at *
  generalize xT = T3 at *
  obtain ⟨T2, hT2⟩ : ∃ T : List Nd, [⟨1, 0, [], 0, 0, 0⟩, ⟨2, 1, [97], 0, 0, 0⟩, ⟨3, 2, [98], 0, 0, 0⟩] = T := ⟨_, rfl⟩
  rw [hT2] at a2 a3
  obtain ⟨T1, hT1⟩ : ∃ T : List Nd, [⟨1, 0, [], 0, 0, 0⟩, ⟨2, 1, [97], 0, 0, 0⟩] = T := ⟨_, rfl⟩
  rw [hT1] at a1 a2
  clear hT1 hT2
  refine fnspec_of mixed TT_ok TT_cl ⟨fun _ => false, fun _ => [], 0, fun _ => false, fun _ => false⟩ Try.func7 rfl (by kernel_rfl) rfl 93 rfl [.tmp 0] rfl ?_
  simp only [go_sem, zaa, zai, zaj, zak, zal, zae, ↓reduceIte, reduceCtorEq, zab, zad, zam, zan, zao]
  repeat' (first
    | (apply cl_plain
       case hs => rfl
       case ha => (simp only [zag, zah, prepV, prepC, idx, hpL', lookR, zaa, if_true, if_false]; rfl)
       case h => (first | exact trnew_spec .. | exact a1 .. | exact a2 .. | exact a3 .. | exact b0' .. | exact b1' .. | exact b2 .. | exact b3 .. | exact b4' ..))
    | (apply cl_use
       case hr => (simp only [zag, zah, hpL', lookR, zaa, if_true, if_false]; first | exact map0 | exact map1 _ | exact map2 _ _ | exact map3 _ _ _)
       case ha => (simp only [zag, zah, prepV, prepC, idx, hpL', lookR, zaa, if_true, if_false]; rfl)
       case hs => (simp only [snaps, SV.refs, Cell.refs, idx, List.flatMap_cons, List.flatMap_nil, zaH, zaE, zar, List.filter_cons, List.filter_nil, zaa, if_true, if_false, Option.isNone_none, Option.isNone_some, zaK, reduceCtorEq, ↓reduceIte]; rfl)
       case hn => decide
       case h => (first | exact trnew_spec .. | exact a1 .. | exact a2 .. | exact a3 .. | exact b0' .. | exact b1' .. | exact b2 .. | exact b3 .. | exact b4' ..)
       case hf => (simp only [zac, zaf, false_implies, implies_true, and_true, true_and, flat_cons, flat_nil, flat_ints, flat_bools, flat_app, Cs_flat, Cell.refs, and_self, eq_self_iff_true, zar])
       case hg => ((simp [hpL', lookR, Cell.isG]) <;> (repeat' apply zaw) <;> (first | exact Ints_isG _ | exact Cs_isG _))
       case hl => (simp only [zax, zay]; decide))
    | ((first | refine s1_id ?_ | refine swp_id ?_ | refine sops_id ?_ | refine s2_id ?_); simp only [zaF, zaG, zar, zaE, zaH, zaC, zaD, zaB, zaI, zaJ, zax, zay, go_sem, zaa, zai, zaj, zak, zal, zae, ↓reduceIte, reduceCtorEq, zab, zad, zam, zan, zao, SV.ren, SV.renL, Cell.ren, Row.ren, renO, bk, back, outUpsFrom, Ints_ren])
    | exact fs_nil trivial rfl
    | fail)
end Go.Proofs.Ytcnilpdlcmpbbaa
-- NEWGO
-- PRUNE: cl_lendx cl_use
-- ISG: Cs_isG
-- FLAT: Cs_flat
namespace Go.Proofs.Ytcnilpdlcmpbbaa
set_option linter.unusedVariables false
set_option linter.unusedSimpArgs false
open Go.Proofs.Ytcnilpdlcmpbbaa.Sh
set_option maxRecDepth 20000
structure Rd (x : Pl) : Prop where
  sm : SmP x
  wk : Wk x
  l0 : 0 < x.c.length
  l1 : x.c.length ≤ 1000
theorem rd_of {x : Pl} (h : pck x = true) : Rd x := ⟨smp_of h, wk_of h, by have := (nums h).len; omega, pck_len h⟩
theorem odM_rd {l : List Nd} {n c : Int} {P : List Pl} (hP : Pv l n P c) (t : Nat) (v : Int) (ht : t < P.length) : (odM P t v).length ≤ P.length ∧ ∀ x ∈ odM P t v, Rd x := by
  have h := hP.pck ht
  have h1 := smp_of h
  have h2 := wk_of h
  have h3 := (nums h).len
  have hset : ∀ y : Pl, Rd y → ∀ x ∈ P.set t y, Rd x := fun y hy x hx => by
    rcases List.mem_or_eq_of_mem_set hx with hx | rfl
    · exact rd_of (hP.all x hx)
    · exact hy
  unfold odM
  repeat' split
  · exact ⟨by rw [List.length_set]; exact Nat.le_refl _, hset _ ⟨⟨h1.hb, h1.hb0, h1.hp, h1.hlen⟩, ⟨h2.b, h2.pe, h2.len⟩, by simp only; omega, by simp only; omega⟩⟩
  · exact ⟨by rw [List.length_drop]; omega, fun x hx => rd_of (hP.all x (List.mem_of_mem_drop hx))⟩
  · exact ⟨by rw [List.length_set]; exact Nat.le_refl _, hset _ ⟨⟨h1.hb, h1.hb0, h1.hp, h1.hlen⟩, ⟨h2.b, h2.pe, h2.len⟩, by simp only; omega, by simp only; omega⟩⟩
  · have e : ((gP P t).c ++ [0]).length = (gP P t).c.length + 1 := by simp
    exact ⟨by rw [List.length_set]; exact Nat.le_refl _, hset _ ⟨⟨h1.hb, h1.hb0, h1.hp, by simp only [e]; omega⟩, ⟨h2.b, h2.pe, by simp only [e]; omega⟩, by simp only [e]; omega, by simp only [e]; omega⟩⟩
  · exact ⟨by rw [List.length_set]; exact Nat.le_refl _, hset _ ⟨⟨h1.hb, h1.hb0, h1.hp, h1.hlen⟩, ⟨h2.b, h2.pe, h2.len⟩, by simp only; omega, by simp only; omega⟩⟩
def lendR : FuncId → List Nat := fun f => if f = 9 then [0] else if f = 10 then [0] else if f = 12 then [0] else if f = 20 then [0] else if f = 22 then [0] else []
theorem gtM_rd {Y : List Pl} (h : ∀ x ∈ Y, Rd x) (g : Int) : (gtM Y g).1.c.length ≤ 1000 := by
  rcases gtM_ix Y g with ⟨_, e⟩ | ⟨t, _, ht, e⟩
  · rw [e]; decide
  · rw [e]; exact (h _ (getD_mem Y t zpl ht)).l1
set_option maxHeartbeats 64000000 in
theorem reads_spec (D : List Int) (gp cp : Int) (hr : ∀ x ∈ D, -9223372036854775808 ≤ x ∧ x ≤ 9223372036854775807) : FnSpec Try.prog 4 [gi D none, i1 gp, i1 cp] [] (b1 true) [] := by
  by_cases hlen : (D.length : Int) ≤ 600
  case neg =>
    refine fnspec_of mixed TT_ok TT_cl ⟨fun _ => false, lendR, 0, fun _ => false, fun _ => false⟩ Try.func4 rfl (by kernel_rfl) rfl 140 rfl [.tmp 6] rfl ?_
    simp only [go_sem, zaa, zai, zaj, zak, zal, zae, ↓reduceIte, reduceCtorEq, zab, zad, zam, zan, zao, decide_eq_false hlen, lendR]
    repeat' (first
    | (apply cl_plain
       case hs => rfl
       case ha => (simp only [zag, zah, prepV, prepC, idx, hpL', lookR, zaa, if_true, if_false]; rfl)
       case h => (first | exact light_spec .. | exact thsane_spec ..))
    | ((first | refine s1_id ?_ | refine swp_id ?_ | refine sops_id ?_ | refine s2_id ?_); simp only [decide_eq_false hlen, lendR, go_sem, zaa, zai, zaj, zak, zal, zae, ↓reduceIte, reduceCtorEq, zab, zad, zam, zan, zao, SV.ren, SV.renL, Cell.ren, Row.ren, renO, bk, back, outUpsFrom, Ints_ren])
    | exact fs_nil trivial rfl
    | fail)
  have hl : D.length ≤ 600 := by omega
  have t1 := tree_spec D hl hr 0 7 (by decide)
  have hti := mkT_ok D 0 7
  generalize mkT D 0 7 = T at *
  obtain ⟨⟨l, n⟩, j1⟩ := T
  simp only at t1 hti
  have hV := hti.v.vt
  have hle := hti.len
  have hnl := nd_len l
  have n1 := next_spec D j1 3 hl hr (by decide)
  have r1 := nx_rng D j1 3 (by decide)
  generalize nxV D j1 3 = v1 at *
  generalize nxA D j1 3 = j2 at *
  have p1 := mkpools_spec D hl hr j2 l n (1 + v1) hV hti.nr (by omega)
  have hP := mkP_ok (D := D) hV (c := 1 + v1) (by omega) j2
  generalize mkP D l n (1 + v1) j2 = q at *
  obtain ⟨P, j3⟩ := q
  simp only at p1 hP
  have hPl := hP.len
  have hall := hP.all
  have o1 := odd_spec D hl hr j3 P (by omega) (by omega) (fun x hx => pck_len (hall x hx)) (fun x hx => by have := (nums (hall x hx)).g; omega)
  have r3 := nx_rng D j3 P.length (by omega)
  have hO := odM_rd hP (nxV D j3 P.length).toNat (nxV D (nxA D j3 P.length) 5) (by omega)
  have hOe : (odP D P j3).1 = odM P (nxV D j3 P.length).toNat (nxV D (nxA D j3 P.length) 5) := rfl
  rw [← hOe] at hO
  clear hOe r3
  generalize odP D P j3 = q at *
  obtain ⟨O, j4⟩ := q
  simp only at o1 hO
  have hPr : ∀ x ∈ P, Rd x := fun x hx => rd_of (hall x hx)
  have hct := hV.ctr
  have hnr := hti.nr
  obtain ⟨E, hE⟩ : ∃ E : List Cell, [.gsl (Cs P) 0 P.length none, .gsl (Cs O) 0 O.length none] = E := ⟨_, rfl⟩
  have hEg : ∀ m : Nat, m < 2 → ∃ Y : List Pl, (∀ d, E.getD m d = .gsl (Cs Y) 0 Y.length none) ∧ Y.length ≤ 64 ∧ ∀ x ∈ Y, Rd x := fun m hm => by
    have hm2 : m = 0 ∨ m = 1 := by omega
    rcases hm2 with rfl | rfl
    · exact ⟨P, fun d => by rw [← hE]; rfl, by omega, hPr⟩
    · exact ⟨O, fun d => by rw [← hE]; rfl, by omega, hO.2⟩
  have hEl : E.length = 2 := by rw [← hE]; rfl
  have hEf : flat E := by
    rw [← hE]
    intro c hc
    simp only [zaN, zaf, or_false] at hc
    rcases hc with rfl | rfl <;> rfl
  clear hP hall hO hPr
  refine fnspec_of mixed TT_ok TT_cl ⟨fun _ => false, lendR, 0, fun _ => false, fun _ => false⟩ Try.func4 rfl (by kernel_rfl) rfl 140 rfl [.tmp 6] rfl ?_
  simp only [go_sem, zaa, zai, zaj, zak, zal, zae, ↓reduceIte, reduceCtorEq, zab, zad, zam, zan, zao, decide_eq_true hlen, lendR, hE]
  repeat' (first
    | with_reducible refine zaw ?_ ?_
    | (unfold OKC; kernel_rfl)
    | (unfold EDG; kernel_rfl)
    | (apply cl_plain
       case hs => rfl
       case ha => (simp only [zag, zah, prepV, prepC, idx, hpL', lookR, zaa, if_true, if_false]; rfl)
       case h => (first | exact light_spec .. | exact roll_spec .. | exact t1 .. | exact n1 .. | exact p1 .. | exact o1 ..))
    | (apply cl_lend
       case hr => (simp only [zag, zah, hpL', lookR, zaa, if_true, if_false]; first | exact map1 _ | exact map2 _ _ | exact map3 _ _ _)
       case ha => (simp only [zag, zah, prepV, prepC, idx, hpL', lookR, zaa, if_true, if_false]; rfl)
       case hs => rfl
       case hn => decide
       case h => (first | exact light_spec .. | exact roll_spec .. | exact t1 .. | exact n1 .. | exact p1 .. | exact o1 ..)
       case hf => (simp only [zac, zaf, false_implies, implies_true, and_true, true_and, flat_cons, flat_nil, flat_ints, flat_bools, flat_app, Cs_flat, Cell.refs, and_self, eq_self_iff_true, zar])
       case hl => (simp only [zax, zay]; decide))
    | ((first | refine s1_id ?_ | refine swp_id ?_ | refine sops_id ?_ | refine s2_id ?_); simp only [decide_eq_true hlen, lendR, dice, hE, go_sem, zaa, zai, zaj, zak, zal, zae, ↓reduceIte, reduceCtorEq, zab, zad, zam, zan, zao, SV.ren, SV.renL, Cell.ren, Row.ren, renO, bk, back, outUpsFrom, Ints_ren])
    | (intros; omega)
    | (intros; (try simp only [zau, zav, zat, zas, zap, zaq, decide_eq_true_eq, decide_eq_false_iff_not] at *); omega))
  refine w_loop (ι := Nat × Nat) (fun s => ⟨[(1, i1 gp), (2, i1 cp), (7, dp), (8, .one (.optr 1 0)), (42, .one (.osl 2 0 2 (some 2))), (43, i1 2), (44, i1 s.1)], [(0, some (dice D s.2)), (1, some ⟨[.gsl (Cs l) 0 l.length none, int n], 2⟩), (2, some ⟨E, 1⟩)], 3⟩) (fun s => s.1 ≤ 2) (fun s => 2 - s.1) (0, j4) ?_ (zaL _) ?_
  · (refine imp_ren _ _ _ [(0, 5, dice D j4), (1, 9, ⟨[.gsl (Cs l) 0 l.length none, int n], 2⟩), (2, 22, ⟨E, 1⟩)] (by simp) (by simp) (by simp) (zaz rfl) ?_ rfl (by simp only [zac, zaf, false_implies, implies_true, and_true, St.hpF, lookR, zaa, if_true, if_false, ↓reduceIte, dice, hEf] <;> (repeat' apply zaw) <;> (first | rfl | trivial)) (by simp only [zac, zaf, false_implies, implies_true, and_true, true_and, flat_cons, flat_nil, flat_ints, flat_bools, flat_app, Cell.refs, and_self, eq_self_iff_true, zar, dice, hEf]); simp only [zag, zah, zac, zaf, false_implies, implies_true, and_true, lk, slot, SV.ren, Cell.ren, toN, zaa, if_true, if_false, ↓reduceIte, reduceCtorEq])
    all_goals ((repeat' apply zaw) <;> (first | rfl | trivial))
  clear t1 n1 p1 o1 hE
  rintro ⟨m, j⟩ hm
  simp only at hm ⊢
  rcases Nat.lt_or_ge m 2 with hlt | hge
  case inr =>
    have c : ¬ (m : Int) < 2 := by omega
    simp only [go_sem, zaa, zai, zaj, zak, zal, zae, ↓reduceIte, reduceCtorEq, zab, zad, zam, zan, zao, decide_eq_false c, lendR]
    repeat' (first
    | (apply cl_plain
       case hs => rfl
       case ha => (simp only [zag, zah, prepV, prepC, idx, hpL', lookR, zaa, if_true, if_false]; rfl)
       case h => (first | exact thsane_spec ..))
    | ((first | refine s1_id ?_ | refine swp_id ?_ | refine sops_id ?_ | refine s2_id ?_); simp only [decide_eq_false c, lendR, go_sem, zaa, zai, zaj, zak, zal, zae, ↓reduceIte, reduceCtorEq, zab, zad, zam, zan, zao, SV.ren, SV.renL, Cell.ren, Row.ren, renO, bk, back, outUpsFrom, Ints_ren])
    | exact fs_nil trivial rfl
    | fail)
  have c : (m : Int) < 2 := by omega
  obtain ⟨Y, hY, hYl, hYr⟩ := hEg m hlt
  have f1 := thck_spec l n Y none (by omega) (by omega) hnr hct
  have f2 := rthck_spec l n Y none (by omega) (by omega) hnr (fun x hx => (hYr x hx).sm)
  have d1 := dgroup_spec D hl hr j l n hle.1 hle.2
  generalize dgV D l j = g1 at *
  generalize dgA D l j = j5 at *
  have d2 := dgroup_spec D hl hr j5 l n hle.1 hle.2
  generalize dgV D l j5 = g2 at *
  generalize dgA D l j5 = j6 at *
  simp only [go_sem, zaa, zai, zaj, zak, zal, zae, ↓reduceIte, reduceCtorEq, zab, zad, zam, zan, zao, decide_eq_true c, lendR, hY]
  repeat' (first
    | with_reducible refine zaw ?_ ?_
    | (unfold OKC; kernel_rfl)
    | (unfold EDG; kernel_rfl)
    | (apply cl_plain
       case hs => rfl
       case ha => (simp only [zag, zah, prepV, prepC, idx, hpL', lookR, zaa, if_true, if_false]; rfl)
       case h => (first | exact f1 .. | exact f2 .. | exact d1 .. | exact d2 ..))
    | (apply cl_lend
       case hr => (simp only [zag, zah, hpL', lookR, zaa, if_true, if_false]; first | exact map1 _ | exact map2 _ _ | exact map3 _ _ _)
       case ha => (simp only [zag, zah, prepV, prepC, idx, hpL', lookR, zaa, if_true, if_false]; rfl)
       case hs => rfl
       case hn => decide
       case h => (first | exact f1 .. | exact f2 .. | exact d1 .. | exact d2 ..)
       case hf => (simp only [zac, zaf, false_implies, implies_true, and_true, true_and, flat_cons, flat_nil, flat_ints, flat_bools, flat_app, Cs_flat, Cell.refs, and_self, eq_self_iff_true, zar])
       case hl => (simp only [zax, zay]; decide))
    | ((first | refine s1_id ?_ | refine swp_id ?_ | refine sops_id ?_ | refine s2_id ?_); simp only [decide_eq_true c, lendR, dice, hY, beq_self_eq_true, go_sem, zaa, zai, zaj, zak, zal, zae, ↓reduceIte, reduceCtorEq, zab, zad, zam, zan, zao, SV.ren, SV.renL, Cell.ren, Row.ren, renO, bk, back, outUpsFrom, Ints_ren])
    | (intros; omega)
    | (intros; (try simp only [zau, zav, zat, zas, zap, zaq, decide_eq_true_eq, decide_eq_false_iff_not] at *); omega))
  obtain ⟨W, hW⟩ : ∃ W : List Int, [gp, g1, g2] = W := ⟨_, rfl⟩
  have hWl : W.length = 3 := by rw [← hW]; rfl
  refine w_loop (ι := Nat × Nat) (fun s => ⟨[(1, i1 gp), (2, i1 cp), (7, dp), (8, .one (.optr 1 0)), (11, gr Y none), (42, .one (.osl 2 0 2 (some 2))), (43, i1 2), (44, i1 m), (62, .one (.osl 3 0 3 (some 3))), (63, i1 3), (64, i1 s.1)], [(0, some (dice D s.2)), (1, some ⟨[.gsl (Cs l) 0 l.length none, int n], 2⟩), (2, some ⟨E, 1⟩), (3, some ⟨Ints W, 1⟩)], 4⟩) (fun s => s.1 ≤ 3) (fun s => 3 - s.1) (0, j6) ?_ (zaL _) ?_
  · (refine imp_ren _ _ _ [(0, 0, dice D j6), (1, 1, ⟨[.gsl (Cs l) 0 l.length none, int n], 2⟩), (2, 2, ⟨E, 1⟩), (3, 21, ⟨Ints W, 1⟩)] (by simp) (by simp) (by simp) (zaz rfl) ?_ rfl (by simp only [zac, zaf, false_implies, implies_true, and_true, St.hpF, lookR, zaa, if_true, if_false, ↓reduceIte, dice, hEf, hW] <;> (repeat' apply zaw) <;> (first | rfl | trivial)) (by simp only [zac, zaf, false_implies, implies_true, and_true, true_and, flat_cons, flat_nil, flat_ints, flat_bools, flat_app, Cell.refs, and_self, eq_self_iff_true, zar, dice, hEf, hW]); simp only [zag, zah, zac, zaf, false_implies, implies_true, and_true, lk, slot, SV.ren, Cell.ren, toN, zaa, if_true, if_false, ↓reduceIte, reduceCtorEq])
    all_goals ((repeat' apply zaw) <;> (first | rfl | trivial))
  clear f1 f2 d1 d2 hW
  rintro ⟨a, ja⟩ ha
  simp only at ha ⊢
  rcases Nat.lt_or_ge a 3 with halt | hage
  case inr =>
    have c2 : ¬ (a : Int) < 3 := by omega
    simp only [go_sem, zaa, zai, zaj, zak, zal, zae, ↓reduceIte, reduceCtorEq, zab, zad, zam, zan, zao, decide_eq_false c2, lendR]
    repeat' (first
    | with_reducible refine zaw ?_ ?_
    | (intros; omega)
    | (intros; (try simp only [zau, zav, zat, zas, zap, zaq, decide_eq_true_eq, decide_eq_false_iff_not] at *); omega))
    refine le_mk (m + 1, ja) ?_ hlt (by show 2 - (m + 1) < 2 - m; omega)
    (refine imp_ren _ _ _ [(0, 0, dice D ja), (1, 1, ⟨[.gsl (Cs l) 0 l.length none, int n], 2⟩), (2, 2, ⟨E, 1⟩)] (by simp) (by simp) (by simp) (zaz rfl) ?_ rfl (by simp only [zac, zaf, false_implies, implies_true, and_true, St.hpF, lookR, zaa, if_true, if_false, ↓reduceIte, dice, hEf] <;> (repeat' apply zaw) <;> (first | rfl | trivial)) (by simp only [zac, zaf, false_implies, implies_true, and_true, true_and, flat_cons, flat_nil, flat_ints, flat_bools, flat_app, Cell.refs, and_self, eq_self_iff_true, zar, dice, hEf]); simp only [zag, zah, zac, zaf, false_implies, implies_true, and_true, lk, slot, SV.ren, Cell.ren, toN, zaa, if_true, if_false, ↓reduceIte, reduceCtorEq])
    all_goals ((repeat' apply zaw) <;> (first | rfl | trivial | (simp only [zaA]; done) | (simp only [zaA]; rfl) | (simp only [zaA]; trivial)))
  have c2 : (a : Int) < 3 := by omega
  have e1 := thget_spec Y none (W.getD a 0) (by omega) (fun x hx => (hYr x hx).l0) (fun x hx => (hYr x hx).l1)
  have e2 := rgetP_spec Y none (W.getD a 0) (by omega) (fun x hx => (hYr x hx).l1)
  have e3 := same_spec (gtM Y (W.getD a 0)).1 none none (gtM_rd hYr _)
  have n4 := next_spec D ja 4 hl hr (by decide)
  have r4 := nx_rng D ja 4 (by decide)
  generalize nxV D ja 4 = v4 at *
  generalize nxA D ja 4 = jb at *
  generalize gtM Y (W.getD a 0) = w at *
  obtain ⟨⟨w0, w1, w2, w3, w4, w5, w6, w7, w8, w9⟩, wb⟩ := w
  simp only [plc, plt] at e1 e2 e3
  simp only [go_sem, zaa, zai, zaj, zak, zal, zae, ↓reduceIte, reduceCtorEq, zab, zad, zam, zan, zao, decide_eq_true c2, lendR]
  repeat' (first
    | with_reducible refine zaw ?_ ?_
    | (apply cg_tp
       case hl => rfl
       case ha => (simp only [zag, zah, prepV, prepC, idx, hpL', lookR, zaa, if_true, if_false]; rfl)
       case hs => rfl
       case h => (first | exact e1 .. | exact e2 .. | exact e3 .. | exact n4 ..))
    | (apply cl_plain
       case hs => rfl
       case ha => (simp only [zag, zah, prepV, prepC, idx, hpL', lookR, zaa, if_true, if_false]; rfl)
       case h => (first | exact e1 .. | exact e2 .. | exact e3 .. | exact n4 ..))
    | (apply cl_lend
       case hr => (simp only [zag, zah, hpL', lookR, zaa, if_true, if_false]; first | exact map1 _ | exact map2 _ _ | exact map3 _ _ _)
       case ha => (simp only [zag, zah, prepV, prepC, idx, hpL', lookR, zaa, if_true, if_false]; rfl)
       case hs => rfl
       case hn => decide
       case h => (first | exact e1 .. | exact e2 .. | exact e3 .. | exact n4 ..)
       case hf => (simp only [zac, zaf, false_implies, implies_true, and_true, true_and, flat_cons, flat_nil, flat_ints, flat_bools, flat_app, Cs_flat, Cell.refs, and_self, eq_self_iff_true, zar])
       case hl => (simp only [zax, zay]; decide))
    | ((first | refine s1_id ?_ | refine swp_id ?_ | refine sops_id ?_ | refine s2_id ?_); simp only [decide_eq_true c2, lendR, dice, beq_self_eq_true, zaF, zaG, zar, zaE, zaH, zaC, zaD, zaB, zaI, zaJ, zax, zay, go_sem, zaa, zai, zaj, zak, zal, zae, ↓reduceIte, reduceCtorEq, zab, zad, zam, zan, zao, SV.ren, SV.renL, Cell.ren, Row.ren, renO, bk, back, outUpsFrom, Ints_ren])
    | (intros; omega)
    | (intros; (try simp only [zau, zav, zat, zas, zap, zaq, decide_eq_true_eq, decide_eq_false_iff_not] at *); omega))
  obtain ⟨V, hW⟩ : ∃ W : List Int, [cp, 0, v4 - 1] = W := ⟨_, rfl⟩
  have hVl : V.length = 3 := by rw [← hW]; rfl
  refine w_loop (ι := Nat) (fun b => ⟨[(1, i1 gp), (2, i1 cp), (7, dp), (8, .one (.optr 1 0)), (11, gr Y none), (13, i1 (W.getD a 0)), (42, .one (.osl 2 0 2 (some 2))), (43, i1 2), (44, i1 m), (62, .one (.osl 3 0 3 (some 3))), (63, i1 3), (64, i1 a), (93, .one (.osl 4 0 3 (some 3))), (94, i1 3), (95, i1 b)], [(0, some (dice D jb)), (1, some ⟨[.gsl (Cs l) 0 l.length none, int n], 2⟩), (2, some ⟨E, 1⟩), (3, some ⟨Ints W, 1⟩), (4, some ⟨Ints V, 1⟩)], 5⟩) (fun b => b ≤ 3) (fun b => 3 - b) 0 ?_ (zaL _) ?_
  · (refine imp_ren _ _ _ [(0, 0, dice D jb), (1, 1, ⟨[.gsl (Cs l) 0 l.length none, int n], 2⟩), (2, 2, ⟨E, 1⟩), (3, 3, ⟨Ints W, 1⟩), (4, 39, ⟨Ints V, 1⟩)] (by simp) (by simp) (by simp) (zaz rfl) ?_ rfl (by simp only [zac, zaf, false_implies, implies_true, and_true, St.hpF, lookR, zaa, if_true, if_false, ↓reduceIte, dice, hEf, hW] <;> (repeat' apply zaw) <;> (first | rfl | trivial)) (by simp only [zac, zaf, false_implies, implies_true, and_true, true_and, flat_cons, flat_nil, flat_ints, flat_bools, flat_app, Cell.refs, and_self, eq_self_iff_true, zar, dice, hEf, hW]); simp only [zag, zah, zac, zaf, false_implies, implies_true, and_true, lk, slot, SV.ren, Cell.ren, toN, zaa, if_true, if_false, ↓reduceIte, reduceCtorEq])
    all_goals ((repeat' apply zaw) <;> (first | rfl | trivial))
  clear e1 e2 e3 n4 hW
  intro b hb
  simp only at hb ⊢
  rcases Nat.lt_or_ge b 3 with hblt | hbge
  case inr =>
    have c3 : ¬ (b : Int) < 3 := by omega
    simp only [go_sem, zaa, zai, zaj, zak, zal, zae, ↓reduceIte, reduceCtorEq, zab, zad, zam, zan, zao, decide_eq_false c3, lendR]
    repeat' (first
    | with_reducible refine zaw ?_ ?_
    | (intros; omega)
    | (intros; (try simp only [zau, zav, zat, zas, zap, zaq, decide_eq_true_eq, decide_eq_false_iff_not] at *); omega))
    refine le_mk (a + 1, jb) ?_ halt (by show 3 - (a + 1) < 3 - a; omega)
    (refine imp_ren _ _ _ [(0, 0, dice D jb), (1, 1, ⟨[.gsl (Cs l) 0 l.length none, int n], 2⟩), (2, 2, ⟨E, 1⟩), (3, 3, ⟨Ints W, 1⟩)] (by simp) (by simp) (by simp) (zaz rfl) ?_ rfl (by simp only [zac, zaf, false_implies, implies_true, and_true, St.hpF, lookR, zaa, if_true, if_false, ↓reduceIte, dice, hEf] <;> (repeat' apply zaw) <;> (first | rfl | trivial)) (by simp only [zac, zaf, false_implies, implies_true, and_true, true_and, flat_cons, flat_nil, flat_ints, flat_bools, flat_app, Cell.refs, and_self, eq_self_iff_true, zar, dice, hEf]); simp only [zag, zah, zac, zaf, false_implies, implies_true, and_true, lk, slot, SV.ren, Cell.ren, toN, zaa, if_true, if_false, ↓reduceIte, reduceCtorEq])
    all_goals ((repeat' apply zaw) <;> (first | rfl | trivial | (simp only [zaA]; done) | (simp only [zaA]; rfl) | (simp only [zaA]; trivial)))
  have c3 : (b : Int) < 3 := by omega
  have x1 := thblk_spec l n Y none (W.getD a 0) (V.getD b 0) (by omega) (by omega) hnr hct
  have x2 := rthblk_spec l n Y none (W.getD a 0) (V.getD b 0) (by omega) (by omega) hnr (fun x hx => (hYr x hx).sm) (fun x hx => (hYr x hx).wk) (fun x hx => (hYr x hx).l1)
  have x3 := throom_spec l n Y none (W.getD a 0) (V.getD b 0) (by omega) (by omega) hnr hct
  have x4 := rthroom_spec l n Y none (W.getD a 0) (V.getD b 0) (by omega) (by omega) hnr (fun x hx => (hYr x hx).sm) (fun x hx => (hYr x hx).wk) (fun x hx => (hYr x hx).l1)
  generalize bkF Y (V.getD b 0) (wayM l n Y (W.getD a 0)) = z at *
  generalize thRm l n Y (W.getD a 0) (V.getD b 0) = rm at *
  obtain ⟨z1, z2⟩ := z
  simp only at x1 x2
  simp only [go_sem, zaa, zai, zaj, zak, zal, zae, ↓reduceIte, reduceCtorEq, zab, zad, zam, zan, zao, decide_eq_true c3, lendR]
  repeat' (first
    | with_reducible refine zaw ?_ ?_
    | (unfold OKC; kernel_rfl)
    | (unfold EDG; kernel_rfl)
    | (apply cg_tp
       case hl => rfl
       case ha => (simp only [zag, zah, prepV, prepC, idx, hpL', lookR, zaa, if_true, if_false]; rfl)
       case hs => rfl
       case h => (first | exact x1 .. | exact x2 .. | exact x3 .. | exact x4 ..))
    | (apply cl_plain
       case hs => rfl
       case ha => (simp only [zag, zah, prepV, prepC, idx, hpL', lookR, zaa, if_true, if_false]; rfl)
       case h => (first | exact x1 .. | exact x2 .. | exact x3 .. | exact x4 ..))
    | ((first | refine s1_id ?_ | refine swp_id ?_ | refine sops_id ?_ | refine s2_id ?_); simp only [decide_eq_true c3, lendR, beq_self_eq_true, zaF, zaG, zar, zaE, zaH, zaC, zaD, zaB, zaI, zaJ, zax, zay, go_sem, zaa, zai, zaj, zak, zal, zae, ↓reduceIte, reduceCtorEq, zab, zad, zam, zan, zao, SV.ren, SV.renL, Cell.ren, Row.ren, renO, bk, back, outUpsFrom, Ints_ren])
    | (intros; omega)
    | (intros; (try simp only [zau, zav, zat, zas, zap, zaq, decide_eq_true_eq, decide_eq_false_iff_not] at *); omega))
  refine le_mk (b + 1) ?_ hblt (by show 3 - (b + 1) < 3 - b; omega)
  (refine imp_ren _ _ _ [(0, 0, dice D jb), (1, 1, ⟨[.gsl (Cs l) 0 l.length none, int n], 2⟩), (2, 2, ⟨E, 1⟩), (3, 3, ⟨Ints W, 1⟩), (4, 4, ⟨Ints V, 1⟩)] (by simp) (by simp) (by simp) (zaz rfl) ?_ rfl (by simp only [zac, zaf, false_implies, implies_true, and_true, St.hpF, lookR, zaa, if_true, if_false, ↓reduceIte, dice, hEf] <;> (repeat' apply zaw) <;> (first | rfl | trivial)) (by simp only [zac, zaf, false_implies, implies_true, and_true, true_and, flat_cons, flat_nil, flat_ints, flat_bools, flat_app, Cell.refs, and_self, eq_self_iff_true, zar, dice, hEf]); simp only [zag, zah, zac, zaf, false_implies, implies_true, and_true, lk, slot, SV.ren, Cell.ren, toN, zaa, if_true, if_false, ↓reduceIte, reduceCtorEq])
  all_goals ((repeat' apply zaw) <;> (first | rfl | trivial | (simp only [zaA]; done) | (simp only [zaA]; rfl) | (simp only [zaA]; trivial)))
theorem reads_main (g0 : List Cell) (s0 : GTy Try.prog 12 22 g0) (g1 : List Cell) (s1 : GTy Try.prog 12 3 g1) (g2 : List Cell) (s2 : GTy Try.prog 12 3 g2) : FnSpec Try.prog 4 [svOf Try.prog 22 g0, svOf Try.prog 3 g1, svOf Try.prog 3 g2] [] (b1 true) [] := by
  obtain ⟨l, rfl, hl, hr⟩ := gty_ints (n := 10) Try.underlying22 Try.underlying3 s0
  obtain ⟨a, rfl, _⟩ := gty_int (n := 11) Try.underlying3 s1
  obtain ⟨b, rfl, _⟩ := gty_int (n := 11) Try.underlying3 s2
  simp only [svOf, Try.underlying22, Try.underlying3, List.headD_cons]
  exact reads_spec l a b hr
end Go.Proofs.Ytcnilpdlcmpbbaa
