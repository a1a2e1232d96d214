/- Contracts of functions, told of values, on the way to SettingsLists (part 7). -/
import Derived.Test.YtcnilpdlcmpbbabSettingsListsM3
import Derived.Test.YtcnilpdlcmpbbabSettingsListsM6
-- short names of the library's lemmas
open Nat renaming reduceEqDiff → zaa, reduceLeDiff → zai, reduceAdd → zaj, reduceSub → zak, reduceMul → zal, reduceLT → zan, le_of_ble_eq_true → zaw, zero_le → zaM
open List renaming forall_mem_cons → zab, not_mem_nil → zac, map_cons → zad, map_nil → zae, reduceReplicate → zaf, append_nil → zah, length_cons → zam, length_nil → zar, take_succ_cons → zav, set_cons_zero → zax, set_cons_succ → zay, flatten_cons → zaA, flatten_nil → zaC, cons_append → zaD, nil_append → zaF, take_zero → zaH, take_nil → zaJ
open Int renaming cast_ofNat_Int → zag, reduceEq → zao, reduceLT → zap, reduceLE → zaq, natCast_add → zaL
open Bool renaming and_eq_false_iff → zas, or_eq_false_iff → zat, not_eq_false' → zaz, not_eq_true' → zaB, and_eq_true → zaE, or_eq_true → zaG
open And renaming intro → zau
open Go.Proofs.Ytcnilpdlcmpbbab.Sh.Cell renaming ren → zaI, refs → zaK
open Go.Proofs.Ytcnilpdlcmpbbab.Sh.SV renaming ren → zaN
open Go.Proofs.Ytcnilpdlcmpbbab.Sh.St renaming hpF → zaO
-- NEWGO
-- PRUNE: cl_lendx cl_use
-- ISG: Cs_isG
-- FLAT: Cs_flat
namespace Go.Proofs.Ytcnilpdlcmpbbab
set_option linter.unusedVariables false
set_option linter.unusedSimpArgs false
open Go.Proofs.Ytcnilpdlcmpbbab.Sh
set_option maxRecDepth 20000
theorem scw_drop (L : List Cf) (n : Nat) (m : Mem) (v : Value) (hv : VG m (.gsl (Cs L) 18 n none) v) : VG m (.gsl (Cs (L.drop 1)) 0 n none) v := by
  have h1 := cw_sub (Cs L) 0 n none 18 ((Cs L).length)
  have h2 : ((Cs L).drop 18).take (Cs L).length = Cs (L.drop 1) := by
    rw [List.take_of_length_le (by rw [List.length_drop]; omega)]
    exact Cs_drop L 1
  rw [h2] at h1
  exact h1.1 m (fun _ => none) v hv
theorem CfR.at {L : List Cf} (h : CfR L) {t : Nat} (ht : t < L.length) : SgR (gCf L t).s := h _ (getD_mem L t zcf ht)
theorem CfR.put {L : List Cf} (h : CfR L) (t : Nat) {x : Cf} (hx : SgR x.s) : CfR (L.set t x) := fun y hy => by
  rcases List.mem_or_eq_of_mem_set hy with hy | rfl
  · exact h y hy
  · exact hx
theorem CfR.tail {L : List Cf} (h : CfR L) : CfR (L.drop 1) := fun y hy => h y (List.mem_of_mem_drop hy)
theorem so_cs (D : List Int) (hl : D.length ≤ 600) (hr : ∀ x ∈ D, -9223372036854775808 ≤ x ∧ x ≤ 9223372036854775807) (j : Nat) : ∃ s j1 B j2 s2 j3, FnSpec Try.prog 24 [dp] [dice D j] (sgt s) [some (dice D j1)] ∧ FnSpec Try.prog 32 [dp, i1 3] [dice D j1] (b1 B) [some (dice D j2)] ∧ SgR s ∧ SgR s2 ∧ ((B = true ∧ FnSpec Try.prog 27 [dp, sgt s] [dice D j2] (sgt s2) [some (dice D j3)]) ∨ (B = false ∧ s2 = s ∧ j3 = j2)) := by
  have n1 := bool_spec D (mkS D j).2 3 hl hr (by decide)
  have hsr := (mkS_ok D j).2
  by_cases hv : nxV D (mkS D j).2 3 = 3 - 1
  · rw [decide_eq_true hv] at n1
    exact ⟨_, _, _, _, _, _, dsettings_spec D hl hr j, n1, hsr, odS_r D _ hsr, .inl ⟨rfl, oddset_spec D hl hr _ _ hsr⟩⟩
  · rw [decide_eq_false hv] at n1
    exact ⟨_, _, _, _, _, _, dsettings_spec D hl hr j, n1, hsr, hsr, .inr ⟨rfl, rfl, rfl⟩⟩
theorem stM_r (l : List Nd) (n : Int) {L : List Cf} (h : CfR L) (g : Int) {s : Sg} (hs : SgR s) : CfR (stM l n L g s).1 ∧ (stM l n L g s).1.length ≤ L.length := by
  unfold stM
  repeat' split
  · exact ⟨h.set hs g, by rw [setF_len]; exact Nat.le_refl _⟩
  all_goals exact ⟨fun x hx => absurd hx zac, zaM _⟩
def lendI : FuncId → List Nat := fun f => if f = 15 then [0] else if f = 12 then [0] else if f = 13 then [0] else if f = 27 then [0] else if f = 24 then [0] else if f = 32 then [0] else if f = 36 then [0] else []
set_option maxHeartbeats 64000000 in
theorem lists11_spec (D : List Int) (group : Int) (hr : ∀ x ∈ D, -9223372036854775808 ≤ x ∧ x ≤ 9223372036854775807) : FnSpec Try.prog 6 [gi D none, i1 group] [] (b1 true) [] := by
  by_cases hlen : (D.length : Int) ≤ 600
  case neg =>
    refine fnspec_of mixed TT_ok TT_cl ⟨fun _ => false, lendI, 0, fun _ => false, fun _ => false⟩ Try.func6 rfl (by kernel_rfl) rfl 179 rfl [.tmp 4] rfl ?_
    simp only [go_sem, zaa, zaj, zak, zal, zan, zai, ↓reduceIte, reduceCtorEq, zaf, zag, zao, zap, zaq, decide_eq_false hlen, lendI]
    repeat' (first
 | (apply cl_plain
    case hs => rfl
    case ha => (simp only [zad, zae, prepV, prepC, idx, hpL', lookR, zaa, if_true, if_false]; rfl)
    case h => (first | exact light_spec .. | exact sgsane_spec ..))
 | ((first | refine s1_id ?_ | refine swp_id ?_ | refine sops_id ?_ | refine s2_id ?_); simp only [decide_eq_false hlen, lendI, go_sem, zaa, zaj, zak, zal, zan, zai, ↓reduceIte, reduceCtorEq, zaf, zag, zao, zap, zaq, zaN, SV.renL, zaI, Row.ren, renO, bk, back, outUpsFrom, Ints_ren])
 | exact fs_nil trivial rfl
 | fail)
  have hl : D.length ≤ 600 := by omega
  have t1 := tree_spec D hl hr 0 7 (by decide)
  have hti := mkT_ok D 0 7
  generalize mkT D 0 7 = T at *
  obtain ⟨⟨l, n⟩, j1⟩ := T
  simp only at t1 hti
  have t2 := tree_spec D hl hr j1 7 (by decide)
  have hti2 := mkT_ok D j1 7
  generalize mkT D j1 7 = T at *
  obtain ⟨⟨l2, n2⟩, j2⟩ := T
  simp only at t2 hti2
  have hV := hti.v.vt
  have hle := hti.len
  have hnl := nd_len l
  have hct := hV.ctr
  have hnr := hti.nr
  have hV2 := hti2.v.vt
  have hle2 := hti2.len
  have hnl2 := nd_len l2
  have hct2 := hV2.ctr
  have hnr2 := hti2.nr
  have p1 := dconfigs_spec D hl hr l n (by omega) j2
  obtain ⟨hC, hCr⟩ := mkC_ok D hV j2
  generalize mkC D l j2 = q at *
  obtain ⟨C, j3⟩ := q
  simp only at p1 hC hCr
  have hCl := hC.len
  have hpl := cf_len C
  have htk : List.take (C.length * 18) (Cs C) = Cs C := List.take_of_length_le (by rw [hpl]; exact Nat.le_refl _)
  have m1 := next_spec D j3 C.length hl hr (by omega)
  have r1 := nx_rng D j3 C.length (by omega)
  generalize nxV D j3 C.length = v at *
  generalize nxA D j3 C.length = j4 at *
  obtain ⟨t, rfl⟩ : ∃ t : Nat, v = t := ⟨v.toNat, by omega⟩
  have ht : t < C.length := by omega
  have m2 := next_spec D j4 3 hl hr (by omega)
  have r2 := nx_rng D j4 3 (by omega)
  generalize nxV D j4 3 = v at *
  generalize nxA D j4 3 = j5 at *
  have hgr : 1 ≤ (gCf C t).g ∧ (gCf C t).g ≤ 2147483648 := by
    have e := hC.id t ht
    have a := hV.pos (show t < l.length by omega)
    have b := hV.lt (show t < l.length by omega)
    have c := hV.mx
    omega
  have hv : v = 0 ∨ v = 1 ∨ v = 2 := by omega
  rcases hv with rfl | rfl | rfl
  focus
    have q0 := cf_f0 C t ht (.sc (.int .i64 0))
    have s1 : (Cs C).set (t * 18) (int ((gCf C t).g + 1)) = Cs (C.set t ⟨(gCf C t).g + 1, (gCf C t).s⟩) := by
      have := Cs_setf C t 0 (⟨(gCf C t).g + 1, (gCf C t).s⟩ : Cf) (int ((gCf C t).g + 1)) ht (by decide) rfl
      rw [Nat.add_zero] at this
      exact this
    have hOr := hCr.put t (x := ⟨(gCf C t).g + 1, (gCf C t).s⟩) (hCr.at ht)
    have hOl : (C.set t ⟨(gCf C t).g + 1, (gCf C t).s⟩).length = C.length := List.length_set
    generalize C.set t ⟨(gCf C t).g + 1, (gCf C t).s⟩ = O at *
    generalize (gCf C t).g = gg at *
    refine fnspec_of mixed TT_ok TT_cl ⟨fun _ => false, lendI, 0, fun _ => false, fun _ => false⟩ Try.func6 rfl (by kernel_rfl) rfl 179 rfl [.tmp 4] rfl ?_
    simp only [go_sem, zaa, zaj, zak, zal, zan, zai, ↓reduceIte, reduceCtorEq, zaf, zag, zao, zap, zaq, decide_eq_true hlen, lendI, htk, q0, s1]
    repeat' (first
 | with_reducible refine zau ?_ ?_
 | (apply cl_plain
    case hs => rfl
    case ha => (simp only [zad, zae, prepV, prepC, idx, hpL', lookR, zaa, if_true, if_false]; rfl)
    case h => (first | exact light_spec .. | exact roll_spec .. | exact t1 .. | exact t2 .. | exact p1 .. | exact m1 .. | exact m2 ..))
 | (apply cl_lend
    case hr => (simp only [zad, zae, hpL', lookR, zaa, if_true, if_false]; first | exact map1 _ | exact map2 _ _ | exact map3 _ _ _)
    case ha => (simp only [zad, zae, prepV, prepC, idx, hpL', lookR, zaa, if_true, if_false]; rfl)
    case hs => rfl
    case hn => decide
    case h => (first | exact light_spec .. | exact roll_spec .. | exact t1 .. | exact t2 .. | exact p1 .. | exact m1 .. | exact m2 ..)
    case hf => (simp only [zab, zac, false_implies, implies_true, and_true, true_and, flat_cons, flat_nil, flat_ints, flat_bools, flat_app, Cs_flat, zaK, and_self, eq_self_iff_true, zah])
    case hl => (simp only [zam, zar]; decide))
 | ((first | refine s1_id ?_ | refine swp_id ?_ | refine sops_id ?_ | refine s2_id ?_); simp only [decide_eq_true hlen, lendI, dice, htk, q0, s1, zaA, zaC, zah, zaD, zaF, zax, zay, zav, zaH, zaJ, zam, zar, go_sem, zaa, zaj, zak, zal, zan, zai, ↓reduceIte, reduceCtorEq, zaf, zag, zao, zap, zaq, zaN, SV.renL, zaI, Row.ren, renO, bk, back, outUpsFrom, Ints_ren])
 | (intros; omega)
 | (intros; (try simp only [zaE, zaG, zaB, zaz, zas, zat, decide_eq_true_eq, decide_eq_false_iff_not] at *); omega))
    refine w_loop (ι := Nat × Nat) (fun s => ⟨[(1, i1 group), (5, .one (.optr 0 0)), (6, .one (.optr 1 0)), (7, .one (.optr 2 0)), (70, .one (.gsl [.gsl (Cs C) 0 C.length none, .gsl (Cs O) 0 O.length none] 0 2 none)), (71, i1 (2 : Nat)), (72, i1 s.1)], [(0, some (dice D s.2)), (1, some ⟨[.gsl (Cs l) 0 l.length none, int n], 2⟩), (2, some ⟨[.gsl (Cs l2) 0 l2.length none, int n2], 2⟩)], 3⟩) (fun s => s.1 ≤ 2) (fun s => 2 - s.1) (0, j5) ?_ (zaM _) ?_
    focus
      simp only [hOl]
      (refine Imp.trans (imp_frz _ _ 20 ⟨Cs O, 18⟩ (by simp only [zaO, lookR, zaa, if_true, if_false, ↓reduceIte]) (by first | exact Ints_isG _ | exact Bools_isG _ | exact Cs_isG _ | (simp [Cell.isG]; done))) ?_; simp only [frzTm, SV.frz, SV.frzL, Cell.frz, frzHp, frzO, Ints_frz, Bools_frz, zad, zae, zaa, if_true, if_false, ↓reduceIte])
      (refine Imp.trans (imp_frz _ _ 42 ⟨[.gsl (Cs C) 0 C.length none, .gsl (Cs O) 0 C.length none], 1⟩ (by simp only [zaO, lookR, zaa, if_true, if_false, ↓reduceIte]) (by first | exact Ints_isG _ | exact Bools_isG _ | exact Cs_isG _ | (simp [Cell.isG]; done))) ?_; simp only [frzTm, SV.frz, SV.frzL, Cell.frz, frzHp, frzO, Ints_frz, Bools_frz, zad, zae, zaa, if_true, if_false, ↓reduceIte])
      refine Imp.trans (t := ⟨[(1, i1 group), (5, .one (.optr 0 0)), (6, .one (.optr 1 0)), (7, .one (.optr 2 0)), (70, .one (.gsl [.gsl (Cs C) 0 C.length none, .gsl (Cs O) 0 C.length none] 0 2 (some 2))), (71, i1 (2 : Nat)), (72, i1 (0 : Nat))], [(0, some (dice D j5)), (1, some ⟨[.gsl (Cs l) 0 l.length none, int n], 2⟩), (2, some ⟨[.gsl (Cs l2) 0 l2.length none, int n2], 2⟩)], 3⟩) ?_ (imp_w _ _ _ ?_ rfl (Nat.le_refl _))
      · (refine imp_ren _ _ _ [(0, 5, dice D j5), (1, 11, ⟨[.gsl (Cs l) 0 l.length none, int n], 2⟩), (2, 12, ⟨[.gsl (Cs l2) 0 l2.length none, int n2], 2⟩)] (by simp) (by simp) (by simp) (zaw rfl) ?_ rfl (by simp only [zab, zac, false_implies, implies_true, and_true, zaO, lookR, zaa, if_true, if_false, ↓reduceIte, dice] <;> (repeat' apply zau) <;> (first | rfl | trivial)) (by simp only [zab, zac, false_implies, implies_true, and_true, true_and, flat_cons, flat_nil, flat_ints, flat_bools, flat_app, zaK, and_self, eq_self_iff_true, zah, dice]); simp only [zad, zae, zab, zac, false_implies, implies_true, and_true, lk, slot, zaN, zaI, toN, zaa, if_true, if_false, ↓reduceIte, reduceCtorEq])
        all_goals ((repeat' apply zau) <;> (first | rfl | trivial))
      · intro x hx
        simp only [List.mem_cons, zac, or_false] at hx
        rcases hx with rfl | rfl | rfl | rfl | rfl | rfl | rfl <;> first | exact ⟨_, rfl, SVW.refl _⟩ | exact ⟨_, rfl, svw_of (scw_list _ _ _ ⟨fun _ _ h => h, fun _ _ h => h, trivial⟩)⟩
    clear t1 t2 p1 m1 m2
  rotate_left
  focus
    have q0 := cf_ts C t ht
    have o1 := oddset_spec D hl hr j5 (gCf C t).s (hCr.at ht)
    have o1r := odS_r D j5 (hCr.at ht)
    generalize odS D j5 (gCf C t).s = q at *
    obtain ⟨sx, j6⟩ := q
    simp only at o1 o1r
    have s1 := cf_put C t sx ht
    have hOr := hCr.put t (x := ⟨(gCf C t).g, sx⟩) o1r
    have hOl : (C.set t ⟨(gCf C t).g, sx⟩).length = C.length := List.length_set
    generalize C.set t ⟨(gCf C t).g, sx⟩ = O at *
    clear hgr
    generalize (gCf C t).s = s0 at *
    simp only [sgt, sgc] at o1 q0 s1
    refine fnspec_of mixed TT_ok TT_cl ⟨fun _ => false, lendI, 0, fun _ => false, fun _ => false⟩ Try.func6 rfl (by kernel_rfl) rfl 179 rfl [.tmp 4] rfl ?_
    simp only [go_sem, zaa, zaj, zak, zal, zan, zai, ↓reduceIte, reduceCtorEq, zaf, zag, zao, zap, zaq, decide_eq_true hlen, lendI, htk, q0, s1]
    repeat' (first
 | with_reducible refine zau ?_ ?_
 | (apply cl_plain
    case hs => rfl
    case ha => (simp only [zad, zae, prepV, prepC, idx, hpL', lookR, zaa, if_true, if_false]; rfl)
    case h => (first | exact light_spec .. | exact roll_spec .. | exact t1 .. | exact t2 .. | exact p1 .. | exact m1 .. | exact m2 .. | exact o1 ..))
 | (apply cl_lend
    case hr => (simp only [zad, zae, hpL', lookR, zaa, if_true, if_false]; first | exact map1 _ | exact map2 _ _ | exact map3 _ _ _)
    case ha => (simp only [zad, zae, prepV, prepC, idx, hpL', lookR, zaa, if_true, if_false]; rfl)
    case hs => rfl
    case hn => decide
    case h => (first | exact light_spec .. | exact roll_spec .. | exact t1 .. | exact t2 .. | exact p1 .. | exact m1 .. | exact m2 .. | exact o1 ..)
    case hf => (simp only [zab, zac, false_implies, implies_true, and_true, true_and, flat_cons, flat_nil, flat_ints, flat_bools, flat_app, Cs_flat, zaK, and_self, eq_self_iff_true, zah])
    case hl => (simp only [zam, zar]; decide))
 | ((first | refine s1_id ?_ | refine swp_id ?_ | refine sops_id ?_ | refine s2_id ?_); simp only [decide_eq_true hlen, lendI, dice, htk, q0, s1, zaA, zaC, zah, zaD, zaF, zax, zay, zav, zaH, zaJ, zam, zar, go_sem, zaa, zaj, zak, zal, zan, zai, ↓reduceIte, reduceCtorEq, zaf, zag, zao, zap, zaq, zaN, SV.renL, zaI, Row.ren, renO, bk, back, outUpsFrom, Ints_ren])
 | (intros; omega)
 | (intros; (try simp only [zaE, zaG, zaB, zaz, zas, zat, decide_eq_true_eq, decide_eq_false_iff_not] at *); omega))
    refine w_loop (ι := Nat × Nat) (fun s => ⟨[(1, i1 group), (5, .one (.optr 0 0)), (6, .one (.optr 1 0)), (7, .one (.optr 2 0)), (70, .one (.gsl [.gsl (Cs C) 0 C.length none, .gsl (Cs O) 0 O.length none] 0 2 none)), (71, i1 (2 : Nat)), (72, i1 s.1)], [(0, some (dice D s.2)), (1, some ⟨[.gsl (Cs l) 0 l.length none, int n], 2⟩), (2, some ⟨[.gsl (Cs l2) 0 l2.length none, int n2], 2⟩)], 3⟩) (fun s => s.1 ≤ 2) (fun s => 2 - s.1) (0, j6) ?_ (zaM _) ?_
    focus
      simp only [hOl]
      (refine Imp.trans (imp_frz _ _ 20 ⟨Cs O, 18⟩ (by simp only [zaO, lookR, zaa, if_true, if_false, ↓reduceIte]) (by first | exact Ints_isG _ | exact Bools_isG _ | exact Cs_isG _ | (simp [Cell.isG]; done))) ?_; simp only [frzTm, SV.frz, SV.frzL, Cell.frz, frzHp, frzO, Ints_frz, Bools_frz, zad, zae, zaa, if_true, if_false, ↓reduceIte])
      (refine Imp.trans (imp_frz _ _ 47 ⟨[.gsl (Cs C) 0 C.length none, .gsl (Cs O) 0 C.length none], 1⟩ (by simp only [zaO, lookR, zaa, if_true, if_false, ↓reduceIte]) (by first | exact Ints_isG _ | exact Bools_isG _ | exact Cs_isG _ | (simp [Cell.isG]; done))) ?_; simp only [frzTm, SV.frz, SV.frzL, Cell.frz, frzHp, frzO, Ints_frz, Bools_frz, zad, zae, zaa, if_true, if_false, ↓reduceIte])
      refine Imp.trans (t := ⟨[(1, i1 group), (5, .one (.optr 0 0)), (6, .one (.optr 1 0)), (7, .one (.optr 2 0)), (70, .one (.gsl [.gsl (Cs C) 0 C.length none, .gsl (Cs O) 0 C.length none] 0 2 (some 2))), (71, i1 (2 : Nat)), (72, i1 (0 : Nat))], [(0, some (dice D j6)), (1, some ⟨[.gsl (Cs l) 0 l.length none, int n], 2⟩), (2, some ⟨[.gsl (Cs l2) 0 l2.length none, int n2], 2⟩)], 3⟩) ?_ (imp_w _ _ _ ?_ rfl (Nat.le_refl _))
      · (refine imp_ren _ _ _ [(0, 5, dice D j6), (1, 11, ⟨[.gsl (Cs l) 0 l.length none, int n], 2⟩), (2, 12, ⟨[.gsl (Cs l2) 0 l2.length none, int n2], 2⟩)] (by simp) (by simp) (by simp) (zaw rfl) ?_ rfl (by simp only [zab, zac, false_implies, implies_true, and_true, zaO, lookR, zaa, if_true, if_false, ↓reduceIte, dice] <;> (repeat' apply zau) <;> (first | rfl | trivial)) (by simp only [zab, zac, false_implies, implies_true, and_true, true_and, flat_cons, flat_nil, flat_ints, flat_bools, flat_app, zaK, and_self, eq_self_iff_true, zah, dice]); simp only [zad, zae, zab, zac, false_implies, implies_true, and_true, lk, slot, zaN, zaI, toN, zaa, if_true, if_false, ↓reduceIte, reduceCtorEq])
        all_goals ((repeat' apply zau) <;> (first | rfl | trivial))
      · intro x hx
        simp only [List.mem_cons, zac, or_false] at hx
        rcases hx with rfl | rfl | rfl | rfl | rfl | rfl | rfl <;> first | exact ⟨_, rfl, SVW.refl _⟩ | exact ⟨_, rfl, svw_of (scw_list _ _ _ ⟨fun _ _ h => h, fun _ _ h => h, trivial⟩)⟩
    clear t1 t2 p1 m1 m2
  rotate_left
  focus
    have hOr := hCr.tail
    have hOl : (C.drop 1).length = C.length - 1 := List.length_drop
    have hdr := scw_drop C
    generalize hO : C.drop 1 = O at *
    refine fnspec_of mixed TT_ok TT_cl ⟨fun _ => false, lendI, 0, fun _ => false, fun _ => false⟩ Try.func6 rfl (by kernel_rfl) rfl 179 rfl [.tmp 4] rfl ?_
    simp only [go_sem, zaa, zaj, zak, zal, zan, zai, ↓reduceIte, reduceCtorEq, zaf, zag, zao, zap, zaq, decide_eq_true hlen, lendI, htk]
    repeat' (first
 | with_reducible refine zau ?_ ?_
 | (apply cl_plain
    case hs => rfl
    case ha => (simp only [zad, zae, prepV, prepC, idx, hpL', lookR, zaa, if_true, if_false]; rfl)
    case h => (first | exact light_spec .. | exact roll_spec .. | exact t1 .. | exact t2 .. | exact p1 .. | exact m1 .. | exact m2 ..))
 | (apply cl_lend
    case hr => (simp only [zad, zae, hpL', lookR, zaa, if_true, if_false]; first | exact map1 _ | exact map2 _ _ | exact map3 _ _ _)
    case ha => (simp only [zad, zae, prepV, prepC, idx, hpL', lookR, zaa, if_true, if_false]; rfl)
    case hs => rfl
    case hn => decide
    case h => (first | exact light_spec .. | exact roll_spec .. | exact t1 .. | exact t2 .. | exact p1 .. | exact m1 .. | exact m2 ..)
    case hf => (simp only [zab, zac, false_implies, implies_true, and_true, true_and, flat_cons, flat_nil, flat_ints, flat_bools, flat_app, Cs_flat, zaK, and_self, eq_self_iff_true, zah])
    case hl => (simp only [zam, zar]; decide))
 | ((first | refine s1_id ?_ | refine swp_id ?_ | refine sops_id ?_ | refine s2_id ?_); simp only [decide_eq_true hlen, lendI, dice, htk, zaA, zaC, zah, zaD, zaF, zax, zay, zav, zaH, zaJ, zam, zar, go_sem, zaa, zaj, zak, zal, zan, zai, ↓reduceIte, reduceCtorEq, zaf, zag, zao, zap, zaq, zaN, SV.renL, zaI, Row.ren, renO, bk, back, outUpsFrom, Ints_ren])
 | (intros; omega)
 | (intros; (try simp only [zaE, zaG, zaB, zaz, zas, zat, decide_eq_true_eq, decide_eq_false_iff_not] at *); omega))
    all_goals try (intro row hrow; cases hrow; rfl)
    clear hO
    refine w_loop (ι := Nat × Nat) (fun s => ⟨[(1, i1 group), (5, .one (.optr 0 0)), (6, .one (.optr 1 0)), (7, .one (.optr 2 0)), (70, .one (.gsl [.gsl (Cs C) 0 C.length none, .gsl (Cs O) 0 O.length none] 0 2 none)), (71, i1 (2 : Nat)), (72, i1 s.1)], [(0, some (dice D s.2)), (1, some ⟨[.gsl (Cs l) 0 l.length none, int n], 2⟩), (2, some ⟨[.gsl (Cs l2) 0 l2.length none, int n2], 2⟩)], 3⟩) (fun s => s.1 ≤ 2) (fun s => 2 - s.1) (0, j5) ?_ (zaM _) ?_
    focus
      simp only [hOl, Int.toNat_one, Nat.one_mul]
      (refine Imp.trans (imp_frz _ _ 20 ⟨Cs C, 18⟩ (by simp only [zaO, lookR, zaa, if_true, if_false, ↓reduceIte]) (by first | exact Ints_isG _ | exact Bools_isG _ | exact Cs_isG _ | (simp [Cell.isG]; done))) ?_; simp only [frzTm, SV.frz, SV.frzL, Cell.frz, frzHp, frzO, Ints_frz, Bools_frz, zad, zae, zaa, if_true, if_false, ↓reduceIte])
      (refine Imp.trans (imp_frz _ _ 40 ⟨[.gsl (Cs C) 0 C.length none, .gsl (Cs C) 18 (C.length - 1) none], 1⟩ (by simp only [zaO, lookR, zaa, if_true, if_false, ↓reduceIte]) (by first | exact Ints_isG _ | exact Bools_isG _ | exact Cs_isG _ | (simp [Cell.isG]; done))) ?_; simp only [frzTm, SV.frz, SV.frzL, Cell.frz, frzHp, frzO, Ints_frz, Bools_frz, zad, zae, zaa, if_true, if_false, ↓reduceIte])
      refine Imp.trans (t := ⟨[(1, i1 group), (5, .one (.optr 0 0)), (6, .one (.optr 1 0)), (7, .one (.optr 2 0)), (70, .one (.gsl [.gsl (Cs C) 0 C.length none, .gsl (Cs C) 18 (C.length - 1) none] 0 2 (some 2))), (71, i1 (2 : Nat)), (72, i1 (0 : Nat))], [(0, some (dice D j5)), (1, some ⟨[.gsl (Cs l) 0 l.length none, int n], 2⟩), (2, some ⟨[.gsl (Cs l2) 0 l2.length none, int n2], 2⟩)], 3⟩) ?_ (imp_w _ _ _ ?_ rfl (Nat.le_refl _))
      · (refine imp_ren _ _ _ [(0, 5, dice D j5), (1, 11, ⟨[.gsl (Cs l) 0 l.length none, int n], 2⟩), (2, 12, ⟨[.gsl (Cs l2) 0 l2.length none, int n2], 2⟩)] (by simp) (by simp) (by simp) (zaw rfl) ?_ rfl (by simp only [zab, zac, false_implies, implies_true, and_true, zaO, lookR, zaa, if_true, if_false, ↓reduceIte, dice] <;> (repeat' apply zau) <;> (first | rfl | trivial)) (by simp only [zab, zac, false_implies, implies_true, and_true, true_and, flat_cons, flat_nil, flat_ints, flat_bools, flat_app, zaK, and_self, eq_self_iff_true, zah, dice]); simp only [zad, zae, zab, zac, false_implies, implies_true, and_true, lk, slot, zaN, zaI, toN, zaa, if_true, if_false, ↓reduceIte, reduceCtorEq])
        all_goals ((repeat' apply zau) <;> (first | rfl | trivial))
      · intro x hx
        simp only [List.mem_cons, zac, or_false] at hx
        rcases hx with rfl | rfl | rfl | rfl | rfl | rfl | rfl <;> first | exact ⟨_, rfl, SVW.refl _⟩ | exact ⟨_, rfl, svw_of (scw_list _ _ _ ⟨fun _ _ h => h, hdr _, trivial⟩)⟩
    clear t1 t2 p1 m1 m2
  rotate_left
  all_goals (
    rintro ⟨m, j⟩ hm
    simp only at hm ⊢
    rcases Nat.lt_or_ge m 2 with hlt | hge
    case inr =>
      have c : ¬ (m : Int) < ((2 : Nat) : Int) := by omega
      have z1 := snew_spec l n (by omega) hnr hct
      have z2 := srnew_spec l n (by omega) hnr
      have hZl : (if chkT l n = true then adF l [] else []).length ≤ 1000000 := by
        split
        · rw [adF_len]; omega
        · exact zaM _
      have hZr : CfR (if chkT l n = true then adF l [] else []) := by
        split
        · exact CfR.adj (L := []) (fun x hx => absurd hx zac) l
        · exact fun x hx => absurd hx zac
      have z3 := srsamec_spec _ _ none none hZl hZl hZr
      rw [scF_refl] at z3
      generalize (if chkT l n = true then adF l [] else []) = Z at *
      simp only [go_sem, zaa, zaj, zak, zal, zan, zai, ↓reduceIte, reduceCtorEq, zaf, zag, zao, zap, zaq, decide_eq_false c, lendI]
      repeat' (first
 | with_reducible refine zau ?_ ?_
 | (unfold OKC; kernel_rfl)
 | (unfold EDG; kernel_rfl)
 | (refine gt_if (fun h => ?_) (fun h => ?_) <;> (try simp only [h]))
 | (apply cg_tp
    case hl => rfl
    case ha => (simp only [zad, zae, prepV, prepC, idx, hpL', lookR, zaa, if_true, if_false]; rfl)
    case hs => rfl
    case h => (first | exact z1 .. | exact z2 .. | exact z3 .. | exact sgsane_spec ..))
 | (apply cl_plain
    case hs => rfl
    case ha => (simp only [zad, zae, prepV, prepC, idx, hpL', lookR, zaa, if_true, if_false]; rfl)
    case h => (first | exact z1 .. | exact z2 .. | exact z3 .. | exact sgsane_spec ..))
 | ((first | refine s1_id ?_ | refine swp_id ?_ | refine sops_id ?_ | refine s2_id ?_); simp only [decide_eq_false c, lendI, zaA, zaC, zah, zaD, zaF, zax, zay, zav, zaH, zaJ, zam, zar, go_sem, zaa, zaj, zak, zal, zan, zai, ↓reduceIte, reduceCtorEq, zaf, zag, zao, zap, zaq, zaN, SV.renL, zaI, Row.ren, renO, bk, back, outUpsFrom, Ints_ren])
 | (intros; omega)
 | (intros; (try simp only [zaE, zaG, zaB, zaz, zas, zat, decide_eq_true_eq, decide_eq_false_iff_not] at *); omega)
 | exact fs_nil trivial rfl
 | fail)
    have c : (m : Int) < ((2 : Nat) : Int) := by omega
    obtain ⟨K, hK, hKr, hKl⟩ : ∃ K : List Cf, [Cell.gsl (Cs C) 0 C.length none, .gsl (Cs O) 0 O.length none].getD m (.sc (.slice none 0 0)) = .gsl (Cs K) 0 K.length none ∧ CfR K ∧ K.length ≤ 1000 := by
      have hm2 : m = 0 ∨ m = 1 := by omega
      rcases hm2 with rfl | rfl
      · exact ⟨C, rfl, hCr, by omega⟩
      · exact ⟨O, rfl, hOr, by omega⟩
    obtain ⟨s0, j7, B, j8, sx, j9, g1, g2, hs0, hsx, g3⟩ := so_cs D hl hr j
    have hGc : List.getD [Cell.gsl (Cs C) 0 C.length none, .gsl (Cs O) 0 O.length none] m (.sc (.slice none 0 0)) = .gsl (Cs K) 0 K.length none := hK
    have a1 := sfits_spec l n K none (by omega) (by omega) hnr hct hKr
    have a2 := srfits_spec l n K none (by omega) (by omega) hnr hKr
    have a3 := sfits_spec l2 n2 K none (by omega) (by omega) hnr2 hct2 hKr
    have a4 := srfits_spec l2 n2 K none (by omega) (by omega) hnr2 hKr
    have a5 := sadj_spec l2 n2 K none (by omega) (by omega) hnr2 hct2 hKr
    have a6 := sradj_spec l2 n2 K none (by omega) (by omega) hnr2 hKr
    have hZl : (if chkT l2 n2 = true then adF l2 K else []).length ≤ 1000000 := by
      split
      · rw [adF_len]; omega
      · exact zaM _
    have hZr : CfR (if chkT l2 n2 = true then adF l2 K else []) := by
      split
      · exact CfR.adj hKr l2
      · exact fun x hx => absurd hx zac
    have a7 := srsamec_spec _ _ none none hZl hZl hZr
    rw [scF_refl] at a7
    generalize (if chkT l2 n2 = true then adF l2 K else []) = Z at *
    clear hZl hZr
    have y1 := fun gx => slow_spec l n K none gx (by omega) (by omega) hnr hct hKr
    have y2 := fun gx => srlow_spec l n K none gx (by omega) (by omega) hnr hKr
    generalize fiC l n K = B1 at *
    generalize fiC l2 n2 K = B2 at *
    have d1 := dgroup_spec D hl hr j9 l n hle.1 (by omega)
    generalize dgV D l j9 = ga at *
    generalize dgA D l j9 = ja at *
    have d2 := dgroup_spec D hl hr ja l n hle.1 (by omega)
    generalize dgV D l ja = gb at *
    generalize dgA D l ja = jb at *
    rcases g3 with ⟨rfl, g3⟩ | ⟨rfl, rfl, rfl⟩
    focus
      simp only [sgt, sgc] at g3
      simp only [sgt, sgc] at g1
      simp only [go_sem, zaa, zaj, zak, zal, zan, zai, ↓reduceIte, reduceCtorEq, zaf, zag, zao, zap, zaq, decide_eq_true c, lendI, hGc]
      repeat' (first
 | with_reducible refine zau ?_ ?_
 | (unfold OKC; kernel_rfl)
 | (unfold EDG; kernel_rfl)
 | (refine gt_if (fun h => ?_) (fun h => ?_) <;> (try simp only [h]))
 | (apply cg_tp
    case hl => rfl
    case ha => (simp only [zad, zae, prepV, prepC, idx, hpL', lookR, zaa, if_true, if_false]; rfl)
    case hs => rfl
    case h => (first | exact g1 .. | exact g2 .. | exact g3 .. | exact a1 .. | exact a2 .. | exact a3 .. | exact a4 .. | exact a5 .. | exact a6 .. | exact a7 .. | exact d1 .. | exact d2 ..))
 | (apply cl_plain
    case hs => rfl
    case ha => (simp only [zad, zae, prepV, prepC, idx, hpL', lookR, zaa, if_true, if_false]; rfl)
    case h => (first | exact g1 .. | exact g2 .. | exact g3 .. | exact a1 .. | exact a2 .. | exact a3 .. | exact a4 .. | exact a5 .. | exact a6 .. | exact a7 .. | exact d1 .. | exact d2 ..))
 | (apply cl_lend
    case hr => (simp only [zad, zae, hpL', lookR, zaa, if_true, if_false]; first | exact map1 _ | exact map2 _ _ | exact map3 _ _ _)
    case ha => (simp only [zad, zae, prepV, prepC, idx, hpL', lookR, zaa, if_true, if_false]; rfl)
    case hs => rfl
    case hn => decide
    case h => (first | exact g1 .. | exact g2 .. | exact g3 .. | exact a1 .. | exact a2 .. | exact a3 .. | exact a4 .. | exact a5 .. | exact a6 .. | exact a7 .. | exact d1 .. | exact d2 ..)
    case hf => (simp only [zab, zac, false_implies, implies_true, and_true, true_and, flat_cons, flat_nil, flat_ints, flat_bools, flat_app, Cs_flat, zaK, and_self, eq_self_iff_true, zah])
    case hl => (simp only [zam, zar]; decide))
 | ((first | refine s1_id ?_ | refine swp_id ?_ | refine sops_id ?_ | refine s2_id ?_); simp only [decide_eq_true c, lendI, dice, hGc, beq_self_eq_true, Bool.not_true, zaA, zaC, zah, zaD, zaF, zax, zay, zav, zaH, zaJ, zam, zar, go_sem, zaa, zaj, zak, zal, zan, zai, ↓reduceIte, reduceCtorEq, zaf, zag, zao, zap, zaq, zaN, SV.renL, zaI, Row.ren, renO, bk, back, outUpsFrom, Ints_ren])
 | (intros; omega)
 | (intros; (try simp only [zaE, zaG, zaB, zaz, zas, zat, decide_eq_true_eq, decide_eq_false_iff_not] at *); omega))
      refine w_loop (ι := Nat) (fun i => ⟨[(1, i1 group), (5, .one (.optr 0 0)), (6, .one (.optr 1 0)), (7, .one (.optr 2 0)), (12, gr K none), (13, .one (.optr 3 0)), (70, .one (.gsl [.gsl (Cs C) 0 C.length none, .gsl (Cs O) 0 O.length none] 0 2 none)), (71, i1 (2 : Nat)), (72, i1 m), (116, .one (.gsl (Ints [group, ga, gb]) 0 3 (some 3))), (117, i1 (3 : Nat)), (118, i1 i)], [(0, some (dice D jb)), (1, some ⟨[.gsl (Cs l) 0 l.length none, int n], 2⟩), (2, some ⟨[.gsl (Cs l2) 0 l2.length none, int n2], 2⟩), (3, some ⟨sgc sx, 17⟩)], 4⟩) (fun i => i ≤ 3) (fun i => 3 - i) 0 ?_ (zaM _) ?_
      focus
        (refine Imp.trans (imp_frz _ _ 50 ⟨Ints [group, ga, gb], 1⟩ (by simp only [zaO, lookR, zaa, if_true, if_false, ↓reduceIte]) (by first | exact Ints_isG _ | exact Bools_isG _ | exact Cs_isG _ | (simp [Cell.isG]; done))) ?_; simp only [frzTm, SV.frz, SV.frzL, Cell.frz, frzHp, frzO, Ints_frz, Bools_frz, zad, zae, zaa, if_true, if_false, ↓reduceIte])
        (refine imp_ren _ _ _ [(0, 0, dice D jb), (1, 1, ⟨[.gsl (Cs l) 0 l.length none, int n], 2⟩), (2, 2, ⟨[.gsl (Cs l2) 0 l2.length none, int n2], 2⟩), (3, 9, ⟨sgc sx, 17⟩)] (by simp) (by simp) (by simp) (zaw rfl) ?_ rfl (by simp only [zab, zac, false_implies, implies_true, and_true, zaO, lookR, zaa, if_true, if_false, ↓reduceIte, dice] <;> (repeat' apply zau) <;> (first | rfl | trivial)) (by simp only [zab, zac, false_implies, implies_true, and_true, true_and, flat_cons, flat_nil, flat_ints, flat_bools, flat_app, zaK, and_self, eq_self_iff_true, zah, dice]); simp only [zad, zae, zab, zac, false_implies, implies_true, and_true, lk, slot, zaN, zaI, toN, zaa, if_true, if_false, ↓reduceIte, reduceCtorEq])
        all_goals ((repeat' apply zau) <;> (first | rfl | trivial))
    rotate_left
    focus
      simp only [sgt, sgc] at g1
      simp only [go_sem, zaa, zaj, zak, zal, zan, zai, ↓reduceIte, reduceCtorEq, zaf, zag, zao, zap, zaq, decide_eq_true c, lendI, hGc]
      repeat' (first
 | with_reducible refine zau ?_ ?_
 | (unfold OKC; kernel_rfl)
 | (unfold EDG; kernel_rfl)
 | (refine gt_if (fun h => ?_) (fun h => ?_) <;> (try simp only [h]))
 | (apply cg_tp
    case hl => rfl
    case ha => (simp only [zad, zae, prepV, prepC, idx, hpL', lookR, zaa, if_true, if_false]; rfl)
    case hs => rfl
    case h => (first | exact g1 .. | exact g2 .. | exact a1 .. | exact a2 .. | exact a3 .. | exact a4 .. | exact a5 .. | exact a6 .. | exact a7 .. | exact d1 .. | exact d2 ..))
 | (apply cl_plain
    case hs => rfl
    case ha => (simp only [zad, zae, prepV, prepC, idx, hpL', lookR, zaa, if_true, if_false]; rfl)
    case h => (first | exact g1 .. | exact g2 .. | exact a1 .. | exact a2 .. | exact a3 .. | exact a4 .. | exact a5 .. | exact a6 .. | exact a7 .. | exact d1 .. | exact d2 ..))
 | (apply cl_lend
    case hr => (simp only [zad, zae, hpL', lookR, zaa, if_true, if_false]; first | exact map1 _ | exact map2 _ _ | exact map3 _ _ _)
    case ha => (simp only [zad, zae, prepV, prepC, idx, hpL', lookR, zaa, if_true, if_false]; rfl)
    case hs => rfl
    case hn => decide
    case h => (first | exact g1 .. | exact g2 .. | exact a1 .. | exact a2 .. | exact a3 .. | exact a4 .. | exact a5 .. | exact a6 .. | exact a7 .. | exact d1 .. | exact d2 ..)
    case hf => (simp only [zab, zac, false_implies, implies_true, and_true, true_and, flat_cons, flat_nil, flat_ints, flat_bools, flat_app, Cs_flat, zaK, and_self, eq_self_iff_true, zah])
    case hl => (simp only [zam, zar]; decide))
 | ((first | refine s1_id ?_ | refine swp_id ?_ | refine sops_id ?_ | refine s2_id ?_); simp only [decide_eq_true c, lendI, dice, hGc, beq_self_eq_true, Bool.not_true, zaA, zaC, zah, zaD, zaF, zax, zay, zav, zaH, zaJ, zam, zar, go_sem, zaa, zaj, zak, zal, zan, zai, ↓reduceIte, reduceCtorEq, zaf, zag, zao, zap, zaq, zaN, SV.renL, zaI, Row.ren, renO, bk, back, outUpsFrom, Ints_ren])
 | (intros; omega)
 | (intros; (try simp only [zaE, zaG, zaB, zaz, zas, zat, decide_eq_true_eq, decide_eq_false_iff_not] at *); omega))
      refine w_loop (ι := Nat) (fun i => ⟨[(1, i1 group), (5, .one (.optr 0 0)), (6, .one (.optr 1 0)), (7, .one (.optr 2 0)), (12, gr K none), (13, .one (.optr 3 0)), (70, .one (.gsl [.gsl (Cs C) 0 C.length none, .gsl (Cs O) 0 O.length none] 0 2 none)), (71, i1 (2 : Nat)), (72, i1 m), (116, .one (.gsl (Ints [group, ga, gb]) 0 3 (some 3))), (117, i1 (3 : Nat)), (118, i1 i)], [(0, some (dice D jb)), (1, some ⟨[.gsl (Cs l) 0 l.length none, int n], 2⟩), (2, some ⟨[.gsl (Cs l2) 0 l2.length none, int n2], 2⟩), (3, some ⟨sgc sx, 17⟩)], 4⟩) (fun i => i ≤ 3) (fun i => 3 - i) 0 ?_ (zaM _) ?_
      focus
        (refine Imp.trans (imp_frz _ _ 46 ⟨Ints [group, ga, gb], 1⟩ (by simp only [zaO, lookR, zaa, if_true, if_false, ↓reduceIte]) (by first | exact Ints_isG _ | exact Bools_isG _ | exact Cs_isG _ | (simp [Cell.isG]; done))) ?_; simp only [frzTm, SV.frz, SV.frzL, Cell.frz, frzHp, frzO, Ints_frz, Bools_frz, zad, zae, zaa, if_true, if_false, ↓reduceIte])
        (refine imp_ren _ _ _ [(0, 0, dice D jb), (1, 1, ⟨[.gsl (Cs l) 0 l.length none, int n], 2⟩), (2, 2, ⟨[.gsl (Cs l2) 0 l2.length none, int n2], 2⟩), (3, 9, ⟨sgc sx, 17⟩)] (by simp) (by simp) (by simp) (zaw rfl) ?_ rfl (by simp only [zab, zac, false_implies, implies_true, and_true, zaO, lookR, zaa, if_true, if_false, ↓reduceIte, dice] <;> (repeat' apply zau) <;> (first | rfl | trivial)) (by simp only [zab, zac, false_implies, implies_true, and_true, true_and, flat_cons, flat_nil, flat_ints, flat_bools, flat_app, zaK, and_self, eq_self_iff_true, zah, dice]); simp only [zad, zae, zab, zac, false_implies, implies_true, and_true, lk, slot, zaN, zaI, toN, zaa, if_true, if_false, ↓reduceIte, reduceCtorEq])
        all_goals ((repeat' apply zau) <;> (first | rfl | trivial))
    rotate_left
    all_goals (
      clear g1 g2 a1 a2 a3 a4 a5 a6 a7 d1 d2
      intro i hi
      simp only at hi ⊢
      rcases Nat.lt_or_ge i 3 with hilt | hige
      case inr =>
        have c2 : ¬ (i : Int) < ((3 : Nat) : Int) := by omega
        simp only [go_sem, zaa, zaj, zak, zal, zan, zai, ↓reduceIte, reduceCtorEq, zaf, zag, zao, zap, zaq, decide_eq_false c2, lendI]
        repeat' (first
 | with_reducible refine zau ?_ ?_
 | (refine gt_if (fun h => ?_) (fun h => ?_) <;> (try simp only [h]))
 | ((first | refine s1_id ?_ | refine swp_id ?_ | refine sops_id ?_ | refine s2_id ?_); simp only [decide_eq_false c2, lendI, zaA, zaC, zah, zaD, zaF, zax, zay, zav, zaH, zaJ, zam, zar, go_sem, zaa, zaj, zak, zal, zan, zai, ↓reduceIte, reduceCtorEq, zaf, zag, zao, zap, zaq, zaN, SV.renL, zaI, Row.ren, renO, bk, back, outUpsFrom, Ints_ren])
 | (intros; omega)
 | (intros; (try simp only [zaE, zaG, zaB, zaz, zas, zat, decide_eq_true_eq, decide_eq_false_iff_not] at *); omega))
        refine le_mk (m + 1, jb) ?_ hlt (by show 2 - (m + 1) < 2 - m; omega)
        (refine imp_ren _ _ _ [(0, 0, dice D jb), (1, 1, ⟨[.gsl (Cs l) 0 l.length none, int n], 2⟩), (2, 2, ⟨[.gsl (Cs l2) 0 l2.length none, int n2], 2⟩)] (by simp) (by simp) (by simp) (zaw rfl) ?_ rfl (by simp only [zab, zac, false_implies, implies_true, and_true, zaO, lookR, zaa, if_true, if_false, ↓reduceIte, dice] <;> (repeat' apply zau) <;> (first | rfl | trivial)) (by simp only [zab, zac, false_implies, implies_true, and_true, true_and, flat_cons, flat_nil, flat_ints, flat_bools, flat_app, zaK, and_self, eq_self_iff_true, zah, dice]); simp only [zad, zae, zab, zac, false_implies, implies_true, and_true, lk, slot, zaN, zaI, toN, zaa, if_true, if_false, ↓reduceIte, reduceCtorEq])
        all_goals ((repeat' apply zau) <;> (first | rfl | trivial | (simp only [zaL]; done) | (simp only [zaL]; rfl) | (simp only [zaL]; trivial)))
      have c2 : (i : Int) < ((3 : Nat) : Int) := by omega
      obtain ⟨gx, hgx⟩ : ∃ gx, [group, ga, gb].getD i 0 = gx := ⟨_, rfl⟩
      have hgx' : ∀ (d : Int), (Ints [group, ga, gb]).getD (i * 1) (int d) = int gx := fun d => by
        rw [Nat.mul_one]
        have hi3 : i = 0 ∨ i = 1 ∨ i = 2 := by omega
        rcases hi3 with rfl | rfl | rfl <;> (rw [← hgx]; rfl)
      have b1' := sset_spec l n K none gx sx (by omega) (by omega) hnr hct hKr hsx
      have b2 := srset_spec l n K none gx sx (by omega) (by omega) hnr hKr hsx
      obtain ⟨k1, k2⟩ := stM_r l n hKr gx hsx
      have b3 := srsamec_spec (stM l n K gx sx).1 (stM l n K gx sx).1 none none (by omega) (by omega) k1
      rw [scF_refl] at b3
      generalize stM l n K gx sx = W at *
      obtain ⟨A, e⟩ := W
      simp only at b1' b2 b3
      have b4 := sget_spec K none gx (by omega) hKr
      have b5 := srget_spec K none gx (by omega) hKr
      have hr1 := sgF_r hKr gx
      have b6 := srsame_spec (sgF K gx) (sgF K gx) hr1.1 hr1.2
      rw [smS_refl] at b6
      generalize sgF K gx = u at *
      have b7 := y1 gx
      have b8 := y2 gx
      have hr2 : SgR (lwM l n K gx) := lwM_r hKr gx
      have b9 := srsame_spec (lwM l n K gx) (lwM l n K gx) hr2.1 hr2.2
      rw [smS_refl] at b9
      generalize lwM l n K gx = u2 at *
      simp only [sgt, sgc] at b1' b2 b4 b5 b6 b7 b8 b9
      simp only [go_sem, zaa, zaj, zak, zal, zan, zai, ↓reduceIte, reduceCtorEq, zaf, zag, zao, zap, zaq, decide_eq_true c2, lendI, hgx, hgx']
      repeat' (first
 | with_reducible refine zau ?_ ?_
 | (unfold OKC; kernel_rfl)
 | (unfold EDG; kernel_rfl)
 | (refine gt_if (fun h => ?_) (fun h => ?_) <;> (try simp only [h]))
 | (apply cg_tp
    case hl => rfl
    case ha => (simp only [zad, zae, prepV, prepC, idx, hpL', lookR, zaa, if_true, if_false]; rfl)
    case hs => rfl
    case h => (first | exact b1' .. | exact b2 .. | exact b3 .. | exact b4 .. | exact b5 .. | exact b6 .. | exact b7 .. | exact b8 .. | exact b9 ..))
 | (apply cl_plain
    case hs => rfl
    case ha => (simp only [zad, zae, prepV, prepC, idx, hpL', lookR, zaa, if_true, if_false]; rfl)
    case h => (first | exact b1' .. | exact b2 .. | exact b3 .. | exact b4 .. | exact b5 .. | exact b6 .. | exact b7 .. | exact b8 .. | exact b9 ..))
 | ((first | refine s1_id ?_ | refine swp_id ?_ | refine sops_id ?_ | refine s2_id ?_); simp only [decide_eq_true c2, lendI, hgx, hgx', decide_true, Bool.not_true, zaA, zaC, zah, zaD, zaF, zax, zay, zav, zaH, zaJ, zam, zar, go_sem, zaa, zaj, zak, zal, zan, zai, ↓reduceIte, reduceCtorEq, zaf, zag, zao, zap, zaq, zaN, SV.renL, zaI, Row.ren, renO, bk, back, outUpsFrom, Ints_ren])
 | (intros; omega)
 | (intros; (try simp only [zaE, zaG, zaB, zaz, zas, zat, decide_eq_true_eq, decide_eq_false_iff_not] at *); omega))
      refine le_mk (i + 1) ?_ hilt (by show 3 - (i + 1) < 3 - i; omega)
      (refine imp_ren _ _ _ [(0, 0, dice D jb), (1, 1, ⟨[.gsl (Cs l) 0 l.length none, int n], 2⟩), (2, 2, ⟨[.gsl (Cs l2) 0 l2.length none, int n2], 2⟩), (3, 3, ⟨sgc sx, 17⟩)] (by simp) (by simp) (by simp) (zaw rfl) ?_ rfl (by simp only [zab, zac, false_implies, implies_true, and_true, zaO, lookR, zaa, if_true, if_false, ↓reduceIte, dice] <;> (repeat' apply zau) <;> (first | rfl | trivial)) (by simp only [zab, zac, false_implies, implies_true, and_true, true_and, flat_cons, flat_nil, flat_ints, flat_bools, flat_app, zaK, and_self, eq_self_iff_true, zah, dice]); simp only [zad, zae, zab, zac, false_implies, implies_true, and_true, lk, slot, zaN, zaI, toN, zaa, if_true, if_false, ↓reduceIte, reduceCtorEq])
      all_goals ((repeat' apply zau) <;> (first | rfl | trivial | (simp only [zaL]; done) | (simp only [zaL]; rfl) | (simp only [zaL]; trivial)))))
theorem lists11_main (g0 : List Cell) (s0 : GTy Try.prog 12 22 g0) (g1 : List Cell) (s1 : GTy Try.prog 12 3 g1) : FnSpec Try.prog 6 [svOf Try.prog 22 g0, svOf Try.prog 3 g1] [] (b1 true) [] := by
  obtain ⟨l, rfl, hl, hr⟩ := gty_ints (n := 10) Try.underlying22 Try.underlying3 s0
  obtain ⟨m1, rfl, w1⟩ := gty_int (n := 11) Try.underlying3 s1
  simp only [svOf, Try.underlying22, Try.underlying3, List.headD_cons]
  exact lists11_spec l m1 hr
end Go.Proofs.Ytcnilpdlcmpbbab
