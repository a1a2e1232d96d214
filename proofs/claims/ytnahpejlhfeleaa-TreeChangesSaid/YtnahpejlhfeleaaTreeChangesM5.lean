/- Contracts of functions, told of values, on the way to TreeChanges (part 5). -/
import Derived.Test.YtnahpejlhfeleaaTreeChangesM3
import Derived.Test.YtnahpejlhfeleaaTreeChangesM4
-- short names of the library's lemmas
open Nat renaming reduceEqDiff → zaa, reduceLeDiff → zad, reduceAdd → zah, reduceSub → zai, reduceMul → zaj, reduceLT → zak, le_of_ble_eq_true → zav, le_refl → zaX, lt_succ_self → zba, zero_le → zbc
open List renaming reduceReplicate → zab, map_cons → zae, map_nil → zaf, forall_mem_cons → zag, not_mem_nil → zao, append_nil → zau, length_cons → zaz, getD_cons_zero → zaA, getD_cons_succ → zaB, length_nil → zaC, take_succ_cons → zaD, set_cons_zero → zaG, set_cons_succ → zaH, flatten_cons → zaI, flatten_nil → zaL, cons_append → zaM, nil_append → zaO, take_zero → zaP, take_nil → zaQ, take_of_length_le → zaV, length_drop → zaW, length_append → zaY, length_take → zbb
open Int renaming cast_ofNat_Int → zac, reduceEq → zal, reduceLT → zam, reduceLE → zan, toNat_natCast → zaS, natCast_add → zaU
open Option renaming getD_some → zaE, getD_none → zaF
open Bool renaming and_eq_false_iff → zap, or_eq_false_iff → zaq, not_eq_true' → zas, not_eq_false' → zat, and_eq_true → zaw, or_eq_true → zax
open And renaming intro → zar
open Go.Proofs.Ytnahpejlhfeleaa.Sh.Cell renaming ren → zay, refs → zaR
open Go.Proofs.Ytnahpejlhfeleaa.Sh.SV renaming renL → zaK, ren → zaN
open Go.Proofs.Ytnahpejlhfeleaa.Sh.Row renaming ren → zaJ
open Go.Proofs.Ytnahpejlhfeleaa.Sh.St renaming hpF → zaT, tmF → zaZ
-- NEWGO
-- PRUNE: cl_lendx cl_use
-- ISG: Cs_isG
-- FLAT: Cs_flat
namespace Go.Proofs.Ytnahpejlhfeleaa
set_option linter.unusedVariables false
set_option linter.unusedSimpArgs false
open Go.Proofs.Ytnahpejlhfeleaa.Sh
set_option maxRecDepth 20000
abbrev newN (n p : Int) (s : Str) : Nd := ⟨n, p, s, 0, 0, 0⟩
def addM (l : List Nd) (n p : Int) (s : Str) : (List Nd × Int) × Int × Int :=
  if (chkT l n && nmOk s) = false then (([], 0), 0, 1)
  else if hasM l n p = false then (([], 0), 0, 4)
  else if l.any (same1 p s) = true then (([], 0), 0, 5)
  else if 8 ≤ ((ancM l n p).length : Int) - 1 ∨ 64 ≤ (l.length : Int) ∨ 2147483647 < n then (([], 0), 0, 7)
  else ((l ++ [newN n p s], n + 1), n, 0)
abbrev adV (x : (List Nd × Int) × Int × Int) : SV := .tup [trV x.1.1 none x.1.2, i1 x.2.1, i1 x.2.2]
set_option maxHeartbeats 16000000 in
theorem radd_spec (l : List Nd) (k : Option Nat) (n p : Int) (s : Str) (hl : l.length ≤ 1000000) (hnm : NmR l) (hs : s.length ≤ 1000000000) : FnSpec Try.prog 30 [trV l k n, i1 p, s1 s] [] (adV (addM l n p s)) [] := by
  have h1 := trcheck_spec l k n hl hnm
  have h2 := rvalid_spec s (by omega)
  have hnl := nd_len l
  unfold addM
  cases hc : chkT l n with
  | false =>
    rw [hc] at h1
    rw [Bool.false_and, if_pos rfl]
    refine fnspec_of mixed TT_ok TT_cl ⟨fun _ => false, fun _ => [], 0, fun _ => false, fun _ => false⟩ Try.func30 rfl (by kernel_rfl) rfl 86 rfl [.cell 6 29, .tmp 7, .tmp 8] rfl ?_
    simp only [go_sem, zaa, zah, zai, zaj, zak, zad, ↓reduceIte, reduceCtorEq, zab, zac, zal, zam, zan]
    repeat' (first
 | (apply cl_plain
    case hs => rfl
    case ha => (simp only [zae, zaf, prepV, prepC, idx, hpL', lookR, zaa, if_true, if_false]; rfl)
    case h => (first | exact h1 .. | exact h2 ..))
 | ((first | refine s1_id ?_ | refine swp_id ?_ | refine sops_id ?_ | refine s2_id ?_); simp only [go_sem, zaa, zah, zai, zaj, zak, zad, ↓reduceIte, reduceCtorEq, zab, zac, zal, zam, zan, zaN, zaK, zay, zaJ, renO, bk, back, outUpsFrom, Ints_ren])
 | (intros; (try simp only [zaw, zax, zas, zat, zap, zaq, decide_eq_true_eq, decide_eq_false_iff_not] at *); omega))
    repeat' (first
 | (refine fs_w ?h1 (svw_of ?h2); (case h1 => repeat' (first | exact trivial | exact rfl | exact zav rfl | apply zar)); (case h2 => repeat' (first | ((with_reducible refine (?_ : CW _ _)); first | exact cw_gnil | exact cw_rfl _ | exact cw_niln _ _ | exact cw_cap _ _ _ _) | exact trivial | (show _ ∧ SWL _ _; apply zar) | (show _ ∧ CWL _ _; apply zar) | show CW _ _)))
 | fail)
  | true =>
  rw [hc] at h1
  rw [Bool.true_and]
  have hV := (chkT_iff l n).1 hc
  cases hv : nmOk s with
  | false =>
    rw [hv] at h2
    rw [if_pos rfl]
    refine fnspec_of mixed TT_ok TT_cl ⟨fun _ => false, fun _ => [], 0, fun _ => false, fun _ => false⟩ Try.func30 rfl (by kernel_rfl) rfl 86 rfl [.cell 6 29, .tmp 7, .tmp 8] rfl ?_
    simp only [go_sem, zaa, zah, zai, zaj, zak, zad, ↓reduceIte, reduceCtorEq, zab, zac, zal, zam, zan]
    repeat' (first
 | (apply cg_tp
    case hl => rfl
    case ha => (simp only [zae, zaf, prepV, prepC, idx, hpL', lookR, zaa, if_true, if_false]; rfl)
    case hs => rfl
    case h => (first | exact h1 .. | exact h2 ..))
 | (apply cl_plain
    case hs => rfl
    case ha => (simp only [zae, zaf, prepV, prepC, idx, hpL', lookR, zaa, if_true, if_false]; rfl)
    case h => (first | exact h1 .. | exact h2 ..))
 | ((first | refine s1_id ?_ | refine swp_id ?_ | refine sops_id ?_ | refine s2_id ?_); simp only [go_sem, zaa, zah, zai, zaj, zak, zad, ↓reduceIte, reduceCtorEq, zab, zac, zal, zam, zan, zaN, zaK, zay, zaJ, renO, bk, back, outUpsFrom, Ints_ren])
 | (intros; (try simp only [zaw, zax, zas, zat, zap, zaq, decide_eq_true_eq, decide_eq_false_iff_not] at *); omega))
    repeat' (first
 | (refine fs_w ?h1 (svw_of ?h2); (case h1 => repeat' (first | exact trivial | exact rfl | exact zav rfl | apply zar)); (case h2 => repeat' (first | ((with_reducible refine (?_ : CW _ _)); first | exact cw_gnil | exact cw_rfl _ | exact cw_niln _ _ | exact cw_cap _ _ _ _) | exact trivial | (show _ ∧ SWL _ _; apply zar) | (show _ ∧ CWL _ _; apply zar) | show CW _ _)))
 | fail)
  | true =>
  rw [hv] at h2
  rw [if_neg (by decide)]
  have h3 := rhas_spec l k n p hl hnm
  cases hh : hasM l n p with
  | false =>
    rw [hh] at h3
    rw [if_pos rfl]
    refine fnspec_of mixed TT_ok TT_cl ⟨fun _ => false, fun _ => [], 0, fun _ => false, fun _ => false⟩ Try.func30 rfl (by kernel_rfl) rfl 86 rfl [.cell 6 29, .tmp 7, .tmp 8] rfl ?_
    simp only [go_sem, zaa, zah, zai, zaj, zak, zad, ↓reduceIte, reduceCtorEq, zab, zac, zal, zam, zan]
    repeat' (first
 | (apply cg_tp
    case hl => rfl
    case ha => (simp only [zae, zaf, prepV, prepC, idx, hpL', lookR, zaa, if_true, if_false]; rfl)
    case hs => rfl
    case h => (first | exact h1 .. | exact h2 .. | exact h3 ..))
 | (apply cl_plain
    case hs => rfl
    case ha => (simp only [zae, zaf, prepV, prepC, idx, hpL', lookR, zaa, if_true, if_false]; rfl)
    case h => (first | exact h1 .. | exact h2 .. | exact h3 ..))
 | ((first | refine s1_id ?_ | refine swp_id ?_ | refine sops_id ?_ | refine s2_id ?_); simp only [go_sem, zaa, zah, zai, zaj, zak, zad, ↓reduceIte, reduceCtorEq, zab, zac, zal, zam, zan, zaN, zaK, zay, zaJ, renO, bk, back, outUpsFrom, Ints_ren])
 | (intros; (try simp only [zaw, zax, zas, zat, zap, zaq, decide_eq_true_eq, decide_eq_false_iff_not] at *); omega))
    repeat' (first
 | (refine fs_w ?h1 (svw_of ?h2); (case h1 => repeat' (first | exact trivial | exact rfl | exact zav rfl | apply zar)); (case h2 => repeat' (first | ((with_reducible refine (?_ : CW _ _)); first | exact cw_gnil | exact cw_rfl _ | exact cw_niln _ _ | exact cw_cap _ _ _ _) | exact trivial | (show _ ∧ SWL _ _; apply zar) | (show _ ∧ CWL _ _; apply zar) | show CW _ _)))
 | fail)
  | true =>
  rw [hh] at h3
  rw [if_neg (by decide)]
  have h4 := rdepth_spec l k n p hl hnm
  refine fnspec_of mixed TT_ok TT_cl ⟨fun _ => false, fun _ => [], 0, fun _ => false, fun _ => false⟩ Try.func30 rfl (by kernel_rfl) rfl 86 rfl [.cell 6 29, .tmp 7, .tmp 8] rfl ?_
  simp only [go_sem, zaa, zah, zai, zaj, zak, zad, ↓reduceIte, reduceCtorEq, zab, zac, zal, zam, zan]
  repeat' (first
 | (apply cg_tp
    case hl => rfl
    case ha => (simp only [zae, zaf, prepV, prepC, idx, hpL', lookR, zaa, if_true, if_false]; rfl)
    case hs => rfl
    case h => (first | exact h1 .. | exact h2 .. | exact h3 ..))
 | (apply cl_plain
    case hs => rfl
    case ha => (simp only [zae, zaf, prepV, prepC, idx, hpL', lookR, zaa, if_true, if_false]; rfl)
    case h => (first | exact h1 .. | exact h2 .. | exact h3 ..))
 | ((first | refine s1_id ?_ | refine swp_id ?_ | refine sops_id ?_ | refine s2_id ?_); simp only [go_sem, zaa, zah, zai, zaj, zak, zad, ↓reduceIte, reduceCtorEq, zab, zac, zal, zam, zan, zaN, zaK, zay, zaJ, renO, bk, back, outUpsFrom, Ints_ren])
 | (intros; (try simp only [zaw, zax, zas, zat, zap, zaq, decide_eq_true_eq, decide_eq_false_iff_not] at *); omega))
  refine w_loop (ι := Nat) (fun m => ⟨[(1, i1 p), (2, s1 s), (3, .one (.optr 0 0)), (6, .one (.optr 1 0)), (9, i1 m)], [(0, some ⟨[.gsl (Cs l) 0 l.length k, int n], 2⟩), (1, some ⟨[.sc (.slice none 0 0), int 0], 2⟩)], 2⟩) (fun m => m ≤ l.length ∧ (l.take m).any (same1 p s) = false) (fun m => l.length - m) 0 ?_ ⟨zbc _, rfl⟩ ?_
  · (refine imp_ren _ _ _ [(0, 0, ⟨[.gsl (Cs l) 0 l.length k, int n], 2⟩), (1, 1, ⟨[.sc (.slice none 0 0), int 0], 2⟩)] (by simp) (by simp) (by simp) (zav rfl) ?_ rfl (by simp only [zag, zao, false_implies, implies_true, and_true, zaT, lookR, zaa, if_true, if_false, ↓reduceIte] <;> (repeat' apply zar) <;> (first | rfl | trivial)) (by simp only [zag, zao, false_implies, implies_true, and_true, true_and, flat_cons, flat_nil, flat_ints, flat_bools, flat_app, zaR, and_self, eq_self_iff_true, zau]); simp only [zae, zaf, zag, zao, false_implies, implies_true, and_true, lk, slot, zaN, zay, toN, zaa, if_true, if_false, ↓reduceIte, reduceCtorEq])
    all_goals ((repeat' apply zar) <;> (first | rfl | trivial))
  clear h1 h2 h3
  rintro m ⟨hm, hno⟩
  simp only at hm hno ⊢
  rcases Nat.lt_or_ge m l.length with hlt | hge
  case inl =>
    have c : (m : Int) < (l.length : Int) := by omega
    obtain ⟨_, g2, _⟩ := nd_f l m hlt (.sc (.int .i64 0))
    have g3 := (nd_f l m hlt (.sc (.string (bs [])))).2.2.1
    have hs2 := any_take_succ l m hlt (same1 p s)
    have hsm : same1 p s (gN l m) = (decide ((gN l m).p = p) && decide ((gN l m).nm = s)) := rfl
    rw [hno, Bool.false_or] at hs2
    cases hdup : same1 p s (gN l m) with
    | true =>
      have hany : l.any (same1 p s) = true := List.any_eq_true.2 ⟨gN l m, getD_mem l m zn hlt, hdup⟩
      rw [if_pos hany]
      rw [hsm] at hdup
      simp only [go_sem, zaa, zah, zai, zaj, zak, zad, ↓reduceIte, reduceCtorEq, zab, zac, zal, zam, zan, decide_eq_true c, g2, g3, hdup]
      repeat' (first
 | with_reducible refine zar ?_ ?_
 | (intros; omega)
 | (intros; (try simp only [zaw, zax, zas, zat, zap, zaq, decide_eq_true_eq, decide_eq_false_iff_not] at *); omega))
      repeat' (first
 | (refine fs_w ?h1 (svw_of ?h2); (case h1 => repeat' (first | exact trivial | exact rfl | exact zav rfl | apply zar)); (case h2 => repeat' (first | ((with_reducible refine (?_ : CW _ _)); first | exact cw_gnil | exact cw_rfl _ | exact cw_niln _ _ | exact cw_cap _ _ _ _) | exact trivial | (show _ ∧ SWL _ _; apply zar) | (show _ ∧ CWL _ _; apply zar) | show CW _ _)))
 | fail)
    | false =>
      rw [hdup] at hs2
      rw [hsm] at hdup
      simp only [go_sem, zaa, zah, zai, zaj, zak, zad, ↓reduceIte, reduceCtorEq, zab, zac, zal, zam, zan, decide_eq_true c, g2, g3, hdup]
      repeat' (first
 | with_reducible refine zar ?_ ?_
 | (intros; omega)
 | (intros; (try simp only [zaw, zax, zas, zat, zap, zaq, decide_eq_true_eq, decide_eq_false_iff_not] at *); omega))
      refine le_mk (m + 1) ?_ ⟨hlt, hs2⟩ (by omega)
      (refine imp_ren _ _ _ [(0, 0, ⟨[.gsl (Cs l) 0 l.length k, int n], 2⟩), (1, 1, ⟨[.sc (.slice none 0 0), int 0], 2⟩)] (by simp) (by simp) (by simp) (zav rfl) ?_ rfl (by simp only [zag, zao, false_implies, implies_true, and_true, zaT, lookR, zaa, if_true, if_false, ↓reduceIte] <;> (repeat' apply zar) <;> (first | rfl | trivial)) (by simp only [zag, zao, false_implies, implies_true, and_true, true_and, flat_cons, flat_nil, flat_ints, flat_bools, flat_app, zaR, and_self, eq_self_iff_true, zau]); simp only [zae, zaf, zag, zao, false_implies, implies_true, and_true, lk, slot, zaN, zay, toN, zaa, if_true, if_false, ↓reduceIte, reduceCtorEq])
      all_goals ((repeat' apply zar) <;> (first | rfl | trivial | (simp only [zaU]; done) | (simp only [zaU]; rfl) | (simp only [zaU]; trivial)))
  have c : ¬ (m : Int) < (l.length : Int) := by omega
  rw [zaV hge] at hno
  rw [if_neg (by rw [hno]; decide)]
  have h5 := trcopy_spec l k n hV.ne hl
  have hmx := hV.mx
  have hpos := hV.nx
  have hp1 := hV.pos (i := l.length - 1) (by have := hV.ne; omega)
  by_cases hd : 8 ≤ ((ancM l n p).length : Int) - 1 ∨ 64 ≤ (l.length : Int) ∨ 2147483647 < n
  · rw [if_pos hd]
    have hdd : (decide (8 ≤ ((ancM l n p).length : Int) - 1) || decide (64 ≤ (l.length : Int)) || decide (2147483647 < n)) = true := by
      simp only [zax, decide_eq_true_eq]; omega
    simp only [go_sem, zaa, zah, zai, zaj, zak, zad, ↓reduceIte, reduceCtorEq, zab, zac, zal, zam, zan, decide_eq_false c, hdd]
    repeat' (first
 | (apply cl_plain
    case hs => rfl
    case ha => (simp only [zae, zaf, prepV, prepC, idx, hpL', lookR, zaa, if_true, if_false]; rfl)
    case h => (first | exact h4 ..))
 | ((first | refine s1_id ?_ | refine swp_id ?_ | refine sops_id ?_ | refine s2_id ?_); simp only [decide_eq_false c, hdd, go_sem, zaa, zah, zai, zaj, zak, zad, ↓reduceIte, reduceCtorEq, zab, zac, zal, zam, zan, zaN, zaK, zay, zaJ, renO, bk, back, outUpsFrom, Ints_ren])
 | (intros; (try simp only [zaw, zax, zas, zat, zap, zaq, decide_eq_true_eq, decide_eq_false_iff_not] at *); omega))
    repeat' (first
 | (refine fs_w ?h1 (svw_of ?h2); (case h1 => repeat' (first | exact trivial | exact rfl | exact zav rfl | apply zar)); (case h2 => repeat' (first | ((with_reducible refine (?_ : CW _ _)); first | exact cw_gnil | exact cw_rfl _ | exact cw_niln _ _ | exact cw_cap _ _ _ _) | exact trivial | (show _ ∧ SWL _ _; apply zar) | (show _ ∧ CWL _ _; apply zar) | show CW _ _)))
 | fail)
  · rw [if_neg hd]
    have hdd : (decide (8 ≤ ((ancM l n p).length : Int) - 1) || decide (64 ≤ (l.length : Int)) || decide (2147483647 < n)) = false := by
      simp only [zaq, decide_eq_false_iff_not]; omega
    have hca : List.take (l.length * 6) (Cs l) = Cs l := Cs_all l _ (zaX _)
    have hpp : Cs l ++ [int n, int p, st s, int 0, int 0, int 0] = Cs (l ++ [newN n p s]) := Cs_snoc l (newN n p s)
    have hla : (l ++ [newN n p s]).length = l.length + 1 := by simp
    simp only [go_sem, zaa, zah, zai, zaj, zak, zad, ↓reduceIte, reduceCtorEq, zab, zac, zal, zam, zan, decide_eq_false c, hdd]
    repeat' (first
 | with_reducible refine zar ?_ ?_
 | (unfold OKC; kernel_rfl)
 | (unfold EDG; kernel_rfl)
 | (apply cl_plain
    case hs => rfl
    case ha => (simp only [zae, zaf, prepV, prepC, idx, hpL', lookR, zaa, if_true, if_false]; rfl)
    case h => (first | exact h4 .. | exact h5 ..))
 | ((first | refine s1_id ?_ | refine swp_id ?_ | refine sops_id ?_ | refine s2_id ?_); simp only [decide_eq_false c, hdd, hca, hpp, zaI, zaL, zau, zaM, zaO, zaG, zaH, zaD, zaP, zaQ, zaz, zaC, go_sem, zaa, zah, zai, zaj, zak, zad, ↓reduceIte, reduceCtorEq, zab, zac, zal, zam, zan, zaN, zaK, zay, zaJ, renO, bk, back, outUpsFrom, Ints_ren])
 | (intros; omega)
 | (intros; (try simp only [zaw, zax, zas, zat, zap, zaq, decide_eq_true_eq, decide_eq_false_iff_not] at *); omega))
    simp only [adV, trV, hla]
    (refine fs_frz 34 ⟨Cs (l ++ [newN n p s]), 6⟩ (by simp only [zaT, lookR, zaa, if_true, if_false, ↓reduceIte]) (by first | exact Ints_isG _ | exact Bools_isG _ | exact Cs_isG _ | (simp [Cell.isG]; done)) ?_; simp only [frzTm, SV.frz, SV.frzL, Cell.frz, frzHp, frzO, Ints_frz, Bools_frz, zae, zaf, zaa, if_true, if_false, ↓reduceIte])
    apply fs_nil <;> (try simp only [go_sem, resV, resS, zaN, zaK, zay, zaZ, zaT, idx, renO, zaJ, evS, slot, lookR, zaa, ↓reduceIte, reduceCtorEq, if_true, if_false, zaE, zaF, zae, zaf, sLoad, readAt, readNeed, Ints_ren, Ints_length, Ints_getD, and_true, true_and, zaA, zaB]) <;> (first | rfl | decide | skip)
def rmM (l : List Nd) (n id : Int) : (List Nd × Int) × Int :=
  if chkT l n = false then (([], 0), 1)
  else if hasM l n id = false then (([], 0), 4)
  else if id = 1 then (([], 0), 9)
  else if 0 < ((chM l n id).length : Int) then (([], 0), 6)
  else ((rmN l id, n), 0)
abbrev rmV (x : (List Nd × Int) × Int) : SV := .tup [trV x.1.1 none x.1.2, i1 x.2]
theorem rmN_take (l : List Nd) (m : Nat) (h : m < l.length) (id : Int) : rmN (l.take (m + 1)) id = rmN (l.take m) id ++ (if (gN l m).i = id then [] else [gN l m]) := by
  unfold rmN
  rw [take_getD l m zn h, List.filter_append]
  by_cases c : (gN l m).i = id
  · rw [if_pos c, List.filter_cons_of_neg (by simp only [zas, decide_eq_false_iff_not]; exact fun e => e c)]; rfl
  · rw [if_neg c, List.filter_cons_of_pos (by simp only [zas, decide_eq_false_iff_not]; exact c)]; rfl
theorem rmN_len (l : List Nd) (id : Int) : (rmN l id).length ≤ l.length := List.length_filter_le _ _
set_option maxHeartbeats 16000000 in
theorem rrem_spec (l : List Nd) (k : Option Nat) (n id : Int) (hl : l.length ≤ 1000000) (hnm : NmR l) : FnSpec Try.prog 31 [trV l k n, i1 id] [] (rmV (rmM l n id)) [] := by
  have h1 := trcheck_spec l k n hl hnm
  have hnl := nd_len l
  unfold rmM
  cases hc : chkT l n with
  | false =>
    rw [hc] at h1
    rw [if_pos rfl]
    refine fnspec_of mixed TT_ok TT_cl ⟨fun _ => false, fun _ => [], 0, fun _ => false, fun _ => false⟩ Try.func31 rfl (by kernel_rfl) rfl 59 rfl [.cell 4 29, .tmp 5] rfl ?_
    simp only [go_sem, zaa, zah, zai, zaj, zak, zad, ↓reduceIte, reduceCtorEq, zab, zac, zal, zam, zan]
    repeat' (first
 | (apply cl_plain
    case hs => rfl
    case ha => (simp only [zae, zaf, prepV, prepC, idx, hpL', lookR, zaa, if_true, if_false]; rfl)
    case h => (first | exact h1 ..))
 | ((first | refine s1_id ?_ | refine swp_id ?_ | refine sops_id ?_ | refine s2_id ?_); simp only [go_sem, zaa, zah, zai, zaj, zak, zad, ↓reduceIte, reduceCtorEq, zab, zac, zal, zam, zan, zaN, zaK, zay, zaJ, renO, bk, back, outUpsFrom, Ints_ren])
 | (intros; (try simp only [zaw, zax, zas, zat, zap, zaq, decide_eq_true_eq, decide_eq_false_iff_not] at *); omega))
    repeat' (first
 | (refine fs_w ?h1 (svw_of ?h2); (case h1 => repeat' (first | exact trivial | exact rfl | exact zav rfl | apply zar)); (case h2 => repeat' (first | ((with_reducible refine (?_ : CW _ _)); first | exact cw_gnil | exact cw_rfl _ | exact cw_niln _ _ | exact cw_cap _ _ _ _) | exact trivial | (show _ ∧ SWL _ _; apply zar) | (show _ ∧ CWL _ _; apply zar) | show CW _ _)))
 | fail)
  | true =>
  rw [hc] at h1
  rw [if_neg (by decide)]
  have h3 := rhas_spec l k n id hl hnm
  cases hh : hasM l n id with
  | false =>
    rw [hh] at h3
    rw [if_pos rfl]
    refine fnspec_of mixed TT_ok TT_cl ⟨fun _ => false, fun _ => [], 0, fun _ => false, fun _ => false⟩ Try.func31 rfl (by kernel_rfl) rfl 59 rfl [.cell 4 29, .tmp 5] rfl ?_
    simp only [go_sem, zaa, zah, zai, zaj, zak, zad, ↓reduceIte, reduceCtorEq, zab, zac, zal, zam, zan]
    repeat' (first
 | (apply cl_plain
    case hs => rfl
    case ha => (simp only [zae, zaf, prepV, prepC, idx, hpL', lookR, zaa, if_true, if_false]; rfl)
    case h => (first | exact h1 .. | exact h3 ..))
 | ((first | refine s1_id ?_ | refine swp_id ?_ | refine sops_id ?_ | refine s2_id ?_); simp only [go_sem, zaa, zah, zai, zaj, zak, zad, ↓reduceIte, reduceCtorEq, zab, zac, zal, zam, zan, zaN, zaK, zay, zaJ, renO, bk, back, outUpsFrom, Ints_ren])
 | (intros; (try simp only [zaw, zax, zas, zat, zap, zaq, decide_eq_true_eq, decide_eq_false_iff_not] at *); omega))
    repeat' (first
 | (refine fs_w ?h1 (svw_of ?h2); (case h1 => repeat' (first | exact trivial | exact rfl | exact zav rfl | apply zar)); (case h2 => repeat' (first | ((with_reducible refine (?_ : CW _ _)); first | exact cw_gnil | exact cw_rfl _ | exact cw_niln _ _ | exact cw_cap _ _ _ _) | exact trivial | (show _ ∧ SWL _ _; apply zar) | (show _ ∧ CWL _ _; apply zar) | show CW _ _)))
 | fail)
  | true =>
  rw [hh] at h3
  rw [if_neg (by decide)]
  by_cases hid : id = 1
  · rw [if_pos hid]
    refine fnspec_of mixed TT_ok TT_cl ⟨fun _ => false, fun _ => [], 0, fun _ => false, fun _ => false⟩ Try.func31 rfl (by kernel_rfl) rfl 59 rfl [.cell 4 29, .tmp 5] rfl ?_
    simp only [go_sem, zaa, zah, zai, zaj, zak, zad, ↓reduceIte, reduceCtorEq, zab, zac, zal, zam, zan, decide_eq_true hid]
    repeat' (first
 | (apply cl_plain
    case hs => rfl
    case ha => (simp only [zae, zaf, prepV, prepC, idx, hpL', lookR, zaa, if_true, if_false]; rfl)
    case h => (first | exact h1 .. | exact h3 ..))
 | ((first | refine s1_id ?_ | refine swp_id ?_ | refine sops_id ?_ | refine s2_id ?_); simp only [decide_eq_true hid, go_sem, zaa, zah, zai, zaj, zak, zad, ↓reduceIte, reduceCtorEq, zab, zac, zal, zam, zan, zaN, zaK, zay, zaJ, renO, bk, back, outUpsFrom, Ints_ren])
 | (intros; (try simp only [zaw, zax, zas, zat, zap, zaq, decide_eq_true_eq, decide_eq_false_iff_not] at *); omega))
    repeat' (first
 | (refine fs_w ?h1 (svw_of ?h2); (case h1 => repeat' (first | exact trivial | exact rfl | exact zav rfl | apply zar)); (case h2 => repeat' (first | ((with_reducible refine (?_ : CW _ _)); first | exact cw_gnil | exact cw_rfl _ | exact cw_niln _ _ | exact cw_cap _ _ _ _) | exact trivial | (show _ ∧ SWL _ _; apply zar) | (show _ ∧ CWL _ _; apply zar) | show CW _ _)))
 | fail)
  rw [if_neg hid]
  have h4 := rkids_spec l k n id hl hnm
  generalize chM l n id = K at *
  by_cases hk : 0 < (K.length : Int)
  · rw [if_pos hk]
    refine fnspec_of mixed TT_ok TT_cl ⟨fun _ => false, fun _ => [], 0, fun _ => false, fun _ => false⟩ Try.func31 rfl (by kernel_rfl) rfl 59 rfl [.cell 4 29, .tmp 5] rfl ?_
    simp only [go_sem, zaa, zah, zai, zaj, zak, zad, ↓reduceIte, reduceCtorEq, zab, zac, zal, zam, zan, decide_eq_false hid, decide_eq_true hk]
    repeat' (first
 | (apply cl_plain
    case hs => rfl
    case ha => (simp only [zae, zaf, prepV, prepC, idx, hpL', lookR, zaa, if_true, if_false]; rfl)
    case h => (first | exact h1 .. | exact h3 .. | exact h4 ..))
 | ((first | refine s1_id ?_ | refine swp_id ?_ | refine sops_id ?_ | refine s2_id ?_); simp only [decide_eq_false hid, decide_eq_true hk, go_sem, zaa, zah, zai, zaj, zak, zad, ↓reduceIte, reduceCtorEq, zab, zac, zal, zam, zan, zaN, zaK, zay, zaJ, renO, bk, back, outUpsFrom, Ints_ren])
 | (intros; (try simp only [zaw, zax, zas, zat, zap, zaq, decide_eq_true_eq, decide_eq_false_iff_not] at *); omega))
    repeat' (first
 | (refine fs_w ?h1 (svw_of ?h2); (case h1 => repeat' (first | exact trivial | exact rfl | exact zav rfl | apply zar)); (case h2 => repeat' (first | ((with_reducible refine (?_ : CW _ _)); first | exact cw_gnil | exact cw_rfl _ | exact cw_niln _ _ | exact cw_cap _ _ _ _) | exact trivial | (show _ ∧ SWL _ _; apply zar) | (show _ ∧ CWL _ _; apply zar) | show CW _ _)))
 | fail)
  rw [if_neg hk]
  refine fnspec_of mixed TT_ok TT_cl ⟨fun _ => false, fun _ => [], 0, fun _ => false, fun _ => false⟩ Try.func31 rfl (by kernel_rfl) rfl 59 rfl [.cell 4 29, .tmp 5] rfl ?_
  simp only [go_sem, zaa, zah, zai, zaj, zak, zad, ↓reduceIte, reduceCtorEq, zab, zac, zal, zam, zan, decide_eq_false hid, decide_eq_false hk]
  repeat' (first
 | (apply cl_plain
    case hs => rfl
    case ha => (simp only [zae, zaf, prepV, prepC, idx, hpL', lookR, zaa, if_true, if_false]; rfl)
    case h => (first | exact h1 .. | exact h3 .. | exact h4 ..))
 | ((first | refine s1_id ?_ | refine swp_id ?_ | refine sops_id ?_ | refine s2_id ?_); simp only [decide_eq_false hid, decide_eq_false hk, go_sem, zaa, zah, zai, zaj, zak, zad, ↓reduceIte, reduceCtorEq, zab, zac, zal, zam, zan, zaN, zaK, zay, zaJ, renO, bk, back, outUpsFrom, Ints_ren])
 | (intros; (try simp only [zaw, zax, zas, zat, zap, zaq, decide_eq_true_eq, decide_eq_false_iff_not] at *); omega))
  refine w_loop (ι := Nat) (fun m => ⟨[(1, i1 id), (2, .one (.optr 0 0)), (4, .one (.optr 1 0)), (6, .one (.optr 2 0)), (7, i1 m)], [(0, some ⟨[.gsl (Cs l) 0 l.length k, int n], 2⟩), (1, some ⟨[.sc (.slice none 0 0), int 0], 2⟩), (2, some ⟨[.osl 3 0 (rmN (l.take m) id).length none, int n], 2⟩), (3, some ⟨Cs (rmN (l.take m) id), 6⟩)], 4⟩) (fun m => m ≤ l.length) (fun m => l.length - m) 0 ?_ (zbc _) ?_
  · (refine Imp.trans (imp_nilC _ _ 24 0 6 99 (by simp only []; omega) (by simp only [zaT, lookR, zaa, if_true, if_false, ↓reduceIte]; rfl) rfl) ?_)
    (refine imp_sub _ _ _ [(0, 0), (1, 1), (2, 24), (3, 99)] (by simp) (by simp) (by simp) (zav rfl) ?_ (by simp only [zae, zaf, zaT, lookR, renO, zaJ, zay, toN, Ints_ren, Bools_ren, zaa, if_true, if_false, ↓reduceIte, Cs_ren, Cs_flat, zaG] <;> (try rfl)) (by simp only [zag, zao, false_implies, implies_true, and_true, zaT, lookR, zaa, if_true, if_false, ↓reduceIte, Option.some.injEq, forall_eq'] <;> ((repeat' with_reducible apply zar) <;> (first | with_reducible trivial | exact fun c hc q hq => absurd hq (Ints_refs0 _ _ c hc) | exact fun c hc q hq => absurd hq (by rw [Cs_flat _ c hc]; exact zao) | (simp [zaR, toN]; done)))); simp only [zae, zaf, zag, zao, false_implies, implies_true, and_true, lk, slot, zaN, zay, toN, zaa, if_true, if_false, ↓reduceIte, reduceCtorEq])
    all_goals ((repeat' apply zar) <;> (first | rfl | trivial))
  clear h1 h3 h4
  intro m hm
  simp only at hm ⊢
  rcases Nat.lt_or_ge m l.length with hlt | hge
  case inr =>
    have c : ¬ (m : Int) < (l.length : Int) := by omega
    rw [zaV hge]
    simp only [go_sem, zaa, zah, zai, zaj, zak, zad, ↓reduceIte, reduceCtorEq, zab, zac, zal, zam, zan, decide_eq_false c]
    repeat' (first
 | (intros; (try simp only [zaw, zax, zas, zat, zap, zaq, decide_eq_true_eq, decide_eq_false_iff_not] at *); omega))
    (refine fs_frz 3 ⟨Cs (rmN l id), 6⟩ (by simp only [zaT, lookR, zaa, if_true, if_false, ↓reduceIte]) (by first | exact Ints_isG _ | exact Bools_isG _ | exact Cs_isG _ | (simp [Cell.isG]; done)) ?_; simp only [frzTm, SV.frz, SV.frzL, Cell.frz, frzHp, frzO, Ints_frz, Bools_frz, zae, zaf, zaa, if_true, if_false, ↓reduceIte])
    apply fs_nil <;> (try simp only [go_sem, resV, resS, zaN, zaK, zay, zaZ, zaT, idx, renO, zaJ, evS, slot, lookR, zaa, ↓reduceIte, reduceCtorEq, if_true, if_false, zaE, zaF, zae, zaf, sLoad, readAt, readNeed, Ints_ren, Ints_length, Ints_getD, and_true, true_and, zaA, zaB]) <;> (first | rfl | decide | skip)
  have c : (m : Int) < (l.length : Int) := by omega
  obtain ⟨g1, _⟩ := nd_f l m hlt (.sc (.int .i64 0))
  have hN := nd_td l m hlt
  have ht := rmN_take l m hlt id
  have htl := rmN_len (l.take m) id
  rw [zbb] at htl
  generalize rmN (l.take m) id = K2 at *
  by_cases hi : (gN l m).i = id
  · rw [if_pos hi, zau] at ht
    simp only [go_sem, zaa, zah, zai, zaj, zak, zad, ↓reduceIte, reduceCtorEq, zab, zac, zal, zam, zan, decide_eq_true c, g1, decide_eq_true hi]
    repeat' (first
 | with_reducible refine zar ?_ ?_
 | (intros; omega)
 | (intros; (try simp only [zaw, zax, zas, zat, zap, zaq, decide_eq_true_eq, decide_eq_false_iff_not] at *); omega))
    refine le_mk (m + 1) ?_ hlt (by omega)
    simp only [ht]
    (refine imp_sub _ _ _ [(0, 0), (1, 1), (2, 2), (3, 3)] (by simp) (by simp) (by simp) (zav rfl) ?_ (by simp only [zae, zaf, zaT, lookR, renO, zaJ, zay, toN, Ints_ren, Bools_ren, zaa, if_true, if_false, ↓reduceIte, Cs_ren, Cs_flat] <;> (try rfl)) (by simp only [zag, zao, false_implies, implies_true, and_true, zaT, lookR, zaa, if_true, if_false, ↓reduceIte, Option.some.injEq, forall_eq'] <;> ((repeat' with_reducible apply zar) <;> (first | with_reducible trivial | exact fun c hc q hq => absurd hq (Ints_refs0 _ _ c hc) | exact fun c hc q hq => absurd hq (by rw [Cs_flat _ c hc]; exact zao) | (simp [zaR, toN]; done)))); simp only [zae, zaf, zag, zao, false_implies, implies_true, and_true, lk, slot, zaN, zay, toN, zaa, if_true, if_false, ↓reduceIte, reduceCtorEq])
    all_goals ((repeat' apply zar) <;> (first | rfl | trivial | (simp only [zaU]; done) | (simp only [zaU]; rfl) | (simp only [zaU]; trivial)))
  · rw [if_neg hi] at ht
    have hca : List.take (K2.length * 6) (Cs K2) = Cs K2 := Cs_all K2 _ (zaX _)
    have hck : (Cs K2).length = K2.length * 6 := Cs_len K2
    have hla : (K2 ++ [gN l m]).length = K2.length + 1 := by simp
    have hpp : Cs K2 ++ ndc (gN l m) = Cs (K2 ++ [gN l m]) := Cs_snoc K2 _
    simp only [ndc] at hN hpp
    simp only [go_sem, zaa, zah, zai, zaj, zak, zad, ↓reduceIte, reduceCtorEq, zab, zac, zal, zam, zan, decide_eq_true c, g1, decide_eq_false hi, hN]
    repeat' (first
 | with_reducible refine zar ?_ ?_
 | (unfold OKC; kernel_rfl)
 | (unfold EDG; kernel_rfl)
 | (intros; omega)
 | (intros; (try simp only [zaw, zax, zas, zat, zap, zaq, decide_eq_true_eq, decide_eq_false_iff_not] at *); omega))
    all_goals try (exact zaX _)
    all_goals try (rw [hck]; exact zaX _)
    all_goals try (show List.length _ = 6; rfl)
    refine le_mk (m + 1) ?_ hlt (by omega)
    simp only [ht, hla, hca, zaI, zaL, zau, zaM, zaO, zaG, zaH, zaD, zaP, zaQ, zaz, zaC]
    simp only [hpp]
    (refine imp_sub _ _ _ [(0, 0), (1, 1), (2, 2), (3, 25)] (by simp) (by simp) (by simp) (zav rfl) ?_ (by simp only [zae, zaf, zaT, lookR, renO, zaJ, zay, toN, Ints_ren, Bools_ren, zaa, if_true, if_false, ↓reduceIte, Cs_ren, Cs_flat] <;> (try rfl)) (by simp only [zag, zao, false_implies, implies_true, and_true, zaT, lookR, zaa, if_true, if_false, ↓reduceIte, Option.some.injEq, forall_eq'] <;> ((repeat' with_reducible apply zar) <;> (first | with_reducible trivial | exact fun c hc q hq => absurd hq (Ints_refs0 _ _ c hc) | exact fun c hc q hq => absurd hq (by rw [Cs_flat _ c hc]; exact zao) | (simp [zaR, toN]; done)))); simp only [zae, zaf, zag, zao, false_implies, implies_true, and_true, lk, slot, zaN, zay, toN, zaa, if_true, if_false, ↓reduceIte, reduceCtorEq])
    all_goals ((repeat' apply zar) <;> (first | rfl | trivial | (simp only [zaU]; done) | (simp only [zaU]; rfl) | (simp only [zaU]; trivial)))
end Go.Proofs.Ytnahpejlhfeleaa
namespace Go.Proofs.Ytnahpejlhfeleaa
set_option linter.unusedVariables false
set_option linter.unusedSimpArgs false
open Go.Proofs.Ytnahpejlhfeleaa.Sh
abbrev dice (l : List Int) (i : Nat) : Row := ⟨[.gsl (Ints l) 0 l.length none, int i], 2⟩
abbrev dp : SV := .one (.optr 0 0)
def nxS (l : List Int) (i : Nat) (n : Int) : Bool := decide ((l.length : Int) ≤ i) || decide (n < 1)
def nxV (l : List Int) (i : Nat) (n : Int) : Int := if nxS l i n = true then 0 else l.getD i 0 % n
def nxA (l : List Int) (i : Nat) (n : Int) : Nat := if nxS l i n = true then i else i + 1
theorem roll_spec (l : List Int) : FnSpec Try.prog 9 [gi l none] [] dp [some (dice l 0)] := by
  refine fnspec_of mixed TT_ok TT_cl ⟨fun _ => false, fun _ => [], 0, fun _ => false, fun _ => false⟩ Try.func9 rfl (by kernel_rfl) rfl 6 rfl [.tmp 2] rfl ?_
  simp only [go_sem, zaa, zah, zai, zaj, zak, zad, ↓reduceIte, reduceCtorEq, zab, zac, zal, zam, zan]
  repeat' (first
 | fail)
  all_goals (refine fs_flat [(3, dice l 0)] (by simp) (by simp only [zae, zaf]; decide) (by simp only [go_sem, resV, resS, zaN, zaK, zay, zaZ, zaT, idx, renO, zaJ, evS, slot, lookR, zaa, ↓reduceIte, reduceCtorEq, if_true, if_false, zaE, zaF, zae, zaf, sLoad, readAt, readNeed, Ints_ren, Ints_length, Ints_getD, and_true, true_and, zaA, zaB]; try decide) ?_ (by simp only [zag, zao, false_implies, implies_true, and_true, zaT, lookR, zaa, if_true, if_false, ↓reduceIte] <;> (repeat' apply zar) <;> (first | rfl | trivial)) (by simp only [zag, zao, false_implies, implies_true, and_true, true_and, flat_cons, flat_nil, flat_ints, flat_bools, flat_app, zaR, and_self, eq_self_iff_true, zau]) ?_ <;> (try simp only [go_sem, resV, resS, zaN, zaK, zay, zaZ, zaT, idx, renO, zaJ, evS, slot, lookR, zaa, ↓reduceIte, reduceCtorEq, if_true, if_false, zaE, zaF, zae, zaf, sLoad, readAt, readNeed, Ints_ren, Ints_length, Ints_getD, and_true, true_and, zaA, zaB]) <;> (try rfl))
theorem light_spec (l : List Int) (c : Option Nat) : FnSpec Try.prog 7 [gi l c] [] (b1 (decide ((l.length : Int) ≤ 600))) [] := by
  refine fnspec_of mixed TT_ok TT_cl ⟨fun _ => false, fun _ => [], 0, fun _ => false, fun _ => false⟩ Try.func7 rfl (by kernel_rfl) rfl 6 rfl [.tmp 2] rfl ?_
  simp only [go_sem, zaa, zah, zai, zaj, zak, zad, ↓reduceIte, reduceCtorEq, zab, zac, zal, zam, zan]
  repeat' (first
 | exact fs_nil trivial rfl
 | fail)
theorem tmod_emod (x n : Int) (h : 0 < n) : (if x.tmod n < 0 then x.tmod n + n else x.tmod n) = x % n := by
  have h1 := Int.emod_nonneg x (show n ≠ 0 by omega)
  have h2 := Int.emod_lt_of_pos x h
  rw [Int.tmod_eq_emod]
  split <;> split <;> omega
theorem next_spec (l : List Int) (i : Nat) (n : Int) (hl : l.length ≤ 600) (hr : ∀ x ∈ l, -9223372036854775808 ≤ x ∧ x ≤ 9223372036854775807) (hn : n ≤ 9223372036854775807) : FnSpec Try.prog 12 [dp, i1 n] [dice l i] (i1 (nxV l i n)) [some (dice l (nxA l i n))] := by
  refine fnspec_of mixed TT_ok TT_cl ⟨fun _ => false, fun _ => [], 1, fun _ => false, fun _ => false⟩ Try.func12 rfl (by kernel_rfl) rfl 46 rfl [.tmp 4] rfl ?_
  simp only [go_sem, zaa, zah, zai, zaj, zak, zad, ↓reduceIte, reduceCtorEq, zab, zac, zal, zam, zan]
  repeat' (first
 | with_reducible refine zar ?_ ?_
 | (unfold OKC; kernel_rfl)
 | (unfold EDG; kernel_rfl)
 | (refine gt_if (fun h => ?_) (fun h => ?_) <;> (first | (simp only [h, go_sem, zaa, zah, zai, zaj, zak, zad, ↓reduceIte, reduceCtorEq, zab, zac, zal, zam, zan]; done) | simp only [h, go_sem, zaa, zah, zai, zaj, zak, zad, ↓reduceIte, reduceCtorEq, zab, zac, zal, zam, zan] | skip))
 | (intros; omega)
 | (intros; (try simp only [zaw, zax, zas, zat, zap, zaq, decide_eq_true_eq, decide_eq_false_iff_not] at *); omega)
 | fail)
  · (refine fs_flat [(0, dice l i)] (by simp) (by simp only [zae, zaf]; decide) (by simp only [go_sem, resV, resS, zaN, zaK, zay, zaZ, zaT, idx, renO, zaJ, evS, slot, lookR, zaa, ↓reduceIte, reduceCtorEq, if_true, if_false, zaE, zaF, zae, zaf, sLoad, readAt, readNeed, Ints_ren, Ints_length, Ints_getD, and_true, true_and, zaA, zaB]; try decide) ?_ (by simp only [zag, zao, false_implies, implies_true, and_true, zaT, lookR, zaa, if_true, if_false, ↓reduceIte] <;> (repeat' apply zar) <;> (first | rfl | trivial)) (by simp only [zag, zao, false_implies, implies_true, and_true, true_and, flat_cons, flat_nil, flat_ints, flat_bools, flat_app, zaR, and_self, eq_self_iff_true, zau]) ?_ <;> (try simp only [go_sem, resV, resS, zaN, zaK, zay, zaZ, zaT, idx, renO, zaJ, evS, slot, lookR, zaa, ↓reduceIte, reduceCtorEq, if_true, if_false, zaE, zaF, zae, zaf, sLoad, readAt, readNeed, Ints_ren, Ints_length, Ints_getD, and_true, true_and, zaA, zaB]) <;> (try rfl))
    · simp only [nxV, nxS, h, if_true]
    · simp only [nxA, nxS, h, if_true]
  all_goals
    rename_i h0
    have h1 : nxS l i n = false := h0
    simp only [zaq, decide_eq_false_iff_not] at h0
    have e := tmod_emod (l.getD i 0) n (by omega)
    have b1 := Int.tmod_lt_of_pos (l.getD i 0) (b := n) (by omega)
    have b2 := Int.lt_tmod_of_pos (l.getD i 0) (b := n) (by omega)
    simp only [decide_eq_true_eq, decide_eq_false_iff_not] at h
    first
    | omega
    | rw [if_pos h] at e
      (refine fs_flat [(0, dice l (i + 1))] (by simp) (by simp only [zae, zaf]; decide) (by simp only [go_sem, resV, resS, zaN, zaK, zay, zaZ, zaT, idx, renO, zaJ, evS, slot, lookR, zaa, ↓reduceIte, reduceCtorEq, if_true, if_false, zaE, zaF, zae, zaf, sLoad, readAt, readNeed, Ints_ren, Ints_length, Ints_getD, and_true, true_and, zaA, zaB]; try decide) ?_ (by simp only [zag, zao, false_implies, implies_true, and_true, zaT, lookR, zaa, if_true, if_false, ↓reduceIte] <;> (repeat' apply zar) <;> (first | rfl | trivial)) (by simp only [zag, zao, false_implies, implies_true, and_true, true_and, flat_cons, flat_nil, flat_ints, flat_bools, flat_app, zaR, and_self, eq_self_iff_true, zau]) ?_ <;> (try simp only [go_sem, resV, resS, zaN, zaK, zay, zaZ, zaT, idx, renO, zaJ, evS, slot, lookR, zaa, ↓reduceIte, reduceCtorEq, if_true, if_false, zaE, zaF, zae, zaf, sLoad, readAt, readNeed, Ints_ren, Ints_length, Ints_getD, and_true, true_and, zaA, zaB]) <;> (try rfl))
      all_goals simp only [nxV, nxA, h1, if_false, Bool.false_eq_true, e]
    | rw [if_neg h] at e
      (refine fs_flat [(0, dice l (i + 1))] (by simp) (by simp only [zae, zaf]; decide) (by simp only [go_sem, resV, resS, zaN, zaK, zay, zaZ, zaT, idx, renO, zaJ, evS, slot, lookR, zaa, ↓reduceIte, reduceCtorEq, if_true, if_false, zaE, zaF, zae, zaf, sLoad, readAt, readNeed, Ints_ren, Ints_length, Ints_getD, and_true, true_and, zaA, zaB]; try decide) ?_ (by simp only [zag, zao, false_implies, implies_true, and_true, zaT, lookR, zaa, if_true, if_false, ↓reduceIte] <;> (repeat' apply zar) <;> (first | rfl | trivial)) (by simp only [zag, zao, false_implies, implies_true, and_true, true_and, flat_cons, flat_nil, flat_ints, flat_bools, flat_app, zaR, and_self, eq_self_iff_true, zau]) ?_ <;> (try simp only [go_sem, resV, resS, zaN, zaK, zay, zaZ, zaT, idx, renO, zaJ, evS, slot, lookR, zaa, ↓reduceIte, reduceCtorEq, if_true, if_false, zaE, zaF, zae, zaf, sLoad, readAt, readNeed, Ints_ren, Ints_length, Ints_getD, and_true, true_and, zaA, zaB]) <;> (try rfl))
      all_goals simp only [nxV, nxA, h1, if_false, Bool.false_eq_true, e]
theorem bool_spec (l : List Int) (i : Nat) (n : Int) (hl : l.length ≤ 600) (hr : ∀ x ∈ l, -9223372036854775808 ≤ x ∧ x ≤ 9223372036854775807) (hn : 0 ≤ n ∧ n ≤ 65536) : FnSpec Try.prog 41 [dp, i1 n] [dice l i] (b1 (decide (nxV l i n = n - 1))) [some (dice l (nxA l i n))] := by
  refine fnspec_of mixed TT_ok TT_cl ⟨fun _ => false, fun f => if f = 12 then [0] else [], 1, fun _ => false, fun _ => false⟩ Try.func41 rfl (by kernel_rfl) rfl 11 rfl [.tmp 4] rfl ?_
  simp only [go_sem, zaa, zah, zai, zaj, zak, zad, ↓reduceIte, reduceCtorEq, zab, zac, zal, zam, zan]
  repeat' (first
 | with_reducible refine zar ?_ ?_
 | (apply cl_lend
    case hr => (simp only [zae, zaf, hpL', lookR, zaa, if_true, if_false]; first | exact map1 _ | exact map2 _ _ | exact map3 _ _ _)
    case ha => (simp only [zae, zaf, prepV, prepC, idx, hpL', lookR, zaa, if_true, if_false]; rfl)
    case hs => rfl
    case hn => decide
    case h => (first | exact next_spec _ _ _ hl hr (by omega))
    case hf => (simp only [zag, zao, false_implies, implies_true, and_true, true_and, flat_cons, flat_nil, flat_ints, flat_bools, flat_app, zaR, and_self, eq_self_iff_true, zau])
    case hl => (simp only [zaz, zaC]; decide)
    case' hk => simp only [go_sem, zaa, zah, zai, zaj, zak, zad, ↓reduceIte, reduceCtorEq, zab, zac, zal, zam, zan, zaN, zaK, zay, zaJ, renO, bk, back, outUpsFrom, Ints_ren])
 | (intros; omega)
 | fail)
  (refine fs_flat [(0, dice l (nxA l i n))] (by simp) (by simp only [zae, zaf]; decide) (by simp only [go_sem, resV, resS, zaN, zaK, zay, zaZ, zaT, idx, renO, zaJ, evS, slot, lookR, zaa, ↓reduceIte, reduceCtorEq, if_true, if_false, zaE, zaF, zae, zaf, sLoad, readAt, readNeed, Ints_ren, Ints_length, Ints_getD, and_true, true_and, zaA, zaB]; try decide) ?_ (by simp only [zag, zao, false_implies, implies_true, and_true, zaT, lookR, zaa, if_true, if_false, ↓reduceIte] <;> (repeat' apply zar) <;> (first | rfl | trivial)) (by simp only [zag, zao, false_implies, implies_true, and_true, true_and, flat_cons, flat_nil, flat_ints, flat_bools, flat_app, zaR, and_self, eq_self_iff_true, zau]) ?_ <;> (try simp only [go_sem, resV, resS, zaN, zaK, zay, zaZ, zaT, idx, renO, zaJ, evS, slot, lookR, zaa, ↓reduceIte, reduceCtorEq, if_true, if_false, zaE, zaF, zae, zaf, sLoad, readAt, readNeed, Ints_ren, Ints_length, Ints_getD, and_true, true_and, zaA, zaB]) <;> (try rfl))
end Go.Proofs.Ytnahpejlhfeleaa
-- NEWGO
-- PRUNE: cl_lendx cl_use
-- ISG: Strs_isG
-- FLAT: Strs_flat
namespace Go.Proofs.Ytnahpejlhfeleaa
set_option linter.unusedVariables false
set_option linter.unusedSimpArgs false
open Go.Proofs.Ytnahpejlhfeleaa.Sh
set_option maxRecDepth 20000
def nmL : List Str := [[97], [98], [99], [119, 101, 98], [100, 98, 45, 49], [88, 95, 57]]
def wdL : List Str := [[97], [98], [99], [119, 101, 98], [100, 98, 45, 49], [88, 95, 57], [], [45, 97], [97, 47, 98], [195, 169], List.replicate 32 97, List.replicate 33 97]
theorem nx_rng (l : List Int) (i : Nat) (n : Int) (hn : 0 < n) : 0 ≤ nxV l i n ∧ nxV l i n < n := by
  unfold nxV
  split
  · omega
  · exact ⟨Int.emod_nonneg _ (by omega), Int.emod_lt_of_pos _ hn⟩
def nmV (l : List Int) (i : Nat) : Str := nmL.getD (nxV l i 6).toNat []
def wdV (l : List Int) (i : Nat) : Str := wdL.getD (nxV l i 12).toNat []
theorem getD_len (L : List Str) (n : Nat) (h : ∀ s ∈ L, s.length ≤ n) (j : Nat) : (L.getD j []).length ≤ n := by
  rw [List.getD_eq_getElem?_getD]
  cases hx : L[j]? with
  | none => exact zbc _
  | some s => exact h s (List.mem_of_getElem? hx)
theorem nmV_len (l : List Int) (i : Nat) : (nmV l i).length ≤ 4 := getD_len nmL 4 (by decide) _
theorem wdV_len (l : List Int) (i : Nat) : (wdV l i).length ≤ 33 := getD_len wdL 33 (by decide) _
variable {l : List Int} (hl : l.length ≤ 600) (hr : ∀ x ∈ l, -9223372036854775808 ≤ x ∧ x ≤ 9223372036854775807)
include hl hr
theorem name_spec (i : Nat) : FnSpec Try.prog 15 [dp] [dice l i] (s1 (nmV l i)) [some (dice l (nxA l i 6))] := by
  have h1 := next_spec l i 6 hl hr (by omega)
  have h2 := nx_rng l i 6 (by omega)
  have hat := Strs_getD' nmL (nxV l i 6).toNat (.sc (.string (bs []))) (by show _ < 6; omega)
  simp only [Strs, nmL, zae, zaf] at hat
  unfold nmV nmL
  generalize nxV l i 6 = x at *
  generalize nxA l i 6 = j at *
  refine fnspec_of mixed TT_ok TT_cl ⟨fun _ => false, fun f => if f = 12 then [0] else [], 1, fun _ => false, fun _ => false⟩ Try.func15 rfl (by kernel_rfl) rfl 8 rfl [.tmp 2] rfl ?_
  simp only [go_sem, zaa, zah, zai, zaj, zak, zad, ↓reduceIte, reduceCtorEq, zab, zac, zal, zam, zan]
  repeat' (first
 | with_reducible refine zar ?_ ?_
 | (apply cl_lend
    case hr => (simp only [zae, zaf, hpL', lookR, zaa, if_true, if_false]; first | exact map1 _ | exact map2 _ _ | exact map3 _ _ _)
    case ha => (simp only [zae, zaf, prepV, prepC, idx, hpL', lookR, zaa, if_true, if_false]; rfl)
    case hs => rfl
    case hn => decide
    case h => (first | exact h1 ..)
    case hf => (simp only [zag, zao, false_implies, implies_true, and_true, true_and, flat_cons, flat_nil, flat_ints, flat_bools, flat_app, Strs_flat, zaR, and_self, eq_self_iff_true, zau])
    case hl => (simp only [zaz, zaC]; decide))
 | ((first | refine s1_id ?_ | refine swp_id ?_ | refine sops_id ?_ | refine s2_id ?_); simp only [hat, dice, go_sem, zaa, zah, zai, zaj, zak, zad, ↓reduceIte, reduceCtorEq, zab, zac, zal, zam, zan, zaN, zaK, zay, zaJ, renO, bk, back, outUpsFrom, Ints_ren])
 | (intros; omega)
 | fail)
  (refine fs_flat [(0, dice l j)] (by simp) (by simp only [zae, zaf]; decide) (by simp only [go_sem, resV, resS, zaN, zaK, zay, zaZ, zaT, idx, renO, zaJ, evS, slot, lookR, zaa, ↓reduceIte, reduceCtorEq, if_true, if_false, zaE, zaF, zae, zaf, sLoad, readAt, readNeed, Ints_ren, Ints_length, Ints_getD, and_true, true_and, zaA, zaB]; try decide) ?_ (by simp only [zag, zao, false_implies, implies_true, and_true, zaT, lookR, zaa, if_true, if_false, ↓reduceIte] <;> (repeat' apply zar) <;> (first | rfl | trivial)) (by simp only [zag, zao, false_implies, implies_true, and_true, true_and, flat_cons, flat_nil, flat_ints, flat_bools, flat_app, zaR, and_self, eq_self_iff_true, zau]) ?_ <;> (try simp only [go_sem, resV, resS, zaN, zaK, zay, zaZ, zaT, idx, renO, zaJ, evS, slot, lookR, zaa, ↓reduceIte, reduceCtorEq, if_true, if_false, zaE, zaF, zae, zaf, sLoad, readAt, readNeed, Ints_ren, Ints_length, Ints_getD, and_true, true_and, zaA, zaB]) <;> (try rfl))
end Go.Proofs.Ytnahpejlhfeleaa
-- NEWGO
-- PRUNE: cl_lendx cl_use
-- ISG: Cs_isG
-- FLAT: Cs_flat
namespace Go.Proofs.Ytnahpejlhfeleaa
set_option linter.unusedVariables false
set_option linter.unusedSimpArgs false
open Go.Proofs.Ytnahpejlhfeleaa.Sh
set_option maxRecDepth 20000
abbrev TrS := (List Nd × Int) × Nat
def tPk (L : List Int) (s : TrS) : Int := (gN s.1.1 (nxV L s.2 s.1.1.length).toNat).i
def tAddM (L : List Int) (s : TrS) : (List Nd × Int) × Int × Int := addM s.1.1 s.1.2 (tPk L s) (nmV L (nxA L s.2 s.1.1.length))
def tAdd (L : List Int) (s : TrS) : TrS := (if (tAddM L s).2.2 = 0 then (tAddM L s).1 else s.1, nxA L (nxA L s.2 s.1.1.length) 6)
def tRemM (L : List Int) (s : TrS) : (List Nd × Int) × Int := rmM s.1.1 s.1.2 (tPk L (s.1, nxA L s.2 6))
def tRem (L : List Int) (s : TrS) : TrS := if nxV L s.2 6 = 5 then (if (tRemM L s).2 = 0 then (tRemM L s).1 else s.1, nxA L (nxA L s.2 6) s.1.1.length) else (s.1, nxA L s.2 6)
def tLp (L : List Int) : Nat → TrS → TrS
  | 0, s => s
  | m + 1, s => tLp L m (tRem L (tAdd L s))
def mkT (L : List Int) (j : Nat) (N : Nat) : TrS := tLp L (nxV L j ((N : Int) + 1)).toNat (([⟨1, 0, [], 0, 0, 0⟩], 2), nxA L j ((N : Int) + 1))
structure TI (l : List Nd) (n : Int) (B : Nat) : Prop where
  v : VL l n
  nm : ∀ x ∈ l, x.nm.length ≤ 4
  b : l.length ≤ B
  z : ∀ x ∈ l, x.c = 0 ∧ x.k = 0 ∧ x.o = 0
theorem TI.nr {l : List Nd} {n : Int} {B : Nat} (h : TI l n B) : NmR l := fun x hx => by have := h.nm x hx; omega
theorem TI.len {l : List Nd} {n : Int} {B : Nat} (h : TI l n B) : 1 ≤ l.length ∧ l.length ≤ 64 := ⟨h.v.ne, h.v.le⟩
theorem TI.mono {l : List Nd} {n : Int} {B C : Nat} (h : TI l n B) (hc : B ≤ C) : TI l n C := ⟨h.v, h.nm, Nat.le_trans h.b hc, h.z⟩
theorem hasM_iff {l : List Nd} {n id : Int} : hasM l n id = true ↔ chkT l n = true ∧ ∃ y ∈ l, y.i = id := by
  unfold hasM
  rw [zaw, List.any_eq_true]
  simp only [hasI, decide_eq_true_eq]
theorem addM_ok {l : List Nd} {n p : Int} {s : Str} (h : (addM l n p s).2.2 = 0) : addM l n p s = ((l ++ [newN n p s], n + 1), n, 0) ∧ chkT l n = true ∧ nmOk s = true ∧ (∃ y ∈ l, y.i = p) ∧ (∀ y ∈ l, ¬ (y.p = p ∧ y.nm = s)) ∧ (upL l p).length ≤ 8 ∧ l.length < 64 ∧ n ≤ 2147483647 := by
  unfold addM at h ⊢
  by_cases h1 : (chkT l n && nmOk s) = false
  · rw [if_pos h1] at h; cases h
  rw [if_neg h1] at h ⊢
  by_cases h2 : hasM l n p = false
  · rw [if_pos h2] at h; cases h
  rw [if_neg h2] at h ⊢
  by_cases h3 : l.any (same1 p s) = true
  · rw [if_pos h3] at h; cases h
  rw [if_neg h3] at h ⊢
  by_cases h4 : 8 ≤ ((ancM l n p).length : Int) - 1 ∨ 64 ≤ (l.length : Int) ∨ 2147483647 < n
  · rw [if_pos h4] at h; cases h
  rw [if_neg h4]
  have h1' : (chkT l n && nmOk s) = true := by revert h1; cases (chkT l n && nmOk s) <;> simp
  rw [zaw] at h1'
  have h2' : hasM l n p = true := by revert h2; cases hasM l n p <;> simp
  have ha : ancM l n p = upL l p := if_pos h2'
  rw [ha] at h4
  refine ⟨rfl, h1'.1, h1'.2, (hasM_iff.1 h2').2, fun y hy hh => h3 (List.any_eq_true.2 ⟨y, hy, ?_⟩), by omega, by omega, by omega⟩
  unfold same1
  rw [decide_eq_true hh.1, decide_eq_true hh.2]; rfl
theorem rmM_ok {l : List Nd} {n id : Int} (h : (rmM l n id).2 = 0) : rmM l n id = ((rmN l id, n), 0) ∧ chkT l n = true ∧ (∃ y ∈ l, y.i = id) ∧ id ≠ 1 ∧ ∀ x ∈ l, x.p ≠ id := by
  unfold rmM at h ⊢
  by_cases h1 : chkT l n = false
  · rw [if_pos h1] at h; cases h
  rw [if_neg h1] at h ⊢
  by_cases h2 : hasM l n id = false
  · rw [if_pos h2] at h; cases h
  rw [if_neg h2] at h ⊢
  by_cases h3 : id = 1
  · rw [if_pos h3] at h; cases h
  rw [if_neg h3] at h ⊢
  by_cases h4 : 0 < ((chM l n id).length : Int)
  · rw [if_pos h4] at h; cases h
  rw [if_neg h4]
  have h2' : hasM l n id = true := by revert h2; cases hasM l n id <;> simp
  have hc : chM l n id = kidsL l id := if_pos h2'
  rw [hc] at h4
  refine ⟨rfl, (hasM_iff.1 h2').1, (hasM_iff.1 h2').2, h3, fun x hx e => h4 ?_⟩
  have : x.i ∈ kidsL l id := List.mem_map_of_mem (List.mem_filter.2 ⟨hx, decide_eq_true e⟩)
  have := List.length_pos_of_mem this
  omega
theorem TI.add {l : List Nd} {n p : Int} {s : Str} {B : Nat} (h : TI l n B) (hs : s.length ≤ 4) (he : (addM l n p s).2.2 = 0) : TI (addM l n p s).1.1 (addM l n p s).1.2 (B + 1) := by
  obtain ⟨e, h1, h2, h3, h4, h5, h6, h7⟩ := addM_ok he
  rw [e]
  refine ⟨h.v.add h2 h3 h4 h5 h6 h7, fun x hx => ?_, by rw [zaY, List.length_singleton]; have := h.b; omega, fun x hx => ?_⟩
  · rcases List.mem_append.1 hx with hx | hx
    · exact h.nm x hx
    · rw [List.mem_singleton.1 hx]; exact hs
  · rcases List.mem_append.1 hx with hx | hx
    · exact h.z x hx
    · rw [List.mem_singleton.1 hx]; exact ⟨rfl, rfl, rfl⟩
theorem TI.rem {l : List Nd} {n id : Int} {B : Nat} (h : TI l n B) (he : (rmM l n id).2 = 0) : TI (rmM l n id).1.1 (rmM l n id).1.2 B := by
  obtain ⟨e, h1, h2, h3, h4⟩ := rmM_ok he
  rw [e]
  refine ⟨h.v.rm h3 h4, fun x hx => h.nm x ((rmN_mem l id x).1 hx).1, Nat.le_trans (rmN_len l id) h.b, fun x hx => h.z x ((rmN_mem l id x).1 hx).1⟩
theorem tAdd_ok (L : List Int) {s : TrS} {B : Nat} (h : TI s.1.1 s.1.2 B) : TI (tAdd L s).1.1 (tAdd L s).1.2 (B + 1) := by
  unfold tAdd
  simp only
  by_cases he : (tAddM L s).2.2 = 0
  · rw [if_pos he]
    exact h.add (nmV_len _ _) he
  · rw [if_neg he]; exact h.mono (Nat.le_succ B)
theorem tRem_ok (L : List Int) {s : TrS} {B : Nat} (h : TI s.1.1 s.1.2 B) : TI (tRem L s).1.1 (tRem L s).1.2 B := by
  unfold tRem
  by_cases hb : nxV L s.2 6 = 5
  · rw [if_pos hb]
    simp only
    by_cases he : (tRemM L s).2 = 0
    · rw [if_pos he]; exact h.rem he
    · rw [if_neg he]; exact h
  · rw [if_neg hb]; exact h
theorem tLp_ok (L : List Int) : ∀ (m : Nat) (s : TrS) (B : Nat), TI s.1.1 s.1.2 B → TI (tLp L m s).1.1 (tLp L m s).1.2 (B + m)
  | 0, s, B, h => h
  | m + 1, s, B, h => by
    have := tLp_ok L m _ _ (tRem_ok L (tAdd_ok L h))
    rw [show B + 1 + m = B + (m + 1) by omega] at this
    exact this
theorem TI_new : TI [⟨1, 0, [], 0, 0, 0⟩] 2 1 := ⟨VL_new, fun x hx => by rw [List.mem_singleton.1 hx]; decide, zaX _, fun x hx => by rw [List.mem_singleton.1 hx]; exact ⟨rfl, rfl, rfl⟩⟩
theorem mkT_ok (L : List Int) (j N : Nat) : TI (mkT L j N).1.1 (mkT L j N).1.2 (N + 1) := by
  have h := tLp_ok L (nxV L j ((N : Int) + 1)).toNat (([⟨1, 0, [], 0, 0, 0⟩], 2), nxA L j ((N : Int) + 1)) 1 TI_new
  have h2 := nx_rng L j ((N : Int) + 1) (by omega)
  exact h.mono (by omega)
def lendT : FuncId → List Nat := fun f => if f = 12 then [0] else if f = 15 then [0] else if f = 41 then [0] else []
set_option maxHeartbeats 32000000 in
theorem tree_spec (L : List Int) (hl : L.length ≤ 600) (hr : ∀ x ∈ L, -9223372036854775808 ≤ x ∧ x ≤ 9223372036854775807) (j N : Nat) (hN : N ≤ 50) :
    FnSpec Try.prog 20 [dp, i1 N] [dice L j] (trV (mkT L j N).1.1 none (mkT L j N).1.2) [some (dice L (mkT L j N).2)] := by
  have n0 := next_spec L j ((N : Int) + 1) hl hr (by omega)
  have r0 := nx_rng L j ((N : Int) + 1) (by omega)
  obtain ⟨T, hT⟩ : ∃ T, mkT L j N = T := ⟨_, rfl⟩
  have hT0 := hT
  rw [hT]
  unfold mkT at hT
  obtain ⟨c0, hc0, hc1⟩ : ∃ c : Nat, nxV L j ((N : Int) + 1) = c ∧ c ≤ N := ⟨(nxV L j ((N : Int) + 1)).toNat, by omega, by omega⟩
  rw [hc0, zaS] at hT
  rw [hc0] at n0
  refine fnspec_of mixed TT_ok TT_cl ⟨fun _ => false, lendT, 1, fun _ => false, fun _ => false⟩ Try.func20 rfl (by kernel_rfl) rfl 65 rfl [.cell 4 29] rfl ?_
  simp only [go_sem, zaa, zah, zai, zaj, zak, zad, ↓reduceIte, reduceCtorEq, zab, zac, zal, zam, zan, lendT]
  repeat' (first
 | with_reducible refine zar ?_ ?_
 | (apply cl_plain
    case hs => rfl
    case ha => (simp only [zae, zaf, prepV, prepC, idx, hpL', lookR, zaa, if_true, if_false]; rfl)
    case h => (first | exact trnew_spec .. | exact n0 ..))
 | (apply cl_lend
    case hr => (simp only [zae, zaf, hpL', lookR, zaa, if_true, if_false]; first | exact map1 _ | exact map2 _ _ | exact map3 _ _ _)
    case ha => (simp only [zae, zaf, prepV, prepC, idx, hpL', lookR, zaa, if_true, if_false]; rfl)
    case hs => rfl
    case hn => decide
    case h => (first | exact trnew_spec .. | exact n0 ..)
    case hf => (simp only [zag, zao, false_implies, implies_true, and_true, true_and, flat_cons, flat_nil, flat_ints, flat_bools, flat_app, Cs_flat, zaR, and_self, eq_self_iff_true, zau])
    case hl => (simp only [zaz, zaC]; decide))
 | ((first | refine s1_id ?_ | refine swp_id ?_ | refine sops_id ?_ | refine s2_id ?_); simp only [lendT, dice, go_sem, zaa, zah, zai, zaj, zak, zad, ↓reduceIte, reduceCtorEq, zab, zac, zal, zam, zan, zaN, zaK, zay, zaJ, renO, bk, back, outUpsFrom, Ints_ren])
 | (intros; omega)
 | (intros; (try simp only [zaw, zax, zas, zat, zap, zaq, decide_eq_true_eq, decide_eq_false_iff_not] at *); omega))
  refine w_loop (ι := Nat × TrS) (fun s => ⟨[(0, dp), (4, .one (.optr 1 0)), (5, .one (.optr 2 0)), (6, i1 s.1)], [(0, some (dice L s.2.2)), (1, some ⟨[.sc (.slice none 0 0), int 0], 2⟩), (2, some ⟨[.gsl (Cs s.2.1.1) 0 s.2.1.1.length none, int s.2.1.2], 2⟩)], 3⟩) (fun s => T = tLp L s.1 s.2 ∧ TI s.2.1.1 s.2.1.2 (N + 1 - s.1) ∧ s.1 ≤ N) (fun s => s.1) (c0, (([⟨1, 0, [], 0, 0, 0⟩], 2), nxA L j ((N : Int) + 1))) ?_ ⟨hT.symm, TI_new.mono (by omega), hc1⟩ ?_
  · (refine imp_ren _ _ _ [(0, 0, dice L (nxA L j ((N : Int) + 1))), (1, 1, ⟨[.sc (.slice none 0 0), int 0], 2⟩), (2, 3, ⟨[.gsl (Cs ([⟨1, 0, [], 0, 0, 0⟩] : List Nd)) 0 1 none, int 2], 2⟩)] (by simp) (by simp) (by simp) (zav rfl) ?_ rfl (by simp only [zag, zao, false_implies, implies_true, and_true, zaT, lookR, zaa, if_true, if_false, ↓reduceIte, dice] <;> (repeat' apply zar) <;> (first | rfl | trivial)) (by simp only [zag, zao, false_implies, implies_true, and_true, true_and, flat_cons, flat_nil, flat_ints, flat_bools, flat_app, zaR, and_self, eq_self_iff_true, zau, dice]); simp only [zae, zaf, zag, zao, false_implies, implies_true, and_true, lk, slot, zaN, zay, toN, zaa, if_true, if_false, ↓reduceIte, reduceCtorEq])
    all_goals ((repeat' apply zar) <;> (first | rfl | trivial))
  clear n0 r0 hT hT0 hc0
  rintro ⟨m, ⟨⟨l, n⟩, i⟩⟩ ⟨hI, hti, hmN⟩
  simp only at hI hti hmN ⊢
  cases m with
  | zero =>
    rw [tLp] at hI
    subst hI
    simp only [go_sem, zaa, zah, zai, zaj, zak, zad, ↓reduceIte, reduceCtorEq, zab, zac, zal, zam, zan, lendT]
    repeat' (first
 | (intros; (try simp only [zaw, zax, zas, zat, zap, zaq, decide_eq_true_eq, decide_eq_false_iff_not] at *); omega))
    (refine fs_flat [(0, dice L i)] (by simp) (by simp only [zae, zaf]; decide) (by simp only [go_sem, resV, resS, zaN, zaK, zay, zaZ, zaT, idx, renO, zaJ, evS, slot, lookR, zaa, ↓reduceIte, reduceCtorEq, if_true, if_false, zaE, zaF, zae, zaf, sLoad, readAt, readNeed, Ints_ren, Ints_length, Ints_getD, and_true, true_and, zaA, zaB]; try decide) ?_ (by simp only [zag, zao, false_implies, implies_true, and_true, zaT, lookR, zaa, if_true, if_false, ↓reduceIte, dice] <;> (repeat' apply zar) <;> (first | rfl | trivial)) (by simp only [zag, zao, false_implies, implies_true, and_true, true_and, flat_cons, flat_nil, flat_ints, flat_bools, flat_app, zaR, and_self, eq_self_iff_true, zau, dice]) ?_ <;> (try simp only [go_sem, resV, resS, zaN, zaK, zay, zaZ, zaT, idx, renO, zaJ, evS, slot, lookR, zaa, ↓reduceIte, reduceCtorEq, if_true, if_false, zaE, zaF, zae, zaf, sLoad, readAt, readNeed, Ints_ren, Ints_length, Ints_getD, and_true, true_and, zaA, zaB]) <;> (try rfl))
  | succ m =>
  have c : (0 : Int) < ((m + 1 : Nat) : Int) := by omega
  have e2 : ((m + 1 : Nat) : Int) - 1 = (m : Int) := by omega
  have hlen := hti.len
  rw [tLp] at hI
  have hta := tAdd_ok L (s := ((l, n), i)) hti
  have htr := tRem_ok L hta
  have hnl := nd_len l
  have n1 := next_spec L i l.length hl hr (by omega)
  have r1 := nx_rng L i l.length (by omega)
  obtain ⟨x, hx, hxl⟩ : ∃ x : Nat, nxV L i l.length = x ∧ x < l.length := ⟨(nxV L i l.length).toNat, by omega, by omega⟩
  obtain ⟨g1, _⟩ := nd_f l x hxl (.sc (.int .i64 0))
  have hA0 : tAddM L ((l, n), i) = addM l n (gN l x).i (nmV L (nxA L i l.length)) := by unfold tAddM tPk; simp only; rw [hx, zaS]
  rw [hx] at n1
  have n2 := name_spec (l := L) hl hr (nxA L i l.length)
  have s1' := nmV_len L (nxA L i l.length)
  have a1 := radd_spec l none n (gN l x).i (nmV L (nxA L i l.length)) (by omega) hti.nr (by omega)
  rw [← hA0] at a1
  have hj2 : (tAdd L ((l, n), i)).2 = nxA L (nxA L i l.length) 6 := rfl
  have ht1 : (tAdd L ((l, n), i)).1 = if (tAddM L ((l, n), i)).2.2 = 0 then (tAddM L ((l, n), i)).1 else (l, n) := rfl
  generalize nmV L (nxA L i l.length) = nam at *
  generalize tAddM L ((l, n), i) = AM at *
  obtain ⟨⟨la, na⟩, ia, ea⟩ := AM
  clear hA0
  simp only [adV] at a1
  obtain ⟨S1, hS1⟩ : ∃ S1, tAdd L ((l, n), i) = S1 := ⟨_, rfl⟩
  rw [hS1] at hI hta htr hj2 ht1
  clear hS1
  obtain ⟨⟨l1, n1'⟩, j2⟩ := S1
  simp only at hta hj2 ht1
  subst hj2
  have hlen1 := hta.len
  have n3 := bool_spec L (nxA L (nxA L i l.length) 6) 6 hl hr (by decide)
  generalize nxA L (nxA L i l.length) 6 = j2 at *
  have htr2 : tRem L ((l1, n1'), j2) = if nxV L j2 6 = 5 then (if (tRemM L ((l1, n1'), j2)).2 = 0 then (tRemM L ((l1, n1'), j2)).1 else (l1, n1'), nxA L (nxA L j2 6) l1.length) else ((l1, n1'), nxA L j2 6) := rfl
  have hnl1 := nd_len l1
  have n4 := next_spec L (nxA L j2 6) l1.length hl hr (by omega)
  have r4 := nx_rng L (nxA L j2 6) l1.length (by omega)
  obtain ⟨y, hy, hyl⟩ : ∃ y : Nat, nxV L (nxA L j2 6) l1.length = y ∧ y < l1.length := ⟨(nxV L (nxA L j2 6) l1.length).toNat, by omega, by omega⟩
  obtain ⟨g2, _⟩ := nd_f l1 y hyl (.sc (.int .i64 0))
  have hR0 : tRemM L ((l1, n1'), j2) = rmM l1 n1' (gN l1 y).i := by unfold tRemM tPk; simp only; rw [hy, zaS]
  rw [hy] at n4
  have a2 := rrem_spec l1 none n1' (gN l1 y).i (by omega) hta.nr
  rw [← hR0] at a2
  generalize tRemM L ((l1, n1'), j2) = RM at *
  obtain ⟨⟨lr, nr⟩, er⟩ := RM
  clear hR0
  simp only [rmV] at a2
  simp only at ht1 htr2
  obtain ⟨S2, hS2⟩ : ∃ S2, tRem L ((l1, n1'), j2) = S2 := ⟨_, rfl⟩
  rw [hS2] at hI htr htr2
  clear hS2
  have hBB : TI S2.1.1 S2.1.2 (N + 1 - m) := htr.mono (by omega)
  obtain ⟨⟨l2, n2'⟩, j3⟩ := S2
  simp only at hBB
  clear htr hta hti
  by_cases hea : ea = 0
  · rw [if_pos hea] at ht1
    obtain ⟨rfl, rfl⟩ := Prod.mk.inj ht1
    by_cases hb : nxV L j2 6 = 5
    · rw [if_pos hb] at htr2
      rw [decide_eq_true (by omega : nxV L j2 6 = 6 - 1)] at n3
      by_cases her : er = 0
      · rw [if_pos her] at htr2
        obtain ⟨e1, rfl⟩ := Prod.mk.inj htr2
        obtain ⟨rfl, rfl⟩ := Prod.mk.inj e1
        simp only [go_sem, zaa, zah, zai, zaj, zak, zad, ↓reduceIte, reduceCtorEq, zab, zac, zal, zam, zan, decide_eq_true c, e2, lendT, g1, g2, zaS, decide_eq_true hea, decide_eq_true her]
        repeat' (first
 | with_reducible refine zar ?_ ?_
 | (unfold OKC; kernel_rfl)
 | (unfold EDG; kernel_rfl)
 | (apply cl_plain
    case hs => rfl
    case ha => (simp only [zae, zaf, prepV, prepC, idx, hpL', lookR, zaa, if_true, if_false]; rfl)
    case h => (first | exact n1 .. | exact n2 .. | exact a1 .. | exact n3 .. | exact n4 .. | exact a2 ..))
 | (apply cl_lend
    case hr => (simp only [zae, zaf, hpL', lookR, zaa, if_true, if_false]; first | exact map1 _ | exact map2 _ _ | exact map3 _ _ _)
    case ha => (simp only [zae, zaf, prepV, prepC, idx, hpL', lookR, zaa, if_true, if_false]; rfl)
    case hs => rfl
    case hn => decide
    case h => (first | exact n1 .. | exact n2 .. | exact a1 .. | exact n3 .. | exact n4 .. | exact a2 ..)
    case hf => (simp only [zag, zao, false_implies, implies_true, and_true, true_and, flat_cons, flat_nil, flat_ints, flat_bools, flat_app, Cs_flat, zaR, and_self, eq_self_iff_true, zau])
    case hl => (simp only [zaz, zaC]; decide))
 | ((first | refine s1_id ?_ | refine swp_id ?_ | refine sops_id ?_ | refine s2_id ?_); simp only [decide_eq_true c, e2, lendT, g1, g2, dice, zaS, decide_eq_true hea, decide_eq_true her, zaI, zaL, zau, zaM, zaO, zaG, zaH, zaD, zaP, zaQ, zaz, zaC, go_sem, zaa, zah, zai, zaj, zak, zad, ↓reduceIte, reduceCtorEq, zab, zac, zal, zam, zan, zaN, zaK, zay, zaJ, renO, bk, back, outUpsFrom, Ints_ren])
 | (intros; omega)
 | (intros; (try simp only [zaw, zax, zas, zat, zap, zaq, decide_eq_true_eq, decide_eq_false_iff_not] at *); omega))
        refine le_mk (m, ((l2, n2'), (nxA L (nxA L j2 6) l1.length))) ?_ ⟨hI, hBB, by show m ≤ N; omega⟩ (zba m)
        (refine imp_ren _ _ _ [(0, 0, dice L (nxA L (nxA L j2 6) l1.length)), (1, 1, ⟨[.sc (.slice none 0 0), int 0], 2⟩), (2, 2, ⟨[.gsl (Cs l2) 0 l2.length none, int n2'], 2⟩)] (by simp) (by simp) (by simp) (zav rfl) ?_ rfl (by simp only [zag, zao, false_implies, implies_true, and_true, zaT, lookR, zaa, if_true, if_false, ↓reduceIte, dice] <;> (repeat' apply zar) <;> (first | rfl | trivial)) (by simp only [zag, zao, false_implies, implies_true, and_true, true_and, flat_cons, flat_nil, flat_ints, flat_bools, flat_app, zaR, and_self, eq_self_iff_true, zau, dice]); simp only [zae, zaf, zag, zao, false_implies, implies_true, and_true, lk, slot, zaN, zay, toN, zaa, if_true, if_false, ↓reduceIte, reduceCtorEq])
        all_goals ((repeat' apply zar) <;> (first | rfl | trivial | (simp only []; done) | (simp only []; rfl) | (simp only []; trivial)))
      · rw [if_neg her] at htr2
        obtain ⟨e1, rfl⟩ := Prod.mk.inj htr2
        obtain ⟨rfl, rfl⟩ := Prod.mk.inj e1
        simp only [go_sem, zaa, zah, zai, zaj, zak, zad, ↓reduceIte, reduceCtorEq, zab, zac, zal, zam, zan, decide_eq_true c, e2, lendT, g1, g2, zaS, decide_eq_true hea, decide_eq_false her]
        repeat' (first
 | with_reducible refine zar ?_ ?_
 | (unfold OKC; kernel_rfl)
 | (unfold EDG; kernel_rfl)
 | (apply cl_plain
    case hs => rfl
    case ha => (simp only [zae, zaf, prepV, prepC, idx, hpL', lookR, zaa, if_true, if_false]; rfl)
    case h => (first | exact n1 .. | exact n2 .. | exact a1 .. | exact n3 .. | exact n4 .. | exact a2 ..))
 | (apply cl_lend
    case hr => (simp only [zae, zaf, hpL', lookR, zaa, if_true, if_false]; first | exact map1 _ | exact map2 _ _ | exact map3 _ _ _)
    case ha => (simp only [zae, zaf, prepV, prepC, idx, hpL', lookR, zaa, if_true, if_false]; rfl)
    case hs => rfl
    case hn => decide
    case h => (first | exact n1 .. | exact n2 .. | exact a1 .. | exact n3 .. | exact n4 .. | exact a2 ..)
    case hf => (simp only [zag, zao, false_implies, implies_true, and_true, true_and, flat_cons, flat_nil, flat_ints, flat_bools, flat_app, Cs_flat, zaR, and_self, eq_self_iff_true, zau])
    case hl => (simp only [zaz, zaC]; decide))
 | ((first | refine s1_id ?_ | refine swp_id ?_ | refine sops_id ?_ | refine s2_id ?_); simp only [decide_eq_true c, e2, lendT, g1, g2, dice, zaS, decide_eq_true hea, decide_eq_false her, zaI, zaL, zau, zaM, zaO, zaG, zaH, zaD, zaP, zaQ, zaz, zaC, go_sem, zaa, zah, zai, zaj, zak, zad, ↓reduceIte, reduceCtorEq, zab, zac, zal, zam, zan, zaN, zaK, zay, zaJ, renO, bk, back, outUpsFrom, Ints_ren])
 | (intros; omega)
 | (intros; (try simp only [zaw, zax, zas, zat, zap, zaq, decide_eq_true_eq, decide_eq_false_iff_not] at *); omega))
        refine le_mk (m, ((l2, n2'), (nxA L (nxA L j2 6) l2.length))) ?_ ⟨hI, hBB, by show m ≤ N; omega⟩ (zba m)
        (refine imp_ren _ _ _ [(0, 0, dice L (nxA L (nxA L j2 6) l2.length)), (1, 1, ⟨[.sc (.slice none 0 0), int 0], 2⟩), (2, 2, ⟨[.gsl (Cs l2) 0 l2.length none, int n2'], 2⟩)] (by simp) (by simp) (by simp) (zav rfl) ?_ rfl (by simp only [zag, zao, false_implies, implies_true, and_true, zaT, lookR, zaa, if_true, if_false, ↓reduceIte, dice] <;> (repeat' apply zar) <;> (first | rfl | trivial)) (by simp only [zag, zao, false_implies, implies_true, and_true, true_and, flat_cons, flat_nil, flat_ints, flat_bools, flat_app, zaR, and_self, eq_self_iff_true, zau, dice]); simp only [zae, zaf, zag, zao, false_implies, implies_true, and_true, lk, slot, zaN, zay, toN, zaa, if_true, if_false, ↓reduceIte, reduceCtorEq])
        all_goals ((repeat' apply zar) <;> (first | rfl | trivial | (simp only []; done) | (simp only []; rfl) | (simp only []; trivial)))
    · rw [if_neg hb] at htr2
      rw [decide_eq_false (by omega : ¬ nxV L j2 6 = 6 - 1)] at n3
      obtain ⟨e1, rfl⟩ := Prod.mk.inj htr2
      obtain ⟨rfl, rfl⟩ := Prod.mk.inj e1
      simp only [go_sem, zaa, zah, zai, zaj, zak, zad, ↓reduceIte, reduceCtorEq, zab, zac, zal, zam, zan, decide_eq_true c, e2, lendT, g1, g2, zaS, decide_eq_true hea]
      repeat' (first
 | with_reducible refine zar ?_ ?_
 | (unfold OKC; kernel_rfl)
 | (unfold EDG; kernel_rfl)
 | (apply cl_plain
    case hs => rfl
    case ha => (simp only [zae, zaf, prepV, prepC, idx, hpL', lookR, zaa, if_true, if_false]; rfl)
    case h => (first | exact n1 .. | exact n2 .. | exact a1 .. | exact n3 ..))
 | (apply cl_lend
    case hr => (simp only [zae, zaf, hpL', lookR, zaa, if_true, if_false]; first | exact map1 _ | exact map2 _ _ | exact map3 _ _ _)
    case ha => (simp only [zae, zaf, prepV, prepC, idx, hpL', lookR, zaa, if_true, if_false]; rfl)
    case hs => rfl
    case hn => decide
    case h => (first | exact n1 .. | exact n2 .. | exact a1 .. | exact n3 ..)
    case hf => (simp only [zag, zao, false_implies, implies_true, and_true, true_and, flat_cons, flat_nil, flat_ints, flat_bools, flat_app, Cs_flat, zaR, and_self, eq_self_iff_true, zau])
    case hl => (simp only [zaz, zaC]; decide))
 | ((first | refine s1_id ?_ | refine swp_id ?_ | refine sops_id ?_ | refine s2_id ?_); simp only [decide_eq_true c, e2, lendT, g1, g2, dice, zaS, decide_eq_true hea, zaI, zaL, zau, zaM, zaO, zaG, zaH, zaD, zaP, zaQ, zaz, zaC, go_sem, zaa, zah, zai, zaj, zak, zad, ↓reduceIte, reduceCtorEq, zab, zac, zal, zam, zan, zaN, zaK, zay, zaJ, renO, bk, back, outUpsFrom, Ints_ren])
 | (intros; omega)
 | (intros; (try simp only [zaw, zax, zas, zat, zap, zaq, decide_eq_true_eq, decide_eq_false_iff_not] at *); omega))
      refine le_mk (m, ((l2, n2'), (nxA L j2 6))) ?_ ⟨hI, hBB, by show m ≤ N; omega⟩ (zba m)
      (refine imp_ren _ _ _ [(0, 0, dice L (nxA L j2 6)), (1, 1, ⟨[.sc (.slice none 0 0), int 0], 2⟩), (2, 2, ⟨[.gsl (Cs l2) 0 l2.length none, int n2'], 2⟩)] (by simp) (by simp) (by simp) (zav rfl) ?_ rfl (by simp only [zag, zao, false_implies, implies_true, and_true, zaT, lookR, zaa, if_true, if_false, ↓reduceIte, dice] <;> (repeat' apply zar) <;> (first | rfl | trivial)) (by simp only [zag, zao, false_implies, implies_true, and_true, true_and, flat_cons, flat_nil, flat_ints, flat_bools, flat_app, zaR, and_self, eq_self_iff_true, zau, dice]); simp only [zae, zaf, zag, zao, false_implies, implies_true, and_true, lk, slot, zaN, zay, toN, zaa, if_true, if_false, ↓reduceIte, reduceCtorEq])
      all_goals ((repeat' apply zar) <;> (first | rfl | trivial | (simp only []; done) | (simp only []; rfl) | (simp only []; trivial)))
  · rw [if_neg hea] at ht1
    obtain ⟨rfl, rfl⟩ := Prod.mk.inj ht1
    by_cases hb : nxV L j2 6 = 5
    · rw [if_pos hb] at htr2
      rw [decide_eq_true (by omega : nxV L j2 6 = 6 - 1)] at n3
      by_cases her : er = 0
      · rw [if_pos her] at htr2
        obtain ⟨e1, rfl⟩ := Prod.mk.inj htr2
        obtain ⟨rfl, rfl⟩ := Prod.mk.inj e1
        simp only [go_sem, zaa, zah, zai, zaj, zak, zad, ↓reduceIte, reduceCtorEq, zab, zac, zal, zam, zan, decide_eq_true c, e2, lendT, g1, g2, zaS, decide_eq_false hea, decide_eq_true her]
        repeat' (first
 | with_reducible refine zar ?_ ?_
 | (unfold OKC; kernel_rfl)
 | (unfold EDG; kernel_rfl)
 | (apply cl_plain
    case hs => rfl
    case ha => (simp only [zae, zaf, prepV, prepC, idx, hpL', lookR, zaa, if_true, if_false]; rfl)
    case h => (first | exact n1 .. | exact n2 .. | exact a1 .. | exact n3 .. | exact n4 .. | exact a2 ..))
 | (apply cl_lend
    case hr => (simp only [zae, zaf, hpL', lookR, zaa, if_true, if_false]; first | exact map1 _ | exact map2 _ _ | exact map3 _ _ _)
    case ha => (simp only [zae, zaf, prepV, prepC, idx, hpL', lookR, zaa, if_true, if_false]; rfl)
    case hs => rfl
    case hn => decide
    case h => (first | exact n1 .. | exact n2 .. | exact a1 .. | exact n3 .. | exact n4 .. | exact a2 ..)
    case hf => (simp only [zag, zao, false_implies, implies_true, and_true, true_and, flat_cons, flat_nil, flat_ints, flat_bools, flat_app, Cs_flat, zaR, and_self, eq_self_iff_true, zau])
    case hl => (simp only [zaz, zaC]; decide))
 | ((first | refine s1_id ?_ | refine swp_id ?_ | refine sops_id ?_ | refine s2_id ?_); simp only [decide_eq_true c, e2, lendT, g1, g2, dice, zaS, decide_eq_false hea, decide_eq_true her, zaI, zaL, zau, zaM, zaO, zaG, zaH, zaD, zaP, zaQ, zaz, zaC, go_sem, zaa, zah, zai, zaj, zak, zad, ↓reduceIte, reduceCtorEq, zab, zac, zal, zam, zan, zaN, zaK, zay, zaJ, renO, bk, back, outUpsFrom, Ints_ren])
 | (intros; omega)
 | (intros; (try simp only [zaw, zax, zas, zat, zap, zaq, decide_eq_true_eq, decide_eq_false_iff_not] at *); omega))
        refine le_mk (m, ((l2, n2'), (nxA L (nxA L j2 6) l1.length))) ?_ ⟨hI, hBB, by show m ≤ N; omega⟩ (zba m)
        (refine imp_ren _ _ _ [(0, 0, dice L (nxA L (nxA L j2 6) l1.length)), (1, 1, ⟨[.sc (.slice none 0 0), int 0], 2⟩), (2, 2, ⟨[.gsl (Cs l2) 0 l2.length none, int n2'], 2⟩)] (by simp) (by simp) (by simp) (zav rfl) ?_ rfl (by simp only [zag, zao, false_implies, implies_true, and_true, zaT, lookR, zaa, if_true, if_false, ↓reduceIte, dice] <;> (repeat' apply zar) <;> (first | rfl | trivial)) (by simp only [zag, zao, false_implies, implies_true, and_true, true_and, flat_cons, flat_nil, flat_ints, flat_bools, flat_app, zaR, and_self, eq_self_iff_true, zau, dice]); simp only [zae, zaf, zag, zao, false_implies, implies_true, and_true, lk, slot, zaN, zay, toN, zaa, if_true, if_false, ↓reduceIte, reduceCtorEq])
        all_goals ((repeat' apply zar) <;> (first | rfl | trivial | (simp only []; done) | (simp only []; rfl) | (simp only []; trivial)))
      · rw [if_neg her] at htr2
        obtain ⟨e1, rfl⟩ := Prod.mk.inj htr2
        obtain ⟨rfl, rfl⟩ := Prod.mk.inj e1
        simp only [go_sem, zaa, zah, zai, zaj, zak, zad, ↓reduceIte, reduceCtorEq, zab, zac, zal, zam, zan, decide_eq_true c, e2, lendT, g1, g2, zaS, decide_eq_false hea, decide_eq_false her]
        repeat' (first
 | with_reducible refine zar ?_ ?_
 | (unfold OKC; kernel_rfl)
 | (unfold EDG; kernel_rfl)
 | (apply cl_plain
    case hs => rfl
    case ha => (simp only [zae, zaf, prepV, prepC, idx, hpL', lookR, zaa, if_true, if_false]; rfl)
    case h => (first | exact n1 .. | exact n2 .. | exact a1 .. | exact n3 .. | exact n4 .. | exact a2 ..))
 | (apply cl_lend
    case hr => (simp only [zae, zaf, hpL', lookR, zaa, if_true, if_false]; first | exact map1 _ | exact map2 _ _ | exact map3 _ _ _)
    case ha => (simp only [zae, zaf, prepV, prepC, idx, hpL', lookR, zaa, if_true, if_false]; rfl)
    case hs => rfl
    case hn => decide
    case h => (first | exact n1 .. | exact n2 .. | exact a1 .. | exact n3 .. | exact n4 .. | exact a2 ..)
    case hf => (simp only [zag, zao, false_implies, implies_true, and_true, true_and, flat_cons, flat_nil, flat_ints, flat_bools, flat_app, Cs_flat, zaR, and_self, eq_self_iff_true, zau])
    case hl => (simp only [zaz, zaC]; decide))
 | ((first | refine s1_id ?_ | refine swp_id ?_ | refine sops_id ?_ | refine s2_id ?_); simp only [decide_eq_true c, e2, lendT, g1, g2, dice, zaS, decide_eq_false hea, decide_eq_false her, zaI, zaL, zau, zaM, zaO, zaG, zaH, zaD, zaP, zaQ, zaz, zaC, go_sem, zaa, zah, zai, zaj, zak, zad, ↓reduceIte, reduceCtorEq, zab, zac, zal, zam, zan, zaN, zaK, zay, zaJ, renO, bk, back, outUpsFrom, Ints_ren])
 | (intros; omega)
 | (intros; (try simp only [zaw, zax, zas, zat, zap, zaq, decide_eq_true_eq, decide_eq_false_iff_not] at *); omega))
        refine le_mk (m, ((l2, n2'), (nxA L (nxA L j2 6) l2.length))) ?_ ⟨hI, hBB, by show m ≤ N; omega⟩ (zba m)
        (refine imp_ren _ _ _ [(0, 0, dice L (nxA L (nxA L j2 6) l2.length)), (1, 1, ⟨[.sc (.slice none 0 0), int 0], 2⟩), (2, 2, ⟨[.gsl (Cs l2) 0 l2.length none, int n2'], 2⟩)] (by simp) (by simp) (by simp) (zav rfl) ?_ rfl (by simp only [zag, zao, false_implies, implies_true, and_true, zaT, lookR, zaa, if_true, if_false, ↓reduceIte, dice] <;> (repeat' apply zar) <;> (first | rfl | trivial)) (by simp only [zag, zao, false_implies, implies_true, and_true, true_and, flat_cons, flat_nil, flat_ints, flat_bools, flat_app, zaR, and_self, eq_self_iff_true, zau, dice]); simp only [zae, zaf, zag, zao, false_implies, implies_true, and_true, lk, slot, zaN, zay, toN, zaa, if_true, if_false, ↓reduceIte, reduceCtorEq])
        all_goals ((repeat' apply zar) <;> (first | rfl | trivial | (simp only []; done) | (simp only []; rfl) | (simp only []; trivial)))
    · rw [if_neg hb] at htr2
      rw [decide_eq_false (by omega : ¬ nxV L j2 6 = 6 - 1)] at n3
      obtain ⟨e1, rfl⟩ := Prod.mk.inj htr2
      obtain ⟨rfl, rfl⟩ := Prod.mk.inj e1
      simp only [go_sem, zaa, zah, zai, zaj, zak, zad, ↓reduceIte, reduceCtorEq, zab, zac, zal, zam, zan, decide_eq_true c, e2, lendT, g1, g2, zaS, decide_eq_false hea]
      repeat' (first
 | with_reducible refine zar ?_ ?_
 | (unfold OKC; kernel_rfl)
 | (unfold EDG; kernel_rfl)
 | (apply cl_plain
    case hs => rfl
    case ha => (simp only [zae, zaf, prepV, prepC, idx, hpL', lookR, zaa, if_true, if_false]; rfl)
    case h => (first | exact n1 .. | exact n2 .. | exact a1 .. | exact n3 ..))
 | (apply cl_lend
    case hr => (simp only [zae, zaf, hpL', lookR, zaa, if_true, if_false]; first | exact map1 _ | exact map2 _ _ | exact map3 _ _ _)
    case ha => (simp only [zae, zaf, prepV, prepC, idx, hpL', lookR, zaa, if_true, if_false]; rfl)
    case hs => rfl
    case hn => decide
    case h => (first | exact n1 .. | exact n2 .. | exact a1 .. | exact n3 ..)
    case hf => (simp only [zag, zao, false_implies, implies_true, and_true, true_and, flat_cons, flat_nil, flat_ints, flat_bools, flat_app, Cs_flat, zaR, and_self, eq_self_iff_true, zau])
    case hl => (simp only [zaz, zaC]; decide))
 | ((first | refine s1_id ?_ | refine swp_id ?_ | refine sops_id ?_ | refine s2_id ?_); simp only [decide_eq_true c, e2, lendT, g1, g2, dice, zaS, decide_eq_false hea, zaI, zaL, zau, zaM, zaO, zaG, zaH, zaD, zaP, zaQ, zaz, zaC, go_sem, zaa, zah, zai, zaj, zak, zad, ↓reduceIte, reduceCtorEq, zab, zac, zal, zam, zan, zaN, zaK, zay, zaJ, renO, bk, back, outUpsFrom, Ints_ren])
 | (intros; omega)
 | (intros; (try simp only [zaw, zax, zas, zat, zap, zaq, decide_eq_true_eq, decide_eq_false_iff_not] at *); omega))
      refine le_mk (m, ((l2, n2'), (nxA L j2 6))) ?_ ⟨hI, hBB, by show m ≤ N; omega⟩ (zba m)
      (refine imp_ren _ _ _ [(0, 0, dice L (nxA L j2 6)), (1, 1, ⟨[.sc (.slice none 0 0), int 0], 2⟩), (2, 2, ⟨[.gsl (Cs l2) 0 l2.length none, int n2'], 2⟩)] (by simp) (by simp) (by simp) (zav rfl) ?_ rfl (by simp only [zag, zao, false_implies, implies_true, and_true, zaT, lookR, zaa, if_true, if_false, ↓reduceIte, dice] <;> (repeat' apply zar) <;> (first | rfl | trivial)) (by simp only [zag, zao, false_implies, implies_true, and_true, true_and, flat_cons, flat_nil, flat_ints, flat_bools, flat_app, zaR, and_self, eq_self_iff_true, zau, dice]); simp only [zae, zaf, zag, zao, false_implies, implies_true, and_true, lk, slot, zaN, zay, toN, zaa, if_true, if_false, ↓reduceIte, reduceCtorEq])
      all_goals ((repeat' apply zar) <;> (first | rfl | trivial | (simp only []; done) | (simp only []; rfl) | (simp only []; trivial)))
end Go.Proofs.Ytnahpejlhfeleaa
-- NEWGO
-- PRUNE: cl_lendx cl_use
-- ISG: Cs_isG
-- FLAT: Cs_flat
namespace Go.Proofs.Ytnahpejlhfeleaa
set_option linter.unusedVariables false
set_option linter.unusedSimpArgs false
open Go.Proofs.Ytnahpejlhfeleaa.Sh
set_option maxRecDepth 20000
theorem nd_cl (xs : List (Nd)) (c : Option Nat) (hl : xs.length ≤ 1000000) : FnSpec Try.prog 40 [gr xs c] [] (.one (.osl 0 0 xs.length none)) [some ⟨Cs xs, 6⟩] := by
  have hts : List.take (xs.length * 6) (Cs xs) = Cs xs := Cs_all xs _ (zaX _)
  have hil : (Cs xs).length = xs.length * 6 := Cs_len xs
  by_cases h0 : 0 < xs.length
  · refine fnspec_of mixed TT_ok TT_cl ⟨fun _ => false, fun _ => [], 0, fun _ => false, fun _ => false⟩ Try.func40 rfl (by kernel_rfl) rfl 8 rfl [.tmp 2] rfl ?_
    simp only [go_sem, zaa, zah, zai, zaj, zak, zad, ↓reduceIte, reduceCtorEq, zab, zac, zal, zam, zan, hts, hil]
    repeat' (first
 | with_reducible refine zar ?_ ?_
 | (intros; omega)
 | (intros; (try simp only [zaw, zax, zas, zat, zap, zaq, decide_eq_true_eq, decide_eq_false_iff_not] at *); omega))
    (refine fs_flat [(5, ⟨Cs xs, 6⟩)] (by simp) (by simp only [zae, zaf]; decide) (by simp only [go_sem, resV, resS, zaN, zaK, zay, zaZ, zaT, idx, renO, zaJ, evS, slot, lookR, zaa, ↓reduceIte, reduceCtorEq, if_true, if_false, zaE, zaF, zae, zaf, sLoad, readAt, readNeed, Ints_ren, Ints_length, Ints_getD, and_true, true_and, zaA, zaB]; try decide) ?_ (by simp only [zag, zao, false_implies, implies_true, and_true, zaT, lookR, zaa, if_true, if_false, ↓reduceIte, Cs_flat] <;> (repeat' apply zar) <;> (first | rfl | trivial)) (by simp only [zag, zao, false_implies, implies_true, and_true, true_and, flat_cons, flat_nil, flat_ints, flat_bools, flat_app, zaR, and_self, eq_self_iff_true, zau, Cs_flat]) ?_ <;> (try simp only [go_sem, resV, resS, zaN, zaK, zay, zaZ, zaT, idx, renO, zaJ, evS, slot, lookR, zaa, ↓reduceIte, reduceCtorEq, if_true, if_false, zaE, zaF, zae, zaf, sLoad, readAt, readNeed, Ints_ren, Ints_length, Ints_getD, and_true, true_and, zaA, zaB]) <;> (try rfl))
  · have hn : xs = [] := List.length_eq_zero_iff.1 (by omega)
    subst hn
    refine FnSpec.niln (FnSpec.nilrow 6 ?_) (fun ad cc => ?_)
    · refine fnspec_of mixed TT_ok TT_cl ⟨fun _ => false, fun _ => [], 0, fun _ => false, fun _ => false⟩ Try.func40 rfl (by kernel_rfl) rfl 8 rfl [.tmp 2] rfl ?_
      simp only [go_sem, zaa, zah, zai, zaj, zak, zad, ↓reduceIte, reduceCtorEq, zab, zac, zal, zam, zan]
      repeat' (first
 | exact fs_nil trivial rfl
 | fail)
    · refine fnspec_of mixed TT_ok TT_cl ⟨fun _ => false, fun _ => [], 0, fun _ => false, fun _ => false⟩ Try.func40 rfl (by kernel_rfl) rfl 8 rfl [.tmp 2] rfl ?_
      simp only [go_sem, zaa, zah, zai, zaj, zak, zad, ↓reduceIte, reduceCtorEq, zab, zac, zal, zam, zan]
      repeat' (first
 | (intros; (try simp only [zaw, zax, zas, zat, zap, zaq, decide_eq_true_eq, decide_eq_false_iff_not] at *); omega))
      (refine fs_flat [(5, ⟨[], 6⟩)] (by simp) (by simp only [zae, zaf]; decide) (by simp only [go_sem, resV, resS, zaN, zaK, zay, zaZ, zaT, idx, renO, zaJ, evS, slot, lookR, zaa, ↓reduceIte, reduceCtorEq, if_true, if_false, zaE, zaF, zae, zaf, sLoad, readAt, readNeed, Ints_ren, Ints_length, Ints_getD, and_true, true_and, zaA, zaB]; try decide) ?_ (by simp only [zag, zao, false_implies, implies_true, and_true, zaT, lookR, zaa, if_true, if_false, ↓reduceIte, Cs_flat] <;> (repeat' apply zar) <;> (first | rfl | trivial)) (by simp only [zag, zao, false_implies, implies_true, and_true, true_and, flat_cons, flat_nil, flat_ints, flat_bools, flat_app, zaR, and_self, eq_self_iff_true, zau, Cs_flat]) ?_ <;> (try simp only [go_sem, resV, resS, zaN, zaK, zay, zaZ, zaT, idx, renO, zaJ, evS, slot, lookR, zaa, ↓reduceIte, reduceCtorEq, if_true, if_false, zaE, zaF, zae, zaf, sLoad, readAt, readNeed, Ints_ren, Ints_length, Ints_getD, and_true, true_and, zaA, zaB]) <;> (try rfl))
theorem fd_ix {l : List Nd} {n id : Int} (h : VT l n) (hb : bsF Nd.i l id = true) : fdM l n id = (gN l (bsV Nd.i l id), true) := by
  obtain ⟨h1, h2⟩ := bsF_at Nd.i l id hb
  have h2' : (gN l (bsV Nd.i l id)).i = id := h2
  unfold fdM
  rw [(chkT_iff l n).2 h, if_pos rfl]
  have : l.find? (hasI id) = some (gN l (bsV Nd.i l id)) := by
    rw [List.find?_eq_some_iff_getElem]
    refine ⟨decide_eq_true h2', bsV Nd.i l id, h1, (getD_at l _ zn h1).symm, fun j hj => ?_⟩
    have h3 := h.asc j _ hj h1
    rw [h2', show gN l j = l[j] from getD_at l j zn (by omega)] at h3
    simp only [zas, decide_eq_false_iff_not]; omega
  rw [this]
theorem fd_no {l : List Nd} {n id : Int} (h : VT l n) (hb : bsF Nd.i l id = false) : fdM l n id = (zn, false) := by
  unfold fdM
  rw [(chkT_iff l n).2 h, if_pos rfl]
  rw [bs_any Nd.i l (fun i j hij hj => h.asc i j hij hj) id] at hb
  rw [List.find?_eq_none.2 fun x hx e => List.any_eq_false.1 hb x hx e]
theorem hasM_bs {l : List Nd} {n id : Int} (h : VT l n) : hasM l n id = bsF Nd.i l id := by
  rw [bs_any Nd.i l (fun i j hij hj => h.asc i j hij hj) id]
  unfold hasM
  rw [(chkT_iff l n).2 h, Bool.true_and]
set_option maxHeartbeats 8000000 in
theorem tfind_spec (l : List Nd) (n id : Int) (hl : l.length ≤ 1000000) (hnm : NmR l) (hct : CtR l) : FnSpec Try.prog 50 [trV l none n, i1 id] [] (.tup [.agg (ndc (fdM l n id).1), b1 (fdM l n id).2]) [] := by
  have h1 := tchk_spec l n hl hnm hct
  have h2 := index_spec l none id hl
  have hnl := nd_len l
  cases hb : bsF Nd.i l id with
  | false =>
    have e : fdM l n id = (zn, false) := by
      cases hc : chkT l n with
      | false => unfold fdM; rw [hc]; rfl
      | true => exact fd_no ((chkT_iff l n).1 hc) hb
    rw [e]
    rw [hb] at h2
    generalize bsV Nd.i l id = v at *
    refine fnspec_of mixed TT_ok TT_cl ⟨fun _ => false, fun _ => [], 0, fun _ => false, fun _ => false⟩ Try.func50 rfl (by kernel_rfl) rfl 28 rfl [.cell 4 42, .tmp 5] rfl ?_
    simp only [go_sem, zaa, zah, zai, zaj, zak, zad, ↓reduceIte, reduceCtorEq, zab, zac, zal, zam, zan]
    repeat' (first
 | with_reducible refine zar ?_ ?_
 | (apply cl_plain
    case hs => rfl
    case ha => (simp only [zae, zaf, prepV, prepC, idx, hpL', lookR, zaa, if_true, if_false]; rfl)
    case h => (first | exact h2 ..))
 | ((first | refine s1_id ?_ | refine swp_id ?_ | refine sops_id ?_ | refine s2_id ?_); simp only [zaI, zaL, zau, zaM, zaO, zaG, zaH, zaD, zaP, zaQ, zaz, zaC, go_sem, zaa, zah, zai, zaj, zak, zad, ↓reduceIte, reduceCtorEq, zab, zac, zal, zam, zan, zaN, zaK, zay, zaJ, renO, bk, back, outUpsFrom, Ints_ren])
 | (intros; omega)
 | (apply fs_nil <;> (try simp only [go_sem, resV, resS, zaN, zaK, zay, zaZ, zaT, idx, renO, zaJ, evS, slot, lookR, zaa, ↓reduceIte, reduceCtorEq, if_true, if_false, zaE, zaF, zae, zaf, sLoad, readAt, readNeed, Ints_ren, Ints_length, Ints_getD, and_true, true_and, zaA, zaB]) <;> (try rfl))
 | fail)
  | true =>
  rw [hb] at h2
  cases hc : chkT l n with
  | false =>
    have e : fdM l n id = (zn, false) := by unfold fdM; rw [hc]; rfl
    rw [e]
    rw [hc] at h1
    generalize bsV Nd.i l id = v at *
    refine fnspec_of mixed TT_ok TT_cl ⟨fun _ => false, fun _ => [], 0, fun _ => false, fun _ => false⟩ Try.func50 rfl (by kernel_rfl) rfl 28 rfl [.cell 4 42, .tmp 5] rfl ?_
    simp only [go_sem, zaa, zah, zai, zaj, zak, zad, ↓reduceIte, reduceCtorEq, zab, zac, zal, zam, zan]
    repeat' (first
 | with_reducible refine zar ?_ ?_
 | (apply cg_tp
    case hl => rfl
    case ha => (simp only [zae, zaf, prepV, prepC, idx, hpL', lookR, zaa, if_true, if_false]; rfl)
    case hs => rfl
    case h => (first | exact h1 .. | exact h2 ..))
 | (apply cl_plain
    case hs => rfl
    case ha => (simp only [zae, zaf, prepV, prepC, idx, hpL', lookR, zaa, if_true, if_false]; rfl)
    case h => (first | exact h1 .. | exact h2 ..))
 | ((first | refine s1_id ?_ | refine swp_id ?_ | refine sops_id ?_ | refine s2_id ?_); simp only [zaI, zaL, zau, zaM, zaO, zaG, zaH, zaD, zaP, zaQ, zaz, zaC, go_sem, zaa, zah, zai, zaj, zak, zad, ↓reduceIte, reduceCtorEq, zab, zac, zal, zam, zan, zaN, zaK, zay, zaJ, renO, bk, back, outUpsFrom, Ints_ren])
 | (intros; omega)
 | (apply fs_nil <;> (try simp only [go_sem, resV, resS, zaN, zaK, zay, zaZ, zaT, idx, renO, zaJ, evS, slot, lookR, zaa, ↓reduceIte, reduceCtorEq, if_true, if_false, zaE, zaF, zae, zaf, sLoad, readAt, readNeed, Ints_ren, Ints_length, Ints_getD, and_true, true_and, zaA, zaB]) <;> (try rfl))
 | fail)
  | true =>
  rw [fd_ix ((chkT_iff l n).1 hc) hb]
  rw [hc] at h1
  have hlt := (bsF_at Nd.i l id hb).1
  generalize bsV Nd.i l id = v at *
  have hN := nd_td l v hlt
  generalize gN l v = x at *
  obtain ⟨xi, xp, xn, xc, xk, xo⟩ := x
  simp only [ndc] at hN ⊢
  refine fnspec_of mixed TT_ok TT_cl ⟨fun _ => false, fun _ => [], 0, fun _ => false, fun _ => false⟩ Try.func50 rfl (by kernel_rfl) rfl 28 rfl [.cell 4 42, .tmp 5] rfl ?_
  simp only [go_sem, zaa, zah, zai, zaj, zak, zad, ↓reduceIte, reduceCtorEq, zab, zac, zal, zam, zan, hN]
  repeat' (first
 | with_reducible refine zar ?_ ?_
 | (apply cg_tp
    case hl => rfl
    case ha => (simp only [zae, zaf, prepV, prepC, idx, hpL', lookR, zaa, if_true, if_false]; rfl)
    case hs => rfl
    case h => (first | exact h1 .. | exact h2 ..))
 | (apply cl_plain
    case hs => rfl
    case ha => (simp only [zae, zaf, prepV, prepC, idx, hpL', lookR, zaa, if_true, if_false]; rfl)
    case h => (first | exact h1 .. | exact h2 ..))
 | ((first | refine s1_id ?_ | refine swp_id ?_ | refine sops_id ?_ | refine s2_id ?_); simp only [hN, zaI, zaL, zau, zaM, zaO, zaG, zaH, zaD, zaP, zaQ, zaz, zaC, go_sem, zaa, zah, zai, zaj, zak, zad, ↓reduceIte, reduceCtorEq, zab, zac, zal, zam, zan, zaN, zaK, zay, zaJ, renO, bk, back, outUpsFrom, Ints_ren])
 | (intros; omega)
 | (apply fs_nil <;> (try simp only [go_sem, resV, resS, zaN, zaK, zay, zaZ, zaT, idx, renO, zaJ, evS, slot, lookR, zaa, ↓reduceIte, reduceCtorEq, if_true, if_false, zaE, zaF, zae, zaf, sLoad, readAt, readNeed, Ints_ren, Ints_length, Ints_getD, and_true, true_and, zaA, zaB]) <;> (try rfl))
 | fail)
def upT (l : List Nd) (t : Nat) : List Int := if t = 0 then [] else upL l (gN l t).p
theorem VT.upT {l : List Nd} {n : Int} (h : VT l n) {t : Nat} (ht : t < l.length) : upL l (gN l t).i = (gN l t).i :: upT l t := by
  unfold Go.Proofs.Ytnahpejlhfeleaa.upT
  by_cases h0 : t = 0
  · subst h0
    rw [if_pos rfl, h.root.1, h.up0]
  · rw [if_neg h0, h.up ht h0]
set_option maxHeartbeats 16000000 in
theorem tanc_spec (l : List Nd) (n id : Int) (hl : l.length ≤ 1000000) (hnm : NmR l) (hct : CtR l) : FnSpec Try.prog 27 [trV l none n, i1 id] [] (gi (ancM l n id) none) [] := by
  have h1 := tfind_spec l n id hl hnm hct
  have h2 := fdM_2 l n id
  have hnl := nd_len l
  unfold ancM
  cases hh : hasM l n id with
  | false =>
    rw [hh] at h2
    rw [if_neg Bool.false_ne_true]
    generalize fdM l n id = u at *
    obtain ⟨⟨xi, xp, xn, xc, xk, xo⟩, b⟩ := u
    simp only at h2
    subst h2
    simp only [ndc] at h1
    refine fnspec_of mixed TT_ok TT_cl ⟨fun _ => false, fun _ => [], 0, fun _ => false, fun _ => false⟩ Try.func27 rfl (by kernel_rfl) rfl 42 rfl [.tmp 4] rfl ?_
    simp only [go_sem, zaa, zah, zai, zaj, zak, zad, ↓reduceIte, reduceCtorEq, zab, zac, zal, zam, zan]
    repeat' (first
 | (apply cl_plain
    case hs => rfl
    case ha => (simp only [zae, zaf, prepV, prepC, idx, hpL', lookR, zaa, if_true, if_false]; rfl)
    case h => (first | exact h1 ..))
 | ((first | refine s1_id ?_ | refine swp_id ?_ | refine sops_id ?_ | refine s2_id ?_); simp only [zaI, zaL, zau, zaM, zaO, zaG, zaH, zaD, zaP, zaQ, zaz, zaC, go_sem, zaa, zah, zai, zaj, zak, zad, ↓reduceIte, reduceCtorEq, zab, zac, zal, zam, zan, zaN, zaK, zay, zaJ, renO, bk, back, outUpsFrom, Ints_ren])
 | (intros; (try simp only [zaw, zax, zas, zat, zap, zaq, decide_eq_true_eq, decide_eq_false_iff_not] at *); omega))
    repeat' (first
 | exact fs_w trivial (svw_of cw_gnil)
 | fail)
  | true =>
  rw [if_pos rfl]
  have hk : chkT l n = true := (hasM_iff.1 hh).1
  have hV := (chkT_iff l n).1 hk
  have hb : bsF Nd.i l id = true := by rw [← hasM_bs hV, hh]
  obtain ⟨b1', b2'⟩ := bsF_at Nd.i l id hb
  rw [fd_ix hV hb] at h1
  generalize bsV Nd.i l id = v at *
  have e0 : (gN l v).i = id := b2'
  have hu := hV.upT b1'
  rw [e0] at hu
  obtain ⟨U, hU⟩ : ∃ U, upL l id = U := ⟨_, rfl⟩
  have hUl : U.length ≤ l.length := by rw [← hU]; have := upR_len l.reverse id; rw [List.length_reverse] at this; exact this
  rw [hU] at hu ⊢
  simp only at h1
  generalize hx : gN l v = x at *
  obtain ⟨xi, xp, xn, xc, xk, xo⟩ := x
  simp only [ndc] at h1
  refine fnspec_of mixed TT_ok TT_cl ⟨fun _ => false, fun _ => [], 0, fun _ => false, fun _ => false⟩ Try.func27 rfl (by kernel_rfl) rfl 42 rfl [.tmp 4] rfl ?_
  simp only [go_sem, zaa, zah, zai, zaj, zak, zad, ↓reduceIte, reduceCtorEq, zab, zac, zal, zam, zan]
  repeat' (first
 | (apply cl_plain
    case hs => rfl
    case ha => (simp only [zae, zaf, prepV, prepC, idx, hpL', lookR, zaa, if_true, if_false]; rfl)
    case h => (first | exact h1 ..))
 | ((first | refine s1_id ?_ | refine swp_id ?_ | refine sops_id ?_ | refine s2_id ?_); simp only [zaI, zaL, zau, zaM, zaO, zaG, zaH, zaD, zaP, zaQ, zaz, zaC, go_sem, zaa, zah, zai, zaj, zak, zad, ↓reduceIte, reduceCtorEq, zab, zac, zal, zam, zan, zaN, zaK, zay, zaJ, renO, bk, back, outUpsFrom, Ints_ren])
 | (intros; (try simp only [zaw, zax, zas, zat, zap, zaq, decide_eq_true_eq, decide_eq_false_iff_not] at *); omega))
  refine w_loop (ι := Nat × List Int) (fun s => ⟨[(2, .one (.optr 0 0)), (5, .one (.optr 1 0)), (7, .one (.osl 2 0 s.2.length none))], [(0, some ⟨[.gsl (Cs l) 0 l.length none, int n], 2⟩), (1, some ⟨ndc (gN l s.1), 6⟩), (2, some ⟨Ints s.2, 1⟩)], 3⟩) (fun s => s.1 < l.length ∧ U = s.2 ++ upT l s.1) (fun s => s.1) (v, [id]) ?_ ⟨b1', hu⟩ ?_
  · refine Imp.trans (t := ⟨[(2, .one (.optr 0 0)), (5, .one (.optr 1 0)), (7, .one (.osl 2 0 1 (some 1)))], [(0, some ⟨[.gsl (Cs l) 0 l.length none, int n], 2⟩), (1, some ⟨[int xi, int xp, st xn, int xc, int xk, int xo], 6⟩), (2, some ⟨Ints [id], 1⟩)], 3⟩) ?_ (imp_w _ _ _ ?_ (by rw [hx]) (zaX _))
    · skip
      (refine imp_ren _ _ _ [(0, 0, ⟨[.gsl (Cs l) 0 l.length none, int n], 2⟩), (1, 8, ⟨[int xi, int xp, st xn, int xc, int xk, int xo], 6⟩), (2, 14, ⟨Ints [id], 1⟩)] (by simp) (by simp) (by simp) (zav rfl) ?_ rfl (by simp only [zag, zao, false_implies, implies_true, and_true, zaT, lookR, zaa, if_true, if_false, ↓reduceIte] <;> (repeat' apply zar) <;> (first | rfl | trivial)) (by simp only [zag, zao, false_implies, implies_true, and_true, true_and, flat_cons, flat_nil, flat_ints, flat_bools, flat_app, zaR, and_self, eq_self_iff_true, zau]); simp only [zae, zaf, zag, zao, false_implies, implies_true, and_true, lk, slot, zaN, zay, toN, zaa, if_true, if_false, ↓reduceIte, reduceCtorEq])
      all_goals ((repeat' apply zar) <;> (first | rfl | trivial))
    · intro x hx
      simp only [List.mem_cons, zao, or_false] at hx
      rcases hx with rfl | rfl | rfl <;> first | exact ⟨_, rfl, SVW.refl _⟩ | exact ⟨_, rfl, svw_of (cw_ocap _ _ _ _)⟩
  clear h1 hx hu e0
  rintro ⟨t, W⟩ ⟨ht, hW⟩
  simp only at ht hW ⊢
  have hWl : W.length ≤ l.length := by rw [hW, zaY] at hUl; omega
  by_cases h0 : t = 0
  · subst h0
    have hr := hV.root.1
    rw [show upT l 0 = [] from rfl, zau] at hW
    subst hW
    generalize gN l 0 = y at *
    obtain ⟨yi, yp, yn, yc, yk, yo⟩ := y
    simp only at hr
    subst hr
    simp only [go_sem, zaa, zah, zai, zaj, zak, zad, ↓reduceIte, reduceCtorEq, zab, zac, zal, zam, zan, ndc]
    repeat' (first
 | (intros; (try simp only [zaw, zax, zas, zat, zap, zaq, decide_eq_true_eq, decide_eq_false_iff_not] at *); omega))
    (refine fs_frz 2 ⟨Ints U, 1⟩ (by simp only [zaT, lookR, zaa, if_true, if_false, ↓reduceIte]) (by first | exact Ints_isG _ | exact Bools_isG _ | exact Cs_isG _ | (simp [Cell.isG]; done)) ?_; simp only [frzTm, SV.frz, SV.frzL, Cell.frz, frzHp, frzO, Ints_frz, Bools_frz, zae, zaf, zaa, if_true, if_false, ↓reduceIte])
    apply fs_nil <;> (try simp only [go_sem, resV, resS, zaN, zaK, zay, zaZ, zaT, idx, renO, zaJ, evS, slot, lookR, zaa, ↓reduceIte, reduceCtorEq, if_true, if_false, zaE, zaF, zae, zaf, sLoad, readAt, readNeed, Ints_ren, Ints_length, Ints_getD, and_true, true_and, zaA, zaB]) <;> (try rfl)
  · have hne : ¬ (gN l t).i = 1 := by
      have := hV.asc 0 t (by omega) ht
      rw [hV.root.1] at this; omega
    obtain ⟨j, hj, hp⟩ := (hV.ch ht h0).par
    obtain ⟨q1, q2⟩ := bs_found Nd.i l (fun i j hij hj => hV.asc i j hij hj) j (by omega)
    have q1' : bsV Nd.i l (gN l j).i = j := q1
    have q2' : bsF Nd.i l (gN l j).i = true := q2
    have h3 := index_spec l none (gN l j).i hl
    rw [q1', q2', hp] at h3
    have hW2 : U = (W ++ [(gN l t).p]) ++ upT l j := by
      rw [hW, show upT l t = upL l (gN l t).p from if_neg h0, ← hp, hV.upT (by omega), List.append_assoc]; rfl
    have hN := nd_td l j (by omega)
    generalize gN l t = y at *
    obtain ⟨yi, yp, yn, yc, yk, yo⟩ := y
    simp only at hne h3 hW2 hp
    have htk : List.take W.length (Ints W) = Ints W := zaV (by rw [Ints_length]; exact zaX _)
    have hpp : Ints W ++ [int yp] = Ints (W ++ [yp]) := by simp [Ints]
    have hla : (W ++ [yp]).length = W.length + 1 := by simp
    simp only [go_sem, zaa, zah, zai, zaj, zak, zad, ↓reduceIte, reduceCtorEq, zab, zac, zal, zam, zan, ndc, decide_eq_false hne, hN]
    repeat' (first
 | with_reducible refine zar ?_ ?_
 | (apply cl_plain
    case hs => rfl
    case ha => (simp only [zae, zaf, prepV, prepC, idx, hpL', lookR, zaa, if_true, if_false]; rfl)
    case h => (first | exact h3 ..))
 | ((first | refine s1_id ?_ | refine swp_id ?_ | refine sops_id ?_ | refine s2_id ?_); simp only [ndc, decide_eq_false hne, htk, hpp, hN, zaI, zaL, zau, zaM, zaO, zaG, zaH, zaD, zaP, zaQ, zaz, zaC, go_sem, zaa, zah, zai, zaj, zak, zad, ↓reduceIte, reduceCtorEq, zab, zac, zal, zam, zan, zaN, zaK, zay, zaJ, renO, bk, back, outUpsFrom, Ints_ren])
 | (intros; omega)
 | (intros; (try simp only [zaw, zax, zas, zat, zap, zaq, decide_eq_true_eq, decide_eq_false_iff_not] at *); omega))
    refine le_mk (j, W ++ [yp]) ?_ ⟨by omega, hW2⟩ hj
    simp only [hla]
    (refine imp_ren _ _ _ [(0, 0, ⟨[.gsl (Cs l) 0 l.length none, int n], 2⟩), (1, 1, ⟨ndc (gN l j), 6⟩), (2, 10, ⟨Ints (W ++ [yp]), 1⟩)] (by simp) (by simp) (by simp) (zav rfl) ?_ rfl (by simp only [zag, zao, false_implies, implies_true, and_true, zaT, lookR, zaa, if_true, if_false, ↓reduceIte, ndc] <;> (repeat' apply zar) <;> (first | rfl | trivial)) (by simp only [zag, zao, false_implies, implies_true, and_true, true_and, flat_cons, flat_nil, flat_ints, flat_bools, flat_app, zaR, and_self, eq_self_iff_true, zau, ndc]); simp only [zae, zaf, zag, zao, false_implies, implies_true, and_true, lk, slot, zaN, zay, toN, zaa, if_true, if_false, ↓reduceIte, reduceCtorEq])
    all_goals ((repeat' apply zar) <;> (first | rfl | trivial | (simp only [ndc]; done) | (simp only [ndc]; rfl) | (simp only [ndc]; trivial)))
theorem tdepth_spec (l : List Nd) (n id : Int) (hl : l.length ≤ 1000000) (hnm : NmR l) (hct : CtR l) : FnSpec Try.prog 19 [trV l none n, i1 id] [] (i1 ((ancM l n id).length - 1)) [] := by
  have h1 := tanc_spec l n id hl hnm hct
  have h2 := ancM_len l n id
  generalize ancM l n id = U at *
  refine fnspec_of mixed TT_ok TT_cl ⟨fun _ => false, fun _ => [], 0, fun _ => false, fun _ => false⟩ Try.func19 rfl (by kernel_rfl) rfl 10 rfl [.tmp 4] rfl ?_
  simp only [go_sem, zaa, zah, zai, zaj, zak, zad, ↓reduceIte, reduceCtorEq, zab, zac, zal, zam, zan]
  repeat' (first
 | with_reducible refine zar ?_ ?_
 | (apply cl_plain
    case hs => rfl
    case ha => (simp only [zae, zaf, prepV, prepC, idx, hpL', lookR, zaa, if_true, if_false]; rfl)
    case h => (first | exact h1 ..))
 | ((first | refine s1_id ?_ | refine swp_id ?_ | refine sops_id ?_ | refine s2_id ?_); simp only [go_sem, zaa, zah, zai, zaj, zak, zad, ↓reduceIte, reduceCtorEq, zab, zac, zal, zam, zan, zaN, zaK, zay, zaJ, renO, bk, back, outUpsFrom, Ints_ren])
 | (intros; omega)
 | exact fs_nil trivial rfl
 | fail)
theorem tnew_spec : FnSpec Try.prog 10 [] [] (trV [⟨1, 0, [], 0, 0, 0⟩] none 2) [] := by
  refine fnspec_of mixed TT_ok TT_cl ⟨fun _ => false, fun _ => [], 0, fun _ => false, fun _ => false⟩ Try.func10 rfl (by kernel_rfl) rfl 4 rfl [.cell 0 29] rfl ?_
  simp only [go_sem, zaa, zah, zai, zaj, zak, zad, ↓reduceIte, reduceCtorEq, zab, zac, zal, zam, zan]
  repeat' (first
 | with_reducible refine zar ?_ ?_
 | (intros; (try simp only [zaw, zax, zas, zat, zap, zaq, decide_eq_true_eq, decide_eq_false_iff_not] at *); omega))
  all_goals try (exact zaX _)
  simp only [zaI, zaL, zau, zaM, zaO, zaG, zaH, zaD, zaP, zaQ, zaz, zaC]
  (refine fs_frz 2 ⟨[int 1, int 0, st [], int 0, int 0, int 0], 6⟩ (by simp only [zaT, lookR, zaa, if_true, if_false, ↓reduceIte]) (by first | exact Ints_isG _ | exact Bools_isG _ | exact Cs_isG _ | (simp [Cell.isG]; done)) ?_; simp only [frzTm, SV.frz, SV.frzL, Cell.frz, frzHp, frzO, Ints_frz, Bools_frz, zae, zaf, zaa, if_true, if_false, ↓reduceIte])
  repeat' (first
 | (refine fs_w ?h1 (svw_of ?h2); (case h1 => repeat' (first | exact trivial | exact rfl | exact zav rfl | apply zar)); (case h2 => repeat' (first | ((with_reducible refine (?_ : CW _ _)); first | exact cw_gnil | exact cw_rfl _ | exact cw_niln _ _ | exact cw_cap _ _ _ _) | exact trivial | (show _ ∧ SWL _ _; apply zar) | (show _ ∧ CWL _ _; apply zar) | show CW _ _)))
 | fail)
set_option maxHeartbeats 16000000 in
theorem tadd_spec (l : List Nd) (n p : Int) (s : Str) (hl : l.length ≤ 1000000) (hnm : NmR l) (hct : CtR l) (hs : s.length ≤ 1000000000) : FnSpec Try.prog 13 [trV l none n, i1 p, s1 s] [] (adV (addM l n p s)) [] := by
  have h1 := tchk_spec l n hl hnm hct
  have h2 := valid_spec s (by omega)
  have hnl := nd_len l
  unfold addM
  cases hc : chkT l n with
  | false =>
    rw [hc] at h1
    rw [Bool.false_and, if_pos rfl]
    refine fnspec_of mixed TT_ok TT_cl ⟨fun _ => false, fun _ => [], 0, fun _ => false, fun _ => false⟩ Try.func13 rfl (by kernel_rfl) rfl 70 rfl [.cell 6 29, .tmp 7, .tmp 8] rfl ?_
    simp only [go_sem, zaa, zah, zai, zaj, zak, zad, ↓reduceIte, reduceCtorEq, zab, zac, zal, zam, zan]
    repeat' (first
 | (apply cl_plain
    case hs => rfl
    case ha => (simp only [zae, zaf, prepV, prepC, idx, hpL', lookR, zaa, if_true, if_false]; rfl)
    case h => (first | exact h1 .. | exact h2 ..))
 | ((first | refine s1_id ?_ | refine swp_id ?_ | refine sops_id ?_ | refine s2_id ?_); simp only [go_sem, zaa, zah, zai, zaj, zak, zad, ↓reduceIte, reduceCtorEq, zab, zac, zal, zam, zan, zaN, zaK, zay, zaJ, renO, bk, back, outUpsFrom, Ints_ren])
 | (intros; (try simp only [zaw, zax, zas, zat, zap, zaq, decide_eq_true_eq, decide_eq_false_iff_not] at *); omega))
    repeat' (first
 | (refine fs_w ?h1 (svw_of ?h2); (case h1 => repeat' (first | exact trivial | exact rfl | exact zav rfl | apply zar)); (case h2 => repeat' (first | ((with_reducible refine (?_ : CW _ _)); first | exact cw_gnil | exact cw_rfl _ | exact cw_niln _ _ | exact cw_cap _ _ _ _) | exact trivial | (show _ ∧ SWL _ _; apply zar) | (show _ ∧ CWL _ _; apply zar) | show CW _ _)))
 | fail)
  | true =>
  rw [hc] at h1
  rw [Bool.true_and]
  have hV := (chkT_iff l n).1 hc
  cases hv : nmOk s with
  | false =>
    rw [hv] at h2
    rw [if_pos rfl]
    refine fnspec_of mixed TT_ok TT_cl ⟨fun _ => false, fun _ => [], 0, fun _ => false, fun _ => false⟩ Try.func13 rfl (by kernel_rfl) rfl 70 rfl [.cell 6 29, .tmp 7, .tmp 8] rfl ?_
    simp only [go_sem, zaa, zah, zai, zaj, zak, zad, ↓reduceIte, reduceCtorEq, zab, zac, zal, zam, zan]
    repeat' (first
 | (apply cg_tp
    case hl => rfl
    case ha => (simp only [zae, zaf, prepV, prepC, idx, hpL', lookR, zaa, if_true, if_false]; rfl)
    case hs => rfl
    case h => (first | exact h1 .. | exact h2 ..))
 | (apply cl_plain
    case hs => rfl
    case ha => (simp only [zae, zaf, prepV, prepC, idx, hpL', lookR, zaa, if_true, if_false]; rfl)
    case h => (first | exact h1 .. | exact h2 ..))
 | ((first | refine s1_id ?_ | refine swp_id ?_ | refine sops_id ?_ | refine s2_id ?_); simp only [go_sem, zaa, zah, zai, zaj, zak, zad, ↓reduceIte, reduceCtorEq, zab, zac, zal, zam, zan, zaN, zaK, zay, zaJ, renO, bk, back, outUpsFrom, Ints_ren])
 | (intros; (try simp only [zaw, zax, zas, zat, zap, zaq, decide_eq_true_eq, decide_eq_false_iff_not] at *); omega))
    repeat' (first
 | (refine fs_w ?h1 (svw_of ?h2); (case h1 => repeat' (first | exact trivial | exact rfl | exact zav rfl | apply zar)); (case h2 => repeat' (first | ((with_reducible refine (?_ : CW _ _)); first | exact cw_gnil | exact cw_rfl _ | exact cw_niln _ _ | exact cw_cap _ _ _ _) | exact trivial | (show _ ∧ SWL _ _; apply zar) | (show _ ∧ CWL _ _; apply zar) | show CW _ _)))
 | fail)
  | true =>
  rw [hv] at h2
  rw [if_neg (by decide)]
  have h3 := index_spec l none p hl
  have hhb := hasM_bs (id := p) hV
  cases hh : hasM l n p with
  | false =>
    rw [← hhb, hh] at h3
    rw [if_pos rfl]
    generalize bsV Nd.i l p = v at *
    refine fnspec_of mixed TT_ok TT_cl ⟨fun _ => false, fun _ => [], 0, fun _ => false, fun _ => false⟩ Try.func13 rfl (by kernel_rfl) rfl 70 rfl [.cell 6 29, .tmp 7, .tmp 8] rfl ?_
    simp only [go_sem, zaa, zah, zai, zaj, zak, zad, ↓reduceIte, reduceCtorEq, zab, zac, zal, zam, zan]
    repeat' (first
 | (apply cg_tp
    case hl => rfl
    case ha => (simp only [zae, zaf, prepV, prepC, idx, hpL', lookR, zaa, if_true, if_false]; rfl)
    case hs => rfl
    case h => (first | exact h1 .. | exact h2 .. | exact h3 ..))
 | (apply cl_plain
    case hs => rfl
    case ha => (simp only [zae, zaf, prepV, prepC, idx, hpL', lookR, zaa, if_true, if_false]; rfl)
    case h => (first | exact h1 .. | exact h2 .. | exact h3 ..))
 | ((first | refine s1_id ?_ | refine swp_id ?_ | refine sops_id ?_ | refine s2_id ?_); simp only [go_sem, zaa, zah, zai, zaj, zak, zad, ↓reduceIte, reduceCtorEq, zab, zac, zal, zam, zan, zaN, zaK, zay, zaJ, renO, bk, back, outUpsFrom, Ints_ren])
 | (intros; (try simp only [zaw, zax, zas, zat, zap, zaq, decide_eq_true_eq, decide_eq_false_iff_not] at *); omega))
    repeat' (first
 | (refine fs_w ?h1 (svw_of ?h2); (case h1 => repeat' (first | exact trivial | exact rfl | exact zav rfl | apply zar)); (case h2 => repeat' (first | ((with_reducible refine (?_ : CW _ _)); first | exact cw_gnil | exact cw_rfl _ | exact cw_niln _ _ | exact cw_cap _ _ _ _) | exact trivial | (show _ ∧ SWL _ _; apply zar) | (show _ ∧ CWL _ _; apply zar) | show CW _ _)))
 | fail)
  | true =>
  rw [← hhb, hh] at h3
  rw [if_neg (by decide)]
  generalize bsV Nd.i l p = v at *
  have h4 := taken_spec l none p s hl
  cases ht : l.any (same1 p s) with
  | true =>
    rw [ht] at h4
    rw [if_pos rfl]
    refine fnspec_of mixed TT_ok TT_cl ⟨fun _ => false, fun _ => [], 0, fun _ => false, fun _ => false⟩ Try.func13 rfl (by kernel_rfl) rfl 70 rfl [.cell 6 29, .tmp 7, .tmp 8] rfl ?_
    simp only [go_sem, zaa, zah, zai, zaj, zak, zad, ↓reduceIte, reduceCtorEq, zab, zac, zal, zam, zan]
    repeat' (first
 | (apply cg_tp
    case hl => rfl
    case ha => (simp only [zae, zaf, prepV, prepC, idx, hpL', lookR, zaa, if_true, if_false]; rfl)
    case hs => rfl
    case h => (first | exact h1 .. | exact h2 .. | exact h3 .. | exact h4 ..))
 | (apply cl_plain
    case hs => rfl
    case ha => (simp only [zae, zaf, prepV, prepC, idx, hpL', lookR, zaa, if_true, if_false]; rfl)
    case h => (first | exact h1 .. | exact h2 .. | exact h3 .. | exact h4 ..))
 | ((first | refine s1_id ?_ | refine swp_id ?_ | refine sops_id ?_ | refine s2_id ?_); simp only [go_sem, zaa, zah, zai, zaj, zak, zad, ↓reduceIte, reduceCtorEq, zab, zac, zal, zam, zan, zaN, zaK, zay, zaJ, renO, bk, back, outUpsFrom, Ints_ren])
 | (intros; (try simp only [zaw, zax, zas, zat, zap, zaq, decide_eq_true_eq, decide_eq_false_iff_not] at *); omega))
    repeat' (first
 | (refine fs_w ?h1 (svw_of ?h2); (case h1 => repeat' (first | exact trivial | exact rfl | exact zav rfl | apply zar)); (case h2 => repeat' (first | ((with_reducible refine (?_ : CW _ _)); first | exact cw_gnil | exact cw_rfl _ | exact cw_niln _ _ | exact cw_cap _ _ _ _) | exact trivial | (show _ ∧ SWL _ _; apply zar) | (show _ ∧ CWL _ _; apply zar) | show CW _ _)))
 | fail)
  | false =>
  rw [ht] at h4
  rw [if_neg (by decide)]
  have h5 := tdepth_spec l n p hl hnm hct
  have h6 := nd_cl l none hl
  have hle := hV.le
  have hdp : (ancM l n p).length ≤ 9 := by
    unfold ancM
    rw [hh, if_pos rfl]
    obtain ⟨hk, y, hy, rfl⟩ := hasM_iff.1 hh
    obtain ⟨i, hi, rfl⟩ := gN_mem l y hy
    exact hV.dp i hi
  have hmx := hV.mx
  have hpos := hV.nx
  have hp1 := hV.pos (i := l.length - 1) (by have := hV.ne; omega)
  generalize ancM l n p = A at *
  by_cases c1 : (A.length : Int) - 1 = 8
  · rw [if_pos (by omega)]
    refine fnspec_of mixed TT_ok TT_cl ⟨fun _ => false, fun _ => [], 0, fun _ => false, fun _ => false⟩ Try.func13 rfl (by kernel_rfl) rfl 70 rfl [.cell 6 29, .tmp 7, .tmp 8] rfl ?_
    simp only [go_sem, zaa, zah, zai, zaj, zak, zad, ↓reduceIte, reduceCtorEq, zab, zac, zal, zam, zan, decide_eq_true c1]
    repeat' (first
 | (apply cg_tp
    case hl => rfl
    case ha => (simp only [zae, zaf, prepV, prepC, idx, hpL', lookR, zaa, if_true, if_false]; rfl)
    case hs => rfl
    case h => (first | exact h1 .. | exact h2 .. | exact h3 .. | exact h4 .. | exact h5 ..))
 | (apply cl_plain
    case hs => rfl
    case ha => (simp only [zae, zaf, prepV, prepC, idx, hpL', lookR, zaa, if_true, if_false]; rfl)
    case h => (first | exact h1 .. | exact h2 .. | exact h3 .. | exact h4 .. | exact h5 ..))
 | ((first | refine s1_id ?_ | refine swp_id ?_ | refine sops_id ?_ | refine s2_id ?_); simp only [decide_eq_true c1, go_sem, zaa, zah, zai, zaj, zak, zad, ↓reduceIte, reduceCtorEq, zab, zac, zal, zam, zan, zaN, zaK, zay, zaJ, renO, bk, back, outUpsFrom, Ints_ren])
 | (intros; (try simp only [zaw, zax, zas, zat, zap, zaq, decide_eq_true_eq, decide_eq_false_iff_not] at *); omega))
    repeat' (first
 | (refine fs_w ?h1 (svw_of ?h2); (case h1 => repeat' (first | exact trivial | exact rfl | exact zav rfl | apply zar)); (case h2 => repeat' (first | ((with_reducible refine (?_ : CW _ _)); first | exact cw_gnil | exact cw_rfl _ | exact cw_niln _ _ | exact cw_cap _ _ _ _) | exact trivial | (show _ ∧ SWL _ _; apply zar) | (show _ ∧ CWL _ _; apply zar) | show CW _ _)))
 | fail)
  by_cases c2 : (l.length : Int) = 64
  · rw [if_pos (by omega)]
    refine fnspec_of mixed TT_ok TT_cl ⟨fun _ => false, fun _ => [], 0, fun _ => false, fun _ => false⟩ Try.func13 rfl (by kernel_rfl) rfl 70 rfl [.cell 6 29, .tmp 7, .tmp 8] rfl ?_
    simp only [go_sem, zaa, zah, zai, zaj, zak, zad, ↓reduceIte, reduceCtorEq, zab, zac, zal, zam, zan, decide_eq_false c1, decide_eq_true c2]
    repeat' (first
 | (apply cg_tp
    case hl => rfl
    case ha => (simp only [zae, zaf, prepV, prepC, idx, hpL', lookR, zaa, if_true, if_false]; rfl)
    case hs => rfl
    case h => (first | exact h1 .. | exact h2 .. | exact h3 .. | exact h4 .. | exact h5 ..))
 | (apply cl_plain
    case hs => rfl
    case ha => (simp only [zae, zaf, prepV, prepC, idx, hpL', lookR, zaa, if_true, if_false]; rfl)
    case h => (first | exact h1 .. | exact h2 .. | exact h3 .. | exact h4 .. | exact h5 ..))
 | ((first | refine s1_id ?_ | refine swp_id ?_ | refine sops_id ?_ | refine s2_id ?_); simp only [decide_eq_false c1, decide_eq_true c2, go_sem, zaa, zah, zai, zaj, zak, zad, ↓reduceIte, reduceCtorEq, zab, zac, zal, zam, zan, zaN, zaK, zay, zaJ, renO, bk, back, outUpsFrom, Ints_ren])
 | (intros; (try simp only [zaw, zax, zas, zat, zap, zaq, decide_eq_true_eq, decide_eq_false_iff_not] at *); omega))
    repeat' (first
 | (refine fs_w ?h1 (svw_of ?h2); (case h1 => repeat' (first | exact trivial | exact rfl | exact zav rfl | apply zar)); (case h2 => repeat' (first | ((with_reducible refine (?_ : CW _ _)); first | exact cw_gnil | exact cw_rfl _ | exact cw_niln _ _ | exact cw_cap _ _ _ _) | exact trivial | (show _ ∧ SWL _ _; apply zar) | (show _ ∧ CWL _ _; apply zar) | show CW _ _)))
 | fail)
  by_cases c3 : 2147483647 < n
  · rw [if_pos (by omega)]
    refine fnspec_of mixed TT_ok TT_cl ⟨fun _ => false, fun _ => [], 0, fun _ => false, fun _ => false⟩ Try.func13 rfl (by kernel_rfl) rfl 70 rfl [.cell 6 29, .tmp 7, .tmp 8] rfl ?_
    simp only [go_sem, zaa, zah, zai, zaj, zak, zad, ↓reduceIte, reduceCtorEq, zab, zac, zal, zam, zan, decide_eq_false c1, decide_eq_false c2, decide_eq_true c3]
    repeat' (first
 | (apply cg_tp
    case hl => rfl
    case ha => (simp only [zae, zaf, prepV, prepC, idx, hpL', lookR, zaa, if_true, if_false]; rfl)
    case hs => rfl
    case h => (first | exact h1 .. | exact h2 .. | exact h3 .. | exact h4 .. | exact h5 ..))
 | (apply cl_plain
    case hs => rfl
    case ha => (simp only [zae, zaf, prepV, prepC, idx, hpL', lookR, zaa, if_true, if_false]; rfl)
    case h => (first | exact h1 .. | exact h2 .. | exact h3 .. | exact h4 .. | exact h5 ..))
 | ((first | refine s1_id ?_ | refine swp_id ?_ | refine sops_id ?_ | refine s2_id ?_); simp only [decide_eq_false c1, decide_eq_false c2, decide_eq_true c3, go_sem, zaa, zah, zai, zaj, zak, zad, ↓reduceIte, reduceCtorEq, zab, zac, zal, zam, zan, zaN, zaK, zay, zaJ, renO, bk, back, outUpsFrom, Ints_ren])
 | (intros; (try simp only [zaw, zax, zas, zat, zap, zaq, decide_eq_true_eq, decide_eq_false_iff_not] at *); omega))
    repeat' (first
 | (refine fs_w ?h1 (svw_of ?h2); (case h1 => repeat' (first | exact trivial | exact rfl | exact zav rfl | apply zar)); (case h2 => repeat' (first | ((with_reducible refine (?_ : CW _ _)); first | exact cw_gnil | exact cw_rfl _ | exact cw_niln _ _ | exact cw_cap _ _ _ _) | exact trivial | (show _ ∧ SWL _ _; apply zar) | (show _ ∧ CWL _ _; apply zar) | show CW _ _)))
 | fail)
  rw [if_neg (by omega)]
  have hca : List.take (l.length * 6) (Cs l) = Cs l := Cs_all l _ (zaX _)
  have hpp : Cs l ++ [int n, int p, st s, int 0, int 0, int 0] = Cs (l ++ [newN n p s]) := Cs_snoc l (newN n p s)
  have hla : (l ++ [newN n p s]).length = l.length + 1 := by simp
  refine fnspec_of mixed TT_ok TT_cl ⟨fun _ => false, fun _ => [], 0, fun _ => false, fun _ => false⟩ Try.func13 rfl (by kernel_rfl) rfl 70 rfl [.cell 6 29, .tmp 7, .tmp 8] rfl ?_
  simp only [go_sem, zaa, zah, zai, zaj, zak, zad, ↓reduceIte, reduceCtorEq, zab, zac, zal, zam, zan, decide_eq_false c1, decide_eq_false c2, decide_eq_false c3]
  repeat' (first
 | with_reducible refine zar ?_ ?_
 | (unfold OKC; kernel_rfl)
 | (unfold EDG; kernel_rfl)
 | (apply cg_tp
    case hl => rfl
    case ha => (simp only [zae, zaf, prepV, prepC, idx, hpL', lookR, zaa, if_true, if_false]; rfl)
    case hs => rfl
    case h => (first | exact h1 .. | exact h2 .. | exact h3 .. | exact h4 .. | exact h5 .. | exact h6 ..))
 | (apply cl_plain
    case hs => rfl
    case ha => (simp only [zae, zaf, prepV, prepC, idx, hpL', lookR, zaa, if_true, if_false]; rfl)
    case h => (first | exact h1 .. | exact h2 .. | exact h3 .. | exact h4 .. | exact h5 .. | exact h6 ..))
 | ((first | refine s1_id ?_ | refine swp_id ?_ | refine sops_id ?_ | refine s2_id ?_); simp only [decide_eq_false c1, decide_eq_false c2, decide_eq_false c3, hca, hpp, zaI, zaL, zau, zaM, zaO, zaG, zaH, zaD, zaP, zaQ, zaz, zaC, go_sem, zaa, zah, zai, zaj, zak, zad, ↓reduceIte, reduceCtorEq, zab, zac, zal, zam, zan, zaN, zaK, zay, zaJ, renO, bk, back, outUpsFrom, Ints_ren])
 | (intros; omega)
 | (intros; (try simp only [zaw, zax, zas, zat, zap, zaq, decide_eq_true_eq, decide_eq_false_iff_not] at *); omega))
  simp only [adV, trV, hla]
  (refine fs_frz 55 ⟨Cs (l ++ [newN n p s]), 6⟩ (by simp only [zaT, lookR, zaa, if_true, if_false, ↓reduceIte]) (by first | exact Ints_isG _ | exact Bools_isG _ | exact Cs_isG _ | (simp [Cell.isG]; done)) ?_; simp only [frzTm, SV.frz, SV.frzL, Cell.frz, frzHp, frzO, Ints_frz, Bools_frz, zae, zaf, zaa, if_true, if_false, ↓reduceIte])
  apply fs_nil <;> (try simp only [go_sem, resV, resS, zaN, zaK, zay, zaZ, zaT, idx, renO, zaJ, evS, slot, lookR, zaa, ↓reduceIte, reduceCtorEq, if_true, if_false, zaE, zaF, zae, zaf, sLoad, readAt, readNeed, Ints_ren, Ints_length, Ints_getD, and_true, true_and, zaA, zaB]) <;> (first | rfl | decide | skip)
end Go.Proofs.Ytnahpejlhfeleaa
-- NEWGO
-- PRUNE: cl_lendx cl_use
-- ISG: Cs_isG
-- FLAT: Cs_flat
namespace Go.Proofs.Ytnahpejlhfeleaa
set_option linter.unusedVariables false
set_option linter.unusedSimpArgs false
open Go.Proofs.Ytnahpejlhfeleaa.Sh
set_option maxRecDepth 20000
theorem agg_sl (e : Nat) : (TK.slice e).isAgg = false := rfl
theorem bel_kids (l : List Nd) (g : Int) : (mget (.int .i64 g) (gcN (belowM l)) = none ∧ kidsL l g = []) ∨ mget (.int .i64 g) (gcN (belowM l)) = some (.gsl (Ints (kidsL l g)) 0 (kidsL l g).length none) := by
  have := mget_gc g (belowM l)
  rw [belowM_kg] at this
  exact this
end Go.Proofs.Ytnahpejlhfeleaa
-- NEWGO
-- PRUNE: cl_lendx cl_use
-- ISG: Cs_isG
-- FLAT: hfl
namespace Go.Proofs.Ytnahpejlhfeleaa
set_option linter.unusedVariables false
set_option linter.unusedSimpArgs false
open Go.Proofs.Ytnahpejlhfeleaa.Sh
set_option maxRecDepth 20000
end Go.Proofs.Ytnahpejlhfeleaa
-- NEWGO
-- PRUNE: cl_lendx cl_use
-- ISG: Cs_isG
-- FLAT: hfl
namespace Go.Proofs.Ytnahpejlhfeleaa
set_option linter.unusedVariables false
set_option linter.unusedSimpArgs false
open Go.Proofs.Ytnahpejlhfeleaa.Sh
set_option maxRecDepth 20000
end Go.Proofs.Ytnahpejlhfeleaa
-- NEWGO
-- PRUNE: cl_use cg_ts cg_show
-- ISG: Cs_isG
-- FLAT: Cs_flat
namespace Go.Proofs.Ytnahpejlhfeleaa
set_option linter.unusedVariables false
set_option linter.unusedSimpArgs false
open Go.Proofs.Ytnahpejlhfeleaa.Sh
set_option maxRecDepth 20000
theorem lay_cs (l m : List Nd) (k d : Nat) (hd : d = k * 6) : layAt (Cs l) d (Cs m) = Cs (l.take k ++ m ++ l.drop (k + m.length)) := by
  subst hd
  unfold layAt
  have e1 : (Cs l).take (k * 6) = Cs (l.take k) := Cs_take l k
  have e2 : (Cs l).drop (k * 6 + (Cs m).length) = Cs (l.drop (k + m.length)) := by
    rw [nd_len m, ← Nat.add_mul]; exact Cs_drop l (k + m.length)
  rw [e1, e2, Cs_app, Cs_app]
theorem nd_take (l : List Nd) (k : Nat) : (Cs l).take (k * 6) = Cs (l.take k) := Cs_take l k
theorem nd_drop (l : List Nd) (k : Nat) : (Cs l).drop (k * 6) = Cs (l.drop k) := Cs_drop l k
set_option maxHeartbeats 8000000 in
theorem ndel_spec (l : List Nd) (k : Nat) (hk : k < l.length) (hl : l.length ≤ 1000) : FnSpec Try.prog 43 [.one (.osl 0 0 l.length none), i1 k, i1 (k + 1)] [⟨Cs l, 6⟩] (.one (.gsl (Cs (l.take k ++ l.drop (k + 1))) 0 (l.length - 1) none)) [none] := by
  refine FnSpec.capk (fun c hc => ?_)
  obtain ⟨c, rfl⟩ : ∃ c', c = c' + 1 := ⟨c - 1, by omega⟩
  have hil := nd_len l
  have hkk : ¬ (k : Int) = (k : Int) + 1 := by omega
  have t0 : Int.toNat 0 = 0 := rfl
  have t1 : ((k : Int) + 1).toNat = k + 1 := by omega
  have t2 : k + (l.length - (k + 1)) = l.length - 1 := by omega
  have t3 : l.length - (l.length - 1) = 1 := by omega
  have hr : l.length - 1 ≤ c + 1 := by omega
  have hd1 : List.take ((l.length - (k + 1)) * 6) (Cs (l.drop (k + 1))) = Cs (l.drop (k + 1)) := zaV (by rw [nd_len, zaW]; exact zaX _)
  have hd2 : List.take (l.length - (k + 1)) (l.drop (k + 1)) = l.drop (k + 1) := zaV (by rw [zaW]; exact zaX _)
  have hdl : (Cs (l.drop (k + 1))).length = (l.length - (k + 1)) * 6 := by rw [nd_len, zaW]
  have hM : layAt (Cs l) (k * 6) (Cs (l.drop (k + 1))) = Cs (l.take k ++ l.drop (k + 1) ++ l.drop (l.length - 1)) := by
    have e : k + (l.drop (k + 1)).length = l.length - 1 := by rw [zaW]; omega
    rw [lay_cs l (l.drop (k + 1)) k _ rfl, e]
  have hL : (l.take k ++ l.drop (k + 1)).length = l.length - 1 := by rw [zaY, zbb, zaW]; omega
  have hML : (Cs (l.take k ++ l.drop (k + 1) ++ l.drop (l.length - 1))).length = l.length * 6 := by
    rw [nd_len, zaY, hL, zaW]; congr 1; omega
  have hN : layAt (Cs (l.take k ++ l.drop (k + 1) ++ l.drop (l.length - 1))) ((l.length - 1) * 6) (Cs [zn]) = Cs (l.take k ++ l.drop (k + 1) ++ [zn]) := by
    rw [lay_cs _ [zn] (l.length - 1) _ rfl]
    have e1 : (l.take k ++ l.drop (k + 1) ++ l.drop (l.length - 1)).take (l.length - 1) = l.take k ++ l.drop (k + 1) := by
      rw [List.take_append_of_le_length (by omega), zaV (by omega)]
    have e2 : (l.take k ++ l.drop (k + 1) ++ l.drop (l.length - 1)).drop (l.length - 1 + [zn].length) = [] := List.drop_of_length_le (by rw [zaY, hL, zaW]; simp only [zaz, zaC]; omega)
    rw [e1, e2, zau]
  have hN' : layAt (Cs (l.take k ++ l.drop (k + 1) ++ l.drop (l.length - 1))) ((l.length - 1) * 6) [Cell.sc (Value.int IntKind.i64 0), Cell.sc (Value.int IntKind.i64 0), Cell.sc (Value.string (bs [])), Cell.sc (Value.int IntKind.i64 0), Cell.sc (Value.int IntKind.i64 0), Cell.sc (Value.int IntKind.i64 0)] = Cs (l.take k ++ l.drop (k + 1) ++ [zn]) := hN
  have hT : (Cs (l.take k ++ l.drop (k + 1) ++ [zn])).take ((l.length - 1) * 6) = Cs (l.take k ++ l.drop (k + 1)) := by
    rw [nd_take, List.take_append_of_le_length (by omega), zaV (by omega)]
  refine fnspec_of mixed TT_ok TT_cl ⟨fun _ => false, fun _ => [], 1, fun _ => false, fun _ => false⟩ Try.func43 rfl (by kernel_rfl) rfl 33 rfl [.tmp 6] rfl ?_
  simp only [go_sem, zaa, zah, zai, zaj, zak, zad, ↓reduceIte, reduceCtorEq, zab, zac, zal, zam, zan, hil, decide_eq_false hkk, t0, t1, t2, t3, hr, hd1, hd2, hdl, hM, hN', zaI, zaL, zau, Nat.zero_mul, Nat.sub_zero, nd_take, nd_drop]
  repeat' (first
 | with_reducible refine zar ?_ ?_
 | (unfold OKC; kernel_rfl)
 | (unfold EDG; kernel_rfl)
 | (intros; omega)
 | (intros; (try simp only [zaw, zax, zas, zat, zap, zaq, decide_eq_true_eq, decide_eq_false_iff_not] at *); omega))
  all_goals try (intro row hrow; cases hrow; rfl)
  refine fs_res (res0 := .one (.gsl (Cs (l.take k ++ l.drop (k + 1) ++ [zn])) 0 (l.length - 1) (some (c + 1)))) (svw_of (by
    rw [← hT]
    exact cw_trans (cw_take _ _ _ _ _) (cw_cap _ _ _ _))) ?_
  refine fs_frz 0 ⟨Cs (l.take k ++ l.drop (k + 1) ++ [zn]), 6⟩ (by first | (simp only [zaT, lookR, zaa, if_true, if_false, ↓reduceIte, reduceCtorEq]; done) | rfl) (Cs_isG _) ?_
  simp only [frzTm, SV.frz, SV.frzL, Cell.frz, frzHp, frzO, Cs_frz, zae, zaf, zaa, if_true, if_false, ↓reduceIte]
  (refine fs_mk [0] (by simp) (by decide) (by simp only [go_sem, resV, resS, zaN, zaK, zay, zaZ, zaT, idx, renO, zaJ, evS, slot, lookR, zaa, ↓reduceIte, reduceCtorEq, if_true, if_false, zaE, zaF, zae, zaf, sLoad, readAt, readNeed, Ints_ren, Ints_length, Ints_getD, and_true, true_and, zaA, zaB]; try decide) ?_ ?_ ?_ <;> (try simp only [go_sem, resV, resS, zaN, zaK, zay, zaZ, zaT, idx, renO, zaJ, evS, slot, lookR, zaa, ↓reduceIte, reduceCtorEq, if_true, if_false, zaE, zaF, zae, zaf, sLoad, readAt, readNeed, Ints_ren, Ints_length, Ints_getD, and_true, true_and, zaA, zaB, zaT, lookR, renO, zaJ, zay, idx, zae, zaf, Ints_ren, zag, zao, false_implies, implies_true, Option.some.injEq, forall_eq', and_true, true_and, frzHp, frzO, Cs_ren]) <;> (try rfl) <;> (try ((repeat' apply zar) <;> (first | trivial | exact fun c hc q hq => absurd hq (Ints_refs0 _ _ c hc) | (simp [zaR]; done)))))
end Go.Proofs.Ytnahpejlhfeleaa
-- NEWGO
-- PRUNE: cl_lendx cl_use cg_ts
-- ISG: Cs_isG
-- FLAT: Cs_flat
namespace Go.Proofs.Ytnahpejlhfeleaa
set_option linter.unusedVariables false
set_option linter.unusedSimpArgs false
open Go.Proofs.Ytnahpejlhfeleaa.Sh
set_option maxRecDepth 20000
theorem rmN_app (a b : List Nd) (id : Int) : rmN (a ++ b) id = rmN a id ++ rmN b id := List.filter_append ..
theorem rmN_all {a : List Nd} {id : Int} (h : ∀ x ∈ a, x.i ≠ id) : rmN a id = a := List.filter_eq_self.2 fun x hx => by
  simp only [zas, decide_eq_false_iff_not]
  exact h x hx
theorem rmN_ix {l : List Nd} {n : Int} (h : VT l n) {i : Nat} (hi : i < l.length) : rmN l (gN l i).i = l.take i ++ l.drop (i + 1) := by
  have hs : l = l.take i ++ gN l i :: l.drop (i + 1) := by
    conv => lhs; rw [← List.take_append_drop i l]
    rw [drop_getD l i zn hi]
  have h1 : ∀ x ∈ l.take i, x.i ≠ (gN l i).i := fun x hx => by
    obtain ⟨j, hj, rfl⟩ := List.mem_iff_getElem.1 hx
    rw [zbb] at hj
    rw [List.getElem_take, ← getD_at l j zn (by omega)]
    have := h.asc j i (by omega) hi
    show (gN l j).i ≠ _
    omega
  have h2 : ∀ x ∈ l.drop (i + 1), x.i ≠ (gN l i).i := fun x hx => by
    obtain ⟨j, hj, rfl⟩ := List.mem_iff_getElem.1 hx
    rw [zaW] at hj
    rw [List.getElem_drop, ← getD_at l (i + 1 + j) zn (by omega)]
    have := h.asc i (i + 1 + j) (by omega) (by omega)
    show (gN l (i + 1 + j)).i ≠ _
    omega
  generalize hq : (gN l i).i = q at *
  conv => lhs; rw [hs]
  rw [rmN_app, rmN_all h1]
  have h3 : rmN (gN l i :: l.drop (i + 1)) q = rmN (l.drop (i + 1)) q := List.filter_cons_of_neg (by rw [hq]; simp)
  rw [h3, rmN_all h2]
set_option maxHeartbeats 16000000 in
theorem trem_spec (l : List Nd) (n id : Int) (hl : l.length ≤ 1000000) (hnm : NmR l) (hct : CtR l) : FnSpec Try.prog 17 [trV l none n, i1 id] [] (rmV (rmM l n id)) [] := by
  have h1 := tchk_spec l n hl hnm hct
  unfold rmM
  cases hc : chkT l n with
  | false =>
    rw [hc] at h1
    rw [if_pos rfl]
    refine fnspec_of mixed TT_ok TT_cl ⟨fun _ => false, fun _ => [], 0, fun _ => false, fun _ => false⟩ Try.func17 rfl (by kernel_rfl) rfl 42 rfl [.cell 4 29, .tmp 5] rfl ?_
    simp only [go_sem, zaa, zah, zai, zaj, zak, zad, ↓reduceIte, reduceCtorEq, zab, zac, zal, zam, zan]
    repeat' (first
 | (apply cl_plain
    case hs => rfl
    case ha => (simp only [zae, zaf, prepV, prepC, idx, hpL', lookR, zaa, if_true, if_false]; rfl)
    case h => (first | exact h1 ..))
 | ((first | refine s1_id ?_ | refine swp_id ?_ | refine sops_id ?_ | refine s2_id ?_); simp only [zaI, zaL, zau, zaM, zaO, zaG, zaH, zaD, zaP, zaQ, zaz, zaC, go_sem, zaa, zah, zai, zaj, zak, zad, ↓reduceIte, reduceCtorEq, zab, zac, zal, zam, zan, zaN, zaK, zay, zaJ, renO, bk, back, outUpsFrom, Ints_ren])
 | (intros; (try simp only [zaw, zax, zas, zat, zap, zaq, decide_eq_true_eq, decide_eq_false_iff_not] at *); omega))
    repeat' (first
 | (refine fs_w ?h1 (svw_of ?h2); (case h1 => repeat' (first | exact trivial | exact rfl | exact zav rfl | apply zar)); (case h2 => repeat' (first | ((with_reducible refine (?_ : CW _ _)); first | exact cw_gnil | exact cw_rfl _ | exact cw_niln _ _ | exact cw_cap _ _ _ _) | exact trivial | (show _ ∧ SWL _ _; apply zar) | (show _ ∧ CWL _ _; apply zar) | show CW _ _)))
 | fail)
  | true =>
  rw [hc] at h1
  rw [if_neg (by decide)]
  have hV := (chkT_iff l n).1 hc
  have h3 := index_spec l none id hl
  have hhb := hasM_bs (id := id) hV
  have hbv := bsF_at Nd.i l id
  cases hh : hasM l n id with
  | false =>
    rw [← hhb, hh] at h3
    rw [if_pos rfl]
    generalize bsV Nd.i l id = v at *
    refine fnspec_of mixed TT_ok TT_cl ⟨fun _ => false, fun _ => [], 0, fun _ => false, fun _ => false⟩ Try.func17 rfl (by kernel_rfl) rfl 42 rfl [.cell 4 29, .tmp 5] rfl ?_
    simp only [go_sem, zaa, zah, zai, zaj, zak, zad, ↓reduceIte, reduceCtorEq, zab, zac, zal, zam, zan]
    repeat' (first
 | (apply cl_plain
    case hs => rfl
    case ha => (simp only [zae, zaf, prepV, prepC, idx, hpL', lookR, zaa, if_true, if_false]; rfl)
    case h => (first | exact h1 .. | exact h3 ..))
 | ((first | refine s1_id ?_ | refine swp_id ?_ | refine sops_id ?_ | refine s2_id ?_); simp only [zaI, zaL, zau, zaM, zaO, zaG, zaH, zaD, zaP, zaQ, zaz, zaC, go_sem, zaa, zah, zai, zaj, zak, zad, ↓reduceIte, reduceCtorEq, zab, zac, zal, zam, zan, zaN, zaK, zay, zaJ, renO, bk, back, outUpsFrom, Ints_ren])
 | (intros; (try simp only [zaw, zax, zas, zat, zap, zaq, decide_eq_true_eq, decide_eq_false_iff_not] at *); omega))
    repeat' (first
 | (refine fs_w ?h1 (svw_of ?h2); (case h1 => repeat' (first | exact trivial | exact rfl | exact zav rfl | apply zar)); (case h2 => repeat' (first | ((with_reducible refine (?_ : CW _ _)); first | exact cw_gnil | exact cw_rfl _ | exact cw_niln _ _ | exact cw_cap _ _ _ _) | exact trivial | (show _ ∧ SWL _ _; apply zar) | (show _ ∧ CWL _ _; apply zar) | show CW _ _)))
 | fail)
  | true =>
  rw [← hhb, hh] at h3
  rw [if_neg (by decide)]
  obtain ⟨hv1, hv2⟩ := hbv (by rw [← hhb]; exact hh)
  have hv2 : (gN l (bsV Nd.i l id)).i = id := hv2
  generalize bsV Nd.i l id = v at *
  by_cases hi1 : id = 1
  · rw [if_pos hi1]
    refine fnspec_of mixed TT_ok TT_cl ⟨fun _ => false, fun _ => [], 0, fun _ => false, fun _ => false⟩ Try.func17 rfl (by kernel_rfl) rfl 42 rfl [.cell 4 29, .tmp 5] rfl ?_
    simp only [go_sem, zaa, zah, zai, zaj, zak, zad, ↓reduceIte, reduceCtorEq, zab, zac, zal, zam, zan, decide_eq_true hi1]
    repeat' (first
 | (apply cl_plain
    case hs => rfl
    case ha => (simp only [zae, zaf, prepV, prepC, idx, hpL', lookR, zaa, if_true, if_false]; rfl)
    case h => (first | exact h1 .. | exact h3 ..))
 | ((first | refine s1_id ?_ | refine swp_id ?_ | refine sops_id ?_ | refine s2_id ?_); simp only [decide_eq_true hi1, zaI, zaL, zau, zaM, zaO, zaG, zaH, zaD, zaP, zaQ, zaz, zaC, go_sem, zaa, zah, zai, zaj, zak, zad, ↓reduceIte, reduceCtorEq, zab, zac, zal, zam, zan, zaN, zaK, zay, zaJ, renO, bk, back, outUpsFrom, Ints_ren])
 | (intros; (try simp only [zaw, zax, zas, zat, zap, zaq, decide_eq_true_eq, decide_eq_false_iff_not] at *); omega))
    repeat' (first
 | (refine fs_w ?h1 (svw_of ?h2); (case h1 => repeat' (first | exact trivial | exact rfl | exact zav rfl | apply zar)); (case h2 => repeat' (first | ((with_reducible refine (?_ : CW _ _)); first | exact cw_gnil | exact cw_rfl _ | exact cw_niln _ _ | exact cw_cap _ _ _ _) | exact trivial | (show _ ∧ SWL _ _; apply zar) | (show _ ∧ CWL _ _; apply zar) | show CW _ _)))
 | fail)
  rw [if_neg hi1]
  have h2 := below_spec l n hV.le
  have hmk := mkeys_gc (belowM l)
  have hk := bel_kids l id
  have hren : ∀ ρ, (gcN (belowM l)).map (zay ρ) = gcN (belowM l) := fun ρ => flat_ren (gcN_flat _) ρ
  have hcm : chM l n id = kidsL l id := by unfold chM; rw [hh, if_pos rfl]
  rw [hcm]
  have hle := hV.le
  have h6 := nd_cl l none hl
  have h7 := ndel_spec l v hv1 (by omega)
  have hrm := rmN_ix hV hv1
  rw [hv2] at hrm
  rw [← hrm] at h7
  have hrl : (rmN l id).length = l.length - 1 := by
    rw [hrm, zaY, zbb, zaW]; omega
  generalize rmN l id = R at *
  generalize kidsL l id = K at *
  generalize gcN (belowM l) = M at *
  clear hrm
  have hz : ¬ ((0 : Int) < 0) := by omega
  rcases hk with ⟨e1, rfl⟩ | e1
  · rw [if_neg (by decide)]
    refine fnspec_of mixed TT_ok TT_cl ⟨fun _ => false, fun f => if f = 43 then [0] else [], 0, fun _ => false, fun _ => false⟩ Try.func17 rfl (by kernel_rfl) rfl 42 rfl [.cell 4 29, .tmp 5] rfl ?_
    simp only [go_sem, zaa, zah, zai, zaj, zak, zad, ↓reduceIte, reduceCtorEq, zab, zac, zal, zam, zan, e1, hmk, hren, decide_eq_false hi1, agg_sl, mval_none]
    repeat' (first
 | with_reducible refine zar ?_ ?_
 | (unfold OKC; kernel_rfl)
 | (unfold EDG; kernel_rfl)
 | (apply cl_plain
    case hs => rfl
    case ha => (simp only [zae, zaf, prepV, prepC, idx, hpL', lookR, zaa, if_true, if_false]; rfl)
    case h => (first | exact h1 .. | exact h2 .. | exact h3 .. | exact h6 .. | exact h7 ..))
 | (apply cl_lend
    case hr => (simp only [zae, zaf, hpL', lookR, zaa, if_true, if_false]; first | exact map1 _ | exact map2 _ _ | exact map3 _ _ _)
    case ha => (simp only [zae, zaf, prepV, prepC, idx, hpL', lookR, zaa, if_true, if_false]; rfl)
    case hs => rfl
    case hn => decide
    case h => (first | exact h1 .. | exact h2 .. | exact h3 .. | exact h6 .. | exact h7 ..)
    case hf => (simp only [zag, zao, false_implies, implies_true, and_true, true_and, flat_cons, flat_nil, flat_ints, flat_bools, flat_app, Cs_flat, zaR, and_self, eq_self_iff_true, zau])
    case hl => (simp only [zaz, zaC]; decide))
 | ((first | refine s1_id ?_ | refine swp_id ?_ | refine sops_id ?_ | refine s2_id ?_); simp only [e1, hmk, hren, decide_eq_false hi1, agg_sl, mval_none, zaI, zaL, zau, zaM, zaO, zaG, zaH, zaD, zaP, zaQ, zaz, zaC, go_sem, zaa, zah, zai, zaj, zak, zad, ↓reduceIte, reduceCtorEq, zab, zac, zal, zam, zan, zaN, zaK, zay, zaJ, renO, bk, back, outUpsFrom, Ints_ren])
 | (intros; omega)
 | (intros; (try simp only [zaw, zax, zas, zat, zap, zaq, decide_eq_true_eq, decide_eq_false_iff_not] at *); omega))
    rw [show rmV ((R, n), 0) = .tup [.agg [.gsl (Cs R) 0 (l.length - 1) none, int n], i1 0] from by rw [← hrl]]
    repeat' (first
 | (refine fs_w ?h1 (svw_of ?h2); (case h1 => repeat' (first | exact trivial | exact rfl | exact zav rfl | apply zar)); (case h2 => repeat' (first | ((with_reducible refine (?_ : CW _ _)); first | exact cw_gnil | exact cw_rfl _ | exact cw_niln _ _ | exact cw_cap _ _ _ _) | exact trivial | (show _ ∧ SWL _ _; apply zar) | (show _ ∧ CWL _ _; apply zar) | show CW _ _)))
 | fail)
  · by_cases c : 0 < (K.length : Int)
    · rw [if_pos c]
      refine fnspec_of mixed TT_ok TT_cl ⟨fun _ => false, fun _ => [], 0, fun _ => false, fun _ => false⟩ Try.func17 rfl (by kernel_rfl) rfl 42 rfl [.cell 4 29, .tmp 5] rfl ?_
      simp only [go_sem, zaa, zah, zai, zaj, zak, zad, ↓reduceIte, reduceCtorEq, zab, zac, zal, zam, zan, e1, hmk, hren, decide_eq_false hi1, decide_eq_true c, agg_sl, mval_some]
      repeat' (first
 | (apply cl_plain
    case hs => rfl
    case ha => (simp only [zae, zaf, prepV, prepC, idx, hpL', lookR, zaa, if_true, if_false]; rfl)
    case h => (first | exact h1 .. | exact h2 .. | exact h3 ..))
 | ((first | refine s1_id ?_ | refine swp_id ?_ | refine sops_id ?_ | refine s2_id ?_); simp only [e1, hmk, hren, decide_eq_false hi1, decide_eq_true c, agg_sl, mval_some, zaI, zaL, zau, zaM, zaO, zaG, zaH, zaD, zaP, zaQ, zaz, zaC, go_sem, zaa, zah, zai, zaj, zak, zad, ↓reduceIte, reduceCtorEq, zab, zac, zal, zam, zan, zaN, zaK, zay, zaJ, renO, bk, back, outUpsFrom, Ints_ren])
 | (intros; (try simp only [zaw, zax, zas, zat, zap, zaq, decide_eq_true_eq, decide_eq_false_iff_not] at *); omega))
      repeat' (first
 | (refine fs_w ?h1 (svw_of ?h2); (case h1 => repeat' (first | exact trivial | exact rfl | exact zav rfl | apply zar)); (case h2 => repeat' (first | ((with_reducible refine (?_ : CW _ _)); first | exact cw_gnil | exact cw_rfl _ | exact cw_niln _ _ | exact cw_cap _ _ _ _) | exact trivial | (show _ ∧ SWL _ _; apply zar) | (show _ ∧ CWL _ _; apply zar) | show CW _ _)))
 | fail)
    · rw [if_neg c]
      refine fnspec_of mixed TT_ok TT_cl ⟨fun _ => false, fun f => if f = 43 then [0] else [], 0, fun _ => false, fun _ => false⟩ Try.func17 rfl (by kernel_rfl) rfl 42 rfl [.cell 4 29, .tmp 5] rfl ?_
      simp only [go_sem, zaa, zah, zai, zaj, zak, zad, ↓reduceIte, reduceCtorEq, zab, zac, zal, zam, zan, e1, hmk, hren, decide_eq_false hi1, decide_eq_false c, agg_sl, mval_some]
      repeat' (first
 | with_reducible refine zar ?_ ?_
 | (unfold OKC; kernel_rfl)
 | (unfold EDG; kernel_rfl)
 | (apply cl_plain
    case hs => rfl
    case ha => (simp only [zae, zaf, prepV, prepC, idx, hpL', lookR, zaa, if_true, if_false]; rfl)
    case h => (first | exact h1 .. | exact h2 .. | exact h3 .. | exact h6 .. | exact h7 ..))
 | (apply cl_lend
    case hr => (simp only [zae, zaf, hpL', lookR, zaa, if_true, if_false]; first | exact map1 _ | exact map2 _ _ | exact map3 _ _ _)
    case ha => (simp only [zae, zaf, prepV, prepC, idx, hpL', lookR, zaa, if_true, if_false]; rfl)
    case hs => rfl
    case hn => decide
    case h => (first | exact h1 .. | exact h2 .. | exact h3 .. | exact h6 .. | exact h7 ..)
    case hf => (simp only [zag, zao, false_implies, implies_true, and_true, true_and, flat_cons, flat_nil, flat_ints, flat_bools, flat_app, Cs_flat, zaR, and_self, eq_self_iff_true, zau])
    case hl => (simp only [zaz, zaC]; decide))
 | ((first | refine s1_id ?_ | refine swp_id ?_ | refine sops_id ?_ | refine s2_id ?_); simp only [e1, hmk, hren, decide_eq_false hi1, decide_eq_false c, agg_sl, mval_some, zaI, zaL, zau, zaM, zaO, zaG, zaH, zaD, zaP, zaQ, zaz, zaC, go_sem, zaa, zah, zai, zaj, zak, zad, ↓reduceIte, reduceCtorEq, zab, zac, zal, zam, zan, zaN, zaK, zay, zaJ, renO, bk, back, outUpsFrom, Ints_ren])
 | (intros; omega)
 | (intros; (try simp only [zaw, zax, zas, zat, zap, zaq, decide_eq_true_eq, decide_eq_false_iff_not] at *); omega))
      rw [show rmV ((R, n), 0) = .tup [.agg [.gsl (Cs R) 0 (l.length - 1) none, int n], i1 0] from by rw [← hrl]]
      repeat' (first
 | (refine fs_w ?h1 (svw_of ?h2); (case h1 => repeat' (first | exact trivial | exact rfl | exact zav rfl | apply zar)); (case h2 => repeat' (first | ((with_reducible refine (?_ : CW _ _)); first | exact cw_gnil | exact cw_rfl _ | exact cw_niln _ _ | exact cw_cap _ _ _ _) | exact trivial | (show _ ∧ SWL _ _; apply zar) | (show _ ∧ CWL _ _; apply zar) | show CW _ _)))
 | fail)
end Go.Proofs.Ytnahpejlhfeleaa
-- NEWGO
-- PRUNE: cl_lendx cl_use cl_lend
-- ISG: Strs_isG
namespace Go.Proofs.Ytnahpejlhfeleaa
set_option linter.unusedVariables false
set_option linter.unusedSimpArgs false
open Go.Proofs.Ytnahpejlhfeleaa.Sh
set_option maxRecDepth 20000
def ixP (q : Str → Bool) : List Str → Nat → Int
  | [], _ => -1
  | b :: r, i => if q b = true then (i : Int) else ixP q r (i + 1)
theorem ixP_any (q : Str → Bool) : ∀ s i, decide (0 ≤ ixP q s i) = s.any q
  | [], i => rfl
  | b :: r, i => by
    unfold ixP
    by_cases h : q b = true
    · rw [if_pos h, List.any_cons, h, decide_eq_true (by omega)]; rfl
    · rw [if_neg h, List.any_cons, Bool.eq_false_iff.2 h, ixP_any q r (i + 1)]; rfl
theorem dropP_at (s : List Str) (i : Nat) (h : i < s.length) : s.drop i = s.getD i [] :: s.drop (i + 1) := by
  rw [List.drop_eq_getElem_cons h, List.getD_eq_getElem?_getD, List.getElem?_eq_getElem h]
  rfl
set_option maxHeartbeats 4000000 in
theorem indexS_spec (g : FuncId) (q : Str → Bool) (xs : List Str) (hg : ∀ s ∈ xs, FnSpec Try.prog g [s1 s] [] (b1 (q s)) []) (cap : Option Nat)
    (hs : xs.length ≤ 9223372036854775807) : FnSpec Try.prog 83 [gs xs cap, .one (.fn g [])] [] (i1 (ixP q xs 0)) [] := by
  refine fnspec_of mixed TT_ok TT_cl ⟨fun _ => false, fun _ => [], 0, fun _ => false, fun _ => false⟩ Try.func83 rfl (by kernel_rfl) rfl 19 rfl [.tmp 4] rfl ?_
  simp only [go_sem, zaa, zah, zai, zaj, zak, zad, ↓reduceIte, reduceCtorEq, zab, zac, zal, zam, zan]
  repeat' (first
 | (intros; (try simp only [zaw, zax, zas, zat, zap, zaq, decide_eq_true_eq, decide_eq_false_iff_not] at *); omega))
  refine w_loop (ι := Nat) (fun i => ⟨[(0, gs xs cap), (1, .one (.fn g [])), (7, i1 xs.length), (8, i1 i)], [], 0⟩) (fun i => i ≤ xs.length ∧ ixP q xs 0 = ixP q (xs.drop i) i) (fun i => xs.length - i) 0 ?_ ⟨zbc _, rfl⟩ ?_
  · (refine imp_sub _ _ _ [] (by simp) (by simp) (by simp) (zbc _) ?_ rfl (by simp); simp only [zag, zao, false_implies, implies_true, and_true, lk, slot, zaN, zay, zaa, if_true, if_false, ↓reduceIte, reduceCtorEq])
    all_goals ((repeat' apply zar) <;> (first | rfl | trivial))
  rintro i ⟨hi, he⟩
  simp only at hi he ⊢
  rcases Nat.lt_or_ge i xs.length with hlt | hge
  case inr =>
    have hlt' : ¬ (i : Int) < (xs.length : Int) := by omega
    rw [List.drop_of_length_le hge] at he
    rw [he]
    simp only [go_sem, zaa, zah, zai, zaj, zak, zad, ↓reduceIte, reduceCtorEq, zab, zac, zal, zam, zan, decide_eq_false hlt', ixP]
    repeat' (first
 | exact fs_nil trivial rfl
 | fail)
  have hlt' : (i : Int) < (xs.length : Int) := by omega
  rw [dropP_at xs i hlt, ixP] at he
  have hat := Strs_getD' xs i (.sc (.string (bs []))) hlt
  have hm : xs.getD i [] ∈ xs := by
    rw [List.getD_eq_getElem?_getD, List.getElem?_eq_getElem hlt]
    exact List.getElem_mem hlt
  have hc := hg _ hm
  generalize xs.getD i [] = b at *
  cases hqb : q b with
  | true =>
    rw [hqb] at hc he
    simp only [if_true] at he
    rw [he]
    simp only [go_sem, zaa, zah, zai, zaj, zak, zad, ↓reduceIte, reduceCtorEq, zab, zac, zal, zam, zan, decide_eq_true hlt', hat]
    repeat' (first
 | with_reducible refine zar ?_ ?_
 | (apply cl_plain
    case hs => rfl
    case ha => (simp only [zae, zaf, prepV, prepC, idx, hpL', lookR, zaa, if_true, if_false]; rfl)
    case h => (first | exact hc ..))
 | ((first | refine s1_id ?_ | refine swp_id ?_ | refine sops_id ?_ | refine s2_id ?_); simp only [decide_eq_true hlt', hat, go_sem, zaa, zah, zai, zaj, zak, zad, ↓reduceIte, reduceCtorEq, zab, zac, zal, zam, zan, zaN, zaK, zay, zaJ, renO, bk, back, outUpsFrom, Ints_ren])
 | (intros; omega)
 | exact fs_nil trivial rfl
 | fail)
  | false =>
    rw [hqb] at hc he
    simp only [Bool.false_eq_true, if_false] at he
    simp only [go_sem, zaa, zah, zai, zaj, zak, zad, ↓reduceIte, reduceCtorEq, zab, zac, zal, zam, zan, decide_eq_true hlt', hat]
    repeat' (first
 | with_reducible refine zar ?_ ?_
 | (apply cl_plain
    case hs => rfl
    case ha => (simp only [zae, zaf, prepV, prepC, idx, hpL', lookR, zaa, if_true, if_false]; rfl)
    case h => (first | exact hc ..))
 | ((first | refine s1_id ?_ | refine swp_id ?_ | refine sops_id ?_ | refine s2_id ?_); simp only [decide_eq_true hlt', hat, go_sem, zaa, zah, zai, zaj, zak, zad, ↓reduceIte, reduceCtorEq, zab, zac, zal, zam, zan, zaN, zaK, zay, zaJ, renO, bk, back, outUpsFrom, Ints_ren])
 | (intros; omega)
 | (intros; (try simp only [zaw, zax, zas, zat, zap, zaq, decide_eq_true_eq, decide_eq_false_iff_not] at *); omega))
    refine le_mk (i + 1) ?_ ⟨by omega, he⟩ (by omega)
    (refine imp_sub _ _ _ [] (by simp) (by simp) (by simp) (zbc _) ?_ rfl (by simp); simp only [zag, zao, false_implies, implies_true, and_true, lk, slot, zaN, zay, zaa, if_true, if_false, ↓reduceIte, reduceCtorEq])
    all_goals ((repeat' apply zar) <;> (first | rfl | trivial | (simp only [zaU]; done) | (simp only [zaU]; rfl) | (simp only [zaU]; trivial)))
theorem contS_spec (g : FuncId) (q : Str → Bool) (xs : List Str) (hg : ∀ s ∈ xs, FnSpec Try.prog g [s1 s] [] (b1 (q s)) []) (cap : Option Nat)
    (hs : xs.length ≤ 9223372036854775807) : FnSpec Try.prog 78 [gs xs cap, .one (.fn g [])] [] (b1 (xs.any q)) [] := by
  have h1 := indexS_spec g q xs hg cap hs
  rw [← ixP_any q xs 0]
  refine fnspec_of mixed TT_ok TT_cl ⟨fun _ => false, fun _ => [], 0, fun _ => false, fun _ => false⟩ Try.func78 rfl (by kernel_rfl) rfl 9 rfl [.tmp 4] rfl ?_
  simp only [go_sem, zaa, zah, zai, zaj, zak, zad, ↓reduceIte, reduceCtorEq, zab, zac, zal, zam, zan]
  repeat' (first
 | (apply cl_plain
    case hs => rfl
    case ha => (simp only [zae, zaf, prepV, prepC, idx, hpL', lookR, zaa, if_true, if_false]; rfl)
    case h => (first | exact h1 ..))
 | ((first | refine s1_id ?_ | refine swp_id ?_ | refine sops_id ?_ | refine s2_id ?_); simp only [go_sem, zaa, zah, zai, zaj, zak, zad, ↓reduceIte, reduceCtorEq, zab, zac, zal, zam, zan, zaN, zaK, zay, zaJ, renO, bk, back, outUpsFrom, Ints_ren])
 | exact fs_nil trivial rfl
 | fail)
theorem strangeS_spec (s : Str) (hs : s.length ≤ 9223372036854775807) : FnSpec Try.prog 77 [s1 s] [] (b1 (!nmOk s)) [] := by
  have h1 := valid_spec s hs
  refine fnspec_of mixed TT_ok TT_cl ⟨fun _ => false, fun _ => [], 0, fun _ => false, fun _ => false⟩ Try.func77 rfl (by kernel_rfl) rfl 6 rfl [.tmp 2] rfl ?_
  simp only [go_sem, zaa, zah, zai, zaj, zak, zad, ↓reduceIte, reduceCtorEq, zab, zac, zal, zam, zan]
  repeat' (first
 | (apply cl_plain
    case hs => rfl
    case ha => (simp only [zae, zaf, prepV, prepC, idx, hpL', lookR, zaa, if_true, if_false]; rfl)
    case h => (first | exact h1 ..))
 | ((first | refine s1_id ?_ | refine swp_id ?_ | refine sops_id ?_ | refine s2_id ?_); simp only [go_sem, zaa, zah, zai, zaj, zak, zad, ↓reduceIte, reduceCtorEq, zab, zac, zal, zam, zan, zaN, zaK, zay, zaJ, renO, bk, back, outUpsFrom, Ints_ren])
 | exact fs_nil trivial rfl
 | fail)
def chkP (xs : List Str) : Int := if xs.any (fun s => !nmOk s) = true then 2 else if 8 < (xs.length : Int) then 7 else 0
theorem checkN_spec (xs : List Str) (hx : ∀ s ∈ xs, s.length ≤ 9223372036854775807) (cap : Option Nat)
    (hs : xs.length ≤ 9223372036854775807) : FnSpec Try.prog 68 [gs xs cap] [] (i1 (chkP xs)) [] := by
  have h1 := contS_spec 77 (fun s => !nmOk s) xs (fun s h => strangeS_spec s (hx s h)) cap hs
  unfold chkP
  cases ha : xs.any (fun s => !nmOk s) with
  | true =>
    rw [ha] at h1
    rw [if_pos rfl]
    refine fnspec_of mixed TT_ok TT_cl ⟨fun _ => false, fun _ => [], 0, fun _ => false, fun _ => false⟩ Try.func68 rfl (by kernel_rfl) rfl 10 rfl [.tmp 2] rfl ?_
    simp only [go_sem, zaa, zah, zai, zaj, zak, zad, ↓reduceIte, reduceCtorEq, zab, zac, zal, zam, zan]
    repeat' (first
 | (apply cl_plain
    case hs => rfl
    case ha => (simp only [zae, zaf, prepV, prepC, idx, hpL', lookR, zaa, if_true, if_false]; rfl)
    case h => (first | exact h1 ..))
 | ((first | refine s1_id ?_ | refine swp_id ?_ | refine sops_id ?_ | refine s2_id ?_); simp only [go_sem, zaa, zah, zai, zaj, zak, zad, ↓reduceIte, reduceCtorEq, zab, zac, zal, zam, zan, zaN, zaK, zay, zaJ, renO, bk, back, outUpsFrom, Ints_ren])
 | exact fs_nil trivial rfl
 | fail)
  | false =>
    rw [ha] at h1
    rw [if_neg Bool.false_ne_true]
    by_cases hb : 8 < (xs.length : Int)
    · rw [if_pos hb]
      refine fnspec_of mixed TT_ok TT_cl ⟨fun _ => false, fun _ => [], 0, fun _ => false, fun _ => false⟩ Try.func68 rfl (by kernel_rfl) rfl 10 rfl [.tmp 2] rfl ?_
      simp only [go_sem, zaa, zah, zai, zaj, zak, zad, ↓reduceIte, reduceCtorEq, zab, zac, zal, zam, zan, decide_eq_true hb]
      repeat' (first
 | (apply cl_plain
    case hs => rfl
    case ha => (simp only [zae, zaf, prepV, prepC, idx, hpL', lookR, zaa, if_true, if_false]; rfl)
    case h => (first | exact h1 ..))
 | ((first | refine s1_id ?_ | refine swp_id ?_ | refine sops_id ?_ | refine s2_id ?_); simp only [decide_eq_true hb, go_sem, zaa, zah, zai, zaj, zak, zad, ↓reduceIte, reduceCtorEq, zab, zac, zal, zam, zan, zaN, zaK, zay, zaJ, renO, bk, back, outUpsFrom, Ints_ren])
 | exact fs_nil trivial rfl
 | fail)
    · rw [if_neg hb]
      refine fnspec_of mixed TT_ok TT_cl ⟨fun _ => false, fun _ => [], 0, fun _ => false, fun _ => false⟩ Try.func68 rfl (by kernel_rfl) rfl 10 rfl [.tmp 2] rfl ?_
      simp only [go_sem, zaa, zah, zai, zaj, zak, zad, ↓reduceIte, reduceCtorEq, zab, zac, zal, zam, zan, decide_eq_false hb]
      repeat' (first
 | (apply cl_plain
    case hs => rfl
    case ha => (simp only [zae, zaf, prepV, prepC, idx, hpL', lookR, zaa, if_true, if_false]; rfl)
    case h => (first | exact h1 ..))
 | ((first | refine s1_id ?_ | refine swp_id ?_ | refine sops_id ?_ | refine s2_id ?_); simp only [decide_eq_false hb, go_sem, zaa, zah, zai, zaj, zak, zad, ↓reduceIte, reduceCtorEq, zab, zac, zal, zam, zan, zaN, zaK, zay, zaJ, renO, bk, back, outUpsFrom, Ints_ren])
 | exact fs_nil trivial rfl
 | fail)
def cnt (c : UInt8) (s : Str) : Nat := s.count c
end Go.Proofs.Ytnahpejlhfeleaa
-- NEWGO
-- PRUNE: cl_lendx cl_use cl_lend
-- ISG: Strs_isG
-- FLAT: Strs_flat
namespace Go.Proofs.Ytnahpejlhfeleaa
set_option linter.unusedVariables false
set_option linter.unusedSimpArgs false
open Go.Proofs.Ytnahpejlhfeleaa.Sh
set_option maxRecDepth 20000
end Go.Proofs.Ytnahpejlhfeleaa
