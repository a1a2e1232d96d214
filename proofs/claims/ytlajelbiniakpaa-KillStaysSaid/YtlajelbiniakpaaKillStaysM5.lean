/- Contracts of functions, told of values, on the way to KillStays (part 5). -/
import Derived.Test.YtlajelbiniakpaaKillStaysM3
import Derived.Test.YtlajelbiniakpaaKillStaysM4
-- short names of the library's lemmas
open Nat renaming reduceEqDiff → zaa, reduceLeDiff → zae, reduceAdd → zai, reduceSub → zaj, reduceMul → zak, reduceLT → zal, le_of_ble_eq_true → zaC, zero_le → zaW, le_refl → zaY, lt_succ_self → zaZ, lt_or_ge → zbe
open List renaming reduceReplicate → zab, forall_mem_cons → zad, map_cons → zaf, not_mem_nil → zag, map_nil → zah, append_nil → zap, length_cons → zaw, length_nil → zay, take_succ_cons → zaz, set_cons_zero → zaB, set_cons_succ → zaD, cons_append → zaE, flatten_cons → zaF, nil_append → zaG, getD_cons_zero → zaH, getD_cons_succ → zaI, flatten_nil → zaJ, take_zero → zaK, take_nil → zaO, take_of_length_le → zaV, length_append → zba, drop_of_length_le → zbc, take → zbf, replicate → zbi, flatMap_cons → zbj, length_take → zbk, flatMap_nil → zbl, mem_cons → zbn
open Int renaming cast_ofNat_Int → zac, reduceEq → zam, reduceLT → zan, reduceLE → zao, natCast_add → zaL, toNat_natCast → zaU, tmod_lt_of_pos → zbd
open Option renaming getD_some → zaM, getD_none → zaN
open Bool renaming and_eq_false_iff → zaq, or_eq_false_iff → zar, not_eq_false' → zat, not_eq_true' → zau, and_eq_true → zav, or_eq_true → zax, true_and → zbg, false_and → zbh
open And renaming intro → zas
open Go.Proofs.Ytlajelbiniakpaa.Sh.Cell renaming ren → zaA, refs → zaQ, sc → zbb, isG → zbm, frz → zbo
open Go.Proofs.Ytlajelbiniakpaa.Sh.SV renaming renL → zaR, ren → zaS
open Go.Proofs.Ytlajelbiniakpaa.Sh.Row renaming ren → zaP
open Go.Proofs.Ytlajelbiniakpaa.Sh.St renaming hpF → zaT, tmF → zaX
-- NEWGO
-- PRUNE: cl_lendx cl_use
-- ISG: Cs_isG
-- FLAT: Cs_flat
namespace Go.Proofs.Ytlajelbiniakpaa
set_option linter.unusedVariables false
set_option linter.unusedSimpArgs false
open Go.Proofs.Ytlajelbiniakpaa.Sh
set_option maxRecDepth 20000
abbrev newN (n p : Int) (s : Str) : Nd := ⟨n, p, s, 0, 0, 0⟩
def addM (l : List Nd) (n p : Int) (s : Str) : (List Nd × Int) × Int × Int :=
  if (chkT l n && nmOk s) = false then (([], 0), 0, 1)
  else if hasM l n p = false then (([], 0), 0, 4)
  else if l.any (same1 p s) = true then (([], 0), 0, 5)
  else if 8 ≤ ((ancM l n p).length : Int) - 1 ∨ 64 ≤ (l.length : Int) ∨ 2147483647 < n then (([], 0), 0, 7)
  else ((l ++ [newN n p s], n + 1), n, 0)
abbrev adV (x : (List Nd × Int) × Int × Int) : SV := .tup [trV x.1.1 none x.1.2, i1 x.2.1, i1 x.2.2]
set_option maxHeartbeats 16000000 in
theorem radd_spec (l : List Nd) (k : Option Nat) (n p : Int) (s : Str) (hl : l.length ≤ 1000000) (hnm : NmR l) (hs : s.length ≤ 1000000000) : FnSpec Try.prog 25 [trV l k n, i1 p, s1 s] [] (adV (addM l n p s)) [] := by
  have h1 := trcheck_spec l k n hl hnm
  have h2 := rvalid_spec s (by omega)
  have hnl := nd_len l
  unfold addM
  cases hc : chkT l n with
  | false =>
    rw [hc] at h1
    rw [zbh, if_pos rfl]
    refine fnspec_of mixed TT_ok TT_cl ⟨fun _ => false, fun _ => [], 0, fun _ => false, fun _ => false⟩ Try.func25 rfl (by kernel_rfl) rfl 86 rfl [.cell 6 25, .tmp 7, .tmp 8] rfl ?_
    simp only [go_sem, zaa, zai, zaj, zak, zal, zae, ↓reduceIte, reduceCtorEq, zab, zac, zam, zan, zao]
    repeat' (first
 | (apply cl_plain
    case hs => rfl
    case ha => (simp only [zaf, zah, prepV, prepC, idx, hpL', lookR, zaa, if_true, if_false]; rfl)
    case h => (first | exact h1 .. | exact h2 ..))
 | ((first | refine s1_id ?_ | refine swp_id ?_ | refine sops_id ?_ | refine s2_id ?_); simp only [go_sem, zaa, zai, zaj, zak, zal, zae, ↓reduceIte, reduceCtorEq, zab, zac, zam, zan, zao, zaS, zaR, zaA, zaP, renO, bk, back, outUpsFrom, Ints_ren])
 | (intros; (try simp only [zav, zax, zau, zat, zaq, zar, decide_eq_true_eq, decide_eq_false_iff_not] at *); omega))
    repeat' (first
 | (refine fs_w ?h1 (svw_of ?h2); (case h1 => repeat' (first | exact trivial | exact rfl | exact zaC rfl | apply zas)); (case h2 => repeat' (first | ((with_reducible refine (?_ : CW _ _)); first | exact cw_gnil | exact cw_rfl _ | exact cw_niln _ _ | exact cw_cap _ _ _ _) | exact trivial | (show _ ∧ SWL _ _; apply zas) | (show _ ∧ CWL _ _; apply zas) | show CW _ _)))
 | fail)
  | true =>
  rw [hc] at h1
  rw [zbg]
  have hV := (chkT_iff l n).1 hc
  cases hv : nmOk s with
  | false =>
    rw [hv] at h2
    rw [if_pos rfl]
    refine fnspec_of mixed TT_ok TT_cl ⟨fun _ => false, fun _ => [], 0, fun _ => false, fun _ => false⟩ Try.func25 rfl (by kernel_rfl) rfl 86 rfl [.cell 6 25, .tmp 7, .tmp 8] rfl ?_
    simp only [go_sem, zaa, zai, zaj, zak, zal, zae, ↓reduceIte, reduceCtorEq, zab, zac, zam, zan, zao]
    repeat' (first
 | (apply cg_tp
    case hl => rfl
    case ha => (simp only [zaf, zah, prepV, prepC, idx, hpL', lookR, zaa, if_true, if_false]; rfl)
    case hs => rfl
    case h => (first | exact h1 .. | exact h2 ..))
 | (apply cl_plain
    case hs => rfl
    case ha => (simp only [zaf, zah, prepV, prepC, idx, hpL', lookR, zaa, if_true, if_false]; rfl)
    case h => (first | exact h1 .. | exact h2 ..))
 | ((first | refine s1_id ?_ | refine swp_id ?_ | refine sops_id ?_ | refine s2_id ?_); simp only [go_sem, zaa, zai, zaj, zak, zal, zae, ↓reduceIte, reduceCtorEq, zab, zac, zam, zan, zao, zaS, zaR, zaA, zaP, renO, bk, back, outUpsFrom, Ints_ren])
 | (intros; (try simp only [zav, zax, zau, zat, zaq, zar, decide_eq_true_eq, decide_eq_false_iff_not] at *); omega))
    repeat' (first
 | (refine fs_w ?h1 (svw_of ?h2); (case h1 => repeat' (first | exact trivial | exact rfl | exact zaC rfl | apply zas)); (case h2 => repeat' (first | ((with_reducible refine (?_ : CW _ _)); first | exact cw_gnil | exact cw_rfl _ | exact cw_niln _ _ | exact cw_cap _ _ _ _) | exact trivial | (show _ ∧ SWL _ _; apply zas) | (show _ ∧ CWL _ _; apply zas) | show CW _ _)))
 | fail)
  | true =>
  rw [hv] at h2
  rw [if_neg (by decide)]
  have h3 := rhas_spec l k n p hl hnm
  cases hh : hasM l n p with
  | false =>
    rw [hh] at h3
    rw [if_pos rfl]
    refine fnspec_of mixed TT_ok TT_cl ⟨fun _ => false, fun _ => [], 0, fun _ => false, fun _ => false⟩ Try.func25 rfl (by kernel_rfl) rfl 86 rfl [.cell 6 25, .tmp 7, .tmp 8] rfl ?_
    simp only [go_sem, zaa, zai, zaj, zak, zal, zae, ↓reduceIte, reduceCtorEq, zab, zac, zam, zan, zao]
    repeat' (first
 | (apply cg_tp
    case hl => rfl
    case ha => (simp only [zaf, zah, prepV, prepC, idx, hpL', lookR, zaa, if_true, if_false]; rfl)
    case hs => rfl
    case h => (first | exact h1 .. | exact h2 .. | exact h3 ..))
 | (apply cl_plain
    case hs => rfl
    case ha => (simp only [zaf, zah, prepV, prepC, idx, hpL', lookR, zaa, if_true, if_false]; rfl)
    case h => (first | exact h1 .. | exact h2 .. | exact h3 ..))
 | ((first | refine s1_id ?_ | refine swp_id ?_ | refine sops_id ?_ | refine s2_id ?_); simp only [go_sem, zaa, zai, zaj, zak, zal, zae, ↓reduceIte, reduceCtorEq, zab, zac, zam, zan, zao, zaS, zaR, zaA, zaP, renO, bk, back, outUpsFrom, Ints_ren])
 | (intros; (try simp only [zav, zax, zau, zat, zaq, zar, decide_eq_true_eq, decide_eq_false_iff_not] at *); omega))
    repeat' (first
 | (refine fs_w ?h1 (svw_of ?h2); (case h1 => repeat' (first | exact trivial | exact rfl | exact zaC rfl | apply zas)); (case h2 => repeat' (first | ((with_reducible refine (?_ : CW _ _)); first | exact cw_gnil | exact cw_rfl _ | exact cw_niln _ _ | exact cw_cap _ _ _ _) | exact trivial | (show _ ∧ SWL _ _; apply zas) | (show _ ∧ CWL _ _; apply zas) | show CW _ _)))
 | fail)
  | true =>
  rw [hh] at h3
  rw [if_neg (by decide)]
  have h4 := rdepth_spec l k n p hl hnm
  refine fnspec_of mixed TT_ok TT_cl ⟨fun _ => false, fun _ => [], 0, fun _ => false, fun _ => false⟩ Try.func25 rfl (by kernel_rfl) rfl 86 rfl [.cell 6 25, .tmp 7, .tmp 8] rfl ?_
  simp only [go_sem, zaa, zai, zaj, zak, zal, zae, ↓reduceIte, reduceCtorEq, zab, zac, zam, zan, zao]
  repeat' (first
 | (apply cg_tp
    case hl => rfl
    case ha => (simp only [zaf, zah, prepV, prepC, idx, hpL', lookR, zaa, if_true, if_false]; rfl)
    case hs => rfl
    case h => (first | exact h1 .. | exact h2 .. | exact h3 ..))
 | (apply cl_plain
    case hs => rfl
    case ha => (simp only [zaf, zah, prepV, prepC, idx, hpL', lookR, zaa, if_true, if_false]; rfl)
    case h => (first | exact h1 .. | exact h2 .. | exact h3 ..))
 | ((first | refine s1_id ?_ | refine swp_id ?_ | refine sops_id ?_ | refine s2_id ?_); simp only [go_sem, zaa, zai, zaj, zak, zal, zae, ↓reduceIte, reduceCtorEq, zab, zac, zam, zan, zao, zaS, zaR, zaA, zaP, renO, bk, back, outUpsFrom, Ints_ren])
 | (intros; (try simp only [zav, zax, zau, zat, zaq, zar, decide_eq_true_eq, decide_eq_false_iff_not] at *); omega))
  refine w_loop (ι := Nat) (fun m => ⟨[(1, i1 p), (2, s1 s), (3, .one (.optr 0 0)), (6, .one (.optr 1 0)), (9, i1 m)], [(0, some ⟨[.gsl (Cs l) 0 l.length k, int n], 2⟩), (1, some ⟨[.sc (.slice none 0 0), int 0], 2⟩)], 2⟩) (fun m => m ≤ l.length ∧ (l.take m).any (same1 p s) = false) (fun m => l.length - m) 0 ?_ ⟨zaW _, rfl⟩ ?_
  · (refine imp_ren _ _ _ [(0, 0, ⟨[.gsl (Cs l) 0 l.length k, int n], 2⟩), (1, 1, ⟨[.sc (.slice none 0 0), int 0], 2⟩)] (by simp) (by simp) (by simp) (zaC rfl) ?_ rfl (by simp only [zad, zag, false_implies, implies_true, and_true, zaT, lookR, zaa, if_true, if_false, ↓reduceIte] <;> (repeat' apply zas) <;> (first | rfl | trivial)) (by simp only [zad, zag, false_implies, implies_true, and_true, true_and, flat_cons, flat_nil, flat_ints, flat_bools, flat_app, zaQ, and_self, eq_self_iff_true, zap]); simp only [zaf, zah, zad, zag, false_implies, implies_true, and_true, lk, slot, zaS, zaA, toN, zaa, if_true, if_false, ↓reduceIte, reduceCtorEq])
    all_goals ((repeat' apply zas) <;> (first | rfl | trivial))
  clear h1 h2 h3
  rintro m ⟨hm, hno⟩
  simp only at hm hno ⊢
  rcases zbe m l.length with hlt | hge
  case inl =>
    have c : (m : Int) < (l.length : Int) := by omega
    obtain ⟨_, g2, _⟩ := nd_f l m hlt (.sc (.int .i64 0))
    have g3 := (nd_f l m hlt (.sc (.string (bs [])))).2.2.1
    have hs2 := any_take_succ l m hlt (same1 p s)
    have hsm : same1 p s (gN l m) = (decide ((gN l m).p = p) && decide ((gN l m).nm = s)) := rfl
    rw [hno, Bool.false_or] at hs2
    cases hdup : same1 p s (gN l m) with
    | true =>
      have hany : l.any (same1 p s) = true := List.any_eq_true.2 ⟨gN l m, getD_mem l m zn hlt, hdup⟩
      rw [if_pos hany]
      rw [hsm] at hdup
      simp only [go_sem, zaa, zai, zaj, zak, zal, zae, ↓reduceIte, reduceCtorEq, zab, zac, zam, zan, zao, decide_eq_true c, g2, g3, hdup]
      repeat' (first
 | with_reducible refine zas ?_ ?_
 | (intros; omega)
 | (intros; (try simp only [zav, zax, zau, zat, zaq, zar, decide_eq_true_eq, decide_eq_false_iff_not] at *); omega))
      repeat' (first
 | (refine fs_w ?h1 (svw_of ?h2); (case h1 => repeat' (first | exact trivial | exact rfl | exact zaC rfl | apply zas)); (case h2 => repeat' (first | ((with_reducible refine (?_ : CW _ _)); first | exact cw_gnil | exact cw_rfl _ | exact cw_niln _ _ | exact cw_cap _ _ _ _) | exact trivial | (show _ ∧ SWL _ _; apply zas) | (show _ ∧ CWL _ _; apply zas) | show CW _ _)))
 | fail)
    | false =>
      rw [hdup] at hs2
      rw [hsm] at hdup
      simp only [go_sem, zaa, zai, zaj, zak, zal, zae, ↓reduceIte, reduceCtorEq, zab, zac, zam, zan, zao, decide_eq_true c, g2, g3, hdup]
      repeat' (first
 | with_reducible refine zas ?_ ?_
 | (intros; omega)
 | (intros; (try simp only [zav, zax, zau, zat, zaq, zar, decide_eq_true_eq, decide_eq_false_iff_not] at *); omega))
      refine le_mk (m + 1) ?_ ⟨hlt, hs2⟩ (by omega)
      (refine imp_ren _ _ _ [(0, 0, ⟨[.gsl (Cs l) 0 l.length k, int n], 2⟩), (1, 1, ⟨[.sc (.slice none 0 0), int 0], 2⟩)] (by simp) (by simp) (by simp) (zaC rfl) ?_ rfl (by simp only [zad, zag, false_implies, implies_true, and_true, zaT, lookR, zaa, if_true, if_false, ↓reduceIte] <;> (repeat' apply zas) <;> (first | rfl | trivial)) (by simp only [zad, zag, false_implies, implies_true, and_true, true_and, flat_cons, flat_nil, flat_ints, flat_bools, flat_app, zaQ, and_self, eq_self_iff_true, zap]); simp only [zaf, zah, zad, zag, false_implies, implies_true, and_true, lk, slot, zaS, zaA, toN, zaa, if_true, if_false, ↓reduceIte, reduceCtorEq])
      all_goals ((repeat' apply zas) <;> (first | rfl | trivial | (simp only [zaL]; done) | (simp only [zaL]; rfl) | (simp only [zaL]; trivial)))
  have c : ¬ (m : Int) < (l.length : Int) := by omega
  rw [zaV hge] at hno
  rw [if_neg (by rw [hno]; decide)]
  have h5 := trcopy_spec l k n hV.ne hl
  have hmx := hV.mx
  have hpos := hV.nx
  have hp1 := hV.pos (i := l.length - 1) (by have := hV.ne; omega)
  by_cases hd : 8 ≤ ((ancM l n p).length : Int) - 1 ∨ 64 ≤ (l.length : Int) ∨ 2147483647 < n
  · rw [if_pos hd]
    have hdd : (decide (8 ≤ ((ancM l n p).length : Int) - 1) || decide (64 ≤ (l.length : Int)) || decide (2147483647 < n)) = true := by
      simp only [zax, decide_eq_true_eq]; omega
    simp only [go_sem, zaa, zai, zaj, zak, zal, zae, ↓reduceIte, reduceCtorEq, zab, zac, zam, zan, zao, decide_eq_false c, hdd]
    repeat' (first
 | (apply cl_plain
    case hs => rfl
    case ha => (simp only [zaf, zah, prepV, prepC, idx, hpL', lookR, zaa, if_true, if_false]; rfl)
    case h => (first | exact h4 ..))
 | ((first | refine s1_id ?_ | refine swp_id ?_ | refine sops_id ?_ | refine s2_id ?_); simp only [decide_eq_false c, hdd, go_sem, zaa, zai, zaj, zak, zal, zae, ↓reduceIte, reduceCtorEq, zab, zac, zam, zan, zao, zaS, zaR, zaA, zaP, renO, bk, back, outUpsFrom, Ints_ren])
 | (intros; (try simp only [zav, zax, zau, zat, zaq, zar, decide_eq_true_eq, decide_eq_false_iff_not] at *); omega))
    repeat' (first
 | (refine fs_w ?h1 (svw_of ?h2); (case h1 => repeat' (first | exact trivial | exact rfl | exact zaC rfl | apply zas)); (case h2 => repeat' (first | ((with_reducible refine (?_ : CW _ _)); first | exact cw_gnil | exact cw_rfl _ | exact cw_niln _ _ | exact cw_cap _ _ _ _) | exact trivial | (show _ ∧ SWL _ _; apply zas) | (show _ ∧ CWL _ _; apply zas) | show CW _ _)))
 | fail)
  · rw [if_neg hd]
    have hdd : (decide (8 ≤ ((ancM l n p).length : Int) - 1) || decide (64 ≤ (l.length : Int)) || decide (2147483647 < n)) = false := by
      simp only [zar, decide_eq_false_iff_not]; omega
    have hca : zbf (l.length * 6) (Cs l) = Cs l := Cs_all l _ (zaY _)
    have hpp : Cs l ++ [int n, int p, st s, int 0, int 0, int 0] = Cs (l ++ [newN n p s]) := Cs_snoc l (newN n p s)
    have hla : (l ++ [newN n p s]).length = l.length + 1 := by simp
    simp only [go_sem, zaa, zai, zaj, zak, zal, zae, ↓reduceIte, reduceCtorEq, zab, zac, zam, zan, zao, decide_eq_false c, hdd]
    repeat' (first
 | with_reducible refine zas ?_ ?_
 | (unfold OKC; kernel_rfl)
 | (unfold EDG; kernel_rfl)
 | (apply cl_plain
    case hs => rfl
    case ha => (simp only [zaf, zah, prepV, prepC, idx, hpL', lookR, zaa, if_true, if_false]; rfl)
    case h => (first | exact h4 .. | exact h5 ..))
 | ((first | refine s1_id ?_ | refine swp_id ?_ | refine sops_id ?_ | refine s2_id ?_); simp only [decide_eq_false c, hdd, hca, hpp, zaF, zaJ, zap, zaE, zaG, zaB, zaD, zaz, zaK, zaO, zaw, zay, go_sem, zaa, zai, zaj, zak, zal, zae, ↓reduceIte, reduceCtorEq, zab, zac, zam, zan, zao, zaS, zaR, zaA, zaP, renO, bk, back, outUpsFrom, Ints_ren])
 | (intros; omega)
 | (intros; (try simp only [zav, zax, zau, zat, zaq, zar, decide_eq_true_eq, decide_eq_false_iff_not] at *); omega))
    simp only [adV, trV, hla]
    (refine fs_frz 34 ⟨Cs (l ++ [newN n p s]), 6⟩ (by simp only [zaT, lookR, zaa, if_true, if_false, ↓reduceIte]) (by first | exact Ints_isG _ | exact Bools_isG _ | exact Cs_isG _ | (simp [zbm]; done)) ?_; simp only [frzTm, SV.frz, SV.frzL, zbo, frzHp, frzO, Ints_frz, Bools_frz, zaf, zah, zaa, if_true, if_false, ↓reduceIte])
    apply fs_nil <;> (try simp only [go_sem, resV, resS, zaS, zaR, zaA, zaX, zaT, idx, renO, zaP, evS, slot, lookR, zaa, ↓reduceIte, reduceCtorEq, if_true, if_false, zaM, zaN, zaf, zah, sLoad, readAt, readNeed, Ints_ren, Ints_length, Ints_getD, and_true, true_and, zaH, zaI]) <;> (first | rfl | decide | skip)
def rmM (l : List Nd) (n id : Int) : (List Nd × Int) × Int :=
  if chkT l n = false then (([], 0), 1)
  else if hasM l n id = false then (([], 0), 4)
  else if id = 1 then (([], 0), 9)
  else if 0 < ((chM l n id).length : Int) then (([], 0), 6)
  else ((rmN l id, n), 0)
abbrev rmV (x : (List Nd × Int) × Int) : SV := .tup [trV x.1.1 none x.1.2, i1 x.2]
theorem rmN_take (l : List Nd) (m : Nat) (h : m < l.length) (id : Int) : rmN (l.take (m + 1)) id = rmN (l.take m) id ++ (if (gN l m).i = id then [] else [gN l m]) := by
  unfold rmN
  rw [take_getD l m zn h, List.filter_append]
  by_cases c : (gN l m).i = id
  · rw [if_pos c, List.filter_cons_of_neg (by simp only [zau, decide_eq_false_iff_not]; exact fun e => e c)]; rfl
  · rw [if_neg c, List.filter_cons_of_pos (by simp only [zau, decide_eq_false_iff_not]; exact c)]; rfl
theorem rmN_len (l : List Nd) (id : Int) : (rmN l id).length ≤ l.length := List.length_filter_le _ _
set_option maxHeartbeats 16000000 in
theorem rrem_spec (l : List Nd) (k : Option Nat) (n id : Int) (hl : l.length ≤ 1000000) (hnm : NmR l) : FnSpec Try.prog 28 [trV l k n, i1 id] [] (rmV (rmM l n id)) [] := by
  have h1 := trcheck_spec l k n hl hnm
  have hnl := nd_len l
  unfold rmM
  cases hc : chkT l n with
  | false =>
    rw [hc] at h1
    rw [if_pos rfl]
    refine fnspec_of mixed TT_ok TT_cl ⟨fun _ => false, fun _ => [], 0, fun _ => false, fun _ => false⟩ Try.func28 rfl (by kernel_rfl) rfl 59 rfl [.cell 4 25, .tmp 5] rfl ?_
    simp only [go_sem, zaa, zai, zaj, zak, zal, zae, ↓reduceIte, reduceCtorEq, zab, zac, zam, zan, zao]
    repeat' (first
 | (apply cl_plain
    case hs => rfl
    case ha => (simp only [zaf, zah, prepV, prepC, idx, hpL', lookR, zaa, if_true, if_false]; rfl)
    case h => (first | exact h1 ..))
 | ((first | refine s1_id ?_ | refine swp_id ?_ | refine sops_id ?_ | refine s2_id ?_); simp only [go_sem, zaa, zai, zaj, zak, zal, zae, ↓reduceIte, reduceCtorEq, zab, zac, zam, zan, zao, zaS, zaR, zaA, zaP, renO, bk, back, outUpsFrom, Ints_ren])
 | (intros; (try simp only [zav, zax, zau, zat, zaq, zar, decide_eq_true_eq, decide_eq_false_iff_not] at *); omega))
    repeat' (first
 | (refine fs_w ?h1 (svw_of ?h2); (case h1 => repeat' (first | exact trivial | exact rfl | exact zaC rfl | apply zas)); (case h2 => repeat' (first | ((with_reducible refine (?_ : CW _ _)); first | exact cw_gnil | exact cw_rfl _ | exact cw_niln _ _ | exact cw_cap _ _ _ _) | exact trivial | (show _ ∧ SWL _ _; apply zas) | (show _ ∧ CWL _ _; apply zas) | show CW _ _)))
 | fail)
  | true =>
  rw [hc] at h1
  rw [if_neg (by decide)]
  have h3 := rhas_spec l k n id hl hnm
  cases hh : hasM l n id with
  | false =>
    rw [hh] at h3
    rw [if_pos rfl]
    refine fnspec_of mixed TT_ok TT_cl ⟨fun _ => false, fun _ => [], 0, fun _ => false, fun _ => false⟩ Try.func28 rfl (by kernel_rfl) rfl 59 rfl [.cell 4 25, .tmp 5] rfl ?_
    simp only [go_sem, zaa, zai, zaj, zak, zal, zae, ↓reduceIte, reduceCtorEq, zab, zac, zam, zan, zao]
    repeat' (first
 | (apply cl_plain
    case hs => rfl
    case ha => (simp only [zaf, zah, prepV, prepC, idx, hpL', lookR, zaa, if_true, if_false]; rfl)
    case h => (first | exact h1 .. | exact h3 ..))
 | ((first | refine s1_id ?_ | refine swp_id ?_ | refine sops_id ?_ | refine s2_id ?_); simp only [go_sem, zaa, zai, zaj, zak, zal, zae, ↓reduceIte, reduceCtorEq, zab, zac, zam, zan, zao, zaS, zaR, zaA, zaP, renO, bk, back, outUpsFrom, Ints_ren])
 | (intros; (try simp only [zav, zax, zau, zat, zaq, zar, decide_eq_true_eq, decide_eq_false_iff_not] at *); omega))
    repeat' (first
 | (refine fs_w ?h1 (svw_of ?h2); (case h1 => repeat' (first | exact trivial | exact rfl | exact zaC rfl | apply zas)); (case h2 => repeat' (first | ((with_reducible refine (?_ : CW _ _)); first | exact cw_gnil | exact cw_rfl _ | exact cw_niln _ _ | exact cw_cap _ _ _ _) | exact trivial | (show _ ∧ SWL _ _; apply zas) | (show _ ∧ CWL _ _; apply zas) | show CW _ _)))
 | fail)
  | true =>
  rw [hh] at h3
  rw [if_neg (by decide)]
  by_cases hid : id = 1
  · rw [if_pos hid]
    refine fnspec_of mixed TT_ok TT_cl ⟨fun _ => false, fun _ => [], 0, fun _ => false, fun _ => false⟩ Try.func28 rfl (by kernel_rfl) rfl 59 rfl [.cell 4 25, .tmp 5] rfl ?_
    simp only [go_sem, zaa, zai, zaj, zak, zal, zae, ↓reduceIte, reduceCtorEq, zab, zac, zam, zan, zao, decide_eq_true hid]
    repeat' (first
 | (apply cl_plain
    case hs => rfl
    case ha => (simp only [zaf, zah, prepV, prepC, idx, hpL', lookR, zaa, if_true, if_false]; rfl)
    case h => (first | exact h1 .. | exact h3 ..))
 | ((first | refine s1_id ?_ | refine swp_id ?_ | refine sops_id ?_ | refine s2_id ?_); simp only [decide_eq_true hid, go_sem, zaa, zai, zaj, zak, zal, zae, ↓reduceIte, reduceCtorEq, zab, zac, zam, zan, zao, zaS, zaR, zaA, zaP, renO, bk, back, outUpsFrom, Ints_ren])
 | (intros; (try simp only [zav, zax, zau, zat, zaq, zar, decide_eq_true_eq, decide_eq_false_iff_not] at *); omega))
    repeat' (first
 | (refine fs_w ?h1 (svw_of ?h2); (case h1 => repeat' (first | exact trivial | exact rfl | exact zaC rfl | apply zas)); (case h2 => repeat' (first | ((with_reducible refine (?_ : CW _ _)); first | exact cw_gnil | exact cw_rfl _ | exact cw_niln _ _ | exact cw_cap _ _ _ _) | exact trivial | (show _ ∧ SWL _ _; apply zas) | (show _ ∧ CWL _ _; apply zas) | show CW _ _)))
 | fail)
  rw [if_neg hid]
  have h4 := rkids_spec l k n id hl hnm
  generalize chM l n id = K at *
  by_cases hk : 0 < (K.length : Int)
  · rw [if_pos hk]
    refine fnspec_of mixed TT_ok TT_cl ⟨fun _ => false, fun _ => [], 0, fun _ => false, fun _ => false⟩ Try.func28 rfl (by kernel_rfl) rfl 59 rfl [.cell 4 25, .tmp 5] rfl ?_
    simp only [go_sem, zaa, zai, zaj, zak, zal, zae, ↓reduceIte, reduceCtorEq, zab, zac, zam, zan, zao, decide_eq_false hid, decide_eq_true hk]
    repeat' (first
 | (apply cl_plain
    case hs => rfl
    case ha => (simp only [zaf, zah, prepV, prepC, idx, hpL', lookR, zaa, if_true, if_false]; rfl)
    case h => (first | exact h1 .. | exact h3 .. | exact h4 ..))
 | ((first | refine s1_id ?_ | refine swp_id ?_ | refine sops_id ?_ | refine s2_id ?_); simp only [decide_eq_false hid, decide_eq_true hk, go_sem, zaa, zai, zaj, zak, zal, zae, ↓reduceIte, reduceCtorEq, zab, zac, zam, zan, zao, zaS, zaR, zaA, zaP, renO, bk, back, outUpsFrom, Ints_ren])
 | (intros; (try simp only [zav, zax, zau, zat, zaq, zar, decide_eq_true_eq, decide_eq_false_iff_not] at *); omega))
    repeat' (first
 | (refine fs_w ?h1 (svw_of ?h2); (case h1 => repeat' (first | exact trivial | exact rfl | exact zaC rfl | apply zas)); (case h2 => repeat' (first | ((with_reducible refine (?_ : CW _ _)); first | exact cw_gnil | exact cw_rfl _ | exact cw_niln _ _ | exact cw_cap _ _ _ _) | exact trivial | (show _ ∧ SWL _ _; apply zas) | (show _ ∧ CWL _ _; apply zas) | show CW _ _)))
 | fail)
  rw [if_neg hk]
  refine fnspec_of mixed TT_ok TT_cl ⟨fun _ => false, fun _ => [], 0, fun _ => false, fun _ => false⟩ Try.func28 rfl (by kernel_rfl) rfl 59 rfl [.cell 4 25, .tmp 5] rfl ?_
  simp only [go_sem, zaa, zai, zaj, zak, zal, zae, ↓reduceIte, reduceCtorEq, zab, zac, zam, zan, zao, decide_eq_false hid, decide_eq_false hk]
  repeat' (first
 | (apply cl_plain
    case hs => rfl
    case ha => (simp only [zaf, zah, prepV, prepC, idx, hpL', lookR, zaa, if_true, if_false]; rfl)
    case h => (first | exact h1 .. | exact h3 .. | exact h4 ..))
 | ((first | refine s1_id ?_ | refine swp_id ?_ | refine sops_id ?_ | refine s2_id ?_); simp only [decide_eq_false hid, decide_eq_false hk, go_sem, zaa, zai, zaj, zak, zal, zae, ↓reduceIte, reduceCtorEq, zab, zac, zam, zan, zao, zaS, zaR, zaA, zaP, renO, bk, back, outUpsFrom, Ints_ren])
 | (intros; (try simp only [zav, zax, zau, zat, zaq, zar, decide_eq_true_eq, decide_eq_false_iff_not] at *); omega))
  refine w_loop (ι := Nat) (fun m => ⟨[(1, i1 id), (2, .one (.optr 0 0)), (4, .one (.optr 1 0)), (6, .one (.optr 2 0)), (7, i1 m)], [(0, some ⟨[.gsl (Cs l) 0 l.length k, int n], 2⟩), (1, some ⟨[.sc (.slice none 0 0), int 0], 2⟩), (2, some ⟨[.osl 3 0 (rmN (l.take m) id).length none, int n], 2⟩), (3, some ⟨Cs (rmN (l.take m) id), 6⟩)], 4⟩) (fun m => m ≤ l.length) (fun m => l.length - m) 0 ?_ (zaW _) ?_
  · (refine Imp.trans (imp_nilC _ _ 24 0 6 99 (by simp only []; omega) (by simp only [zaT, lookR, zaa, if_true, if_false, ↓reduceIte]; rfl) rfl) ?_)
    (refine imp_sub _ _ _ [(0, 0), (1, 1), (2, 24), (3, 99)] (by simp) (by simp) (by simp) (zaC rfl) ?_ (by simp only [zaf, zah, zaT, lookR, renO, zaP, zaA, toN, Ints_ren, Bools_ren, zaa, if_true, if_false, ↓reduceIte, Cs_ren, Cs_flat, zaB] <;> (try rfl)) (by simp only [zad, zag, false_implies, implies_true, and_true, zaT, lookR, zaa, if_true, if_false, ↓reduceIte, Option.some.injEq, forall_eq'] <;> ((repeat' with_reducible apply zas) <;> (first | with_reducible trivial | exact fun c hc q hq => absurd hq (Ints_refs0 _ _ c hc) | exact fun c hc q hq => absurd hq (by rw [Cs_flat _ c hc]; exact zag) | (simp [zaQ, toN]; done)))); simp only [zaf, zah, zad, zag, false_implies, implies_true, and_true, lk, slot, zaS, zaA, toN, zaa, if_true, if_false, ↓reduceIte, reduceCtorEq])
    all_goals ((repeat' apply zas) <;> (first | rfl | trivial))
  clear h1 h3 h4
  intro m hm
  simp only at hm ⊢
  rcases zbe m l.length with hlt | hge
  case inr =>
    have c : ¬ (m : Int) < (l.length : Int) := by omega
    rw [zaV hge]
    simp only [go_sem, zaa, zai, zaj, zak, zal, zae, ↓reduceIte, reduceCtorEq, zab, zac, zam, zan, zao, decide_eq_false c]
    repeat' (first
 | (intros; (try simp only [zav, zax, zau, zat, zaq, zar, decide_eq_true_eq, decide_eq_false_iff_not] at *); omega))
    (refine fs_frz 3 ⟨Cs (rmN l id), 6⟩ (by simp only [zaT, lookR, zaa, if_true, if_false, ↓reduceIte]) (by first | exact Ints_isG _ | exact Bools_isG _ | exact Cs_isG _ | (simp [zbm]; done)) ?_; simp only [frzTm, SV.frz, SV.frzL, zbo, frzHp, frzO, Ints_frz, Bools_frz, zaf, zah, zaa, if_true, if_false, ↓reduceIte])
    apply fs_nil <;> (try simp only [go_sem, resV, resS, zaS, zaR, zaA, zaX, zaT, idx, renO, zaP, evS, slot, lookR, zaa, ↓reduceIte, reduceCtorEq, if_true, if_false, zaM, zaN, zaf, zah, sLoad, readAt, readNeed, Ints_ren, Ints_length, Ints_getD, and_true, true_and, zaH, zaI]) <;> (first | rfl | decide | skip)
  have c : (m : Int) < (l.length : Int) := by omega
  obtain ⟨g1, _⟩ := nd_f l m hlt (.sc (.int .i64 0))
  have hN := nd_td l m hlt
  have ht := rmN_take l m hlt id
  have htl := rmN_len (l.take m) id
  rw [zbk] at htl
  generalize rmN (l.take m) id = K2 at *
  by_cases hi : (gN l m).i = id
  · rw [if_pos hi, zap] at ht
    simp only [go_sem, zaa, zai, zaj, zak, zal, zae, ↓reduceIte, reduceCtorEq, zab, zac, zam, zan, zao, decide_eq_true c, g1, decide_eq_true hi]
    repeat' (first
 | with_reducible refine zas ?_ ?_
 | (intros; omega)
 | (intros; (try simp only [zav, zax, zau, zat, zaq, zar, decide_eq_true_eq, decide_eq_false_iff_not] at *); omega))
    refine le_mk (m + 1) ?_ hlt (by omega)
    simp only [ht]
    (refine imp_sub _ _ _ [(0, 0), (1, 1), (2, 2), (3, 3)] (by simp) (by simp) (by simp) (zaC rfl) ?_ (by simp only [zaf, zah, zaT, lookR, renO, zaP, zaA, toN, Ints_ren, Bools_ren, zaa, if_true, if_false, ↓reduceIte, Cs_ren, Cs_flat] <;> (try rfl)) (by simp only [zad, zag, false_implies, implies_true, and_true, zaT, lookR, zaa, if_true, if_false, ↓reduceIte, Option.some.injEq, forall_eq'] <;> ((repeat' with_reducible apply zas) <;> (first | with_reducible trivial | exact fun c hc q hq => absurd hq (Ints_refs0 _ _ c hc) | exact fun c hc q hq => absurd hq (by rw [Cs_flat _ c hc]; exact zag) | (simp [zaQ, toN]; done)))); simp only [zaf, zah, zad, zag, false_implies, implies_true, and_true, lk, slot, zaS, zaA, toN, zaa, if_true, if_false, ↓reduceIte, reduceCtorEq])
    all_goals ((repeat' apply zas) <;> (first | rfl | trivial | (simp only [zaL]; done) | (simp only [zaL]; rfl) | (simp only [zaL]; trivial)))
  · rw [if_neg hi] at ht
    have hca : zbf (K2.length * 6) (Cs K2) = Cs K2 := Cs_all K2 _ (zaY _)
    have hck : (Cs K2).length = K2.length * 6 := Cs_len K2
    have hla : (K2 ++ [gN l m]).length = K2.length + 1 := by simp
    have hpp : Cs K2 ++ ndc (gN l m) = Cs (K2 ++ [gN l m]) := Cs_snoc K2 _
    simp only [ndc] at hN hpp
    simp only [go_sem, zaa, zai, zaj, zak, zal, zae, ↓reduceIte, reduceCtorEq, zab, zac, zam, zan, zao, decide_eq_true c, g1, decide_eq_false hi, hN]
    repeat' (first
 | with_reducible refine zas ?_ ?_
 | (unfold OKC; kernel_rfl)
 | (unfold EDG; kernel_rfl)
 | (intros; omega)
 | (intros; (try simp only [zav, zax, zau, zat, zaq, zar, decide_eq_true_eq, decide_eq_false_iff_not] at *); omega))
    all_goals try (exact zaY _)
    all_goals try (rw [hck]; exact zaY _)
    all_goals try (show List.length _ = 6; rfl)
    refine le_mk (m + 1) ?_ hlt (by omega)
    simp only [ht, hla, hca, zaF, zaJ, zap, zaE, zaG, zaB, zaD, zaz, zaK, zaO, zaw, zay]
    simp only [hpp]
    (refine imp_sub _ _ _ [(0, 0), (1, 1), (2, 2), (3, 25)] (by simp) (by simp) (by simp) (zaC rfl) ?_ (by simp only [zaf, zah, zaT, lookR, renO, zaP, zaA, toN, Ints_ren, Bools_ren, zaa, if_true, if_false, ↓reduceIte, Cs_ren, Cs_flat] <;> (try rfl)) (by simp only [zad, zag, false_implies, implies_true, and_true, zaT, lookR, zaa, if_true, if_false, ↓reduceIte, Option.some.injEq, forall_eq'] <;> ((repeat' with_reducible apply zas) <;> (first | with_reducible trivial | exact fun c hc q hq => absurd hq (Ints_refs0 _ _ c hc) | exact fun c hc q hq => absurd hq (by rw [Cs_flat _ c hc]; exact zag) | (simp [zaQ, toN]; done)))); simp only [zaf, zah, zad, zag, false_implies, implies_true, and_true, lk, slot, zaS, zaA, toN, zaa, if_true, if_false, ↓reduceIte, reduceCtorEq])
    all_goals ((repeat' apply zas) <;> (first | rfl | trivial | (simp only [zaL]; done) | (simp only [zaL]; rfl) | (simp only [zaL]; trivial)))
end Go.Proofs.Ytlajelbiniakpaa
namespace Go.Proofs.Ytlajelbiniakpaa
set_option linter.unusedVariables false
set_option linter.unusedSimpArgs false
open Go.Proofs.Ytlajelbiniakpaa.Sh
abbrev dice (l : List Int) (i : Nat) : Row := ⟨[.gsl (Ints l) 0 l.length none, int i], 2⟩
abbrev dp : SV := .one (.optr 0 0)
def nxS (l : List Int) (i : Nat) (n : Int) : Bool := decide ((l.length : Int) ≤ i) || decide (n < 1)
def nxV (l : List Int) (i : Nat) (n : Int) : Int := if nxS l i n = true then 0 else l.getD i 0 % n
def nxA (l : List Int) (i : Nat) (n : Int) : Nat := if nxS l i n = true then i else i + 1
theorem roll_spec (l : List Int) : FnSpec Try.prog 9 [gi l none] [] dp [some (dice l 0)] := by
  refine fnspec_of mixed TT_ok TT_cl ⟨fun _ => false, fun _ => [], 0, fun _ => false, fun _ => false⟩ Try.func9 rfl (by kernel_rfl) rfl 6 rfl [.tmp 2] rfl ?_
  simp only [go_sem, zaa, zai, zaj, zak, zal, zae, ↓reduceIte, reduceCtorEq, zab, zac, zam, zan, zao]
  repeat' (first
 | fail)
  all_goals (refine fs_flat [(3, dice l 0)] (by simp) (by simp only [zaf, zah]; decide) (by simp only [go_sem, resV, resS, zaS, zaR, zaA, zaX, zaT, idx, renO, zaP, evS, slot, lookR, zaa, ↓reduceIte, reduceCtorEq, if_true, if_false, zaM, zaN, zaf, zah, sLoad, readAt, readNeed, Ints_ren, Ints_length, Ints_getD, and_true, true_and, zaH, zaI]; try decide) ?_ (by simp only [zad, zag, false_implies, implies_true, and_true, zaT, lookR, zaa, if_true, if_false, ↓reduceIte] <;> (repeat' apply zas) <;> (first | rfl | trivial)) (by simp only [zad, zag, false_implies, implies_true, and_true, true_and, flat_cons, flat_nil, flat_ints, flat_bools, flat_app, zaQ, and_self, eq_self_iff_true, zap]) ?_ <;> (try simp only [go_sem, resV, resS, zaS, zaR, zaA, zaX, zaT, idx, renO, zaP, evS, slot, lookR, zaa, ↓reduceIte, reduceCtorEq, if_true, if_false, zaM, zaN, zaf, zah, sLoad, readAt, readNeed, Ints_ren, Ints_length, Ints_getD, and_true, true_and, zaH, zaI]) <;> (try rfl))
theorem light_spec (l : List Int) (c : Option Nat) : FnSpec Try.prog 7 [gi l c] [] (b1 (decide ((l.length : Int) ≤ 600))) [] := by
  refine fnspec_of mixed TT_ok TT_cl ⟨fun _ => false, fun _ => [], 0, fun _ => false, fun _ => false⟩ Try.func7 rfl (by kernel_rfl) rfl 6 rfl [.tmp 2] rfl ?_
  simp only [go_sem, zaa, zai, zaj, zak, zal, zae, ↓reduceIte, reduceCtorEq, zab, zac, zam, zan, zao]
  repeat' (first
 | exact fs_nil trivial rfl
 | fail)
theorem tmod_emod (x n : Int) (h : 0 < n) : (if x.tmod n < 0 then x.tmod n + n else x.tmod n) = x % n := by
  have h1 := Int.emod_nonneg x (show n ≠ 0 by omega)
  have h2 := Int.emod_lt_of_pos x h
  rw [Int.tmod_eq_emod]
  split <;> split <;> omega
theorem next_spec (l : List Int) (i : Nat) (n : Int) (hl : l.length ≤ 600) (hr : ∀ x ∈ l, -9223372036854775808 ≤ x ∧ x ≤ 9223372036854775807) (hn : n ≤ 9223372036854775807) : FnSpec Try.prog 12 [dp, i1 n] [dice l i] (i1 (nxV l i n)) [some (dice l (nxA l i n))] := by
  refine fnspec_of mixed TT_ok TT_cl ⟨fun _ => false, fun _ => [], 1, fun _ => false, fun _ => false⟩ Try.func12 rfl (by kernel_rfl) rfl 46 rfl [.tmp 4] rfl ?_
  simp only [go_sem, zaa, zai, zaj, zak, zal, zae, ↓reduceIte, reduceCtorEq, zab, zac, zam, zan, zao]
  repeat' (first
 | with_reducible refine zas ?_ ?_
 | (unfold OKC; kernel_rfl)
 | (unfold EDG; kernel_rfl)
 | (refine gt_if (fun h => ?_) (fun h => ?_) <;> (first | (simp only [h, go_sem, zaa, zai, zaj, zak, zal, zae, ↓reduceIte, reduceCtorEq, zab, zac, zam, zan, zao]; done) | simp only [h, go_sem, zaa, zai, zaj, zak, zal, zae, ↓reduceIte, reduceCtorEq, zab, zac, zam, zan, zao] | skip))
 | (intros; omega)
 | (intros; (try simp only [zav, zax, zau, zat, zaq, zar, decide_eq_true_eq, decide_eq_false_iff_not] at *); omega)
 | fail)
  · (refine fs_flat [(0, dice l i)] (by simp) (by simp only [zaf, zah]; decide) (by simp only [go_sem, resV, resS, zaS, zaR, zaA, zaX, zaT, idx, renO, zaP, evS, slot, lookR, zaa, ↓reduceIte, reduceCtorEq, if_true, if_false, zaM, zaN, zaf, zah, sLoad, readAt, readNeed, Ints_ren, Ints_length, Ints_getD, and_true, true_and, zaH, zaI]; try decide) ?_ (by simp only [zad, zag, false_implies, implies_true, and_true, zaT, lookR, zaa, if_true, if_false, ↓reduceIte] <;> (repeat' apply zas) <;> (first | rfl | trivial)) (by simp only [zad, zag, false_implies, implies_true, and_true, true_and, flat_cons, flat_nil, flat_ints, flat_bools, flat_app, zaQ, and_self, eq_self_iff_true, zap]) ?_ <;> (try simp only [go_sem, resV, resS, zaS, zaR, zaA, zaX, zaT, idx, renO, zaP, evS, slot, lookR, zaa, ↓reduceIte, reduceCtorEq, if_true, if_false, zaM, zaN, zaf, zah, sLoad, readAt, readNeed, Ints_ren, Ints_length, Ints_getD, and_true, true_and, zaH, zaI]) <;> (try rfl))
    · simp only [nxV, nxS, h, if_true]
    · simp only [nxA, nxS, h, if_true]
  all_goals
    rename_i h0
    have h1 : nxS l i n = false := h0
    simp only [zar, decide_eq_false_iff_not] at h0
    have e := tmod_emod (l.getD i 0) n (by omega)
    have b1 := zbd (l.getD i 0) (b := n) (by omega)
    have b2 := Int.lt_tmod_of_pos (l.getD i 0) (b := n) (by omega)
    simp only [decide_eq_true_eq, decide_eq_false_iff_not] at h
    first
    | omega
    | rw [if_pos h] at e
      (refine fs_flat [(0, dice l (i + 1))] (by simp) (by simp only [zaf, zah]; decide) (by simp only [go_sem, resV, resS, zaS, zaR, zaA, zaX, zaT, idx, renO, zaP, evS, slot, lookR, zaa, ↓reduceIte, reduceCtorEq, if_true, if_false, zaM, zaN, zaf, zah, sLoad, readAt, readNeed, Ints_ren, Ints_length, Ints_getD, and_true, true_and, zaH, zaI]; try decide) ?_ (by simp only [zad, zag, false_implies, implies_true, and_true, zaT, lookR, zaa, if_true, if_false, ↓reduceIte] <;> (repeat' apply zas) <;> (first | rfl | trivial)) (by simp only [zad, zag, false_implies, implies_true, and_true, true_and, flat_cons, flat_nil, flat_ints, flat_bools, flat_app, zaQ, and_self, eq_self_iff_true, zap]) ?_ <;> (try simp only [go_sem, resV, resS, zaS, zaR, zaA, zaX, zaT, idx, renO, zaP, evS, slot, lookR, zaa, ↓reduceIte, reduceCtorEq, if_true, if_false, zaM, zaN, zaf, zah, sLoad, readAt, readNeed, Ints_ren, Ints_length, Ints_getD, and_true, true_and, zaH, zaI]) <;> (try rfl))
      all_goals simp only [nxV, nxA, h1, if_false, Bool.false_eq_true, e]
    | rw [if_neg h] at e
      (refine fs_flat [(0, dice l (i + 1))] (by simp) (by simp only [zaf, zah]; decide) (by simp only [go_sem, resV, resS, zaS, zaR, zaA, zaX, zaT, idx, renO, zaP, evS, slot, lookR, zaa, ↓reduceIte, reduceCtorEq, if_true, if_false, zaM, zaN, zaf, zah, sLoad, readAt, readNeed, Ints_ren, Ints_length, Ints_getD, and_true, true_and, zaH, zaI]; try decide) ?_ (by simp only [zad, zag, false_implies, implies_true, and_true, zaT, lookR, zaa, if_true, if_false, ↓reduceIte] <;> (repeat' apply zas) <;> (first | rfl | trivial)) (by simp only [zad, zag, false_implies, implies_true, and_true, true_and, flat_cons, flat_nil, flat_ints, flat_bools, flat_app, zaQ, and_self, eq_self_iff_true, zap]) ?_ <;> (try simp only [go_sem, resV, resS, zaS, zaR, zaA, zaX, zaT, idx, renO, zaP, evS, slot, lookR, zaa, ↓reduceIte, reduceCtorEq, if_true, if_false, zaM, zaN, zaf, zah, sLoad, readAt, readNeed, Ints_ren, Ints_length, Ints_getD, and_true, true_and, zaH, zaI]) <;> (try rfl))
      all_goals simp only [nxV, nxA, h1, if_false, Bool.false_eq_true, e]
theorem bool_spec (l : List Int) (i : Nat) (n : Int) (hl : l.length ≤ 600) (hr : ∀ x ∈ l, -9223372036854775808 ≤ x ∧ x ≤ 9223372036854775807) (hn : 0 ≤ n ∧ n ≤ 65536) : FnSpec Try.prog 27 [dp, i1 n] [dice l i] (b1 (decide (nxV l i n = n - 1))) [some (dice l (nxA l i n))] := by
  refine fnspec_of mixed TT_ok TT_cl ⟨fun _ => false, fun f => if f = 12 then [0] else [], 1, fun _ => false, fun _ => false⟩ Try.func27 rfl (by kernel_rfl) rfl 11 rfl [.tmp 4] rfl ?_
  simp only [go_sem, zaa, zai, zaj, zak, zal, zae, ↓reduceIte, reduceCtorEq, zab, zac, zam, zan, zao]
  repeat' (first
 | with_reducible refine zas ?_ ?_
 | (apply cl_lend
    case hr => (simp only [zaf, zah, hpL', lookR, zaa, if_true, if_false]; first | exact map1 _ | exact map2 _ _ | exact map3 _ _ _)
    case ha => (simp only [zaf, zah, prepV, prepC, idx, hpL', lookR, zaa, if_true, if_false]; rfl)
    case hs => rfl
    case hn => decide
    case h => (first | exact next_spec _ _ _ hl hr (by omega))
    case hf => (simp only [zad, zag, false_implies, implies_true, and_true, true_and, flat_cons, flat_nil, flat_ints, flat_bools, flat_app, zaQ, and_self, eq_self_iff_true, zap])
    case hl => (simp only [zaw, zay]; decide)
    case' hk => simp only [go_sem, zaa, zai, zaj, zak, zal, zae, ↓reduceIte, reduceCtorEq, zab, zac, zam, zan, zao, zaS, zaR, zaA, zaP, renO, bk, back, outUpsFrom, Ints_ren])
 | (intros; omega)
 | fail)
  (refine fs_flat [(0, dice l (nxA l i n))] (by simp) (by simp only [zaf, zah]; decide) (by simp only [go_sem, resV, resS, zaS, zaR, zaA, zaX, zaT, idx, renO, zaP, evS, slot, lookR, zaa, ↓reduceIte, reduceCtorEq, if_true, if_false, zaM, zaN, zaf, zah, sLoad, readAt, readNeed, Ints_ren, Ints_length, Ints_getD, and_true, true_and, zaH, zaI]; try decide) ?_ (by simp only [zad, zag, false_implies, implies_true, and_true, zaT, lookR, zaa, if_true, if_false, ↓reduceIte] <;> (repeat' apply zas) <;> (first | rfl | trivial)) (by simp only [zad, zag, false_implies, implies_true, and_true, true_and, flat_cons, flat_nil, flat_ints, flat_bools, flat_app, zaQ, and_self, eq_self_iff_true, zap]) ?_ <;> (try simp only [go_sem, resV, resS, zaS, zaR, zaA, zaX, zaT, idx, renO, zaP, evS, slot, lookR, zaa, ↓reduceIte, reduceCtorEq, if_true, if_false, zaM, zaN, zaf, zah, sLoad, readAt, readNeed, Ints_ren, Ints_length, Ints_getD, and_true, true_and, zaH, zaI]) <;> (try rfl))
end Go.Proofs.Ytlajelbiniakpaa
-- NEWGO
-- PRUNE: cl_lendx cl_use
-- ISG: Strs_isG
-- FLAT: Strs_flat
namespace Go.Proofs.Ytlajelbiniakpaa
set_option linter.unusedVariables false
set_option linter.unusedSimpArgs false
open Go.Proofs.Ytlajelbiniakpaa.Sh
set_option maxRecDepth 20000
def nmL : List Str := [[97], [98], [99], [119, 101, 98], [100, 98, 45, 49], [88, 95, 57]]
theorem nx_rng (l : List Int) (i : Nat) (n : Int) (hn : 0 < n) : 0 ≤ nxV l i n ∧ nxV l i n < n := by
  unfold nxV
  split
  · omega
  · exact ⟨Int.emod_nonneg _ (by omega), Int.emod_lt_of_pos _ hn⟩
def nmV (l : List Int) (i : Nat) : Str := nmL.getD (nxV l i 6).toNat []
theorem getD_len (L : List Str) (n : Nat) (h : ∀ s ∈ L, s.length ≤ n) (j : Nat) : (L.getD j []).length ≤ n := by
  rw [List.getD_eq_getElem?_getD]
  cases hx : L[j]? with
  | none => exact zaW _
  | some s => exact h s (List.mem_of_getElem? hx)
theorem nmV_len (l : List Int) (i : Nat) : (nmV l i).length ≤ 4 := getD_len nmL 4 (by decide) _
variable {l : List Int} (hl : l.length ≤ 600) (hr : ∀ x ∈ l, -9223372036854775808 ≤ x ∧ x ≤ 9223372036854775807)
include hl hr
theorem name_spec (i : Nat) : FnSpec Try.prog 26 [dp] [dice l i] (s1 (nmV l i)) [some (dice l (nxA l i 6))] := by
  have h1 := next_spec l i 6 hl hr (by omega)
  have h2 := nx_rng l i 6 (by omega)
  have hat := Strs_getD' nmL (nxV l i 6).toNat (.sc (.string (bs []))) (by show _ < 6; omega)
  simp only [Strs, nmL, zaf, zah] at hat
  unfold nmV nmL
  generalize nxV l i 6 = x at *
  generalize nxA l i 6 = j at *
  refine fnspec_of mixed TT_ok TT_cl ⟨fun _ => false, fun f => if f = 12 then [0] else [], 1, fun _ => false, fun _ => false⟩ Try.func26 rfl (by kernel_rfl) rfl 8 rfl [.tmp 2] rfl ?_
  simp only [go_sem, zaa, zai, zaj, zak, zal, zae, ↓reduceIte, reduceCtorEq, zab, zac, zam, zan, zao]
  repeat' (first
 | with_reducible refine zas ?_ ?_
 | (apply cl_lend
    case hr => (simp only [zaf, zah, hpL', lookR, zaa, if_true, if_false]; first | exact map1 _ | exact map2 _ _ | exact map3 _ _ _)
    case ha => (simp only [zaf, zah, prepV, prepC, idx, hpL', lookR, zaa, if_true, if_false]; rfl)
    case hs => rfl
    case hn => decide
    case h => (first | exact h1 ..)
    case hf => (simp only [zad, zag, false_implies, implies_true, and_true, true_and, flat_cons, flat_nil, flat_ints, flat_bools, flat_app, Strs_flat, zaQ, and_self, eq_self_iff_true, zap])
    case hl => (simp only [zaw, zay]; decide))
 | ((first | refine s1_id ?_ | refine swp_id ?_ | refine sops_id ?_ | refine s2_id ?_); simp only [hat, dice, go_sem, zaa, zai, zaj, zak, zal, zae, ↓reduceIte, reduceCtorEq, zab, zac, zam, zan, zao, zaS, zaR, zaA, zaP, renO, bk, back, outUpsFrom, Ints_ren])
 | (intros; omega)
 | fail)
  (refine fs_flat [(0, dice l j)] (by simp) (by simp only [zaf, zah]; decide) (by simp only [go_sem, resV, resS, zaS, zaR, zaA, zaX, zaT, idx, renO, zaP, evS, slot, lookR, zaa, ↓reduceIte, reduceCtorEq, if_true, if_false, zaM, zaN, zaf, zah, sLoad, readAt, readNeed, Ints_ren, Ints_length, Ints_getD, and_true, true_and, zaH, zaI]; try decide) ?_ (by simp only [zad, zag, false_implies, implies_true, and_true, zaT, lookR, zaa, if_true, if_false, ↓reduceIte] <;> (repeat' apply zas) <;> (first | rfl | trivial)) (by simp only [zad, zag, false_implies, implies_true, and_true, true_and, flat_cons, flat_nil, flat_ints, flat_bools, flat_app, zaQ, and_self, eq_self_iff_true, zap]) ?_ <;> (try simp only [go_sem, resV, resS, zaS, zaR, zaA, zaX, zaT, idx, renO, zaP, evS, slot, lookR, zaa, ↓reduceIte, reduceCtorEq, if_true, if_false, zaM, zaN, zaf, zah, sLoad, readAt, readNeed, Ints_ren, Ints_length, Ints_getD, and_true, true_and, zaH, zaI]) <;> (try rfl))
end Go.Proofs.Ytlajelbiniakpaa
-- NEWGO
-- PRUNE: cl_lendx cl_use
-- ISG: Cs_isG
-- FLAT: Cs_flat
namespace Go.Proofs.Ytlajelbiniakpaa
set_option linter.unusedVariables false
set_option linter.unusedSimpArgs false
open Go.Proofs.Ytlajelbiniakpaa.Sh
set_option maxRecDepth 20000
abbrev TrS := (List Nd × Int) × Nat
def tPk (L : List Int) (s : TrS) : Int := (gN s.1.1 (nxV L s.2 s.1.1.length).toNat).i
def tAddM (L : List Int) (s : TrS) : (List Nd × Int) × Int × Int := addM s.1.1 s.1.2 (tPk L s) (nmV L (nxA L s.2 s.1.1.length))
def tAdd (L : List Int) (s : TrS) : TrS := (if (tAddM L s).2.2 = 0 then (tAddM L s).1 else s.1, nxA L (nxA L s.2 s.1.1.length) 6)
def tRemM (L : List Int) (s : TrS) : (List Nd × Int) × Int := rmM s.1.1 s.1.2 (tPk L (s.1, nxA L s.2 6))
def tRem (L : List Int) (s : TrS) : TrS := if nxV L s.2 6 = 5 then (if (tRemM L s).2 = 0 then (tRemM L s).1 else s.1, nxA L (nxA L s.2 6) s.1.1.length) else (s.1, nxA L s.2 6)
def tLp (L : List Int) : Nat → TrS → TrS
  | 0, s => s
  | m + 1, s => tLp L m (tRem L (tAdd L s))
def mkT (L : List Int) (j : Nat) (N : Nat) : TrS := tLp L (nxV L j ((N : Int) + 1)).toNat (([⟨1, 0, [], 0, 0, 0⟩], 2), nxA L j ((N : Int) + 1))
structure TI (l : List Nd) (n : Int) (B : Nat) : Prop where
  v : VL l n
  nm : ∀ x ∈ l, x.nm.length ≤ 4
  b : l.length ≤ B
  z : ∀ x ∈ l, x.c = 0 ∧ x.k = 0 ∧ x.o = 0
theorem TI.nr {l : List Nd} {n : Int} {B : Nat} (h : TI l n B) : NmR l := fun x hx => by have := h.nm x hx; omega
theorem TI.len {l : List Nd} {n : Int} {B : Nat} (h : TI l n B) : 1 ≤ l.length ∧ l.length ≤ 64 := ⟨h.v.ne, h.v.le⟩
theorem TI.mono {l : List Nd} {n : Int} {B C : Nat} (h : TI l n B) (hc : B ≤ C) : TI l n C := ⟨h.v, h.nm, Nat.le_trans h.b hc, h.z⟩
theorem hasM_iff {l : List Nd} {n id : Int} : hasM l n id = true ↔ chkT l n = true ∧ ∃ y ∈ l, y.i = id := by
  unfold hasM
  rw [zav, List.any_eq_true]
  simp only [hasI, decide_eq_true_eq]
theorem addM_ok {l : List Nd} {n p : Int} {s : Str} (h : (addM l n p s).2.2 = 0) : addM l n p s = ((l ++ [newN n p s], n + 1), n, 0) ∧ chkT l n = true ∧ nmOk s = true ∧ (∃ y ∈ l, y.i = p) ∧ (∀ y ∈ l, ¬ (y.p = p ∧ y.nm = s)) ∧ (upL l p).length ≤ 8 ∧ l.length < 64 ∧ n ≤ 2147483647 := by
  unfold addM at h ⊢
  by_cases h1 : (chkT l n && nmOk s) = false
  · rw [if_pos h1] at h; cases h
  rw [if_neg h1] at h ⊢
  by_cases h2 : hasM l n p = false
  · rw [if_pos h2] at h; cases h
  rw [if_neg h2] at h ⊢
  by_cases h3 : l.any (same1 p s) = true
  · rw [if_pos h3] at h; cases h
  rw [if_neg h3] at h ⊢
  by_cases h4 : 8 ≤ ((ancM l n p).length : Int) - 1 ∨ 64 ≤ (l.length : Int) ∨ 2147483647 < n
  · rw [if_pos h4] at h; cases h
  rw [if_neg h4]
  have h1' : (chkT l n && nmOk s) = true := by revert h1; cases (chkT l n && nmOk s) <;> simp
  rw [zav] at h1'
  have h2' : hasM l n p = true := by revert h2; cases hasM l n p <;> simp
  have ha : ancM l n p = upL l p := if_pos h2'
  rw [ha] at h4
  refine ⟨rfl, h1'.1, h1'.2, (hasM_iff.1 h2').2, fun y hy hh => h3 (List.any_eq_true.2 ⟨y, hy, ?_⟩), by omega, by omega, by omega⟩
  unfold same1
  rw [decide_eq_true hh.1, decide_eq_true hh.2]; rfl
theorem rmM_ok {l : List Nd} {n id : Int} (h : (rmM l n id).2 = 0) : rmM l n id = ((rmN l id, n), 0) ∧ chkT l n = true ∧ (∃ y ∈ l, y.i = id) ∧ id ≠ 1 ∧ ∀ x ∈ l, x.p ≠ id := by
  unfold rmM at h ⊢
  by_cases h1 : chkT l n = false
  · rw [if_pos h1] at h; cases h
  rw [if_neg h1] at h ⊢
  by_cases h2 : hasM l n id = false
  · rw [if_pos h2] at h; cases h
  rw [if_neg h2] at h ⊢
  by_cases h3 : id = 1
  · rw [if_pos h3] at h; cases h
  rw [if_neg h3] at h ⊢
  by_cases h4 : 0 < ((chM l n id).length : Int)
  · rw [if_pos h4] at h; cases h
  rw [if_neg h4]
  have h2' : hasM l n id = true := by revert h2; cases hasM l n id <;> simp
  have hc : chM l n id = kidsL l id := if_pos h2'
  rw [hc] at h4
  refine ⟨rfl, (hasM_iff.1 h2').1, (hasM_iff.1 h2').2, h3, fun x hx e => h4 ?_⟩
  have : x.i ∈ kidsL l id := List.mem_map_of_mem (List.mem_filter.2 ⟨hx, decide_eq_true e⟩)
  have := List.length_pos_of_mem this
  omega
theorem TI.add {l : List Nd} {n p : Int} {s : Str} {B : Nat} (h : TI l n B) (hs : s.length ≤ 4) (he : (addM l n p s).2.2 = 0) : TI (addM l n p s).1.1 (addM l n p s).1.2 (B + 1) := by
  obtain ⟨e, h1, h2, h3, h4, h5, h6, h7⟩ := addM_ok he
  rw [e]
  refine ⟨h.v.add h2 h3 h4 h5 h6 h7, fun x hx => ?_, by rw [zba, List.length_singleton]; have := h.b; omega, fun x hx => ?_⟩
  · rcases List.mem_append.1 hx with hx | hx
    · exact h.nm x hx
    · rw [List.mem_singleton.1 hx]; exact hs
  · rcases List.mem_append.1 hx with hx | hx
    · exact h.z x hx
    · rw [List.mem_singleton.1 hx]; exact ⟨rfl, rfl, rfl⟩
theorem TI.rem {l : List Nd} {n id : Int} {B : Nat} (h : TI l n B) (he : (rmM l n id).2 = 0) : TI (rmM l n id).1.1 (rmM l n id).1.2 B := by
  obtain ⟨e, h1, h2, h3, h4⟩ := rmM_ok he
  rw [e]
  refine ⟨h.v.rm h3 h4, fun x hx => h.nm x ((rmN_mem l id x).1 hx).1, Nat.le_trans (rmN_len l id) h.b, fun x hx => h.z x ((rmN_mem l id x).1 hx).1⟩
theorem tAdd_ok (L : List Int) {s : TrS} {B : Nat} (h : TI s.1.1 s.1.2 B) : TI (tAdd L s).1.1 (tAdd L s).1.2 (B + 1) := by
  unfold tAdd
  simp only
  by_cases he : (tAddM L s).2.2 = 0
  · rw [if_pos he]
    exact h.add (nmV_len _ _) he
  · rw [if_neg he]; exact h.mono (Nat.le_succ B)
theorem tRem_ok (L : List Int) {s : TrS} {B : Nat} (h : TI s.1.1 s.1.2 B) : TI (tRem L s).1.1 (tRem L s).1.2 B := by
  unfold tRem
  by_cases hb : nxV L s.2 6 = 5
  · rw [if_pos hb]
    simp only
    by_cases he : (tRemM L s).2 = 0
    · rw [if_pos he]; exact h.rem he
    · rw [if_neg he]; exact h
  · rw [if_neg hb]; exact h
theorem tLp_ok (L : List Int) : ∀ (m : Nat) (s : TrS) (B : Nat), TI s.1.1 s.1.2 B → TI (tLp L m s).1.1 (tLp L m s).1.2 (B + m)
  | 0, s, B, h => h
  | m + 1, s, B, h => by
    have := tLp_ok L m _ _ (tRem_ok L (tAdd_ok L h))
    rw [show B + 1 + m = B + (m + 1) by omega] at this
    exact this
theorem TI_new : TI [⟨1, 0, [], 0, 0, 0⟩] 2 1 := ⟨VL_new, fun x hx => by rw [List.mem_singleton.1 hx]; decide, zaY _, fun x hx => by rw [List.mem_singleton.1 hx]; exact ⟨rfl, rfl, rfl⟩⟩
theorem mkT_ok (L : List Int) (j N : Nat) : TI (mkT L j N).1.1 (mkT L j N).1.2 (N + 1) := by
  have h := tLp_ok L (nxV L j ((N : Int) + 1)).toNat (([⟨1, 0, [], 0, 0, 0⟩], 2), nxA L j ((N : Int) + 1)) 1 TI_new
  have h2 := nx_rng L j ((N : Int) + 1) (by omega)
  exact h.mono (by omega)
def lendT : FuncId → List Nat := fun f => if f = 12 then [0] else if f = 26 then [0] else if f = 27 then [0] else []
set_option maxHeartbeats 32000000 in
theorem tree_spec (L : List Int) (hl : L.length ≤ 600) (hr : ∀ x ∈ L, -9223372036854775808 ≤ x ∧ x ≤ 9223372036854775807) (j N : Nat) (hN : N ≤ 50) :
    FnSpec Try.prog 10 [dp, i1 N] [dice L j] (trV (mkT L j N).1.1 none (mkT L j N).1.2) [some (dice L (mkT L j N).2)] := by
  have n0 := next_spec L j ((N : Int) + 1) hl hr (by omega)
  have r0 := nx_rng L j ((N : Int) + 1) (by omega)
  obtain ⟨T, hT⟩ : ∃ T, mkT L j N = T := ⟨_, rfl⟩
  have hT0 := hT
  rw [hT]
  unfold mkT at hT
  obtain ⟨c0, hc0, hc1⟩ : ∃ c : Nat, nxV L j ((N : Int) + 1) = c ∧ c ≤ N := ⟨(nxV L j ((N : Int) + 1)).toNat, by omega, by omega⟩
  rw [hc0, zaU] at hT
  rw [hc0] at n0
  refine fnspec_of mixed TT_ok TT_cl ⟨fun _ => false, lendT, 1, fun _ => false, fun _ => false⟩ Try.func10 rfl (by kernel_rfl) rfl 65 rfl [.cell 4 25] rfl ?_
  simp only [go_sem, zaa, zai, zaj, zak, zal, zae, ↓reduceIte, reduceCtorEq, zab, zac, zam, zan, zao, lendT]
  repeat' (first
 | with_reducible refine zas ?_ ?_
 | (apply cl_plain
    case hs => rfl
    case ha => (simp only [zaf, zah, prepV, prepC, idx, hpL', lookR, zaa, if_true, if_false]; rfl)
    case h => (first | exact trnew_spec .. | exact n0 ..))
 | (apply cl_lend
    case hr => (simp only [zaf, zah, hpL', lookR, zaa, if_true, if_false]; first | exact map1 _ | exact map2 _ _ | exact map3 _ _ _)
    case ha => (simp only [zaf, zah, prepV, prepC, idx, hpL', lookR, zaa, if_true, if_false]; rfl)
    case hs => rfl
    case hn => decide
    case h => (first | exact trnew_spec .. | exact n0 ..)
    case hf => (simp only [zad, zag, false_implies, implies_true, and_true, true_and, flat_cons, flat_nil, flat_ints, flat_bools, flat_app, Cs_flat, zaQ, and_self, eq_self_iff_true, zap])
    case hl => (simp only [zaw, zay]; decide))
 | ((first | refine s1_id ?_ | refine swp_id ?_ | refine sops_id ?_ | refine s2_id ?_); simp only [lendT, dice, go_sem, zaa, zai, zaj, zak, zal, zae, ↓reduceIte, reduceCtorEq, zab, zac, zam, zan, zao, zaS, zaR, zaA, zaP, renO, bk, back, outUpsFrom, Ints_ren])
 | (intros; omega)
 | (intros; (try simp only [zav, zax, zau, zat, zaq, zar, decide_eq_true_eq, decide_eq_false_iff_not] at *); omega))
  refine w_loop (ι := Nat × TrS) (fun s => ⟨[(0, dp), (4, .one (.optr 1 0)), (5, .one (.optr 2 0)), (6, i1 s.1)], [(0, some (dice L s.2.2)), (1, some ⟨[.sc (.slice none 0 0), int 0], 2⟩), (2, some ⟨[.gsl (Cs s.2.1.1) 0 s.2.1.1.length none, int s.2.1.2], 2⟩)], 3⟩) (fun s => T = tLp L s.1 s.2 ∧ TI s.2.1.1 s.2.1.2 (N + 1 - s.1) ∧ s.1 ≤ N) (fun s => s.1) (c0, (([⟨1, 0, [], 0, 0, 0⟩], 2), nxA L j ((N : Int) + 1))) ?_ ⟨hT.symm, TI_new.mono (by omega), hc1⟩ ?_
  · (refine imp_ren _ _ _ [(0, 0, dice L (nxA L j ((N : Int) + 1))), (1, 1, ⟨[.sc (.slice none 0 0), int 0], 2⟩), (2, 3, ⟨[.gsl (Cs ([⟨1, 0, [], 0, 0, 0⟩] : List Nd)) 0 1 none, int 2], 2⟩)] (by simp) (by simp) (by simp) (zaC rfl) ?_ rfl (by simp only [zad, zag, false_implies, implies_true, and_true, zaT, lookR, zaa, if_true, if_false, ↓reduceIte, dice] <;> (repeat' apply zas) <;> (first | rfl | trivial)) (by simp only [zad, zag, false_implies, implies_true, and_true, true_and, flat_cons, flat_nil, flat_ints, flat_bools, flat_app, zaQ, and_self, eq_self_iff_true, zap, dice]); simp only [zaf, zah, zad, zag, false_implies, implies_true, and_true, lk, slot, zaS, zaA, toN, zaa, if_true, if_false, ↓reduceIte, reduceCtorEq])
    all_goals ((repeat' apply zas) <;> (first | rfl | trivial))
  clear n0 r0 hT hT0 hc0
  rintro ⟨m, ⟨⟨l, n⟩, i⟩⟩ ⟨hI, hti, hmN⟩
  simp only at hI hti hmN ⊢
  cases m with
  | zero =>
    rw [tLp] at hI
    subst hI
    simp only [go_sem, zaa, zai, zaj, zak, zal, zae, ↓reduceIte, reduceCtorEq, zab, zac, zam, zan, zao, lendT]
    repeat' (first
 | (intros; (try simp only [zav, zax, zau, zat, zaq, zar, decide_eq_true_eq, decide_eq_false_iff_not] at *); omega))
    (refine fs_flat [(0, dice L i)] (by simp) (by simp only [zaf, zah]; decide) (by simp only [go_sem, resV, resS, zaS, zaR, zaA, zaX, zaT, idx, renO, zaP, evS, slot, lookR, zaa, ↓reduceIte, reduceCtorEq, if_true, if_false, zaM, zaN, zaf, zah, sLoad, readAt, readNeed, Ints_ren, Ints_length, Ints_getD, and_true, true_and, zaH, zaI]; try decide) ?_ (by simp only [zad, zag, false_implies, implies_true, and_true, zaT, lookR, zaa, if_true, if_false, ↓reduceIte, dice] <;> (repeat' apply zas) <;> (first | rfl | trivial)) (by simp only [zad, zag, false_implies, implies_true, and_true, true_and, flat_cons, flat_nil, flat_ints, flat_bools, flat_app, zaQ, and_self, eq_self_iff_true, zap, dice]) ?_ <;> (try simp only [go_sem, resV, resS, zaS, zaR, zaA, zaX, zaT, idx, renO, zaP, evS, slot, lookR, zaa, ↓reduceIte, reduceCtorEq, if_true, if_false, zaM, zaN, zaf, zah, sLoad, readAt, readNeed, Ints_ren, Ints_length, Ints_getD, and_true, true_and, zaH, zaI]) <;> (try rfl))
  | succ m =>
  have c : (0 : Int) < ((m + 1 : Nat) : Int) := by omega
  have e2 : ((m + 1 : Nat) : Int) - 1 = (m : Int) := by omega
  have hlen := hti.len
  rw [tLp] at hI
  have hta := tAdd_ok L (s := ((l, n), i)) hti
  have htr := tRem_ok L hta
  have hnl := nd_len l
  have n1 := next_spec L i l.length hl hr (by omega)
  have r1 := nx_rng L i l.length (by omega)
  obtain ⟨x, hx, hxl⟩ : ∃ x : Nat, nxV L i l.length = x ∧ x < l.length := ⟨(nxV L i l.length).toNat, by omega, by omega⟩
  obtain ⟨g1, _⟩ := nd_f l x hxl (.sc (.int .i64 0))
  have hA0 : tAddM L ((l, n), i) = addM l n (gN l x).i (nmV L (nxA L i l.length)) := by unfold tAddM tPk; simp only; rw [hx, zaU]
  rw [hx] at n1
  have n2 := name_spec (l := L) hl hr (nxA L i l.length)
  have s1' := nmV_len L (nxA L i l.length)
  have a1 := radd_spec l none n (gN l x).i (nmV L (nxA L i l.length)) (by omega) hti.nr (by omega)
  rw [← hA0] at a1
  have hj2 : (tAdd L ((l, n), i)).2 = nxA L (nxA L i l.length) 6 := rfl
  have ht1 : (tAdd L ((l, n), i)).1 = if (tAddM L ((l, n), i)).2.2 = 0 then (tAddM L ((l, n), i)).1 else (l, n) := rfl
  generalize nmV L (nxA L i l.length) = nam at *
  generalize tAddM L ((l, n), i) = AM at *
  obtain ⟨⟨la, na⟩, ia, ea⟩ := AM
  clear hA0
  simp only [adV] at a1
  obtain ⟨S1, hS1⟩ : ∃ S1, tAdd L ((l, n), i) = S1 := ⟨_, rfl⟩
  rw [hS1] at hI hta htr hj2 ht1
  clear hS1
  obtain ⟨⟨l1, n1'⟩, j2⟩ := S1
  simp only at hta hj2 ht1
  subst hj2
  have hlen1 := hta.len
  have n3 := bool_spec L (nxA L (nxA L i l.length) 6) 6 hl hr (by decide)
  generalize nxA L (nxA L i l.length) 6 = j2 at *
  have htr2 : tRem L ((l1, n1'), j2) = if nxV L j2 6 = 5 then (if (tRemM L ((l1, n1'), j2)).2 = 0 then (tRemM L ((l1, n1'), j2)).1 else (l1, n1'), nxA L (nxA L j2 6) l1.length) else ((l1, n1'), nxA L j2 6) := rfl
  have hnl1 := nd_len l1
  have n4 := next_spec L (nxA L j2 6) l1.length hl hr (by omega)
  have r4 := nx_rng L (nxA L j2 6) l1.length (by omega)
  obtain ⟨y, hy, hyl⟩ : ∃ y : Nat, nxV L (nxA L j2 6) l1.length = y ∧ y < l1.length := ⟨(nxV L (nxA L j2 6) l1.length).toNat, by omega, by omega⟩
  obtain ⟨g2, _⟩ := nd_f l1 y hyl (.sc (.int .i64 0))
  have hR0 : tRemM L ((l1, n1'), j2) = rmM l1 n1' (gN l1 y).i := by unfold tRemM tPk; simp only; rw [hy, zaU]
  rw [hy] at n4
  have a2 := rrem_spec l1 none n1' (gN l1 y).i (by omega) hta.nr
  rw [← hR0] at a2
  generalize tRemM L ((l1, n1'), j2) = RM at *
  obtain ⟨⟨lr, nr⟩, er⟩ := RM
  clear hR0
  simp only [rmV] at a2
  simp only at ht1 htr2
  obtain ⟨S2, hS2⟩ : ∃ S2, tRem L ((l1, n1'), j2) = S2 := ⟨_, rfl⟩
  rw [hS2] at hI htr htr2
  clear hS2
  have hBB : TI S2.1.1 S2.1.2 (N + 1 - m) := htr.mono (by omega)
  obtain ⟨⟨l2, n2'⟩, j3⟩ := S2
  simp only at hBB
  clear htr hta hti
  by_cases hea : ea = 0
  · rw [if_pos hea] at ht1
    obtain ⟨rfl, rfl⟩ := Prod.mk.inj ht1
    by_cases hb : nxV L j2 6 = 5
    · rw [if_pos hb] at htr2
      rw [decide_eq_true (by omega : nxV L j2 6 = 6 - 1)] at n3
      by_cases her : er = 0
      · rw [if_pos her] at htr2
        obtain ⟨e1, rfl⟩ := Prod.mk.inj htr2
        obtain ⟨rfl, rfl⟩ := Prod.mk.inj e1
        simp only [go_sem, zaa, zai, zaj, zak, zal, zae, ↓reduceIte, reduceCtorEq, zab, zac, zam, zan, zao, decide_eq_true c, e2, lendT, g1, g2, zaU, decide_eq_true hea, decide_eq_true her]
        repeat' (first
 | with_reducible refine zas ?_ ?_
 | (unfold OKC; kernel_rfl)
 | (unfold EDG; kernel_rfl)
 | (apply cl_plain
    case hs => rfl
    case ha => (simp only [zaf, zah, prepV, prepC, idx, hpL', lookR, zaa, if_true, if_false]; rfl)
    case h => (first | exact n1 .. | exact n2 .. | exact a1 .. | exact n3 .. | exact n4 .. | exact a2 ..))
 | (apply cl_lend
    case hr => (simp only [zaf, zah, hpL', lookR, zaa, if_true, if_false]; first | exact map1 _ | exact map2 _ _ | exact map3 _ _ _)
    case ha => (simp only [zaf, zah, prepV, prepC, idx, hpL', lookR, zaa, if_true, if_false]; rfl)
    case hs => rfl
    case hn => decide
    case h => (first | exact n1 .. | exact n2 .. | exact a1 .. | exact n3 .. | exact n4 .. | exact a2 ..)
    case hf => (simp only [zad, zag, false_implies, implies_true, and_true, true_and, flat_cons, flat_nil, flat_ints, flat_bools, flat_app, Cs_flat, zaQ, and_self, eq_self_iff_true, zap])
    case hl => (simp only [zaw, zay]; decide))
 | ((first | refine s1_id ?_ | refine swp_id ?_ | refine sops_id ?_ | refine s2_id ?_); simp only [decide_eq_true c, e2, lendT, g1, g2, dice, zaU, decide_eq_true hea, decide_eq_true her, zaF, zaJ, zap, zaE, zaG, zaB, zaD, zaz, zaK, zaO, zaw, zay, go_sem, zaa, zai, zaj, zak, zal, zae, ↓reduceIte, reduceCtorEq, zab, zac, zam, zan, zao, zaS, zaR, zaA, zaP, renO, bk, back, outUpsFrom, Ints_ren])
 | (intros; omega)
 | (intros; (try simp only [zav, zax, zau, zat, zaq, zar, decide_eq_true_eq, decide_eq_false_iff_not] at *); omega))
        refine le_mk (m, ((l2, n2'), (nxA L (nxA L j2 6) l1.length))) ?_ ⟨hI, hBB, by show m ≤ N; omega⟩ (zaZ m)
        (refine imp_ren _ _ _ [(0, 0, dice L (nxA L (nxA L j2 6) l1.length)), (1, 1, ⟨[.sc (.slice none 0 0), int 0], 2⟩), (2, 2, ⟨[.gsl (Cs l2) 0 l2.length none, int n2'], 2⟩)] (by simp) (by simp) (by simp) (zaC rfl) ?_ rfl (by simp only [zad, zag, false_implies, implies_true, and_true, zaT, lookR, zaa, if_true, if_false, ↓reduceIte, dice] <;> (repeat' apply zas) <;> (first | rfl | trivial)) (by simp only [zad, zag, false_implies, implies_true, and_true, true_and, flat_cons, flat_nil, flat_ints, flat_bools, flat_app, zaQ, and_self, eq_self_iff_true, zap, dice]); simp only [zaf, zah, zad, zag, false_implies, implies_true, and_true, lk, slot, zaS, zaA, toN, zaa, if_true, if_false, ↓reduceIte, reduceCtorEq])
        all_goals ((repeat' apply zas) <;> (first | rfl | trivial | (simp only []; done) | (simp only []; rfl) | (simp only []; trivial)))
      · rw [if_neg her] at htr2
        obtain ⟨e1, rfl⟩ := Prod.mk.inj htr2
        obtain ⟨rfl, rfl⟩ := Prod.mk.inj e1
        simp only [go_sem, zaa, zai, zaj, zak, zal, zae, ↓reduceIte, reduceCtorEq, zab, zac, zam, zan, zao, decide_eq_true c, e2, lendT, g1, g2, zaU, decide_eq_true hea, decide_eq_false her]
        repeat' (first
 | with_reducible refine zas ?_ ?_
 | (unfold OKC; kernel_rfl)
 | (unfold EDG; kernel_rfl)
 | (apply cl_plain
    case hs => rfl
    case ha => (simp only [zaf, zah, prepV, prepC, idx, hpL', lookR, zaa, if_true, if_false]; rfl)
    case h => (first | exact n1 .. | exact n2 .. | exact a1 .. | exact n3 .. | exact n4 .. | exact a2 ..))
 | (apply cl_lend
    case hr => (simp only [zaf, zah, hpL', lookR, zaa, if_true, if_false]; first | exact map1 _ | exact map2 _ _ | exact map3 _ _ _)
    case ha => (simp only [zaf, zah, prepV, prepC, idx, hpL', lookR, zaa, if_true, if_false]; rfl)
    case hs => rfl
    case hn => decide
    case h => (first | exact n1 .. | exact n2 .. | exact a1 .. | exact n3 .. | exact n4 .. | exact a2 ..)
    case hf => (simp only [zad, zag, false_implies, implies_true, and_true, true_and, flat_cons, flat_nil, flat_ints, flat_bools, flat_app, Cs_flat, zaQ, and_self, eq_self_iff_true, zap])
    case hl => (simp only [zaw, zay]; decide))
 | ((first | refine s1_id ?_ | refine swp_id ?_ | refine sops_id ?_ | refine s2_id ?_); simp only [decide_eq_true c, e2, lendT, g1, g2, dice, zaU, decide_eq_true hea, decide_eq_false her, zaF, zaJ, zap, zaE, zaG, zaB, zaD, zaz, zaK, zaO, zaw, zay, go_sem, zaa, zai, zaj, zak, zal, zae, ↓reduceIte, reduceCtorEq, zab, zac, zam, zan, zao, zaS, zaR, zaA, zaP, renO, bk, back, outUpsFrom, Ints_ren])
 | (intros; omega)
 | (intros; (try simp only [zav, zax, zau, zat, zaq, zar, decide_eq_true_eq, decide_eq_false_iff_not] at *); omega))
        refine le_mk (m, ((l2, n2'), (nxA L (nxA L j2 6) l2.length))) ?_ ⟨hI, hBB, by show m ≤ N; omega⟩ (zaZ m)
        (refine imp_ren _ _ _ [(0, 0, dice L (nxA L (nxA L j2 6) l2.length)), (1, 1, ⟨[.sc (.slice none 0 0), int 0], 2⟩), (2, 2, ⟨[.gsl (Cs l2) 0 l2.length none, int n2'], 2⟩)] (by simp) (by simp) (by simp) (zaC rfl) ?_ rfl (by simp only [zad, zag, false_implies, implies_true, and_true, zaT, lookR, zaa, if_true, if_false, ↓reduceIte, dice] <;> (repeat' apply zas) <;> (first | rfl | trivial)) (by simp only [zad, zag, false_implies, implies_true, and_true, true_and, flat_cons, flat_nil, flat_ints, flat_bools, flat_app, zaQ, and_self, eq_self_iff_true, zap, dice]); simp only [zaf, zah, zad, zag, false_implies, implies_true, and_true, lk, slot, zaS, zaA, toN, zaa, if_true, if_false, ↓reduceIte, reduceCtorEq])
        all_goals ((repeat' apply zas) <;> (first | rfl | trivial | (simp only []; done) | (simp only []; rfl) | (simp only []; trivial)))
    · rw [if_neg hb] at htr2
      rw [decide_eq_false (by omega : ¬ nxV L j2 6 = 6 - 1)] at n3
      obtain ⟨e1, rfl⟩ := Prod.mk.inj htr2
      obtain ⟨rfl, rfl⟩ := Prod.mk.inj e1
      simp only [go_sem, zaa, zai, zaj, zak, zal, zae, ↓reduceIte, reduceCtorEq, zab, zac, zam, zan, zao, decide_eq_true c, e2, lendT, g1, g2, zaU, decide_eq_true hea]
      repeat' (first
 | with_reducible refine zas ?_ ?_
 | (unfold OKC; kernel_rfl)
 | (unfold EDG; kernel_rfl)
 | (apply cl_plain
    case hs => rfl
    case ha => (simp only [zaf, zah, prepV, prepC, idx, hpL', lookR, zaa, if_true, if_false]; rfl)
    case h => (first | exact n1 .. | exact n2 .. | exact a1 .. | exact n3 ..))
 | (apply cl_lend
    case hr => (simp only [zaf, zah, hpL', lookR, zaa, if_true, if_false]; first | exact map1 _ | exact map2 _ _ | exact map3 _ _ _)
    case ha => (simp only [zaf, zah, prepV, prepC, idx, hpL', lookR, zaa, if_true, if_false]; rfl)
    case hs => rfl
    case hn => decide
    case h => (first | exact n1 .. | exact n2 .. | exact a1 .. | exact n3 ..)
    case hf => (simp only [zad, zag, false_implies, implies_true, and_true, true_and, flat_cons, flat_nil, flat_ints, flat_bools, flat_app, Cs_flat, zaQ, and_self, eq_self_iff_true, zap])
    case hl => (simp only [zaw, zay]; decide))
 | ((first | refine s1_id ?_ | refine swp_id ?_ | refine sops_id ?_ | refine s2_id ?_); simp only [decide_eq_true c, e2, lendT, g1, g2, dice, zaU, decide_eq_true hea, zaF, zaJ, zap, zaE, zaG, zaB, zaD, zaz, zaK, zaO, zaw, zay, go_sem, zaa, zai, zaj, zak, zal, zae, ↓reduceIte, reduceCtorEq, zab, zac, zam, zan, zao, zaS, zaR, zaA, zaP, renO, bk, back, outUpsFrom, Ints_ren])
 | (intros; omega)
 | (intros; (try simp only [zav, zax, zau, zat, zaq, zar, decide_eq_true_eq, decide_eq_false_iff_not] at *); omega))
      refine le_mk (m, ((l2, n2'), (nxA L j2 6))) ?_ ⟨hI, hBB, by show m ≤ N; omega⟩ (zaZ m)
      (refine imp_ren _ _ _ [(0, 0, dice L (nxA L j2 6)), (1, 1, ⟨[.sc (.slice none 0 0), int 0], 2⟩), (2, 2, ⟨[.gsl (Cs l2) 0 l2.length none, int n2'], 2⟩)] (by simp) (by simp) (by simp) (zaC rfl) ?_ rfl (by simp only [zad, zag, false_implies, implies_true, and_true, zaT, lookR, zaa, if_true, if_false, ↓reduceIte, dice] <;> (repeat' apply zas) <;> (first | rfl | trivial)) (by simp only [zad, zag, false_implies, implies_true, and_true, true_and, flat_cons, flat_nil, flat_ints, flat_bools, flat_app, zaQ, and_self, eq_self_iff_true, zap, dice]); simp only [zaf, zah, zad, zag, false_implies, implies_true, and_true, lk, slot, zaS, zaA, toN, zaa, if_true, if_false, ↓reduceIte, reduceCtorEq])
      all_goals ((repeat' apply zas) <;> (first | rfl | trivial | (simp only []; done) | (simp only []; rfl) | (simp only []; trivial)))
  · rw [if_neg hea] at ht1
    obtain ⟨rfl, rfl⟩ := Prod.mk.inj ht1
    by_cases hb : nxV L j2 6 = 5
    · rw [if_pos hb] at htr2
      rw [decide_eq_true (by omega : nxV L j2 6 = 6 - 1)] at n3
      by_cases her : er = 0
      · rw [if_pos her] at htr2
        obtain ⟨e1, rfl⟩ := Prod.mk.inj htr2
        obtain ⟨rfl, rfl⟩ := Prod.mk.inj e1
        simp only [go_sem, zaa, zai, zaj, zak, zal, zae, ↓reduceIte, reduceCtorEq, zab, zac, zam, zan, zao, decide_eq_true c, e2, lendT, g1, g2, zaU, decide_eq_false hea, decide_eq_true her]
        repeat' (first
 | with_reducible refine zas ?_ ?_
 | (unfold OKC; kernel_rfl)
 | (unfold EDG; kernel_rfl)
 | (apply cl_plain
    case hs => rfl
    case ha => (simp only [zaf, zah, prepV, prepC, idx, hpL', lookR, zaa, if_true, if_false]; rfl)
    case h => (first | exact n1 .. | exact n2 .. | exact a1 .. | exact n3 .. | exact n4 .. | exact a2 ..))
 | (apply cl_lend
    case hr => (simp only [zaf, zah, hpL', lookR, zaa, if_true, if_false]; first | exact map1 _ | exact map2 _ _ | exact map3 _ _ _)
    case ha => (simp only [zaf, zah, prepV, prepC, idx, hpL', lookR, zaa, if_true, if_false]; rfl)
    case hs => rfl
    case hn => decide
    case h => (first | exact n1 .. | exact n2 .. | exact a1 .. | exact n3 .. | exact n4 .. | exact a2 ..)
    case hf => (simp only [zad, zag, false_implies, implies_true, and_true, true_and, flat_cons, flat_nil, flat_ints, flat_bools, flat_app, Cs_flat, zaQ, and_self, eq_self_iff_true, zap])
    case hl => (simp only [zaw, zay]; decide))
 | ((first | refine s1_id ?_ | refine swp_id ?_ | refine sops_id ?_ | refine s2_id ?_); simp only [decide_eq_true c, e2, lendT, g1, g2, dice, zaU, decide_eq_false hea, decide_eq_true her, zaF, zaJ, zap, zaE, zaG, zaB, zaD, zaz, zaK, zaO, zaw, zay, go_sem, zaa, zai, zaj, zak, zal, zae, ↓reduceIte, reduceCtorEq, zab, zac, zam, zan, zao, zaS, zaR, zaA, zaP, renO, bk, back, outUpsFrom, Ints_ren])
 | (intros; omega)
 | (intros; (try simp only [zav, zax, zau, zat, zaq, zar, decide_eq_true_eq, decide_eq_false_iff_not] at *); omega))
        refine le_mk (m, ((l2, n2'), (nxA L (nxA L j2 6) l1.length))) ?_ ⟨hI, hBB, by show m ≤ N; omega⟩ (zaZ m)
        (refine imp_ren _ _ _ [(0, 0, dice L (nxA L (nxA L j2 6) l1.length)), (1, 1, ⟨[.sc (.slice none 0 0), int 0], 2⟩), (2, 2, ⟨[.gsl (Cs l2) 0 l2.length none, int n2'], 2⟩)] (by simp) (by simp) (by simp) (zaC rfl) ?_ rfl (by simp only [zad, zag, false_implies, implies_true, and_true, zaT, lookR, zaa, if_true, if_false, ↓reduceIte, dice] <;> (repeat' apply zas) <;> (first | rfl | trivial)) (by simp only [zad, zag, false_implies, implies_true, and_true, true_and, flat_cons, flat_nil, flat_ints, flat_bools, flat_app, zaQ, and_self, eq_self_iff_true, zap, dice]); simp only [zaf, zah, zad, zag, false_implies, implies_true, and_true, lk, slot, zaS, zaA, toN, zaa, if_true, if_false, ↓reduceIte, reduceCtorEq])
        all_goals ((repeat' apply zas) <;> (first | rfl | trivial | (simp only []; done) | (simp only []; rfl) | (simp only []; trivial)))
      · rw [if_neg her] at htr2
        obtain ⟨e1, rfl⟩ := Prod.mk.inj htr2
        obtain ⟨rfl, rfl⟩ := Prod.mk.inj e1
        simp only [go_sem, zaa, zai, zaj, zak, zal, zae, ↓reduceIte, reduceCtorEq, zab, zac, zam, zan, zao, decide_eq_true c, e2, lendT, g1, g2, zaU, decide_eq_false hea, decide_eq_false her]
        repeat' (first
 | with_reducible refine zas ?_ ?_
 | (unfold OKC; kernel_rfl)
 | (unfold EDG; kernel_rfl)
 | (apply cl_plain
    case hs => rfl
    case ha => (simp only [zaf, zah, prepV, prepC, idx, hpL', lookR, zaa, if_true, if_false]; rfl)
    case h => (first | exact n1 .. | exact n2 .. | exact a1 .. | exact n3 .. | exact n4 .. | exact a2 ..))
 | (apply cl_lend
    case hr => (simp only [zaf, zah, hpL', lookR, zaa, if_true, if_false]; first | exact map1 _ | exact map2 _ _ | exact map3 _ _ _)
    case ha => (simp only [zaf, zah, prepV, prepC, idx, hpL', lookR, zaa, if_true, if_false]; rfl)
    case hs => rfl
    case hn => decide
    case h => (first | exact n1 .. | exact n2 .. | exact a1 .. | exact n3 .. | exact n4 .. | exact a2 ..)
    case hf => (simp only [zad, zag, false_implies, implies_true, and_true, true_and, flat_cons, flat_nil, flat_ints, flat_bools, flat_app, Cs_flat, zaQ, and_self, eq_self_iff_true, zap])
    case hl => (simp only [zaw, zay]; decide))
 | ((first | refine s1_id ?_ | refine swp_id ?_ | refine sops_id ?_ | refine s2_id ?_); simp only [decide_eq_true c, e2, lendT, g1, g2, dice, zaU, decide_eq_false hea, decide_eq_false her, zaF, zaJ, zap, zaE, zaG, zaB, zaD, zaz, zaK, zaO, zaw, zay, go_sem, zaa, zai, zaj, zak, zal, zae, ↓reduceIte, reduceCtorEq, zab, zac, zam, zan, zao, zaS, zaR, zaA, zaP, renO, bk, back, outUpsFrom, Ints_ren])
 | (intros; omega)
 | (intros; (try simp only [zav, zax, zau, zat, zaq, zar, decide_eq_true_eq, decide_eq_false_iff_not] at *); omega))
        refine le_mk (m, ((l2, n2'), (nxA L (nxA L j2 6) l2.length))) ?_ ⟨hI, hBB, by show m ≤ N; omega⟩ (zaZ m)
        (refine imp_ren _ _ _ [(0, 0, dice L (nxA L (nxA L j2 6) l2.length)), (1, 1, ⟨[.sc (.slice none 0 0), int 0], 2⟩), (2, 2, ⟨[.gsl (Cs l2) 0 l2.length none, int n2'], 2⟩)] (by simp) (by simp) (by simp) (zaC rfl) ?_ rfl (by simp only [zad, zag, false_implies, implies_true, and_true, zaT, lookR, zaa, if_true, if_false, ↓reduceIte, dice] <;> (repeat' apply zas) <;> (first | rfl | trivial)) (by simp only [zad, zag, false_implies, implies_true, and_true, true_and, flat_cons, flat_nil, flat_ints, flat_bools, flat_app, zaQ, and_self, eq_self_iff_true, zap, dice]); simp only [zaf, zah, zad, zag, false_implies, implies_true, and_true, lk, slot, zaS, zaA, toN, zaa, if_true, if_false, ↓reduceIte, reduceCtorEq])
        all_goals ((repeat' apply zas) <;> (first | rfl | trivial | (simp only []; done) | (simp only []; rfl) | (simp only []; trivial)))
    · rw [if_neg hb] at htr2
      rw [decide_eq_false (by omega : ¬ nxV L j2 6 = 6 - 1)] at n3
      obtain ⟨e1, rfl⟩ := Prod.mk.inj htr2
      obtain ⟨rfl, rfl⟩ := Prod.mk.inj e1
      simp only [go_sem, zaa, zai, zaj, zak, zal, zae, ↓reduceIte, reduceCtorEq, zab, zac, zam, zan, zao, decide_eq_true c, e2, lendT, g1, g2, zaU, decide_eq_false hea]
      repeat' (first
 | with_reducible refine zas ?_ ?_
 | (unfold OKC; kernel_rfl)
 | (unfold EDG; kernel_rfl)
 | (apply cl_plain
    case hs => rfl
    case ha => (simp only [zaf, zah, prepV, prepC, idx, hpL', lookR, zaa, if_true, if_false]; rfl)
    case h => (first | exact n1 .. | exact n2 .. | exact a1 .. | exact n3 ..))
 | (apply cl_lend
    case hr => (simp only [zaf, zah, hpL', lookR, zaa, if_true, if_false]; first | exact map1 _ | exact map2 _ _ | exact map3 _ _ _)
    case ha => (simp only [zaf, zah, prepV, prepC, idx, hpL', lookR, zaa, if_true, if_false]; rfl)
    case hs => rfl
    case hn => decide
    case h => (first | exact n1 .. | exact n2 .. | exact a1 .. | exact n3 ..)
    case hf => (simp only [zad, zag, false_implies, implies_true, and_true, true_and, flat_cons, flat_nil, flat_ints, flat_bools, flat_app, Cs_flat, zaQ, and_self, eq_self_iff_true, zap])
    case hl => (simp only [zaw, zay]; decide))
 | ((first | refine s1_id ?_ | refine swp_id ?_ | refine sops_id ?_ | refine s2_id ?_); simp only [decide_eq_true c, e2, lendT, g1, g2, dice, zaU, decide_eq_false hea, zaF, zaJ, zap, zaE, zaG, zaB, zaD, zaz, zaK, zaO, zaw, zay, go_sem, zaa, zai, zaj, zak, zal, zae, ↓reduceIte, reduceCtorEq, zab, zac, zam, zan, zao, zaS, zaR, zaA, zaP, renO, bk, back, outUpsFrom, Ints_ren])
 | (intros; omega)
 | (intros; (try simp only [zav, zax, zau, zat, zaq, zar, decide_eq_true_eq, decide_eq_false_iff_not] at *); omega))
      refine le_mk (m, ((l2, n2'), (nxA L j2 6))) ?_ ⟨hI, hBB, by show m ≤ N; omega⟩ (zaZ m)
      (refine imp_ren _ _ _ [(0, 0, dice L (nxA L j2 6)), (1, 1, ⟨[.sc (.slice none 0 0), int 0], 2⟩), (2, 2, ⟨[.gsl (Cs l2) 0 l2.length none, int n2'], 2⟩)] (by simp) (by simp) (by simp) (zaC rfl) ?_ rfl (by simp only [zad, zag, false_implies, implies_true, and_true, zaT, lookR, zaa, if_true, if_false, ↓reduceIte, dice] <;> (repeat' apply zas) <;> (first | rfl | trivial)) (by simp only [zad, zag, false_implies, implies_true, and_true, true_and, flat_cons, flat_nil, flat_ints, flat_bools, flat_app, zaQ, and_self, eq_self_iff_true, zap, dice]); simp only [zaf, zah, zad, zag, false_implies, implies_true, and_true, lk, slot, zaS, zaA, toN, zaa, if_true, if_false, ↓reduceIte, reduceCtorEq])
      all_goals ((repeat' apply zas) <;> (first | rfl | trivial | (simp only []; done) | (simp only []; rfl) | (simp only []; trivial)))
end Go.Proofs.Ytlajelbiniakpaa
-- NEWGO
-- PRUNE: cl_lendx cl_use
-- ISG: Cs_isG
-- FLAT: Cs_flat
namespace Go.Proofs.Ytlajelbiniakpaa
set_option linter.unusedVariables false
set_option linter.unusedSimpArgs false
open Go.Proofs.Ytlajelbiniakpaa.Sh
set_option maxRecDepth 20000
theorem fd_ix {l : List Nd} {n id : Int} (h : VT l n) (hb : bsF Nd.i l id = true) : fdM l n id = (gN l (bsV Nd.i l id), true) := by
  obtain ⟨h1, h2⟩ := bsF_at Nd.i l id hb
  have h2' : (gN l (bsV Nd.i l id)).i = id := h2
  unfold fdM
  rw [(chkT_iff l n).2 h, if_pos rfl]
  have : l.find? (hasI id) = some (gN l (bsV Nd.i l id)) := by
    rw [List.find?_eq_some_iff_getElem]
    refine ⟨decide_eq_true h2', bsV Nd.i l id, h1, (getD_at l _ zn h1).symm, fun j hj => ?_⟩
    have h3 := h.asc j _ hj h1
    rw [h2', show gN l j = l[j] from getD_at l j zn (by omega)] at h3
    simp only [zau, decide_eq_false_iff_not]; omega
  rw [this]
theorem fd_no {l : List Nd} {n id : Int} (h : VT l n) (hb : bsF Nd.i l id = false) : fdM l n id = (zn, false) := by
  unfold fdM
  rw [(chkT_iff l n).2 h, if_pos rfl]
  rw [bs_any Nd.i l (fun i j hij hj => h.asc i j hij hj) id] at hb
  rw [List.find?_eq_none.2 fun x hx e => List.any_eq_false.1 hb x hx e]
theorem hasM_bs {l : List Nd} {n id : Int} (h : VT l n) : hasM l n id = bsF Nd.i l id := by
  rw [bs_any Nd.i l (fun i j hij hj => h.asc i j hij hj) id]
  unfold hasM
  rw [(chkT_iff l n).2 h, zbg]
set_option maxHeartbeats 8000000 in
theorem tfind_spec (l : List Nd) (n id : Int) (hl : l.length ≤ 1000000) (hnm : NmR l) (hct : CtR l) : FnSpec Try.prog 59 [trV l none n, i1 id] [] (.tup [.agg (ndc (fdM l n id).1), b1 (fdM l n id).2]) [] := by
  have h1 := tchk_spec l n hl hnm hct
  have h2 := index_spec l none id hl
  have hnl := nd_len l
  cases hb : bsF Nd.i l id with
  | false =>
    have e : fdM l n id = (zn, false) := by
      cases hc : chkT l n with
      | false => unfold fdM; rw [hc]; rfl
      | true => exact fd_no ((chkT_iff l n).1 hc) hb
    rw [e]
    rw [hb] at h2
    generalize bsV Nd.i l id = v at *
    refine fnspec_of mixed TT_ok TT_cl ⟨fun _ => false, fun _ => [], 0, fun _ => false, fun _ => false⟩ Try.func59 rfl (by kernel_rfl) rfl 28 rfl [.cell 4 44, .tmp 5] rfl ?_
    simp only [go_sem, zaa, zai, zaj, zak, zal, zae, ↓reduceIte, reduceCtorEq, zab, zac, zam, zan, zao]
    repeat' (first
 | with_reducible refine zas ?_ ?_
 | (apply cl_plain
    case hs => rfl
    case ha => (simp only [zaf, zah, prepV, prepC, idx, hpL', lookR, zaa, if_true, if_false]; rfl)
    case h => (first | exact h2 ..))
 | ((first | refine s1_id ?_ | refine swp_id ?_ | refine sops_id ?_ | refine s2_id ?_); simp only [zaF, zaJ, zap, zaE, zaG, zaB, zaD, zaz, zaK, zaO, zaw, zay, go_sem, zaa, zai, zaj, zak, zal, zae, ↓reduceIte, reduceCtorEq, zab, zac, zam, zan, zao, zaS, zaR, zaA, zaP, renO, bk, back, outUpsFrom, Ints_ren])
 | (intros; omega)
 | (apply fs_nil <;> (try simp only [go_sem, resV, resS, zaS, zaR, zaA, zaX, zaT, idx, renO, zaP, evS, slot, lookR, zaa, ↓reduceIte, reduceCtorEq, if_true, if_false, zaM, zaN, zaf, zah, sLoad, readAt, readNeed, Ints_ren, Ints_length, Ints_getD, and_true, true_and, zaH, zaI]) <;> (try rfl))
 | fail)
  | true =>
  rw [hb] at h2
  cases hc : chkT l n with
  | false =>
    have e : fdM l n id = (zn, false) := by unfold fdM; rw [hc]; rfl
    rw [e]
    rw [hc] at h1
    generalize bsV Nd.i l id = v at *
    refine fnspec_of mixed TT_ok TT_cl ⟨fun _ => false, fun _ => [], 0, fun _ => false, fun _ => false⟩ Try.func59 rfl (by kernel_rfl) rfl 28 rfl [.cell 4 44, .tmp 5] rfl ?_
    simp only [go_sem, zaa, zai, zaj, zak, zal, zae, ↓reduceIte, reduceCtorEq, zab, zac, zam, zan, zao]
    repeat' (first
 | with_reducible refine zas ?_ ?_
 | (apply cg_tp
    case hl => rfl
    case ha => (simp only [zaf, zah, prepV, prepC, idx, hpL', lookR, zaa, if_true, if_false]; rfl)
    case hs => rfl
    case h => (first | exact h1 .. | exact h2 ..))
 | (apply cl_plain
    case hs => rfl
    case ha => (simp only [zaf, zah, prepV, prepC, idx, hpL', lookR, zaa, if_true, if_false]; rfl)
    case h => (first | exact h1 .. | exact h2 ..))
 | ((first | refine s1_id ?_ | refine swp_id ?_ | refine sops_id ?_ | refine s2_id ?_); simp only [zaF, zaJ, zap, zaE, zaG, zaB, zaD, zaz, zaK, zaO, zaw, zay, go_sem, zaa, zai, zaj, zak, zal, zae, ↓reduceIte, reduceCtorEq, zab, zac, zam, zan, zao, zaS, zaR, zaA, zaP, renO, bk, back, outUpsFrom, Ints_ren])
 | (intros; omega)
 | (apply fs_nil <;> (try simp only [go_sem, resV, resS, zaS, zaR, zaA, zaX, zaT, idx, renO, zaP, evS, slot, lookR, zaa, ↓reduceIte, reduceCtorEq, if_true, if_false, zaM, zaN, zaf, zah, sLoad, readAt, readNeed, Ints_ren, Ints_length, Ints_getD, and_true, true_and, zaH, zaI]) <;> (try rfl))
 | fail)
  | true =>
  rw [fd_ix ((chkT_iff l n).1 hc) hb]
  rw [hc] at h1
  have hlt := (bsF_at Nd.i l id hb).1
  generalize bsV Nd.i l id = v at *
  have hN := nd_td l v hlt
  generalize gN l v = x at *
  obtain ⟨xi, xp, xn, xc, xk, xo⟩ := x
  simp only [ndc] at hN ⊢
  refine fnspec_of mixed TT_ok TT_cl ⟨fun _ => false, fun _ => [], 0, fun _ => false, fun _ => false⟩ Try.func59 rfl (by kernel_rfl) rfl 28 rfl [.cell 4 44, .tmp 5] rfl ?_
  simp only [go_sem, zaa, zai, zaj, zak, zal, zae, ↓reduceIte, reduceCtorEq, zab, zac, zam, zan, zao, hN]
  repeat' (first
 | with_reducible refine zas ?_ ?_
 | (apply cg_tp
    case hl => rfl
    case ha => (simp only [zaf, zah, prepV, prepC, idx, hpL', lookR, zaa, if_true, if_false]; rfl)
    case hs => rfl
    case h => (first | exact h1 .. | exact h2 ..))
 | (apply cl_plain
    case hs => rfl
    case ha => (simp only [zaf, zah, prepV, prepC, idx, hpL', lookR, zaa, if_true, if_false]; rfl)
    case h => (first | exact h1 .. | exact h2 ..))
 | ((first | refine s1_id ?_ | refine swp_id ?_ | refine sops_id ?_ | refine s2_id ?_); simp only [hN, zaF, zaJ, zap, zaE, zaG, zaB, zaD, zaz, zaK, zaO, zaw, zay, go_sem, zaa, zai, zaj, zak, zal, zae, ↓reduceIte, reduceCtorEq, zab, zac, zam, zan, zao, zaS, zaR, zaA, zaP, renO, bk, back, outUpsFrom, Ints_ren])
 | (intros; omega)
 | (apply fs_nil <;> (try simp only [go_sem, resV, resS, zaS, zaR, zaA, zaX, zaT, idx, renO, zaP, evS, slot, lookR, zaa, ↓reduceIte, reduceCtorEq, if_true, if_false, zaM, zaN, zaf, zah, sLoad, readAt, readNeed, Ints_ren, Ints_length, Ints_getD, and_true, true_and, zaH, zaI]) <;> (try rfl))
 | fail)
def upT (l : List Nd) (t : Nat) : List Int := if t = 0 then [] else upL l (gN l t).p
theorem VT.upT {l : List Nd} {n : Int} (h : VT l n) {t : Nat} (ht : t < l.length) : upL l (gN l t).i = (gN l t).i :: upT l t := by
  unfold Go.Proofs.Ytlajelbiniakpaa.upT
  by_cases h0 : t = 0
  · subst h0
    rw [if_pos rfl, h.root.1, h.up0]
  · rw [if_neg h0, h.up ht h0]
set_option maxHeartbeats 16000000 in
theorem tanc_spec (l : List Nd) (n id : Int) (hl : l.length ≤ 1000000) (hnm : NmR l) (hct : CtR l) : FnSpec Try.prog 41 [trV l none n, i1 id] [] (gi (ancM l n id) none) [] := by
  have h1 := tfind_spec l n id hl hnm hct
  have h2 := fdM_2 l n id
  have hnl := nd_len l
  unfold ancM
  cases hh : hasM l n id with
  | false =>
    rw [hh] at h2
    rw [if_neg Bool.false_ne_true]
    generalize fdM l n id = u at *
    obtain ⟨⟨xi, xp, xn, xc, xk, xo⟩, b⟩ := u
    simp only at h2
    subst h2
    simp only [ndc] at h1
    refine fnspec_of mixed TT_ok TT_cl ⟨fun _ => false, fun _ => [], 0, fun _ => false, fun _ => false⟩ Try.func41 rfl (by kernel_rfl) rfl 42 rfl [.tmp 4] rfl ?_
    simp only [go_sem, zaa, zai, zaj, zak, zal, zae, ↓reduceIte, reduceCtorEq, zab, zac, zam, zan, zao]
    repeat' (first
 | (apply cl_plain
    case hs => rfl
    case ha => (simp only [zaf, zah, prepV, prepC, idx, hpL', lookR, zaa, if_true, if_false]; rfl)
    case h => (first | exact h1 ..))
 | ((first | refine s1_id ?_ | refine swp_id ?_ | refine sops_id ?_ | refine s2_id ?_); simp only [zaF, zaJ, zap, zaE, zaG, zaB, zaD, zaz, zaK, zaO, zaw, zay, go_sem, zaa, zai, zaj, zak, zal, zae, ↓reduceIte, reduceCtorEq, zab, zac, zam, zan, zao, zaS, zaR, zaA, zaP, renO, bk, back, outUpsFrom, Ints_ren])
 | (intros; (try simp only [zav, zax, zau, zat, zaq, zar, decide_eq_true_eq, decide_eq_false_iff_not] at *); omega))
    repeat' (first
 | exact fs_w trivial (svw_of cw_gnil)
 | fail)
  | true =>
  rw [if_pos rfl]
  have hk : chkT l n = true := (hasM_iff.1 hh).1
  have hV := (chkT_iff l n).1 hk
  have hb : bsF Nd.i l id = true := by rw [← hasM_bs hV, hh]
  obtain ⟨b1', b2'⟩ := bsF_at Nd.i l id hb
  rw [fd_ix hV hb] at h1
  generalize bsV Nd.i l id = v at *
  have e0 : (gN l v).i = id := b2'
  have hu := hV.upT b1'
  rw [e0] at hu
  obtain ⟨U, hU⟩ : ∃ U, upL l id = U := ⟨_, rfl⟩
  have hUl : U.length ≤ l.length := by rw [← hU]; have := upR_len l.reverse id; rw [List.length_reverse] at this; exact this
  rw [hU] at hu ⊢
  simp only at h1
  generalize hx : gN l v = x at *
  obtain ⟨xi, xp, xn, xc, xk, xo⟩ := x
  simp only [ndc] at h1
  refine fnspec_of mixed TT_ok TT_cl ⟨fun _ => false, fun _ => [], 0, fun _ => false, fun _ => false⟩ Try.func41 rfl (by kernel_rfl) rfl 42 rfl [.tmp 4] rfl ?_
  simp only [go_sem, zaa, zai, zaj, zak, zal, zae, ↓reduceIte, reduceCtorEq, zab, zac, zam, zan, zao]
  repeat' (first
 | (apply cl_plain
    case hs => rfl
    case ha => (simp only [zaf, zah, prepV, prepC, idx, hpL', lookR, zaa, if_true, if_false]; rfl)
    case h => (first | exact h1 ..))
 | ((first | refine s1_id ?_ | refine swp_id ?_ | refine sops_id ?_ | refine s2_id ?_); simp only [zaF, zaJ, zap, zaE, zaG, zaB, zaD, zaz, zaK, zaO, zaw, zay, go_sem, zaa, zai, zaj, zak, zal, zae, ↓reduceIte, reduceCtorEq, zab, zac, zam, zan, zao, zaS, zaR, zaA, zaP, renO, bk, back, outUpsFrom, Ints_ren])
 | (intros; (try simp only [zav, zax, zau, zat, zaq, zar, decide_eq_true_eq, decide_eq_false_iff_not] at *); omega))
  refine w_loop (ι := Nat × List Int) (fun s => ⟨[(2, .one (.optr 0 0)), (5, .one (.optr 1 0)), (7, .one (.osl 2 0 s.2.length none))], [(0, some ⟨[.gsl (Cs l) 0 l.length none, int n], 2⟩), (1, some ⟨ndc (gN l s.1), 6⟩), (2, some ⟨Ints s.2, 1⟩)], 3⟩) (fun s => s.1 < l.length ∧ U = s.2 ++ upT l s.1) (fun s => s.1) (v, [id]) ?_ ⟨b1', hu⟩ ?_
  · refine Imp.trans (t := ⟨[(2, .one (.optr 0 0)), (5, .one (.optr 1 0)), (7, .one (.osl 2 0 1 (some 1)))], [(0, some ⟨[.gsl (Cs l) 0 l.length none, int n], 2⟩), (1, some ⟨[int xi, int xp, st xn, int xc, int xk, int xo], 6⟩), (2, some ⟨Ints [id], 1⟩)], 3⟩) ?_ (imp_w _ _ _ ?_ (by rw [hx]) (zaY _))
    · skip
      (refine imp_ren _ _ _ [(0, 0, ⟨[.gsl (Cs l) 0 l.length none, int n], 2⟩), (1, 8, ⟨[int xi, int xp, st xn, int xc, int xk, int xo], 6⟩), (2, 14, ⟨Ints [id], 1⟩)] (by simp) (by simp) (by simp) (zaC rfl) ?_ rfl (by simp only [zad, zag, false_implies, implies_true, and_true, zaT, lookR, zaa, if_true, if_false, ↓reduceIte] <;> (repeat' apply zas) <;> (first | rfl | trivial)) (by simp only [zad, zag, false_implies, implies_true, and_true, true_and, flat_cons, flat_nil, flat_ints, flat_bools, flat_app, zaQ, and_self, eq_self_iff_true, zap]); simp only [zaf, zah, zad, zag, false_implies, implies_true, and_true, lk, slot, zaS, zaA, toN, zaa, if_true, if_false, ↓reduceIte, reduceCtorEq])
      all_goals ((repeat' apply zas) <;> (first | rfl | trivial))
    · intro x hx
      simp only [zbn, zag, or_false] at hx
      rcases hx with rfl | rfl | rfl <;> first | exact ⟨_, rfl, SVW.refl _⟩ | exact ⟨_, rfl, svw_of (cw_ocap _ _ _ _)⟩
  clear h1 hx hu e0
  rintro ⟨t, W⟩ ⟨ht, hW⟩
  simp only at ht hW ⊢
  have hWl : W.length ≤ l.length := by rw [hW, zba] at hUl; omega
  by_cases h0 : t = 0
  · subst h0
    have hr := hV.root.1
    rw [show upT l 0 = [] from rfl, zap] at hW
    subst hW
    generalize gN l 0 = y at *
    obtain ⟨yi, yp, yn, yc, yk, yo⟩ := y
    simp only at hr
    subst hr
    simp only [go_sem, zaa, zai, zaj, zak, zal, zae, ↓reduceIte, reduceCtorEq, zab, zac, zam, zan, zao, ndc]
    repeat' (first
 | (intros; (try simp only [zav, zax, zau, zat, zaq, zar, decide_eq_true_eq, decide_eq_false_iff_not] at *); omega))
    (refine fs_frz 2 ⟨Ints U, 1⟩ (by simp only [zaT, lookR, zaa, if_true, if_false, ↓reduceIte]) (by first | exact Ints_isG _ | exact Bools_isG _ | exact Cs_isG _ | (simp [zbm]; done)) ?_; simp only [frzTm, SV.frz, SV.frzL, zbo, frzHp, frzO, Ints_frz, Bools_frz, zaf, zah, zaa, if_true, if_false, ↓reduceIte])
    apply fs_nil <;> (try simp only [go_sem, resV, resS, zaS, zaR, zaA, zaX, zaT, idx, renO, zaP, evS, slot, lookR, zaa, ↓reduceIte, reduceCtorEq, if_true, if_false, zaM, zaN, zaf, zah, sLoad, readAt, readNeed, Ints_ren, Ints_length, Ints_getD, and_true, true_and, zaH, zaI]) <;> (try rfl)
  · have hne : ¬ (gN l t).i = 1 := by
      have := hV.asc 0 t (by omega) ht
      rw [hV.root.1] at this; omega
    obtain ⟨j, hj, hp⟩ := (hV.ch ht h0).par
    obtain ⟨q1, q2⟩ := bs_found Nd.i l (fun i j hij hj => hV.asc i j hij hj) j (by omega)
    have q1' : bsV Nd.i l (gN l j).i = j := q1
    have q2' : bsF Nd.i l (gN l j).i = true := q2
    have h3 := index_spec l none (gN l j).i hl
    rw [q1', q2', hp] at h3
    have hW2 : U = (W ++ [(gN l t).p]) ++ upT l j := by
      rw [hW, show upT l t = upL l (gN l t).p from if_neg h0, ← hp, hV.upT (by omega), List.append_assoc]; rfl
    have hN := nd_td l j (by omega)
    generalize gN l t = y at *
    obtain ⟨yi, yp, yn, yc, yk, yo⟩ := y
    simp only at hne h3 hW2 hp
    have htk : zbf W.length (Ints W) = Ints W := zaV (by rw [Ints_length]; exact zaY _)
    have hpp : Ints W ++ [int yp] = Ints (W ++ [yp]) := by simp [Ints]
    have hla : (W ++ [yp]).length = W.length + 1 := by simp
    simp only [go_sem, zaa, zai, zaj, zak, zal, zae, ↓reduceIte, reduceCtorEq, zab, zac, zam, zan, zao, ndc, decide_eq_false hne, hN]
    repeat' (first
 | with_reducible refine zas ?_ ?_
 | (apply cl_plain
    case hs => rfl
    case ha => (simp only [zaf, zah, prepV, prepC, idx, hpL', lookR, zaa, if_true, if_false]; rfl)
    case h => (first | exact h3 ..))
 | ((first | refine s1_id ?_ | refine swp_id ?_ | refine sops_id ?_ | refine s2_id ?_); simp only [ndc, decide_eq_false hne, htk, hpp, hN, zaF, zaJ, zap, zaE, zaG, zaB, zaD, zaz, zaK, zaO, zaw, zay, go_sem, zaa, zai, zaj, zak, zal, zae, ↓reduceIte, reduceCtorEq, zab, zac, zam, zan, zao, zaS, zaR, zaA, zaP, renO, bk, back, outUpsFrom, Ints_ren])
 | (intros; omega)
 | (intros; (try simp only [zav, zax, zau, zat, zaq, zar, decide_eq_true_eq, decide_eq_false_iff_not] at *); omega))
    refine le_mk (j, W ++ [yp]) ?_ ⟨by omega, hW2⟩ hj
    simp only [hla]
    (refine imp_ren _ _ _ [(0, 0, ⟨[.gsl (Cs l) 0 l.length none, int n], 2⟩), (1, 1, ⟨ndc (gN l j), 6⟩), (2, 10, ⟨Ints (W ++ [yp]), 1⟩)] (by simp) (by simp) (by simp) (zaC rfl) ?_ rfl (by simp only [zad, zag, false_implies, implies_true, and_true, zaT, lookR, zaa, if_true, if_false, ↓reduceIte, ndc] <;> (repeat' apply zas) <;> (first | rfl | trivial)) (by simp only [zad, zag, false_implies, implies_true, and_true, true_and, flat_cons, flat_nil, flat_ints, flat_bools, flat_app, zaQ, and_self, eq_self_iff_true, zap, ndc]); simp only [zaf, zah, zad, zag, false_implies, implies_true, and_true, lk, slot, zaS, zaA, toN, zaa, if_true, if_false, ↓reduceIte, reduceCtorEq])
    all_goals ((repeat' apply zas) <;> (first | rfl | trivial | (simp only [ndc]; done) | (simp only [ndc]; rfl) | (simp only [ndc]; trivial)))
end Go.Proofs.Ytlajelbiniakpaa
-- NEWGO
-- PRUNE: cl_lendx cl_use
-- ISG: Cs_isG
-- FLAT: Cs_flat
namespace Go.Proofs.Ytlajelbiniakpaa
set_option linter.unusedVariables false
set_option linter.unusedSimpArgs false
open Go.Proofs.Ytlajelbiniakpaa.Sh
set_option maxRecDepth 20000
theorem agg_sl (e : Nat) : (TK.slice e).isAgg = false := rfl
theorem bel_kids (l : List Nd) (g : Int) : (mget (.int .i64 g) (gcN (belowM l)) = none ∧ kidsL l g = []) ∨ mget (.int .i64 g) (gcN (belowM l)) = some (.gsl (Ints (kidsL l g)) 0 (kidsL l g).length none) := by
  have := mget_gc g (belowM l)
  rw [belowM_kg] at this
  exact this
end Go.Proofs.Ytlajelbiniakpaa
-- NEWGO
-- PRUNE: cl_lendx cl_use
-- ISG: Cs_isG
-- FLAT: hfl
namespace Go.Proofs.Ytlajelbiniakpaa
set_option linter.unusedVariables false
set_option linter.unusedSimpArgs false
open Go.Proofs.Ytlajelbiniakpaa.Sh
set_option maxRecDepth 20000
set_option maxHeartbeats 16000000 in
theorem walk_spec (l : List Nd) (n : Int) (h : VT l n) : ∀ (f i : Nat), i < l.length → l.length - i ≤ f → FnSpec Try.prog 74 [.one (.mp 0 false), i1 (gN l i).i] [⟨gcN (belowM l), 0⟩] (gi (subF l f (gN l i).i) none) [some ⟨gcN (belowM l), 0⟩]
  | 0, i, hi, hf => absurd hf (by omega)
  | f + 1, i, hi, hf => by
    have ih : ∀ x ∈ kidsL l (gN l i).i, FnSpec Try.prog 74 [.one (.mp 0 false), i1 x] [⟨gcN (belowM l), 0⟩] (gi (subF l f x) none) [some ⟨gcN (belowM l), 0⟩] := fun x hx => by
      obtain ⟨j, hj, hp, rfl⟩ := kidsL_mem.1 hx
      exact walk_spec l n h f j hj (by have := h.kid hi hj hp; omega)
    have hlen := subF_len h (f + 1) i hi
    have hun : subF l (f + 1) (gN l i).i = (gN l i).i :: (kidsL l (gN l i).i).flatMap (subF l f) := rfl
    rw [hun] at hlen ⊢
    have hle := h.le
    have hmk := mkeys_gc (belowM l)
    have hk := bel_kids l (gN l i).i
    have hfl := gcN_flat (belowM l)
    have hren : ∀ ρ, (gcN (belowM l)).map (zaA ρ) = gcN (belowM l) := fun ρ => flat_ren (gcN_flat _) ρ
    have hfrz : ∀ r cs, (gcN (belowM l)).map (zbo r cs) = gcN (belowM l) := fun r cs => map_id_of (fun c hc => isG_frz (gcN_g _ c hc) r cs)
    have hkl := kidsL_len l (gN l i).i
    generalize (gN l i).i = id' at *
    generalize kidsL l id' = K at *
    generalize gcN (belowM l) = M at *
    have hun2 : ∀ m, m < K.length → (id' :: (K.take (m + 1)).flatMap (subF l f)) = (id' :: (K.take m).flatMap (subF l f)) ++ subF l f (K.getD m 0) := fun m hm => by
      rw [take_getD K m 0 hm, List.flatMap_append, List.flatMap_singleton]; rfl
    have hlm : ∀ m, (id' :: (K.take m).flatMap (subF l f)).length ≤ l.length := fun m => by
      refine Nat.le_trans ?_ hlen
      rw [zaw, zaw]
      have e : K = K.take m ++ K.drop m := (List.take_append_drop m K).symm
      rw [show (K.flatMap (subF l f)) = (K.take m).flatMap (subF l f) ++ (K.drop m).flatMap (subF l f) by rw [← List.flatMap_append, ← e], zba]
      omega
    clear hun hlen
    rcases hk with ⟨e1, hK⟩ | e1
    focus
      refine fnspec_of mixed TT_ok TT_cl ⟨fun _ => false, fun f => if f = 74 then [0] else [], 1, fun _ => false, fun _ => false⟩ Try.func74 rfl (by kernel_rfl) rfl 25 rfl [.tmp 4] rfl ?_
      simp only [go_sem, zaa, zai, zaj, zak, zal, zae, ↓reduceIte, reduceCtorEq, zab, zac, zam, zan, zao, e1, hmk, hren, agg_sl, mval_none]
      repeat' (first
 | (intros; (try simp only [zav, zax, zau, zat, zaq, zar, decide_eq_true_eq, decide_eq_false_iff_not] at *); omega))
      refine w_loop (ι := Nat) (fun m => ⟨[(0, .one (.mp 0 false)), (5, .one (.osl 1 0 (id' :: (K.take m).flatMap (subF l f)).length none)), (12, gi K none), (13, i1 K.length), (14, i1 m)], [(0, some ⟨M, 0⟩), (1, some ⟨Ints (id' :: (K.take m).flatMap (subF l f)), 1⟩)], 2⟩) (fun m => m ≤ K.length) (fun m => K.length - m) 0 ?_ (zaW _) ?_
      focus
        refine Imp.trans (t := ⟨[(0, .one (.mp 0 false)), (5, .one (.osl 1 0 1 (some 1))), (12, .one (.sc (.slice none 0 0))), (13, i1 (0 : Nat)), (14, i1 (0 : Nat))], [(0, some ⟨M, 0⟩), (1, some ⟨Ints [id'], 1⟩)], 2⟩) ?_ (imp_w _ _ _ ?_ rfl (zaY _))
        · skip
          (refine imp_ren _ _ _ [(0, 0, ⟨M, 0⟩), (1, 3, ⟨Ints [id'], 1⟩)] (by simp) (by simp) (by simp) (zaC rfl) ?_ rfl (by simp only [zad, zag, false_implies, implies_true, and_true, zaT, lookR, zaa, if_true, if_false, ↓reduceIte, hfl] <;> (repeat' apply zas) <;> (first | rfl | trivial)) (by simp only [zad, zag, false_implies, implies_true, and_true, true_and, flat_cons, flat_nil, flat_ints, flat_bools, flat_app, zaQ, and_self, eq_self_iff_true, zap, hfl]); simp only [zaf, zah, zad, zag, false_implies, implies_true, and_true, lk, slot, zaS, zaA, toN, zaa, if_true, if_false, ↓reduceIte, reduceCtorEq])
          all_goals ((repeat' apply zas) <;> (first | rfl | trivial))
        · rw [hK]
          intro x hx
          simp only [zbn, zag, or_false] at hx
          rcases hx with rfl | rfl | rfl | rfl | rfl <;> first | exact ⟨_, rfl, SVW.refl _⟩ | exact ⟨_, rfl, svw_of (cw_ocap _ _ _ _)⟩ | exact ⟨_, rfl, svw_of cw_gnil⟩
    rotate_left
    focus
      refine fnspec_of mixed TT_ok TT_cl ⟨fun _ => false, fun f => if f = 74 then [0] else [], 1, fun _ => false, fun _ => false⟩ Try.func74 rfl (by kernel_rfl) rfl 25 rfl [.tmp 4] rfl ?_
      simp only [go_sem, zaa, zai, zaj, zak, zal, zae, ↓reduceIte, reduceCtorEq, zab, zac, zam, zan, zao, e1, hmk, hren, agg_sl, mval_some]
      repeat' (first
 | (intros; (try simp only [zav, zax, zau, zat, zaq, zar, decide_eq_true_eq, decide_eq_false_iff_not] at *); omega))
      refine w_loop (ι := Nat) (fun m => ⟨[(0, .one (.mp 0 false)), (5, .one (.osl 1 0 (id' :: (K.take m).flatMap (subF l f)).length none)), (12, gi K none), (13, i1 K.length), (14, i1 m)], [(0, some ⟨M, 0⟩), (1, some ⟨Ints (id' :: (K.take m).flatMap (subF l f)), 1⟩)], 2⟩) (fun m => m ≤ K.length) (fun m => K.length - m) 0 ?_ (zaW _) ?_
      focus
        refine Imp.trans (t := ⟨[(0, .one (.mp 0 false)), (5, .one (.osl 1 0 1 (some 1))), (12, gi K none), (13, i1 K.length), (14, i1 (0 : Nat))], [(0, some ⟨M, 0⟩), (1, some ⟨Ints [id'], 1⟩)], 2⟩) ?_ (imp_w _ _ _ ?_ rfl (zaY _))
        · skip
          (refine imp_ren _ _ _ [(0, 0, ⟨M, 0⟩), (1, 3, ⟨Ints [id'], 1⟩)] (by simp) (by simp) (by simp) (zaC rfl) ?_ rfl (by simp only [zad, zag, false_implies, implies_true, and_true, zaT, lookR, zaa, if_true, if_false, ↓reduceIte, hfl] <;> (repeat' apply zas) <;> (first | rfl | trivial)) (by simp only [zad, zag, false_implies, implies_true, and_true, true_and, flat_cons, flat_nil, flat_ints, flat_bools, flat_app, zaQ, and_self, eq_self_iff_true, zap, hfl]); simp only [zaf, zah, zad, zag, false_implies, implies_true, and_true, lk, slot, zaS, zaA, toN, zaa, if_true, if_false, ↓reduceIte, reduceCtorEq])
          all_goals ((repeat' apply zas) <;> (first | rfl | trivial))
        · intro x hx
          simp only [zbn, zag, or_false] at hx
          rcases hx with rfl | rfl | rfl | rfl | rfl <;> first | exact ⟨_, rfl, SVW.refl _⟩ | exact ⟨_, rfl, svw_of (cw_ocap _ _ _ _)⟩
    rotate_left
    all_goals (
      intro m hm
      simp only at hm ⊢
      rcases zbe m K.length with hlt | hge
      case inr =>
        have c : ¬ (m : Int) < (K.length : Int) := by omega
        rw [zaV hge]
        simp only [go_sem, zaa, zai, zaj, zak, zal, zae, ↓reduceIte, reduceCtorEq, zab, zac, zam, zan, zao, decide_eq_false c]
        repeat' (first
 | (intros; (try simp only [zav, zax, zau, zat, zaq, zar, decide_eq_true_eq, decide_eq_false_iff_not] at *); omega))
        (refine fs_frz 1 ⟨Ints (id' :: K.flatMap (subF l f)), 1⟩ (by simp only [zaT, lookR, zaa, if_true, if_false, ↓reduceIte]) (by first | exact Ints_isG _ | exact Bools_isG _ | exact Cs_isG _ | (simp [zbm]; done)) ?_; simp only [frzTm, SV.frz, SV.frzL, zbo, frzHp, frzO, Ints_frz, Bools_frz, zaf, zah, zaa, if_true, if_false, ↓reduceIte])
        (refine fs_flat [(0, ⟨M, 0⟩)] (by simp) (by simp only [zaf, zah]; decide) (by simp only [go_sem, resV, resS, zaS, zaR, zaA, zaX, zaT, idx, renO, zaP, evS, slot, lookR, zaa, ↓reduceIte, reduceCtorEq, if_true, if_false, zaM, zaN, zaf, zah, sLoad, readAt, readNeed, Ints_ren, Ints_length, Ints_getD, and_true, true_and, zaH, zaI]; try decide) ?_ (by simp only [zad, zag, false_implies, implies_true, and_true, zaT, lookR, zaa, if_true, if_false, ↓reduceIte, hfl, hfrz] <;> (repeat' apply zas) <;> (first | rfl | trivial)) (by simp only [zad, zag, false_implies, implies_true, and_true, true_and, flat_cons, flat_nil, flat_ints, flat_bools, flat_app, zaQ, and_self, eq_self_iff_true, zap, hfl, hfrz]) ?_ <;> (try simp only [go_sem, resV, resS, zaS, zaR, zaA, zaX, zaT, idx, renO, zaP, evS, slot, lookR, zaa, ↓reduceIte, reduceCtorEq, if_true, if_false, zaM, zaN, zaf, zah, sLoad, readAt, readNeed, Ints_ren, Ints_length, Ints_getD, and_true, true_and, zaH, zaI]) <;> (try rfl))
      have c : (m : Int) < (K.length : Int) := by omega
      have h3 := ih _ (getD_mem K m 0 hlt)
      have h4 := hun2 m hlt
      have h4l : (List.flatMap (subF l f) (zbf (m + 1) K)).length + 1 = (id' :: (K.take m).flatMap (subF l f)).length + (subF l f (K.getD m 0)).length := by rw [← zba, ← h4, zaw]
      have h5 := hlm m
      have h6 := hlm (m + 1)
      rw [h4] at h6
      generalize (id' :: (K.take m).flatMap (subF l f)) = A at *
      generalize subF l f (K.getD m 0) = B at *
      have htk : zbf A.length (Ints A) = Ints A := zaV (by rw [Ints_length]; exact zaY _)
      have htb : zbf B.length (Ints B) = Ints B := zaV (by rw [Ints_length]; exact zaY _)
      have hpp : Ints A ++ Ints B = Ints (A ++ B) := by simp [Ints]
      rw [zba] at h6
      have hla : (A ++ B).length = A.length + B.length := zba
      clear ih hun2 hlm
      simp only [go_sem, zaa, zai, zaj, zak, zal, zae, ↓reduceIte, reduceCtorEq, zab, zac, zam, zan, zao, decide_eq_true c]
      repeat' (first
 | with_reducible refine zas ?_ ?_
 | (apply cl_lend
    case hr => (simp only [zaf, zah, hpL', lookR, zaa, if_true, if_false]; first | exact map1 _ | exact map2 _ _ | exact map3 _ _ _)
    case ha => (simp only [zaf, zah, prepV, prepC, idx, hpL', lookR, zaa, if_true, if_false]; rfl)
    case hs => rfl
    case hn => decide
    case h => (first | exact h3 ..)
    case hf => (simp only [zad, zag, false_implies, implies_true, and_true, true_and, flat_cons, flat_nil, flat_ints, flat_bools, flat_app, hfl, zaQ, and_self, eq_self_iff_true, zap])
    case hl => (simp only [zaw, zay]; decide))
 | ((first | refine s1_id ?_ | refine swp_id ?_ | refine sops_id ?_ | refine s2_id ?_); simp only [decide_eq_true c, hren, htk, htb, hpp, hfl, zaF, zaJ, zap, zaE, zaG, zaB, zaD, zaz, zaK, zaO, zaw, zay, go_sem, zaa, zai, zaj, zak, zal, zae, ↓reduceIte, reduceCtorEq, zab, zac, zam, zan, zao, zaS, zaR, zaA, zaP, renO, bk, back, outUpsFrom, Ints_ren])
 | (intros; omega)
 | (intros; (try simp only [zav, zax, zau, zat, zaq, zar, decide_eq_true_eq, decide_eq_false_iff_not] at *); omega))
      refine le_mk (m + 1) ?_ hlt (by show K.length - (m + 1) < K.length - m; omega)
      simp only [h4, h4l, hla]
      (refine imp_ren _ _ _ [(0, 0, ⟨M, 0⟩), (1, 10, ⟨Ints (A ++ B), 1⟩)] (by simp) (by simp) (by simp) (zaC rfl) ?_ rfl (by simp only [zad, zag, false_implies, implies_true, and_true, zaT, lookR, zaa, if_true, if_false, ↓reduceIte, hfl] <;> (repeat' apply zas) <;> (first | rfl | trivial)) (by simp only [zad, zag, false_implies, implies_true, and_true, true_and, flat_cons, flat_nil, flat_ints, flat_bools, flat_app, zaQ, and_self, eq_self_iff_true, zap, hfl]); simp only [zaf, zah, zad, zag, false_implies, implies_true, and_true, lk, slot, zaS, zaA, toN, zaa, if_true, if_false, ↓reduceIte, reduceCtorEq])
      all_goals ((repeat' apply zas) <;> (first | rfl | trivial | (simp only [zaL]; done) | (simp only [zaL]; rfl) | (simp only [zaL]; trivial))))
end Go.Proofs.Ytlajelbiniakpaa
-- NEWGO
-- PRUNE: cl_lendx cl_use
-- ISG: Cs_isG
-- FLAT: hfl
namespace Go.Proofs.Ytlajelbiniakpaa
set_option linter.unusedVariables false
set_option linter.unusedSimpArgs false
open Go.Proofs.Ytlajelbiniakpaa.Sh
set_option maxRecDepth 20000
def subM (l : List Nd) (n g : Int) : List Int := if hasM l n g = true then subF l l.length g else []
theorem subM_len (l : List Nd) (n g : Int) : (subM l n g).length ≤ l.length := by
  unfold subM
  split
  · rename_i h
    obtain ⟨hk, y, hy, rfl⟩ := hasM_iff.1 h
    obtain ⟨i, hi, rfl⟩ := gN_mem l y hy
    exact subF_len ((chkT_iff l n).1 hk) _ i hi
  · exact zaW _
set_option maxHeartbeats 8000000 in
theorem tsub_spec (l : List Nd) (n g : Int) (hl : l.length ≤ 1000000) (hnm : NmR l) (hct : CtR l) : FnSpec Try.prog 61 [trV l none n, i1 g] [] (gi (subM l n g) none) [] := by
  have hfl := gcN_flat (belowM l)
  have h1 := tfind_spec l n g hl hnm hct
  rw [fdM_2] at h1
  generalize (fdM l n g).1 = nd at *
  obtain ⟨xi, xp, xn, xc, xk, xo⟩ := nd
  simp only [ndc] at h1
  unfold subM
  cases hh : hasM l n g with
  | false =>
    rw [hh] at h1
    rw [if_neg (by decide)]
    refine fnspec_of mixed TT_ok TT_cl ⟨fun _ => false, fun _ => [], 0, fun _ => false, fun _ => false⟩ Try.func61 rfl (by kernel_rfl) rfl 19 rfl [.tmp 4] rfl ?_
    simp only [go_sem, zaa, zai, zaj, zak, zal, zae, ↓reduceIte, reduceCtorEq, zab, zac, zam, zan, zao]
    repeat' (first
 | (apply cl_plain
    case hs => rfl
    case ha => (simp only [zaf, zah, prepV, prepC, idx, hpL', lookR, zaa, if_true, if_false]; rfl)
    case h => (first | exact h1 ..))
 | ((first | refine s1_id ?_ | refine swp_id ?_ | refine sops_id ?_ | refine s2_id ?_); simp only [zaF, zaJ, zap, zaE, zaG, zaB, zaD, zaz, zaK, zaO, zaw, zay, go_sem, zaa, zai, zaj, zak, zal, zae, ↓reduceIte, reduceCtorEq, zab, zac, zam, zan, zao, zaS, zaR, zaA, zaP, renO, bk, back, outUpsFrom, Ints_ren])
 | (intros; (try simp only [zav, zax, zau, zat, zaq, zar, decide_eq_true_eq, decide_eq_false_iff_not] at *); omega))
    repeat' (first
 | exact fs_w trivial (svw_of cw_gnil)
 | fail)
  | true =>
  rw [hh] at h1
  rw [if_pos rfl]
  have hV := (chkT_iff l n).1 (hasM_iff.1 hh).1
  have h2 := below_spec l n hV.le
  obtain ⟨_, y, hy, rfl⟩ := hasM_iff.1 hh
  obtain ⟨i, hi, rfl⟩ := gN_mem l y hy
  have h3 := walk_spec l n hV l.length i hi (by omega)
  have hren : ∀ ρ, (gcN (belowM l)).map (zaA ρ) = gcN (belowM l) := fun ρ => flat_ren (gcN_flat _) ρ
  generalize subF l l.length (gN l i).i = S at *
  generalize (gN l i).i = g at *
  generalize gcN (belowM l) = M at *
  refine fnspec_of mixed TT_ok TT_cl ⟨fun _ => false, fun f => if f = 74 then [0] else [], 0, fun _ => false, fun _ => false⟩ Try.func61 rfl (by kernel_rfl) rfl 19 rfl [.tmp 4] rfl ?_
  simp only [go_sem, zaa, zai, zaj, zak, zal, zae, ↓reduceIte, reduceCtorEq, zab, zac, zam, zan, zao, hren]
  repeat' (first
 | (apply cl_plain
    case hs => rfl
    case ha => (simp only [zaf, zah, prepV, prepC, idx, hpL', lookR, zaa, if_true, if_false]; rfl)
    case h => (first | exact h1 .. | exact h2 .. | exact h3 ..))
 | (apply cl_lend
    case hr => (simp only [zaf, zah, hpL', lookR, zaa, if_true, if_false]; first | exact map1 _ | exact map2 _ _ | exact map3 _ _ _)
    case ha => (simp only [zaf, zah, prepV, prepC, idx, hpL', lookR, zaa, if_true, if_false]; rfl)
    case hs => rfl
    case hn => decide
    case h => (first | exact h1 .. | exact h2 .. | exact h3 ..)
    case hf => (simp only [zad, zag, false_implies, implies_true, and_true, true_and, flat_cons, flat_nil, flat_ints, flat_bools, flat_app, hfl, zaQ, and_self, eq_self_iff_true, zap])
    case hl => (simp only [zaw, zay]; decide))
 | ((first | refine s1_id ?_ | refine swp_id ?_ | refine sops_id ?_ | refine s2_id ?_); simp only [hren, hfl, zaF, zaJ, zap, zaE, zaG, zaB, zaD, zaz, zaK, zaO, zaw, zay, go_sem, zaa, zai, zaj, zak, zal, zae, ↓reduceIte, reduceCtorEq, zab, zac, zam, zan, zao, zaS, zaR, zaA, zaP, renO, bk, back, outUpsFrom, Ints_ren])
 | exact fs_nil trivial rfl
 | fail)
end Go.Proofs.Ytlajelbiniakpaa
-- NEWGO
-- PRUNE: cl_lendx cl_use
-- ISG: Cs_isG
-- FLAT: Cs_flat
namespace Go.Proofs.Ytlajelbiniakpaa
set_option linter.unusedVariables false
set_option linter.unusedSimpArgs false
open Go.Proofs.Ytlajelbiniakpaa.Sh
set_option maxRecDepth 20000
end Go.Proofs.Ytlajelbiniakpaa
-- NEWGO
-- PRUNE: cl_lendx cl_use
-- ISG: Cs_isG
-- FLAT: Cs_flat
namespace Go.Proofs.Ytlajelbiniakpaa
set_option linter.unusedVariables false
set_option linter.unusedSimpArgs false
open Go.Proofs.Ytlajelbiniakpaa.Sh
set_option maxRecDepth 20000
structure Cd where
  p : Int
  g : Int
  n : Int
  a : Int
abbrev cdc (x : Cd) : List Cell := [int x.p, int x.g, int x.n, int x.a]
abbrev cdt (x : Cd) : SV := .agg (cdc x)
abbrev zcd : Cd := ⟨0, 0, 0, 0⟩
instance : Rec Cd := ⟨cdc, 4, zcd, fun _ => rfl, fun x c h => by
  simp only [cdc, zbn, zag, or_false] at h
  rcases h with rfl | rfl | rfl | rfl <;> rfl⟩
abbrev gD (l : List Cd) (i : Nat) : Cd := l.getD i zcd
theorem cd_td (l : List Cd) (i : Nat) (h : i < l.length) : zbf 4 (List.drop (i * 4) (Cs l)) = cdc (gD l i) := Cs_td l i h
theorem cd_len (l : List Cd) : (Cs l).length = l.length * 4 := Cs_len l
theorem cd_f (l : List Cd) (i o : Nat) (d : Cell) (h : i < l.length) (ho : o < 4) : (Cs l).getD (i * 4 + o) d = (cdc (gD l i)).getD o d := Cs_fld l i o d h ho
def pgk (n : Int) : Bool := decide (0 ≤ n) && decide (n ≤ 16777216)
def cdk (x : Cd) : Bool := pgk x.n && (decide (-1000 ≤ x.a) && decide (x.a ≤ 1000))
theorem pages_spec (n : Int) : FnSpec Try.prog 39 [i1 n] [] (b1 (pgk n)) [] := by
  refine fnspec_of mixed TT_ok TT_cl ⟨fun _ => false, fun _ => [], 0, fun _ => false, fun _ => false⟩ Try.func39 rfl (by kernel_rfl) rfl 9 rfl [.tmp 2] rfl ?_
  simp only [go_sem, zaa, zai, zaj, zak, zal, zae, ↓reduceIte, reduceCtorEq, zab, zac, zam, zan, zao]
  repeat' (first
 | exact fs_nil trivial rfl
 | fail)
theorem iscand_spec (x : Cd) : FnSpec Try.prog 38 [cdt x] [] (b1 (cdk x)) [] := by
  have h1 := pages_spec x.n
  unfold cdk
  obtain ⟨p, g, n, a⟩ := x
  simp only [cdc] at h1 ⊢
  refine fnspec_of mixed TT_ok TT_cl ⟨fun _ => false, fun _ => [], 0, fun _ => false, fun _ => false⟩ Try.func38 rfl (by kernel_rfl) rfl 16 rfl [.tmp 2] rfl ?_
  simp only [go_sem, zaa, zai, zaj, zak, zal, zae, ↓reduceIte, reduceCtorEq, zab, zac, zam, zan, zao]
  repeat' (first
 | (apply cl_plain
    case hs => rfl
    case ha => (simp only [zaf, zah, prepV, prepC, idx, hpL', lookR, zaa, if_true, if_false]; rfl)
    case h => (first | exact h1 ..))
 | ((first | refine s1_id ?_ | refine swp_id ?_ | refine sops_id ?_ | refine s2_id ?_); simp only [Bool.and_assoc, zaF, zaJ, zap, zaE, zaG, zaB, zaD, zaz, zaK, zaO, zaw, zay, go_sem, zaa, zai, zaj, zak, zal, zae, ↓reduceIte, reduceCtorEq, zab, zac, zam, zan, zao, zaS, zaR, zaA, zaP, renO, bk, back, outUpsFrom, Ints_ren])
 | exact fs_nil trivial rfl
 | fail)
def scr (x : Cd) (t : Int) : Int := x.n + ((x.a * t).tdiv 1000 - if (x.a * t).tmod 1000 < 0 then 1 else 0)
theorem cdk_iff {x : Cd} : cdk x = true ↔ (0 ≤ x.n ∧ x.n ≤ 16777216) ∧ -1000 ≤ x.a ∧ x.a ≤ 1000 := by
  unfold cdk pgk
  simp only [zav, decide_eq_true_eq]
theorem pgk_iff {n : Int} : pgk n = true ↔ 0 ≤ n ∧ n ≤ 16777216 := by
  unfold pgk
  simp only [zav, decide_eq_true_eq]
theorem mul_rng {a t : Int} (h1 : -1000 ≤ a ∧ a ≤ 1000) (h2 : 0 ≤ t ∧ t ≤ 16777216) : -16777216000 ≤ a * t ∧ a * t ≤ 16777216000 := by
  have u1 : a * t ≤ 1000 * t := Int.mul_le_mul_of_nonneg_right h1.2 h2.1
  have u2 : -1000 * t ≤ a * t := Int.mul_le_mul_of_nonneg_right h1.1 h2.1
  omega
theorem tm_rng (m : Int) : -1000 < m.tmod 1000 ∧ m.tmod 1000 < 1000 := by
  rcases Int.le_total 0 m with h | h
  · have := Int.tmod_nonneg 1000 h
    have := zbd m (show (0 : Int) < 1000 by decide)
    omega
  · have a1 := Int.tmod_nonneg 1000 (show 0 ≤ -m by omega)
    have a2 := zbd (-m) (show (0 : Int) < 1000 by decide)
    rw [Int.neg_tmod] at a1 a2
    omega
theorem scr_eq (x : Cd) (t : Int) : scr x t = x.n + (x.a * t) / 1000 := by
  unfold scr
  generalize x.a * t = m
  have h1 : m.tmod 1000 = m - 1000 * m.tdiv 1000 := Int.tmod_def m 1000
  have h2 : -1000 < m.tmod 1000 ∧ m.tmod 1000 < 1000 := by
    rcases Int.le_total 0 m with h | h
    · have := Int.tmod_nonneg 1000 h
      have := zbd m (show (0 : Int) < 1000 by decide)
      omega
    · have a1 := Int.tmod_nonneg 1000 (show 0 ≤ -m by omega)
      have a2 := zbd (-m) (show (0 : Int) < 1000 by decide)
      rw [Int.neg_tmod] at a1 a2
      omega
  split <;> omega
set_option maxHeartbeats 4000000 in
theorem score_spec (x : Cd) (t : Int) (hx : cdk x = true) (ht : pgk t = true) : FnSpec Try.prog 40 [cdt x, i1 t] [] (i1 (scr x t)) [] := by
  obtain ⟨h1, h2⟩ := cdk_iff.1 hx
  have h3 := pgk_iff.1 ht
  have hm := mul_rng h2 h3
  unfold scr
  clear hx ht
  obtain ⟨p, g, n, a⟩ := x
  simp only [cdc] at h1 h2 hm ⊢
  have hd : -16777216000 ≤ (a * t).tdiv 1000 ∧ (a * t).tdiv 1000 ≤ 16777216000 := by
    have h1 : (a * t).tmod 1000 = a * t - 1000 * (a * t).tdiv 1000 := Int.tmod_def _ 1000
    have h2 : -1000 < (a * t).tmod 1000 ∧ (a * t).tmod 1000 < 1000 := tm_rng _
    omega
  by_cases c : (a * t).tmod 1000 < 0
  · rw [if_pos c]
    refine fnspec_of mixed TT_ok TT_cl ⟨fun _ => false, fun _ => [], 0, fun _ => false, fun _ => false⟩ Try.func40 rfl (by kernel_rfl) rfl 22 rfl [.tmp 4] rfl ?_
    simp only [go_sem, zaa, zai, zaj, zak, zal, zae, ↓reduceIte, reduceCtorEq, zab, zac, zam, zan, zao, decide_eq_true c]
    repeat' (first
 | with_reducible refine zas ?_ ?_
 | (intros; omega)
 | exact fs_nil trivial rfl
 | fail)
  · rw [if_neg c, Int.sub_zero]
    refine fnspec_of mixed TT_ok TT_cl ⟨fun _ => false, fun _ => [], 0, fun _ => false, fun _ => false⟩ Try.func40 rfl (by kernel_rfl) rfl 22 rfl [.tmp 4] rfl ?_
    simp only [go_sem, zaa, zai, zaj, zak, zal, zae, ↓reduceIte, reduceCtorEq, zab, zac, zam, zan, zao, decide_eq_false c]
    repeat' (first
 | with_reducible refine zas ?_ ?_
 | (intros; omega)
 | exact fs_nil trivial rfl
 | fail)
def scM (x : Cd) (t : Int) : Int × Int := if cdk x = true then (if pgk t = true then (scr x t, 0) else (0, 3)) else (0, 1)
theorem kscore_spec (x : Cd) (t : Int) : FnSpec Try.prog 20 [cdt x, i1 t] [] (.tup [i1 (scM x t).1, i1 (scM x t).2]) [] := by
  have h1 := iscand_spec x
  have h2 := pages_spec t
  unfold scM
  cases hx : cdk x with
  | false =>
    rw [hx] at h1
    rw [if_neg (by decide)]
    obtain ⟨p, g, n, a⟩ := x
    simp only [cdc] at h1 ⊢
    refine fnspec_of mixed TT_ok TT_cl ⟨fun _ => false, fun _ => [], 0, fun _ => false, fun _ => false⟩ Try.func20 rfl (by kernel_rfl) rfl 15 rfl [.tmp 4, .tmp 5] rfl ?_
    simp only [go_sem, zaa, zai, zaj, zak, zal, zae, ↓reduceIte, reduceCtorEq, zab, zac, zam, zan, zao]
    repeat' (first
 | (apply cl_plain
    case hs => rfl
    case ha => (simp only [zaf, zah, prepV, prepC, idx, hpL', lookR, zaa, if_true, if_false]; rfl)
    case h => (first | exact h1 ..))
 | ((first | refine s1_id ?_ | refine swp_id ?_ | refine sops_id ?_ | refine s2_id ?_); simp only [zaF, zaJ, zap, zaE, zaG, zaB, zaD, zaz, zaK, zaO, zaw, zay, go_sem, zaa, zai, zaj, zak, zal, zae, ↓reduceIte, reduceCtorEq, zab, zac, zam, zan, zao, zaS, zaR, zaA, zaP, renO, bk, back, outUpsFrom, Ints_ren])
 | exact fs_nil trivial rfl
 | fail)
  | true =>
  rw [hx] at h1
  rw [if_pos rfl]
  cases ht : pgk t with
  | false =>
    rw [ht] at h2
    rw [if_neg (by decide)]
    clear hx
    obtain ⟨p, g, n, a⟩ := x
    simp only [cdc] at h1 ⊢
    refine fnspec_of mixed TT_ok TT_cl ⟨fun _ => false, fun _ => [], 0, fun _ => false, fun _ => false⟩ Try.func20 rfl (by kernel_rfl) rfl 15 rfl [.tmp 4, .tmp 5] rfl ?_
    simp only [go_sem, zaa, zai, zaj, zak, zal, zae, ↓reduceIte, reduceCtorEq, zab, zac, zam, zan, zao]
    repeat' (first
 | (apply cl_plain
    case hs => rfl
    case ha => (simp only [zaf, zah, prepV, prepC, idx, hpL', lookR, zaa, if_true, if_false]; rfl)
    case h => (first | exact h1 .. | exact h2 ..))
 | ((first | refine s1_id ?_ | refine swp_id ?_ | refine sops_id ?_ | refine s2_id ?_); simp only [zaF, zaJ, zap, zaE, zaG, zaB, zaD, zaz, zaK, zaO, zaw, zay, go_sem, zaa, zai, zaj, zak, zal, zae, ↓reduceIte, reduceCtorEq, zab, zac, zam, zan, zao, zaS, zaR, zaA, zaP, renO, bk, back, outUpsFrom, Ints_ren])
 | exact fs_nil trivial rfl
 | fail)
  | true =>
  rw [ht] at h2
  rw [if_pos rfl]
  have h3 := score_spec x t hx ht
  clear hx
  generalize scr x t = v at *
  obtain ⟨p, g, n, a⟩ := x
  simp only [cdc] at h1 h3 ⊢
  refine fnspec_of mixed TT_ok TT_cl ⟨fun _ => false, fun _ => [], 0, fun _ => false, fun _ => false⟩ Try.func20 rfl (by kernel_rfl) rfl 15 rfl [.tmp 4, .tmp 5] rfl ?_
  simp only [go_sem, zaa, zai, zaj, zak, zal, zae, ↓reduceIte, reduceCtorEq, zab, zac, zam, zan, zao]
  repeat' (first
 | (apply cl_plain
    case hs => rfl
    case ha => (simp only [zaf, zah, prepV, prepC, idx, hpL', lookR, zaa, if_true, if_false]; rfl)
    case h => (first | exact h1 .. | exact h2 .. | exact h3 ..))
 | ((first | refine s1_id ?_ | refine swp_id ?_ | refine sops_id ?_ | refine s2_id ?_); simp only [zaF, zaJ, zap, zaE, zaG, zaB, zaD, zaz, zaK, zaO, zaw, zay, go_sem, zaa, zai, zaj, zak, zal, zae, ↓reduceIte, reduceCtorEq, zab, zac, zam, zan, zao, zaS, zaR, zaA, zaP, renO, bk, back, outUpsFrom, Ints_ren])
 | exact fs_nil trivial rfl
 | fail)
theorem kix_spec (x : Nd) (id : Int) : FnSpec Try.prog 71 [.agg (Rec.cs x), i1 id] [] (i1 (cmpv (Nd.i x) id)) [] := by
  show FnSpec Try.prog 71 [.agg (ndc x), i1 id] [] (i1 (cmpv (Nd.i x) id)) []
  obtain ⟨xi, xp, xn, xc, xk, xo⟩ := x
  simp only [ndc]
  have h1 := cmp_spec xi id
  refine fnspec_of mixed TT_ok TT_cl ⟨fun _ => false, fun _ => [], 0, fun _ => false, fun _ => false⟩ Try.func71 rfl (by kernel_rfl) rfl 9 rfl [.tmp 4] rfl ?_
  simp only [go_sem, zaa, zai, zaj, zak, zal, zae, ↓reduceIte, reduceCtorEq, zab, zac, zam, zan, zao]
  repeat' (first
 | (apply cl_plain
    case hs => rfl
    case ha => (simp only [zaf, zah, prepV, prepC, idx, hpL', lookR, zaa, if_true, if_false]; rfl)
    case h => (first | exact h1 ..))
 | ((first | refine s1_id ?_ | refine swp_id ?_ | refine sops_id ?_ | refine s2_id ?_); simp only [zaF, zaJ, zap, zaE, zaG, zaB, zaD, zaz, zaK, zaO, zaw, zay, go_sem, zaa, zai, zaj, zak, zal, zae, ↓reduceIte, reduceCtorEq, zab, zac, zam, zan, zao, zaS, zaR, zaA, zaP, renO, bk, back, outUpsFrom, Ints_ren])
 | exact fs_nil trivial rfl
 | fail)
theorem known_spec (l : List Nd) (n id : Int) (hl : l.length ≤ 1000000) : FnSpec Try.prog 53 [trV l none n, i1 id] [] (b1 (bsF Nd.i l id)) [] := by
  have h1 := nd_bs 71 l id (fun x _ => kix_spec x id) none (by omega)
  refine fnspec_of mixed TT_ok TT_cl ⟨fun _ => false, fun _ => [], 0, fun _ => false, fun _ => false⟩ Try.func53 rfl (by kernel_rfl) rfl 15 rfl [.tmp 4] rfl ?_
  simp only [go_sem, zaa, zai, zaj, zak, zal, zae, ↓reduceIte, reduceCtorEq, zab, zac, zam, zan, zao]
  repeat' (first
 | (apply cl_plain
    case hs => rfl
    case ha => (simp only [zaf, zah, prepV, prepC, idx, hpL', lookR, zaa, if_true, if_false]; rfl)
    case h => (first | exact h1 ..))
 | ((first | refine s1_id ?_ | refine swp_id ?_ | refine sops_id ?_ | refine s2_id ?_); simp only [zaF, zaJ, zap, zaE, zaG, zaB, zaD, zaz, zaK, zaO, zaw, zay, go_sem, zaa, zai, zaj, zak, zal, zae, ↓reduceIte, reduceCtorEq, zab, zac, zam, zan, zao, zaS, zaR, zaA, zaP, renO, bk, back, outUpsFrom, Ints_ren])
 | exact fs_nil trivial rfl
 | fail)
def vaF (l : List Nd) : List Cd → Int → Bool
  | [], _ => true
  | x :: r, last => decide (last < x.p) && (bsF Nd.i l x.g && (cdk x && vaF l r x.p))
def vaM (l : List Nd) (n : Int) (C : List Cd) : Bool := chkT l n && (decide (C.length ≤ 128) && vaF l C 0)
set_option maxHeartbeats 8000000 in
theorem kvalid_spec (l : List Nd) (n : Int) (C : List Cd) (k : Option Nat) (hl : l.length ≤ 1000000) (hC : C.length ≤ 9223372036854775806) (hnm : NmR l) (hct : CtR l) : FnSpec Try.prog 32 [trV l none n, gr C k] [] (b1 (vaM l n C)) [] := by
  have h1 := tchk_spec l n hl hnm hct
  have hcl := cd_len C
  unfold vaM
  cases hc : chkT l n with
  | false =>
    rw [hc] at h1
    rw [zbh]
    refine fnspec_of mixed TT_ok TT_cl ⟨fun _ => false, fun _ => [], 0, fun _ => false, fun _ => false⟩ Try.func32 rfl (by kernel_rfl) rfl 41 rfl [.tmp 4] rfl ?_
    simp only [go_sem, zaa, zai, zaj, zak, zal, zae, ↓reduceIte, reduceCtorEq, zab, zac, zam, zan, zao]
    repeat' (first
 | (apply cl_plain
    case hs => rfl
    case ha => (simp only [zaf, zah, prepV, prepC, idx, hpL', lookR, zaa, if_true, if_false]; rfl)
    case h => (first | exact h1 ..))
 | ((first | refine s1_id ?_ | refine swp_id ?_ | refine sops_id ?_ | refine s2_id ?_); simp only [zaF, zaJ, zap, zaE, zaG, zaB, zaD, zaz, zaK, zaO, zaw, zay, go_sem, zaa, zai, zaj, zak, zal, zae, ↓reduceIte, reduceCtorEq, zab, zac, zam, zan, zao, zaS, zaR, zaA, zaP, renO, bk, back, outUpsFrom, Ints_ren])
 | exact fs_nil trivial rfl
 | fail)
  | true =>
  rw [hc] at h1
  rw [zbg]
  by_cases c128 : 128 < (C.length : Int)
  · rw [decide_eq_false (by omega : ¬ C.length ≤ 128), zbh]
    refine fnspec_of mixed TT_ok TT_cl ⟨fun _ => false, fun _ => [], 0, fun _ => false, fun _ => false⟩ Try.func32 rfl (by kernel_rfl) rfl 41 rfl [.tmp 4] rfl ?_
    simp only [go_sem, zaa, zai, zaj, zak, zal, zae, ↓reduceIte, reduceCtorEq, zab, zac, zam, zan, zao, decide_eq_true c128]
    repeat' (first
 | (apply cl_plain
    case hs => rfl
    case ha => (simp only [zaf, zah, prepV, prepC, idx, hpL', lookR, zaa, if_true, if_false]; rfl)
    case h => (first | exact h1 ..))
 | ((first | refine s1_id ?_ | refine swp_id ?_ | refine sops_id ?_ | refine s2_id ?_); simp only [decide_eq_true c128, zaF, zaJ, zap, zaE, zaG, zaB, zaD, zaz, zaK, zaO, zaw, zay, go_sem, zaa, zai, zaj, zak, zal, zae, ↓reduceIte, reduceCtorEq, zab, zac, zam, zan, zao, zaS, zaR, zaA, zaP, renO, bk, back, outUpsFrom, Ints_ren])
 | exact fs_nil trivial rfl
 | fail)
  rw [decide_eq_true (by omega : C.length ≤ 128), zbg]
  obtain ⟨B, hB⟩ : ∃ B, vaF l C 0 = B := ⟨_, rfl⟩
  rw [hB]
  refine fnspec_of mixed TT_ok TT_cl ⟨fun _ => false, fun _ => [], 0, fun _ => false, fun _ => false⟩ Try.func32 rfl (by kernel_rfl) rfl 41 rfl [.tmp 4] rfl ?_
  simp only [go_sem, zaa, zai, zaj, zak, zal, zae, ↓reduceIte, reduceCtorEq, zab, zac, zam, zan, zao, decide_eq_false c128]
  repeat' (first
 | (apply cl_plain
    case hs => rfl
    case ha => (simp only [zaf, zah, prepV, prepC, idx, hpL', lookR, zaa, if_true, if_false]; rfl)
    case h => (first | exact h1 ..))
 | ((first | refine s1_id ?_ | refine swp_id ?_ | refine sops_id ?_ | refine s2_id ?_); simp only [decide_eq_false c128, zaF, zaJ, zap, zaE, zaG, zaB, zaD, zaz, zaK, zaO, zaw, zay, go_sem, zaa, zai, zaj, zak, zal, zae, ↓reduceIte, reduceCtorEq, zab, zac, zam, zan, zao, zaS, zaR, zaA, zaP, renO, bk, back, outUpsFrom, Ints_ren])
 | (intros; (try simp only [zav, zax, zau, zat, zaq, zar, decide_eq_true_eq, decide_eq_false_iff_not] at *); omega))
  refine w_loop (ι := Nat × Int) (fun s => ⟨[(2, .one (.optr 0 0)), (5, i1 s.2), (16, gr C k), (17, i1 C.length), (18, i1 s.1)], [(0, some ⟨[.gsl (Cs l) 0 l.length none, int n], 2⟩)], 1⟩) (fun s => s.1 ≤ C.length ∧ vaF l (C.drop s.1) s.2 = B) (fun s => C.length - s.1) (0, 0) ?_ ⟨zaW _, hB⟩ ?_
  · (refine imp_ren _ _ _ [(0, 0, ⟨[.gsl (Cs l) 0 l.length none, int n], 2⟩)] (by simp) (by simp) (by simp) (zaC rfl) ?_ rfl (by simp only [zad, zag, false_implies, implies_true, and_true, zaT, lookR, zaa, if_true, if_false, ↓reduceIte] <;> (repeat' apply zas) <;> (first | rfl | trivial)) (by simp only [zad, zag, false_implies, implies_true, and_true, true_and, flat_cons, flat_nil, flat_ints, flat_bools, flat_app, zaQ, and_self, eq_self_iff_true, zap]); simp only [zaf, zah, zad, zag, false_implies, implies_true, and_true, lk, slot, zaS, zaA, toN, zaa, if_true, if_false, ↓reduceIte, reduceCtorEq])
    all_goals ((repeat' apply zas) <;> (first | rfl | trivial))
  rintro ⟨m, last⟩ ⟨hm, hI⟩
  simp only at hm hI ⊢
  rcases zbe m C.length with hlt | hge
  case inr =>
    have c : ¬ (m : Int) < (C.length : Int) := by omega
    rw [zbc hge, vaF] at hI
    rw [← hI]
    simp only [go_sem, zaa, zai, zaj, zak, zal, zae, ↓reduceIte, reduceCtorEq, zab, zac, zam, zan, zao, decide_eq_false c]
    repeat' (first
 | exact fs_nil trivial rfl
 | fail)
  have c : (m : Int) < (C.length : Int) := by omega
  have hat := cd_td C m hlt
  rw [drop_getD C m zcd hlt, vaF] at hI
  have k1 := known_spec l n (gD C m).g hl
  have k2 := iscand_spec (gD C m)
  have hI : (decide (last < (gD C m).p) && (bsF Nd.i l (gD C m).g && (cdk (gD C m) && vaF l (C.drop (m + 1)) (gD C m).p))) = B := hI
  generalize cdk (gD C m) = ck at *
  generalize bsF Nd.i l (gD C m).g = bk at *
  generalize gD C m = x at *
  obtain ⟨p, g, n', a⟩ := x
  simp only [cdc] at hat k1 k2 hI
  by_cases c1 : p ≤ last
  · rw [decide_eq_false (by omega : ¬ last < p), zbh] at hI
    rw [← hI]
    simp only [go_sem, zaa, zai, zaj, zak, zal, zae, ↓reduceIte, reduceCtorEq, zab, zac, zam, zan, zao, decide_eq_true c, decide_eq_true c1, hat]
    repeat' (first
 | with_reducible refine zas ?_ ?_
 | (intros; omega)
 | exact fs_nil trivial rfl
 | fail)
  rw [decide_eq_true (by omega : last < p), zbg] at hI
  cases bk with
  | false =>
    rw [zbh] at hI
    rw [← hI]
    simp only [go_sem, zaa, zai, zaj, zak, zal, zae, ↓reduceIte, reduceCtorEq, zab, zac, zam, zan, zao, decide_eq_true c, decide_eq_false c1, hat]
    repeat' (first
 | with_reducible refine zas ?_ ?_
 | (apply cg_tp
    case hl => rfl
    case ha => (simp only [zaf, zah, prepV, prepC, idx, hpL', lookR, zaa, if_true, if_false]; rfl)
    case hs => rfl
    case h => (first | exact k1 ..))
 | ((first | refine s1_id ?_ | refine swp_id ?_ | refine sops_id ?_ | refine s2_id ?_); simp only [decide_eq_true c, decide_eq_false c1, hat, zaF, zaJ, zap, zaE, zaG, zaB, zaD, zaz, zaK, zaO, zaw, zay, go_sem, zaa, zai, zaj, zak, zal, zae, ↓reduceIte, reduceCtorEq, zab, zac, zam, zan, zao, zaS, zaR, zaA, zaP, renO, bk, back, outUpsFrom, Ints_ren])
 | (intros; omega)
 | exact fs_nil trivial rfl
 | fail)
  | true =>
  rw [zbg] at hI
  cases ck with
  | false =>
    rw [zbh] at hI
    rw [← hI]
    simp only [go_sem, zaa, zai, zaj, zak, zal, zae, ↓reduceIte, reduceCtorEq, zab, zac, zam, zan, zao, decide_eq_true c, decide_eq_false c1, hat]
    repeat' (first
 | with_reducible refine zas ?_ ?_
 | (apply cg_tp
    case hl => rfl
    case ha => (simp only [zaf, zah, prepV, prepC, idx, hpL', lookR, zaa, if_true, if_false]; rfl)
    case hs => rfl
    case h => (first | exact k1 .. | exact k2 ..))
 | ((first | refine s1_id ?_ | refine swp_id ?_ | refine sops_id ?_ | refine s2_id ?_); simp only [decide_eq_true c, decide_eq_false c1, hat, zaF, zaJ, zap, zaE, zaG, zaB, zaD, zaz, zaK, zaO, zaw, zay, go_sem, zaa, zai, zaj, zak, zal, zae, ↓reduceIte, reduceCtorEq, zab, zac, zam, zan, zao, zaS, zaR, zaA, zaP, renO, bk, back, outUpsFrom, Ints_ren])
 | (intros; omega)
 | exact fs_nil trivial rfl
 | fail)
  | true =>
  rw [zbg] at hI
  simp only [go_sem, zaa, zai, zaj, zak, zal, zae, ↓reduceIte, reduceCtorEq, zab, zac, zam, zan, zao, decide_eq_true c, decide_eq_false c1, hat]
  repeat' (first
 | with_reducible refine zas ?_ ?_
 | (apply cg_tp
    case hl => rfl
    case ha => (simp only [zaf, zah, prepV, prepC, idx, hpL', lookR, zaa, if_true, if_false]; rfl)
    case hs => rfl
    case h => (first | exact k1 .. | exact k2 ..))
 | ((first | refine s1_id ?_ | refine swp_id ?_ | refine sops_id ?_ | refine s2_id ?_); simp only [decide_eq_true c, decide_eq_false c1, hat, zaF, zaJ, zap, zaE, zaG, zaB, zaD, zaz, zaK, zaO, zaw, zay, go_sem, zaa, zai, zaj, zak, zal, zae, ↓reduceIte, reduceCtorEq, zab, zac, zam, zan, zao, zaS, zaR, zaA, zaP, renO, bk, back, outUpsFrom, Ints_ren])
 | (intros; omega)
 | (intros; (try simp only [zav, zax, zau, zat, zaq, zar, decide_eq_true_eq, decide_eq_false_iff_not] at *); omega))
  refine le_mk (m + 1, p) ?_ ⟨hlt, hI⟩ (by show C.length - (m + 1) < C.length - m; omega)
  (refine imp_ren _ _ _ [(0, 0, ⟨[.gsl (Cs l) 0 l.length none, int n], 2⟩)] (by simp) (by simp) (by simp) (zaC rfl) ?_ rfl (by simp only [zad, zag, false_implies, implies_true, and_true, zaT, lookR, zaa, if_true, if_false, ↓reduceIte] <;> (repeat' apply zas) <;> (first | rfl | trivial)) (by simp only [zad, zag, false_implies, implies_true, and_true, true_and, flat_cons, flat_nil, flat_ints, flat_bools, flat_app, zaQ, and_self, eq_self_iff_true, zap]); simp only [zaf, zah, zad, zag, false_implies, implies_true, and_true, lk, slot, zaS, zaA, toN, zaa, if_true, if_false, ↓reduceIte, reduceCtorEq])
  all_goals ((repeat' apply zas) <;> (first | rfl | trivial | (simp only [zaL]; done) | (simp only [zaL]; rfl) | (simp only [zaL]; trivial)))
end Go.Proofs.Ytlajelbiniakpaa
-- NEWGO
-- PRUNE: cl_use
-- ISG: Cs_isG
-- FLAT: Cs_flat
namespace Go.Proofs.Ytlajelbiniakpaa
set_option linter.unusedVariables false
set_option linter.unusedSimpArgs false
open Go.Proofs.Ytlajelbiniakpaa.Sh
set_option maxRecDepth 20000
def ixI (id : Int) : List Int → Nat → Int
  | [], _ => -1
  | y :: ys, i => if id = y then (i : Int) else ixI id ys (i + 1)
theorem ixI_mem (id : Int) : ∀ (ys : List Int) (i : Nat), decide (0 ≤ ixI id ys i) = decide (id ∈ ys)
  | [], i => by simp [ixI]
  | y :: ys, i => by
    rw [ixI]
    by_cases h : id = y
    · rw [if_pos h]; simp [h]
    · rw [if_neg h, ixI_mem id ys]; simp [h]
theorem kcix_spec (xs : List Int) (c : Option Nat) (id : Int) (hl : xs.length ≤ 9223372036854775807) : FnSpec Try.prog 54 [gi xs c, i1 id] [] (i1 (ixI id xs 0)) [] := by
  refine fnspec_of mixed TT_ok TT_cl ⟨fun _ => false, fun _ => [], 0, fun _ => false, fun _ => false⟩ Try.func54 rfl (by kernel_rfl) rfl 19 rfl [.tmp 4] rfl ?_
  simp only [go_sem, zaa, zai, zaj, zak, zal, zae, ↓reduceIte, reduceCtorEq, zab, zac, zam, zan, zao]
  repeat' (first
 | (intros; (try simp only [zav, zax, zau, zat, zaq, zar, decide_eq_true_eq, decide_eq_false_iff_not] at *); omega))
  refine w_loop (ι := Nat) (fun m => ⟨[(0, gi xs c), (1, i1 id), (7, i1 xs.length), (8, i1 m)], [], 0⟩) (fun m => m ≤ xs.length ∧ ixI id xs 0 = ixI id (xs.drop m) m) (fun m => xs.length - m) 0 ?_ ⟨zaW _, rfl⟩ ?_
  · (refine imp_sub _ _ _ [] (by simp) (by simp) (by simp) (zaW _) ?_ rfl (by simp); simp only [zad, zag, false_implies, implies_true, and_true, lk, slot, zaS, zaA, zaa, if_true, if_false, ↓reduceIte, reduceCtorEq])
    all_goals ((repeat' apply zas) <;> (first | rfl | trivial))
  rintro m ⟨hm, hI⟩
  simp only at hm hI ⊢
  rcases zbe m xs.length with hlt | hge
  case inr =>
    have c2 : ¬ (m : Int) < (xs.length : Int) := by omega
    rw [zbc hge] at hI
    rw [hI]
    simp only [go_sem, zaa, zai, zaj, zak, zal, zae, ↓reduceIte, reduceCtorEq, zab, zac, zam, zan, zao, decide_eq_false c2, ixI]
    repeat' (first
 | exact fs_nil trivial rfl
 | fail)
  have c2 : (m : Int) < (xs.length : Int) := by omega
  rw [drop_getD xs m 0 hlt, ixI] at hI
  by_cases h : id = xs.getD m 0
  · rw [if_pos h] at hI
    rw [hI]
    simp only [go_sem, zaa, zai, zaj, zak, zal, zae, ↓reduceIte, reduceCtorEq, zab, zac, zam, zan, zao, decide_eq_true c2, decide_eq_true h]
    repeat' (first
 | with_reducible refine zas ?_ ?_
 | (intros; omega)
 | exact fs_nil trivial rfl
 | fail)
  · rw [if_neg h] at hI
    simp only [go_sem, zaa, zai, zaj, zak, zal, zae, ↓reduceIte, reduceCtorEq, zab, zac, zam, zan, zao, decide_eq_true c2, decide_eq_false h]
    repeat' (first
 | with_reducible refine zas ?_ ?_
 | (intros; omega)
 | (intros; (try simp only [zav, zax, zau, zat, zaq, zar, decide_eq_true_eq, decide_eq_false_iff_not] at *); omega))
    refine le_mk (m + 1) ?_ ⟨hlt, hI⟩ (by omega)
    (refine imp_sub _ _ _ [] (by simp) (by simp) (by simp) (zaW _) ?_ rfl (by simp); simp only [zad, zag, false_implies, implies_true, and_true, lk, slot, zaS, zaA, zaa, if_true, if_false, ↓reduceIte, reduceCtorEq])
    all_goals ((repeat' apply zas) <;> (first | rfl | trivial | (simp only [zaL]; done) | (simp only [zaL]; rfl) | (simp only [zaL]; trivial)))
theorem kccon_spec (xs : List Int) (c : Option Nat) (id : Int) (hl : xs.length ≤ 9223372036854775807) : FnSpec Try.prog 35 [gi xs c, i1 id] [] (b1 (decide (id ∈ xs))) [] := by
  have h1 := kcix_spec xs c id hl
  rw [← ixI_mem id xs 0]
  refine fnspec_of mixed TT_ok TT_cl ⟨fun _ => false, fun _ => [], 0, fun _ => false, fun _ => false⟩ Try.func35 rfl (by kernel_rfl) rfl 9 rfl [.tmp 4] rfl ?_
  simp only [go_sem, zaa, zai, zaj, zak, zal, zae, ↓reduceIte, reduceCtorEq, zab, zac, zam, zan, zao]
  repeat' (first
 | (apply cl_plain
    case hs => rfl
    case ha => (simp only [zaf, zah, prepV, prepC, idx, hpL', lookR, zaa, if_true, if_false]; rfl)
    case h => (first | exact h1 ..))
 | ((first | refine s1_id ?_ | refine swp_id ?_ | refine sops_id ?_ | refine s2_id ?_); simp only [go_sem, zaa, zai, zaj, zak, zal, zae, ↓reduceIte, reduceCtorEq, zab, zac, zam, zan, zao, zaS, zaR, zaA, zaP, renO, bk, back, outUpsFrom, Ints_ren])
 | exact fs_nil trivial rfl
 | fail)
set_option maxHeartbeats 4000000 in
theorem cd_ix (g : FuncId) (c0 : List Cell) (q : Cd → Bool) (xs : List (Cd)) (hg : ∀ x ∈ xs, FnSpec Try.prog g [.agg (Rec.cs x), .one (.gptr c0 0)] [] (b1 (q x)) []) (cap : Option Nat)
    (hs : xs.length ≤ 9223372036854775807) : FnSpec Try.prog 76 [gr xs cap, .one (.fn g [.gptr c0 0])] [] (i1 (ixR q xs 0)) [] := by
  refine fnspec_of mixed TT_ok TT_cl ⟨fun _ => false, fun _ => [], 0, fun _ => false, fun _ => false⟩ Try.func76 rfl (by kernel_rfl) rfl 19 rfl [.tmp 4] rfl ?_
  simp only [go_sem, zaa, zai, zaj, zak, zal, zae, ↓reduceIte, reduceCtorEq, zab, zac, zam, zan, zao]
  repeat' (first
 | (intros; (try simp only [zav, zax, zau, zat, zaq, zar, decide_eq_true_eq, decide_eq_false_iff_not] at *); omega))
  refine w_loop (ι := Nat) (fun i => ⟨[(0, gr xs cap), (1, .one (.fn g [.gptr c0 0])), (7, i1 xs.length), (8, i1 i)], [], 0⟩) (fun i => i ≤ xs.length ∧ ixR q xs 0 = ixR q (xs.drop i) i) (fun i => xs.length - i) 0 ?_ ⟨zaW _, rfl⟩ ?_
  · (refine imp_sub _ _ _ [] (by simp) (by simp) (by simp) (zaW _) ?_ rfl (by simp); simp only [zad, zag, false_implies, implies_true, and_true, lk, slot, zaS, zaA, zaa, if_true, if_false, ↓reduceIte, reduceCtorEq])
    all_goals ((repeat' apply zas) <;> (first | rfl | trivial))
  rintro i ⟨hi, he⟩
  simp only at hi he ⊢
  rcases zbe i xs.length with hlt | hge
  case inr =>
    have hlt' : ¬ (i : Int) < (xs.length : Int) := by omega
    rw [zbc hge] at he
    rw [he]
    simp only [go_sem, zaa, zai, zaj, zak, zal, zae, ↓reduceIte, reduceCtorEq, zab, zac, zam, zan, zao, decide_eq_false hlt', ixR]
    repeat' (first
 | exact fs_nil trivial rfl
 | fail)
  have hlt' : (i : Int) < (xs.length : Int) := by omega
  have hcl : (Cs xs).length = xs.length * 4 := Cs_len xs
  have hat : zbf 4 (List.drop (i * 4) (Cs xs)) = Rec.cs (xs.getD i Rec.z) := Cs_td xs i hlt
  have hm := getD_mem xs i Rec.z hlt
  have hc := hg _ hm
  rw [drop_getD xs i Rec.z hlt, ixR] at he
  have hrl : (Rec.cs (xs.getD i Rec.z)).length = 4 := Rec.len _
  have hrg := Rec.g (xs.getD i Rec.z)
  generalize xs.getD i Rec.z = b at *
  have hcs : Rec.cs b = [int b.p, int b.g, int b.n, int b.a] := rfl
  rw [hcs] at hat hc
  clear hrl hrg
  cases hqb : q b with
  | true =>
    rw [hqb] at hc he
    simp only [if_true] at he
    rw [he]
    simp only [go_sem, zaa, zai, zaj, zak, zal, zae, ↓reduceIte, reduceCtorEq, zab, zac, zam, zan, zao, decide_eq_true hlt', hat]
    repeat' (first
 | with_reducible refine zas ?_ ?_
 | (apply cl_plain
    case hs => rfl
    case ha => (simp only [zaf, zah, prepV, prepC, idx, hpL', lookR, zaa, if_true, if_false]; rfl)
    case h => (first | exact hc ..))
 | ((first | refine s1_id ?_ | refine swp_id ?_ | refine sops_id ?_ | refine s2_id ?_); simp only [decide_eq_true hlt', hat, go_sem, zaa, zai, zaj, zak, zal, zae, ↓reduceIte, reduceCtorEq, zab, zac, zam, zan, zao, zaS, zaR, zaA, zaP, renO, bk, back, outUpsFrom, Ints_ren])
 | (intros; omega)
 | exact fs_nil trivial rfl
 | fail)
  | false =>
    rw [hqb] at hc he
    simp only [Bool.false_eq_true, if_false] at he
    simp only [go_sem, zaa, zai, zaj, zak, zal, zae, ↓reduceIte, reduceCtorEq, zab, zac, zam, zan, zao, decide_eq_true hlt', hat]
    repeat' (first
 | with_reducible refine zas ?_ ?_
 | (apply cl_plain
    case hs => rfl
    case ha => (simp only [zaf, zah, prepV, prepC, idx, hpL', lookR, zaa, if_true, if_false]; rfl)
    case h => (first | exact hc ..))
 | ((first | refine s1_id ?_ | refine swp_id ?_ | refine sops_id ?_ | refine s2_id ?_); simp only [decide_eq_true hlt', hat, go_sem, zaa, zai, zaj, zak, zal, zae, ↓reduceIte, reduceCtorEq, zab, zac, zam, zan, zao, zaS, zaR, zaA, zaP, renO, bk, back, outUpsFrom, Ints_ren])
 | (intros; omega)
 | (intros; (try simp only [zav, zax, zau, zat, zaq, zar, decide_eq_true_eq, decide_eq_false_iff_not] at *); omega))
    refine le_mk (i + 1) ?_ ⟨by omega, he⟩ (by omega)
    (refine imp_sub _ _ _ [] (by simp) (by simp) (by simp) (zaW _) ?_ rfl (by simp); simp only [zad, zag, false_implies, implies_true, and_true, lk, slot, zaS, zaA, zaa, if_true, if_false, ↓reduceIte, reduceCtorEq])
    all_goals ((repeat' apply zas) <;> (first | rfl | trivial | (simp only [zaL]; done) | (simp only [zaL]; rfl) | (simp only [zaL]; trivial)))
theorem cd_cl (xs : List (Cd)) (c : Option Nat) (hl : xs.length ≤ 1000000) : FnSpec Try.prog 64 [gr xs c] [] (.one (.osl 0 0 xs.length none)) [some ⟨Cs xs, 4⟩] := by
  have hts : zbf (xs.length * 4) (Cs xs) = Cs xs := Cs_all xs _ (zaY _)
  have hil : (Cs xs).length = xs.length * 4 := Cs_len xs
  by_cases h0 : 0 < xs.length
  · refine fnspec_of mixed TT_ok TT_cl ⟨fun _ => false, fun _ => [], 0, fun _ => false, fun _ => false⟩ Try.func64 rfl (by kernel_rfl) rfl 8 rfl [.tmp 2] rfl ?_
    simp only [go_sem, zaa, zai, zaj, zak, zal, zae, ↓reduceIte, reduceCtorEq, zab, zac, zam, zan, zao, hts, hil]
    repeat' (first
 | with_reducible refine zas ?_ ?_
 | (intros; omega)
 | (intros; (try simp only [zav, zax, zau, zat, zaq, zar, decide_eq_true_eq, decide_eq_false_iff_not] at *); omega))
    (refine fs_flat [(5, ⟨Cs xs, 4⟩)] (by simp) (by simp only [zaf, zah]; decide) (by simp only [go_sem, resV, resS, zaS, zaR, zaA, zaX, zaT, idx, renO, zaP, evS, slot, lookR, zaa, ↓reduceIte, reduceCtorEq, if_true, if_false, zaM, zaN, zaf, zah, sLoad, readAt, readNeed, Ints_ren, Ints_length, Ints_getD, and_true, true_and, zaH, zaI]; try decide) ?_ (by simp only [zad, zag, false_implies, implies_true, and_true, zaT, lookR, zaa, if_true, if_false, ↓reduceIte, Cs_flat] <;> (repeat' apply zas) <;> (first | rfl | trivial)) (by simp only [zad, zag, false_implies, implies_true, and_true, true_and, flat_cons, flat_nil, flat_ints, flat_bools, flat_app, zaQ, and_self, eq_self_iff_true, zap, Cs_flat]) ?_ <;> (try simp only [go_sem, resV, resS, zaS, zaR, zaA, zaX, zaT, idx, renO, zaP, evS, slot, lookR, zaa, ↓reduceIte, reduceCtorEq, if_true, if_false, zaM, zaN, zaf, zah, sLoad, readAt, readNeed, Ints_ren, Ints_length, Ints_getD, and_true, true_and, zaH, zaI]) <;> (try rfl))
  · have hn : xs = [] := List.length_eq_zero_iff.1 (by omega)
    subst hn
    refine FnSpec.niln (FnSpec.nilrow 4 ?_) (fun ad cc => ?_)
    · refine fnspec_of mixed TT_ok TT_cl ⟨fun _ => false, fun _ => [], 0, fun _ => false, fun _ => false⟩ Try.func64 rfl (by kernel_rfl) rfl 8 rfl [.tmp 2] rfl ?_
      simp only [go_sem, zaa, zai, zaj, zak, zal, zae, ↓reduceIte, reduceCtorEq, zab, zac, zam, zan, zao]
      repeat' (first
 | exact fs_nil trivial rfl
 | fail)
    · refine fnspec_of mixed TT_ok TT_cl ⟨fun _ => false, fun _ => [], 0, fun _ => false, fun _ => false⟩ Try.func64 rfl (by kernel_rfl) rfl 8 rfl [.tmp 2] rfl ?_
      simp only [go_sem, zaa, zai, zaj, zak, zal, zae, ↓reduceIte, reduceCtorEq, zab, zac, zam, zan, zao]
      repeat' (first
 | (intros; (try simp only [zav, zax, zau, zat, zaq, zar, decide_eq_true_eq, decide_eq_false_iff_not] at *); omega))
      (refine fs_flat [(5, ⟨[], 4⟩)] (by simp) (by simp only [zaf, zah]; decide) (by simp only [go_sem, resV, resS, zaS, zaR, zaA, zaX, zaT, idx, renO, zaP, evS, slot, lookR, zaa, ↓reduceIte, reduceCtorEq, if_true, if_false, zaM, zaN, zaf, zah, sLoad, readAt, readNeed, Ints_ren, Ints_length, Ints_getD, and_true, true_and, zaH, zaI]; try decide) ?_ (by simp only [zad, zag, false_implies, implies_true, and_true, zaT, lookR, zaa, if_true, if_false, ↓reduceIte, Cs_flat] <;> (repeat' apply zas) <;> (first | rfl | trivial)) (by simp only [zad, zag, false_implies, implies_true, and_true, true_and, flat_cons, flat_nil, flat_ints, flat_bools, flat_app, zaQ, and_self, eq_self_iff_true, zap, Cs_flat]) ?_ <;> (try simp only [go_sem, resV, resS, zaS, zaR, zaA, zaX, zaT, idx, renO, zaP, evS, slot, lookR, zaa, ↓reduceIte, reduceCtorEq, if_true, if_false, zaM, zaN, zaf, zah, sLoad, readAt, readNeed, Ints_ren, Ints_length, Ints_getD, and_true, true_and, zaH, zaI]) <;> (try rfl))
theorem ixR_no (q : Cd → Bool) : ∀ (xs : List Cd) (i : Nat), (∀ x ∈ xs, q x = false) → ixR q xs i = -1
  | [], _, _ => rfl
  | x :: r, i, h => by
    rw [ixR, h x List.mem_cons_self]
    exact ixR_no q r (i + 1) (fun y hy => h y (List.mem_cons_of_mem _ hy))
theorem ixR_yes (q : Cd → Bool) : ∀ (xs : List Cd) (i : Nat), ¬ (∀ x ∈ xs, q x = false) → ∃ t : Nat, ixR q xs i = (i + t : Nat) ∧ t < xs.length ∧ (∀ j, j < t → q (gD xs j) = false) ∧ q (gD xs t) = true
  | [], _, h => absurd (fun x hx => by cases hx) h
  | x :: r, i, h => by
    rw [ixR]
    cases hq : q x with
    | true => exact ⟨0, rfl, Nat.succ_pos _, fun j hj => absurd hj (Nat.not_lt_zero _), hq⟩
    | false =>
      obtain ⟨t, e, ht, h1, h2⟩ := ixR_yes q r (i + 1) (fun h2 => h fun y hy => by
        rcases List.mem_cons.1 hy with rfl | hy
        · exact hq
        · exact h2 y hy)
      refine ⟨t + 1, ?_, Nat.succ_lt_succ ht, fun j hj => ?_, h2⟩
      · show ixR q r (i + 1) = _
        rw [e]; congr 1; omega
      · cases j with
        | zero => exact hq
        | succ j => exact h1 j (by omega)
theorem kp_take (q : Cd → Bool) (xs : List Cd) (j : Nat) (h : j < xs.length) : (xs.take (j + 1)).filter (fun x => !q x) = (xs.take j).filter (fun x => !q x) ++ (if q (gD xs j) = true then [] else [gD xs j]) := by
  rw [take_getD xs j zcd h, List.filter_append]
  cases hq : q (gD xs j) with
  | true => rw [List.filter_cons_of_neg (by show ¬ (!q (gD xs j)) = true; rw [hq]; decide)]; rfl
  | false => rw [List.filter_cons_of_pos (by show (!q (gD xs j)) = true; rw [hq]; rfl)]; rfl
theorem lay_take (cs : List Cell) (o : Nat) (m : List Cell) (h : o ≤ cs.length) : (layAt cs o m).take o = cs.take o := by
  unfold layAt
  rw [List.append_assoc, List.take_append_of_le_length (by rw [zbk]; omega), List.take_take, Nat.min_self]
theorem flat_g (k : Nat) (z : List Cell) (hz : ∀ c ∈ z, c.isG = true) : ∀ c ∈ (zbi k z).flatten, c.isG = true := fun c hc => by
  obtain ⟨l, hl, hcl⟩ := List.mem_flatten.1 hc
  rw [List.eq_of_mem_replicate hl] at hcl
  exact hz c hcl
theorem filter_take_all {q : Cd → Bool} {xs : List Cd} {t : Nat} (ht : t ≤ xs.length) (hb : ∀ j, j < t → q (gD xs j) = false) : (xs.take t).filter (fun x => !q x) = xs.take t := List.filter_eq_self.2 fun x hx => by
  obtain ⟨j, hj, rfl⟩ := List.mem_iff_getElem.1 hx
  rw [zbk] at hj
  have := hb j (by omega)
  rw [show gD xs j = xs[j] from getD_at xs j zcd (by omega)] at this
  rw [List.getElem_take, this]
  rfl
theorem lay_g {cs m : List Cell} {o : Nat} (h1 : ∀ c ∈ cs, c.isG = true) (h2 : ∀ c ∈ m, c.isG = true) : ∀ c ∈ layAt cs o m, c.isG = true := fun c hc => by
  unfold layAt at hc
  rcases List.mem_append.1 hc with hc | hc
  · rcases List.mem_append.1 hc with hc | hc
    · exact h1 c (List.mem_of_mem_take hc)
    · exact h2 c hc
  · exact h1 c (List.mem_of_mem_drop hc)
set_option maxHeartbeats 16000000 in
theorem delf_spec (g : FuncId) (c0 : List Cell) (q : Cd → Bool) (xs : List Cd) (hg : ∀ x ∈ xs, FnSpec Try.prog g [cdt x, .one (.gptr c0 0)] [] (b1 (q x)) []) (hl : xs.length ≤ 1000000) : FnSpec Try.prog 63 [.one (.osl 0 0 xs.length none), .one (.fn g [.gptr c0 0])] [⟨Cs xs, 4⟩] (gr (xs.filter (fun x => !q x)) none) [none] := by
  refine FnSpec.capk (fun c hc => ?_)
  have h1 := fun k => cd_ix g c0 q xs (fun x hx => hg x hx) k (by omega)
  have hcl := cd_len xs
  by_cases hno : ∀ x ∈ xs, q x = false
  · have e1 : xs.filter (fun x => !q x) = xs := List.filter_eq_self.2 fun x hx => by simp [hno x hx]
    rw [e1]
    simp only [ixR_no q xs 0 hno] at h1
    refine fnspec_of mixed TT_ok TT_cl ⟨fun _ => false, fun _ => [], 1, fun _ => false, fun _ => false⟩ Try.func63 rfl (by kernel_rfl) rfl 42 rfl [.tmp 4] rfl ?_
    simp only [go_sem, zaa, zai, zaj, zak, zal, zae, ↓reduceIte, reduceCtorEq, zab, zac, zam, zan, zao]
    repeat' (first
 | (apply cl_show
    case ha => (simp only [zaf, zah, prepV, prepC, idx, hpL', lookR, zaa, if_true, if_false]; rfl)
    case hs => ((simp [snaps, SV.refs, zaQ, idx, hpL', lookR]) <;> (repeat' apply zas) <;> (first | exact Ints_isG _ | exact Cs_isG _))
    case h => (first | exact h1 ..)
    case hg => ((simp [SV.noG, SV.noGL, Cell.noG]) <;> (repeat' apply zas) <;> exact Ints_noG _))
 | ((first | refine s1_id ?_ | refine swp_id ?_ | refine sops_id ?_ | refine s2_id ?_); simp only [zaF, zaJ, zap, zaE, zaG, zaB, zaD, zaz, zaK, zaO, zaw, zay, go_sem, zaa, zai, zaj, zak, zal, zae, ↓reduceIte, reduceCtorEq, zab, zac, zam, zan, zao, zaS, zaR, zaA, zaP, renO, bk, back, outUpsFrom, Ints_ren])
 | (intros; (try simp only [zav, zax, zau, zat, zaq, zar, decide_eq_true_eq, decide_eq_false_iff_not] at *); omega))
    (refine fs_frz 0 ⟨Cs xs, 4⟩ (by simp only [zaT, lookR, zaa, if_true, if_false, ↓reduceIte]) (by first | exact Ints_isG _ | exact Bools_isG _ | exact Cs_isG _ | (simp [zbm]; done)) ?_; simp only [frzTm, SV.frz, SV.frzL, zbo, frzHp, frzO, Ints_frz, Bools_frz, zaf, zah, zaa, if_true, if_false, ↓reduceIte])
    refine fs_res (res0 := .one (.gsl (Cs xs) 0 xs.length (some c))) (svw_of (cw_cap _ _ _ _)) ?_
    (refine fs_mk [0] (by simp) (by decide) (by simp only [go_sem, resV, resS, zaS, zaR, zaA, zaX, zaT, idx, renO, zaP, evS, slot, lookR, zaa, ↓reduceIte, reduceCtorEq, if_true, if_false, zaM, zaN, zaf, zah, sLoad, readAt, readNeed, Ints_ren, Ints_length, Ints_getD, and_true, true_and, zaH, zaI]; try decide) ?_ ?_ ?_ <;> (try simp only [go_sem, resV, resS, zaS, zaR, zaA, zaX, zaT, idx, renO, zaP, evS, slot, lookR, zaa, ↓reduceIte, reduceCtorEq, if_true, if_false, zaM, zaN, zaf, zah, sLoad, readAt, readNeed, Ints_ren, Ints_length, Ints_getD, and_true, true_and, zaH, zaI, zaT, lookR, renO, zaP, zaA, idx, zaf, zah, Ints_ren, zad, zag, false_implies, implies_true, Option.some.injEq, forall_eq', and_true, true_and, frzHp, frzO, Cs_ren]) <;> (try rfl) <;> (try ((repeat' apply zas) <;> (first | trivial | exact fun c hc q hq => absurd hq (Ints_refs0 _ _ c hc) | (simp [zaQ]; done)))))
  · obtain ⟨t, e1, ht, hb, hq⟩ := ixR_yes q xs 0 hno
    rw [Nat.zero_add] at e1
    simp only [e1] at h1
    refine fnspec_of mixed TT_ok TT_cl ⟨fun _ => false, fun _ => [], 1, fun _ => false, fun _ => false⟩ Try.func63 rfl (by kernel_rfl) rfl 42 rfl [.tmp 4] rfl ?_
    simp only [go_sem, zaa, zai, zaj, zak, zal, zae, ↓reduceIte, reduceCtorEq, zab, zac, zam, zan, zao]
    repeat' (first
 | with_reducible refine zas ?_ ?_
 | (apply cl_show
    case ha => (simp only [zaf, zah, prepV, prepC, idx, hpL', lookR, zaa, if_true, if_false]; rfl)
    case hs => ((simp [snaps, SV.refs, zaQ, idx, hpL', lookR]) <;> (repeat' apply zas) <;> (first | exact Ints_isG _ | exact Cs_isG _))
    case h => (first | exact h1 ..)
    case hg => ((simp [SV.noG, SV.noGL, Cell.noG]) <;> (repeat' apply zas) <;> exact Ints_noG _))
 | ((first | refine s1_id ?_ | refine swp_id ?_ | refine sops_id ?_ | refine s2_id ?_); simp only [zaF, zaJ, zap, zaE, zaG, zaB, zaD, zaz, zaK, zaO, zaw, zay, go_sem, zaa, zai, zaj, zak, zal, zae, ↓reduceIte, reduceCtorEq, zab, zac, zam, zan, zao, zaS, zaR, zaA, zaP, renO, bk, back, outUpsFrom, Ints_ren])
 | (intros; omega)
 | (intros; (try simp only [zav, zax, zau, zat, zaq, zar, decide_eq_true_eq, decide_eq_false_iff_not] at *); omega))
    refine w_loop (ι := Nat × Nat × List Cd) (fun s => ⟨[(0, .one (.osl 0 0 xs.length (some c))), (1, .one (.fn g [.gptr c0 0])), (5, i1 s.2.1), (6, i1 s.1)], [(0, some ⟨Cs s.2.2, 4⟩)], 1⟩) (fun s => s.1 ≤ xs.length ∧ s.2.1 < s.1 ∧ s.2.2.length = xs.length ∧ s.2.2.take s.2.1 = (xs.take s.1).filter (fun x => !q x) ∧ s.2.2.drop s.1 = xs.drop s.1) (fun s => xs.length - s.1) (t + 1, t, xs) ?_ ⟨ht, zaZ t, rfl, ?_, rfl⟩ ?_
    · (refine imp_ren _ _ _ [(0, 0, ⟨Cs xs, 4⟩)] (by simp) (by simp) (by simp) (zaC rfl) ?_ rfl (by simp only [zad, zag, false_implies, implies_true, and_true, zaT, lookR, zaa, if_true, if_false, ↓reduceIte, Cs_flat] <;> (repeat' apply zas) <;> (first | rfl | trivial)) (by simp only [zad, zag, false_implies, implies_true, and_true, true_and, flat_cons, flat_nil, flat_ints, flat_bools, flat_app, zaQ, and_self, eq_self_iff_true, zap, Cs_flat]); simp only [zaf, zah, zad, zag, false_implies, implies_true, and_true, lk, slot, zaS, zaA, toN, zaa, if_true, if_false, ↓reduceIte, reduceCtorEq])
      all_goals ((repeat' apply zas) <;> (first | rfl | trivial | (simp only [zaL]; done) | (simp only [zaL]; rfl) | (simp only [zaL]; trivial)));;
    · show xs.take t = _
      rw [kp_take q xs t ht, if_pos hq, zap, filter_take_all (by omega) hb]
    clear h1
    rintro ⟨j, i, R⟩ ⟨hj, hij, hRl, hRt, hRd⟩
    simp only at hj hij hRl hRt hRd ⊢
    have hrl := cd_len R
    rcases zbe j xs.length with hlt | hge
    case inr =>
      have cc : ¬ (j : Int) < (xs.length : Int) := by omega
      rw [zaV hge] at hRt
      rw [← hRt]
      have hM : ∀ m, (layAt (Cs R) (i * 4) m).take (i * 4) = Cs (R.take i) := fun m => by
        rw [lay_take _ _ _ (by rw [hrl]; exact Nat.mul_le_mul_right 4 (by omega))]; exact Cs_take R i
      have t0 : Int.toNat 0 = 0 := rfl
      have hti : (R.take i).length = i := by rw [zbk]; omega
      simp only [go_sem, zaa, zai, zaj, zak, zal, zae, ↓reduceIte, reduceCtorEq, zab, zac, zam, zan, zao, decide_eq_false cc]
      repeat' (first
 | with_reducible refine zas ?_ ?_
 | (intros; omega)
 | (intros; (try simp only [zav, zax, zau, zat, zaq, zar, decide_eq_true_eq, decide_eq_false_iff_not] at *); omega))
      all_goals try (intro row hrow; cases hrow; rfl)
      rw [show gr (R.take i) none = .one (.gsl (Cs (R.take i)) 0 i none) from by show SV.one (.gsl (Cs (R.take i)) 0 (R.take i).length none) = _; rw [hti], ← hM ((zbi (xs.length - i) [zbb (Value.int IntKind.i64 0), zbb (Value.int IntKind.i64 0), zbb (Value.int IntKind.i64 0), zbb (Value.int IntKind.i64 0)]).flatten)]
      have hZ : ∀ z ∈ layAt (Cs R) (i * 4) ((zbi (xs.length - i) [zbb (Value.int IntKind.i64 0), zbb (Value.int IntKind.i64 0), zbb (Value.int IntKind.i64 0), zbb (Value.int IntKind.i64 0)]).flatten), z.isG = true := lay_g (Cs_isG R) (flat_g _ _ (fun z hz => by
        simp only [zbn, zag, or_false] at hz
        rcases hz with rfl | rfl | rfl | rfl <;> rfl))
      have hZf : ∀ r cs, (layAt (Cs R) (i * 4) ((zbi (xs.length - i) [zbb (Value.int IntKind.i64 0), zbb (Value.int IntKind.i64 0), zbb (Value.int IntKind.i64 0), zbb (Value.int IntKind.i64 0)]).flatten)).map (zbo r cs) = layAt (Cs R) (i * 4) ((zbi (xs.length - i) [zbb (Value.int IntKind.i64 0), zbb (Value.int IntKind.i64 0), zbb (Value.int IntKind.i64 0), zbb (Value.int IntKind.i64 0)]).flatten) := fun r cs => map_id_of (fun z hz => isG_frz (hZ z hz) r cs)
      clear hM
      generalize layAt (Cs R) (i * 4) ((zbi (xs.length - i) [zbb (Value.int IntKind.i64 0), zbb (Value.int IntKind.i64 0), zbb (Value.int IntKind.i64 0), zbb (Value.int IntKind.i64 0)]).flatten) = M at *
      refine fs_res (res0 := .one (.gsl M 0 i (some c))) (svw_of (cw_trans (cw_take _ _ _ _ _) (cw_cap _ _ _ _))) ?_
      refine fs_frz 0 ⟨M, 4⟩ (by first | (simp only [zaT, lookR, zaa, if_true, if_false, ↓reduceIte, reduceCtorEq]; done) | rfl) hZ ?_
      simp only [frzTm, SV.frz, SV.frzL, zbo, frzHp, frzO, hZf, Cs_frz, zaf, zah, zaa, if_true, if_false, ↓reduceIte]
      (refine fs_mk [0] (by simp) (by decide) (by simp only [go_sem, resV, resS, zaS, zaR, zaA, zaX, zaT, idx, renO, zaP, evS, slot, lookR, zaa, ↓reduceIte, reduceCtorEq, if_true, if_false, zaM, zaN, zaf, zah, sLoad, readAt, readNeed, Ints_ren, Ints_length, Ints_getD, and_true, true_and, zaH, zaI]; try decide) ?_ ?_ ?_ <;> (try simp only [go_sem, resV, resS, zaS, zaR, zaA, zaX, zaT, idx, renO, zaP, evS, slot, lookR, zaa, ↓reduceIte, reduceCtorEq, if_true, if_false, zaM, zaN, zaf, zah, sLoad, readAt, readNeed, Ints_ren, Ints_length, Ints_getD, and_true, true_and, zaH, zaI, zaT, lookR, renO, zaP, zaA, idx, zaf, zah, Ints_ren, zad, zag, false_implies, implies_true, Option.some.injEq, forall_eq', and_true, true_and, frzHp, frzO, hZf]) <;> (try rfl) <;> (try ((repeat' apply zas) <;> (first | trivial | exact fun c hc q hq => absurd hq (Ints_refs0 _ _ c hc) | (simp [zaQ]; done)))))
    have cc : (j : Int) < (xs.length : Int) := by omega
    have hv : gD R j = gD xs j := by
      have e := congrArg (fun l => l.getD 0 zcd) hRd
      simp only [List.getD_eq_getElem?_getD, List.getElem?_drop, Nat.add_zero] at e
      simpa only [List.getD_eq_getElem?_getD] using e
    have hat : zbf 4 (List.drop (j * 4) (Cs R)) = cdc (gD R j) := cd_td R j (by omega)
    rw [hv] at hat
    have hg1 := hg _ (getD_mem xs j zcd hlt)
    have hg1 : FnSpec Try.prog g [cdt (gD xs j), .one (.gptr c0 0)] [] (b1 (q (gD xs j))) [] := hg1
    have hkt := kp_take q xs j hlt
    have hRd2 : R.drop (j + 1) = xs.drop (j + 1) := by
      have e := congrArg (fun l => l.drop 1) hRd
      simpa only [List.drop_drop] using e
    have hset : putAt (Cs R) (i * 4) (cdc (gD xs j)) = Cs (R.set i (gD xs j)) := Cs_set R i (gD xs j) (by omega)
    have hsl : (R.set i (gD xs j)).length = xs.length := by rw [List.length_set]; exact hRl
    have hst : (R.set i (gD xs j)).take (i + 1) = R.take i ++ [gD xs j] := by
      rw [take_getD _ i zcd (by rw [List.length_set]; omega), List.take_set_of_le (by omega)]
      congr 1
      rw [List.getD_eq_getElem?_getD, List.getElem?_set_self (by omega)]; rfl
    have hsd : (R.set i (gD xs j)).drop (j + 1) = xs.drop (j + 1) := by rw [List.drop_set_of_lt (by omega)]; exact hRd2
    generalize R.set i (gD xs j) = R2 at *
    cases hqv : q (gD xs j) with
    | true =>
      rw [hqv] at hg1
      rw [hqv, if_pos rfl, zap] at hkt
      clear hst hset
      generalize gD xs j = x at *
      obtain ⟨xp, xg, xn, xa⟩ := x
      simp only [cdc] at hat hg1
      simp only [go_sem, zaa, zai, zaj, zak, zal, zae, ↓reduceIte, reduceCtorEq, zab, zac, zam, zan, zao, decide_eq_true cc, hat]
      repeat' (first
 | with_reducible refine zas ?_ ?_
 | (apply cl_plain
    case hs => rfl
    case ha => (simp only [zaf, zah, prepV, prepC, idx, hpL', lookR, zaa, if_true, if_false]; rfl)
    case h => (first | exact hg1 ..))
 | ((first | refine s1_id ?_ | refine swp_id ?_ | refine sops_id ?_ | refine s2_id ?_); simp only [decide_eq_true cc, hat, zaF, zaJ, zap, zaE, zaG, zaB, zaD, zaz, zaK, zaO, zaw, zay, go_sem, zaa, zai, zaj, zak, zal, zae, ↓reduceIte, reduceCtorEq, zab, zac, zam, zan, zao, zaS, zaR, zaA, zaP, renO, bk, back, outUpsFrom, Ints_ren])
 | (intros; omega)
 | (intros; (try simp only [zav, zax, zau, zat, zaq, zar, decide_eq_true_eq, decide_eq_false_iff_not] at *); omega))
      refine le_mk (j + 1, i, R) ?_ ⟨hlt, by show i < j + 1; omega, hRl, hRt.trans hkt.symm, hRd2⟩ (by show xs.length - (j + 1) < xs.length - j; omega)
      (refine imp_ren _ _ _ [(0, 0, ⟨Cs R, 4⟩)] (by simp) (by simp) (by simp) (zaC rfl) ?_ rfl (by simp only [zad, zag, false_implies, implies_true, and_true, zaT, lookR, zaa, if_true, if_false, ↓reduceIte, Cs_flat] <;> (repeat' apply zas) <;> (first | rfl | trivial)) (by simp only [zad, zag, false_implies, implies_true, and_true, true_and, flat_cons, flat_nil, flat_ints, flat_bools, flat_app, zaQ, and_self, eq_self_iff_true, zap, Cs_flat]); simp only [zaf, zah, zad, zag, false_implies, implies_true, and_true, lk, slot, zaS, zaA, toN, zaa, if_true, if_false, ↓reduceIte, reduceCtorEq])
      all_goals ((repeat' apply zas) <;> (first | rfl | trivial | (simp only [zaL]; done) | (simp only [zaL]; rfl) | (simp only [zaL]; trivial)))
    | false =>
      rw [hqv] at hg1
      rw [hqv, if_neg (by decide), ← hRt, ← hst] at hkt
      clear hst
      generalize gD xs j = x at *
      obtain ⟨xp, xg, xn, xa⟩ := x
      simp only [cdc] at hat hg1 hset
      simp only [go_sem, zaa, zai, zaj, zak, zal, zae, ↓reduceIte, reduceCtorEq, zab, zac, zam, zan, zao, decide_eq_true cc, hat, hset]
      repeat' (first
 | with_reducible refine zas ?_ ?_
 | (apply cl_plain
    case hs => rfl
    case ha => (simp only [zaf, zah, prepV, prepC, idx, hpL', lookR, zaa, if_true, if_false]; rfl)
    case h => (first | exact hg1 ..))
 | ((first | refine s1_id ?_ | refine swp_id ?_ | refine sops_id ?_ | refine s2_id ?_); simp only [decide_eq_true cc, hat, hset, zaF, zaJ, zap, zaE, zaG, zaB, zaD, zaz, zaK, zaO, zaw, zay, go_sem, zaa, zai, zaj, zak, zal, zae, ↓reduceIte, reduceCtorEq, zab, zac, zam, zan, zao, zaS, zaR, zaA, zaP, renO, bk, back, outUpsFrom, Ints_ren])
 | (intros; omega)
 | (intros; (try simp only [zav, zax, zau, zat, zaq, zar, decide_eq_true_eq, decide_eq_false_iff_not] at *); omega))
      refine le_mk (j + 1, i + 1, R2) ?_ ⟨hlt, by show i + 1 < j + 1; omega, hsl, hkt.symm, hsd⟩ (by show xs.length - (j + 1) < xs.length - j; omega)
      (refine imp_ren _ _ _ [(0, 0, ⟨Cs R2, 4⟩)] (by simp) (by simp) (by simp) (zaC rfl) ?_ rfl (by simp only [zad, zag, false_implies, implies_true, and_true, zaT, lookR, zaa, if_true, if_false, ↓reduceIte, Cs_flat] <;> (repeat' apply zas) <;> (first | rfl | trivial)) (by simp only [zad, zag, false_implies, implies_true, and_true, true_and, flat_cons, flat_nil, flat_ints, flat_bools, flat_app, zaQ, and_self, eq_self_iff_true, zap, Cs_flat]); simp only [zaf, zah, zad, zag, false_implies, implies_true, and_true, lk, slot, zaS, zaA, toN, zaa, if_true, if_false, ↓reduceIte, reduceCtorEq])
      all_goals ((repeat' apply zas) <;> (first | rfl | trivial | (simp only [zaL]; done) | (simp only [zaL]; rfl) | (simp only [zaL]; trivial)))
end Go.Proofs.Ytlajelbiniakpaa
-- NEWGO
-- PRUNE: cl_lendx cl_use
-- ISG: Cs_isG
-- FLAT: Cs_flat
namespace Go.Proofs.Ytlajelbiniakpaa
set_option linter.unusedVariables false
set_option linter.unusedSimpArgs false
open Go.Proofs.Ytlajelbiniakpaa.Sh
set_option maxRecDepth 20000
def outF (S : List Int) (x : Cd) : Bool := !decide (x.g ∈ S) || decide (x.a = -1000)
def wiM (l : List Nd) (n : Int) (C : List Cd) (g : Int) : List Cd := C.filter (fun x => !outF (subM l n g) x)
theorem wi1_spec (S : List Int) (x : Cd) (hS : S.length ≤ 9223372036854775807) : FnSpec Try.prog 62 [cdt x, .one (.gptr [.gsl (Ints S) 0 S.length none] 0)] [] (b1 (outF S x)) [] := by
  have h1 := kccon_spec S none x.g hS
  unfold outF
  generalize decide (x.g ∈ S) = b at *
  obtain ⟨p, g, n, a⟩ := x
  simp only [cdc] at h1 ⊢
  refine fnspec_of mixed TT_ok TT_cl ⟨fun _ => false, fun _ => [], 0, fun _ => false, fun _ => false⟩ Try.func62 rfl (by kernel_rfl) rfl 14 rfl [.tmp 3] rfl ?_
  simp only [go_sem, zaa, zai, zaj, zak, zal, zae, ↓reduceIte, reduceCtorEq, zab, zac, zam, zan, zao]
  cases b with
  | false => repeat' (first
    | with_reducible refine zas ?_ ?_
    | (unfold OKC; kernel_rfl)
    | (apply okc_up <;> (first | ((repeat (first | exact Sub.nil | apply Sub.gfp | apply Sub.same)); done) | kernel_rfl))
    | (unfold EDG; kernel_rfl)
    | (refine gt_if (fun h => ?_) (fun h => ?_) <;> (try simp only [h]))
    | (refine pt_if (fun h => ?_) (fun h => ?_) <;> (try simp only [h]))
    | (refine cd_if (fun h => ?_) (fun h => ?_) <;> (try simp only [h]))
    | (apply cg_tp
       case hl => rfl
       case ha => (simp only [zaf, zah, prepV, prepC, idx, hpL', lookR, zaa, if_true, if_false]; rfl)
       case hs => rfl
       case h => (first | exact h1 ..))
    | (apply cg_ts
       case hl => rfl
       case ha => (simp only [zaf, zah, prepV, prepC, idx, hpL', lookR, zaa, if_true, if_false]; rfl)
       case hs => (simp only [snaps_nil, zbj, zbl, SV.refs, zaQ, zaG, zaE, zap]; rfl)
       case h => (first | exact h1 ..)
       case hf => ((simp only [zad, zag, false_implies, implies_true, and_true, hpL', lookR, zaa, if_true, if_false]) <;> (repeat' apply zas) <;> (first | exact ⟨_, rfl, Ints_isG _⟩ | exact ⟨_, rfl, Cs_isG _⟩ | exact ⟨_, rfl, by simp [zbm]⟩))
       case hg => simp [SV.noG, SV.noGL, Cell.noG])
    | (apply cg_any
       case hl => rfl
       case ha => (intro hb; simp only [zaf, zah, cnd, hb, if_true, prepV, prepC, idx, hpL', lookR, zaa, if_false]; rfl)
       case hs => (intro hb; simp only [cnd, hb, if_true]; rfl)
       case h => (first | exact h1 ..))
    | (apply cg_show
       case hl => rfl
       case ha => (intro hb; simp only [zaf, zah, cnd, hb, if_true, prepV, prepC, idx, hpL', lookR, zaa, if_false]; rfl)
       case hs => (intro hb; simp only [cnd, hb, if_true, snaps_nil, zbj, zbl, SV.refs, zaQ, zaG, zaE, zap]; rfl)
       case h => (first | exact h1 ..)
       case hf => ((simp only [zad, zag, false_implies, implies_true, and_true, hpL', lookR, zaa, if_true, if_false]) <;> (repeat' apply zas) <;> (first | exact ⟨_, rfl, Ints_isG _⟩ | exact ⟨_, rfl, Cs_isG _⟩ | exact ⟨_, rfl, by simp [zbm]⟩))
       case hg => simp [SV.noG, SV.noGL, Cell.noG])
    | (apply cl_plain
       case hs => rfl
       case ha => (simp only [zaf, zah, prepV, prepC, idx, hpL', lookR, zaa, if_true, if_false]; rfl)
       case h => (first | exact h1 ..))
    | (apply cl_lend
       case hr => (simp only [zaf, zah, hpL', lookR, zaa, if_true, if_false]; first | exact map1 _ | exact map2 _ _ | exact map3 _ _ _)
       case ha => (simp only [zaf, zah, prepV, prepC, idx, hpL', lookR, zaa, if_true, if_false]; rfl)
       case hs => rfl
       case hn => decide
       case h => (first | exact h1 ..)
       case hf => (simp only [zad, zag, false_implies, implies_true, and_true, true_and, flat_cons, flat_nil, flat_ints, flat_bools, flat_app, Cs_flat, zaQ, and_self, eq_self_iff_true, zap])
       case hl => (simp only [zaw, zay]; decide))
    | (apply cl_show
       case ha => (simp only [zaf, zah, prepV, prepC, idx, hpL', lookR, zaa, if_true, if_false]; rfl)
       case hs => ((simp [snaps, SV.refs, zaQ, idx, hpL', lookR]) <;> (repeat' apply zas) <;> (first | exact Ints_isG _ | exact Cs_isG _))
       case h => (first | exact h1 ..)
       case hg => ((simp [SV.noG, SV.noGL, Cell.noG]) <;> (repeat' apply zas) <;> exact Ints_noG _))
    | ((first | refine s1_id ?_ | refine swp_id ?_ | refine sops_id ?_ | refine s2_id ?_); simp only [zaF, zaJ, zap, zaE, zaG, zaB, zaD, zaz, zaK, zaO, zaw, zay, go_sem, zaa, zai, zaj, zak, zal, zae, ↓reduceIte, reduceCtorEq, zab, zac, zam, zan, zao, zaS, zaR, zaA, zaP, renO, bk, back, outUpsFrom, Ints_ren])
    | (intros; omega)
    | (intros; (try simp only [zav, zax, zau, zat, zaq, zar, decide_eq_true_eq, decide_eq_false_iff_not] at *); omega)
    | exact fs_nil trivial rfl
    | (apply fs_nil <;> (try simp only [go_sem, resV, resS, zaS, zaR, zaA, zaX, zaT, idx, renO, zaP, evS, slot, lookR, zaa, ↓reduceIte, reduceCtorEq, if_true, if_false, zaM, zaN, zaf, zah, sLoad, readAt, readNeed, Ints_ren, Ints_length, Ints_getD, and_true, true_and, zaH, zaI]) <;> (try rfl))
    | fail)
  | true => repeat' (first
    | with_reducible refine zas ?_ ?_
    | (unfold OKC; kernel_rfl)
    | (apply okc_up <;> (first | ((repeat (first | exact Sub.nil | apply Sub.gfp | apply Sub.same)); done) | kernel_rfl))
    | (unfold EDG; kernel_rfl)
    | (refine gt_if (fun h => ?_) (fun h => ?_) <;> (try simp only [h]))
    | (refine pt_if (fun h => ?_) (fun h => ?_) <;> (try simp only [h]))
    | (refine cd_if (fun h => ?_) (fun h => ?_) <;> (try simp only [h]))
    | (apply cg_tp
       case hl => rfl
       case ha => (simp only [zaf, zah, prepV, prepC, idx, hpL', lookR, zaa, if_true, if_false]; rfl)
       case hs => rfl
       case h => (first | exact h1 ..))
    | (apply cg_ts
       case hl => rfl
       case ha => (simp only [zaf, zah, prepV, prepC, idx, hpL', lookR, zaa, if_true, if_false]; rfl)
       case hs => (simp only [snaps_nil, zbj, zbl, SV.refs, zaQ, zaG, zaE, zap]; rfl)
       case h => (first | exact h1 ..)
       case hf => ((simp only [zad, zag, false_implies, implies_true, and_true, hpL', lookR, zaa, if_true, if_false]) <;> (repeat' apply zas) <;> (first | exact ⟨_, rfl, Ints_isG _⟩ | exact ⟨_, rfl, Cs_isG _⟩ | exact ⟨_, rfl, by simp [zbm]⟩))
       case hg => simp [SV.noG, SV.noGL, Cell.noG])
    | (apply cg_any
       case hl => rfl
       case ha => (intro hb; simp only [zaf, zah, cnd, hb, if_true, prepV, prepC, idx, hpL', lookR, zaa, if_false]; rfl)
       case hs => (intro hb; simp only [cnd, hb, if_true]; rfl)
       case h => (first | exact h1 ..))
    | (apply cg_show
       case hl => rfl
       case ha => (intro hb; simp only [zaf, zah, cnd, hb, if_true, prepV, prepC, idx, hpL', lookR, zaa, if_false]; rfl)
       case hs => (intro hb; simp only [cnd, hb, if_true, snaps_nil, zbj, zbl, SV.refs, zaQ, zaG, zaE, zap]; rfl)
       case h => (first | exact h1 ..)
       case hf => ((simp only [zad, zag, false_implies, implies_true, and_true, hpL', lookR, zaa, if_true, if_false]) <;> (repeat' apply zas) <;> (first | exact ⟨_, rfl, Ints_isG _⟩ | exact ⟨_, rfl, Cs_isG _⟩ | exact ⟨_, rfl, by simp [zbm]⟩))
       case hg => simp [SV.noG, SV.noGL, Cell.noG])
    | (apply cl_plain
       case hs => rfl
       case ha => (simp only [zaf, zah, prepV, prepC, idx, hpL', lookR, zaa, if_true, if_false]; rfl)
       case h => (first | exact h1 ..))
    | (apply cl_lend
       case hr => (simp only [zaf, zah, hpL', lookR, zaa, if_true, if_false]; first | exact map1 _ | exact map2 _ _ | exact map3 _ _ _)
       case ha => (simp only [zaf, zah, prepV, prepC, idx, hpL', lookR, zaa, if_true, if_false]; rfl)
       case hs => rfl
       case hn => decide
       case h => (first | exact h1 ..)
       case hf => (simp only [zad, zag, false_implies, implies_true, and_true, true_and, flat_cons, flat_nil, flat_ints, flat_bools, flat_app, Cs_flat, zaQ, and_self, eq_self_iff_true, zap])
       case hl => (simp only [zaw, zay]; decide))
    | (apply cl_show
       case ha => (simp only [zaf, zah, prepV, prepC, idx, hpL', lookR, zaa, if_true, if_false]; rfl)
       case hs => ((simp [snaps, SV.refs, zaQ, idx, hpL', lookR]) <;> (repeat' apply zas) <;> (first | exact Ints_isG _ | exact Cs_isG _))
       case h => (first | exact h1 ..)
       case hg => ((simp [SV.noG, SV.noGL, Cell.noG]) <;> (repeat' apply zas) <;> exact Ints_noG _))
    | ((first | refine s1_id ?_ | refine swp_id ?_ | refine sops_id ?_ | refine s2_id ?_); simp only [zaF, zaJ, zap, zaE, zaG, zaB, zaD, zaz, zaK, zaO, zaw, zay, go_sem, zaa, zai, zaj, zak, zal, zae, ↓reduceIte, reduceCtorEq, zab, zac, zam, zan, zao, zaS, zaR, zaA, zaP, renO, bk, back, outUpsFrom, Ints_ren])
    | (intros; omega)
    | (intros; (try simp only [zav, zax, zau, zat, zaq, zar, decide_eq_true_eq, decide_eq_false_iff_not] at *); omega)
    | exact fs_nil trivial rfl
    | (apply fs_nil <;> (try simp only [go_sem, resV, resS, zaS, zaR, zaA, zaX, zaT, idx, renO, zaP, evS, slot, lookR, zaa, ↓reduceIte, reduceCtorEq, if_true, if_false, zaM, zaN, zaf, zah, sLoad, readAt, readNeed, Ints_ren, Ints_length, Ints_getD, and_true, true_and, zaH, zaI]) <;> (try rfl))
    | fail)
set_option maxHeartbeats 4000000 in
theorem within_spec (l : List Nd) (n : Int) (C : List Cd) (k : Option Nat) (g : Int) (hl : l.length ≤ 1000000) (hC : C.length ≤ 1000000) (hnm : NmR l) (hct : CtR l) : FnSpec Try.prog 42 [trV l none n, gr C k, i1 g] [] (gr (wiM l n C g) none) [] := by
  have h1 := tsub_spec l n g hl hnm hct
  have hsl := subM_len l n g
  unfold wiM
  generalize subM l n g = S at *
  have h2 := cd_cl C k hC
  have h3 := delf_spec 62 [.gsl (Ints S) 0 S.length none] (outF S) C (fun x _ => wi1_spec S x (by omega)) hC
  generalize C.filter (fun x => !outF S x) = R at *
  refine fnspec_of mixed TT_ok TT_cl ⟨fun _ => false, fun f => if f = 63 then [0] else [], 0 , fun _ => false, fun i => if i = 2 then true else false⟩ Try.func42 rfl (by kernel_rfl) rfl 17 rfl [.tmp 6] rfl ?_
  simp only [go_sem, zaa, zai, zaj, zak, zal, zae, ↓reduceIte, reduceCtorEq, zab, zac, zam, zan, zao]
  repeat' (first
 | (apply cl_plain
    case hs => rfl
    case ha => (simp only [zaf, zah, prepV, prepC, idx, hpL', lookR, zaa, if_true, if_false]; rfl)
    case h => (first | exact h1 ..))
 | ((first | refine s1_id ?_ | refine swp_id ?_ | refine sops_id ?_ | refine s2_id ?_); simp only [zaF, zaJ, zap, zaE, zaG, zaB, zaD, zaz, zaK, zaO, zaw, zay, go_sem, zaa, zai, zaj, zak, zal, zae, ↓reduceIte, reduceCtorEq, zab, zac, zam, zan, zao, zaS, zaR, zaA, zaP, renO, bk, back, outUpsFrom, Ints_ren])
 | (intros; (try simp only [zav, zax, zau, zat, zaq, zar, decide_eq_true_eq, decide_eq_false_iff_not] at *); omega))
  (refine rgf_t _ (imp_frz _ _ 5 ⟨[.gsl (Ints S) 0 S.length none], 1⟩ (by simp only [zaT, lookR, zaa, if_true, if_false, ↓reduceIte]) (by first | exact Ints_isG _ | exact Bools_isG _ | exact Cs_isG _ | (simp [zbm]; done))) ?_; simp only [frzTm, SV.frz, SV.frzL, zbo, frzHp, frzO, Ints_frz, Bools_frz, zaf, zah, zaa, if_true, if_false, ↓reduceIte])
  simp only [go_sem, zaa, zai, zaj, zak, zal, zae, ↓reduceIte, reduceCtorEq, zab, zac, zam, zan, zao]
  repeat' (first
 | (apply cl_plain
    case hs => rfl
    case ha => (simp only [zaf, zah, prepV, prepC, idx, hpL', lookR, zaa, if_true, if_false]; rfl)
    case h => (first | exact h2 .. | exact h3 ..))
 | (apply cl_lend
    case hr => (simp only [zaf, zah, hpL', lookR, zaa, if_true, if_false]; first | exact map1 _ | exact map2 _ _ | exact map3 _ _ _)
    case ha => (simp only [zaf, zah, prepV, prepC, idx, hpL', lookR, zaa, if_true, if_false]; rfl)
    case hs => rfl
    case hn => decide
    case h => (first | exact h2 .. | exact h3 ..)
    case hf => (simp only [zad, zag, false_implies, implies_true, and_true, true_and, flat_cons, flat_nil, flat_ints, flat_bools, flat_app, Cs_flat, zaQ, and_self, eq_self_iff_true, zap])
    case hl => (simp only [zaw, zay]; decide))
 | ((first | refine s1_id ?_ | refine swp_id ?_ | refine sops_id ?_ | refine s2_id ?_); simp only [zaF, zaJ, zap, zaE, zaG, zaB, zaD, zaz, zaK, zaO, zaw, zay, go_sem, zaa, zai, zaj, zak, zal, zae, ↓reduceIte, reduceCtorEq, zab, zac, zam, zan, zao, zaS, zaR, zaA, zaP, renO, bk, back, outUpsFrom, Ints_ren])
 | exact fs_nil trivial rfl
 | fail)
def mxF (t : Int) : Cd → List Cd → Cd
  | m, [] => m
  | m, x :: r => mxF t (if scr m t < scr x t then x else m) r
theorem vi1_spec (x y : Cd) (t : Int) (hx : cdk x = true) (hy : cdk y = true) (ht : pgk t = true) : FnSpec Try.prog 55 [cdt x, cdt y, .one (.gptr [int t] 0)] [] (i1 (cmpv (scr x t) (scr y t))) [] := by
  have h1 := score_spec x t hx ht
  have h2 := score_spec y t hy ht
  have h3 := cmp_spec (scr x t) (scr y t)
  generalize scr x t = u at *
  generalize scr y t = v at *
  clear hx hy
  obtain ⟨p, g, n, a⟩ := x
  obtain ⟨p', g', n', a'⟩ := y
  try simp only [cdt, cdc] at h1 h2 ⊢
  refine fnspec_of mixed TT_ok TT_cl ⟨fun _ => false, fun _ => [], 0, fun _ => false, fun _ => false⟩ Try.func55 rfl (by kernel_rfl) rfl 13 rfl [.tmp 5] rfl ?_
  simp only [go_sem, zaa, zai, zaj, zak, zal, zae, ↓reduceIte, reduceCtorEq, zab, zac, zam, zan, zao]
  repeat' (first
 | with_reducible refine zas ?_ ?_
 | (unfold OKC; kernel_rfl)
 | (unfold EDG; kernel_rfl)
 | (apply cl_plain
    case hs => rfl
    case ha => (simp only [zaf, zah, prepV, prepC, idx, hpL', lookR, zaa, if_true, if_false]; rfl)
    case h => (first | exact h1 .. | exact h2 .. | exact h3 ..))
 | ((first | refine s1_id ?_ | refine swp_id ?_ | refine sops_id ?_ | refine s2_id ?_); simp only [zaF, zaJ, zap, zaE, zaG, zaB, zaD, zaz, zaK, zaO, zaw, zay, go_sem, zaa, zai, zaj, zak, zal, zae, ↓reduceIte, reduceCtorEq, zab, zac, zam, zan, zao, zaS, zaR, zaA, zaP, renO, bk, back, outUpsFrom, Ints_ren])
 | exact fs_nil trivial rfl
 | fail)
theorem cmpv_gt (a b : Int) : decide (0 < cmpv a b) = decide (b < a) := by
  unfold cmpv
  split
  · rename_i h; rw [decide_eq_false (by decide), decide_eq_false (by omega)]
  · rename_i h
    split
    · rename_i h2; rw [decide_eq_true (by decide), decide_eq_true (by omega)]
    · rename_i h2; rw [decide_eq_false (by decide), decide_eq_false (by omega)]
theorem mxF_drop (t : Int) (m : Cd) (C : List Cd) (j : Nat) (h : j < C.length) : mxF t m (C.drop j) = mxF t (if scr m t < scr (gD C j) t then gD C j else m) (C.drop (j + 1)) := by
  rw [drop_getD C j zcd h]; rfl
set_option maxHeartbeats 8000000 in
theorem maxf_spec (C : List Cd) (k : Option Nat) (t : Int) (ht : pgk t = true) (hC : ∀ x ∈ C, cdk x = true) (h0 : 0 < C.length) (hl : C.length ≤ 1000000) : FnSpec Try.prog 57 [gr C k, .one (.fn 55 [.gptr [int t] 0])] [] (cdt (mxF t (gD C 0) (C.drop 1))) [] := by
  have hcl := cd_len C
  have hat0 : zbf 4 (Cs C) = cdc (gD C 0) := by have := cd_td C 0 h0; simpa using this
  have cz : ¬ (C.length : Int) < 1 := by omega
  have hk0 := hC _ (getD_mem C 0 zcd h0)
  obtain ⟨V, hV⟩ : ∃ V, mxF t (gD C 0) (C.drop 1) = V := ⟨_, rfl⟩
  rw [hV]
  obtain ⟨m0, hm0⟩ : ∃ m0, gD C 0 = m0 := ⟨_, rfl⟩
  rw [hm0] at hat0 hV
  have hk0 : cdk m0 = true := by rw [← hm0]; exact hk0
  have t0 : Int.toNat 0 = 0 := rfl
  have hat0' : zbf 4 (List.drop 0 (Cs C)) = cdc m0 := hat0
  obtain ⟨p, g, n, a⟩ := m0
  refine fnspec_of mixed TT_ok TT_cl ⟨fun _ => false, fun _ => [], 0, fun _ => false, fun _ => false⟩ Try.func57 rfl (by kernel_rfl) rfl 33 rfl [.cell 4 35] rfl ?_
  simp only [go_sem, zaa, zai, zaj, zak, zal, zae, ↓reduceIte, reduceCtorEq, zab, zac, zam, zan, zao, decide_eq_false cz, hat0, hat0', t0]
  repeat' (first
 | with_reducible refine zas ?_ ?_
 | (intros; omega)
 | (intros; (try simp only [zav, zax, zau, zat, zaq, zar, decide_eq_true_eq, decide_eq_false_iff_not] at *); omega))
  refine w_loop (ι := Nat × Cd) (fun s => ⟨[(0, gr C k), (1, .one (.fn 55 [.gptr [int t] 0])), (4, .one (.optr 0 0)), (5, .one (.optr 1 0)), (6, i1 s.1)], [(0, some ⟨[int 0, int 0, int 0, int 0], 4⟩), (1, some ⟨cdc s.2, 4⟩)], 2⟩) (fun s => s.1 ≤ C.length ∧ cdk s.2 = true ∧ mxF t s.2 (C.drop s.1) = V) (fun s => C.length - s.1) (1, ⟨p, g, n, a⟩) ?_ ⟨h0, hk0, hV⟩ ?_
  · (refine imp_ren _ _ _ [(0, 0, ⟨[int 0, int 0, int 0, int 0], 4⟩), (1, 7, ⟨[int p, int g, int n, int a], 4⟩)] (by simp) (by simp) (by simp) (zaC rfl) ?_ rfl (by simp only [zad, zag, false_implies, implies_true, and_true, zaT, lookR, zaa, if_true, if_false, ↓reduceIte] <;> (repeat' apply zas) <;> (first | rfl | trivial)) (by simp only [zad, zag, false_implies, implies_true, and_true, true_and, flat_cons, flat_nil, flat_ints, flat_bools, flat_app, zaQ, and_self, eq_self_iff_true, zap]); simp only [zaf, zah, zad, zag, false_implies, implies_true, and_true, lk, slot, zaS, zaA, toN, zaa, if_true, if_false, ↓reduceIte, reduceCtorEq])
    all_goals ((repeat' apply zas) <;> (first | rfl | trivial))
  rintro ⟨j, m⟩ ⟨hj, hmk, hI⟩
  simp only at hj hmk hI ⊢
  rcases zbe j C.length with hlt | hge
  case inr =>
    have c : ¬ (j : Int) < (C.length : Int) := by omega
    rw [zbc hge] at hI
    have hI : m = V := hI
    rw [← hI]
    obtain ⟨p', g', n', a'⟩ := m
    simp only [go_sem, zaa, zai, zaj, zak, zal, zae, ↓reduceIte, reduceCtorEq, zab, zac, zam, zan, zao, decide_eq_false c]
    repeat' (first
 | with_reducible refine zas ?_ ?_
 | (intros; omega)
 | (apply fs_nil <;> (try simp only [go_sem, resV, resS, zaS, zaR, zaA, zaX, zaT, idx, renO, zaP, evS, slot, lookR, zaa, ↓reduceIte, reduceCtorEq, if_true, if_false, zaM, zaN, zaf, zah, sLoad, readAt, readNeed, Ints_ren, Ints_length, Ints_getD, and_true, true_and, zaH, zaI]) <;> (try rfl))
 | fail)
  have c : (j : Int) < (C.length : Int) := by omega
  have hat := cd_td C j hlt
  have hxk : cdk (gD C j) = true := hC _ (getD_mem C j zcd hlt)
  have k1 := vi1_spec (gD C j) m t hxk hmk ht
  have k2 := cmpv_gt (scr (gD C j) t) (scr m t)
  rw [mxF_drop t m C j hlt] at hI
  generalize cmpv (scr (gD C j) t) (scr m t) = cv at *
  by_cases hgt : scr m t < scr (gD C j) t
  · rw [if_pos hgt] at hI
    rw [decide_eq_true hgt] at k2
    clear hgt
    generalize gD C j = x at *
    obtain ⟨p', g', n', a'⟩ := m
    obtain ⟨p2, g2, n2, a2⟩ := x
    simp only [cdc] at hat k1
    simp only [go_sem, zaa, zai, zaj, zak, zal, zae, ↓reduceIte, reduceCtorEq, zab, zac, zam, zan, zao, decide_eq_true c, hat, k2, cdc]
    repeat' (first
 | with_reducible refine zas ?_ ?_
 | (unfold OKC; kernel_rfl)
 | (unfold EDG; kernel_rfl)
 | (apply cl_plain
    case hs => rfl
    case ha => (simp only [zaf, zah, prepV, prepC, idx, hpL', lookR, zaa, if_true, if_false]; rfl)
    case h => (first | exact k1 ..))
 | ((first | refine s1_id ?_ | refine swp_id ?_ | refine sops_id ?_ | refine s2_id ?_); simp only [decide_eq_true c, hat, k2, cdc, zaF, zaJ, zap, zaE, zaG, zaB, zaD, zaz, zaK, zaO, zaw, zay, go_sem, zaa, zai, zaj, zak, zal, zae, ↓reduceIte, reduceCtorEq, zab, zac, zam, zan, zao, zaS, zaR, zaA, zaP, renO, bk, back, outUpsFrom, Ints_ren])
 | (intros; omega)
 | (intros; (try simp only [zav, zax, zau, zat, zaq, zar, decide_eq_true_eq, decide_eq_false_iff_not] at *); omega))
    refine le_mk (j + 1, ⟨p2, g2, n2, a2⟩) ?_ ⟨hlt, hxk, hI⟩ (by show C.length - (j + 1) < C.length - j; omega)
    (refine imp_ren _ _ _ [(0, 0, ⟨[int 0, int 0, int 0, int 0], 4⟩), (1, 1, ⟨[int p2, int g2, int n2, int a2], 4⟩)] (by simp) (by simp) (by simp) (zaC rfl) ?_ rfl (by simp only [zad, zag, false_implies, implies_true, and_true, zaT, lookR, zaa, if_true, if_false, ↓reduceIte] <;> (repeat' apply zas) <;> (first | rfl | trivial)) (by simp only [zad, zag, false_implies, implies_true, and_true, true_and, flat_cons, flat_nil, flat_ints, flat_bools, flat_app, zaQ, and_self, eq_self_iff_true, zap]); simp only [zaf, zah, zad, zag, false_implies, implies_true, and_true, lk, slot, zaS, zaA, toN, zaa, if_true, if_false, ↓reduceIte, reduceCtorEq])
    all_goals ((repeat' apply zas) <;> (first | rfl | trivial | (simp only [zaL]; done) | (simp only [zaL]; rfl) | (simp only [zaL]; trivial)))
  · rw [if_neg hgt] at hI
    rw [decide_eq_false hgt] at k2
    clear hgt
    generalize gD C j = x at *
    obtain ⟨p', g', n', a'⟩ := m
    obtain ⟨p2, g2, n2, a2⟩ := x
    simp only [cdc] at hat k1
    simp only [go_sem, zaa, zai, zaj, zak, zal, zae, ↓reduceIte, reduceCtorEq, zab, zac, zam, zan, zao, decide_eq_true c, hat, k2, cdc]
    repeat' (first
 | with_reducible refine zas ?_ ?_
 | (unfold OKC; kernel_rfl)
 | (unfold EDG; kernel_rfl)
 | (apply cl_plain
    case hs => rfl
    case ha => (simp only [zaf, zah, prepV, prepC, idx, hpL', lookR, zaa, if_true, if_false]; rfl)
    case h => (first | exact k1 ..))
 | ((first | refine s1_id ?_ | refine swp_id ?_ | refine sops_id ?_ | refine s2_id ?_); simp only [decide_eq_true c, hat, k2, cdc, zaF, zaJ, zap, zaE, zaG, zaB, zaD, zaz, zaK, zaO, zaw, zay, go_sem, zaa, zai, zaj, zak, zal, zae, ↓reduceIte, reduceCtorEq, zab, zac, zam, zan, zao, zaS, zaR, zaA, zaP, renO, bk, back, outUpsFrom, Ints_ren])
 | (intros; omega)
 | (intros; (try simp only [zav, zax, zau, zat, zaq, zar, decide_eq_true_eq, decide_eq_false_iff_not] at *); omega))
    refine le_mk (j + 1, ⟨p', g', n', a'⟩) ?_ ⟨hlt, hmk, hI⟩ (by show C.length - (j + 1) < C.length - j; omega)
    (refine imp_ren _ _ _ [(0, 0, ⟨[int 0, int 0, int 0, int 0], 4⟩), (1, 1, ⟨[int p', int g', int n', int a'], 4⟩)] (by simp) (by simp) (by simp) (zaC rfl) ?_ rfl (by simp only [zad, zag, false_implies, implies_true, and_true, zaT, lookR, zaa, if_true, if_false, ↓reduceIte] <;> (repeat' apply zas) <;> (first | rfl | trivial)) (by simp only [zad, zag, false_implies, implies_true, and_true, true_and, flat_cons, flat_nil, flat_ints, flat_bools, flat_app, zaQ, and_self, eq_self_iff_true, zap]); simp only [zaf, zah, zad, zag, false_implies, implies_true, and_true, lk, slot, zaS, zaA, toN, zaa, if_true, if_false, ↓reduceIte, reduceCtorEq])
    all_goals ((repeat' apply zas) <;> (first | rfl | trivial | (simp only [zaL]; done) | (simp only [zaL]; rfl) | (simp only [zaL]; trivial)))
end Go.Proofs.Ytlajelbiniakpaa
