/- Contracts of functions, told of values, on the way to ThrottleApart (part 8). -/
import Derived.Test.YtcnilpdlcmpbbaaGreatThrottleApartM3
import Derived.Test.YtcnilpdlcmpbbaaGreatThrottleApartM7
-- short names of the library's lemmas
open Nat renaming reduceEqDiff → zaa, reduceLeDiff → zad, reduceAdd → zaf, reduceSub → zag, reduceMul → zah, reduceLT → zai, le_of_ble_eq_true → zaz, zero_le → zaW
open List renaming reduceReplicate → zab, forall_mem_cons → zae, not_mem_nil → zam, map_cons → zan, map_nil → zao, append_nil → zax, length_cons → zaA, take_succ_cons → zaB, length_nil → zaC, set_cons_zero → zaD, set_cons_succ → zaE, cons_append → zaF, flatten_cons → zaG, nil_append → zaH, flatten_nil → zaJ, take_zero → zaK, take_nil → zaO
open Int renaming cast_ofNat_Int → zac, reduceEq → zaj, reduceLT → zak, reduceLE → zal, natCast_add → zaw, toNat_natCast → zaP
open Bool renaming and_eq_false_iff → zap, or_eq_false_iff → zaq, not_eq_false' → zar, and_eq_true → zas, not_eq_true' → zat, or_eq_true → zau, false_ne_true → zaI, not_eq_false → zaR, false_eq_true → zaS, true_and → zaU
open And renaming intro → zav
open Go.Proofs.YtcnilpdlcmpbbaaGreat.Sh.Cell renaming ren → zay, refs → zaQ, isG → zaV, frz → zaX
open Go.Proofs.YtcnilpdlcmpbbaaGreat.Sh.SV renaming ren → zaL, renL → zaM
open Go.Proofs.YtcnilpdlcmpbbaaGreat.Sh.Row renaming ren → zaN
open Go.Proofs.YtcnilpdlcmpbbaaGreat.Sh.St renaming hpF → zaT
-- NEWGO
-- PRUNE: cl_lendx cl_use cl_lend
-- ISG: Cs_isG
-- FLAT: Cs_flat
namespace Go.Proofs.YtcnilpdlcmpbbaaGreat
set_option linter.unusedVariables false
set_option linter.unusedSimpArgs false
open Go.Proofs.YtcnilpdlcmpbbaaGreat.Sh
set_option maxRecDepth 20000
set_option maxHeartbeats 4000000 in
theorem pl3_ix (g : FuncId) (c0 : List Cell) (c1 : List Cell) (c2 : List Cell) (q : Pl → Bool) (xs : List (Pl)) (hg : ∀ x ∈ xs, FnSpec Tryz.prog g [.agg (Rec.cs x), .one (.gptr c0 0), .one (.gptr c1 0), .one (.gptr c2 0)] [] (b1 (q x)) []) (cap : Option Nat)
    (hs : xs.length ≤ 9223372036854775807) : FnSpec Tryz.prog 62 [gr xs cap, .one (.fn g [.gptr c0 0, .gptr c1 0, .gptr c2 0])] [] (i1 (ixR q xs 0)) [] := by
  refine fnspec_of mixed TT_ok TT_cl ⟨fun _ => false, fun _ => [], 0, fun _ => false, fun _ => false⟩ Tryz.func62 rfl (by kernel_rfl) rfl 19 rfl [.tmp 4] rfl ?_
  simp only [go_sem, zaa, zaf, zag, zah, zai, zad, ↓reduceIte, reduceCtorEq, zab, zac, zaj, zak, zal]
  repeat' (first
 | (intros; (try simp only [zas, zau, zat, zar, zap, zaq, decide_eq_true_eq, decide_eq_false_iff_not] at *); omega))
  refine w_loop (ι := Nat) (fun i => ⟨[(0, gr xs cap), (1, .one (.fn g [.gptr c0 0, .gptr c1 0, .gptr c2 0])), (7, i1 xs.length), (8, i1 i)], [], 0⟩) (fun i => i ≤ xs.length ∧ ixR q xs 0 = ixR q (xs.drop i) i) (fun i => xs.length - i) 0 ?_ ⟨zaW _, rfl⟩ ?_
  · (refine imp_sub _ _ _ [] (by simp) (by simp) (by simp) (zaW _) ?_ rfl (by simp); simp only [zae, zam, false_implies, implies_true, and_true, lk, slot, zaL, zay, zaa, if_true, if_false, ↓reduceIte, reduceCtorEq])
    all_goals ((repeat' apply zav) <;> (first | rfl | trivial))
  rintro i ⟨hi, he⟩
  simp only at hi he ⊢
  rcases Nat.lt_or_ge i xs.length with hlt | hge
  case inr =>
    have hlt' : ¬ (i : Int) < (xs.length : Int) := by omega
    rw [List.drop_of_length_le hge] at he
    rw [he]
    simp only [go_sem, zaa, zaf, zag, zah, zai, zad, ↓reduceIte, reduceCtorEq, zab, zac, zaj, zak, zal, decide_eq_false hlt', ixR]
    repeat' (first
 | exact fs_nil trivial rfl
 | fail)
  have hlt' : (i : Int) < (xs.length : Int) := by omega
  have hcl : (Cs xs).length = xs.length * 10 := Cs_len xs
  have hat : List.take 10 (List.drop (i * 10) (Cs xs)) = Rec.cs (xs.getD i Rec.z) := Cs_td xs i hlt
  have hm := getD_mem xs i Rec.z hlt
  have hc := hg _ hm
  rw [drop_getD xs i Rec.z hlt, ixR] at he
  have hrl : (Rec.cs (xs.getD i Rec.z)).length = 10 := Rec.len _
  have hrg := Rec.g (xs.getD i Rec.z)
  generalize xs.getD i Rec.z = b at *
  have hcs : Rec.cs b = [int b.g, int b.q, int b.b, int b.s, int b.l, .gsl (Ints b.c) 0 b.c.length none, int b.sp, int b.pe, int b.th, bool b.em] := rfl
  rw [hcs] at hat hc
  clear hrl hrg
  cases hqb : q b with
  | true =>
    rw [hqb] at hc he
    simp only [if_true] at he
    rw [he]
    simp only [go_sem, zaa, zaf, zag, zah, zai, zad, ↓reduceIte, reduceCtorEq, zab, zac, zaj, zak, zal, decide_eq_true hlt', hat]
    repeat' (first
 | with_reducible refine zav ?_ ?_
 | (apply cl_plain
    case hs => rfl
    case ha => (simp only [zan, zao, prepV, prepC, idx, hpL', lookR, zaa, if_true, if_false]; rfl)
    case h => (first | exact hc ..))
 | ((first | refine s1_id ?_ | refine swp_id ?_ | refine sops_id ?_ | refine s2_id ?_); simp only [decide_eq_true hlt', hat, go_sem, zaa, zaf, zag, zah, zai, zad, ↓reduceIte, reduceCtorEq, zab, zac, zaj, zak, zal, zaL, zaM, zay, zaN, renO, bk, back, outUpsFrom, Ints_ren])
 | (intros; omega)
 | exact fs_nil trivial rfl
 | fail)
  | false =>
    rw [hqb] at hc he
    simp only [zaS, if_false] at he
    simp only [go_sem, zaa, zaf, zag, zah, zai, zad, ↓reduceIte, reduceCtorEq, zab, zac, zaj, zak, zal, decide_eq_true hlt', hat]
    repeat' (first
 | with_reducible refine zav ?_ ?_
 | (apply cl_plain
    case hs => rfl
    case ha => (simp only [zan, zao, prepV, prepC, idx, hpL', lookR, zaa, if_true, if_false]; rfl)
    case h => (first | exact hc ..))
 | ((first | refine s1_id ?_ | refine swp_id ?_ | refine sops_id ?_ | refine s2_id ?_); simp only [decide_eq_true hlt', hat, go_sem, zaa, zaf, zag, zah, zai, zad, ↓reduceIte, reduceCtorEq, zab, zac, zaj, zak, zal, zaL, zaM, zay, zaN, renO, bk, back, outUpsFrom, Ints_ren])
 | (intros; omega)
 | (intros; (try simp only [zas, zau, zat, zar, zap, zaq, decide_eq_true_eq, decide_eq_false_iff_not] at *); omega))
    refine le_mk (i + 1) ?_ ⟨by omega, he⟩ (by omega)
    (refine imp_sub _ _ _ [] (by simp) (by simp) (by simp) (zaW _) ?_ rfl (by simp); simp only [zae, zam, false_implies, implies_true, and_true, lk, slot, zaL, zay, zaa, if_true, if_false, ↓reduceIte, reduceCtorEq])
    all_goals ((repeat' apply zav) <;> (first | rfl | trivial | (simp only [zaw]; done) | (simp only [zaw]; rfl) | (simp only [zaw]; trivial)))
def usb (id s c : Int) (x : Pl) : Bool := decide (x.g = id) && (decide (x.s = s) && (decide ((x.c.length : Int) = c) && pck x))
set_option maxHeartbeats 4000000 in
theorem sync1_spec (x : Pl) (y : Nd) (s cp : Int) : FnSpec Tryz.prog 60 [.agg (Rec.cs x), .one (.gptr (ndc y) 0), .one (.gptr [int s] 0), .one (.gptr [int cp] 0)] [] (b1 (usb y.i s cp x)) [] := by
  show FnSpec Tryz.prog 60 [.agg (plc x none), .one (.gptr (ndc y) 0), .one (.gptr [int s] 0), .one (.gptr [int cp] 0)] [] (b1 (usb y.i s cp x)) []
  have h1 := check_spec x none
  unfold usb
  generalize pck x = P at *
  obtain ⟨a, b, c, d, e, f, g1, h1', i1', j1⟩ := x
  obtain ⟨yi, yp, yn, yc, yk, yo⟩ := y
  simp only [plc, plt, ndc] at h1 ⊢
  by_cases k0 : a = yi
  case neg =>
    rw [decide_eq_false k0]
    refine fnspec_of mixed TT_ok TT_cl ⟨fun _ => false, fun _ => [], 0, fun _ => false, fun _ => false⟩ Tryz.func60 rfl (by kernel_rfl) rfl 28 rfl [.tmp 5] rfl ?_
    simp only [go_sem, zaa, zaf, zag, zah, zai, zad, ↓reduceIte, reduceCtorEq, zab, zac, zaj, zak, zal, decide_eq_false k0]
    repeat' (first
 | exact fs_nil trivial rfl
 | fail)
  by_cases k1 : d = s
  case neg =>
    rw [decide_eq_true k0, decide_eq_false k1]
    refine fnspec_of mixed TT_ok TT_cl ⟨fun _ => false, fun _ => [], 0, fun _ => false, fun _ => false⟩ Tryz.func60 rfl (by kernel_rfl) rfl 28 rfl [.tmp 5] rfl ?_
    simp only [go_sem, zaa, zaf, zag, zah, zai, zad, ↓reduceIte, reduceCtorEq, zab, zac, zaj, zak, zal, decide_eq_true k0, decide_eq_false k1]
    repeat' (first
 | exact fs_nil trivial rfl
 | fail)
  by_cases k2 : (f.length : Int) = cp
  case neg =>
    rw [decide_eq_true k0, decide_eq_true k1, decide_eq_false k2]
    refine fnspec_of mixed TT_ok TT_cl ⟨fun _ => false, fun _ => [], 0, fun _ => false, fun _ => false⟩ Tryz.func60 rfl (by kernel_rfl) rfl 28 rfl [.tmp 5] rfl ?_
    simp only [go_sem, zaa, zaf, zag, zah, zai, zad, ↓reduceIte, reduceCtorEq, zab, zac, zaj, zak, zal, decide_eq_true k0, decide_eq_true k1, decide_eq_false k2]
    repeat' (first
 | exact fs_nil trivial rfl
 | fail)
  rw [decide_eq_true k0, decide_eq_true k1, decide_eq_true k2, zaU, zaU, zaU]
  refine fnspec_of mixed TT_ok TT_cl ⟨fun _ => false, fun _ => [], 0, fun _ => false, fun _ => false⟩ Tryz.func60 rfl (by kernel_rfl) rfl 28 rfl [.tmp 5] rfl ?_
  simp only [go_sem, zaa, zaf, zag, zah, zai, zad, ↓reduceIte, reduceCtorEq, zab, zac, zaj, zak, zal, decide_eq_true k0, decide_eq_true k1, decide_eq_true k2]
  repeat' (first
 | (apply cg_tp
    case hl => rfl
    case ha => (simp only [zan, zao, prepV, prepC, idx, hpL', lookR, zaa, if_true, if_false]; rfl)
    case hs => rfl
    case h => (first | exact h1 ..))
 | ((first | refine s1_id ?_ | refine swp_id ?_ | refine sops_id ?_ | refine s2_id ?_); simp only [decide_eq_true k0, decide_eq_true k1, decide_eq_true k2, zaG, zaJ, zax, zaF, zaH, zaD, zaE, zaB, zaK, zaO, zaA, zaC, go_sem, zaa, zaf, zag, zah, zai, zad, ↓reduceIte, reduceCtorEq, zab, zac, zaj, zak, zal, zaL, zaM, zay, zaN, renO, bk, back, outUpsFrom, Ints_ren])
 | exact fs_nil trivial rfl
 | fail)
def syE (l : List Nd) (P : List Pl) (q b : List Int) (s c : Int) (i : Nat) : Pl × Int :=
  if ixR (usb (gN l i).i s c) P 0 < 0 then pnew (gN l i).i (q.getD i 0) (b.getD i 0) s c else pchange (gP P (ixR (usb (gN l i).i s c) P 0).toNat) (q.getD i 0) (b.getD i 0)
def syN (E : Nat → Pl × Int) (m : Nat) : List Pl := (List.range m).map fun i => (E i).1
def thSy (l : List Nd) (n : Int) (P : List Pl) (q b : List Int) (s c : Int) : List Pl × Int :=
  if (chkT l n && (decide (q.length = l.length) && decide (b.length = l.length))) = true then
    (if allN l.length (fun i => decide ((syE l P q b s c i).2 = 0)) = true then (syN (syE l P q b s c) l.length, 0) else ([], 3)) else ([], 1)
theorem syN_len (E : Nat → Pl × Int) (m : Nat) : (syN E m).length = m := by simp [syN]
theorem syN_suc (E : Nat → Pl × Int) (m : Nat) : syN E (m + 1) = syN E m ++ [(E m).1] := by simp [syN, List.range_succ]
theorem usb_iff {id s c : Int} {x : Pl} : usb id s c x = true ↔ x.g = id ∧ x.s = s ∧ (x.c.length : Int) = c ∧ pck x = true := by
  unfold usb
  simp only [zas, decide_eq_true_eq]
theorem syE_e (l : List Nd) (P : List Pl) (q b : List Int) (s c : Int) (i : Nat) : (syE l P q b s c i).2 = 0 ∨ (syE l P q b s c i).2 = 3 := by
  unfold syE
  split
  · exact pnew_e _ _ _ _ _
  · rename_i h
    rcases ixR_at (usb (gN l i).i s c) zpl P 0 with ⟨h1, _⟩ | ⟨k, h1, h2, h3, _⟩
    · omega
    · rw [Nat.zero_add] at h1
      rw [h1, zaP]
      have := (usb_iff.1 h3).2.2.2
      unfold pchange
      rw [if_neg (by rw [show pck (gP P k) = true from this]; decide)]
      split <;> simp
set_option maxHeartbeats 16000000 in
theorem thsync_spec (l : List Nd) (n : Int) (P : List Pl) (k : Option Nat) (q b : List Int) (s cp : Int) (kq kb : Option Nat) (hl : l.length ≤ 1000000) (hP : P.length ≤ 1000000) (hq : q.length ≤ 9223372036854775807) (hb : b.length ≤ 9223372036854775807) (hnm : NmR l) (hct : CtR l) : FnSpec Tryz.prog 27 [trV l none n, gr P k, gi q kq, gi b kb, i1 s, i1 cp] [] (.tup [gr (thSy l n P q b s cp).1 none, i1 (thSy l n P q b s cp).2]) [] := by
  have h1 := tchk_spec l n hl hnm hct
  have hnl := nd_len l
  have hpl := pl_len P
  unfold thSy
  cases hk : chkT l n with
  | false =>
    rw [hk] at h1
    rw [Bool.false_and, if_neg zaI]
    refine fnspec_of mixed TT_ok TT_cl ⟨fun _ => false, fun _ => [], 0, fun _ => false, fun _ => false⟩ Tryz.func27 rfl (by kernel_rfl) rfl 95 rfl [.tmp 12, .tmp 13] rfl ?_
    simp only [go_sem, zaa, zaf, zag, zah, zai, zad, ↓reduceIte, reduceCtorEq, zab, zac, zaj, zak, zal]
    repeat' (first
 | (apply cl_plain
    case hs => rfl
    case ha => (simp only [zan, zao, prepV, prepC, idx, hpL', lookR, zaa, if_true, if_false]; rfl)
    case h => (first | exact h1 ..))
 | ((first | refine s1_id ?_ | refine swp_id ?_ | refine sops_id ?_ | refine s2_id ?_); simp only [go_sem, zaa, zaf, zag, zah, zai, zad, ↓reduceIte, reduceCtorEq, zab, zac, zaj, zak, zal, zaL, zaM, zay, zaN, renO, bk, back, outUpsFrom, Ints_ren])
 | (intros; (try simp only [zas, zau, zat, zar, zap, zaq, decide_eq_true_eq, decide_eq_false_iff_not] at *); omega))
    repeat' (first
 | exact fs_w trivial (svw_of (zav cw_gnil (zav (cw_rfl _) trivial)))
 | fail)
  | true =>
  rw [hk] at h1
  rw [zaU]
  by_cases c1 : q.length = l.length
  case neg =>
    have c1' : ¬ (q.length : Int) = (l.length : Int) := by omega
    rw [decide_eq_false c1, Bool.false_and, if_neg zaI]
    refine fnspec_of mixed TT_ok TT_cl ⟨fun _ => false, fun _ => [], 0, fun _ => false, fun _ => false⟩ Tryz.func27 rfl (by kernel_rfl) rfl 95 rfl [.tmp 12, .tmp 13] rfl ?_
    simp only [go_sem, zaa, zaf, zag, zah, zai, zad, ↓reduceIte, reduceCtorEq, zab, zac, zaj, zak, zal, decide_eq_false c1']
    repeat' (first
 | (apply cl_plain
    case hs => rfl
    case ha => (simp only [zan, zao, prepV, prepC, idx, hpL', lookR, zaa, if_true, if_false]; rfl)
    case h => (first | exact h1 ..))
 | ((first | refine s1_id ?_ | refine swp_id ?_ | refine sops_id ?_ | refine s2_id ?_); simp only [decide_eq_false c1', go_sem, zaa, zaf, zag, zah, zai, zad, ↓reduceIte, reduceCtorEq, zab, zac, zaj, zak, zal, zaL, zaM, zay, zaN, renO, bk, back, outUpsFrom, Ints_ren])
 | (intros; (try simp only [zas, zau, zat, zar, zap, zaq, decide_eq_true_eq, decide_eq_false_iff_not] at *); omega))
    repeat' (first
 | exact fs_w trivial (svw_of (zav cw_gnil (zav (cw_rfl _) trivial)))
 | fail)
  have c1' : (q.length : Int) = (l.length : Int) := by omega
  rw [decide_eq_true c1, zaU]
  by_cases c2 : b.length = l.length
  case neg =>
    have c2' : ¬ (b.length : Int) = (l.length : Int) := by omega
    rw [decide_eq_false c2, if_neg zaI]
    refine fnspec_of mixed TT_ok TT_cl ⟨fun _ => false, fun _ => [], 0, fun _ => false, fun _ => false⟩ Tryz.func27 rfl (by kernel_rfl) rfl 95 rfl [.tmp 12, .tmp 13] rfl ?_
    simp only [go_sem, zaa, zaf, zag, zah, zai, zad, ↓reduceIte, reduceCtorEq, zab, zac, zaj, zak, zal, decide_eq_true c1', decide_eq_false c2']
    repeat' (first
 | (apply cl_plain
    case hs => rfl
    case ha => (simp only [zan, zao, prepV, prepC, idx, hpL', lookR, zaa, if_true, if_false]; rfl)
    case h => (first | exact h1 ..))
 | ((first | refine s1_id ?_ | refine swp_id ?_ | refine sops_id ?_ | refine s2_id ?_); simp only [decide_eq_true c1', decide_eq_false c2', go_sem, zaa, zaf, zag, zah, zai, zad, ↓reduceIte, reduceCtorEq, zab, zac, zaj, zak, zal, zaL, zaM, zay, zaN, renO, bk, back, outUpsFrom, Ints_ren])
 | (intros; (try simp only [zas, zau, zat, zar, zap, zaq, decide_eq_true_eq, decide_eq_false_iff_not] at *); omega))
    repeat' (first
 | exact fs_w trivial (svw_of (zav cw_gnil (zav (cw_rfl _) trivial)))
 | fail)
  have c2' : (b.length : Int) = (l.length : Int) := by omega
  rw [decide_eq_true c2, if_pos rfl]
  refine fnspec_of mixed TT_ok TT_cl ⟨fun _ => false, fun _ => [], 0 , fun _ => false, fun i => if i = 7 then true else false⟩ Tryz.func27 rfl (by kernel_rfl) rfl 95 rfl [.tmp 12, .tmp 13] rfl ?_
  simp only [go_sem, zaa, zaf, zag, zah, zai, zad, ↓reduceIte, reduceCtorEq, zab, zac, zaj, zak, zal, decide_eq_true c1', decide_eq_true c2']
  repeat' (first
 | (apply cl_plain
    case hs => rfl
    case ha => (simp only [zan, zao, prepV, prepC, idx, hpL', lookR, zaa, if_true, if_false]; rfl)
    case h => (first | exact h1 ..))
 | ((first | refine s1_id ?_ | refine swp_id ?_ | refine sops_id ?_ | refine s2_id ?_); simp only [decide_eq_true c1', decide_eq_true c2', go_sem, zaa, zaf, zag, zah, zai, zad, ↓reduceIte, reduceCtorEq, zab, zac, zaj, zak, zal, zaL, zaM, zay, zaN, renO, bk, back, outUpsFrom, Ints_ren])
 | (intros; (try simp only [zas, zau, zat, zar, zap, zaq, decide_eq_true_eq, decide_eq_false_iff_not] at *); omega))
  refine w_loop (ι := Nat) (fun m => ⟨[(1, gr P k), (2, gi q kq), (3, gi b kb), (10, .one (.gptr [int s] 0)), (11, .one (.gptr [int cp] 0)), (14, .one (.osl 0 0 m none)), (41, gr l none), (42, i1 l.length), (43, i1 m)], [(0, some ⟨Cs (syN (syE l P q b s cp) m), 10⟩)], 1⟩) (fun m => m ≤ l.length ∧ ∀ i, i < m → (syE l P q b s cp i).2 = 0) (fun m => l.length - m) 0 ?_ ⟨zaW _, fun i hi => absurd hi (Nat.not_lt_zero _)⟩ ?_
  · (refine Imp.trans (imp_frz _ _ 1 ⟨[int s], 1⟩ (by simp only [zaT, lookR, zaa, if_true, if_false, ↓reduceIte]) (by first | exact Ints_isG _ | exact Bools_isG _ | exact Cs_isG _ | (simp [zaV]; done))) ?_; simp only [frzTm, SV.frz, SV.frzL, zaX, frzHp, frzO, Ints_frz, Bools_frz, zan, zao, zaa, if_true, if_false, ↓reduceIte])
    (refine Imp.trans (imp_frz _ _ 2 ⟨[int cp], 1⟩ (by simp only [zaT, lookR, zaa, if_true, if_false, ↓reduceIte]) (by first | exact Ints_isG _ | exact Bools_isG _ | exact Cs_isG _ | (simp [zaV]; done))) ?_; simp only [frzTm, SV.frz, SV.frzL, zaX, frzHp, frzO, Ints_frz, Bools_frz, zan, zao, zaa, if_true, if_false, ↓reduceIte])
    (refine Imp.trans (imp_nilA _ _ 14 10 99 (by simp only []; omega) rfl) ?_)
    (refine imp_ren _ _ _ [(0, 99, ⟨[], 10⟩)] (by simp) (by simp) (by simp) (zaz rfl) ?_ rfl (by simp only [zae, zam, false_implies, implies_true, and_true, zaT, lookR, zaa, if_true, if_false, ↓reduceIte] <;> (repeat' apply zav) <;> (first | rfl | trivial)) (by simp only [zae, zam, false_implies, implies_true, and_true, true_and, flat_cons, flat_nil, flat_ints, flat_bools, flat_app, zaQ, and_self, eq_self_iff_true, zax]); simp only [zan, zao, zae, zam, false_implies, implies_true, and_true, lk, slot, zaL, zay, toN, zaa, if_true, if_false, ↓reduceIte, reduceCtorEq])
    all_goals ((repeat' apply zav) <;> (first | rfl | trivial))
  clear h1
  rintro m ⟨hm, hI⟩
  simp only at hm hI ⊢
  rcases Nat.lt_or_ge m l.length with hlt | hge
  case inr =>
    have c : ¬ (m : Int) < (l.length : Int) := by omega
    obtain rfl : m = l.length := by omega
    rw [if_pos ((allN_iff _ _).2 fun i hi => decide_eq_true (hI i hi))]
    have hRl := syN_len (syE l P q b s cp) l.length
    generalize syN (syE l P q b s cp) l.length = R at *
    simp only [go_sem, zaa, zaf, zag, zah, zai, zad, ↓reduceIte, reduceCtorEq, zab, zac, zaj, zak, zal, decide_eq_false c]
    repeat' (first
 | (intros; (try simp only [zas, zau, zat, zar, zap, zaq, decide_eq_true_eq, decide_eq_false_iff_not] at *); omega))
    (refine fs_frz 0 ⟨Cs R, 10⟩ (by simp only [zaT, lookR, zaa, if_true, if_false, ↓reduceIte]) (by first | exact Ints_isG _ | exact Bools_isG _ | exact Cs_isG _ | (simp [zaV]; done)) ?_; simp only [frzTm, SV.frz, SV.frzL, zaX, frzHp, frzO, Ints_frz, Bools_frz, zan, zao, zaa, if_true, if_false, ↓reduceIte])
    apply fs_nil <;> (try simp only [go_sem, resV, resS, zaL, zaM, zay, St.tmF, zaT, idx, renO, zaN, evS, slot, lookR, zaa, ↓reduceIte, reduceCtorEq, if_true, if_false, Option.getD_some, Option.getD_none, zan, zao, sLoad, readAt, readNeed, Ints_ren, Ints_length, Ints_getD, and_true, true_and, List.getD_cons_zero, List.getD_cons_succ]) <;> (try rfl)
    show SV.tup [.one (.gsl (Cs R) 0 l.length none), i1 0] = SV.tup [.one (.gsl (Cs R) 0 R.length none), i1 0]
    rw [hRl]
  have c : (m : Int) < (l.length : Int) := by omega
  have hT := nd_td l m hlt
  have hee : syE l P q b s cp m = if ixR (usb (gN l m).i s cp) P 0 < 0 then pnew (gN l m).i (q.getD m 0) (b.getD m 0) s cp else pchange (gP P (ixR (usb (gN l m).i s cp) P 0).toNat) (q.getD m 0) (b.getD m 0) := rfl
  have he3 := syE_e l P q b s cp m
  have hsu := syN_suc (syE l P q b s cp) m
  have hno : (syE l P q b s cp m).2 ≠ 0 → allN l.length (fun i => decide ((syE l P q b s cp i).2 = 0)) = false := fun hf => Bool.eq_false_iff.2 fun h => hf (of_decide_eq_true ((allN_iff _ _).1 h m hlt))
  have hcq : (m : Int) < (q.length : Int) := by omega
  have hcb : (m : Int) < (b.length : Int) := by omega
  have hix := pl3_ix 60 (ndc (gN l m)) [int s] [int cp] (usb (gN l m).i s cp) P (fun x _ => sync1_spec x (gN l m) s cp) k (by omega)
  have h2 := new_spec (gN l m).i (q.getD m 0) (b.getD m 0) s cp
  have hll := syN_len (syE l P q b s cp) m
  have htk : List.take (m * 10) (Cs (syN (syE l P q b s cp) m)) = Cs (syN (syE l P q b s cp) m) := Cs_all _ _ (by rw [hll]; exact Nat.le_refl _)
  have hpc := pl_len (syN (syE l P q b s cp) m)
  rw [hll] at hpc
  have hI2 : (syE l P q b s cp m).2 = 0 → ∀ i, i < m + 1 → (syE l P q b s cp i).2 = 0 := fun h0 i hi => by
    rcases Nat.lt_succ_iff_lt_or_eq.1 hi with h | h
    · exact hI i h
    · rw [h]; exact h0
  rcases ixR_at (usb (gN l m).i s cp) zpl P 0 with ⟨e1, _⟩ | ⟨t, e1, ht, _, _⟩
  · rw [e1, if_pos (by omega)] at hee
    rw [e1] at hix
    rw [← hee] at h2
    generalize hE : syE l P q b s cp = E at *
    generalize hr : E m = r at *
    obtain ⟨⟨s0, s1, s2, s3, s4, s5, s6, s7, s8, s9⟩, r2⟩ := r
    simp only at he3 hno hsu
    simp only [plc, plt, pre] at h2
    generalize gN l m = y at *
    obtain ⟨yi, yp, yn, yc, yk, yo⟩ := y
    simp only [ndc] at hT hix
    simp only at h2
    clear hee
    by_cases k0 : r2 = 0
    case neg =>
      obtain rfl : r2 = 3 := by omega
      rw [hno (by decide)]
      simp only [zaS, if_false, go_sem, zaa, zaf, zag, zah, zai, zad, ↓reduceIte, reduceCtorEq, zab, zac, zaj, zak, zal, decide_eq_true c, hT]
      repeat' (first
 | with_reducible refine zav ?_ ?_
 | (intros; omega)
 | (intros; (try simp only [zas, zau, zat, zar, zap, zaq, decide_eq_true_eq, decide_eq_false_iff_not] at *); omega))
      (refine rgf_t _ (imp_frz _ _ 5 ⟨[int yi, int yp, st yn, int yc, int yk, int yo], 6⟩ (by simp only [zaT, lookR, zaa, if_true, if_false, ↓reduceIte]) (by first | exact Ints_isG _ | exact Bools_isG _ | exact Cs_isG _ | (simp [zaV]; done))) ?_; simp only [frzTm, SV.frz, SV.frzL, zaX, frzHp, frzO, Ints_frz, Bools_frz, zan, zao, zaa, if_true, if_false, ↓reduceIte])
      simp only [go_sem, zaa, zaf, zag, zah, zai, zad, ↓reduceIte, reduceCtorEq, zab, zac, zaj, zak, zal]
      repeat' (first
 | with_reducible refine zav ?_ ?_
 | (unfold OKC; kernel_rfl)
 | (unfold EDG; kernel_rfl)
 | (apply cl_plain
    case hs => rfl
    case ha => (simp only [zan, zao, prepV, prepC, idx, hpL', lookR, zaa, if_true, if_false]; rfl)
    case h => (first | exact hix .. | exact h2 ..))
 | ((first | refine s1_id ?_ | refine swp_id ?_ | refine sops_id ?_ | refine s2_id ?_); simp only [zaG, zaJ, zax, zaF, zaH, zaD, zaE, zaB, zaK, zaO, zaA, zaC, go_sem, zaa, zaf, zag, zah, zai, zad, ↓reduceIte, reduceCtorEq, zab, zac, zaj, zak, zal, zaL, zaM, zay, zaN, renO, bk, back, outUpsFrom, Ints_ren])
 | (intros; omega)
 | (intros; (try simp only [zas, zau, zat, zar, zap, zaq, decide_eq_true_eq, decide_eq_false_iff_not] at *); omega))
      repeat' (first
 | exact fs_w trivial (svw_of (zav cw_gnil (zav (cw_rfl _) trivial)))
 | fail)
    subst k0
    have hpp : Cs (syN E m) ++ [int s0, int s1, int s2, int s3, int s4, .gsl (Ints s5) 0 s5.length none, int s6, int s7, int s8, .sc (.bool s9)] = Cs (syN E (m + 1)) := by
      rw [hsu]; exact Cs_snoc _ (⟨s0, s1, s2, s3, s4, s5, s6, s7, s8, s9⟩ : Pl)
    generalize syN E m = C at *
    simp only [go_sem, zaa, zaf, zag, zah, zai, zad, ↓reduceIte, reduceCtorEq, zab, zac, zaj, zak, zal, decide_eq_true c, hT]
    repeat' (first
 | with_reducible refine zav ?_ ?_
 | (intros; omega)
 | (intros; (try simp only [zas, zau, zat, zar, zap, zaq, decide_eq_true_eq, decide_eq_false_iff_not] at *); omega))
    (refine rgf_t _ (imp_frz _ _ 5 ⟨[int yi, int yp, st yn, int yc, int yk, int yo], 6⟩ (by simp only [zaT, lookR, zaa, if_true, if_false, ↓reduceIte]) (by first | exact Ints_isG _ | exact Bools_isG _ | exact Cs_isG _ | (simp [zaV]; done))) ?_; simp only [frzTm, SV.frz, SV.frzL, zaX, frzHp, frzO, Ints_frz, Bools_frz, zan, zao, zaa, if_true, if_false, ↓reduceIte])
    simp only [go_sem, zaa, zaf, zag, zah, zai, zad, ↓reduceIte, reduceCtorEq, zab, zac, zaj, zak, zal]
    repeat' (first
 | with_reducible refine zav ?_ ?_
 | (unfold OKC; kernel_rfl)
 | (unfold EDG; kernel_rfl)
 | (apply cl_plain
    case hs => rfl
    case ha => (simp only [zan, zao, prepV, prepC, idx, hpL', lookR, zaa, if_true, if_false]; rfl)
    case h => (first | exact hix .. | exact h2 ..))
 | ((first | refine s1_id ?_ | refine swp_id ?_ | refine sops_id ?_ | refine s2_id ?_); simp only [htk, hpp, zaG, zaJ, zax, zaF, zaH, zaD, zaE, zaB, zaK, zaO, zaA, zaC, go_sem, zaa, zaf, zag, zah, zai, zad, ↓reduceIte, reduceCtorEq, zab, zac, zaj, zak, zal, zaL, zaM, zay, zaN, renO, bk, back, outUpsFrom, Ints_ren])
 | (intros; omega)
 | (intros; (try simp only [zas, zau, zat, zar, zap, zaq, decide_eq_true_eq, decide_eq_false_iff_not] at *); omega))
    refine le_mk (m + 1) ?_ ⟨hlt, hI2 rfl⟩ (by omega)
    (refine imp_ren _ _ _ [(0, 41, ⟨Cs (syN E (m + 1)), 10⟩)] (by simp) (by simp) (by simp) (zaz rfl) ?_ rfl (by simp only [zae, zam, false_implies, implies_true, and_true, zaT, lookR, zaa, if_true, if_false, ↓reduceIte, Cs_flat] <;> (repeat' apply zav) <;> (first | rfl | trivial)) (by simp only [zae, zam, false_implies, implies_true, and_true, true_and, flat_cons, flat_nil, flat_ints, flat_bools, flat_app, zaQ, and_self, eq_self_iff_true, zax, Cs_flat]); simp only [zan, zao, zae, zam, false_implies, implies_true, and_true, lk, slot, zaL, zay, toN, zaa, if_true, if_false, ↓reduceIte, reduceCtorEq])
    all_goals ((repeat' apply zav) <;> (first | rfl | trivial | (simp only [zaw]; done) | (simp only [zaw]; rfl) | (simp only [zaw]; trivial)))
  · rw [Nat.zero_add] at e1
    rw [e1, if_neg (by omega), zaP] at hee
    rw [e1] at hix
    have h5 := change_spec (gP P t) none (q.getD m 0) (b.getD m 0)
    rw [← hee] at h5
    have hTt := pl_td P t ht
    have ct : ¬ (t : Int) < 0 := by omega
    generalize hE : syE l P q b s cp = E at *
    generalize hr : E m = r at *
    obtain ⟨⟨s0, s1, s2, s3, s4, s5, s6, s7, s8, s9⟩, r2⟩ := r
    simp only at he3 hno hsu
    generalize gN l m = y at *
    obtain ⟨yi, yp, yn, yc, yk, yo⟩ := y
    generalize gP P t = x at *
    obtain ⟨a0, a1, a2, a3, a4, a5, a6, a7, a8, a9⟩ := x
    simp only [plc, plt, pre] at h5 hTt
    simp only [ndc] at hT hix
    clear hee h2
    by_cases k0 : r2 = 0
    case neg =>
      obtain rfl : r2 = 3 := by omega
      rw [hno (by decide)]
      simp only [zaS, if_false, go_sem, zaa, zaf, zag, zah, zai, zad, ↓reduceIte, reduceCtorEq, zab, zac, zaj, zak, zal, decide_eq_true c, hT]
      repeat' (first
 | with_reducible refine zav ?_ ?_
 | (intros; omega)
 | (intros; (try simp only [zas, zau, zat, zar, zap, zaq, decide_eq_true_eq, decide_eq_false_iff_not] at *); omega))
      (refine rgf_t _ (imp_frz _ _ 5 ⟨[int yi, int yp, st yn, int yc, int yk, int yo], 6⟩ (by simp only [zaT, lookR, zaa, if_true, if_false, ↓reduceIte]) (by first | exact Ints_isG _ | exact Bools_isG _ | exact Cs_isG _ | (simp [zaV]; done))) ?_; simp only [frzTm, SV.frz, SV.frzL, zaX, frzHp, frzO, Ints_frz, Bools_frz, zan, zao, zaa, if_true, if_false, ↓reduceIte])
      simp only [go_sem, zaa, zaf, zag, zah, zai, zad, ↓reduceIte, reduceCtorEq, zab, zac, zaj, zak, zal, decide_eq_false ct, hTt]
      repeat' (first
 | with_reducible refine zav ?_ ?_
 | (unfold OKC; kernel_rfl)
 | (unfold EDG; kernel_rfl)
 | (apply cl_plain
    case hs => rfl
    case ha => (simp only [zan, zao, prepV, prepC, idx, hpL', lookR, zaa, if_true, if_false]; rfl)
    case h => (first | exact hix .. | exact h5 ..))
 | ((first | refine s1_id ?_ | refine swp_id ?_ | refine sops_id ?_ | refine s2_id ?_); simp only [decide_eq_false ct, hTt, zaG, zaJ, zax, zaF, zaH, zaD, zaE, zaB, zaK, zaO, zaA, zaC, go_sem, zaa, zaf, zag, zah, zai, zad, ↓reduceIte, reduceCtorEq, zab, zac, zaj, zak, zal, zaL, zaM, zay, zaN, renO, bk, back, outUpsFrom, Ints_ren])
 | (intros; omega)
 | (intros; (try simp only [zas, zau, zat, zar, zap, zaq, decide_eq_true_eq, decide_eq_false_iff_not] at *); omega))
      repeat' (first
 | exact fs_w trivial (svw_of (zav cw_gnil (zav (cw_rfl _) trivial)))
 | fail)
    subst k0
    have hpp : Cs (syN E m) ++ [int s0, int s1, int s2, int s3, int s4, .gsl (Ints s5) 0 s5.length none, int s6, int s7, int s8, .sc (.bool s9)] = Cs (syN E (m + 1)) := by
      rw [hsu]; exact Cs_snoc _ (⟨s0, s1, s2, s3, s4, s5, s6, s7, s8, s9⟩ : Pl)
    generalize syN E m = C at *
    simp only [go_sem, zaa, zaf, zag, zah, zai, zad, ↓reduceIte, reduceCtorEq, zab, zac, zaj, zak, zal, decide_eq_true c, hT]
    repeat' (first
 | with_reducible refine zav ?_ ?_
 | (intros; omega)
 | (intros; (try simp only [zas, zau, zat, zar, zap, zaq, decide_eq_true_eq, decide_eq_false_iff_not] at *); omega))
    (refine rgf_t _ (imp_frz _ _ 5 ⟨[int yi, int yp, st yn, int yc, int yk, int yo], 6⟩ (by simp only [zaT, lookR, zaa, if_true, if_false, ↓reduceIte]) (by first | exact Ints_isG _ | exact Bools_isG _ | exact Cs_isG _ | (simp [zaV]; done))) ?_; simp only [frzTm, SV.frz, SV.frzL, zaX, frzHp, frzO, Ints_frz, Bools_frz, zan, zao, zaa, if_true, if_false, ↓reduceIte])
    simp only [go_sem, zaa, zaf, zag, zah, zai, zad, ↓reduceIte, reduceCtorEq, zab, zac, zaj, zak, zal, decide_eq_false ct, hTt]
    repeat' (first
 | with_reducible refine zav ?_ ?_
 | (unfold OKC; kernel_rfl)
 | (unfold EDG; kernel_rfl)
 | (apply cl_plain
    case hs => rfl
    case ha => (simp only [zan, zao, prepV, prepC, idx, hpL', lookR, zaa, if_true, if_false]; rfl)
    case h => (first | exact hix .. | exact h5 ..))
 | ((first | refine s1_id ?_ | refine swp_id ?_ | refine sops_id ?_ | refine s2_id ?_); simp only [decide_eq_false ct, hTt, htk, hpp, zaG, zaJ, zax, zaF, zaH, zaD, zaE, zaB, zaK, zaO, zaA, zaC, go_sem, zaa, zaf, zag, zah, zai, zad, ↓reduceIte, reduceCtorEq, zab, zac, zaj, zak, zal, zaL, zaM, zay, zaN, renO, bk, back, outUpsFrom, Ints_ren])
 | (intros; omega)
 | (intros; (try simp only [zas, zau, zat, zar, zap, zaq, decide_eq_true_eq, decide_eq_false_iff_not] at *); omega))
    refine le_mk (m + 1) ?_ ⟨hlt, hI2 rfl⟩ (by omega)
    (refine imp_ren _ _ _ [(0, 41, ⟨Cs (syN E (m + 1)), 10⟩)] (by simp) (by simp) (by simp) (zaz rfl) ?_ rfl (by simp only [zae, zam, false_implies, implies_true, and_true, zaT, lookR, zaa, if_true, if_false, ↓reduceIte, Cs_flat] <;> (repeat' apply zav) <;> (first | rfl | trivial)) (by simp only [zae, zam, false_implies, implies_true, and_true, true_and, flat_cons, flat_nil, flat_ints, flat_bools, flat_app, zaQ, and_self, eq_self_iff_true, zax, Cs_flat]); simp only [zan, zao, zae, zam, false_implies, implies_true, and_true, lk, slot, zaL, zay, toN, zaa, if_true, if_false, ↓reduceIte, reduceCtorEq])
    all_goals ((repeat' apply zav) <;> (first | rfl | trivial | (simp only [zaw]; done) | (simp only [zaw]; rfl) | (simp only [zaw]; trivial)))
theorem thnew_spec (l : List Nd) (n : Int) (q b : List Int) (s cp : Int) (kq kb : Option Nat) (hl : l.length ≤ 1000000) (hq : q.length ≤ 9223372036854775807) (hb : b.length ≤ 9223372036854775807) (hnm : NmR l) (hct : CtR l) : FnSpec Tryz.prog 29 [trV l none n, gi q kq, gi b kb, i1 s, i1 cp] [] (.tup [gr (thSy l n [] q b s cp).1 none, i1 (thSy l n [] q b s cp).2]) [] := by
  have h1 : FnSpec Tryz.prog 27 [trV l none n, .one (.sc (.slice none 0 0)), gi q kq, gi b kb, i1 s, i1 cp] [] (.tup [gr (thSy l n [] q b s cp).1 none, i1 (thSy l n [] q b s cp).2]) [] := (thsync_spec l n [] none q b s cp kq kb hl (by decide) hq hb hnm hct).pre ⟨⟨cw_rfl _, cw_rfl _, trivial⟩, cw_gnil, cw_rfl _, cw_rfl _, cw_rfl _, cw_rfl _, trivial⟩
  generalize thSy l n [] q b s cp = r at *
  refine fnspec_of mixed TT_ok TT_cl ⟨fun _ => false, fun _ => [], 0, fun _ => false, fun _ => false⟩ Tryz.func29 rfl (by kernel_rfl) rfl 20 rfl [.tmp 10, .tmp 11] rfl ?_
  simp only [go_sem, zaa, zaf, zag, zah, zai, zad, ↓reduceIte, reduceCtorEq, zab, zac, zaj, zak, zal]
  repeat' (first
 | (apply cl_plain
    case hs => rfl
    case ha => (simp only [zan, zao, prepV, prepC, idx, hpL', lookR, zaa, if_true, if_false]; rfl)
    case h => (first | exact h1 ..))
 | ((first | refine s1_id ?_ | refine swp_id ?_ | refine sops_id ?_ | refine s2_id ?_); simp only [go_sem, zaa, zaf, zag, zah, zai, zad, ↓reduceIte, reduceCtorEq, zab, zac, zaj, zak, zal, zaL, zaM, zay, zaN, renO, bk, back, outUpsFrom, Ints_ren])
 | exact fs_nil trivial rfl
 | fail)
end Go.Proofs.YtcnilpdlcmpbbaaGreat
-- NEWGO
-- PRUNE: cl_lendx
-- ISG: Cs_isG
-- FLAT: Cs_flat
namespace Go.Proofs.YtcnilpdlcmpbbaaGreat
set_option linter.unusedVariables false
set_option linter.unusedSimpArgs false
open Go.Proofs.YtcnilpdlcmpbbaaGreat.Sh
set_option maxRecDepth 20000
theorem VT.ctr {l : List Nd} {n : Int} (h : VT l n) : CtR l := fun x hx => by
  have := (h.vl.all x hx).2
  unfold rngOk at this
  simp only [zas, decide_eq_true_eq] at this
  omega
abbrev xT : List Nd := [⟨1, 0, [], 0, 0, 0⟩, ⟨2, 1, [97], 0, 0, 0⟩, ⟨3, 2, [98], 0, 0, 0⟩, ⟨4, 2, [99], 0, 0, 0⟩]
abbrev xQ : List Int := [4611686018427387904, 2, 4611686018427387904, 4611686018427387904]
def xP0 : List Pl := (thSy xT 5 [] xQ [0, 0, 0, 0] 1 1).1
def xP1 : List Pl := (thSp xT 5 xP0 3 0).1
def xP2 : List Pl := (thSp xT 5 xP1 4 0).1
set_option maxHeartbeats 4000000 in
theorem thsane_spec : FnSpec Tryz.prog 7 [] [] (b1 true) [] := by
  have hN : NmR xT := fun x hx => by simp only [List.mem_cons, zam, or_false] at hx; rcases hx with rfl | rfl | rfl | rfl <;> decide
  have hC : CtR xT := fun x hx => by simp only [List.mem_cons, zam, or_false] at hx; rcases hx with rfl | rfl | rfl | rfl <;> decide
  have a1 := radd_spec [⟨1, 0, [], 0, 0, 0⟩] none 2 1 [97] (by decide) (fun x hx => by rw [List.mem_singleton.1 hx]; decide) (by decide)
  have e1 : addM [⟨1, 0, [], 0, 0, 0⟩] 2 1 [97] = (([⟨1, 0, [], 0, 0, 0⟩, ⟨2, 1, [97], 0, 0, 0⟩], 3), 2, 0) := by kernel_rfl
  rw [e1] at a1
  have a2 := radd_spec [⟨1, 0, [], 0, 0, 0⟩, ⟨2, 1, [97], 0, 0, 0⟩] none 3 2 [98] (by decide) (fun x hx => by simp only [List.mem_cons, zam, or_false] at hx; rcases hx with rfl | rfl <;> decide) (by decide)
  have e2 : addM [⟨1, 0, [], 0, 0, 0⟩, ⟨2, 1, [97], 0, 0, 0⟩] 3 2 [98] = (([⟨1, 0, [], 0, 0, 0⟩, ⟨2, 1, [97], 0, 0, 0⟩, ⟨3, 2, [98], 0, 0, 0⟩], 4), 3, 0) := by kernel_rfl
  rw [e2] at a2
  have a3 := radd_spec [⟨1, 0, [], 0, 0, 0⟩, ⟨2, 1, [97], 0, 0, 0⟩, ⟨3, 2, [98], 0, 0, 0⟩] none 4 2 [99] (by decide) (fun x hx => by simp only [List.mem_cons, zam, or_false] at hx; rcases hx with rfl | rfl | rfl <;> decide) (by decide)
  have e3 : addM [⟨1, 0, [], 0, 0, 0⟩, ⟨2, 1, [97], 0, 0, 0⟩, ⟨3, 2, [98], 0, 0, 0⟩] 4 2 [99] = ((xT, 5), 4, 0) := by kernel_rfl
  rw [e3] at a3
  have b0 := thnew_spec xT 5 xQ [0, 0, 0, 0] 1 1 (some 4) (some 4) (by decide) (by decide) (by decide) hN hC
  have f0 : (thSy xT 5 [] xQ [0, 0, 0, 0] 1 1).2 = 0 := by kernel_rfl
  rw [f0, show (thSy xT 5 [] xQ [0, 0, 0, 0] 1 1).1 = xP0 from rfl] at b0
  have b0' : FnSpec Tryz.prog 29 [trV xT none 5, .one (.gsl (Ints [4611686018427387904, 2, 4611686018427387904, 4611686018427387904]) 0 4 (some 4)), .one (.gsl (Ints [0, 0, 0, 0]) 0 4 (some 4)), i1 1, i1 1] [] (.tup [gr xP0 none, i1 0]) [] := b0
  have l0 : xP0.length ≤ 1000000 := by decide +kernel
  have b1' := thspend_spec xT 5 xP0 none 3 0 (by decide) l0 hN hC
  have f1 : (thSp xT 5 xP0 3 0).2 = 0 := by kernel_rfl
  rw [f1, show (thSp xT 5 xP0 3 0).1 = xP1 from rfl] at b1'
  have l1 : xP1.length ≤ 1000000 := by decide +kernel
  have b2 := thspend_spec xT 5 xP1 none 4 0 (by decide) l1 hN hC
  have f2 : (thSp xT 5 xP1 4 0).2 = 0 := by kernel_rfl
  rw [f2, show (thSp xT 5 xP1 4 0).1 = xP2 from rfl] at b2
  have l2 : xP2.length ≤ 1000000 := by decide +kernel
  have b3 := thspend_spec xT 5 xP2 none 3 0 (by decide) l2 hN hC
  have f3 : (thSp xT 5 xP2 3 0).2 = 11 := by kernel_rfl
  rw [f3] at b3
  have b4 := thblk_spec xT 5 xP2 none 4 0 (by decide) l2 hN hC
  have f4 : bkF xP2 0 (wayM xT 5 xP2 4) = (2, true) := by kernel_rfl
  rw [f4] at b4
  have b4' : FnSpec Tryz.prog 35 [trV xT none 5, gr xP2 none, i1 4, i1 0] [] (.tup [i1 2, b1 true]) [] := b4
  clear b0 b4 f0 f1 f2 f3 f4 hN hC l0 l1 l2 e1 e2 e3
  simp only [adV] at a1 a2 a3
  generalize (thSp xT 5 xP2 3 0).1 = P3 at *
  generalize xP2 = P2 at *
  generalize xP1 = P1 at *
  generalize xP0 = P0 at *
  generalize xT = T3 at *
  obtain ⟨T2, hT2⟩ : ∃ T : List Nd, [⟨1, 0, [], 0, 0, 0⟩, ⟨2, 1, [97], 0, 0, 0⟩, ⟨3, 2, [98], 0, 0, 0⟩] = T := ⟨_, rfl⟩
  rw [hT2] at a2 a3
  obtain ⟨T1, hT1⟩ : ∃ T : List Nd, [⟨1, 0, [], 0, 0, 0⟩, ⟨2, 1, [97], 0, 0, 0⟩] = T := ⟨_, rfl⟩
  rw [hT1] at a1 a2
  clear hT1 hT2
  refine fnspec_of mixed TT_ok TT_cl ⟨fun _ => false, fun _ => [], 0, fun _ => false, fun _ => false⟩ Tryz.func7 rfl (by kernel_rfl) rfl 93 rfl [.tmp 0] rfl ?_
  simp only [go_sem, zaa, zaf, zag, zah, zai, zad, ↓reduceIte, reduceCtorEq, zab, zac, zaj, zak, zal]
  repeat' (first
 | (apply cl_plain
    case hs => rfl
    case ha => (simp only [zan, zao, prepV, prepC, idx, hpL', lookR, zaa, if_true, if_false]; rfl)
    case h => (first | exact trnew_spec .. | exact a1 .. | exact a2 .. | exact a3 .. | exact b0' .. | exact b1' .. | exact b2 .. | exact b3 .. | exact b4' ..))
 | (apply cl_use
    case hr => (simp only [zan, zao, hpL', lookR, zaa, if_true, if_false]; first | exact map0 | exact map1 _ | exact map2 _ _ | exact map3 _ _ _)
    case ha => (simp only [zan, zao, prepV, prepC, idx, hpL', lookR, zaa, if_true, if_false]; rfl)
    case hs => (simp only [snaps, SV.refs, zaQ, idx, List.flatMap_cons, List.flatMap_nil, zaH, zaF, zax, List.filter_cons, List.filter_nil, zaa, if_true, if_false, Option.isNone_none, Option.isNone_some, zaS, reduceCtorEq, ↓reduceIte]; rfl)
    case hn => decide
    case h => (first | exact trnew_spec .. | exact a1 .. | exact a2 .. | exact a3 .. | exact b0' .. | exact b1' .. | exact b2 .. | exact b3 .. | exact b4' ..)
    case hf => (simp only [zae, zam, false_implies, implies_true, and_true, true_and, flat_cons, flat_nil, flat_ints, flat_bools, flat_app, Cs_flat, zaQ, and_self, eq_self_iff_true, zax])
    case hg => ((simp [hpL', lookR, zaV]) <;> (repeat' apply zav) <;> (first | exact Ints_isG _ | exact Cs_isG _))
    case hl => (simp only [zaA, zaC]; decide))
 | ((first | refine s1_id ?_ | refine swp_id ?_ | refine sops_id ?_ | refine s2_id ?_); simp only [zaG, zaJ, zax, zaF, zaH, zaD, zaE, zaB, zaK, zaO, zaA, zaC, go_sem, zaa, zaf, zag, zah, zai, zad, ↓reduceIte, reduceCtorEq, zab, zac, zaj, zak, zal, zaL, zaM, zay, zaN, renO, bk, back, outUpsFrom, Ints_ren])
 | exact fs_nil trivial rfl
 | fail)
end Go.Proofs.YtcnilpdlcmpbbaaGreat
-- NEWGO
-- PRUNE: cl_lendx cl_use
-- ISG: Cs_isG
-- FLAT: Cs_flat
namespace Go.Proofs.YtcnilpdlcmpbbaaGreat
set_option linter.unusedVariables false
set_option linter.unusedSimpArgs false
open Go.Proofs.YtcnilpdlcmpbbaaGreat.Sh
set_option maxRecDepth 20000
theorem proom_nn {x : Pl} (h : pck x = true) (cpu : Int) : 0 ≤ proom x cpu := by
  have h1 := pck_all h cpu.toNat
  have h2 := (nums h).l
  unfold proom
  split
  · omega
  · split <;> omega
theorem rmF_zero {P : List Pl} {cpu : Int} : ∀ (W : List Int) (m : Int), 0 ≤ m → (∀ i ∈ W, 0 ≤ proom (gP P i.toNat) cpu) → (rmF P cpu W m = 0 ↔ m = 0 ∨ ∃ i ∈ W, proom (gP P i.toNat) cpu = 0)
  | [], m, _, _ => by simp [rmF]
  | w :: W, m, h, hw => by
    have h1 := hw w List.mem_cons_self
    rw [rmF, rmF_zero W _ (by omega) fun i hi => hw i (List.mem_cons_of_mem _ hi)]
    constructor
    · rintro (h2 | ⟨i, hi, h2⟩)
      · by_cases hm : m = 0
        · exact .inl hm
        · exact .inr ⟨w, List.mem_cons_self, by omega⟩
      · exact .inr ⟨i, List.mem_cons_of_mem _ hi, h2⟩
    · rintro (h2 | ⟨i, hi, h2⟩)
      · left; omega
      · rcases List.mem_cons.1 hi with rfl | hi
        · left; omega
        · exact .inr ⟨i, hi, h2⟩
theorem psp_th {x : Pl} {cpu : Int} (h : (pspend x cpu).2 = 0) (hc : pchk x cpu = 0) : (pspend x cpu).1.th = x.th := by
  unfold pspend at h ⊢
  rw [if_neg (by simp [hc])] at h ⊢
  repeat' split at h
  all_goals first | (exfalso; simp at h; done) | skip
  all_goals (repeat' split)
  all_goals first | rfl | (exfalso; simp_all; done)
def SpB (P : List Pl) (k : Int) : Prop := ∀ i, i < P.length → (gP P i).sp ≤ k
theorem SpB.map {P : List Pl} {k k' : Int} {f : Pl → Pl} (h : SpB P k) (hf : ∀ x ∈ P, x.sp ≤ k → (f x).sp ≤ k') : SpB (P.map f) k' := fun i hi => by
  rw [List.length_map] at hi
  rw [map_at f P i hi]
  exact hf _ (getD_mem P i zpl hi) (h i hi)
theorem spF_sp {x : Pl} {cpu : Int} (h : pck x = true) (hc : 0 ≤ cpu ∧ cpu < x.c.length) : (spF cpu x).sp ≤ x.sp + 1 := by
  rcases (pspend_ok h hc).2.2 with ⟨_, _, h3, _⟩ | ⟨_, _, _, _, h5⟩
  · unfold spF
    rw [h3]
    exact (mn_le _ _).1
  · unfold spF
    rw [h5]
    show x.sp ≤ x.sp + 1
    omega
theorem SpB.sp {l : List Nd} {n : Int} {P : List Pl} {c k : Int} (hP : Pv l n P c) (hk : 0 ≤ k) (h : SpB P k) {g cpu : Int} (he : (thSp l n P g cpu).2 = 0 ∨ (thSp l n P g cpu).2 = 11) : SpB (thSp l n P g cpu).1 (k + 1) := by
  unfold thSp at he ⊢
  rw [if_neg (by simp [hP.ok])] at he ⊢
  split at he
  · simp at he
  rename_i h1
  rw [if_neg h1]
  split at he
  · simp at he
  rename_i h2
  rw [if_neg h2]
  rw [zaR, wi_iff] at h2
  have h0 := hP.c 0 (by rw [hP.len]; exact hP.vt.ne)
  have hx : ∀ x ∈ P, x.sp ≤ k → (spF cpu x).sp ≤ k + 1 := fun x hx hs => by
    obtain ⟨i, hi, rfl⟩ := gP_mem P x hx
    have := spF_sp (cpu := cpu) (hP.pck hi) (by have := hP.c i hi; omega)
    omega
  split
  · exact h.map fun x hm hs => by split; (· exact hx x hm hs); (· omega)
  · exact h.map fun x hm hs => by split; (· exact hx x hm hs); (· omega)
theorem SpB.rf {l : List Nd} {n : Int} {P : List Pl} {c k : Int} (hP : Pv l n P c) (hk : 0 ≤ k) (h : SpB P k) (due : List Int) : SpB (thRf l n P due) k := by
  unfold thRf
  rw [if_pos hP.ok]
  refine h.map fun x hx hs => ?_
  unfold rfF
  split
  · unfold prefill
    split
    · show (0 : Int) ≤ k; exact hk
    · split
      · show (0 : Int) ≤ k; exact hk
      · show (0 : Int) ≤ k; exact hk
  · exact hs
theorem SpB.mono {P : List Pl} {k k' : Int} (h : SpB P k) (hk : k ≤ k') : SpB P k' := fun i hi => Int.le_trans (h i hi) hk
theorem plL_sp {D : List Int} {l : List Nd} {n c : Int} : ∀ (m : Nat) {s : List Pl × Nat} {k : Int}, Pv l n s.1 c → 0 ≤ k → SpB s.1 k → SpB (plL D l n c m s).1 (k + m)
  | 0, s, k, h, hk, hs => by rw [plL]; exact hs.mono (by omega)
  | m + 1, s, k, h, hk, hs => by
    rw [plL]
    have h1 := plP_ok (D := D) (s := s) h
    have h2 : SpB (plP D l n c s) (k + 1) := by
      unfold plP
      split
      · rename_i e; exact hs.sp h hk (.inl e)
      · exact hs.mono (by omega)
    have h3 : SpB (plS D l n c s).1 (k + 1) := by
      unfold plS
      split
      · exact h2.rf h1 (by omega) _
      · exact h2
    exact (plL_sp m (plS_ok h) (by omega) h3).mono (by omega)
theorem mkP_sp {D : List Int} {l : List Nd} {n c : Int} (hV : VT l n) (hc : 1 ≤ c ∧ c ≤ 16) (j : Nat) : SpB (mkP D l n c j).1 12 := by
  have h3 := nx_rng D (plQ D l j).2 3 (by decide)
  have h4 := nx_rng D (nxA D (plQ D l j).2 3) 12 (by decide)
  have h5 := (thNw_ok hV (mkNu_ok D j l.length) (s := 1 + nxV D (plQ D l j).2 3) (by omega) hc).2.2
  have h6 := plI_ok (D := D) hV hc j
  unfold mkP
  have h7 : SpB (plI D l c j) 0 := fun i hi => by
    have e := h5 i (by rw [← h6.len]; exact hi)
    show (gP (plI D l c j) i).sp ≤ 0
    rw [show plI D l c j = nwN l (mkNu D j l.length).1.1 (mkNu D j l.length).1.2 (1 + nxV D (plQ D l j).2 3) c l.length from rfl, e]
    exact Int.le_refl _
  have h8 := plL_sp (D := D) (nxV D (nxA D (plQ D l j).2 3) 12).toNat (s := (plI D l c j, nxA D (nxA D (plQ D l j).2 3) 12)) h6 (Int.le_refl 0) h7
  exact h8.mono (by omega)
structure SpR (l : List Nd) (n : Int) (P : List Pl) (c g cpu : Int) (y : List Pl) (e a : Int) (bl : Bool) : Prop where
  ok : Pv l n y c
  e : e = if bl = true then 11 else 0
  bk : bkF P cpu (wayM l n P g) = (a, bl)
  em : (ancM l n g).any (fun id => decide (proom (gtM P id).1 cpu = 0)) = bl
  at' : decide (a ∈ ancM l n g) = bl
  rm : decide (thRm l n P g cpu = 0) = bl
  i : ∀ i, i < P.length → (gP y i).sp - (gP P i).sp = (if bl = false ∧ (gP P i).g ∈ ancM l n g then 1 else 0) ∧ (lim (gP P i) = true → hld (gP P i) - hld (gP y i) = (if bl = false ∧ (gP P i).g ∈ ancM l n g then 1 else 0)) ∧ ((gP y i).th = (gP P i).th ∨ (gP P i).g = a)
theorem thSp_r {l : List Nd} {n : Int} {P : List Pl} {c g cpu : Int} (hP : Pv l n P c) (hg : hasM l n g = true) (hc : 0 ≤ cpu ∧ cpu < c) (hs : SpB P 1000) : ∃ a bl, SpR l n P c g cpu (thSp l n P g cpu).1 (thSp l n P g cpu).2 a bl := by
  obtain ⟨q, hq⟩ : ∃ q, bkF P cpu (wayM l n P g) = q := ⟨_, rfl⟩
  obtain ⟨a, bl⟩ := q
  have h0 := hP.c 0 (by rw [hP.len]; exact hP.vt.ne)
  have e0 : thSp l n P g cpu = if bl = true then (upF [a] (spF cpu) P, 11) else (upF (ancM l n g) (spF cpu) P, 0) := by
    unfold thSp
    rw [if_neg (by simp [hP.ok]), if_neg (by simp [hg]), if_neg (by rw [zaR, wi_iff]; omega), hq]
  have hga := gt_at hP.ok g
  have hw : wayM l n P g = poL P (ancM l n g) := by unfold wayM; rw [if_pos hP.ok]
  have hnn : ∀ i ∈ wayM l n P g, 0 ≤ proom (gP P i.toNat) cpu := fun i hi => by
    obtain ⟨t, rfl, ht⟩ := way_in hP.ok g i hi
    rw [zaP]
    exact proom_nn (hP.pck ht) cpu
  have hcc : ∀ i, i < P.length → 0 ≤ cpu ∧ cpu < (gP P i).c.length := fun i hi => by have := hP.c i hi; omega
  have hwz : ∀ {i : Int}, i ∈ wayM l n P g → ∃ id ∈ ancM l n g, proom (gtM P id).1 cpu = proom (gP P i.toNat) cpu ∧ (gP P i.toNat).g = id := fun {i} hi => by
    rw [hw] at hi
    obtain ⟨id, hid, rfl⟩ := List.mem_map.1 hi
    obtain ⟨t, ht, _, htg, hgt⟩ := hga id hid
    rw [ht, zaP]
    exact ⟨id, hid, by rw [hgt], htg⟩
  have hzw : ∀ {id : Int}, id ∈ ancM l n g → ∃ i ∈ wayM l n P g, proom (gtM P id).1 cpu = proom (gP P i.toNat) cpu := fun {id} hid => by
    obtain ⟨t, ht, _, htg, hgt⟩ := hga id hid
    refine ⟨ixR (fun x : Pl => decide (x.g = id)) P 0, by rw [hw]; exact List.mem_map.2 ⟨id, hid, rfl⟩, ?_⟩
    rw [ht, zaP, hgt]
  have hem : (ancM l n g).any (fun id => decide (proom (gtM P id).1 cpu = 0)) = bl := by
    cases bl with
    | true =>
      obtain ⟨i, hi, h1, _⟩ := bkF_yes (L := P) (cpu := cpu) (W := wayM l n P g) (by rw [hq])
      obtain ⟨id, hid, h2, _⟩ := hwz hi
      exact List.any_eq_true.2 ⟨id, hid, decide_eq_true (by rw [h2, h1])⟩
    | false =>
      have h1 := bkF_no (L := P) (cpu := cpu) (W := wayM l n P g) (by rw [hq])
      refine Bool.eq_false_iff.2 fun h2 => ?_
      obtain ⟨id, hid, h3⟩ := List.any_eq_true.1 h2
      obtain ⟨i, hi, h4⟩ := hzw hid
      exact h1 i hi (by rw [← h4]; exact of_decide_eq_true h3)
  have hrm : decide (thRm l n P g cpu = 0) = bl := by
    have hne : (wayM l n P g).length ≠ 0 := by rw [hw, poL_len]; exact anc_ne hg
    unfold thRm
    rw [if_neg hne]
    have hz := rmF_zero (P := P) (cpu := cpu) (wayM l n P g) 1099511627776 (by decide) hnn
    cases bl with
    | true =>
      obtain ⟨i, hi, h1, _⟩ := bkF_yes (L := P) (cpu := cpu) (W := wayM l n P g) (by rw [hq])
      exact decide_eq_true (hz.2 (.inr ⟨i, hi, h1⟩))
    | false =>
      have h1 := bkF_no (L := P) (cpu := cpu) (W := wayM l n P g) (by rw [hq])
      refine decide_eq_false fun h2 => ?_
      rcases hz.1 h2 with h3 | ⟨i, hi, h3⟩
      · cases h3
      · exact h1 i hi h3
  cases bl with
  | true =>
    rw [if_pos rfl] at e0
    obtain ⟨i, hiw, h1, h2⟩ := bkF_yes (L := P) (cpu := cpu) (W := wayM l n P g) (by rw [hq])
    rw [hq] at h2
    obtain ⟨id, hid, h3, h4⟩ := hwz hiw
    obtain ⟨t, rfl, ht⟩ := way_in hP.ok g i hiw
    rw [zaP] at h1 h2 h3 h4
    refine ⟨a, true, ⟨hP.sp (.inr (by rw [e0])), by rw [e0]; rfl, hq, hem, decide_eq_true (by rw [show a = id by rw [← h4]; exact h2]; exact hid), hrm, fun i hi => ?_⟩⟩
    rw [e0]
    simp only [Bool.true_eq_false, false_and, if_false]
    rw [upF_at [a] (spF cpu) P i hi]
    by_cases e : (gP P i).g ∈ [a]
    · rw [if_pos e]
      have e' : (gP P i).g = a := List.mem_singleton.1 e
      have hit : i = t := thC_asc hP.ok hi ht (by rw [e']; exact h2)
      subst hit
      rcases (pspend_ok (hP.pck hi) (hcc i hi)).2.2 with ⟨q1, _⟩ | ⟨q1, q2, q3, q4, q5⟩
      · refine absurd h1 fun hz => ?_
        rcases (pspend_ok (hP.pck hi) (hcc i hi)).2.2 with ⟨_, _, _, q6⟩ | ⟨q7, _⟩
        · unfold proom at hz
          rw [if_neg (fun q => q (pchk_in (hP.pck hi) (hcc i hi)))] at hz
          rcases q6 with q6 | q6
          · rw [if_pos q6] at hz; omega
          · split at hz <;> omega
        · rw [q7] at q1; cases q1
      · unfold spF
        refine ⟨?_, fun _ => by rw [q2]; omega, .inr e'⟩
        rw [q5]; show (gP P i).sp - (gP P i).sp = 0; omega
    · rw [if_neg e]
      exact ⟨by omega, fun _ => by omega, .inl rfl⟩
  | false =>
    rw [if_neg zaI] at e0
    have h1 := bkF_no (L := P) (cpu := cpu) (W := wayM l n P g) (by rw [hq])
    have ha : a = 0 := by
      have : ∀ W : List Int, (bkF P cpu W).2 = false → (bkF P cpu W).1 = 0 := fun W => by
        induction W with
        | nil => intro _; rfl
        | cons w W ih =>
          intro hh
          rw [bkF] at hh ⊢
          split at hh
          · cases hh
          · rename_i hp; rw [if_neg hp]; exact ih hh
      have h3 := this (wayM l n P g) (by rw [hq])
      rw [hq] at h3
      exact h3
    have hna : a ∉ ancM l n g := fun hm => by
      obtain ⟨t, _, ht, htg, _⟩ := hga a hm
      have := hP.vt.pos (i := t) (by rw [← hP.len]; exact ht)
      rw [← hP.g ht] at this
      omega
    refine ⟨a, false, ⟨hP.sp (.inl (by rw [e0])), by rw [e0]; rfl, hq, hem, decide_eq_false hna, hrm, fun i hi => ?_⟩⟩
    rw [e0]
    simp only [true_and]
    rw [upF_at (ancM l n g) (spF cpu) P i hi]
    by_cases e : (gP P i).g ∈ ancM l n g
    · rw [if_pos e, if_pos e]
      obtain ⟨w, hw1, hw2⟩ := hzw e
      have hz := h1 w hw1
      rw [← hw2] at hz
      obtain ⟨t, _, ht, htg, hgt⟩ := hga _ e
      have hit : t = i := thC_asc hP.ok ht hi htg
      subst hit
      rw [hgt] at hz
      have hz0 := psp_zero (hP.pck hi) (hcc t hi) hz
      have hth := psp_th hz0 (pchk_in (hP.pck hi) (hcc t hi))
      have hsb := hs t hi
      rcases (pspend_ok (hP.pck hi) (hcc t hi)).2.2 with ⟨_, q2, q3, _⟩ | ⟨q7, _⟩
      · unfold spF
        refine ⟨?_, fun hl => by rw [q2, if_pos hl]; omega, .inl hth⟩
        rw [q3]
        unfold msp mn
        rw [if_neg (by omega)]; omega
      · rw [q7] at hz0; cases hz0
    · rw [if_neg e, if_neg e]
      exact ⟨by omega, fun _ => by omega, .inl rfl⟩
end Go.Proofs.YtcnilpdlcmpbbaaGreat
-- NEWGO
-- PRUNE: cl_lendx cl_use
-- ISG: Cs_isG
-- FLAT: Cs_flat
namespace Go.Proofs.YtcnilpdlcmpbbaaGreat
set_option linter.unusedVariables false
set_option linter.unusedSimpArgs false
open Go.Proofs.YtcnilpdlcmpbbaaGreat.Sh
set_option maxRecDepth 20000
structure QK (Q : Pl → Prop) : Prop where
  sp : ∀ x (cpu : Int), pck x = true → 0 ≤ cpu ∧ cpu < x.c.length → Q x → Q (spF cpu x)
  rf : ∀ x due, pck x = true → Q x → Q (rfF due x)
theorem QK.sp' {Q : Pl → Prop} (hQ : QK Q) {l : List Nd} {n : Int} {P : List Pl} {c : Int} (hP : Pv l n P c) (h : ∀ x ∈ P, Q x) {g cpu : Int} (he : (thSp l n P g cpu).2 = 0 ∨ (thSp l n P g cpu).2 = 11) : ∀ x ∈ (thSp l n P g cpu).1, Q x := by
  unfold thSp at he ⊢
  rw [if_neg (by simp [hP.ok])] at he ⊢
  split at he
  · simp at he
  rename_i h1
  rw [if_neg h1]
  split at he
  · simp at he
  rename_i h2
  rw [if_neg h2]
  rw [zaR, wi_iff] at h2
  have h0 := hP.c 0 (by rw [hP.len]; exact hP.vt.ne)
  have hx : ∀ x ∈ P, Q (spF cpu x) := fun x hx => by
    obtain ⟨i, hi, rfl⟩ := gP_mem P x hx
    exact hQ.sp _ cpu (hP.pck hi) (by have := hP.c i hi; omega) (h _ hx)
  split
  all_goals
    intro y hy
    obtain ⟨x, hm, rfl⟩ := List.mem_map.1 hy
    split
    · exact hx x hm
    · exact h x hm
theorem QK.rf' {Q : Pl → Prop} (hQ : QK Q) {l : List Nd} {n : Int} {P : List Pl} {c : Int} (hP : Pv l n P c) (h : ∀ x ∈ P, Q x) (due : List Int) : ∀ x ∈ thRf l n P due, Q x := by
  unfold thRf
  rw [if_pos hP.ok]
  intro y hy
  obtain ⟨x, hm, rfl⟩ := List.mem_map.1 hy
  exact hQ.rf x due (hP.all x hm) (h x hm)
theorem QK.plL {Q : Pl → Prop} (hQ : QK Q) {D : List Int} {l : List Nd} {n c : Int} : ∀ (m : Nat) {s : List Pl × Nat}, Pv l n s.1 c → (∀ x ∈ s.1, Q x) → ∀ x ∈ (plL D l n c m s).1, Q x
  | 0, s, h, hs => hs
  | m + 1, s, h, hs => by
    rw [Go.Proofs.YtcnilpdlcmpbbaaGreat.plL]
    have h1 := plP_ok (D := D) (s := s) h
    have h2 : ∀ x ∈ plP D l n c s, Q x := by
      unfold plP
      split
      · rename_i e; exact hQ.sp' h hs (.inl e)
      · exact hs
    have h3 : ∀ x ∈ (plS D l n c s).1, Q x := by
      unfold plS
      split
      · exact hQ.rf' h1 h2 _
      · exact h2
    exact hQ.plL m (plS_ok h) h3
theorem spF_s {x : Pl} {cpu : Int} (h : pck x = true) (hc : 0 ≤ cpu ∧ cpu < x.c.length) : (spF cpu x).s = x.s ∧ (spF cpu x).q = x.q ∧ (spF cpu x).b = x.b := by
  unfold spF pspend
  rw [if_neg (fun q => q (pchk_in h hc))]
  repeat' split
  all_goals exact ⟨rfl, rfl, rfl⟩
theorem rfF_s {x : Pl} {due : List Int} (h : pck x = true) : (rfF due x).s = x.s ∧ (rfF due x).q = x.q ∧ (rfF due x).b = x.b := by
  unfold rfF
  split
  · rename_i h2
    have h3 := h2.1
    unfold prefill at h3 ⊢
    rw [if_neg (by simp [h])] at h3 ⊢
    split at h3
    · cases h3
    · rename_i h4; rw [if_neg h4]; exact ⟨rfl, rfl, rfl⟩
  · exact ⟨rfl, rfl, rfl⟩
def Smq (s : Int) (x : Pl) : Prop := x.s = s ∧ (x.q = 4611686018427387904 ∨ x.q ≤ 6) ∧ 0 ≤ x.b ∧ x.b ≤ 6
theorem qk_smq (s : Int) : QK (Smq s) := ⟨fun x cpu h hc ⟨h1, h2, h3⟩ => by
  obtain ⟨e1, e2, e3⟩ := spF_s h hc
  exact ⟨by rw [e1, h1], by rw [e2]; exact h2, by rw [e3]; exact h3⟩, fun x due h ⟨h1, h2, h3⟩ => by
  obtain ⟨e1, e2, e3⟩ := rfF_s (due := due) h
  exact ⟨by rw [e1, h1], by rw [e2]; exact h2, by rw [e3]; exact h3⟩⟩
theorem nuS_q (D : List Int) (j : Nat) : (nuS D j).1.1 = 4611686018427387904 ∨ (nuS D j).1.1 ≤ 6 := by
  have h2 := nx_rng D (nxA D j 2) 6 (by decide)
  unfold nuS
  split
  · right; simp only; omega
  · left; rfl
theorem nuL_q (D : List Int) : ∀ (m : Nat) (s : List Int × List Int) (j : Nat), (∀ y ∈ s.1, y = 4611686018427387904 ∨ y ≤ 6) → ∀ y ∈ (nuL D m s j).1.1, y = 4611686018427387904 ∨ y ≤ 6
  | 0, s, j, h => h
  | m + 1, s, j, h => by
    rw [nuL]
    refine nuL_q D m _ _ fun y hy => ?_
    rcases List.mem_append.1 hy with hy | hy
    · exact h y hy
    · rw [List.mem_singleton.1 hy]; exact nuS_q D j
theorem mkP_q {D : List Int} {l : List Nd} {n c : Int} (hV : VT l n) (hc : 1 ≤ c ∧ c ≤ 16) (j : Nat) : ∃ s, (1 ≤ s ∧ s ≤ 3) ∧ ∀ x ∈ (mkP D l n c j).1, Smq s x := by
  have h3 := nx_rng D (plQ D l j).2 3 (by decide)
  have hN := mkNu_ok D j l.length
  have h5 := (thNw_ok hV hN (s := 1 + nxV D (plQ D l j).2 3) (by omega) hc).2.2
  have h6 := plI_ok (D := D) hV hc j
  refine ⟨1 + nxV D (plQ D l j).2 3, by omega, ?_⟩
  unfold mkP
  refine (qk_smq _).plL _ h6 fun x hx => ?_
  obtain ⟨i, hi, rfl⟩ := gP_mem _ x hx
  have hil : i < l.length := by rw [← h6.len]; exact hi
  have e := h5 i hil
  rw [show gP (plI D l c j) i = pn0 (gN l i).i ((mkNu D j l.length).1.1.getD i 0) ((mkNu D j l.length).1.2.getD i 0) (1 + nxV D (plQ D l j).2 3) c from e]
  have h7 : ∀ y ∈ (mkNu D j l.length).1.1, y = 4611686018427387904 ∨ y ≤ 6 := nuL_q D l.length ([], []) j fun y hy => by cases hy
  exact ⟨rfl, h7 _ (getD_mem _ i 0 (by rw [hN.l1]; exact hil)), hN.b _ (getD_mem _ i 0 (by rw [hN.l2]; exact hil))⟩
def Qb (p : Pl) (q b : Int) : Prop := (q = p.q ∧ b = p.b) ∨ (lim p = true ∧ q = max (p.q - 1) 1 ∧ b = 0)
theorem Qb.st {p : Pl} {q b : Int} (h : Qb p q b) (hp : stl p.q p.b = true) (hq : p.q = 4611686018427387904 ∨ p.q ≤ 6) : stl q b = true := by
  rcases h with ⟨rfl, rfl⟩ | ⟨h1, rfl, rfl⟩
  · exact hp
  · rw [stl_iff] at hp ⊢
    unfold lim at h1
    have : p.q ≠ 4611686018427387904 := by simpa using h1
    right; omega
structure SyR (l : List Nd) (n : Int) (P : List Pl) (q b : List Int) (M : List Pl) (i : Nat) : Prop where
  ok : pck (gP M i) = true
  old : i < l.length → gtM P (gP M i).g = (gP P i, true) ∧ (gP M i).g ≠ n ∧ pck (gP P i) = true ∧ (if (gP P i).q = q.getD i 0 ∧ (gP P i).b = b.getD i 0 then gP M i = gP P i else hld (gP M i) = min (hld (gP P i)) (q.getD i 0 + b.getD i 0) ∧ 0 ≤ q.getD i 0 + b.getD i 0 ∧ q.getD i 0 + b.getD i 0 ≤ 1000 ∧ 0 ≤ b.getD i 0 ∧ b.getD i 0 ≤ 1000)
  new : ¬ i < l.length → (gP M i).g = n ∧ hld (gP M i) = (gP M i).q ∧ (gP M i).pe = 1
end Go.Proofs.YtcnilpdlcmpbbaaGreat
-- NEWGO
-- PRUNE: cl_lendx cl_use
-- ISG: Cs_isG
-- FLAT: Cs_flat
namespace Go.Proofs.YtcnilpdlcmpbbaaGreat
set_option linter.unusedVariables false
set_option linter.unusedSimpArgs false
open Go.Proofs.YtcnilpdlcmpbbaaGreat.Sh
set_option maxRecDepth 20000
def PeB (P : List Pl) (k : Int) : Prop := ∀ x ∈ P, x.pe ≤ k
theorem spF_pe {x : Pl} {cpu : Int} (h : pck x = true) (hc : 0 ≤ cpu ∧ cpu < x.c.length) : (spF cpu x).pe = x.pe := by
  unfold spF pspend
  rw [if_neg (fun q => q (pchk_in h hc))]
  repeat' split
  all_goals rfl
theorem rfF_pe {x : Pl} {due : List Int} (h : pck x = true) : (rfF due x).pe ≤ x.pe + 1 := by
  unfold rfF
  split
  · rename_i h2
    have h3 := h2.1
    unfold prefill at h3 ⊢
    rw [if_neg (by simp [h])] at h3 ⊢
    split at h3
    · cases h3
    · rename_i h4; rw [if_neg h4]; exact Int.le_refl _
  · omega
theorem sp_all {Q : Pl → Prop} (hQ : ∀ x (cpu : Int), pck x = true → 0 ≤ cpu ∧ cpu < x.c.length → Q x → Q (spF cpu x)) {l : List Nd} {n : Int} {P : List Pl} {c : Int} (hP : Pv l n P c) (h : ∀ x ∈ P, Q x) {g cpu : Int} (he : (thSp l n P g cpu).2 = 0 ∨ (thSp l n P g cpu).2 = 11) : ∀ x ∈ (thSp l n P g cpu).1, Q x := by
  unfold thSp at he ⊢
  rw [if_neg (by simp [hP.ok])] at he ⊢
  split at he
  · simp at he
  rename_i h1
  rw [if_neg h1]
  split at he
  · simp at he
  rename_i h2
  rw [if_neg h2]
  rw [zaR, wi_iff] at h2
  have h0 := hP.c 0 (by rw [hP.len]; exact hP.vt.ne)
  have hx : ∀ x ∈ P, Q (spF cpu x) := fun x hx => by
    obtain ⟨i, hi, rfl⟩ := gP_mem P x hx
    exact hQ _ cpu (hP.pck hi) (by have := hP.c i hi; omega) (h _ hx)
  split
  all_goals
    intro y hy
    obtain ⟨x, hm, rfl⟩ := List.mem_map.1 hy
    split
    · exact hx x hm
    · exact h x hm
theorem rf_pe {l : List Nd} {n : Int} {P : List Pl} {c k : Int} (hP : Pv l n P c) (h : PeB P k) (due : List Int) : PeB (thRf l n P due) (k + 1) := by
  unfold thRf
  rw [if_pos hP.ok]
  intro y hy
  obtain ⟨x, hm, rfl⟩ := List.mem_map.1 hy
  have h1 := rfF_pe (due := due) (hP.all x hm)
  have h2 := h x hm
  omega
theorem plL_pe {D : List Int} {l : List Nd} {n c : Int} : ∀ (m : Nat) {s : List Pl × Nat} {k : Int}, Pv l n s.1 c → PeB s.1 k → PeB (plL D l n c m s).1 (k + m)
  | 0, s, k, h, hs => by rw [plL]; exact fun x hx => by have := hs x hx; omega
  | m + 1, s, k, h, hs => by
    rw [plL]
    have h1 := plP_ok (D := D) (s := s) h
    have h2 : PeB (plP D l n c s) k := by
      unfold plP
      split
      · rename_i e; exact sp_all (Q := fun x => x.pe ≤ k) (fun x cpu a b d => by rw [spF_pe a b]; exact d) h hs (.inl e)
      · exact hs
    have h3 : PeB (plS D l n c s).1 (k + 1) := by
      unfold plS
      split
      · exact rf_pe h1 h2 _
      · exact fun x hx => by have := h2 x hx; omega
    have h4 := plL_pe (D := D) m (plS_ok (D := D) h) h3
    exact fun x hx => by have := h4 x hx; omega
theorem mkP_pe {D : List Int} {l : List Nd} {n c : Int} (hV : VT l n) (hc : 1 ≤ c ∧ c ≤ 16) (j : Nat) : PeB (mkP D l n c j).1 13 := by
  have h3 := nx_rng D (plQ D l j).2 3 (by decide)
  have h4 := nx_rng D (nxA D (plQ D l j).2 3) 12 (by decide)
  have h5 := (thNw_ok hV (mkNu_ok D j l.length) (s := 1 + nxV D (plQ D l j).2 3) (by omega) hc).2.2
  have h6 := plI_ok (D := D) hV hc j
  unfold mkP
  have h7 : PeB (plI D l c j) 1 := fun x hx => by
    obtain ⟨i, hi, rfl⟩ := gP_mem _ x hx
    have e := h5 i (by rw [← h6.len]; exact hi)
    rw [show plI D l c j = nwN l (mkNu D j l.length).1.1 (mkNu D j l.length).1.2 (1 + nxV D (plQ D l j).2 3) c l.length from rfl, e]
    exact Int.le_refl _
  have h8 := plL_pe (D := D) (nxV D (nxA D (plQ D l j).2 3) 12).toNat (s := (plI D l c j, nxA D (nxA D (plQ D l j).2 3) 12)) h6 h7
  exact fun x hx => by have := h8 x hx; omega
theorem thSp_same {l : List Nd} {n : Int} {P : List Pl} {c g cpu : Int} (hP : Pv l n P c) (hg : hasM l n g = true) (hc : 0 ≤ cpu ∧ cpu < c) {a : Int} {bl : Bool} (hr : SpR l n P c g cpu (thSp l n P g cpu).1 (thSp l n P g cpu).2 a bl) {i : Nat} (hi : i < P.length) (hn : (gP P i).g ∉ ancM l n g) : gP (thSp l n P g cpu).1 i = gP P i := by
  have h0 := hP.c 0 (by rw [hP.len]; exact hP.vt.ne)
  have e0 : thSp l n P g cpu = if bl = true then (upF [a] (spF cpu) P, 11) else (upF (ancM l n g) (spF cpu) P, 0) := by
    unfold thSp
    rw [if_neg (by simp [hP.ok]), if_neg (by simp [hg]), if_neg (by rw [zaR, wi_iff]; omega), hr.bk]
  have hat := hr.at'
  cases bl with
  | true =>
    rw [e0, if_pos rfl]
    simp only
    rw [upF_at _ _ _ _ hi, if_neg]
    intro hm
    rw [List.mem_singleton] at hm
    exact hn (by rw [hm]; exact of_decide_eq_true hat)
  | false =>
    rw [e0, if_neg zaI]
    simp only
    rw [upF_at _ _ _ _ hi, if_neg hn]
theorem idF_hld {x : Pl} {cpu : Int} (h1 : pck x = true) : hld (idF cpu x) = hld x := by
  rw [show idF cpu x = if (preturn x cpu).2 = 0 then (preturn x cpu).1 else x from rfl]
  split
  · rename_i hh
    have hc : 0 ≤ cpu ∧ cpu < x.c.length := by
      unfold preturn at hh
      split at hh
      · rename_i h3; simp at hh; exact absurd hh h3
      · rename_i h3; exact (pchk_ok (by simpa using h3)).2
    have e : preturn x cpu = (pret x cpu, 0) := by
      unfold preturn
      rw [if_neg (fun q => q (pchk_in h1 hc))]
    rw [e]
    exact (pret_ok h1 hc).2.1
  · rfl
theorem rfF_hld {x : Pl} {g : Int} (h1 : pck x = true) (hp : x.pe ≤ 1000000) : hld (rfF [g] x) = if x.g = g ∧ lim x = true then min (hld x + x.q) (x.q + x.b) else hld x := by
  unfold rfF
  have hpe : x.pe ≠ 1099511627776 := by omega
  have e : prefill x = (pfil x, 0) := by
    unfold prefill
    rw [if_neg (by simp [h1]), if_neg hpe]
  rw [e]
  by_cases hg : x.g = g
  · rw [if_pos ⟨rfl, by rw [hg]; exact List.mem_singleton.2 rfl⟩]
    have h2 := (pfil_ok h1 hpe).2.1
    simp only
    rw [h2]
    cases hl : lim x with
    | true =>
      rw [if_pos rfl, if_pos ⟨hg, rfl⟩]
      unfold mst mn
      rw [if_pos hl]
      split <;> omega
    | false =>
      rw [if_neg zaI, if_neg (fun h => zaI h.2)]
      exact (lim_zero h1 hl 0).2.2.1.symm
  · rw [if_neg (fun h => hg (List.mem_singleton.1 h.2)), if_neg (fun h => hg h.1)]
def lendA : FuncId → List Nat := fun f => if f = 9 then [0] else if f = 10 then [0] else if f = 11 then [0] else []
theorem dec_take (U : List Int) (x : Int) (m : Nat) (h : m < U.length) : decide (x ∈ U.take (m + 1)) = (decide (x ∈ U.take m) || decide (U.getD m 0 = x)) := by
  rw [take_getD U m 0 h]
  by_cases h1 : x ∈ U.take m
  · simp [h1]
  · by_cases h2 : U.getD m 0 = x
    · rw [decide_eq_true h2, Bool.or_true]
      exact decide_eq_true (List.mem_append.2 (.inr (List.mem_singleton.2 h2.symm)))
    · rw [decide_eq_false h1, decide_eq_false h2]
      refine decide_eq_false fun h3 => ?_
      rcases List.mem_append.1 h3 with h3 | h3
      · exact h1 h3
      · exact h2 (List.mem_singleton.1 h3).symm
end Go.Proofs.YtcnilpdlcmpbbaaGreat
-- NEWGO
-- PRUNE: cl_lendx cl_use
-- ISG: Cs_isG
-- FLAT: Cs_flat
namespace Go.Proofs.YtcnilpdlcmpbbaaGreat
set_option linter.unusedVariables false
set_option linter.unusedSimpArgs false
open Go.Proofs.YtcnilpdlcmpbbaaGreat.Sh
set_option maxRecDepth 20000
theorem if_minA (a b : Int) : (if b < a then b else a) = min a b := by split <;> omega
set_option maxHeartbeats 64000000 in
theorem apart_spec (D : List Int) (hr : ∀ x ∈ D, -9223372036854775808 ≤ x ∧ x ≤ 9223372036854775807) : FnSpec Tryz.prog 3 [gi D none] [] (b1 true) [] := by
  by_cases hlen : (D.length : Int) ≤ 600
  case neg =>
    refine fnspec_of mixed TT_ok TT_cl ⟨fun _ => false, lendA, 0, fun _ => false, fun _ => false⟩ Tryz.func3 rfl (by kernel_rfl) rfl 164 rfl [.tmp 2] rfl ?_
    simp only [go_sem, zaa, zaf, zag, zah, zai, zad, ↓reduceIte, reduceCtorEq, zab, zac, zaj, zak, zal, decide_eq_false hlen, lendA]
    repeat' (first
 | (apply cl_plain
    case hs => rfl
    case ha => (simp only [zan, zao, prepV, prepC, idx, hpL', lookR, zaa, if_true, if_false]; rfl)
    case h => (first | exact light_spec .. | exact thsane_spec ..))
 | ((first | refine s1_id ?_ | refine swp_id ?_ | refine sops_id ?_ | refine s2_id ?_); simp only [decide_eq_false hlen, lendA, go_sem, zaa, zaf, zag, zah, zai, zad, ↓reduceIte, reduceCtorEq, zab, zac, zaj, zak, zal, zaL, zaM, zay, zaN, renO, bk, back, outUpsFrom, Ints_ren])
 | exact fs_nil trivial rfl
 | fail)
  have hl : D.length ≤ 600 := by omega
  have t1 := tree_spec D hl hr 0 7 (by decide)
  have hti := mkT_ok D 0 7
  generalize mkT D 0 7 = T at *
  obtain ⟨⟨l, n⟩, j1⟩ := T
  simp only at t1 hti
  have hV := hti.v.vt
  have hle := hti.len
  have hnl := nd_len l
  have p1 := mkpools_spec D hl hr j1 l n 2 hV hti.nr (by omega)
  have hP := mkP_ok (D := D) hV (c := 2) (by omega) j1
  have hSp := mkP_sp (D := D) hV (c := 2) (by omega) j1
  have hPe := mkP_pe (D := D) hV (c := 2) (by omega) j1
  have hSq := mkP_q (D := D) hV (c := 2) (by omega) j1
  generalize mkP D l n 2 j1 = q at *
  obtain ⟨P, j3⟩ := q
  simp only at p1 hP hSp hPe hSq
  have n2 := next_spec D j3 l.length hl hr (by omega)
  have r2 := nx_rng D j3 l.length (by omega)
  obtain ⟨t, ht⟩ : ∃ t : Nat, nxV D j3 l.length = t := ⟨(nxV D j3 l.length).toNat, by omega⟩
  rw [ht] at n2 r2
  generalize nxA D j3 l.length = j4 at *
  have n3 := next_spec D j4 2 hl hr (by omega)
  have r3 := nx_rng D j4 2 (by omega)
  generalize nxV D j4 2 = cp at *
  generalize nxA D j4 2 = j5 at *
  have n4 := next_spec D j5 2 hl hr (by omega)
  generalize nxV D j5 2 = cz at *
  generalize nxA D j5 2 = j6 at *
  have hPl := hP.len
  have htl : t < l.length := by omega
  obtain ⟨g1, _⟩ := nd_f l t htl (.sc (.int .i64 0))
  have hgm : hasM l n (gN l t).i = true := hasM_iff.2 ⟨(chkT_iff l n).2 hV, gN l t, getD_mem l t zn htl, rfl⟩
  generalize (gN l t).i = g at *
  have s1 := thspend_spec l n P none g cp (by omega) (by omega) hti.nr hV.ctr
  obtain ⟨a, bl, hR⟩ := thSp_r hP hgm r3 (hSp.mono (by decide))
  have hsame := fun i hi hn => thSp_same hP hgm r3 hR (i := i) hi hn
  generalize thSp l n P g cp = z at *
  obtain ⟨y, e⟩ := z
  simp only at s1 hR hsame
  have s2 := thidle_spec l n P none cz (by omega) (by omega) hti.nr hV.ctr
  have hZ := hP.idle cz
  have hZe : ∀ i, i < P.length → gP (thId l n P cz) i = idF cz (gP P i) := fun i hi => by
    unfold thId thEa
    rw [if_pos hP.ok, map_at _ _ _ hi]
    rfl
  generalize thId l n P cz = Z at *
  have s3 := threfill_spec l n P none [g] (some 1) (by omega) (by omega) (by simp) hti.nr hV.ctr
  have hW := hP.rf [g]
  have hWe : ∀ i, i < P.length → gP (thRf l n P [g]) i = rfF [g] (gP P i) := fun i hi => by
    unfold thRf
    rw [if_pos hP.ok, map_at _ _ _ hi]
  generalize thRf l n P [g] = W at *
  have hyl : y.length = P.length := by rw [hR.ok.len, hPl]
  have hzl : Z.length = P.length := by rw [hZ.len, hPl]
  have hwl : W.length = P.length := by rw [hW.len, hPl]
  have u1 := ranc_spec l none n g (by omega) hti.nr
  have hUl := ancM_len l n g
  have he := hR.e
  have key : ∀ i, i < P.length → pck (gP P i) = true ∧ pck (gP Z i) = true ∧ pck (gP W i) = true ∧ ((gP P i).g ∉ ancM l n g → gP y i = gP P i) ∧ hld (gP Z i) = hld (gP P i) ∧ hld (gP W i) = (if (gP P i).g = g ∧ lim (gP P i) = true then min (hld (gP P i) + (gP P i).q) ((gP P i).q + (gP P i).b) else hld (gP P i)) := fun i hi => by
    refine ⟨hP.pck hi, hZ.pck (by omega), hW.pck (by omega), hsame i hi, ?_, ?_⟩
    · rw [hZe i hi, idF_hld (hP.pck hi)]
    · rw [hWe i hi, rfF_hld (hP.pck hi)]
      have : (gP P i).pe ≤ 13 := hPe _ (getD_mem P i zpl hi)
      omega
  generalize ancM l n g = U at *
  have y1 : FnSpec Tryz.prog 12 [trV l none n, gr P none, i1 g, i1 cp] [] (.tup [.one (.gsl (Cs y) 0 P.length none), i1 e]) [] := by rw [← hyl]; exact s1
  have z1 : FnSpec Tryz.prog 13 [trV l none n, gr P none, i1 cz] [] (.one (.gsl (Cs Z) 0 P.length none)) [] := by rw [← hzl]; exact s2
  have w1 : FnSpec Tryz.prog 14 [trV l none n, gr P none, .one (.gsl (Ints [g]) 0 1 (some 1))] [] (.one (.gsl (Cs W) 0 P.length none)) [] := by rw [← hwl]; exact s3
  have hpl := pl_len P
  have hyp := pl_len y
  have hzp := pl_len Z
  have hwp := pl_len W
  rw [hyl] at hyp
  rw [hzl] at hzp
  rw [hwl] at hwp
  clear s1 s2 s3 hR hSp hPe hZ hW hZe hWe hsame
  have hee : e = 0 ∨ e = 11 := by rw [he]; cases bl <;> simp
  clear he
  refine fnspec_of mixed TT_ok TT_cl ⟨fun _ => false, lendA, 0 , fun _ => false, fun i => if i = 10 then true else false⟩ Tryz.func3 rfl (by kernel_rfl) rfl 164 rfl [.tmp 2] rfl ?_
  rcases hee with e0 | e0
  case' inl =>
    simp only [go_sem, zaa, zaf, zag, zah, zai, zad, ↓reduceIte, reduceCtorEq, zab, zac, zaj, zak, zal, decide_eq_true hlen, lendA, ht, g1]
    repeat' (first
 | with_reducible refine zav ?_ ?_
 | (unfold OKC; kernel_rfl)
 | (unfold EDG; kernel_rfl)
 | (apply cl_plain
    case hs => rfl
    case ha => (simp only [zan, zao, prepV, prepC, idx, hpL', lookR, zaa, if_true, if_false]; rfl)
    case h => (first | exact light_spec .. | exact roll_spec .. | exact t1 .. | exact p1 .. | exact n2 .. | exact n3 .. | exact n4 .. | exact y1 .. | exact z1 ..))
 | (apply cl_lend
    case hr => (simp only [zan, zao, hpL', lookR, zaa, if_true, if_false]; first | exact map1 _ | exact map2 _ _ | exact map3 _ _ _)
    case ha => (simp only [zan, zao, prepV, prepC, idx, hpL', lookR, zaa, if_true, if_false]; rfl)
    case hs => rfl
    case hn => decide
    case h => (first | exact light_spec .. | exact roll_spec .. | exact t1 .. | exact p1 .. | exact n2 .. | exact n3 .. | exact n4 .. | exact y1 .. | exact z1 ..)
    case hf => (simp only [zae, zam, false_implies, implies_true, and_true, true_and, flat_cons, flat_nil, flat_ints, flat_bools, flat_app, Cs_flat, zaQ, and_self, eq_self_iff_true, zax])
    case hl => (simp only [zaA, zaC]; decide))
 | ((first | refine s1_id ?_ | refine swp_id ?_ | refine sops_id ?_ | refine s2_id ?_); simp only [decide_eq_true hlen, lendA, dice, ht, g1, go_sem, zaa, zaf, zag, zah, zai, zad, ↓reduceIte, reduceCtorEq, zab, zac, zaj, zak, zal, zaL, zaM, zay, zaN, renO, bk, back, outUpsFrom, Ints_ren])
 | (intros; omega)
 | (intros; (try simp only [zas, zau, zat, zar, zap, zaq, decide_eq_true_eq, decide_eq_false_iff_not] at *); omega))
    (refine rgf_t _ (imp_frz _ _ 44 ⟨Ints [g], 1⟩ (by simp only [zaT, lookR, zaa, if_true, if_false, ↓reduceIte]) (by first | exact Ints_isG _ | exact Bools_isG _ | exact Cs_isG _ | (simp [zaV]; done))) ?_; simp only [frzTm, SV.frz, SV.frzL, zaX, frzHp, frzO, Ints_frz, Bools_frz, zan, zao, zaa, if_true, if_false, ↓reduceIte])
    simp only [go_sem, zaa, zaf, zag, zah, zai, zad, ↓reduceIte, reduceCtorEq, zab, zac, zaj, zak, zal, decide_eq_true e0, lendA]
    repeat' (first
 | (apply cl_plain
    case hs => rfl
    case ha => (simp only [zan, zao, prepV, prepC, idx, hpL', lookR, zaa, if_true, if_false]; rfl)
    case h => (first | exact w1 ..))
 | ((first | refine s1_id ?_ | refine swp_id ?_ | refine sops_id ?_ | refine s2_id ?_); simp only [decide_eq_true e0, lendA, go_sem, zaa, zaf, zag, zah, zai, zad, ↓reduceIte, reduceCtorEq, zab, zac, zaj, zak, zal, zaL, zaM, zay, zaN, renO, bk, back, outUpsFrom, Ints_ren])
 | (intros; (try simp only [zas, zau, zat, zar, zap, zaq, decide_eq_true_eq, decide_eq_false_iff_not] at *); omega))
  case' inr =>
    have e1 : ¬ e = 0 := by omega
    simp only [go_sem, zaa, zaf, zag, zah, zai, zad, ↓reduceIte, reduceCtorEq, zab, zac, zaj, zak, zal, decide_eq_true hlen, lendA, ht, g1]
    repeat' (first
 | with_reducible refine zav ?_ ?_
 | (unfold OKC; kernel_rfl)
 | (unfold EDG; kernel_rfl)
 | (apply cl_plain
    case hs => rfl
    case ha => (simp only [zan, zao, prepV, prepC, idx, hpL', lookR, zaa, if_true, if_false]; rfl)
    case h => (first | exact light_spec .. | exact roll_spec .. | exact t1 .. | exact p1 .. | exact n2 .. | exact n3 .. | exact n4 .. | exact y1 .. | exact z1 ..))
 | (apply cl_lend
    case hr => (simp only [zan, zao, hpL', lookR, zaa, if_true, if_false]; first | exact map1 _ | exact map2 _ _ | exact map3 _ _ _)
    case ha => (simp only [zan, zao, prepV, prepC, idx, hpL', lookR, zaa, if_true, if_false]; rfl)
    case hs => rfl
    case hn => decide
    case h => (first | exact light_spec .. | exact roll_spec .. | exact t1 .. | exact p1 .. | exact n2 .. | exact n3 .. | exact n4 .. | exact y1 .. | exact z1 ..)
    case hf => (simp only [zae, zam, false_implies, implies_true, and_true, true_and, flat_cons, flat_nil, flat_ints, flat_bools, flat_app, Cs_flat, zaQ, and_self, eq_self_iff_true, zax])
    case hl => (simp only [zaA, zaC]; decide))
 | ((first | refine s1_id ?_ | refine swp_id ?_ | refine sops_id ?_ | refine s2_id ?_); simp only [decide_eq_true hlen, lendA, dice, ht, g1, go_sem, zaa, zaf, zag, zah, zai, zad, ↓reduceIte, reduceCtorEq, zab, zac, zaj, zak, zal, zaL, zaM, zay, zaN, renO, bk, back, outUpsFrom, Ints_ren])
 | (intros; omega)
 | (intros; (try simp only [zas, zau, zat, zar, zap, zaq, decide_eq_true_eq, decide_eq_false_iff_not] at *); omega))
    (refine rgf_t _ (imp_frz _ _ 44 ⟨Ints [g], 1⟩ (by simp only [zaT, lookR, zaa, if_true, if_false, ↓reduceIte]) (by first | exact Ints_isG _ | exact Bools_isG _ | exact Cs_isG _ | (simp [zaV]; done))) ?_; simp only [frzTm, SV.frz, SV.frzL, zaX, frzHp, frzO, Ints_frz, Bools_frz, zan, zao, zaa, if_true, if_false, ↓reduceIte])
    simp only [go_sem, zaa, zaf, zag, zah, zai, zad, ↓reduceIte, reduceCtorEq, zab, zac, zaj, zak, zal, decide_eq_true e0, decide_eq_false e1, lendA]
    repeat' (first
 | (apply cl_plain
    case hs => rfl
    case ha => (simp only [zan, zao, prepV, prepC, idx, hpL', lookR, zaa, if_true, if_false]; rfl)
    case h => (first | exact w1 ..))
 | ((first | refine s1_id ?_ | refine swp_id ?_ | refine sops_id ?_ | refine s2_id ?_); simp only [decide_eq_true e0, decide_eq_false e1, lendA, go_sem, zaa, zaf, zag, zah, zai, zad, ↓reduceIte, reduceCtorEq, zab, zac, zaj, zak, zal, zaL, zaM, zay, zaN, renO, bk, back, outUpsFrom, Ints_ren])
 | (intros; (try simp only [zas, zau, zat, zar, zap, zaq, decide_eq_true_eq, decide_eq_false_iff_not] at *); omega))
  all_goals
    refine w_loop (ι := Nat) (fun m => ⟨[(4, .one (.optr 0 0)), (5, gr P none), (6, i1 g), (7, .one (.gsl (Cs y) 0 P.length none)), (9, .one (.gsl (Cs Z) 0 P.length none)), (11, .one (.gsl (Cs W) 0 P.length none)), (87, i1 P.length), (88, i1 m)], [(0, some ⟨[.gsl (Cs l) 0 l.length none, int n], 2⟩)], 1⟩) (fun m => m ≤ P.length) (fun m => P.length - m) 0 ?_ (zaW _) ?_
    · (refine imp_ren _ _ _ [(0, 9, ⟨[.gsl (Cs l) 0 l.length none, int n], 2⟩)] (by simp) (by simp) (by simp) (zaz rfl) ?_ rfl (by simp only [zae, zam, false_implies, implies_true, and_true, zaT, lookR, zaa, if_true, if_false, ↓reduceIte] <;> (repeat' apply zav) <;> (first | rfl | trivial)) (by simp only [zae, zam, false_implies, implies_true, and_true, true_and, flat_cons, flat_nil, flat_ints, flat_bools, flat_app, zaQ, and_self, eq_self_iff_true, zax]); simp only [zan, zao, zae, zam, false_implies, implies_true, and_true, lk, slot, zaL, zay, toN, zaa, if_true, if_false, ↓reduceIte, reduceCtorEq])
      all_goals ((repeat' apply zav) <;> (first | rfl | trivial))
    clear t1 p1 n2 n3 n4 y1 z1 w1
    intro m hm
    simp only at hm ⊢
    rcases Nat.lt_or_ge m P.length with hlt | hge
    case inr =>
      have c : ¬ (m : Int) < (P.length : Int) := by omega
      simp only [go_sem, zaa, zaf, zag, zah, zai, zad, ↓reduceIte, reduceCtorEq, zab, zac, zaj, zak, zal, decide_eq_false c, lendA]
      repeat' (first
 | (apply cl_plain
    case hs => rfl
    case ha => (simp only [zan, zao, prepV, prepC, idx, hpL', lookR, zaa, if_true, if_false]; rfl)
    case h => (first | exact thsane_spec ..))
 | ((first | refine s1_id ?_ | refine swp_id ?_ | refine sops_id ?_ | refine s2_id ?_); simp only [decide_eq_false c, lendA, go_sem, zaa, zaf, zag, zah, zai, zad, ↓reduceIte, reduceCtorEq, zab, zac, zaj, zak, zal, zaL, zaM, zay, zaN, renO, bk, back, outUpsFrom, Ints_ren])
 | exact fs_nil trivial rfl
 | fail)
    have c : (m : Int) < (P.length : Int) := by omega
    simp only [go_sem, zaa, zaf, zag, zah, zai, zad, ↓reduceIte, reduceCtorEq, zab, zac, zaj, zak, zal, decide_eq_true c, lendA]
    repeat' (first
 | (apply cl_plain
    case hs => rfl
    case ha => (simp only [zan, zao, prepV, prepC, idx, hpL', lookR, zaa, if_true, if_false]; rfl)
    case h => (first | exact u1 ..))
 | ((first | refine s1_id ?_ | refine swp_id ?_ | refine sops_id ?_ | refine s2_id ?_); simp only [decide_eq_true c, lendA, go_sem, zaa, zaf, zag, zah, zai, zad, ↓reduceIte, reduceCtorEq, zab, zac, zaj, zak, zal, zaL, zaM, zay, zaN, renO, bk, back, outUpsFrom, Ints_ren])
 | (intros; (try simp only [zas, zau, zat, zar, zap, zaq, decide_eq_true_eq, decide_eq_false_iff_not] at *); omega))
    refine w_loop (ι := Nat) (fun i => ⟨[(4, .one (.optr 0 0)), (5, gr P none), (6, i1 g), (7, .one (.gsl (Cs y) 0 P.length none)), (9, .one (.gsl (Cs Z) 0 P.length none)), (11, .one (.gsl (Cs W) 0 P.length none)), (12, i1 m), (13, b1 (decide ((gP P m).g ∈ U.take i))), (87, i1 P.length), (88, i1 m), (93, gi U none), (94, i1 U.length), (95, i1 i)], [(0, some ⟨[.gsl (Cs l) 0 l.length none, int n], 2⟩)], 1⟩) (fun i => i ≤ U.length) (fun i => U.length - i) 0 ?_ (zaW _) ?_
    · simp only [zaK, zam, decide_false]
      (refine imp_ren _ _ _ [(0, 0, ⟨[.gsl (Cs l) 0 l.length none, int n], 2⟩)] (by simp) (by simp) (by simp) (zaz rfl) ?_ rfl (by simp only [zae, zam, false_implies, implies_true, and_true, zaT, lookR, zaa, if_true, if_false, ↓reduceIte] <;> (repeat' apply zav) <;> (first | rfl | trivial)) (by simp only [zae, zam, false_implies, implies_true, and_true, true_and, flat_cons, flat_nil, flat_ints, flat_bools, flat_app, zaQ, and_self, eq_self_iff_true, zax]); simp only [zan, zao, zae, zam, false_implies, implies_true, and_true, lk, slot, zaL, zay, toN, zaa, if_true, if_false, ↓reduceIte, reduceCtorEq])
      all_goals ((repeat' apply zav) <;> (first | rfl | trivial))
    intro i hi
    simp only at hi ⊢
    have q0 := pl_f0 P m hlt (.sc (.int .i64 0))
    rcases Nat.lt_or_ge i U.length with hil | hig
    case inl =>
      have c2 : (i : Int) < (U.length : Int) := by omega
      have hdt := dec_take U (gP P m).g i hil
      generalize decide ((gP P m).g ∈ U.take i) = em at *
      generalize (gP P m).g = pg at *
      cases em with
      | true =>
        rw [Bool.true_or] at hdt
        simp only [go_sem, zaa, zaf, zag, zah, zai, zad, ↓reduceIte, reduceCtorEq, zab, zac, zaj, zak, zal, decide_eq_true c2, lendA]
        repeat' (first
 | with_reducible refine zav ?_ ?_
 | (intros; omega)
 | (intros; (try simp only [zas, zau, zat, zar, zap, zaq, decide_eq_true_eq, decide_eq_false_iff_not] at *); omega))
        refine le_mk (i + 1) ?_ hil (by show U.length - (i + 1) < U.length - i; omega)
        simp only [hdt]
        (refine imp_ren _ _ _ [(0, 0, ⟨[.gsl (Cs l) 0 l.length none, int n], 2⟩)] (by simp) (by simp) (by simp) (zaz rfl) ?_ rfl (by simp only [zae, zam, false_implies, implies_true, and_true, zaT, lookR, zaa, if_true, if_false, ↓reduceIte] <;> (repeat' apply zav) <;> (first | rfl | trivial)) (by simp only [zae, zam, false_implies, implies_true, and_true, true_and, flat_cons, flat_nil, flat_ints, flat_bools, flat_app, zaQ, and_self, eq_self_iff_true, zax]); simp only [zan, zao, zae, zam, false_implies, implies_true, and_true, lk, slot, zaL, zay, toN, zaa, if_true, if_false, ↓reduceIte, reduceCtorEq])
        all_goals ((repeat' apply zav) <;> (first | rfl | trivial | (simp only [zaw]; done) | (simp only [zaw]; rfl) | (simp only [zaw]; trivial)))
      | false =>
        rw [Bool.false_or] at hdt
        simp only [go_sem, zaa, zaf, zag, zah, zai, zad, ↓reduceIte, reduceCtorEq, zab, zac, zaj, zak, zal, decide_eq_true c2, lendA, q0]
        repeat' (first
 | with_reducible refine zav ?_ ?_
 | (intros; omega)
 | (intros; (try simp only [zas, zau, zat, zar, zap, zaq, decide_eq_true_eq, decide_eq_false_iff_not] at *); omega))
        refine le_mk (i + 1) ?_ hil (by show U.length - (i + 1) < U.length - i; omega)
        simp only [hdt]
        (refine imp_ren _ _ _ [(0, 0, ⟨[.gsl (Cs l) 0 l.length none, int n], 2⟩)] (by simp) (by simp) (by simp) (zaz rfl) ?_ rfl (by simp only [zae, zam, false_implies, implies_true, and_true, zaT, lookR, zaa, if_true, if_false, ↓reduceIte] <;> (repeat' apply zav) <;> (first | rfl | trivial)) (by simp only [zae, zam, false_implies, implies_true, and_true, true_and, flat_cons, flat_nil, flat_ints, flat_bools, flat_app, zaQ, and_self, eq_self_iff_true, zax]); simp only [zan, zao, zae, zam, false_implies, implies_true, and_true, lk, slot, zaL, zay, toN, zaa, if_true, if_false, ↓reduceIte, reduceCtorEq])
        all_goals ((repeat' apply zav) <;> (first | rfl | trivial | (simp only [zaw]; done) | (simp only [zaw]; rfl) | (simp only [zaw]; trivial)))
    case inr =>
    have c2 : ¬ (i : Int) < (U.length : Int) := by omega
    rw [List.take_of_length_le hig]
    obtain ⟨k1, k2, k3, k4, k5, k6⟩ := key m hlt
    have hT := pl_td P m hlt
    have hT2 := pl_td y m (by omega)
    have hT3 := pl_td Z m (by omega)
    have hT4 := pl_td W m (by omega)
    have d1 := rheld_spec (gP P m) none (sml_pck k1)
    have d2 := rheld_spec (gP Z m) none (sml_pck k2)
    have d3 := rheld_spec (gP W m) none (sml_pck k3)
    have d4 := rlimited_spec (gP P m) none
    have d5 := same_spec (gP P m) none none (pck_len k1)
    have b1' := hld_ge k1
    have b2' := (nums k1).h
    have b3' := (nums k1).m
    have b4' : lim (gP P m) = true → (1 ≤ (gP P m).q ∧ (gP P m).q ≤ 1000000) ∧ 0 ≤ (gP P m).b ∧ (gP P m).b ≤ 1000000 := fun hlm => by
      have h3 := (nums k1).st
      have hne : (gP P m).q ≠ 4611686018427387904 := by unfold lim at hlm; simpa using hlm
      omega
    rw [k5] at d2
    clear key k1 k2 k3 k5
    by_cases hin : (gP P m).g ∈ U
    case' pos => rw [decide_eq_true hin]
    case' neg => rw [decide_eq_false hin]; rw [k4 hin] at hT2
    all_goals
      clear k4
      generalize hld (gP P m) = hh at *
      generalize hld (gP W m) = hw at *
      generalize mst (gP P m) = mm at *
      generalize lim (gP P m) = li at *
      generalize hxx : gP P m = x at *
      clear hxx
      generalize gP Z m = xz at *
      generalize gP W m = xw at *
      generalize gP y m = xy at *
      obtain ⟨a0, a1, a2, a3, a4, a5, a6, a7, a8, a9⟩ := x
      obtain ⟨w0, w1, w2, w3, w4, w5, w6, w7, w8, w9⟩ := xz
      obtain ⟨v0, v1, v2, v3, v4, v5, v6, v7, v8, v9⟩ := xw
      obtain ⟨s0, s1, s2, s3, s4, s5, s6, s7, s8, s9⟩ := xy
      simp only [plc, plt] at hT hT2 hT3 hT4 d1 d2 d3 d4 d5
      simp only at k6 b4' q0
      by_cases hg : a0 = g
      · cases li with
        | true =>
          have hb4 := b4' rfl
          rw [if_pos ⟨hg, rfl⟩] at k6
          simp only [go_sem, zaa, zaf, zag, zah, zai, zad, ↓reduceIte, reduceCtorEq, zab, zac, zaj, zak, zal, decide_eq_false c2, lendA, hT, hT2, hT3, hT4, q0, decide_eq_true hg, if_minA, decide_eq_true k6]
          repeat' (first
 | with_reducible refine zav ?_ ?_
 | (unfold OKC; kernel_rfl)
 | (unfold EDG; kernel_rfl)
 | (apply cg_tp
    case hl => rfl
    case ha => (simp only [zan, zao, prepV, prepC, idx, hpL', lookR, zaa, if_true, if_false]; rfl)
    case hs => rfl
    case h => (first | exact d1 .. | exact d2 .. | exact d3 .. | exact d4 .. | exact d5 ..))
 | (apply cl_plain
    case hs => rfl
    case ha => (simp only [zan, zao, prepV, prepC, idx, hpL', lookR, zaa, if_true, if_false]; rfl)
    case h => (first | exact d1 .. | exact d2 .. | exact d3 .. | exact d4 .. | exact d5 ..))
 | ((first | refine s1_id ?_ | refine swp_id ?_ | refine sops_id ?_ | refine s2_id ?_); simp only [decide_eq_false c2, lendA, hT, hT2, hT3, hT4, q0, decide_eq_true hg, if_minA, decide_eq_true k6, zaG, zaJ, zax, zaF, zaH, zaD, zaE, zaB, zaK, zaO, zaA, zaC, go_sem, zaa, zaf, zag, zah, zai, zad, ↓reduceIte, reduceCtorEq, zab, zac, zaj, zak, zal, zaL, zaM, zay, zaN, renO, bk, back, outUpsFrom, Ints_ren])
 | (intros; omega)
 | (intros; (try simp only [zas, zau, zat, zar, zap, zaq, decide_eq_true_eq, decide_eq_false_iff_not] at *); omega))
          refine le_mk (m + 1) ?_ hlt (by show P.length - (m + 1) < P.length - m; omega)
          (refine imp_ren _ _ _ [(0, 0, ⟨[.gsl (Cs l) 0 l.length none, int n], 2⟩)] (by simp) (by simp) (by simp) (zaz rfl) ?_ rfl (by simp only [zae, zam, false_implies, implies_true, and_true, zaT, lookR, zaa, if_true, if_false, ↓reduceIte] <;> (repeat' apply zav) <;> (first | rfl | trivial)) (by simp only [zae, zam, false_implies, implies_true, and_true, true_and, flat_cons, flat_nil, flat_ints, flat_bools, flat_app, zaQ, and_self, eq_self_iff_true, zax]); simp only [zan, zao, zae, zam, false_implies, implies_true, and_true, lk, slot, zaL, zay, toN, zaa, if_true, if_false, ↓reduceIte, reduceCtorEq])
          all_goals ((repeat' apply zav) <;> (first | rfl | trivial | (simp only [zaw]; done) | (simp only [zaw]; rfl) | (simp only [zaw]; trivial)))
        | false =>
          rw [if_neg (fun h => zaI h.2)] at k6
          simp only [go_sem, zaa, zaf, zag, zah, zai, zad, ↓reduceIte, reduceCtorEq, zab, zac, zaj, zak, zal, decide_eq_false c2, lendA, hT, hT2, hT3, hT4, q0, decide_eq_true hg, decide_eq_true k6]
          repeat' (first
 | with_reducible refine zav ?_ ?_
 | (unfold OKC; kernel_rfl)
 | (unfold EDG; kernel_rfl)
 | (apply cg_tp
    case hl => rfl
    case ha => (simp only [zan, zao, prepV, prepC, idx, hpL', lookR, zaa, if_true, if_false]; rfl)
    case hs => rfl
    case h => (first | exact d1 .. | exact d2 .. | exact d3 .. | exact d4 .. | exact d5 ..))
 | (apply cl_plain
    case hs => rfl
    case ha => (simp only [zan, zao, prepV, prepC, idx, hpL', lookR, zaa, if_true, if_false]; rfl)
    case h => (first | exact d1 .. | exact d2 .. | exact d3 .. | exact d4 .. | exact d5 ..))
 | ((first | refine s1_id ?_ | refine swp_id ?_ | refine sops_id ?_ | refine s2_id ?_); simp only [decide_eq_false c2, lendA, hT, hT2, hT3, hT4, q0, decide_eq_true hg, decide_eq_true k6, zaG, zaJ, zax, zaF, zaH, zaD, zaE, zaB, zaK, zaO, zaA, zaC, go_sem, zaa, zaf, zag, zah, zai, zad, ↓reduceIte, reduceCtorEq, zab, zac, zaj, zak, zal, zaL, zaM, zay, zaN, renO, bk, back, outUpsFrom, Ints_ren])
 | (intros; omega)
 | (intros; (try simp only [zas, zau, zat, zar, zap, zaq, decide_eq_true_eq, decide_eq_false_iff_not] at *); omega))
          refine le_mk (m + 1) ?_ hlt (by show P.length - (m + 1) < P.length - m; omega)
          (refine imp_ren _ _ _ [(0, 0, ⟨[.gsl (Cs l) 0 l.length none, int n], 2⟩)] (by simp) (by simp) (by simp) (zaz rfl) ?_ rfl (by simp only [zae, zam, false_implies, implies_true, and_true, zaT, lookR, zaa, if_true, if_false, ↓reduceIte] <;> (repeat' apply zav) <;> (first | rfl | trivial)) (by simp only [zae, zam, false_implies, implies_true, and_true, true_and, flat_cons, flat_nil, flat_ints, flat_bools, flat_app, zaQ, and_self, eq_self_iff_true, zax]); simp only [zan, zao, zae, zam, false_implies, implies_true, and_true, lk, slot, zaL, zay, toN, zaa, if_true, if_false, ↓reduceIte, reduceCtorEq])
          all_goals ((repeat' apply zav) <;> (first | rfl | trivial | (simp only [zaw]; done) | (simp only [zaw]; rfl) | (simp only [zaw]; trivial)))
      · rw [if_neg (fun h => hg h.1)] at k6
        simp only [go_sem, zaa, zaf, zag, zah, zai, zad, ↓reduceIte, reduceCtorEq, zab, zac, zaj, zak, zal, decide_eq_false c2, lendA, hT, hT2, hT3, hT4, q0, decide_eq_false hg, decide_eq_true k6]
        repeat' (first
 | with_reducible refine zav ?_ ?_
 | (unfold OKC; kernel_rfl)
 | (unfold EDG; kernel_rfl)
 | (apply cg_tp
    case hl => rfl
    case ha => (simp only [zan, zao, prepV, prepC, idx, hpL', lookR, zaa, if_true, if_false]; rfl)
    case hs => rfl
    case h => (first | exact d1 .. | exact d2 .. | exact d3 .. | exact d4 .. | exact d5 ..))
 | (apply cl_plain
    case hs => rfl
    case ha => (simp only [zan, zao, prepV, prepC, idx, hpL', lookR, zaa, if_true, if_false]; rfl)
    case h => (first | exact d1 .. | exact d2 .. | exact d3 .. | exact d4 .. | exact d5 ..))
 | ((first | refine s1_id ?_ | refine swp_id ?_ | refine sops_id ?_ | refine s2_id ?_); simp only [decide_eq_false c2, lendA, hT, hT2, hT3, hT4, q0, decide_eq_false hg, decide_eq_true k6, zaG, zaJ, zax, zaF, zaH, zaD, zaE, zaB, zaK, zaO, zaA, zaC, go_sem, zaa, zaf, zag, zah, zai, zad, ↓reduceIte, reduceCtorEq, zab, zac, zaj, zak, zal, zaL, zaM, zay, zaN, renO, bk, back, outUpsFrom, Ints_ren])
 | (intros; omega)
 | (intros; (try simp only [zas, zau, zat, zar, zap, zaq, decide_eq_true_eq, decide_eq_false_iff_not] at *); omega))
        refine le_mk (m + 1) ?_ hlt (by show P.length - (m + 1) < P.length - m; omega)
        (refine imp_ren _ _ _ [(0, 0, ⟨[.gsl (Cs l) 0 l.length none, int n], 2⟩)] (by simp) (by simp) (by simp) (zaz rfl) ?_ rfl (by simp only [zae, zam, false_implies, implies_true, and_true, zaT, lookR, zaa, if_true, if_false, ↓reduceIte] <;> (repeat' apply zav) <;> (first | rfl | trivial)) (by simp only [zae, zam, false_implies, implies_true, and_true, true_and, flat_cons, flat_nil, flat_ints, flat_bools, flat_app, zaQ, and_self, eq_self_iff_true, zax]); simp only [zan, zao, zae, zam, false_implies, implies_true, and_true, lk, slot, zaL, zay, toN, zaa, if_true, if_false, ↓reduceIte, reduceCtorEq])
        all_goals ((repeat' apply zav) <;> (first | rfl | trivial | (simp only [zaw]; done) | (simp only [zaw]; rfl) | (simp only [zaw]; trivial)))
theorem apart_main (g0 : List Cell) (s0 : GTy Tryz.prog 12 22 g0) : FnSpec Tryz.prog 3 [svOf Tryz.prog 22 g0] [] (b1 true) [] := by
  obtain ⟨l, rfl, hl, hr⟩ := gty_ints (n := 10) Tryz.underlying22 Tryz.underlying3 s0
  simp only [svOf, Tryz.underlying22, List.headD_cons]
  exact apart_spec l hr
end Go.Proofs.YtcnilpdlcmpbbaaGreat
