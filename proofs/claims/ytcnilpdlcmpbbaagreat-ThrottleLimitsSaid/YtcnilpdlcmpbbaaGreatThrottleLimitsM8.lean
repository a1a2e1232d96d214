/- Contracts of functions, told of values, on the way to ThrottleLimits (part 8). -/
import Derived.Test.YtcnilpdlcmpbbaaGreatThrottleLimitsM3
import Derived.Test.YtcnilpdlcmpbbaaGreatThrottleLimitsM7
-- short names of the library's lemmas
open Nat renaming reduceEqDiff → zaa, reduceLeDiff → zaf, reduceAdd → zah, reduceSub → zai, reduceMul → zaj, reduceLT → zam, le_of_ble_eq_true → zax, zero_le → zaT, lt_or_ge → zaV, le_refl → zbk
open List renaming forall_mem_cons → zab, reduceReplicate → zac, not_mem_nil → zad, map_cons → zag, map_nil → zak, append_nil → zas, length_cons → zaA, cons_append → zaC, nil_append → zaD, length_nil → zaE, take_succ_cons → zaF, set_cons_zero → zaG, set_cons_succ → zaH, flatten_cons → zaJ, flatten_nil → zaK, take_zero → zaL, take_nil → zaM, take_of_length_le → zaP, length_drop → zaR, mem_cons_self → zaS, mem_cons → zaU, flatMap_cons → zaX, flatMap_nil → zaY, take_append_of_le_length → zaZ, drop_of_length_le → zba, length_append → zbd, mem_cons_of_mem → zbe, take → zbf, length_take → zbg
open Int renaming cast_ofNat_Int → zae, reduceEq → zan, reduceLT → zao, reduceLE → zap, natCast_add → zar, toNat_natCast → zaW, le_refl → zbl
open Bool renaming and_eq_false_iff → zal, or_eq_false_iff → zaq, not_eq_false' → zat, not_eq_true' → zau, and_eq_true → zaw, or_eq_true → zay, false_ne_true → zbb, false_eq_true → zbh, not_eq_false → zbi, true_and → zbj
open And renaming intro → zav
open Go.Proofs.YtcnilpdlcmpbbaaGreat.Sh.Cell renaming ren → zaz, refs → zaB, isG → zbc, frz → zbm
open Go.Proofs.YtcnilpdlcmpbbaaGreat.Sh.SV renaming ren → zaI, renL → zaN
open Go.Proofs.YtcnilpdlcmpbbaaGreat.Sh.Row renaming ren → zaO
open Go.Proofs.YtcnilpdlcmpbbaaGreat.Sh.St renaming hpF → zaQ
-- NEWGO
-- PRUNE: cl_lendx cl_use cl_lend
-- ISG: Cs_isG
-- FLAT: Cs_flat
namespace Go.Proofs.YtcnilpdlcmpbbaaGreat
set_option linter.unusedVariables false
set_option linter.unusedSimpArgs false
open Go.Proofs.YtcnilpdlcmpbbaaGreat.Sh
set_option maxRecDepth 20000
set_option maxHeartbeats 4000000 in
theorem pl3_ix (g : FuncId) (c0 : List Cell) (c1 : List Cell) (c2 : List Cell) (q : Pl → Bool) (xs : List (Pl)) (hg : ∀ x ∈ xs, FnSpec Tryz.prog g [.agg (Rec.cs x), .one (.gptr c0 0), .one (.gptr c1 0), .one (.gptr c2 0)] [] (b1 (q x)) []) (cap : Option Nat)
    (hs : xs.length ≤ 9223372036854775807) : FnSpec Tryz.prog 62 [gr xs cap, .one (.fn g [.gptr c0 0, .gptr c1 0, .gptr c2 0])] [] (i1 (ixR q xs 0)) [] := by
  refine fnspec_of mixed TT_ok TT_cl ⟨fun _ => false, fun _ => [], 0, fun _ => false, fun _ => false⟩ Tryz.func62 rfl (by kernel_rfl) rfl 19 rfl [.tmp 4] rfl ?_
  simp only [go_sem, zaa, zah, zai, zaj, zam, zaf, ↓reduceIte, reduceCtorEq, zac, zae, zan, zao, zap]
  repeat' (first
 | (intros; (try simp only [zaw, zay, zau, zat, zal, zaq, decide_eq_true_eq, decide_eq_false_iff_not] at *); omega))
  refine w_loop (ι := Nat) (fun i => ⟨[(0, gr xs cap), (1, .one (.fn g [.gptr c0 0, .gptr c1 0, .gptr c2 0])), (7, i1 xs.length), (8, i1 i)], [], 0⟩) (fun i => i ≤ xs.length ∧ ixR q xs 0 = ixR q (xs.drop i) i) (fun i => xs.length - i) 0 ?_ ⟨zaT _, rfl⟩ ?_
  · (refine imp_sub _ _ _ [] (by simp) (by simp) (by simp) (zaT _) ?_ rfl (by simp); simp only [zab, zad, false_implies, implies_true, and_true, lk, slot, zaI, zaz, zaa, if_true, if_false, ↓reduceIte, reduceCtorEq])
    all_goals ((repeat' apply zav) <;> (first | rfl | trivial))
  rintro i ⟨hi, he⟩
  simp only at hi he ⊢
  rcases zaV i xs.length with hlt | hge
  case inr =>
    have hlt' : ¬ (i : Int) < (xs.length : Int) := by omega
    rw [zba hge] at he
    rw [he]
    simp only [go_sem, zaa, zah, zai, zaj, zam, zaf, ↓reduceIte, reduceCtorEq, zac, zae, zan, zao, zap, decide_eq_false hlt', ixR]
    repeat' (first
 | exact fs_nil trivial rfl
 | fail)
  have hlt' : (i : Int) < (xs.length : Int) := by omega
  have hcl : (Cs xs).length = xs.length * 10 := Cs_len xs
  have hat : zbf 10 (List.drop (i * 10) (Cs xs)) = Rec.cs (xs.getD i Rec.z) := Cs_td xs i hlt
  have hm := getD_mem xs i Rec.z hlt
  have hc := hg _ hm
  rw [drop_getD xs i Rec.z hlt, ixR] at he
  have hrl : (Rec.cs (xs.getD i Rec.z)).length = 10 := Rec.len _
  have hrg := Rec.g (xs.getD i Rec.z)
  generalize xs.getD i Rec.z = b at *
  have hcs : Rec.cs b = [int b.g, int b.q, int b.b, int b.s, int b.l, .gsl (Ints b.c) 0 b.c.length none, int b.sp, int b.pe, int b.th, bool b.em] := rfl
  rw [hcs] at hat hc
  clear hrl hrg
  cases hqb : q b with
  | true =>
    rw [hqb] at hc he
    simp only [if_true] at he
    rw [he]
    simp only [go_sem, zaa, zah, zai, zaj, zam, zaf, ↓reduceIte, reduceCtorEq, zac, zae, zan, zao, zap, decide_eq_true hlt', hat]
    repeat' (first
 | with_reducible refine zav ?_ ?_
 | (apply cl_plain
    case hs => rfl
    case ha => (simp only [zag, zak, prepV, prepC, idx, hpL', lookR, zaa, if_true, if_false]; rfl)
    case h => (first | exact hc ..))
 | ((first | refine s1_id ?_ | refine swp_id ?_ | refine sops_id ?_ | refine s2_id ?_); simp only [decide_eq_true hlt', hat, go_sem, zaa, zah, zai, zaj, zam, zaf, ↓reduceIte, reduceCtorEq, zac, zae, zan, zao, zap, zaI, zaN, zaz, zaO, renO, bk, back, outUpsFrom, Ints_ren])
 | (intros; omega)
 | exact fs_nil trivial rfl
 | fail)
  | false =>
    rw [hqb] at hc he
    simp only [zbh, if_false] at he
    simp only [go_sem, zaa, zah, zai, zaj, zam, zaf, ↓reduceIte, reduceCtorEq, zac, zae, zan, zao, zap, decide_eq_true hlt', hat]
    repeat' (first
 | with_reducible refine zav ?_ ?_
 | (apply cl_plain
    case hs => rfl
    case ha => (simp only [zag, zak, prepV, prepC, idx, hpL', lookR, zaa, if_true, if_false]; rfl)
    case h => (first | exact hc ..))
 | ((first | refine s1_id ?_ | refine swp_id ?_ | refine sops_id ?_ | refine s2_id ?_); simp only [decide_eq_true hlt', hat, go_sem, zaa, zah, zai, zaj, zam, zaf, ↓reduceIte, reduceCtorEq, zac, zae, zan, zao, zap, zaI, zaN, zaz, zaO, renO, bk, back, outUpsFrom, Ints_ren])
 | (intros; omega)
 | (intros; (try simp only [zaw, zay, zau, zat, zal, zaq, decide_eq_true_eq, decide_eq_false_iff_not] at *); omega))
    refine le_mk (i + 1) ?_ ⟨by omega, he⟩ (by omega)
    (refine imp_sub _ _ _ [] (by simp) (by simp) (by simp) (zaT _) ?_ rfl (by simp); simp only [zab, zad, false_implies, implies_true, and_true, lk, slot, zaI, zaz, zaa, if_true, if_false, ↓reduceIte, reduceCtorEq])
    all_goals ((repeat' apply zav) <;> (first | rfl | trivial | (simp only [zar]; done) | (simp only [zar]; rfl) | (simp only [zar]; trivial)))
def usb (id s c : Int) (x : Pl) : Bool := decide (x.g = id) && (decide (x.s = s) && (decide ((x.c.length : Int) = c) && pck x))
set_option maxHeartbeats 4000000 in
theorem sync1_spec (x : Pl) (y : Nd) (s cp : Int) : FnSpec Tryz.prog 60 [.agg (Rec.cs x), .one (.gptr (ndc y) 0), .one (.gptr [int s] 0), .one (.gptr [int cp] 0)] [] (b1 (usb y.i s cp x)) [] := by
  show FnSpec Tryz.prog 60 [.agg (plc x none), .one (.gptr (ndc y) 0), .one (.gptr [int s] 0), .one (.gptr [int cp] 0)] [] (b1 (usb y.i s cp x)) []
  have h1 := check_spec x none
  unfold usb
  generalize pck x = P at *
  obtain ⟨a, b, c, d, e, f, g1, h1', i1', j1⟩ := x
  obtain ⟨yi, yp, yn, yc, yk, yo⟩ := y
  simp only [plc, plt, ndc] at h1 ⊢
  by_cases k0 : a = yi
  case neg =>
    rw [decide_eq_false k0]
    refine fnspec_of mixed TT_ok TT_cl ⟨fun _ => false, fun _ => [], 0, fun _ => false, fun _ => false⟩ Tryz.func60 rfl (by kernel_rfl) rfl 28 rfl [.tmp 5] rfl ?_
    simp only [go_sem, zaa, zah, zai, zaj, zam, zaf, ↓reduceIte, reduceCtorEq, zac, zae, zan, zao, zap, decide_eq_false k0]
    repeat' (first
 | exact fs_nil trivial rfl
 | fail)
  by_cases k1 : d = s
  case neg =>
    rw [decide_eq_true k0, decide_eq_false k1]
    refine fnspec_of mixed TT_ok TT_cl ⟨fun _ => false, fun _ => [], 0, fun _ => false, fun _ => false⟩ Tryz.func60 rfl (by kernel_rfl) rfl 28 rfl [.tmp 5] rfl ?_
    simp only [go_sem, zaa, zah, zai, zaj, zam, zaf, ↓reduceIte, reduceCtorEq, zac, zae, zan, zao, zap, decide_eq_true k0, decide_eq_false k1]
    repeat' (first
 | exact fs_nil trivial rfl
 | fail)
  by_cases k2 : (f.length : Int) = cp
  case neg =>
    rw [decide_eq_true k0, decide_eq_true k1, decide_eq_false k2]
    refine fnspec_of mixed TT_ok TT_cl ⟨fun _ => false, fun _ => [], 0, fun _ => false, fun _ => false⟩ Tryz.func60 rfl (by kernel_rfl) rfl 28 rfl [.tmp 5] rfl ?_
    simp only [go_sem, zaa, zah, zai, zaj, zam, zaf, ↓reduceIte, reduceCtorEq, zac, zae, zan, zao, zap, decide_eq_true k0, decide_eq_true k1, decide_eq_false k2]
    repeat' (first
 | exact fs_nil trivial rfl
 | fail)
  rw [decide_eq_true k0, decide_eq_true k1, decide_eq_true k2, zbj, zbj, zbj]
  refine fnspec_of mixed TT_ok TT_cl ⟨fun _ => false, fun _ => [], 0, fun _ => false, fun _ => false⟩ Tryz.func60 rfl (by kernel_rfl) rfl 28 rfl [.tmp 5] rfl ?_
  simp only [go_sem, zaa, zah, zai, zaj, zam, zaf, ↓reduceIte, reduceCtorEq, zac, zae, zan, zao, zap, decide_eq_true k0, decide_eq_true k1, decide_eq_true k2]
  repeat' (first
 | (apply cg_tp
    case hl => rfl
    case ha => (simp only [zag, zak, prepV, prepC, idx, hpL', lookR, zaa, if_true, if_false]; rfl)
    case hs => rfl
    case h => (first | exact h1 ..))
 | ((first | refine s1_id ?_ | refine swp_id ?_ | refine sops_id ?_ | refine s2_id ?_); simp only [decide_eq_true k0, decide_eq_true k1, decide_eq_true k2, zaJ, zaK, zas, zaC, zaD, zaG, zaH, zaF, zaL, zaM, zaA, zaE, go_sem, zaa, zah, zai, zaj, zam, zaf, ↓reduceIte, reduceCtorEq, zac, zae, zan, zao, zap, zaI, zaN, zaz, zaO, renO, bk, back, outUpsFrom, Ints_ren])
 | exact fs_nil trivial rfl
 | fail)
def syE (l : List Nd) (P : List Pl) (q b : List Int) (s c : Int) (i : Nat) : Pl × Int :=
  if ixR (usb (gN l i).i s c) P 0 < 0 then pnew (gN l i).i (q.getD i 0) (b.getD i 0) s c else pchange (gP P (ixR (usb (gN l i).i s c) P 0).toNat) (q.getD i 0) (b.getD i 0)
def syN (E : Nat → Pl × Int) (m : Nat) : List Pl := (List.range m).map fun i => (E i).1
def thSy (l : List Nd) (n : Int) (P : List Pl) (q b : List Int) (s c : Int) : List Pl × Int :=
  if (chkT l n && (decide (q.length = l.length) && decide (b.length = l.length))) = true then
    (if allN l.length (fun i => decide ((syE l P q b s c i).2 = 0)) = true then (syN (syE l P q b s c) l.length, 0) else ([], 3)) else ([], 1)
theorem syN_len (E : Nat → Pl × Int) (m : Nat) : (syN E m).length = m := by simp [syN]
theorem syN_suc (E : Nat → Pl × Int) (m : Nat) : syN E (m + 1) = syN E m ++ [(E m).1] := by simp [syN, List.range_succ]
theorem usb_iff {id s c : Int} {x : Pl} : usb id s c x = true ↔ x.g = id ∧ x.s = s ∧ (x.c.length : Int) = c ∧ pck x = true := by
  unfold usb
  simp only [zaw, decide_eq_true_eq]
theorem syE_e (l : List Nd) (P : List Pl) (q b : List Int) (s c : Int) (i : Nat) : (syE l P q b s c i).2 = 0 ∨ (syE l P q b s c i).2 = 3 := by
  unfold syE
  split
  · exact pnew_e _ _ _ _ _
  · rename_i h
    rcases ixR_at (usb (gN l i).i s c) zpl P 0 with ⟨h1, _⟩ | ⟨k, h1, h2, h3, _⟩
    · omega
    · rw [Nat.zero_add] at h1
      rw [h1, zaW]
      have := (usb_iff.1 h3).2.2.2
      unfold pchange
      rw [if_neg (by rw [show pck (gP P k) = true from this]; decide)]
      split <;> simp
set_option maxHeartbeats 16000000 in
theorem thsync_spec (l : List Nd) (n : Int) (P : List Pl) (k : Option Nat) (q b : List Int) (s cp : Int) (kq kb : Option Nat) (hl : l.length ≤ 1000000) (hP : P.length ≤ 1000000) (hq : q.length ≤ 9223372036854775807) (hb : b.length ≤ 9223372036854775807) (hnm : NmR l) (hct : CtR l) : FnSpec Tryz.prog 27 [trV l none n, gr P k, gi q kq, gi b kb, i1 s, i1 cp] [] (.tup [gr (thSy l n P q b s cp).1 none, i1 (thSy l n P q b s cp).2]) [] := by
  have h1 := tchk_spec l n hl hnm hct
  have hnl := nd_len l
  have hpl := pl_len P
  unfold thSy
  cases hk : chkT l n with
  | false =>
    rw [hk] at h1
    rw [Bool.false_and, if_neg zbb]
    refine fnspec_of mixed TT_ok TT_cl ⟨fun _ => false, fun _ => [], 0, fun _ => false, fun _ => false⟩ Tryz.func27 rfl (by kernel_rfl) rfl 95 rfl [.tmp 12, .tmp 13] rfl ?_
    simp only [go_sem, zaa, zah, zai, zaj, zam, zaf, ↓reduceIte, reduceCtorEq, zac, zae, zan, zao, zap]
    repeat' (first
 | (apply cl_plain
    case hs => rfl
    case ha => (simp only [zag, zak, prepV, prepC, idx, hpL', lookR, zaa, if_true, if_false]; rfl)
    case h => (first | exact h1 ..))
 | ((first | refine s1_id ?_ | refine swp_id ?_ | refine sops_id ?_ | refine s2_id ?_); simp only [go_sem, zaa, zah, zai, zaj, zam, zaf, ↓reduceIte, reduceCtorEq, zac, zae, zan, zao, zap, zaI, zaN, zaz, zaO, renO, bk, back, outUpsFrom, Ints_ren])
 | (intros; (try simp only [zaw, zay, zau, zat, zal, zaq, decide_eq_true_eq, decide_eq_false_iff_not] at *); omega))
    repeat' (first
 | exact fs_w trivial (svw_of ⟨cw_gnil, cw_rfl _, trivial⟩)
 | fail)
  | true =>
  rw [hk] at h1
  rw [zbj]
  by_cases c1 : q.length = l.length
  case neg =>
    have c1' : ¬ (q.length : Int) = (l.length : Int) := by omega
    rw [decide_eq_false c1, Bool.false_and, if_neg zbb]
    refine fnspec_of mixed TT_ok TT_cl ⟨fun _ => false, fun _ => [], 0, fun _ => false, fun _ => false⟩ Tryz.func27 rfl (by kernel_rfl) rfl 95 rfl [.tmp 12, .tmp 13] rfl ?_
    simp only [go_sem, zaa, zah, zai, zaj, zam, zaf, ↓reduceIte, reduceCtorEq, zac, zae, zan, zao, zap, decide_eq_false c1']
    repeat' (first
 | (apply cl_plain
    case hs => rfl
    case ha => (simp only [zag, zak, prepV, prepC, idx, hpL', lookR, zaa, if_true, if_false]; rfl)
    case h => (first | exact h1 ..))
 | ((first | refine s1_id ?_ | refine swp_id ?_ | refine sops_id ?_ | refine s2_id ?_); simp only [decide_eq_false c1', go_sem, zaa, zah, zai, zaj, zam, zaf, ↓reduceIte, reduceCtorEq, zac, zae, zan, zao, zap, zaI, zaN, zaz, zaO, renO, bk, back, outUpsFrom, Ints_ren])
 | (intros; (try simp only [zaw, zay, zau, zat, zal, zaq, decide_eq_true_eq, decide_eq_false_iff_not] at *); omega))
    repeat' (first
 | exact fs_w trivial (svw_of ⟨cw_gnil, cw_rfl _, trivial⟩)
 | fail)
  have c1' : (q.length : Int) = (l.length : Int) := by omega
  rw [decide_eq_true c1, zbj]
  by_cases c2 : b.length = l.length
  case neg =>
    have c2' : ¬ (b.length : Int) = (l.length : Int) := by omega
    rw [decide_eq_false c2, if_neg zbb]
    refine fnspec_of mixed TT_ok TT_cl ⟨fun _ => false, fun _ => [], 0, fun _ => false, fun _ => false⟩ Tryz.func27 rfl (by kernel_rfl) rfl 95 rfl [.tmp 12, .tmp 13] rfl ?_
    simp only [go_sem, zaa, zah, zai, zaj, zam, zaf, ↓reduceIte, reduceCtorEq, zac, zae, zan, zao, zap, decide_eq_true c1', decide_eq_false c2']
    repeat' (first
 | (apply cl_plain
    case hs => rfl
    case ha => (simp only [zag, zak, prepV, prepC, idx, hpL', lookR, zaa, if_true, if_false]; rfl)
    case h => (first | exact h1 ..))
 | ((first | refine s1_id ?_ | refine swp_id ?_ | refine sops_id ?_ | refine s2_id ?_); simp only [decide_eq_true c1', decide_eq_false c2', go_sem, zaa, zah, zai, zaj, zam, zaf, ↓reduceIte, reduceCtorEq, zac, zae, zan, zao, zap, zaI, zaN, zaz, zaO, renO, bk, back, outUpsFrom, Ints_ren])
 | (intros; (try simp only [zaw, zay, zau, zat, zal, zaq, decide_eq_true_eq, decide_eq_false_iff_not] at *); omega))
    repeat' (first
 | exact fs_w trivial (svw_of ⟨cw_gnil, cw_rfl _, trivial⟩)
 | fail)
  have c2' : (b.length : Int) = (l.length : Int) := by omega
  rw [decide_eq_true c2, if_pos rfl]
  refine fnspec_of mixed TT_ok TT_cl ⟨fun _ => false, fun _ => [], 0 , fun _ => false, fun i => if i = 7 then true else false⟩ Tryz.func27 rfl (by kernel_rfl) rfl 95 rfl [.tmp 12, .tmp 13] rfl ?_
  simp only [go_sem, zaa, zah, zai, zaj, zam, zaf, ↓reduceIte, reduceCtorEq, zac, zae, zan, zao, zap, decide_eq_true c1', decide_eq_true c2']
  repeat' (first
 | (apply cl_plain
    case hs => rfl
    case ha => (simp only [zag, zak, prepV, prepC, idx, hpL', lookR, zaa, if_true, if_false]; rfl)
    case h => (first | exact h1 ..))
 | ((first | refine s1_id ?_ | refine swp_id ?_ | refine sops_id ?_ | refine s2_id ?_); simp only [decide_eq_true c1', decide_eq_true c2', go_sem, zaa, zah, zai, zaj, zam, zaf, ↓reduceIte, reduceCtorEq, zac, zae, zan, zao, zap, zaI, zaN, zaz, zaO, renO, bk, back, outUpsFrom, Ints_ren])
 | (intros; (try simp only [zaw, zay, zau, zat, zal, zaq, decide_eq_true_eq, decide_eq_false_iff_not] at *); omega))
  refine w_loop (ι := Nat) (fun m => ⟨[(1, gr P k), (2, gi q kq), (3, gi b kb), (10, .one (.gptr [int s] 0)), (11, .one (.gptr [int cp] 0)), (14, .one (.osl 0 0 m none)), (41, gr l none), (42, i1 l.length), (43, i1 m)], [(0, some ⟨Cs (syN (syE l P q b s cp) m), 10⟩)], 1⟩) (fun m => m ≤ l.length ∧ ∀ i, i < m → (syE l P q b s cp i).2 = 0) (fun m => l.length - m) 0 ?_ ⟨zaT _, fun i hi => absurd hi (Nat.not_lt_zero _)⟩ ?_
  · (refine Imp.trans (imp_frz _ _ 1 ⟨[int s], 1⟩ (by simp only [zaQ, lookR, zaa, if_true, if_false, ↓reduceIte]) (by first | exact Ints_isG _ | exact Bools_isG _ | exact Cs_isG _ | (simp [zbc]; done))) ?_; simp only [frzTm, SV.frz, SV.frzL, zbm, frzHp, frzO, Ints_frz, Bools_frz, zag, zak, zaa, if_true, if_false, ↓reduceIte])
    (refine Imp.trans (imp_frz _ _ 2 ⟨[int cp], 1⟩ (by simp only [zaQ, lookR, zaa, if_true, if_false, ↓reduceIte]) (by first | exact Ints_isG _ | exact Bools_isG _ | exact Cs_isG _ | (simp [zbc]; done))) ?_; simp only [frzTm, SV.frz, SV.frzL, zbm, frzHp, frzO, Ints_frz, Bools_frz, zag, zak, zaa, if_true, if_false, ↓reduceIte])
    (refine Imp.trans (imp_nilA _ _ 14 10 99 (by simp only []; omega) rfl) ?_)
    (refine imp_ren _ _ _ [(0, 99, ⟨[], 10⟩)] (by simp) (by simp) (by simp) (zax rfl) ?_ rfl (by simp only [zab, zad, false_implies, implies_true, and_true, zaQ, lookR, zaa, if_true, if_false, ↓reduceIte] <;> (repeat' apply zav) <;> (first | rfl | trivial)) (by simp only [zab, zad, false_implies, implies_true, and_true, true_and, flat_cons, flat_nil, flat_ints, flat_bools, flat_app, zaB, and_self, eq_self_iff_true, zas]); simp only [zag, zak, zab, zad, false_implies, implies_true, and_true, lk, slot, zaI, zaz, toN, zaa, if_true, if_false, ↓reduceIte, reduceCtorEq])
    all_goals ((repeat' apply zav) <;> (first | rfl | trivial))
  clear h1
  rintro m ⟨hm, hI⟩
  simp only at hm hI ⊢
  rcases zaV m l.length with hlt | hge
  case inr =>
    have c : ¬ (m : Int) < (l.length : Int) := by omega
    obtain rfl : m = l.length := by omega
    rw [if_pos ((allN_iff _ _).2 fun i hi => decide_eq_true (hI i hi))]
    have hRl := syN_len (syE l P q b s cp) l.length
    generalize syN (syE l P q b s cp) l.length = R at *
    simp only [go_sem, zaa, zah, zai, zaj, zam, zaf, ↓reduceIte, reduceCtorEq, zac, zae, zan, zao, zap, decide_eq_false c]
    repeat' (first
 | (intros; (try simp only [zaw, zay, zau, zat, zal, zaq, decide_eq_true_eq, decide_eq_false_iff_not] at *); omega))
    (refine fs_frz 0 ⟨Cs R, 10⟩ (by simp only [zaQ, lookR, zaa, if_true, if_false, ↓reduceIte]) (by first | exact Ints_isG _ | exact Bools_isG _ | exact Cs_isG _ | (simp [zbc]; done)) ?_; simp only [frzTm, SV.frz, SV.frzL, zbm, frzHp, frzO, Ints_frz, Bools_frz, zag, zak, zaa, if_true, if_false, ↓reduceIte])
    apply fs_nil <;> (try simp only [go_sem, resV, resS, zaI, zaN, zaz, St.tmF, zaQ, idx, renO, zaO, evS, slot, lookR, zaa, ↓reduceIte, reduceCtorEq, if_true, if_false, Option.getD_some, Option.getD_none, zag, zak, sLoad, readAt, readNeed, Ints_ren, Ints_length, Ints_getD, and_true, true_and, List.getD_cons_zero, List.getD_cons_succ]) <;> (try rfl)
    show SV.tup [.one (.gsl (Cs R) 0 l.length none), i1 0] = SV.tup [.one (.gsl (Cs R) 0 R.length none), i1 0]
    rw [hRl]
  have c : (m : Int) < (l.length : Int) := by omega
  have hT := nd_td l m hlt
  have hee : syE l P q b s cp m = if ixR (usb (gN l m).i s cp) P 0 < 0 then pnew (gN l m).i (q.getD m 0) (b.getD m 0) s cp else pchange (gP P (ixR (usb (gN l m).i s cp) P 0).toNat) (q.getD m 0) (b.getD m 0) := rfl
  have he3 := syE_e l P q b s cp m
  have hsu := syN_suc (syE l P q b s cp) m
  have hno : (syE l P q b s cp m).2 ≠ 0 → allN l.length (fun i => decide ((syE l P q b s cp i).2 = 0)) = false := fun hf => Bool.eq_false_iff.2 fun h => hf (of_decide_eq_true ((allN_iff _ _).1 h m hlt))
  have hcq : (m : Int) < (q.length : Int) := by omega
  have hcb : (m : Int) < (b.length : Int) := by omega
  have hix := pl3_ix 60 (ndc (gN l m)) [int s] [int cp] (usb (gN l m).i s cp) P (fun x _ => sync1_spec x (gN l m) s cp) k (by omega)
  have h2 := new_spec (gN l m).i (q.getD m 0) (b.getD m 0) s cp
  have hll := syN_len (syE l P q b s cp) m
  have htk : zbf (m * 10) (Cs (syN (syE l P q b s cp) m)) = Cs (syN (syE l P q b s cp) m) := Cs_all _ _ (by rw [hll]; exact zbk _)
  have hpc := pl_len (syN (syE l P q b s cp) m)
  rw [hll] at hpc
  have hI2 : (syE l P q b s cp m).2 = 0 → ∀ i, i < m + 1 → (syE l P q b s cp i).2 = 0 := fun h0 i hi => by
    rcases Nat.lt_succ_iff_lt_or_eq.1 hi with h | h
    · exact hI i h
    · rw [h]; exact h0
  rcases ixR_at (usb (gN l m).i s cp) zpl P 0 with ⟨e1, _⟩ | ⟨t, e1, ht, _, _⟩
  · rw [e1, if_pos (by omega)] at hee
    rw [e1] at hix
    rw [← hee] at h2
    generalize hE : syE l P q b s cp = E at *
    generalize hr : E m = r at *
    obtain ⟨⟨s0, s1, s2, s3, s4, s5, s6, s7, s8, s9⟩, r2⟩ := r
    simp only at he3 hno hsu
    simp only [plc, plt, pre] at h2
    generalize gN l m = y at *
    obtain ⟨yi, yp, yn, yc, yk, yo⟩ := y
    simp only [ndc] at hT hix
    simp only at h2
    clear hee
    by_cases k0 : r2 = 0
    case neg =>
      obtain rfl : r2 = 3 := by omega
      rw [hno (by decide)]
      simp only [zbh, if_false, go_sem, zaa, zah, zai, zaj, zam, zaf, ↓reduceIte, reduceCtorEq, zac, zae, zan, zao, zap, decide_eq_true c, hT]
      repeat' (first
 | with_reducible refine zav ?_ ?_
 | (intros; omega)
 | (intros; (try simp only [zaw, zay, zau, zat, zal, zaq, decide_eq_true_eq, decide_eq_false_iff_not] at *); omega))
      (refine rgf_t _ (imp_frz _ _ 5 ⟨[int yi, int yp, st yn, int yc, int yk, int yo], 6⟩ (by simp only [zaQ, lookR, zaa, if_true, if_false, ↓reduceIte]) (by first | exact Ints_isG _ | exact Bools_isG _ | exact Cs_isG _ | (simp [zbc]; done))) ?_; simp only [frzTm, SV.frz, SV.frzL, zbm, frzHp, frzO, Ints_frz, Bools_frz, zag, zak, zaa, if_true, if_false, ↓reduceIte])
      simp only [go_sem, zaa, zah, zai, zaj, zam, zaf, ↓reduceIte, reduceCtorEq, zac, zae, zan, zao, zap]
      repeat' (first
 | with_reducible refine zav ?_ ?_
 | (unfold OKC; kernel_rfl)
 | (unfold EDG; kernel_rfl)
 | (apply cl_plain
    case hs => rfl
    case ha => (simp only [zag, zak, prepV, prepC, idx, hpL', lookR, zaa, if_true, if_false]; rfl)
    case h => (first | exact hix .. | exact h2 ..))
 | ((first | refine s1_id ?_ | refine swp_id ?_ | refine sops_id ?_ | refine s2_id ?_); simp only [zaJ, zaK, zas, zaC, zaD, zaG, zaH, zaF, zaL, zaM, zaA, zaE, go_sem, zaa, zah, zai, zaj, zam, zaf, ↓reduceIte, reduceCtorEq, zac, zae, zan, zao, zap, zaI, zaN, zaz, zaO, renO, bk, back, outUpsFrom, Ints_ren])
 | (intros; omega)
 | (intros; (try simp only [zaw, zay, zau, zat, zal, zaq, decide_eq_true_eq, decide_eq_false_iff_not] at *); omega))
      repeat' (first
 | exact fs_w trivial (svw_of ⟨cw_gnil, cw_rfl _, trivial⟩)
 | fail)
    subst k0
    have hpp : Cs (syN E m) ++ [int s0, int s1, int s2, int s3, int s4, .gsl (Ints s5) 0 s5.length none, int s6, int s7, int s8, .sc (.bool s9)] = Cs (syN E (m + 1)) := by
      rw [hsu]; exact Cs_snoc _ (⟨s0, s1, s2, s3, s4, s5, s6, s7, s8, s9⟩ : Pl)
    generalize syN E m = C at *
    simp only [go_sem, zaa, zah, zai, zaj, zam, zaf, ↓reduceIte, reduceCtorEq, zac, zae, zan, zao, zap, decide_eq_true c, hT]
    repeat' (first
 | with_reducible refine zav ?_ ?_
 | (intros; omega)
 | (intros; (try simp only [zaw, zay, zau, zat, zal, zaq, decide_eq_true_eq, decide_eq_false_iff_not] at *); omega))
    (refine rgf_t _ (imp_frz _ _ 5 ⟨[int yi, int yp, st yn, int yc, int yk, int yo], 6⟩ (by simp only [zaQ, lookR, zaa, if_true, if_false, ↓reduceIte]) (by first | exact Ints_isG _ | exact Bools_isG _ | exact Cs_isG _ | (simp [zbc]; done))) ?_; simp only [frzTm, SV.frz, SV.frzL, zbm, frzHp, frzO, Ints_frz, Bools_frz, zag, zak, zaa, if_true, if_false, ↓reduceIte])
    simp only [go_sem, zaa, zah, zai, zaj, zam, zaf, ↓reduceIte, reduceCtorEq, zac, zae, zan, zao, zap]
    repeat' (first
 | with_reducible refine zav ?_ ?_
 | (unfold OKC; kernel_rfl)
 | (unfold EDG; kernel_rfl)
 | (apply cl_plain
    case hs => rfl
    case ha => (simp only [zag, zak, prepV, prepC, idx, hpL', lookR, zaa, if_true, if_false]; rfl)
    case h => (first | exact hix .. | exact h2 ..))
 | ((first | refine s1_id ?_ | refine swp_id ?_ | refine sops_id ?_ | refine s2_id ?_); simp only [htk, hpp, zaJ, zaK, zas, zaC, zaD, zaG, zaH, zaF, zaL, zaM, zaA, zaE, go_sem, zaa, zah, zai, zaj, zam, zaf, ↓reduceIte, reduceCtorEq, zac, zae, zan, zao, zap, zaI, zaN, zaz, zaO, renO, bk, back, outUpsFrom, Ints_ren])
 | (intros; omega)
 | (intros; (try simp only [zaw, zay, zau, zat, zal, zaq, decide_eq_true_eq, decide_eq_false_iff_not] at *); omega))
    refine le_mk (m + 1) ?_ ⟨hlt, hI2 rfl⟩ (by omega)
    (refine imp_ren _ _ _ [(0, 41, ⟨Cs (syN E (m + 1)), 10⟩)] (by simp) (by simp) (by simp) (zax rfl) ?_ rfl (by simp only [zab, zad, false_implies, implies_true, and_true, zaQ, lookR, zaa, if_true, if_false, ↓reduceIte, Cs_flat] <;> (repeat' apply zav) <;> (first | rfl | trivial)) (by simp only [zab, zad, false_implies, implies_true, and_true, true_and, flat_cons, flat_nil, flat_ints, flat_bools, flat_app, zaB, and_self, eq_self_iff_true, zas, Cs_flat]); simp only [zag, zak, zab, zad, false_implies, implies_true, and_true, lk, slot, zaI, zaz, toN, zaa, if_true, if_false, ↓reduceIte, reduceCtorEq])
    all_goals ((repeat' apply zav) <;> (first | rfl | trivial | (simp only [zar]; done) | (simp only [zar]; rfl) | (simp only [zar]; trivial)))
  · rw [Nat.zero_add] at e1
    rw [e1, if_neg (by omega), zaW] at hee
    rw [e1] at hix
    have h5 := change_spec (gP P t) none (q.getD m 0) (b.getD m 0)
    rw [← hee] at h5
    have hTt := pl_td P t ht
    have ct : ¬ (t : Int) < 0 := by omega
    generalize hE : syE l P q b s cp = E at *
    generalize hr : E m = r at *
    obtain ⟨⟨s0, s1, s2, s3, s4, s5, s6, s7, s8, s9⟩, r2⟩ := r
    simp only at he3 hno hsu
    generalize gN l m = y at *
    obtain ⟨yi, yp, yn, yc, yk, yo⟩ := y
    generalize gP P t = x at *
    obtain ⟨a0, a1, a2, a3, a4, a5, a6, a7, a8, a9⟩ := x
    simp only [plc, plt, pre] at h5 hTt
    simp only [ndc] at hT hix
    clear hee h2
    by_cases k0 : r2 = 0
    case neg =>
      obtain rfl : r2 = 3 := by omega
      rw [hno (by decide)]
      simp only [zbh, if_false, go_sem, zaa, zah, zai, zaj, zam, zaf, ↓reduceIte, reduceCtorEq, zac, zae, zan, zao, zap, decide_eq_true c, hT]
      repeat' (first
 | with_reducible refine zav ?_ ?_
 | (intros; omega)
 | (intros; (try simp only [zaw, zay, zau, zat, zal, zaq, decide_eq_true_eq, decide_eq_false_iff_not] at *); omega))
      (refine rgf_t _ (imp_frz _ _ 5 ⟨[int yi, int yp, st yn, int yc, int yk, int yo], 6⟩ (by simp only [zaQ, lookR, zaa, if_true, if_false, ↓reduceIte]) (by first | exact Ints_isG _ | exact Bools_isG _ | exact Cs_isG _ | (simp [zbc]; done))) ?_; simp only [frzTm, SV.frz, SV.frzL, zbm, frzHp, frzO, Ints_frz, Bools_frz, zag, zak, zaa, if_true, if_false, ↓reduceIte])
      simp only [go_sem, zaa, zah, zai, zaj, zam, zaf, ↓reduceIte, reduceCtorEq, zac, zae, zan, zao, zap, decide_eq_false ct, hTt]
      repeat' (first
 | with_reducible refine zav ?_ ?_
 | (unfold OKC; kernel_rfl)
 | (unfold EDG; kernel_rfl)
 | (apply cl_plain
    case hs => rfl
    case ha => (simp only [zag, zak, prepV, prepC, idx, hpL', lookR, zaa, if_true, if_false]; rfl)
    case h => (first | exact hix .. | exact h5 ..))
 | ((first | refine s1_id ?_ | refine swp_id ?_ | refine sops_id ?_ | refine s2_id ?_); simp only [decide_eq_false ct, hTt, zaJ, zaK, zas, zaC, zaD, zaG, zaH, zaF, zaL, zaM, zaA, zaE, go_sem, zaa, zah, zai, zaj, zam, zaf, ↓reduceIte, reduceCtorEq, zac, zae, zan, zao, zap, zaI, zaN, zaz, zaO, renO, bk, back, outUpsFrom, Ints_ren])
 | (intros; omega)
 | (intros; (try simp only [zaw, zay, zau, zat, zal, zaq, decide_eq_true_eq, decide_eq_false_iff_not] at *); omega))
      repeat' (first
 | exact fs_w trivial (svw_of ⟨cw_gnil, cw_rfl _, trivial⟩)
 | fail)
    subst k0
    have hpp : Cs (syN E m) ++ [int s0, int s1, int s2, int s3, int s4, .gsl (Ints s5) 0 s5.length none, int s6, int s7, int s8, .sc (.bool s9)] = Cs (syN E (m + 1)) := by
      rw [hsu]; exact Cs_snoc _ (⟨s0, s1, s2, s3, s4, s5, s6, s7, s8, s9⟩ : Pl)
    generalize syN E m = C at *
    simp only [go_sem, zaa, zah, zai, zaj, zam, zaf, ↓reduceIte, reduceCtorEq, zac, zae, zan, zao, zap, decide_eq_true c, hT]
    repeat' (first
 | with_reducible refine zav ?_ ?_
 | (intros; omega)
 | (intros; (try simp only [zaw, zay, zau, zat, zal, zaq, decide_eq_true_eq, decide_eq_false_iff_not] at *); omega))
    (refine rgf_t _ (imp_frz _ _ 5 ⟨[int yi, int yp, st yn, int yc, int yk, int yo], 6⟩ (by simp only [zaQ, lookR, zaa, if_true, if_false, ↓reduceIte]) (by first | exact Ints_isG _ | exact Bools_isG _ | exact Cs_isG _ | (simp [zbc]; done))) ?_; simp only [frzTm, SV.frz, SV.frzL, zbm, frzHp, frzO, Ints_frz, Bools_frz, zag, zak, zaa, if_true, if_false, ↓reduceIte])
    simp only [go_sem, zaa, zah, zai, zaj, zam, zaf, ↓reduceIte, reduceCtorEq, zac, zae, zan, zao, zap, decide_eq_false ct, hTt]
    repeat' (first
 | with_reducible refine zav ?_ ?_
 | (unfold OKC; kernel_rfl)
 | (unfold EDG; kernel_rfl)
 | (apply cl_plain
    case hs => rfl
    case ha => (simp only [zag, zak, prepV, prepC, idx, hpL', lookR, zaa, if_true, if_false]; rfl)
    case h => (first | exact hix .. | exact h5 ..))
 | ((first | refine s1_id ?_ | refine swp_id ?_ | refine sops_id ?_ | refine s2_id ?_); simp only [decide_eq_false ct, hTt, htk, hpp, zaJ, zaK, zas, zaC, zaD, zaG, zaH, zaF, zaL, zaM, zaA, zaE, go_sem, zaa, zah, zai, zaj, zam, zaf, ↓reduceIte, reduceCtorEq, zac, zae, zan, zao, zap, zaI, zaN, zaz, zaO, renO, bk, back, outUpsFrom, Ints_ren])
 | (intros; omega)
 | (intros; (try simp only [zaw, zay, zau, zat, zal, zaq, decide_eq_true_eq, decide_eq_false_iff_not] at *); omega))
    refine le_mk (m + 1) ?_ ⟨hlt, hI2 rfl⟩ (by omega)
    (refine imp_ren _ _ _ [(0, 41, ⟨Cs (syN E (m + 1)), 10⟩)] (by simp) (by simp) (by simp) (zax rfl) ?_ rfl (by simp only [zab, zad, false_implies, implies_true, and_true, zaQ, lookR, zaa, if_true, if_false, ↓reduceIte, Cs_flat] <;> (repeat' apply zav) <;> (first | rfl | trivial)) (by simp only [zab, zad, false_implies, implies_true, and_true, true_and, flat_cons, flat_nil, flat_ints, flat_bools, flat_app, zaB, and_self, eq_self_iff_true, zas, Cs_flat]); simp only [zag, zak, zab, zad, false_implies, implies_true, and_true, lk, slot, zaI, zaz, toN, zaa, if_true, if_false, ↓reduceIte, reduceCtorEq])
    all_goals ((repeat' apply zav) <;> (first | rfl | trivial | (simp only [zar]; done) | (simp only [zar]; rfl) | (simp only [zar]; trivial)))
theorem thnew_spec (l : List Nd) (n : Int) (q b : List Int) (s cp : Int) (kq kb : Option Nat) (hl : l.length ≤ 1000000) (hq : q.length ≤ 9223372036854775807) (hb : b.length ≤ 9223372036854775807) (hnm : NmR l) (hct : CtR l) : FnSpec Tryz.prog 29 [trV l none n, gi q kq, gi b kb, i1 s, i1 cp] [] (.tup [gr (thSy l n [] q b s cp).1 none, i1 (thSy l n [] q b s cp).2]) [] := by
  have h1 : FnSpec Tryz.prog 27 [trV l none n, .one (.sc (.slice none 0 0)), gi q kq, gi b kb, i1 s, i1 cp] [] (.tup [gr (thSy l n [] q b s cp).1 none, i1 (thSy l n [] q b s cp).2]) [] := (thsync_spec l n [] none q b s cp kq kb hl (by decide) hq hb hnm hct).pre ⟨⟨cw_rfl _, cw_rfl _, trivial⟩, cw_gnil, cw_rfl _, cw_rfl _, cw_rfl _, cw_rfl _, trivial⟩
  generalize thSy l n [] q b s cp = r at *
  refine fnspec_of mixed TT_ok TT_cl ⟨fun _ => false, fun _ => [], 0, fun _ => false, fun _ => false⟩ Tryz.func29 rfl (by kernel_rfl) rfl 20 rfl [.tmp 10, .tmp 11] rfl ?_
  simp only [go_sem, zaa, zah, zai, zaj, zam, zaf, ↓reduceIte, reduceCtorEq, zac, zae, zan, zao, zap]
  repeat' (first
 | (apply cl_plain
    case hs => rfl
    case ha => (simp only [zag, zak, prepV, prepC, idx, hpL', lookR, zaa, if_true, if_false]; rfl)
    case h => (first | exact h1 ..))
 | ((first | refine s1_id ?_ | refine swp_id ?_ | refine sops_id ?_ | refine s2_id ?_); simp only [go_sem, zaa, zah, zai, zaj, zam, zaf, ↓reduceIte, reduceCtorEq, zac, zae, zan, zao, zap, zaI, zaN, zaz, zaO, renO, bk, back, outUpsFrom, Ints_ren])
 | exact fs_nil trivial rfl
 | fail)
end Go.Proofs.YtcnilpdlcmpbbaaGreat
-- NEWGO
-- PRUNE: cl_lendx
-- ISG: Cs_isG
-- FLAT: Cs_flat
namespace Go.Proofs.YtcnilpdlcmpbbaaGreat
set_option linter.unusedVariables false
set_option linter.unusedSimpArgs false
open Go.Proofs.YtcnilpdlcmpbbaaGreat.Sh
set_option maxRecDepth 20000
theorem VT.ctr {l : List Nd} {n : Int} (h : VT l n) : CtR l := fun x hx => by
  have := (h.vl.all x hx).2
  unfold rngOk at this
  simp only [zaw, decide_eq_true_eq] at this
  omega
abbrev xT : List Nd := [⟨1, 0, [], 0, 0, 0⟩, ⟨2, 1, [97], 0, 0, 0⟩, ⟨3, 2, [98], 0, 0, 0⟩, ⟨4, 2, [99], 0, 0, 0⟩]
abbrev xQ : List Int := [4611686018427387904, 2, 4611686018427387904, 4611686018427387904]
def xP0 : List Pl := (thSy xT 5 [] xQ [0, 0, 0, 0] 1 1).1
def xP1 : List Pl := (thSp xT 5 xP0 3 0).1
def xP2 : List Pl := (thSp xT 5 xP1 4 0).1
set_option maxHeartbeats 4000000 in
theorem thsane_spec : FnSpec Tryz.prog 7 [] [] (b1 true) [] := by
  have hN : NmR xT := fun x hx => by simp only [zaU, zad, or_false] at hx; rcases hx with rfl | rfl | rfl | rfl <;> decide
  have hC : CtR xT := fun x hx => by simp only [zaU, zad, or_false] at hx; rcases hx with rfl | rfl | rfl | rfl <;> decide
  have a1 := radd_spec [⟨1, 0, [], 0, 0, 0⟩] none 2 1 [97] (by decide) (fun x hx => by rw [List.mem_singleton.1 hx]; decide) (by decide)
  have e1 : addM [⟨1, 0, [], 0, 0, 0⟩] 2 1 [97] = (([⟨1, 0, [], 0, 0, 0⟩, ⟨2, 1, [97], 0, 0, 0⟩], 3), 2, 0) := by kernel_rfl
  rw [e1] at a1
  have a2 := radd_spec [⟨1, 0, [], 0, 0, 0⟩, ⟨2, 1, [97], 0, 0, 0⟩] none 3 2 [98] (by decide) (fun x hx => by simp only [zaU, zad, or_false] at hx; rcases hx with rfl | rfl <;> decide) (by decide)
  have e2 : addM [⟨1, 0, [], 0, 0, 0⟩, ⟨2, 1, [97], 0, 0, 0⟩] 3 2 [98] = (([⟨1, 0, [], 0, 0, 0⟩, ⟨2, 1, [97], 0, 0, 0⟩, ⟨3, 2, [98], 0, 0, 0⟩], 4), 3, 0) := by kernel_rfl
  rw [e2] at a2
  have a3 := radd_spec [⟨1, 0, [], 0, 0, 0⟩, ⟨2, 1, [97], 0, 0, 0⟩, ⟨3, 2, [98], 0, 0, 0⟩] none 4 2 [99] (by decide) (fun x hx => by simp only [zaU, zad, or_false] at hx; rcases hx with rfl | rfl | rfl <;> decide) (by decide)
  have e3 : addM [⟨1, 0, [], 0, 0, 0⟩, ⟨2, 1, [97], 0, 0, 0⟩, ⟨3, 2, [98], 0, 0, 0⟩] 4 2 [99] = ((xT, 5), 4, 0) := by kernel_rfl
  rw [e3] at a3
  have b0 := thnew_spec xT 5 xQ [0, 0, 0, 0] 1 1 (some 4) (some 4) (by decide) (by decide) (by decide) hN hC
  have f0 : (thSy xT 5 [] xQ [0, 0, 0, 0] 1 1).2 = 0 := by kernel_rfl
  rw [f0, show (thSy xT 5 [] xQ [0, 0, 0, 0] 1 1).1 = xP0 from rfl] at b0
  have b0' : FnSpec Tryz.prog 29 [trV xT none 5, .one (.gsl (Ints [4611686018427387904, 2, 4611686018427387904, 4611686018427387904]) 0 4 (some 4)), .one (.gsl (Ints [0, 0, 0, 0]) 0 4 (some 4)), i1 1, i1 1] [] (.tup [gr xP0 none, i1 0]) [] := b0
  have l0 : xP0.length ≤ 1000000 := by decide +kernel
  have b1' := thspend_spec xT 5 xP0 none 3 0 (by decide) l0 hN hC
  have f1 : (thSp xT 5 xP0 3 0).2 = 0 := by kernel_rfl
  rw [f1, show (thSp xT 5 xP0 3 0).1 = xP1 from rfl] at b1'
  have l1 : xP1.length ≤ 1000000 := by decide +kernel
  have b2 := thspend_spec xT 5 xP1 none 4 0 (by decide) l1 hN hC
  have f2 : (thSp xT 5 xP1 4 0).2 = 0 := by kernel_rfl
  rw [f2, show (thSp xT 5 xP1 4 0).1 = xP2 from rfl] at b2
  have l2 : xP2.length ≤ 1000000 := by decide +kernel
  have b3 := thspend_spec xT 5 xP2 none 3 0 (by decide) l2 hN hC
  have f3 : (thSp xT 5 xP2 3 0).2 = 11 := by kernel_rfl
  rw [f3] at b3
  have b4 := thblk_spec xT 5 xP2 none 4 0 (by decide) l2 hN hC
  have f4 : bkF xP2 0 (wayM xT 5 xP2 4) = (2, true) := by kernel_rfl
  rw [f4] at b4
  have b4' : FnSpec Tryz.prog 35 [trV xT none 5, gr xP2 none, i1 4, i1 0] [] (.tup [i1 2, b1 true]) [] := b4
  clear b0 b4 f0 f1 f2 f3 f4 hN hC l0 l1 l2 e1 e2 e3
  simp only [adV] at a1 a2 a3
  generalize (thSp xT 5 xP2 3 0).1 = P3 at *
  generalize xP2 = P2 at *
  generalize xP1 = P1 at *
  generalize xP0 = P0 at *
  generalize xT = T3 at *
  obtain ⟨T2, hT2⟩ : ∃ T : List Nd, [⟨1, 0, [], 0, 0, 0⟩, ⟨2, 1, [97], 0, 0, 0⟩, ⟨3, 2, [98], 0, 0, 0⟩] = T := ⟨_, rfl⟩
  rw [hT2] at a2 a3
  obtain ⟨T1, hT1⟩ : ∃ T : List Nd, [⟨1, 0, [], 0, 0, 0⟩, ⟨2, 1, [97], 0, 0, 0⟩] = T := ⟨_, rfl⟩
  rw [hT1] at a1 a2
  clear hT1 hT2
  refine fnspec_of mixed TT_ok TT_cl ⟨fun _ => false, fun _ => [], 0, fun _ => false, fun _ => false⟩ Tryz.func7 rfl (by kernel_rfl) rfl 93 rfl [.tmp 0] rfl ?_
  simp only [go_sem, zaa, zah, zai, zaj, zam, zaf, ↓reduceIte, reduceCtorEq, zac, zae, zan, zao, zap]
  repeat' (first
 | (apply cl_plain
    case hs => rfl
    case ha => (simp only [zag, zak, prepV, prepC, idx, hpL', lookR, zaa, if_true, if_false]; rfl)
    case h => (first | exact trnew_spec .. | exact a1 .. | exact a2 .. | exact a3 .. | exact b0' .. | exact b1' .. | exact b2 .. | exact b3 .. | exact b4' ..))
 | (apply cl_use
    case hr => (simp only [zag, zak, hpL', lookR, zaa, if_true, if_false]; first | exact map0 | exact map1 _ | exact map2 _ _ | exact map3 _ _ _)
    case ha => (simp only [zag, zak, prepV, prepC, idx, hpL', lookR, zaa, if_true, if_false]; rfl)
    case hs => (simp only [snaps, SV.refs, zaB, idx, zaX, zaY, zaD, zaC, zas, List.filter_cons, List.filter_nil, zaa, if_true, if_false, Option.isNone_none, Option.isNone_some, zbh, reduceCtorEq, ↓reduceIte]; rfl)
    case hn => decide
    case h => (first | exact trnew_spec .. | exact a1 .. | exact a2 .. | exact a3 .. | exact b0' .. | exact b1' .. | exact b2 .. | exact b3 .. | exact b4' ..)
    case hf => (simp only [zab, zad, false_implies, implies_true, and_true, true_and, flat_cons, flat_nil, flat_ints, flat_bools, flat_app, Cs_flat, zaB, and_self, eq_self_iff_true, zas])
    case hg => ((simp [hpL', lookR, zbc]) <;> (repeat' apply zav) <;> (first | exact Ints_isG _ | exact Cs_isG _))
    case hl => (simp only [zaA, zaE]; decide))
 | ((first | refine s1_id ?_ | refine swp_id ?_ | refine sops_id ?_ | refine s2_id ?_); simp only [zaJ, zaK, zas, zaC, zaD, zaG, zaH, zaF, zaL, zaM, zaA, zaE, go_sem, zaa, zah, zai, zaj, zam, zaf, ↓reduceIte, reduceCtorEq, zac, zae, zan, zao, zap, zaI, zaN, zaz, zaO, renO, bk, back, outUpsFrom, Ints_ren])
 | exact fs_nil trivial rfl
 | fail)
end Go.Proofs.YtcnilpdlcmpbbaaGreat
-- NEWGO
-- PRUNE: cl_lendx cl_use
-- ISG: Cs_isG
-- FLAT: Cs_flat
namespace Go.Proofs.YtcnilpdlcmpbbaaGreat
set_option linter.unusedVariables false
set_option linter.unusedSimpArgs false
open Go.Proofs.YtcnilpdlcmpbbaaGreat.Sh
set_option maxRecDepth 20000
theorem proom_nn {x : Pl} (h : pck x = true) (cpu : Int) : 0 ≤ proom x cpu := by
  have h1 := pck_all h cpu.toNat
  have h2 := (nums h).l
  unfold proom
  split
  · omega
  · split <;> omega
theorem rmF_zero {P : List Pl} {cpu : Int} : ∀ (W : List Int) (m : Int), 0 ≤ m → (∀ i ∈ W, 0 ≤ proom (gP P i.toNat) cpu) → (rmF P cpu W m = 0 ↔ m = 0 ∨ ∃ i ∈ W, proom (gP P i.toNat) cpu = 0)
  | [], m, _, _ => by simp [rmF]
  | w :: W, m, h, hw => by
    have h1 := hw w zaS
    rw [rmF, rmF_zero W _ (by omega) fun i hi => hw i (zbe _ hi)]
    constructor
    · rintro (h2 | ⟨i, hi, h2⟩)
      · by_cases hm : m = 0
        · exact .inl hm
        · exact .inr ⟨w, zaS, by omega⟩
      · exact .inr ⟨i, zbe _ hi, h2⟩
    · rintro (h2 | ⟨i, hi, h2⟩)
      · left; omega
      · rcases List.mem_cons.1 hi with rfl | hi
        · left; omega
        · exact .inr ⟨i, hi, h2⟩
theorem psp_th {x : Pl} {cpu : Int} (h : (pspend x cpu).2 = 0) (hc : pchk x cpu = 0) : (pspend x cpu).1.th = x.th := by
  unfold pspend at h ⊢
  rw [if_neg (by simp [hc])] at h ⊢
  repeat' split at h
  all_goals first | (exfalso; simp at h; done) | skip
  all_goals (repeat' split)
  all_goals first | rfl | (exfalso; simp_all; done)
def SpB (P : List Pl) (k : Int) : Prop := ∀ i, i < P.length → (gP P i).sp ≤ k
theorem SpB.map {P : List Pl} {k k' : Int} {f : Pl → Pl} (h : SpB P k) (hf : ∀ x ∈ P, x.sp ≤ k → (f x).sp ≤ k') : SpB (P.map f) k' := fun i hi => by
  rw [List.length_map] at hi
  rw [map_at f P i hi]
  exact hf _ (getD_mem P i zpl hi) (h i hi)
theorem spF_sp {x : Pl} {cpu : Int} (h : pck x = true) (hc : 0 ≤ cpu ∧ cpu < x.c.length) : (spF cpu x).sp ≤ x.sp + 1 := by
  rcases (pspend_ok h hc).2.2 with ⟨_, _, h3, _⟩ | ⟨_, _, _, _, h5⟩
  · unfold spF
    rw [h3]
    exact (mn_le _ _).1
  · unfold spF
    rw [h5]
    show x.sp ≤ x.sp + 1
    omega
theorem SpB.sp {l : List Nd} {n : Int} {P : List Pl} {c k : Int} (hP : Pv l n P c) (hk : 0 ≤ k) (h : SpB P k) {g cpu : Int} (he : (thSp l n P g cpu).2 = 0 ∨ (thSp l n P g cpu).2 = 11) : SpB (thSp l n P g cpu).1 (k + 1) := by
  unfold thSp at he ⊢
  rw [if_neg (by simp [hP.ok])] at he ⊢
  split at he
  · simp at he
  rename_i h1
  rw [if_neg h1]
  split at he
  · simp at he
  rename_i h2
  rw [if_neg h2]
  rw [zbi, wi_iff] at h2
  have h0 := hP.c 0 (by rw [hP.len]; exact hP.vt.ne)
  have hx : ∀ x ∈ P, x.sp ≤ k → (spF cpu x).sp ≤ k + 1 := fun x hx hs => by
    obtain ⟨i, hi, rfl⟩ := gP_mem P x hx
    have := spF_sp (cpu := cpu) (hP.pck hi) (by have := hP.c i hi; omega)
    omega
  split
  · exact h.map fun x hm hs => by split; (· exact hx x hm hs); (· omega)
  · exact h.map fun x hm hs => by split; (· exact hx x hm hs); (· omega)
theorem SpB.rf {l : List Nd} {n : Int} {P : List Pl} {c k : Int} (hP : Pv l n P c) (hk : 0 ≤ k) (h : SpB P k) (due : List Int) : SpB (thRf l n P due) k := by
  unfold thRf
  rw [if_pos hP.ok]
  refine h.map fun x hx hs => ?_
  unfold rfF
  split
  · unfold prefill
    split
    · show (0 : Int) ≤ k; exact hk
    · split
      · show (0 : Int) ≤ k; exact hk
      · show (0 : Int) ≤ k; exact hk
  · exact hs
theorem SpB.mono {P : List Pl} {k k' : Int} (h : SpB P k) (hk : k ≤ k') : SpB P k' := fun i hi => Int.le_trans (h i hi) hk
theorem plL_sp {D : List Int} {l : List Nd} {n c : Int} : ∀ (m : Nat) {s : List Pl × Nat} {k : Int}, Pv l n s.1 c → 0 ≤ k → SpB s.1 k → SpB (plL D l n c m s).1 (k + m)
  | 0, s, k, h, hk, hs => by rw [plL]; exact hs.mono (by omega)
  | m + 1, s, k, h, hk, hs => by
    rw [plL]
    have h1 := plP_ok (D := D) (s := s) h
    have h2 : SpB (plP D l n c s) (k + 1) := by
      unfold plP
      split
      · rename_i e; exact hs.sp h hk (.inl e)
      · exact hs.mono (by omega)
    have h3 : SpB (plS D l n c s).1 (k + 1) := by
      unfold plS
      split
      · exact h2.rf h1 (by omega) _
      · exact h2
    exact (plL_sp m (plS_ok h) (by omega) h3).mono (by omega)
theorem mkP_sp {D : List Int} {l : List Nd} {n c : Int} (hV : VT l n) (hc : 1 ≤ c ∧ c ≤ 16) (j : Nat) : SpB (mkP D l n c j).1 12 := by
  have h3 := nx_rng D (plQ D l j).2 3 (by decide)
  have h4 := nx_rng D (nxA D (plQ D l j).2 3) 12 (by decide)
  have h5 := (thNw_ok hV (mkNu_ok D j l.length) (s := 1 + nxV D (plQ D l j).2 3) (by omega) hc).2.2
  have h6 := plI_ok (D := D) hV hc j
  unfold mkP
  have h7 : SpB (plI D l c j) 0 := fun i hi => by
    have e := h5 i (by rw [← h6.len]; exact hi)
    show (gP (plI D l c j) i).sp ≤ 0
    rw [show plI D l c j = nwN l (mkNu D j l.length).1.1 (mkNu D j l.length).1.2 (1 + nxV D (plQ D l j).2 3) c l.length from rfl, e]
    exact zbl _
  have h8 := plL_sp (D := D) (nxV D (nxA D (plQ D l j).2 3) 12).toNat (s := (plI D l c j, nxA D (nxA D (plQ D l j).2 3) 12)) h6 (zbl 0) h7
  exact h8.mono (by omega)
structure SpR (l : List Nd) (n : Int) (P : List Pl) (c g cpu : Int) (y : List Pl) (e a : Int) (bl : Bool) : Prop where
  ok : Pv l n y c
  e : e = if bl = true then 11 else 0
  bk : bkF P cpu (wayM l n P g) = (a, bl)
  em : (ancM l n g).any (fun id => decide (proom (gtM P id).1 cpu = 0)) = bl
  at' : decide (a ∈ ancM l n g) = bl
  rm : decide (thRm l n P g cpu = 0) = bl
  i : ∀ i, i < P.length → (gP y i).sp - (gP P i).sp = (if bl = false ∧ (gP P i).g ∈ ancM l n g then 1 else 0) ∧ (lim (gP P i) = true → hld (gP P i) - hld (gP y i) = (if bl = false ∧ (gP P i).g ∈ ancM l n g then 1 else 0)) ∧ ((gP y i).th = (gP P i).th ∨ (gP P i).g = a)
theorem thSp_r {l : List Nd} {n : Int} {P : List Pl} {c g cpu : Int} (hP : Pv l n P c) (hg : hasM l n g = true) (hc : 0 ≤ cpu ∧ cpu < c) (hs : SpB P 1000) : ∃ a bl, SpR l n P c g cpu (thSp l n P g cpu).1 (thSp l n P g cpu).2 a bl := by
  obtain ⟨q, hq⟩ : ∃ q, bkF P cpu (wayM l n P g) = q := ⟨_, rfl⟩
  obtain ⟨a, bl⟩ := q
  have h0 := hP.c 0 (by rw [hP.len]; exact hP.vt.ne)
  have e0 : thSp l n P g cpu = if bl = true then (upF [a] (spF cpu) P, 11) else (upF (ancM l n g) (spF cpu) P, 0) := by
    unfold thSp
    rw [if_neg (by simp [hP.ok]), if_neg (by simp [hg]), if_neg (by rw [zbi, wi_iff]; omega), hq]
  have hga := gt_at hP.ok g
  have hw : wayM l n P g = poL P (ancM l n g) := by unfold wayM; rw [if_pos hP.ok]
  have hnn : ∀ i ∈ wayM l n P g, 0 ≤ proom (gP P i.toNat) cpu := fun i hi => by
    obtain ⟨t, rfl, ht⟩ := way_in hP.ok g i hi
    rw [zaW]
    exact proom_nn (hP.pck ht) cpu
  have hcc : ∀ i, i < P.length → 0 ≤ cpu ∧ cpu < (gP P i).c.length := fun i hi => by have := hP.c i hi; omega
  have hwz : ∀ {i : Int}, i ∈ wayM l n P g → ∃ id ∈ ancM l n g, proom (gtM P id).1 cpu = proom (gP P i.toNat) cpu ∧ (gP P i.toNat).g = id := fun {i} hi => by
    rw [hw] at hi
    obtain ⟨id, hid, rfl⟩ := List.mem_map.1 hi
    obtain ⟨t, ht, _, htg, hgt⟩ := hga id hid
    rw [ht, zaW]
    exact ⟨id, hid, by rw [hgt], htg⟩
  have hzw : ∀ {id : Int}, id ∈ ancM l n g → ∃ i ∈ wayM l n P g, proom (gtM P id).1 cpu = proom (gP P i.toNat) cpu := fun {id} hid => by
    obtain ⟨t, ht, _, htg, hgt⟩ := hga id hid
    refine ⟨ixR (fun x : Pl => decide (x.g = id)) P 0, by rw [hw]; exact List.mem_map.2 ⟨id, hid, rfl⟩, ?_⟩
    rw [ht, zaW, hgt]
  have hem : (ancM l n g).any (fun id => decide (proom (gtM P id).1 cpu = 0)) = bl := by
    cases bl with
    | true =>
      obtain ⟨i, hi, h1, _⟩ := bkF_yes (L := P) (cpu := cpu) (W := wayM l n P g) (by rw [hq])
      obtain ⟨id, hid, h2, _⟩ := hwz hi
      exact List.any_eq_true.2 ⟨id, hid, decide_eq_true (by rw [h2, h1])⟩
    | false =>
      have h1 := bkF_no (L := P) (cpu := cpu) (W := wayM l n P g) (by rw [hq])
      refine Bool.eq_false_iff.2 fun h2 => ?_
      obtain ⟨id, hid, h3⟩ := List.any_eq_true.1 h2
      obtain ⟨i, hi, h4⟩ := hzw hid
      exact h1 i hi (by rw [← h4]; exact of_decide_eq_true h3)
  have hrm : decide (thRm l n P g cpu = 0) = bl := by
    have hne : (wayM l n P g).length ≠ 0 := by rw [hw, poL_len]; exact anc_ne hg
    unfold thRm
    rw [if_neg hne]
    have hz := rmF_zero (P := P) (cpu := cpu) (wayM l n P g) 1099511627776 (by decide) hnn
    cases bl with
    | true =>
      obtain ⟨i, hi, h1, _⟩ := bkF_yes (L := P) (cpu := cpu) (W := wayM l n P g) (by rw [hq])
      exact decide_eq_true (hz.2 (.inr ⟨i, hi, h1⟩))
    | false =>
      have h1 := bkF_no (L := P) (cpu := cpu) (W := wayM l n P g) (by rw [hq])
      refine decide_eq_false fun h2 => ?_
      rcases hz.1 h2 with h3 | ⟨i, hi, h3⟩
      · cases h3
      · exact h1 i hi h3
  cases bl with
  | true =>
    rw [if_pos rfl] at e0
    obtain ⟨i, hiw, h1, h2⟩ := bkF_yes (L := P) (cpu := cpu) (W := wayM l n P g) (by rw [hq])
    rw [hq] at h2
    obtain ⟨id, hid, h3, h4⟩ := hwz hiw
    obtain ⟨t, rfl, ht⟩ := way_in hP.ok g i hiw
    rw [zaW] at h1 h2 h3 h4
    refine ⟨a, true, ⟨hP.sp (.inr (by rw [e0])), by rw [e0]; rfl, hq, hem, decide_eq_true (by rw [show a = id by rw [← h4]; exact h2]; exact hid), hrm, fun i hi => ?_⟩⟩
    rw [e0]
    simp only [Bool.true_eq_false, false_and, if_false]
    rw [upF_at [a] (spF cpu) P i hi]
    by_cases e : (gP P i).g ∈ [a]
    · rw [if_pos e]
      have e' : (gP P i).g = a := List.mem_singleton.1 e
      have hit : i = t := thC_asc hP.ok hi ht (by rw [e']; exact h2)
      subst hit
      rcases (pspend_ok (hP.pck hi) (hcc i hi)).2.2 with ⟨q1, _⟩ | ⟨q1, q2, q3, q4, q5⟩
      · refine absurd h1 fun hz => ?_
        rcases (pspend_ok (hP.pck hi) (hcc i hi)).2.2 with ⟨_, _, _, q6⟩ | ⟨q7, _⟩
        · unfold proom at hz
          rw [if_neg (fun q => q (pchk_in (hP.pck hi) (hcc i hi)))] at hz
          rcases q6 with q6 | q6
          · rw [if_pos q6] at hz; omega
          · split at hz <;> omega
        · rw [q7] at q1; cases q1
      · unfold spF
        refine ⟨?_, fun _ => by rw [q2]; omega, .inr e'⟩
        rw [q5]; show (gP P i).sp - (gP P i).sp = 0; omega
    · rw [if_neg e]
      exact ⟨by omega, fun _ => by omega, .inl rfl⟩
  | false =>
    rw [if_neg zbb] at e0
    have h1 := bkF_no (L := P) (cpu := cpu) (W := wayM l n P g) (by rw [hq])
    have ha : a = 0 := by
      have : ∀ W : List Int, (bkF P cpu W).2 = false → (bkF P cpu W).1 = 0 := fun W => by
        induction W with
        | nil => intro _; rfl
        | cons w W ih =>
          intro hh
          rw [bkF] at hh ⊢
          split at hh
          · cases hh
          · rename_i hp; rw [if_neg hp]; exact ih hh
      have h3 := this (wayM l n P g) (by rw [hq])
      rw [hq] at h3
      exact h3
    have hna : a ∉ ancM l n g := fun hm => by
      obtain ⟨t, _, ht, htg, _⟩ := hga a hm
      have := hP.vt.pos (i := t) (by rw [← hP.len]; exact ht)
      rw [← hP.g ht] at this
      omega
    refine ⟨a, false, ⟨hP.sp (.inl (by rw [e0])), by rw [e0]; rfl, hq, hem, decide_eq_false hna, hrm, fun i hi => ?_⟩⟩
    rw [e0]
    simp only [true_and]
    rw [upF_at (ancM l n g) (spF cpu) P i hi]
    by_cases e : (gP P i).g ∈ ancM l n g
    · rw [if_pos e, if_pos e]
      obtain ⟨w, hw1, hw2⟩ := hzw e
      have hz := h1 w hw1
      rw [← hw2] at hz
      obtain ⟨t, _, ht, htg, hgt⟩ := hga _ e
      have hit : t = i := thC_asc hP.ok ht hi htg
      subst hit
      rw [hgt] at hz
      have hz0 := psp_zero (hP.pck hi) (hcc t hi) hz
      have hth := psp_th hz0 (pchk_in (hP.pck hi) (hcc t hi))
      have hsb := hs t hi
      rcases (pspend_ok (hP.pck hi) (hcc t hi)).2.2 with ⟨_, q2, q3, _⟩ | ⟨q7, _⟩
      · unfold spF
        refine ⟨?_, fun hl => by rw [q2, if_pos hl]; omega, .inl hth⟩
        rw [q3]
        unfold msp mn
        rw [if_neg (by omega)]; omega
      · rw [q7] at hz0; cases hz0
    · rw [if_neg e, if_neg e]
      exact ⟨by omega, fun _ => by omega, .inl rfl⟩
end Go.Proofs.YtcnilpdlcmpbbaaGreat
-- NEWGO
-- PRUNE: cl_lendx cl_use
-- ISG: Cs_isG
-- FLAT: Cs_flat
namespace Go.Proofs.YtcnilpdlcmpbbaaGreat
set_option linter.unusedVariables false
set_option linter.unusedSimpArgs false
open Go.Proofs.YtcnilpdlcmpbbaaGreat.Sh
set_option maxRecDepth 20000
structure QK (Q : Pl → Prop) : Prop where
  sp : ∀ x (cpu : Int), pck x = true → 0 ≤ cpu ∧ cpu < x.c.length → Q x → Q (spF cpu x)
  rf : ∀ x due, pck x = true → Q x → Q (rfF due x)
theorem QK.sp' {Q : Pl → Prop} (hQ : QK Q) {l : List Nd} {n : Int} {P : List Pl} {c : Int} (hP : Pv l n P c) (h : ∀ x ∈ P, Q x) {g cpu : Int} (he : (thSp l n P g cpu).2 = 0 ∨ (thSp l n P g cpu).2 = 11) : ∀ x ∈ (thSp l n P g cpu).1, Q x := by
  unfold thSp at he ⊢
  rw [if_neg (by simp [hP.ok])] at he ⊢
  split at he
  · simp at he
  rename_i h1
  rw [if_neg h1]
  split at he
  · simp at he
  rename_i h2
  rw [if_neg h2]
  rw [zbi, wi_iff] at h2
  have h0 := hP.c 0 (by rw [hP.len]; exact hP.vt.ne)
  have hx : ∀ x ∈ P, Q (spF cpu x) := fun x hx => by
    obtain ⟨i, hi, rfl⟩ := gP_mem P x hx
    exact hQ.sp _ cpu (hP.pck hi) (by have := hP.c i hi; omega) (h _ hx)
  split
  all_goals
    intro y hy
    obtain ⟨x, hm, rfl⟩ := List.mem_map.1 hy
    split
    · exact hx x hm
    · exact h x hm
theorem QK.rf' {Q : Pl → Prop} (hQ : QK Q) {l : List Nd} {n : Int} {P : List Pl} {c : Int} (hP : Pv l n P c) (h : ∀ x ∈ P, Q x) (due : List Int) : ∀ x ∈ thRf l n P due, Q x := by
  unfold thRf
  rw [if_pos hP.ok]
  intro y hy
  obtain ⟨x, hm, rfl⟩ := List.mem_map.1 hy
  exact hQ.rf x due (hP.all x hm) (h x hm)
theorem QK.plL {Q : Pl → Prop} (hQ : QK Q) {D : List Int} {l : List Nd} {n c : Int} : ∀ (m : Nat) {s : List Pl × Nat}, Pv l n s.1 c → (∀ x ∈ s.1, Q x) → ∀ x ∈ (plL D l n c m s).1, Q x
  | 0, s, h, hs => hs
  | m + 1, s, h, hs => by
    rw [Go.Proofs.YtcnilpdlcmpbbaaGreat.plL]
    have h1 := plP_ok (D := D) (s := s) h
    have h2 : ∀ x ∈ plP D l n c s, Q x := by
      unfold plP
      split
      · rename_i e; exact hQ.sp' h hs (.inl e)
      · exact hs
    have h3 : ∀ x ∈ (plS D l n c s).1, Q x := by
      unfold plS
      split
      · exact hQ.rf' h1 h2 _
      · exact h2
    exact hQ.plL m (plS_ok h) h3
theorem spF_s {x : Pl} {cpu : Int} (h : pck x = true) (hc : 0 ≤ cpu ∧ cpu < x.c.length) : (spF cpu x).s = x.s ∧ (spF cpu x).q = x.q ∧ (spF cpu x).b = x.b := by
  unfold spF pspend
  rw [if_neg (fun q => q (pchk_in h hc))]
  repeat' split
  all_goals exact ⟨rfl, rfl, rfl⟩
theorem rfF_s {x : Pl} {due : List Int} (h : pck x = true) : (rfF due x).s = x.s ∧ (rfF due x).q = x.q ∧ (rfF due x).b = x.b := by
  unfold rfF
  split
  · rename_i h2
    have h3 := h2.1
    unfold prefill at h3 ⊢
    rw [if_neg (by simp [h])] at h3 ⊢
    split at h3
    · cases h3
    · rename_i h4; rw [if_neg h4]; exact ⟨rfl, rfl, rfl⟩
  · exact ⟨rfl, rfl, rfl⟩
def Qb (p : Pl) (q b : Int) : Prop := (q = p.q ∧ b = p.b) ∨ (lim p = true ∧ q = max (p.q - 1) 1 ∧ b = 0)
theorem Qb.st {p : Pl} {q b : Int} (h : Qb p q b) (hp : stl p.q p.b = true) (hq : p.q = 4611686018427387904 ∨ p.q ≤ 6) : stl q b = true := by
  rcases h with ⟨rfl, rfl⟩ | ⟨h1, rfl, rfl⟩
  · exact hp
  · rw [stl_iff] at hp ⊢
    unfold lim at h1
    have : p.q ≠ 4611686018427387904 := by simpa using h1
    right; omega
structure SyR (l : List Nd) (n : Int) (P : List Pl) (q b : List Int) (M : List Pl) (i : Nat) : Prop where
  ok : pck (gP M i) = true
  old : i < l.length → gtM P (gP M i).g = (gP P i, true) ∧ (gP M i).g ≠ n ∧ pck (gP P i) = true ∧ (if (gP P i).q = q.getD i 0 ∧ (gP P i).b = b.getD i 0 then gP M i = gP P i else hld (gP M i) = min (hld (gP P i)) (q.getD i 0 + b.getD i 0) ∧ 0 ≤ q.getD i 0 + b.getD i 0 ∧ q.getD i 0 + b.getD i 0 ≤ 1000 ∧ 0 ≤ b.getD i 0 ∧ b.getD i 0 ≤ 1000)
  new : ¬ i < l.length → (gP M i).g = n ∧ hld (gP M i) = (gP M i).q ∧ (gP M i).pe = 1
end Go.Proofs.YtcnilpdlcmpbbaaGreat
-- NEWGO
-- PRUNE: cl_lendx cl_use
-- ISG: Cs_isG
-- FLAT: Cs_flat
namespace Go.Proofs.YtcnilpdlcmpbbaaGreat
set_option linter.unusedVariables false
set_option linter.unusedSimpArgs false
open Go.Proofs.YtcnilpdlcmpbbaaGreat.Sh
set_option maxRecDepth 20000
theorem idF_hld {x : Pl} {cpu : Int} (h1 : pck x = true) : hld (idF cpu x) = hld x := by
  rw [show idF cpu x = if (preturn x cpu).2 = 0 then (preturn x cpu).1 else x from rfl]
  split
  · rename_i hh
    have hc : 0 ≤ cpu ∧ cpu < x.c.length := by
      unfold preturn at hh
      split at hh
      · rename_i h3; simp at hh; exact absurd hh h3
      · rename_i h3; exact (pchk_ok (by simpa using h3)).2
    have e : preturn x cpu = (pret x cpu, 0) := by
      unfold preturn
      rw [if_neg (fun q => q (pchk_in h1 hc))]
    rw [e]
    exact (pret_ok h1 hc).2.1
  · rfl
end Go.Proofs.YtcnilpdlcmpbbaaGreat
-- NEWGO
-- PRUNE: cl_lendx cl_use cl_lend
namespace Go.Proofs.YtcnilpdlcmpbbaaGreat
set_option linter.unusedVariables false
set_option linter.unusedSimpArgs false
open Go.Proofs.YtcnilpdlcmpbbaaGreat.Sh
set_option maxRecDepth 20000
abbrev Asc (l : List Int) : Prop := l.Pairwise (· < ·)
theorem asc_ext : ∀ (a b : List Int), Asc a → Asc b → (∀ x, x ∈ a ↔ x ∈ b) → a = b
  | [], [], _, _, _ => rfl
  | [], y :: b, _, _, h => absurd ((h y).2 zaS) zad
  | x :: a, [], _, _, h => absurd ((h x).1 zaS) zad
  | x :: a, y :: b, ha, hb, h => by
    rw [Asc, List.pairwise_cons] at ha hb
    have hxy : x = y := by
      rcases List.mem_cons.1 ((h x).1 zaS) with e | hx
      · exact e
      · rcases List.mem_cons.1 ((h y).2 zaS) with e | hy
        · exact e.symm
        · have := ha.1 y hy; have := hb.1 x hx; omega
    subst hxy
    rw [asc_ext a b ha.2 hb.2 fun z => ⟨fun hz => ?_, fun hz => ?_⟩]
    · rcases List.mem_cons.1 ((h z).1 (zbe _ hz)) with e | h2
      · have := ha.1 z hz; omega
      · exact h2
    · rcases List.mem_cons.1 ((h z).2 (zbe _ hz)) with e | h2
      · have := hb.1 z hz; omega
      · exact h2
def ins (x : Int) : List Int → List Int
  | [] => [x]
  | y :: r => if x < y then x :: y :: r else if x = y then y :: r else y :: ins x r
theorem ins_mem (x z : Int) : ∀ l, z ∈ ins x l ↔ z = x ∨ z ∈ l
  | [] => by simp [ins]
  | y :: r => by
    unfold ins
    by_cases h1 : x < y
    · rw [if_pos h1, zaU]
    · rw [if_neg h1]
      by_cases h2 : x = y
      · rw [if_pos h2, zaU]; subst h2; simp
      · rw [if_neg h2, zaU, zaU, ins_mem x z r]
        constructor
        · rintro (h | h | h) <;> simp [h]
        · rintro (h | h | h) <;> simp [h]
theorem ins_asc (x : Int) : ∀ l, Asc l → Asc (ins x l)
  | [], _ => List.pairwise_singleton _ _
  | y :: r, h => by
    have h0 := h
    rw [Asc, List.pairwise_cons] at h
    unfold ins
    by_cases h1 : x < y
    · rw [if_pos h1]
      refine List.pairwise_cons.2 ⟨fun z hz => ?_, h0⟩
      rcases List.mem_cons.1 hz with e | hz
      · omega
      · have := h.1 z hz; omega
    · rw [if_neg h1]
      by_cases h2 : x = y
      · rw [if_pos h2]; exact h0
      · rw [if_neg h2]
        refine List.pairwise_cons.2 ⟨fun z hz => ?_, ins_asc x r h.2⟩
        rcases (ins_mem x z r).1 hz with e | hz
        · omega
        · exact h.1 z hz
def srtA : List Int → List Int → List Int
  | acc, [] => acc
  | acc, x :: r => srtA (ins x acc) r
def srt (l : List Int) : List Int := srtA [] l
theorem srtA_ok : ∀ l acc, Asc acc → Asc (srtA acc l) ∧ ∀ x, x ∈ srtA acc l ↔ x ∈ acc ∨ x ∈ l
  | [], acc, h => ⟨h, fun x => by simp [srtA]⟩
  | y :: r, acc, h => by
    obtain ⟨h1, h2⟩ := srtA_ok r (ins y acc) (ins_asc y acc h)
    refine ⟨h1, fun x => ?_⟩
    rw [srtA, h2, ins_mem, zaU]
    constructor
    · rintro ((h | h) | h) <;> simp [h]
    · rintro (h | h | h) <;> simp [h]
theorem srt_asc (l : List Int) : Asc (srt l) := (srtA_ok l [] List.Pairwise.nil).1
theorem srt_mem (l : List Int) (x : Int) : x ∈ srt l ↔ x ∈ l := by
  rw [srt, (srtA_ok l [] List.Pairwise.nil).2]; simp
theorem ins_at (x : Int) (l : List Int) (k : Nat) (h : Asc l) (h1 : ∀ y ∈ l.take k, y < x) (h2 : ∀ y ∈ l.drop k, x < y) : l.take k ++ x :: l.drop k = ins x l := by
  refine asc_ext _ _ ?_ (ins_asc x l h) fun z => ?_
  · refine List.pairwise_append.2 ⟨h.sublist (List.take_sublist k l), List.pairwise_cons.2 ⟨h2, h.sublist (List.drop_sublist k l)⟩, fun a ha b hb => ?_⟩
    rcases List.mem_cons.1 hb with rfl | hb
    · exact h1 a ha
    · have := h1 a ha; have := h2 b hb; omega
  · rw [ins_mem]
    conv => rhs; rw [← List.take_append_drop k l]
    simp only [List.mem_append, zaU]
    constructor
    · rintro (h | h | h) <;> simp [h]
    · rintro (h | h | h) <;> simp [h]
theorem lay_ins (out : List Int) (k : Nat) (hk : k ≤ out.length) : ∃ q, layAt (Ints (out ++ [0])) (k + 1) (Ints (out.drop k)) = Ints (out.take k ++ q :: out.drop k) := by
  refine ⟨(out ++ [0]).getD k 0, ?_⟩
  have h1 := take_getD (out ++ [0]) k 0 (by simp; omega)
  rw [zaZ hk] at h1
  unfold layAt
  have h3 : List.drop (k + 1 + (out.length - k)) (Ints (out ++ [0])) = [] := zba (by rw [Ints_length, zbd, List.length_singleton]; omega)
  rw [Ints_length, zaR, h3, zas]
  have h2 : (Ints (out ++ [0])).take (k + 1) = Ints ((out ++ [0]).take (k + 1)) := by simp [Ints, List.map_take]
  rw [h2, h1]
  simp [Ints]
theorem set_ins (out : List Int) (k : Nat) (hk : k ≤ out.length) (q x : Int) : (Ints (out.take k ++ q :: out.drop k)).set k (int x) = Ints (out.take k ++ x :: out.drop k) := by
  have hl : (out.take k).length = k := by rw [zbg]; omega
  have h1 : (out.take k ++ q :: out.drop k).set k x = out.take k ++ x :: out.drop k := by
    rw [List.set_append_right _ _ (by omega), hl, Nat.sub_self]; rfl
  rw [← h1]; simp [Ints, List.map_set]
theorem lt_of_asc {out : List Int} {k : Nat} {p x : Int} (h : Asc out) (hp : out.getD (k - 1) 0 = p) (hk : 0 < k ∧ k ≤ out.length) (hpx : p < x) : ∀ y ∈ out.take k, y < x := by
  intro y hy
  have e := take_getD out (k - 1) 0 (by omega)
  rw [hp, show k - 1 + 1 = k by omega] at e
  rw [e] at hy
  have h2 := h.sublist (List.take_sublist k out)
  rw [e] at h2
  rcases List.mem_append.1 hy with hy | hy
  · have := (List.pairwise_append.1 h2).2.2 y hy p (List.mem_singleton_self _); omega
  · rw [List.mem_singleton.1 hy]; exact hpx
theorem ins_in (x : Int) (l : List Int) (h : Asc l) (hx : x ∈ l) : ins x l = l :=
  asc_ext _ _ (ins_asc x l h) h fun z => by rw [ins_mem]; constructor; (· rintro (rfl | h); (· exact hx); (· exact h)); (· exact .inr)
set_option maxHeartbeats 8000000 in
theorem rsorted_spec (l : List Int) (kk : Option Nat) (hl : l.length ≤ 1000000) : FnSpec Tryz.prog 32 [gi l kk] [] (gi (srt l) none) [] := by
  refine fnspec_of mixed TT_ok TT_cl ⟨fun _ => false, fun _ => [], 0, fun _ => false, fun _ => false⟩ Tryz.func32 rfl (by kernel_rfl) rfl 63 rfl [.tmp 2] rfl ?_
  simp only [go_sem, zaa, zah, zai, zaj, zam, zaf, ↓reduceIte, reduceCtorEq, zac, zae, zan, zao, zap]
  repeat' (first
 | (intros; (try simp only [zaw, zay, zau, zat, zal, zaq, decide_eq_true_eq, decide_eq_false_iff_not] at *); omega))
  refine w_loop (ι := Nat × List Int) (fun s => ⟨[(0, gi l kk), (3, .one (.osl 0 0 s.2.length none)), (4, i1 s.1)], [(0, some ⟨Ints s.2, 1⟩)], 1⟩) (fun s => s.1 ≤ l.length ∧ s.2.length ≤ s.1 ∧ Asc s.2 ∧ srt l = srtA s.2 (l.drop s.1)) (fun s => l.length - s.1) (0, []) ?_ ⟨zaT _, zbk _, List.Pairwise.nil, rfl⟩ ?_
  · (refine Imp.trans (imp_nilA _ _ 3 1 99 (by simp only []; omega) rfl) ?_)
    (refine imp_ren _ _ _ [(0, 99, ⟨[], 1⟩)] (by simp) (by simp) (by simp) (zax rfl) ?_ rfl (by simp only [zab, zad, false_implies, implies_true, and_true, zaQ, lookR, zaa, if_true, if_false, ↓reduceIte] <;> (repeat' apply zav) <;> (first | rfl | trivial)) (by simp only [zab, zad, false_implies, implies_true, and_true, true_and, flat_cons, flat_nil, flat_ints, flat_bools, flat_app, zaB, and_self, eq_self_iff_true, zas]); simp only [zag, zak, zab, zad, false_implies, implies_true, and_true, lk, slot, zaI, zaz, toN, zaa, if_true, if_false, ↓reduceIte, reduceCtorEq])
    all_goals ((repeat' apply zav) <;> (first | rfl | trivial))
  rintro ⟨i, out⟩ ⟨hi, ho, hA, hI⟩
  simp only at hi ho hA hI ⊢
  rcases zaV i l.length with hlt | hge
  case inr =>
    have c : ¬ (i : Int) < (l.length : Int) := by omega
    rw [zba hge, srtA] at hI
    subst hI
    simp only [go_sem, zaa, zah, zai, zaj, zam, zaf, ↓reduceIte, reduceCtorEq, zac, zae, zan, zao, zap, decide_eq_false c]
    repeat' (first
 | (intros; (try simp only [zaw, zay, zau, zat, zal, zaq, decide_eq_true_eq, decide_eq_false_iff_not] at *); omega))
    (refine fs_frz 0 ⟨Ints (srt l), 1⟩ (by simp only [zaQ, lookR, zaa, if_true, if_false, ↓reduceIte]) (by first | exact Ints_isG _ | exact Bools_isG _ | (simp [zbc]; done)) ?_; simp only [frzTm, SV.frz, SV.frzL, zbm, frzHp, frzO, Ints_frz, Bools_frz, zag, zak, zaa, if_true, if_false, ↓reduceIte])
    apply fs_nil <;> (try simp only [go_sem, resV, resS, zaI, zaN, zaz, St.tmF, zaQ, idx, renO, zaO, evS, slot, lookR, zaa, ↓reduceIte, reduceCtorEq, if_true, if_false, Option.getD_some, Option.getD_none, zag, zak, sLoad, readAt, readNeed, Ints_ren, Ints_length, Ints_getD, and_true, true_and, List.getD_cons_zero, List.getD_cons_succ]) <;> (try rfl)
  have c : (i : Int) < (l.length : Int) := by omega
  obtain ⟨x, hx⟩ : ∃ x, l.getD i 0 = x := ⟨_, rfl⟩
  rw [drop_getD l i 0 hlt, hx, srtA] at hI
  simp only [go_sem, zaa, zah, zai, zaj, zam, zaf, ↓reduceIte, reduceCtorEq, zac, zae, zan, zao, zap, decide_eq_true c]
  repeat' (first
 | (intros; (try simp only [zaw, zay, zau, zat, zal, zaq, decide_eq_true_eq, decide_eq_false_iff_not] at *); omega))
  refine w_loop (ι := Nat) (fun k => ⟨[(0, gi l kk), (3, .one (.osl 0 0 out.length none)), (4, i1 i), (5, i1 k)], [(0, some ⟨Ints out, 1⟩)], 1⟩) (fun k => k ≤ out.length ∧ ∀ y ∈ out.drop k, x < y) (fun k => k) out.length ?_ ⟨zbk _, fun y hy => by rw [zba (zbk _)] at hy; exact absurd hy zad⟩ ?_
  · (refine imp_ren _ _ _ [(0, 0, ⟨Ints out, 1⟩)] (by simp) (by simp) (by simp) (zax rfl) ?_ rfl (by simp only [zab, zad, false_implies, implies_true, and_true, zaQ, lookR, zaa, if_true, if_false, ↓reduceIte] <;> (repeat' apply zav) <;> (first | rfl | trivial)) (by simp only [zab, zad, false_implies, implies_true, and_true, true_and, flat_cons, flat_nil, flat_ints, flat_bools, flat_app, zaB, and_self, eq_self_iff_true, zas]); simp only [zag, zak, zab, zad, false_implies, implies_true, and_true, lk, slot, zaI, zaz, toN, zaa, if_true, if_false, ↓reduceIte, reduceCtorEq])
    all_goals ((repeat' apply zav) <;> (first | rfl | trivial))
  rintro k ⟨hk, hb⟩
  simp only at hk hb ⊢
  by_cases hk0 : 0 < k
  · have c0 : 0 < (k : Int) := by omega
    have hkn : ((k : Int) - 1).toNat = k - 1 := by omega
    obtain ⟨p, hp⟩ : ∃ p, out.getD (k - 1) 0 = p := ⟨_, rfl⟩
    have hdk : out.drop (k - 1) = p :: out.drop k := by
      have := drop_getD out (k - 1) 0 (by omega)
      rw [hp, show k - 1 + 1 = k by omega] at this; exact this
    by_cases hlt2 : x < p
    · simp only [go_sem, zaa, zah, zai, zaj, zam, zaf, ↓reduceIte, reduceCtorEq, zac, zae, zan, zao, zap, decide_eq_true c, decide_eq_true c0, hkn, hx, hp, decide_eq_true hlt2]
      repeat' (first
 | with_reducible refine zav ?_ ?_
 | (unfold OKC; kernel_rfl)
 | (unfold EDG; kernel_rfl)
 | (intros; omega)
 | (intros; (try simp only [zaw, zay, zau, zat, zal, zaq, decide_eq_true_eq, decide_eq_false_iff_not] at *); omega))
      refine le_mk (k - 1) ?_ ⟨by omega, fun y hy => by rw [hdk] at hy; rcases List.mem_cons.1 hy with rfl | hy; (· exact hlt2); (· exact hb y hy)⟩ (by omega)
      have hkk : ((k - 1 : Nat) : Int) = (k : Int) - 1 := by omega
      (refine imp_ren _ _ _ [(0, 0, ⟨Ints out, 1⟩)] (by simp) (by simp) (by simp) (zax rfl) ?_ rfl (by simp only [zab, zad, false_implies, implies_true, and_true, zaQ, lookR, zaa, if_true, if_false, ↓reduceIte] <;> (repeat' apply zav) <;> (first | rfl | trivial)) (by simp only [zab, zad, false_implies, implies_true, and_true, true_and, flat_cons, flat_nil, flat_ints, flat_bools, flat_app, zaB, and_self, eq_self_iff_true, zas]); simp only [zag, zak, zab, zad, false_implies, implies_true, and_true, lk, slot, zaI, zaz, toN, zaa, if_true, if_false, ↓reduceIte, reduceCtorEq])
      all_goals ((repeat' apply zav) <;> (first | rfl | trivial | (simp only [hkk]; done) | (simp only [hkk]; rfl) | (simp only [hkk]; trivial)))
    · by_cases heq : p = x
      · have hin : ins x out = out := ins_in x out hA (by rw [← heq, ← hp]; exact getD_mem out (k - 1) 0 (by omega))
        rw [hin] at hI
        simp only [go_sem, zaa, zah, zai, zaj, zam, zaf, ↓reduceIte, reduceCtorEq, zac, zae, zan, zao, zap, decide_eq_true c, decide_eq_true c0, hkn, hx, hp, decide_eq_false hlt2, decide_eq_true heq]
        repeat' (first
 | with_reducible refine zav ?_ ?_
 | (unfold OKC; kernel_rfl)
 | (unfold EDG; kernel_rfl)
 | (intros; omega)
 | (intros; (try simp only [zaw, zay, zau, zat, zal, zaq, decide_eq_true_eq, decide_eq_false_iff_not] at *); omega))
        refine le_mk (i + 1, out) ?_ ⟨hlt, by show out.length ≤ i + 1; omega, hA, hI⟩ (by show l.length - (i + 1) < l.length - i; omega)
        (refine imp_ren _ _ _ [(0, 0, ⟨Ints out, 1⟩)] (by simp) (by simp) (by simp) (zax rfl) ?_ rfl (by simp only [zab, zad, false_implies, implies_true, and_true, zaQ, lookR, zaa, if_true, if_false, ↓reduceIte] <;> (repeat' apply zav) <;> (first | rfl | trivial)) (by simp only [zab, zad, false_implies, implies_true, and_true, true_and, flat_cons, flat_nil, flat_ints, flat_bools, flat_app, zaB, and_self, eq_self_iff_true, zas]); simp only [zag, zak, zab, zad, false_implies, implies_true, and_true, lk, slot, zaI, zaz, toN, zaa, if_true, if_false, ↓reduceIte, reduceCtorEq])
        all_goals ((repeat' apply zav) <;> (first | rfl | trivial | (simp only [zar]; done) | (simp only [zar]; rfl) | (simp only [zar]; trivial)))
      · have hnk : ((k : Int) + 1).toNat = k + 1 := by omega
        have hmin : min (out.length + 1 - k) (out.length + 1 - (k + 1)) = out.length - k := by omega
        have htt : zbf (out.length - k) (zbf (out.length + 1 - k) (List.drop k (out ++ [0]))) = out.drop k := by
          rw [List.take_take, List.drop_append_of_le_length hk, zaZ (by rw [zaR]; omega), zaP (by rw [zaR]; omega)]
        have hdl : (zbf (out.length + 1 - k) (List.drop k (out ++ [0]))).length = out.length + 1 - k := by simp
        have hta : zbf out.length (Ints out) = Ints out := zaP (by rw [Ints_length]; exact zbk _)
        have hap : Ints out ++ [int 0] = Ints (out ++ [0]) := by simp [Ints]
        obtain ⟨q, hlay⟩ := lay_ins out k hk
        have hset := set_ins out k hk q x
        have hll : (Ints (out.take k ++ q :: out.drop k)).length = out.length + 1 := by rw [Ints_length, zbd, zaA, zbg, zaR]; omega
        have hin : out.take k ++ x :: out.drop k = ins x out := ins_at x out k hA (fun y hy => lt_of_asc hA hp (by omega) (by omega) y hy) hb
        have hil : (ins x out).length = out.length + 1 := by rw [← hin, zbd, zaA, zbg, zaR]; omega
        rw [hin] at hset
        simp only [go_sem, zaa, zah, zai, zaj, zam, zaf, ↓reduceIte, reduceCtorEq, zac, zae, zan, zao, zap, decide_eq_true c, decide_eq_true c0, hkn, hp, decide_eq_false hlt2, decide_eq_false heq, hnk, hmin, htt, hx, hta, hap]
        repeat' (first
 | with_reducible refine zav ?_ ?_
 | (unfold OKC; kernel_rfl)
 | (unfold EDG; kernel_rfl)
 | (intros; omega)
 | (intros; (try simp only [zaw, zay, zau, zat, zal, zaq, decide_eq_true_eq, decide_eq_false_iff_not] at *); omega))
        all_goals try (intro row hrow; cases hrow; rfl)
        all_goals try (rw [hlay, hll]; omega)
        refine le_mk (i + 1, ins x out) ?_ ⟨hlt, by show (ins x out).length ≤ i + 1; omega, ins_asc x out hA, hI⟩ (by show l.length - (i + 1) < l.length - i; omega)
        simp only [hil, hlay, hset]
        (refine imp_ren _ _ _ [(0, 31, ⟨Ints (ins x out), 1⟩)] (by simp) (by simp) (by simp) (zax rfl) ?_ rfl (by simp only [zab, zad, false_implies, implies_true, and_true, zaQ, lookR, zaa, if_true, if_false, ↓reduceIte] <;> (repeat' apply zav) <;> (first | rfl | trivial)) (by simp only [zab, zad, false_implies, implies_true, and_true, true_and, flat_cons, flat_nil, flat_ints, flat_bools, flat_app, zaB, and_self, eq_self_iff_true, zas]); simp only [zag, zak, zab, zad, false_implies, implies_true, and_true, lk, slot, zaI, zaz, toN, zaa, if_true, if_false, ↓reduceIte, reduceCtorEq])
        all_goals ((repeat' apply zav) <;> (first | rfl | trivial | (simp only [zar]; done) | (simp only [zar]; rfl) | (simp only [zar]; trivial)))
  · have c0 : ¬ 0 < (k : Int) := by omega
    have hnk : ((k : Int) + 1).toNat = k + 1 := by omega
    have hmin : min (out.length + 1 - k) (out.length + 1 - (k + 1)) = out.length - k := by omega
    have htt : zbf (out.length - k) (zbf (out.length + 1 - k) (List.drop k (out ++ [0]))) = out.drop k := by
      rw [List.take_take, List.drop_append_of_le_length hk, zaZ (by rw [zaR]; omega), zaP (by rw [zaR]; omega)]
    have hdl : (zbf (out.length + 1 - k) (List.drop k (out ++ [0]))).length = out.length + 1 - k := by simp
    have hta : zbf out.length (Ints out) = Ints out := zaP (by rw [Ints_length]; exact zbk _)
    have hap : Ints out ++ [int 0] = Ints (out ++ [0]) := by simp [Ints]
    obtain ⟨q, hlay⟩ := lay_ins out k hk
    have hset := set_ins out k hk q x
    have hll : (Ints (out.take k ++ q :: out.drop k)).length = out.length + 1 := by rw [Ints_length, zbd, zaA, zbg, zaR]; omega
    have hin : out.take k ++ x :: out.drop k = ins x out := ins_at x out k hA (fun y hy => by rw [show k = 0 by omega, zaL] at hy; exact absurd hy zad) hb
    have hil : (ins x out).length = out.length + 1 := by rw [← hin, zbd, zaA, zbg, zaR]; omega
    rw [hin] at hset
    simp only [go_sem, zaa, zah, zai, zaj, zam, zaf, ↓reduceIte, reduceCtorEq, zac, zae, zan, zao, zap, decide_eq_true c, decide_eq_false c0, hnk, hmin, htt, hx, hta, hap]
    repeat' (first
 | with_reducible refine zav ?_ ?_
 | (unfold OKC; kernel_rfl)
 | (unfold EDG; kernel_rfl)
 | (intros; omega)
 | (intros; (try simp only [zaw, zay, zau, zat, zal, zaq, decide_eq_true_eq, decide_eq_false_iff_not] at *); omega))
    all_goals try (intro row hrow; cases hrow; rfl)
    all_goals try (rw [hlay, hll]; omega)
    refine le_mk (i + 1, ins x out) ?_ ⟨hlt, by show (ins x out).length ≤ i + 1; omega, ins_asc x out hA, hI⟩ (by show l.length - (i + 1) < l.length - i; omega)
    simp only [hil, hlay, hset]
    (refine imp_ren _ _ _ [(0, 31, ⟨Ints (ins x out), 1⟩)] (by simp) (by simp) (by simp) (zax rfl) ?_ rfl (by simp only [zab, zad, false_implies, implies_true, and_true, zaQ, lookR, zaa, if_true, if_false, ↓reduceIte] <;> (repeat' apply zav) <;> (first | rfl | trivial)) (by simp only [zab, zad, false_implies, implies_true, and_true, true_and, flat_cons, flat_nil, flat_ints, flat_bools, flat_app, zaB, and_self, eq_self_iff_true, zas]); simp only [zag, zak, zab, zad, false_implies, implies_true, and_true, lk, slot, zaI, zaz, toN, zaa, if_true, if_false, ↓reduceIte, reduceCtorEq])
    all_goals ((repeat' apply zav) <;> (first | rfl | trivial | (simp only [zar]; done) | (simp only [zar]; rfl) | (simp only [zar]; trivial)))
end Go.Proofs.YtcnilpdlcmpbbaaGreat
-- NEWGO
-- PRUNE: cl_lendx
-- ISG: Cs_isG
-- FLAT: Cs_flat
namespace Go.Proofs.YtcnilpdlcmpbbaaGreat
set_option linter.unusedVariables false
set_option linter.unusedSimpArgs false
open Go.Proofs.YtcnilpdlcmpbbaaGreat.Sh
set_option maxRecDepth 20000
theorem dleft_spec (l : List Int) (i : Nat) : FnSpec Tryz.prog 31 [.one (.gptr (dice l i).cells 0)] [] (b1 (decide ((i : Int) < l.length))) [] := by
  refine fnspec_of mixed TT_ok TT_cl ⟨fun _ => false, fun _ => [], 0, fun _ => false, fun _ => false⟩ Tryz.func31 rfl (by kernel_rfl) rfl 13 rfl [.tmp 2] rfl ?_
  simp only [go_sem, zaa, zah, zai, zaj, zam, zaf, ↓reduceIte, reduceCtorEq, zac, zae, zan, zao, zap]
  repeat' (first
 | with_reducible refine zav ?_ ?_
 | (unfold OKC; kernel_rfl)
 | (unfold EDG; kernel_rfl)
 | exact fs_nil trivial rfl
 | fail)
def Lq (x : Pl) (s p : Int) : Prop := lim x = true → hld x + s ≤ (1 + p) * x.q + x.b
structure LmI (l : List Nd) (n : Int) (P : List Pl) (c : Int) (S N : List (Int × Int)) (k : Nat) : Prop where
  pv : Pv l n P c
  sp : SpB P (12 + k)
  lq : ∀ i, i < P.length → Lq (gP P i) (getM S (gP P i).g) (getM N (gP P i).g)
  s : ∀ g, 0 ≤ getM S g ∧ getM S g ≤ k
  p : ∀ g, 0 ≤ getM N g ∧ getM N g ≤ k
theorem idF_f {x : Pl} {cpu : Int} (h1 : pck x = true) : (idF cpu x).g = x.g ∧ (idF cpu x).q = x.q ∧ (idF cpu x).b = x.b ∧ (idF cpu x).sp = x.sp := by
  rw [show idF cpu x = if (preturn x cpu).2 = 0 then (preturn x cpu).1 else x from rfl]
  split
  · rename_i hh
    have hc : pchk x cpu = 0 := by
      unfold preturn at hh
      split at hh
      · rename_i h3; simp at hh; exact absurd hh h3
      · rename_i h3; simpa using h3
    have e : preturn x cpu = (pret x cpu, 0) := by
      unfold preturn
      rw [if_neg (fun q => q hc)]
    rw [e]
    exact ⟨rfl, rfl, rfl, rfl⟩
  · exact ⟨rfl, rfl, rfl, rfl⟩
theorem lim_q {x y : Pl} (h : x.q = y.q) : lim x = lim y := by unfold lim; rw [h]
theorem LmI.idle {l : List Nd} {n : Int} {P : List Pl} {c : Int} {S N : List (Int × Int)} {k : Nat} (h : LmI l n P c S N k) (cpu : Int) : LmI l n (thId l n P cpu) c S N (k + 1) := by
  have e : thId l n P cpu = P.map (idF cpu) := by unfold thId thEa; rw [if_pos h.pv.ok]; rfl
  refine ⟨h.pv.idle cpu, ?_, fun i hi => ?_, fun g => by have := h.s g; omega, fun g => by have := h.p g; omega⟩
  · rw [e]
    refine h.sp.map fun x hx hs => ?_
    rw [(idF_f (h.pv.all x hx)).2.2.2]; omega
  · rw [e] at hi ⊢
    rw [List.length_map] at hi
    rw [map_at _ _ _ hi]
    have hp := h.pv.pck hi
    obtain ⟨f1, f2, f3, _⟩ := idF_f (cpu := cpu) hp
    have h1 := h.lq i hi
    unfold Lq at h1 ⊢
    rw [f1, f2, f3, idF_hld hp, lim_q f2]
    exact h1
theorem rfF_le {x : Pl} {due : List Int} (h : pck x = true) : (rfF due x).g = x.g ∧ (rfF due x).q = x.q ∧ (rfF due x).b = x.b ∧ (lim x = true → hld (rfF due x) ≤ hld x + (if x.g ∈ due then x.q else 0) ∧ hld (rfF due x) ≤ x.q + x.b) := by
  obtain ⟨a1, a2, a3⟩ := rfF_s (due := due) h
  refine ⟨(kp_rf (x.c.length : Int) due x h rfl).1, a2, a3, fun hl => ?_⟩
  have hm : mst x = x.q + x.b := by unfold mst; rw [if_pos hl]
  have hh := (nums h).h
  have hst := (nums h).st
  have hq : x.q ≠ 4611686018427387904 := by unfold lim at hl; simpa using hl
  unfold rfF
  split
  · rename_i hd
    have h3 := hd.1
    unfold prefill at h3 ⊢
    rw [if_neg (by simp [h])] at h3 ⊢
    split at h3
    · cases h3
    · rename_i h4
      rw [if_neg h4, if_pos hd.2]
      have := (pfil_ok h h4).2.1
      simp only
      rw [this, if_pos hl, hm]
      unfold mn
      split <;> omega
  · split <;> omega
theorem LmI.rf {l : List Nd} {n : Int} {P : List Pl} {c : Int} {S N N' : List (Int × Int)} {k : Nat} (h : LmI l n P c S N k) (due : List Int) (hN : ∀ g, getM N' g = getM N g + if g ∈ due then 1 else 0) : LmI l n (thRf l n P due) c S N' (k + 1) := by
  have e : thRf l n P due = P.map (rfF due) := by unfold thRf; rw [if_pos h.pv.ok]
  refine ⟨h.pv.rf due, (h.sp.rf h.pv (by omega) due).mono (by omega), fun i hi => ?_, fun g => by have := h.s g; omega, fun g => by have := h.p g; rw [hN]; split <;> omega⟩
  rw [e] at hi ⊢
  rw [List.length_map] at hi
  rw [map_at _ _ _ hi]
  have hp := h.pv.pck hi
  obtain ⟨f1, f2, f3, f4⟩ := rfF_le (due := due) hp
  have h1 := h.lq i hi
  unfold Lq at h1 ⊢
  rw [f1, f2, f3, lim_q f2, hN]
  intro hl
  have h2 := h1 hl
  have h3 := (f4 hl).1
  have hx : (1 + (getM N (gP P i).g + 1)) * (gP P i).q = (1 + getM N (gP P i).g) * (gP P i).q + (gP P i).q := by
    rw [show (1 + (getM N (gP P i).g + 1)) = (1 + getM N (gP P i).g) + 1 by omega, Int.add_mul, Int.one_mul]
  split
  · rename_i hd
    rw [if_pos hd] at h3
    rw [hx]; omega
  · rename_i hd
    rw [if_neg hd] at h3
    rw [Int.add_zero]; omega
theorem LmI.start {l : List Nd} {n : Int} {P : List Pl} {c : Int} (hP : Pv l n P c) (hs : SpB P 12) (all : List Int) : LmI l n (thRf l n P all) c [] [] 0 := by
  have e : thRf l n P all = P.map (rfF all) := by unfold thRf; rw [if_pos hP.ok]
  refine ⟨hP.rf all, hs.rf hP (by omega) all, fun i hi => ?_, fun g => ⟨zbl _, zbl _⟩, fun g => ⟨zbl _, zbl _⟩⟩
  rw [e] at hi ⊢
  rw [List.length_map] at hi
  rw [map_at _ _ _ hi]
  have hp := hP.pck hi
  obtain ⟨f1, f2, f3, f4⟩ := rfF_le (due := all) hp
  unfold Lq
  rw [f1, f2, f3, lim_q f2]
  intro hl
  have := (f4 hl).2
  rw [getM_nil, Int.add_zero, Int.add_zero, Int.one_mul]; omega
theorem LmI.sp' {l : List Nd} {n : Int} {P : List Pl} {c : Int} {S N S' : List (Int × Int)} {k : Nat} (h : LmI l n P c S N k) (hk : k ≤ 100) {g cpu : Int} (he : (thSp l n P g cpu).2 = 0) (hS : ∀ x, getM S' x = getM S x + if x ∈ ancM l n g then 1 else 0) : LmI l n (thSp l n P g cpu).1 c S' N (k + 1) := by
  have hg : hasM l n g = true := by
    cases hg : hasM l n g with
    | true => rfl
    | false =>
      unfold thSp at he
      rw [if_neg (by simp [h.pv.ok]), if_pos hg] at he
      cases he
  have h0 := h.pv.c 0 (by rw [h.pv.len]; exact h.pv.vt.ne)
  have hc : 0 ≤ cpu ∧ cpu < c := by
    cases hc : wi cpu 0 ((gP P 0).c.length - 1) with
    | true => rw [wi_iff] at hc; omega
    | false =>
      unfold thSp at he
      rw [if_neg (by simp [h.pv.ok]), if_neg (by simp [hg]), if_pos hc] at he
      cases he
  obtain ⟨a, bl, hR⟩ := thSp_r h.pv hg hc (h.sp.mono (by omega))
  have hbl : bl = false := by
    have := hR.e
    rw [he] at this
    cases bl with
    | false => rfl
    | true => simp at this
  subst hbl
  have e0 : thSp l n P g cpu = (upF (ancM l n g) (spF cpu) P, 0) := by
    have h5 := hR.bk
    unfold thSp
    rw [if_neg (by simp [h.pv.ok]), if_neg (by simp [hg]), if_neg (by rw [zbi, wi_iff]; omega), h5, if_neg zbb]
  refine ⟨hR.ok, (h.sp.sp h.pv (by omega) (.inl he)).mono (by omega), fun i hi => ?_, fun x => by have := h.s x; rw [hS]; split <;> omega, fun x => by have := h.p x; omega⟩
  have hi' : i < P.length := by rw [hR.ok.len] at hi; rw [h.pv.len]; exact hi
  have h1 := h.lq i hi'
  have hp := h.pv.pck hi'
  have hgl : (gP (thSp l n P g cpu).1 i).q = (gP P i).q ∧ (gP (thSp l n P g cpu).1 i).b = (gP P i).b := by
    rw [e0]
    simp only
    rw [upF_at _ _ _ _ hi']
    split
    · exact (spF_s hp (by have := h.pv.c i hi'; omega)).2
    · exact ⟨rfl, rfl⟩
  have hgg : (gP (thSp l n P g cpu).1 i).g = (gP P i).g := by rw [hR.ok.g hi, h.pv.g hi']
  have h2 := (hR.i i hi').2.1
  unfold Lq at h1 ⊢
  rw [hgg, hgl.1, hgl.2, lim_q hgl.1, hS]
  intro hl
  have h3 := h1 hl
  have h4 := h2 hl
  simp only [true_and] at h4
  split
  · rename_i hm
    rw [if_pos hm] at h4; omega
  · rename_i hm
    rw [if_neg hm] at h4; omega
theorem LmI.skip {l : List Nd} {n : Int} {P : List Pl} {c : Int} {S N : List (Int × Int)} {k : Nat} (h : LmI l n P c S N k) : LmI l n P c S N (k + 1) :=
  ⟨h.pv, h.sp.mono (by omega), h.lq, fun g => by have := h.s g; omega, fun g => by have := h.p g; omega⟩
theorem LmI.ok {l : List Nd} {n : Int} {P : List Pl} {c : Int} {S N : List (Int × Int)} {k : Nat} (h : LmI l n P c S N k) (hk : k ≤ 100) {i : Nat} (hi : i < P.length) (hl : lim (gP P i) = true) : ¬ (1 + getM N (gP P i).g) * (gP P i).q + (gP P i).b < getM S (gP P i).g ∧ (0 ≤ (1 + getM N (gP P i).g) * (gP P i).q ∧ (1 + getM N (gP P i).g) * (gP P i).q ≤ 1000000000) ∧ (0 ≤ (gP P i).b ∧ (gP P i).b ≤ 1000000) ∧ (0 ≤ getM N (gP P i).g ∧ getM N (gP P i).g ≤ 100) := by
  have hp := h.pv.pck hi
  have h1 := h.lq i hi hl
  have h2 := hld_ge hp
  have h3 := h.p (gP P i).g
  have hst := (nums hp).st
  have hq : (gP P i).q ≠ 4611686018427387904 := by unfold lim at hl; simpa using hl
  have h4 : 1 ≤ (gP P i).q ∧ (gP P i).q ≤ 1000000 := by omega
  have h5 : (1 + getM N (gP P i).g) * (gP P i).q ≤ 101 * 1000000 := Int.mul_le_mul (by omega) h4.2 (by omega) (by omega)
  have h6 : 0 ≤ (1 + getM N (gP P i).g) * (gP P i).q := Int.mul_nonneg (by omega) (by omega)
  exact ⟨by omega, by omega, by omega, by omega⟩
theorem cnt_step {M M0 : List (Int × Int)} {U : List Int} {m : Nat} (hm : m < U.length) (hn : U.Nodup) (h : ∀ g, getM M g = getM M0 g + if g ∈ U.take m then 1 else 0) : ∀ g, getM (setM M (U.getD m 0) (getM M (U.getD m 0) + 1)) g = getM M0 g + if g ∈ U.take (m + 1) then 1 else 0 := fun g => by
  have hno : U.getD m 0 ∉ U.take m := fun hm2 => by
    rw [← List.take_append_drop m U, List.nodup_append] at hn
    exact hn.2.2 _ hm2 _ (by rw [drop_getD U m 0 hm]; exact zaS) rfl
  rw [getM_setM, take_getD U m 0 hm]
  by_cases e : g = U.getD m 0
  · rw [if_pos e, h, if_neg hno, if_pos (by rw [e]; exact List.mem_append.2 (.inr (List.mem_singleton.2 rfl))), e]; omega
  · rw [if_neg e, h]
    have : (g ∈ U.take m ++ [U.getD m 0]) ↔ g ∈ U.take m := by
      rw [List.mem_append, List.mem_singleton]
      constructor
      · rintro (h1 | h1)
        · exact h1
        · exact absurd h1 e
      · exact .inl
    simp only [this]
theorem srt_nodup (l : List Int) : (srt l).Nodup := (srt_asc l).imp fun h => by omega
end Go.Proofs.YtcnilpdlcmpbbaaGreat
-- NEWGO
-- PRUNE: cl_lendx
-- ISG: Cs_isG
-- FLAT: Cs_flat
namespace Go.Proofs.YtcnilpdlcmpbbaaGreat
set_option linter.unusedVariables false
set_option linter.unusedSimpArgs false
open Go.Proofs.YtcnilpdlcmpbbaaGreat.Sh
set_option maxRecDepth 20000
def lendM : FuncId → List Nat := fun f => if f = 9 then [0] else if f = 10 then [0] else if f = 11 then [0] else if f = 20 then [0] else if f = 24 then [0] else []
set_option maxHeartbeats 64000000 in
theorem limits_spec (D : List Int) (hr : ∀ x ∈ D, -9223372036854775808 ≤ x ∧ x ≤ 9223372036854775807) : FnSpec Tryz.prog 5 [gi D none] [] (b1 true) [] := by
  by_cases hlen : (D.length : Int) ≤ 600
  case neg =>
    refine fnspec_of mixed TT_ok TT_cl ⟨fun _ => false, lendM, 0, fun _ => false, fun _ => false⟩ Tryz.func5 rfl (by kernel_rfl) rfl 170 rfl [.tmp 2] rfl ?_
    simp only [go_sem, zaa, zah, zai, zaj, zam, zaf, ↓reduceIte, reduceCtorEq, zac, zae, zan, zao, zap, decide_eq_false hlen, lendM]
    repeat' (first
 | (apply cl_plain
    case hs => rfl
    case ha => (simp only [zag, zak, prepV, prepC, idx, hpL', lookR, zaa, if_true, if_false]; rfl)
    case h => (first | exact light_spec .. | exact thsane_spec ..))
 | ((first | refine s1_id ?_ | refine swp_id ?_ | refine sops_id ?_ | refine s2_id ?_); simp only [decide_eq_false hlen, lendM, go_sem, zaa, zah, zai, zaj, zam, zaf, ↓reduceIte, reduceCtorEq, zac, zae, zan, zao, zap, zaI, zaN, zaz, zaO, renO, bk, back, outUpsFrom, Ints_ren])
 | exact fs_nil trivial rfl
 | fail)
  have hl : D.length ≤ 600 := by omega
  have t1 := tree_spec D hl hr 0 6 (by decide)
  have hti := mkT_ok D 0 6
  generalize mkT D 0 6 = T at *
  obtain ⟨⟨l, n⟩, j1⟩ := T
  simp only at t1 hti
  have hV := hti.v.vt
  have hle := hti.len
  have hnl := nd_len l
  have n1 := next_spec D j1 3 hl hr (by decide)
  have r1 := nx_rng D j1 3 (by decide)
  generalize nxV D j1 3 = v1 at *
  generalize nxA D j1 3 = j2 at *
  have p1 := mkpools_spec D hl hr j2 l n (1 + v1) hV hti.nr (by omega)
  have hP := mkP_ok (D := D) hV (c := 1 + v1) (by omega) j2
  have hSp := mkP_sp (D := D) hV (c := 1 + v1) (by omega) j2
  generalize mkP D l n (1 + v1) j2 = q at *
  obtain ⟨P, j3⟩ := q
  simp only at p1 hP hSp
  have hPl := hP.len
  have hstart := fun all => LmI.start hP hSp all
  have hPa := hP.all
  refine fnspec_of mixed TT_ok TT_cl ⟨fun _ => false, lendM, 0 , fun _ => false, fun i => if i = 13 then true else false⟩ Tryz.func5 rfl (by kernel_rfl) rfl 170 rfl [.tmp 2] rfl ?_
  simp only [go_sem, zaa, zah, zai, zaj, zam, zaf, ↓reduceIte, reduceCtorEq, zac, zae, zan, zao, zap, decide_eq_true hlen, lendM]
  repeat' (first
 | with_reducible refine zav ?_ ?_
 | (apply cl_plain
    case hs => rfl
    case ha => (simp only [zag, zak, prepV, prepC, idx, hpL', lookR, zaa, if_true, if_false]; rfl)
    case h => (first | exact light_spec .. | exact roll_spec .. | exact t1 .. | exact n1 .. | exact p1 ..))
 | (apply cl_lend
    case hr => (simp only [zag, zak, hpL', lookR, zaa, if_true, if_false]; first | exact map1 _ | exact map2 _ _ | exact map3 _ _ _)
    case ha => (simp only [zag, zak, prepV, prepC, idx, hpL', lookR, zaa, if_true, if_false]; rfl)
    case hs => rfl
    case hn => decide
    case h => (first | exact light_spec .. | exact roll_spec .. | exact t1 .. | exact n1 .. | exact p1 ..)
    case hf => (simp only [zab, zad, false_implies, implies_true, and_true, true_and, flat_cons, flat_nil, flat_ints, flat_bools, flat_app, Cs_flat, zaB, and_self, eq_self_iff_true, zas])
    case hl => (simp only [zaA, zaE]; decide))
 | ((first | refine s1_id ?_ | refine swp_id ?_ | refine sops_id ?_ | refine s2_id ?_); simp only [decide_eq_true hlen, lendM, dice, go_sem, zaa, zah, zai, zaj, zam, zaf, ↓reduceIte, reduceCtorEq, zac, zae, zan, zao, zap, zaI, zaN, zaz, zaO, renO, bk, back, outUpsFrom, Ints_ren])
 | (intros; omega)
 | (intros; (try simp only [zaw, zay, zau, zat, zal, zaq, decide_eq_true_eq, decide_eq_false_iff_not] at *); omega))
  refine w_loop (ι := Nat × List Int) (fun s => ⟨[(3, dp), (4, .one (.optr 1 0)), (5, i1 (1 + v1)), (6, gr P none), (7, .one (.osl 2 0 s.2.length none)), (39, i1 l.length), (40, i1 s.1)], [(0, some (dice D j3)), (1, some ⟨[.gsl (Cs l) 0 l.length none, int n], 2⟩), (2, some ⟨Ints s.2, 1⟩)], 3⟩) (fun s => s.1 ≤ l.length ∧ s.2.length = s.1) (fun s => l.length - s.1) (0, []) ?_ ⟨zaT _, rfl⟩ ?_
  · (refine Imp.trans (imp_nilA _ _ 7 1 99 (by simp only []; omega) rfl) ?_)
    (refine imp_ren _ _ _ [(0, 5, dice D j3), (1, 9, ⟨[.gsl (Cs l) 0 l.length none, int n], 2⟩), (2, 99, ⟨[], 1⟩)] (by simp) (by simp) (by simp) (zax rfl) ?_ rfl (by simp only [zab, zad, false_implies, implies_true, and_true, zaQ, lookR, zaa, if_true, if_false, ↓reduceIte, dice] <;> (repeat' apply zav) <;> (first | rfl | trivial)) (by simp only [zab, zad, false_implies, implies_true, and_true, true_and, flat_cons, flat_nil, flat_ints, flat_bools, flat_app, zaB, and_self, eq_self_iff_true, zas, dice]); simp only [zag, zak, zab, zad, false_implies, implies_true, and_true, lk, slot, zaI, zaz, toN, zaa, if_true, if_false, ↓reduceIte, reduceCtorEq])
    all_goals ((repeat' apply zav) <;> (first | rfl | trivial))
  clear t1 n1 p1
  rintro ⟨m0, all⟩ ⟨hm0, hal⟩
  simp only at hm0 hal ⊢
  rcases zaV m0 l.length with hlt0 | hge0
  case inl =>
    have c : (m0 : Int) < (l.length : Int) := by omega
    obtain ⟨k1, _⟩ := nd_f l m0 hlt0 (.sc (.int .i64 0))
    have htk : zbf all.length (Ints all) = Ints all := zaP (by rw [Ints_length]; omega)
    have hpp : Ints all ++ [int (gN l m0).i] = Ints (all ++ [(gN l m0).i]) := by simp [Ints]
    have hla : (all ++ [(gN l m0).i]).length = all.length + 1 := by simp
    simp only [go_sem, zaa, zah, zai, zaj, zam, zaf, ↓reduceIte, reduceCtorEq, zac, zae, zan, zao, zap, decide_eq_true c, lendM, k1]
    repeat' (first
 | with_reducible refine zav ?_ ?_
 | (intros; omega)
 | (intros; (try simp only [zaw, zay, zau, zat, zal, zaq, decide_eq_true_eq, decide_eq_false_iff_not] at *); omega))
    refine le_mk (m0 + 1, all ++ [(gN l m0).i]) ?_ ⟨hlt0, by show (all ++ [(gN l m0).i]).length = m0 + 1; rw [hla, hal]⟩ (by show l.length - (m0 + 1) < l.length - m0; omega)
    simp only [hla]
    (refine imp_ren _ _ _ [(0, 0, dice D j3), (1, 1, ⟨[.gsl (Cs l) 0 l.length none, int n], 2⟩), (2, 14, ⟨Ints (all ++ [(gN l m0).i]), 1⟩)] (by simp) (by simp) (by simp) (zax rfl) ?_ rfl (by simp only [zab, zad, false_implies, implies_true, and_true, zaQ, lookR, zaa, if_true, if_false, ↓reduceIte, dice] <;> (repeat' apply zav) <;> (first | rfl | trivial)) (by simp only [zab, zad, false_implies, implies_true, and_true, true_and, flat_cons, flat_nil, flat_ints, flat_bools, flat_app, zaB, and_self, eq_self_iff_true, zas, dice]); simp only [zag, zak, zab, zad, false_implies, implies_true, and_true, lk, slot, zaI, zaz, toN, zaa, if_true, if_false, ↓reduceIte, reduceCtorEq])
    all_goals ((repeat' apply zav) <;> (first | rfl | trivial | (simp only [zar]; done) | (simp only [zar]; rfl) | (simp only [zar]; trivial)))
  case inr =>
  have c : ¬ (m0 : Int) < (l.length : Int) := by omega
  have e1 := threfill_spec l n P none all none (by omega) (by omega) (by omega) hti.nr hV.ctr
  have hI0 := hstart all
  generalize thRf l n P all = P0 at *
  have hI0l := hI0.pv.len
  have e2 := rthck_spec l n P0 none (by omega) (by omega) hti.nr (fun x hx => smp_of (hI0.pv.all x hx))
  rw [hI0.pv.ok] at e2
  simp only [go_sem, zaa, zah, zai, zaj, zam, zaf, ↓reduceIte, reduceCtorEq, zac, zae, zan, zao, zap, decide_eq_false c, lendM]
  repeat' (first
 | (intros; (try simp only [zaw, zay, zau, zat, zal, zaq, decide_eq_true_eq, decide_eq_false_iff_not] at *); omega))
  (refine rgf_t _ (imp_frz _ _ 2 ⟨Ints all, 1⟩ (by simp only [zaQ, lookR, zaa, if_true, if_false, ↓reduceIte]) (by first | exact Ints_isG _ | exact Bools_isG _ | exact Cs_isG _ | (simp [zbc]; done))) ?_; simp only [frzTm, SV.frz, SV.frzL, zbm, frzHp, frzO, Ints_frz, Bools_frz, zag, zak, zaa, if_true, if_false, ↓reduceIte])
  simp only [go_sem, zaa, zah, zai, zaj, zam, zaf, ↓reduceIte, reduceCtorEq, zac, zae, zan, zao, zap, lendM]
  repeat' (first
 | (apply cl_plain
    case hs => rfl
    case ha => (simp only [zag, zak, prepV, prepC, idx, hpL', lookR, zaa, if_true, if_false]; rfl)
    case h => (first | exact e1 .. | exact e2 ..))
 | ((first | refine s1_id ?_ | refine swp_id ?_ | refine sops_id ?_ | refine s2_id ?_); simp only [lendM, go_sem, zaa, zah, zai, zaj, zam, zaf, ↓reduceIte, reduceCtorEq, zac, zae, zan, zao, zap, zaI, zaN, zaz, zaO, renO, bk, back, outUpsFrom, Ints_ren])
 | (intros; (try simp only [zaw, zay, zau, zat, zal, zaq, decide_eq_true_eq, decide_eq_false_iff_not] at *); omega))
  refine w_loop (ι := Nat × List Pl × List (Int × Int) × List (Int × Int) × Nat) (fun s => ⟨[(3, dp), (4, .one (.optr 1 0)), (5, i1 (1 + v1)), (6, gr s.2.1 none), (9, .one (.mp 2 false)), (10, .one (.mp 3 false)), (11, i1 s.1)], [(0, some (dice D s.2.2.2.2)), (1, some ⟨[.gsl (Cs l) 0 l.length none, int n], 2⟩), (2, some ⟨Mps s.2.2.1, 0⟩), (3, some ⟨Mps s.2.2.2.1, 0⟩)], 4⟩) (fun s => s.1 ≤ 40 ∧ LmI l n s.2.1 (1 + v1) s.2.2.1 s.2.2.2.1 s.1) (fun s => 40 - s.1) (0, P0, [], [], j3) ?_ ⟨zaT _, hI0⟩ ?_
  · (refine imp_ren _ _ _ [(0, 0, dice D j3), (1, 1, ⟨[.gsl (Cs l) 0 l.length none, int n], 2⟩), (2, 13, ⟨[], 0⟩), (3, 14, ⟨[], 0⟩)] (by simp) (by simp) (by simp) (zax rfl) ?_ rfl (by simp only [zab, zad, false_implies, implies_true, and_true, zaQ, lookR, zaa, if_true, if_false, ↓reduceIte, dice] <;> (repeat' apply zav) <;> (first | rfl | trivial)) (by simp only [zab, zad, false_implies, implies_true, and_true, true_and, flat_cons, flat_nil, flat_ints, flat_bools, flat_app, zaB, and_self, eq_self_iff_true, zas, dice]); simp only [zag, zak, zab, zad, false_implies, implies_true, and_true, lk, slot, zaI, zaz, toN, zaa, if_true, if_false, ↓reduceIte, reduceCtorEq])
    all_goals ((repeat' apply zav) <;> (first | rfl | trivial))
  clear e1 e2 hI0 hstart hPa hI0l hP hSp hPl
  rintro ⟨m, Q, S, N, j⟩ ⟨hm, hI⟩
  simp only at hm hI ⊢
  rcases zaV m 40 with hlt | hge
  case inr =>
    have c1 : ¬ (m : Int) < 40 := by omega
    simp only [go_sem, zaa, zah, zai, zaj, zam, zaf, ↓reduceIte, reduceCtorEq, zac, zae, zan, zao, zap, decide_eq_false c1, lendM]
    repeat' (first
 | (apply cl_plain
    case hs => rfl
    case ha => (simp only [zag, zak, prepV, prepC, idx, hpL', lookR, zaa, if_true, if_false]; rfl)
    case h => (first | exact thsane_spec ..))
 | ((first | refine s1_id ?_ | refine swp_id ?_ | refine sops_id ?_ | refine s2_id ?_); simp only [decide_eq_false c1, lendM, go_sem, zaa, zah, zai, zaj, zam, zaf, ↓reduceIte, reduceCtorEq, zac, zae, zan, zao, zap, zaI, zaN, zaz, zaO, renO, bk, back, outUpsFrom, Ints_ren])
 | exact fs_nil trivial rfl
 | fail)
  have c1 : (m : Int) < 40 := by omega
  have dl := dleft_spec D j
  by_cases hleft : (j : Int) < D.length
  case neg =>
    rw [decide_eq_false hleft] at dl
    simp only [go_sem, zaa, zah, zai, zaj, zam, zaf, ↓reduceIte, reduceCtorEq, zac, zae, zan, zao, zap, decide_eq_true c1, lendM]
    repeat' (first
 | (apply cg_ts
    case hl => rfl
    case ha => (simp only [zag, zak, prepV, prepC, idx, hpL', lookR, zaa, if_true, if_false]; rfl)
    case hs => (simp only [snaps_nil, zaX, zaY, SV.refs, zaB, zaD, zaC, zas]; rfl)
    case h => (first | exact dl .. | exact thsane_spec ..)
    case hf => ((simp only [zab, zad, false_implies, implies_true, and_true, hpL', lookR, zaa, if_true, if_false]) <;> (repeat' apply zav) <;> (first | exact ⟨_, rfl, Ints_isG _⟩ | exact ⟨_, rfl, Cs_isG _⟩ | exact ⟨_, rfl, by simp [zbc]⟩))
    case hg => simp [SV.noG, SV.noGL, Cell.noG])
 | (apply cl_plain
    case hs => rfl
    case ha => (simp only [zag, zak, prepV, prepC, idx, hpL', lookR, zaa, if_true, if_false]; rfl)
    case h => (first | exact dl .. | exact thsane_spec ..))
 | ((first | refine s1_id ?_ | refine swp_id ?_ | refine sops_id ?_ | refine s2_id ?_); simp only [decide_eq_true c1, lendM, dice, go_sem, zaa, zah, zai, zaj, zam, zaf, ↓reduceIte, reduceCtorEq, zac, zae, zan, zao, zap, zaI, zaN, zaz, zaO, renO, bk, back, outUpsFrom, Ints_ren])
 | exact fs_nil trivial rfl
 | fail)
  rw [decide_eq_true hleft] at dl
  have hQl := hI.pv.len
  have n6 := next_spec D j 6 hl hr (by decide)
  have r6 := nx_rng D j 6 (by decide)
  generalize nxV D j 6 = v6 at *
  generalize nxA D j 6 = j6 at *
  by_cases hv0 : v6 = 0
  · have e1 := dsome_spec D hl hr j6
    have e0 := dsV_len D j6
    generalize dsV D j6 = w at *
    obtain ⟨due, jc⟩ := w
    simp only at e1 e0
    have e2 := threfill_spec l n Q none due none (by omega) (by omega) (by omega) hti.nr hV.ctr
    have e3 := rsorted_spec due none (by omega)
    have hnd := srt_nodup due
    have hsm := srt_mem due
    have hsl : (srt due).length ≤ due.length := nodup_le _ _ hnd fun x hx => (hsm x).1 hx
    have hrf := fun N' h => hI.rf (N' := N') due h
    generalize thRf l n Q due = P' at *
    generalize srt due = U at *
    simp only [go_sem, zaa, zah, zai, zaj, zam, zaf, ↓reduceIte, reduceCtorEq, zac, zae, zan, zao, zap, decide_eq_true c1, lendM, decide_eq_true hv0]
    repeat' (first
 | (apply cg_ts
    case hl => rfl
    case ha => (simp only [zag, zak, prepV, prepC, idx, hpL', lookR, zaa, if_true, if_false]; rfl)
    case hs => (simp only [snaps_nil, zaX, zaY, SV.refs, zaB, zaD, zaC, zas]; rfl)
    case h => (first | exact dl .. | exact n6 .. | exact e1 .. | exact e2 .. | exact e3 ..)
    case hf => ((simp only [zab, zad, false_implies, implies_true, and_true, hpL', lookR, zaa, if_true, if_false]) <;> (repeat' apply zav) <;> (first | exact ⟨_, rfl, Ints_isG _⟩ | exact ⟨_, rfl, Cs_isG _⟩ | exact ⟨_, rfl, by simp [zbc]⟩))
    case hg => simp [SV.noG, SV.noGL, Cell.noG])
 | (apply cl_plain
    case hs => rfl
    case ha => (simp only [zag, zak, prepV, prepC, idx, hpL', lookR, zaa, if_true, if_false]; rfl)
    case h => (first | exact dl .. | exact n6 .. | exact e1 .. | exact e2 .. | exact e3 ..))
 | (apply cl_lend
    case hr => (simp only [zag, zak, hpL', lookR, zaa, if_true, if_false]; first | exact map1 _ | exact map2 _ _ | exact map3 _ _ _)
    case ha => (simp only [zag, zak, prepV, prepC, idx, hpL', lookR, zaa, if_true, if_false]; rfl)
    case hs => rfl
    case hn => decide
    case h => (first | exact dl .. | exact n6 .. | exact e1 .. | exact e2 .. | exact e3 ..)
    case hf => (simp only [zab, zad, false_implies, implies_true, and_true, true_and, flat_cons, flat_nil, flat_ints, flat_bools, flat_app, Cs_flat, zaB, and_self, eq_self_iff_true, zas])
    case hl => (simp only [zaA, zaE]; decide))
 | ((first | refine s1_id ?_ | refine swp_id ?_ | refine sops_id ?_ | refine s2_id ?_); simp only [decide_eq_true c1, lendM, dice, decide_eq_true hv0, go_sem, zaa, zah, zai, zaj, zam, zaf, ↓reduceIte, reduceCtorEq, zac, zae, zan, zao, zap, zaI, zaN, zaz, zaO, renO, bk, back, outUpsFrom, Ints_ren])
 | (intros; (try simp only [zaw, zay, zau, zat, zal, zaq, decide_eq_true_eq, decide_eq_false_iff_not] at *); omega))
    refine w_loop (ι := Nat × List (Int × Int)) (fun s => ⟨[(3, dp), (4, .one (.optr 1 0)), (5, i1 (1 + v1)), (6, gr P' none), (9, .one (.mp 2 false)), (10, .one (.mp 3 false)), (11, i1 m), (72, i1 v6), (111, gi U none), (112, i1 U.length), (113, i1 s.1)], [(0, some (dice D jc)), (1, some ⟨[.gsl (Cs l) 0 l.length none, int n], 2⟩), (2, some ⟨Mps S, 0⟩), (3, some ⟨Mps s.2, 0⟩)], 4⟩) (fun s => s.1 ≤ U.length ∧ ∀ g, getM s.2 g = getM N g + if g ∈ U.take s.1 then 1 else 0) (fun s => U.length - s.1) (0, N) ?_ ⟨zaT _, fun g => by simp⟩ ?_
    · (refine imp_ren _ _ _ [(0, 0, dice D jc), (1, 1, ⟨[.gsl (Cs l) 0 l.length none, int n], 2⟩), (2, 2, ⟨Mps S, 0⟩), (3, 3, ⟨Mps N, 0⟩)] (by simp) (by simp) (by simp) (zax rfl) ?_ rfl (by simp only [zab, zad, false_implies, implies_true, and_true, zaQ, lookR, zaa, if_true, if_false, ↓reduceIte, dice, Mps_flat] <;> (repeat' apply zav) <;> (first | rfl | trivial)) (by simp only [zab, zad, false_implies, implies_true, and_true, true_and, flat_cons, flat_nil, flat_ints, flat_bools, flat_app, zaB, and_self, eq_self_iff_true, zas, dice, Mps_flat]); simp only [zag, zak, zab, zad, false_implies, implies_true, and_true, lk, slot, zaI, zaz, toN, zaa, if_true, if_false, ↓reduceIte, reduceCtorEq])
      all_goals ((repeat' apply zav) <;> (first | rfl | trivial))
    clear dl n6 e1 e2 e3
    rintro ⟨u, N'⟩ ⟨hu, hN⟩
    simp only at hu hN ⊢
    rcases zaV u U.length with hul | hug
    case inl =>
      have c2 : (u : Int) < (U.length : Int) := by omega
      have hst := cnt_step hul hnd hN
      have hbd := hI.p (U.getD u 0)
      have hbd2 := hN (U.getD u 0)
      have hbd3 : 0 ≤ getM N' (U.getD u 0) ∧ getM N' (U.getD u 0) ≤ 1000 := by rw [hbd2]; split <;> omega
      simp only [go_sem, zaa, zah, zai, zaj, zam, zaf, ↓reduceIte, reduceCtorEq, zac, zae, zan, zao, zap, decide_eq_true c2, lendM]
      repeat' (first
 | with_reducible refine zav ?_ ?_
 | (intros; omega)
 | (intros; (try simp only [zaw, zay, zau, zat, zal, zaq, decide_eq_true_eq, decide_eq_false_iff_not] at *); omega))
      refine le_mk (u + 1, setM N' (U.getD u 0) (getM N' (U.getD u 0) + 1)) ?_ ⟨hul, hst⟩ (by show U.length - (u + 1) < U.length - u; omega)
      (refine imp_ren _ _ _ [(0, 0, dice D jc), (1, 1, ⟨[.gsl (Cs l) 0 l.length none, int n], 2⟩), (2, 2, ⟨Mps S, 0⟩), (3, 3, ⟨Mps (setM N' (U.getD u 0) (getM N' (U.getD u 0) + 1)), 0⟩)] (by simp) (by simp) (by simp) (zax rfl) ?_ rfl (by simp only [zab, zad, false_implies, implies_true, and_true, zaQ, lookR, zaa, if_true, if_false, ↓reduceIte, dice, Mps_flat] <;> (repeat' apply zav) <;> (first | rfl | trivial)) (by simp only [zab, zad, false_implies, implies_true, and_true, true_and, flat_cons, flat_nil, flat_ints, flat_bools, flat_app, zaB, and_self, eq_self_iff_true, zas, dice, Mps_flat]); simp only [zag, zak, zab, zad, false_implies, implies_true, and_true, lk, slot, zaI, zaz, toN, zaa, if_true, if_false, ↓reduceIte, reduceCtorEq])
      all_goals ((repeat' apply zav) <;> (first | rfl | trivial | (simp only [zar]; done) | (simp only [zar]; rfl) | (simp only [zar]; trivial)))
    case inr =>
    have c2 : ¬ (u : Int) < (U.length : Int) := by omega
    rw [zaP hug] at hN
    obtain ⟨S', hS'⟩ : ∃ S', S' = S := ⟨_, rfl⟩
    rw [← hS'] at hrf ⊢
    replace hI := hrf N' fun g => by rw [hN g]; simp only [hsm]
    clear hrf hN hS'
    have hPl := hI.pv.len
    have hall := hI.pv.all
    have x1 := rthck_spec l n P' none (by omega) (by omega) hti.nr (fun x hx => smp_of (hall x hx))
    rw [hI.pv.ok] at x1
    have hpl := pl_len P'
    simp only [go_sem, zaa, zah, zai, zaj, zam, zaf, ↓reduceIte, reduceCtorEq, zac, zae, zan, zao, zap, decide_eq_false c2, lendM, decide_eq_true hv0]
    repeat' (first
 | (apply cl_plain
    case hs => rfl
    case ha => (simp only [zag, zak, prepV, prepC, idx, hpL', lookR, zaa, if_true, if_false]; rfl)
    case h => (first | exact x1 ..))
 | ((first | refine s1_id ?_ | refine swp_id ?_ | refine sops_id ?_ | refine s2_id ?_); simp only [decide_eq_false c2, lendM, decide_eq_true hv0, go_sem, zaa, zah, zai, zaj, zam, zaf, ↓reduceIte, reduceCtorEq, zac, zae, zan, zao, zap, zaI, zaN, zaz, zaO, renO, bk, back, outUpsFrom, Ints_ren])
 | (intros; (try simp only [zaw, zay, zau, zat, zal, zaq, decide_eq_true_eq, decide_eq_false_iff_not] at *); omega))
    refine w_loop (ι := Nat) (fun k => ⟨[(3, dp), (4, .one (.optr 1 0)), (5, i1 (1 + v1)), (6, gr P' none), (9, .one (.mp 2 false)), (10, .one (.mp 3 false)), (11, i1 m), (135, i1 P'.length), (136, i1 k)], [(0, some (dice D jc)), (1, some ⟨[.gsl (Cs l) 0 l.length none, int n], 2⟩), (2, some ⟨Mps S', 0⟩), (3, some ⟨Mps N', 0⟩)], 4⟩) (fun k => k ≤ P'.length) (fun k => P'.length - k) 0 ?_ (zaT _) ?_
    · (refine imp_ren _ _ _ [(0, 0, dice D jc), (1, 1, ⟨[.gsl (Cs l) 0 l.length none, int n], 2⟩), (2, 2, ⟨Mps S', 0⟩), (3, 3, ⟨Mps N', 0⟩)] (by simp) (by simp) (by simp) (zax rfl) ?_ rfl (by simp only [zab, zad, false_implies, implies_true, and_true, zaQ, lookR, zaa, if_true, if_false, ↓reduceIte, dice, Mps_flat] <;> (repeat' apply zav) <;> (first | rfl | trivial)) (by simp only [zab, zad, false_implies, implies_true, and_true, true_and, flat_cons, flat_nil, flat_ints, flat_bools, flat_app, zaB, and_self, eq_self_iff_true, zas, dice, Mps_flat]); simp only [zag, zak, zab, zad, false_implies, implies_true, and_true, lk, slot, zaI, zaz, toN, zaa, if_true, if_false, ↓reduceIte, reduceCtorEq])
      all_goals ((repeat' apply zav) <;> (first | rfl | trivial))
    intro k hk
    simp only at hk ⊢
    rcases zaV k P'.length with hkl | hkg
    case inr =>
      have c5 : ¬ (k : Int) < (P'.length : Int) := by omega
      simp only [go_sem, zaa, zah, zai, zaj, zam, zaf, ↓reduceIte, reduceCtorEq, zac, zae, zan, zao, zap, decide_eq_false c5, lendM]
      repeat' (first
 | with_reducible refine zav ?_ ?_
 | (intros; omega)
 | (intros; (try simp only [zaw, zay, zau, zat, zal, zaq, decide_eq_true_eq, decide_eq_false_iff_not] at *); omega))
      refine le_mk (m + 1, P', S', N', jc) ?_ ⟨by show m + 1 ≤ 40; omega, hI⟩ (by show 40 - (m + 1) < 40 - m; omega)
      (refine imp_ren _ _ _ [(0, 0, dice D jc), (1, 1, ⟨[.gsl (Cs l) 0 l.length none, int n], 2⟩), (2, 2, ⟨Mps S', 0⟩), (3, 3, ⟨Mps N', 0⟩)] (by simp) (by simp) (by simp) (zax rfl) ?_ rfl (by simp only [zab, zad, false_implies, implies_true, and_true, zaQ, lookR, zaa, if_true, if_false, ↓reduceIte, dice, Mps_flat] <;> (repeat' apply zav) <;> (first | rfl | trivial)) (by simp only [zab, zad, false_implies, implies_true, and_true, true_and, flat_cons, flat_nil, flat_ints, flat_bools, flat_app, zaB, and_self, eq_self_iff_true, zas, dice, Mps_flat]); simp only [zag, zak, zab, zad, false_implies, implies_true, and_true, lk, slot, zaI, zaz, toN, zaa, if_true, if_false, ↓reduceIte, reduceCtorEq])
      all_goals ((repeat' apply zav) <;> (first | rfl | trivial | (simp only [zar]; done) | (simp only [zar]; rfl) | (simp only [zar]; trivial)))
    have c5 : (k : Int) < (P'.length : Int) := by omega
    have hT := pl_td P' k hkl
    have y1 := rlimited_spec (gP P' k) none
    have hok := hI.ok (by omega) hkl
    generalize lim (gP P' k) = li at *
    generalize hxx : gP P' k = x at *
    clear hxx
    obtain ⟨a0, a1, a2, a3, a4, a5, a6, a7, a8, a9⟩ := x
    simp only at hok
    simp only [plc, plt] at hT y1
    cases li with
    | false =>
      simp only [go_sem, zaa, zah, zai, zaj, zam, zaf, ↓reduceIte, reduceCtorEq, zac, zae, zan, zao, zap, decide_eq_true c5, lendM, hT]
      repeat' (first
 | with_reducible refine zav ?_ ?_
 | (apply cg_tp
    case hl => rfl
    case ha => (simp only [zag, zak, prepV, prepC, idx, hpL', lookR, zaa, if_true, if_false]; rfl)
    case hs => rfl
    case h => (first | exact x1 .. | exact y1 ..))
 | (apply cl_plain
    case hs => rfl
    case ha => (simp only [zag, zak, prepV, prepC, idx, hpL', lookR, zaa, if_true, if_false]; rfl)
    case h => (first | exact x1 .. | exact y1 ..))
 | ((first | refine s1_id ?_ | refine swp_id ?_ | refine sops_id ?_ | refine s2_id ?_); simp only [decide_eq_true c5, lendM, hT, zaJ, zaK, zas, zaC, zaD, zaG, zaH, zaF, zaL, zaM, zaA, zaE, go_sem, zaa, zah, zai, zaj, zam, zaf, ↓reduceIte, reduceCtorEq, zac, zae, zan, zao, zap, zaI, zaN, zaz, zaO, renO, bk, back, outUpsFrom, Ints_ren])
 | (intros; omega)
 | (intros; (try simp only [zaw, zay, zau, zat, zal, zaq, decide_eq_true_eq, decide_eq_false_iff_not] at *); omega))
      refine le_mk (k + 1) ?_ hkl (by show P'.length - (k + 1) < P'.length - k; omega)
      (refine imp_ren _ _ _ [(0, 0, dice D jc), (1, 1, ⟨[.gsl (Cs l) 0 l.length none, int n], 2⟩), (2, 2, ⟨Mps S', 0⟩), (3, 3, ⟨Mps N', 0⟩)] (by simp) (by simp) (by simp) (zax rfl) ?_ rfl (by simp only [zab, zad, false_implies, implies_true, and_true, zaQ, lookR, zaa, if_true, if_false, ↓reduceIte, dice, Mps_flat] <;> (repeat' apply zav) <;> (first | rfl | trivial)) (by simp only [zab, zad, false_implies, implies_true, and_true, true_and, flat_cons, flat_nil, flat_ints, flat_bools, flat_app, zaB, and_self, eq_self_iff_true, zas, dice, Mps_flat]); simp only [zag, zak, zab, zad, false_implies, implies_true, and_true, lk, slot, zaI, zaz, toN, zaa, if_true, if_false, ↓reduceIte, reduceCtorEq])
      all_goals ((repeat' apply zav) <;> (first | rfl | trivial | (simp only [zar]; done) | (simp only [zar]; rfl) | (simp only [zar]; trivial)))
    | true =>
      obtain ⟨o1, o2, o3, o4⟩ := hok rfl
      simp only [go_sem, zaa, zah, zai, zaj, zam, zaf, ↓reduceIte, reduceCtorEq, zac, zae, zan, zao, zap, decide_eq_true c5, lendM, hT]
      repeat' (first
 | with_reducible refine zav ?_ ?_
 | (apply cg_tp
    case hl => rfl
    case ha => (simp only [zag, zak, prepV, prepC, idx, hpL', lookR, zaa, if_true, if_false]; rfl)
    case hs => rfl
    case h => (first | exact x1 .. | exact y1 ..))
 | (apply cl_plain
    case hs => rfl
    case ha => (simp only [zag, zak, prepV, prepC, idx, hpL', lookR, zaa, if_true, if_false]; rfl)
    case h => (first | exact x1 .. | exact y1 ..))
 | ((first | refine s1_id ?_ | refine swp_id ?_ | refine sops_id ?_ | refine s2_id ?_); simp only [decide_eq_true c5, lendM, hT, decide_eq_false o1, zaJ, zaK, zas, zaC, zaD, zaG, zaH, zaF, zaL, zaM, zaA, zaE, go_sem, zaa, zah, zai, zaj, zam, zaf, ↓reduceIte, reduceCtorEq, zac, zae, zan, zao, zap, zaI, zaN, zaz, zaO, renO, bk, back, outUpsFrom, Ints_ren])
 | (intros; omega)
 | (intros; (try simp only [zaw, zay, zau, zat, zal, zaq, decide_eq_true_eq, decide_eq_false_iff_not] at *); omega))
      refine le_mk (k + 1) ?_ hkl (by show P'.length - (k + 1) < P'.length - k; omega)
      (refine imp_ren _ _ _ [(0, 0, dice D jc), (1, 1, ⟨[.gsl (Cs l) 0 l.length none, int n], 2⟩), (2, 2, ⟨Mps S', 0⟩), (3, 3, ⟨Mps N', 0⟩)] (by simp) (by simp) (by simp) (zax rfl) ?_ rfl (by simp only [zab, zad, false_implies, implies_true, and_true, zaQ, lookR, zaa, if_true, if_false, ↓reduceIte, dice, Mps_flat] <;> (repeat' apply zav) <;> (first | rfl | trivial)) (by simp only [zab, zad, false_implies, implies_true, and_true, true_and, flat_cons, flat_nil, flat_ints, flat_bools, flat_app, zaB, and_self, eq_self_iff_true, zas, dice, Mps_flat]); simp only [zag, zak, zab, zad, false_implies, implies_true, and_true, lk, slot, zaI, zaz, toN, zaa, if_true, if_false, ↓reduceIte, reduceCtorEq])
      all_goals ((repeat' apply zav) <;> (first | rfl | trivial | (simp only [zar]; done) | (simp only [zar]; rfl) | (simp only [zar]; trivial)))
  by_cases hv1 : v6 = 1
  · have n7 := next_spec D j6 (1 + v1) hl hr (by omega)
    generalize nxV D j6 (1 + v1) = cp at *
    generalize nxA D j6 (1 + v1) = jc at *
    have e2 := thidle_spec l n Q none cp (by omega) (by omega) hti.nr hV.ctr
    replace hI := hI.idle cp
    generalize thId l n Q cp = P' at *
    obtain ⟨S', hS'⟩ : ∃ S', S' = S := ⟨_, rfl⟩
    obtain ⟨N', hN'⟩ : ∃ N', N' = N := ⟨_, rfl⟩
    rw [← hS', ← hN'] at hI ⊢
    clear hS' hN'
    have hPl := hI.pv.len
    have hall := hI.pv.all
    have x1 := rthck_spec l n P' none (by omega) (by omega) hti.nr (fun x hx => smp_of (hall x hx))
    rw [hI.pv.ok] at x1
    have hpl := pl_len P'
    simp only [go_sem, zaa, zah, zai, zaj, zam, zaf, ↓reduceIte, reduceCtorEq, zac, zae, zan, zao, zap, decide_eq_true c1, lendM, dice, decide_eq_false hv0, decide_eq_true hv1]
    repeat' (first
 | with_reducible refine zav ?_ ?_
 | (unfold OKC; kernel_rfl)
 | (unfold EDG; kernel_rfl)
 | (apply cg_ts
    case hl => rfl
    case ha => (simp only [zag, zak, prepV, prepC, idx, hpL', lookR, zaa, if_true, if_false]; rfl)
    case hs => (simp only [snaps_nil, zaX, zaY, SV.refs, zaB, zaD, zaC, zas]; rfl)
    case h => (first | exact x1 .. | exact dl .. | exact n6 .. | exact n7 .. | exact e2 ..)
    case hf => ((simp only [zab, zad, false_implies, implies_true, and_true, hpL', lookR, zaa, if_true, if_false]) <;> (repeat' apply zav) <;> (first | exact ⟨_, rfl, Ints_isG _⟩ | exact ⟨_, rfl, Cs_isG _⟩ | exact ⟨_, rfl, by simp [zbc]⟩))
    case hg => simp [SV.noG, SV.noGL, Cell.noG])
 | (apply cl_plain
    case hs => rfl
    case ha => (simp only [zag, zak, prepV, prepC, idx, hpL', lookR, zaa, if_true, if_false]; rfl)
    case h => (first | exact x1 .. | exact dl .. | exact n6 .. | exact n7 .. | exact e2 ..))
 | (apply cl_lend
    case hr => (simp only [zag, zak, hpL', lookR, zaa, if_true, if_false]; first | exact map1 _ | exact map2 _ _ | exact map3 _ _ _)
    case ha => (simp only [zag, zak, prepV, prepC, idx, hpL', lookR, zaa, if_true, if_false]; rfl)
    case hs => rfl
    case hn => decide
    case h => (first | exact x1 .. | exact dl .. | exact n6 .. | exact n7 .. | exact e2 ..)
    case hf => (simp only [zab, zad, false_implies, implies_true, and_true, true_and, flat_cons, flat_nil, flat_ints, flat_bools, flat_app, Cs_flat, zaB, and_self, eq_self_iff_true, zas])
    case hl => (simp only [zaA, zaE]; decide))
 | ((first | refine s1_id ?_ | refine swp_id ?_ | refine sops_id ?_ | refine s2_id ?_); simp only [decide_eq_true c1, lendM, dice, decide_eq_false hv0, decide_eq_true hv1, go_sem, zaa, zah, zai, zaj, zam, zaf, ↓reduceIte, reduceCtorEq, zac, zae, zan, zao, zap, zaI, zaN, zaz, zaO, renO, bk, back, outUpsFrom, Ints_ren])
 | (intros; (try simp only [zaw, zay, zau, zat, zal, zaq, decide_eq_true_eq, decide_eq_false_iff_not] at *); omega))
    refine w_loop (ι := Nat) (fun k => ⟨[(3, dp), (4, .one (.optr 1 0)), (5, i1 (1 + v1)), (6, gr P' none), (9, .one (.mp 2 false)), (10, .one (.mp 3 false)), (11, i1 m), (135, i1 P'.length), (136, i1 k)], [(0, some (dice D jc)), (1, some ⟨[.gsl (Cs l) 0 l.length none, int n], 2⟩), (2, some ⟨Mps S', 0⟩), (3, some ⟨Mps N', 0⟩)], 4⟩) (fun k => k ≤ P'.length) (fun k => P'.length - k) 0 ?_ (zaT _) ?_
    · (refine imp_ren _ _ _ [(0, 0, dice D jc), (1, 1, ⟨[.gsl (Cs l) 0 l.length none, int n], 2⟩), (2, 2, ⟨Mps S', 0⟩), (3, 3, ⟨Mps N', 0⟩)] (by simp) (by simp) (by simp) (zax rfl) ?_ rfl (by simp only [zab, zad, false_implies, implies_true, and_true, zaQ, lookR, zaa, if_true, if_false, ↓reduceIte, dice, Mps_flat] <;> (repeat' apply zav) <;> (first | rfl | trivial)) (by simp only [zab, zad, false_implies, implies_true, and_true, true_and, flat_cons, flat_nil, flat_ints, flat_bools, flat_app, zaB, and_self, eq_self_iff_true, zas, dice, Mps_flat]); simp only [zag, zak, zab, zad, false_implies, implies_true, and_true, lk, slot, zaI, zaz, toN, zaa, if_true, if_false, ↓reduceIte, reduceCtorEq])
      all_goals ((repeat' apply zav) <;> (first | rfl | trivial))
    intro k hk
    simp only at hk ⊢
    rcases zaV k P'.length with hkl | hkg
    case inr =>
      have c5 : ¬ (k : Int) < (P'.length : Int) := by omega
      simp only [go_sem, zaa, zah, zai, zaj, zam, zaf, ↓reduceIte, reduceCtorEq, zac, zae, zan, zao, zap, decide_eq_false c5, lendM]
      repeat' (first
 | with_reducible refine zav ?_ ?_
 | (intros; omega)
 | (intros; (try simp only [zaw, zay, zau, zat, zal, zaq, decide_eq_true_eq, decide_eq_false_iff_not] at *); omega))
      refine le_mk (m + 1, P', S', N', jc) ?_ ⟨by show m + 1 ≤ 40; omega, hI⟩ (by show 40 - (m + 1) < 40 - m; omega)
      (refine imp_ren _ _ _ [(0, 0, dice D jc), (1, 1, ⟨[.gsl (Cs l) 0 l.length none, int n], 2⟩), (2, 2, ⟨Mps S', 0⟩), (3, 3, ⟨Mps N', 0⟩)] (by simp) (by simp) (by simp) (zax rfl) ?_ rfl (by simp only [zab, zad, false_implies, implies_true, and_true, zaQ, lookR, zaa, if_true, if_false, ↓reduceIte, dice, Mps_flat] <;> (repeat' apply zav) <;> (first | rfl | trivial)) (by simp only [zab, zad, false_implies, implies_true, and_true, true_and, flat_cons, flat_nil, flat_ints, flat_bools, flat_app, zaB, and_self, eq_self_iff_true, zas, dice, Mps_flat]); simp only [zag, zak, zab, zad, false_implies, implies_true, and_true, lk, slot, zaI, zaz, toN, zaa, if_true, if_false, ↓reduceIte, reduceCtorEq])
      all_goals ((repeat' apply zav) <;> (first | rfl | trivial | (simp only [zar]; done) | (simp only [zar]; rfl) | (simp only [zar]; trivial)))
    have c5 : (k : Int) < (P'.length : Int) := by omega
    have hT := pl_td P' k hkl
    have y1 := rlimited_spec (gP P' k) none
    have hok := hI.ok (by omega) hkl
    generalize lim (gP P' k) = li at *
    generalize hxx : gP P' k = x at *
    clear hxx
    obtain ⟨a0, a1, a2, a3, a4, a5, a6, a7, a8, a9⟩ := x
    simp only at hok
    simp only [plc, plt] at hT y1
    cases li with
    | false =>
      simp only [go_sem, zaa, zah, zai, zaj, zam, zaf, ↓reduceIte, reduceCtorEq, zac, zae, zan, zao, zap, decide_eq_true c5, lendM, hT]
      repeat' (first
 | with_reducible refine zav ?_ ?_
 | (apply cg_tp
    case hl => rfl
    case ha => (simp only [zag, zak, prepV, prepC, idx, hpL', lookR, zaa, if_true, if_false]; rfl)
    case hs => rfl
    case h => (first | exact x1 .. | exact y1 ..))
 | (apply cl_plain
    case hs => rfl
    case ha => (simp only [zag, zak, prepV, prepC, idx, hpL', lookR, zaa, if_true, if_false]; rfl)
    case h => (first | exact x1 .. | exact y1 ..))
 | ((first | refine s1_id ?_ | refine swp_id ?_ | refine sops_id ?_ | refine s2_id ?_); simp only [decide_eq_true c5, lendM, hT, zaJ, zaK, zas, zaC, zaD, zaG, zaH, zaF, zaL, zaM, zaA, zaE, go_sem, zaa, zah, zai, zaj, zam, zaf, ↓reduceIte, reduceCtorEq, zac, zae, zan, zao, zap, zaI, zaN, zaz, zaO, renO, bk, back, outUpsFrom, Ints_ren])
 | (intros; omega)
 | (intros; (try simp only [zaw, zay, zau, zat, zal, zaq, decide_eq_true_eq, decide_eq_false_iff_not] at *); omega))
      refine le_mk (k + 1) ?_ hkl (by show P'.length - (k + 1) < P'.length - k; omega)
      (refine imp_ren _ _ _ [(0, 0, dice D jc), (1, 1, ⟨[.gsl (Cs l) 0 l.length none, int n], 2⟩), (2, 2, ⟨Mps S', 0⟩), (3, 3, ⟨Mps N', 0⟩)] (by simp) (by simp) (by simp) (zax rfl) ?_ rfl (by simp only [zab, zad, false_implies, implies_true, and_true, zaQ, lookR, zaa, if_true, if_false, ↓reduceIte, dice, Mps_flat] <;> (repeat' apply zav) <;> (first | rfl | trivial)) (by simp only [zab, zad, false_implies, implies_true, and_true, true_and, flat_cons, flat_nil, flat_ints, flat_bools, flat_app, zaB, and_self, eq_self_iff_true, zas, dice, Mps_flat]); simp only [zag, zak, zab, zad, false_implies, implies_true, and_true, lk, slot, zaI, zaz, toN, zaa, if_true, if_false, ↓reduceIte, reduceCtorEq])
      all_goals ((repeat' apply zav) <;> (first | rfl | trivial | (simp only [zar]; done) | (simp only [zar]; rfl) | (simp only [zar]; trivial)))
    | true =>
      obtain ⟨o1, o2, o3, o4⟩ := hok rfl
      simp only [go_sem, zaa, zah, zai, zaj, zam, zaf, ↓reduceIte, reduceCtorEq, zac, zae, zan, zao, zap, decide_eq_true c5, lendM, hT]
      repeat' (first
 | with_reducible refine zav ?_ ?_
 | (apply cg_tp
    case hl => rfl
    case ha => (simp only [zag, zak, prepV, prepC, idx, hpL', lookR, zaa, if_true, if_false]; rfl)
    case hs => rfl
    case h => (first | exact x1 .. | exact y1 ..))
 | (apply cl_plain
    case hs => rfl
    case ha => (simp only [zag, zak, prepV, prepC, idx, hpL', lookR, zaa, if_true, if_false]; rfl)
    case h => (first | exact x1 .. | exact y1 ..))
 | ((first | refine s1_id ?_ | refine swp_id ?_ | refine sops_id ?_ | refine s2_id ?_); simp only [decide_eq_true c5, lendM, hT, decide_eq_false o1, zaJ, zaK, zas, zaC, zaD, zaG, zaH, zaF, zaL, zaM, zaA, zaE, go_sem, zaa, zah, zai, zaj, zam, zaf, ↓reduceIte, reduceCtorEq, zac, zae, zan, zao, zap, zaI, zaN, zaz, zaO, renO, bk, back, outUpsFrom, Ints_ren])
 | (intros; omega)
 | (intros; (try simp only [zaw, zay, zau, zat, zal, zaq, decide_eq_true_eq, decide_eq_false_iff_not] at *); omega))
      refine le_mk (k + 1) ?_ hkl (by show P'.length - (k + 1) < P'.length - k; omega)
      (refine imp_ren _ _ _ [(0, 0, dice D jc), (1, 1, ⟨[.gsl (Cs l) 0 l.length none, int n], 2⟩), (2, 2, ⟨Mps S', 0⟩), (3, 3, ⟨Mps N', 0⟩)] (by simp) (by simp) (by simp) (zax rfl) ?_ rfl (by simp only [zab, zad, false_implies, implies_true, and_true, zaQ, lookR, zaa, if_true, if_false, ↓reduceIte, dice, Mps_flat] <;> (repeat' apply zav) <;> (first | rfl | trivial)) (by simp only [zab, zad, false_implies, implies_true, and_true, true_and, flat_cons, flat_nil, flat_ints, flat_bools, flat_app, zaB, and_self, eq_self_iff_true, zas, dice, Mps_flat]); simp only [zag, zak, zab, zad, false_implies, implies_true, and_true, lk, slot, zaI, zaz, toN, zaa, if_true, if_false, ↓reduceIte, reduceCtorEq])
      all_goals ((repeat' apply zav) <;> (first | rfl | trivial | (simp only [zar]; done) | (simp only [zar]; rfl) | (simp only [zar]; trivial)))
  have d1 := dgroup_spec D hl hr j6 l n hle.1 hle.2
  generalize dgV D l j6 = g at *
  generalize dgA D l j6 = j7 at *
  have n7 := next_spec D j7 (1 + v1) hl hr (by omega)
  generalize nxV D j7 (1 + v1) = cp at *
  generalize nxA D j7 (1 + v1) = jc at *
  have e2 := thspend_spec l n Q none g cp (by omega) (by omega) hti.nr hV.ctr
  have hsp := fun S' h1 h2 => hI.sp' (S' := S') (by omega) (g := g) (cpu := cp) h1 h2
  by_cases he : (thSp l n Q g cp).2 = 0
  case neg =>
    generalize thSp l n Q g cp = z at *
    obtain ⟨z1, z2⟩ := z
    simp only at e2 he
    clear hsp
    obtain ⟨P', hP'⟩ : ∃ P', P' = Q := ⟨_, rfl⟩
    obtain ⟨S', hS'⟩ : ∃ S', S' = S := ⟨_, rfl⟩
    obtain ⟨N', hN'⟩ : ∃ N', N' = N := ⟨_, rfl⟩
    rw [← hS', ← hN', ← hP'] at hI
    rw [← hS', ← hN', ← hP']
    rw [← hP'] at e2
    clear hS' hN' hP'
    replace hI := hI.skip
    have hPl := hI.pv.len
    have hall := hI.pv.all
    have x1 := rthck_spec l n P' none (by omega) (by omega) hti.nr (fun x hx => smp_of (hall x hx))
    rw [hI.pv.ok] at x1
    have hpl := pl_len P'
    simp only [go_sem, zaa, zah, zai, zaj, zam, zaf, ↓reduceIte, reduceCtorEq, zac, zae, zan, zao, zap, decide_eq_true c1, lendM, dice, decide_eq_false hv0, decide_eq_false hv1, decide_eq_false he]
    repeat' (first
 | with_reducible refine zav ?_ ?_
 | (unfold OKC; kernel_rfl)
 | (unfold EDG; kernel_rfl)
 | (apply cg_ts
    case hl => rfl
    case ha => (simp only [zag, zak, prepV, prepC, idx, hpL', lookR, zaa, if_true, if_false]; rfl)
    case hs => (simp only [snaps_nil, zaX, zaY, SV.refs, zaB, zaD, zaC, zas]; rfl)
    case h => (first | exact x1 .. | exact dl .. | exact n6 .. | exact d1 .. | exact n7 .. | exact e2 ..)
    case hf => ((simp only [zab, zad, false_implies, implies_true, and_true, hpL', lookR, zaa, if_true, if_false]) <;> (repeat' apply zav) <;> (first | exact ⟨_, rfl, Ints_isG _⟩ | exact ⟨_, rfl, Cs_isG _⟩ | exact ⟨_, rfl, by simp [zbc]⟩))
    case hg => simp [SV.noG, SV.noGL, Cell.noG])
 | (apply cl_plain
    case hs => rfl
    case ha => (simp only [zag, zak, prepV, prepC, idx, hpL', lookR, zaa, if_true, if_false]; rfl)
    case h => (first | exact x1 .. | exact dl .. | exact n6 .. | exact d1 .. | exact n7 .. | exact e2 ..))
 | (apply cl_lend
    case hr => (simp only [zag, zak, hpL', lookR, zaa, if_true, if_false]; first | exact map1 _ | exact map2 _ _ | exact map3 _ _ _)
    case ha => (simp only [zag, zak, prepV, prepC, idx, hpL', lookR, zaa, if_true, if_false]; rfl)
    case hs => rfl
    case hn => decide
    case h => (first | exact x1 .. | exact dl .. | exact n6 .. | exact d1 .. | exact n7 .. | exact e2 ..)
    case hf => (simp only [zab, zad, false_implies, implies_true, and_true, true_and, flat_cons, flat_nil, flat_ints, flat_bools, flat_app, Cs_flat, zaB, and_self, eq_self_iff_true, zas])
    case hl => (simp only [zaA, zaE]; decide))
 | ((first | refine s1_id ?_ | refine swp_id ?_ | refine sops_id ?_ | refine s2_id ?_); simp only [decide_eq_true c1, lendM, dice, decide_eq_false hv0, decide_eq_false hv1, decide_eq_false he, go_sem, zaa, zah, zai, zaj, zam, zaf, ↓reduceIte, reduceCtorEq, zac, zae, zan, zao, zap, zaI, zaN, zaz, zaO, renO, bk, back, outUpsFrom, Ints_ren])
 | (intros; (try simp only [zaw, zay, zau, zat, zal, zaq, decide_eq_true_eq, decide_eq_false_iff_not] at *); omega))
    refine w_loop (ι := Nat) (fun k => ⟨[(3, dp), (4, .one (.optr 1 0)), (5, i1 (1 + v1)), (6, gr P' none), (9, .one (.mp 2 false)), (10, .one (.mp 3 false)), (11, i1 m), (135, i1 P'.length), (136, i1 k)], [(0, some (dice D jc)), (1, some ⟨[.gsl (Cs l) 0 l.length none, int n], 2⟩), (2, some ⟨Mps S', 0⟩), (3, some ⟨Mps N', 0⟩)], 4⟩) (fun k => k ≤ P'.length) (fun k => P'.length - k) 0 ?_ (zaT _) ?_
    · (refine imp_ren _ _ _ [(0, 0, dice D jc), (1, 1, ⟨[.gsl (Cs l) 0 l.length none, int n], 2⟩), (2, 2, ⟨Mps S', 0⟩), (3, 3, ⟨Mps N', 0⟩)] (by simp) (by simp) (by simp) (zax rfl) ?_ rfl (by simp only [zab, zad, false_implies, implies_true, and_true, zaQ, lookR, zaa, if_true, if_false, ↓reduceIte, dice, Mps_flat] <;> (repeat' apply zav) <;> (first | rfl | trivial)) (by simp only [zab, zad, false_implies, implies_true, and_true, true_and, flat_cons, flat_nil, flat_ints, flat_bools, flat_app, zaB, and_self, eq_self_iff_true, zas, dice, Mps_flat]); simp only [zag, zak, zab, zad, false_implies, implies_true, and_true, lk, slot, zaI, zaz, toN, zaa, if_true, if_false, ↓reduceIte, reduceCtorEq])
      all_goals ((repeat' apply zav) <;> (first | rfl | trivial))
    intro k hk
    simp only at hk ⊢
    rcases zaV k P'.length with hkl | hkg
    case inr =>
      have c5 : ¬ (k : Int) < (P'.length : Int) := by omega
      simp only [go_sem, zaa, zah, zai, zaj, zam, zaf, ↓reduceIte, reduceCtorEq, zac, zae, zan, zao, zap, decide_eq_false c5, lendM]
      repeat' (first
 | with_reducible refine zav ?_ ?_
 | (intros; omega)
 | (intros; (try simp only [zaw, zay, zau, zat, zal, zaq, decide_eq_true_eq, decide_eq_false_iff_not] at *); omega))
      refine le_mk (m + 1, P', S', N', jc) ?_ ⟨by show m + 1 ≤ 40; omega, hI⟩ (by show 40 - (m + 1) < 40 - m; omega)
      (refine imp_ren _ _ _ [(0, 0, dice D jc), (1, 1, ⟨[.gsl (Cs l) 0 l.length none, int n], 2⟩), (2, 2, ⟨Mps S', 0⟩), (3, 3, ⟨Mps N', 0⟩)] (by simp) (by simp) (by simp) (zax rfl) ?_ rfl (by simp only [zab, zad, false_implies, implies_true, and_true, zaQ, lookR, zaa, if_true, if_false, ↓reduceIte, dice, Mps_flat] <;> (repeat' apply zav) <;> (first | rfl | trivial)) (by simp only [zab, zad, false_implies, implies_true, and_true, true_and, flat_cons, flat_nil, flat_ints, flat_bools, flat_app, zaB, and_self, eq_self_iff_true, zas, dice, Mps_flat]); simp only [zag, zak, zab, zad, false_implies, implies_true, and_true, lk, slot, zaI, zaz, toN, zaa, if_true, if_false, ↓reduceIte, reduceCtorEq])
      all_goals ((repeat' apply zav) <;> (first | rfl | trivial | (simp only [zar]; done) | (simp only [zar]; rfl) | (simp only [zar]; trivial)))
    have c5 : (k : Int) < (P'.length : Int) := by omega
    have hT := pl_td P' k hkl
    have y1 := rlimited_spec (gP P' k) none
    have hok := hI.ok (by omega) hkl
    generalize lim (gP P' k) = li at *
    generalize hxx : gP P' k = x at *
    clear hxx
    obtain ⟨a0, a1, a2, a3, a4, a5, a6, a7, a8, a9⟩ := x
    simp only at hok
    simp only [plc, plt] at hT y1
    cases li with
    | false =>
      simp only [go_sem, zaa, zah, zai, zaj, zam, zaf, ↓reduceIte, reduceCtorEq, zac, zae, zan, zao, zap, decide_eq_true c5, lendM, hT]
      repeat' (first
 | with_reducible refine zav ?_ ?_
 | (apply cg_tp
    case hl => rfl
    case ha => (simp only [zag, zak, prepV, prepC, idx, hpL', lookR, zaa, if_true, if_false]; rfl)
    case hs => rfl
    case h => (first | exact x1 .. | exact y1 ..))
 | (apply cl_plain
    case hs => rfl
    case ha => (simp only [zag, zak, prepV, prepC, idx, hpL', lookR, zaa, if_true, if_false]; rfl)
    case h => (first | exact x1 .. | exact y1 ..))
 | ((first | refine s1_id ?_ | refine swp_id ?_ | refine sops_id ?_ | refine s2_id ?_); simp only [decide_eq_true c5, lendM, hT, zaJ, zaK, zas, zaC, zaD, zaG, zaH, zaF, zaL, zaM, zaA, zaE, go_sem, zaa, zah, zai, zaj, zam, zaf, ↓reduceIte, reduceCtorEq, zac, zae, zan, zao, zap, zaI, zaN, zaz, zaO, renO, bk, back, outUpsFrom, Ints_ren])
 | (intros; omega)
 | (intros; (try simp only [zaw, zay, zau, zat, zal, zaq, decide_eq_true_eq, decide_eq_false_iff_not] at *); omega))
      refine le_mk (k + 1) ?_ hkl (by show P'.length - (k + 1) < P'.length - k; omega)
      (refine imp_ren _ _ _ [(0, 0, dice D jc), (1, 1, ⟨[.gsl (Cs l) 0 l.length none, int n], 2⟩), (2, 2, ⟨Mps S', 0⟩), (3, 3, ⟨Mps N', 0⟩)] (by simp) (by simp) (by simp) (zax rfl) ?_ rfl (by simp only [zab, zad, false_implies, implies_true, and_true, zaQ, lookR, zaa, if_true, if_false, ↓reduceIte, dice, Mps_flat] <;> (repeat' apply zav) <;> (first | rfl | trivial)) (by simp only [zab, zad, false_implies, implies_true, and_true, true_and, flat_cons, flat_nil, flat_ints, flat_bools, flat_app, zaB, and_self, eq_self_iff_true, zas, dice, Mps_flat]); simp only [zag, zak, zab, zad, false_implies, implies_true, and_true, lk, slot, zaI, zaz, toN, zaa, if_true, if_false, ↓reduceIte, reduceCtorEq])
      all_goals ((repeat' apply zav) <;> (first | rfl | trivial | (simp only [zar]; done) | (simp only [zar]; rfl) | (simp only [zar]; trivial)))
    | true =>
      obtain ⟨o1, o2, o3, o4⟩ := hok rfl
      simp only [go_sem, zaa, zah, zai, zaj, zam, zaf, ↓reduceIte, reduceCtorEq, zac, zae, zan, zao, zap, decide_eq_true c5, lendM, hT]
      repeat' (first
 | with_reducible refine zav ?_ ?_
 | (apply cg_tp
    case hl => rfl
    case ha => (simp only [zag, zak, prepV, prepC, idx, hpL', lookR, zaa, if_true, if_false]; rfl)
    case hs => rfl
    case h => (first | exact x1 .. | exact y1 ..))
 | (apply cl_plain
    case hs => rfl
    case ha => (simp only [zag, zak, prepV, prepC, idx, hpL', lookR, zaa, if_true, if_false]; rfl)
    case h => (first | exact x1 .. | exact y1 ..))
 | ((first | refine s1_id ?_ | refine swp_id ?_ | refine sops_id ?_ | refine s2_id ?_); simp only [decide_eq_true c5, lendM, hT, decide_eq_false o1, zaJ, zaK, zas, zaC, zaD, zaG, zaH, zaF, zaL, zaM, zaA, zaE, go_sem, zaa, zah, zai, zaj, zam, zaf, ↓reduceIte, reduceCtorEq, zac, zae, zan, zao, zap, zaI, zaN, zaz, zaO, renO, bk, back, outUpsFrom, Ints_ren])
 | (intros; omega)
 | (intros; (try simp only [zaw, zay, zau, zat, zal, zaq, decide_eq_true_eq, decide_eq_false_iff_not] at *); omega))
      refine le_mk (k + 1) ?_ hkl (by show P'.length - (k + 1) < P'.length - k; omega)
      (refine imp_ren _ _ _ [(0, 0, dice D jc), (1, 1, ⟨[.gsl (Cs l) 0 l.length none, int n], 2⟩), (2, 2, ⟨Mps S', 0⟩), (3, 3, ⟨Mps N', 0⟩)] (by simp) (by simp) (by simp) (zax rfl) ?_ rfl (by simp only [zab, zad, false_implies, implies_true, and_true, zaQ, lookR, zaa, if_true, if_false, ↓reduceIte, dice, Mps_flat] <;> (repeat' apply zav) <;> (first | rfl | trivial)) (by simp only [zab, zad, false_implies, implies_true, and_true, true_and, flat_cons, flat_nil, flat_ints, flat_bools, flat_app, zaB, and_self, eq_self_iff_true, zas, dice, Mps_flat]); simp only [zag, zak, zab, zad, false_implies, implies_true, and_true, lk, slot, zaI, zaz, toN, zaa, if_true, if_false, ↓reduceIte, reduceCtorEq])
      all_goals ((repeat' apply zav) <;> (first | rfl | trivial | (simp only [zar]; done) | (simp only [zar]; rfl) | (simp only [zar]; trivial)))
  have hsp := fun S' h => hsp S' he h
  rw [he] at e2
  have u1 := ranc_spec l none n g (by omega) hti.nr
  have hUl := ancM_len l n g
  have hnd := anc_nodup l n g
  generalize (thSp l n Q g cp).1 = P' at *
  generalize ancM l n g = U at *
  simp only [go_sem, zaa, zah, zai, zaj, zam, zaf, ↓reduceIte, reduceCtorEq, zac, zae, zan, zao, zap, decide_eq_true c1, lendM, decide_eq_false hv0, decide_eq_false hv1]
  repeat' (first
 | with_reducible refine zav ?_ ?_
 | (unfold OKC; kernel_rfl)
 | (unfold EDG; kernel_rfl)
 | (apply cg_ts
    case hl => rfl
    case ha => (simp only [zag, zak, prepV, prepC, idx, hpL', lookR, zaa, if_true, if_false]; rfl)
    case hs => (simp only [snaps_nil, zaX, zaY, SV.refs, zaB, zaD, zaC, zas]; rfl)
    case h => (first | exact dl .. | exact n6 .. | exact d1 .. | exact n7 .. | exact e2 .. | exact u1 ..)
    case hf => ((simp only [zab, zad, false_implies, implies_true, and_true, hpL', lookR, zaa, if_true, if_false]) <;> (repeat' apply zav) <;> (first | exact ⟨_, rfl, Ints_isG _⟩ | exact ⟨_, rfl, Cs_isG _⟩ | exact ⟨_, rfl, by simp [zbc]⟩))
    case hg => simp [SV.noG, SV.noGL, Cell.noG])
 | (apply cl_plain
    case hs => rfl
    case ha => (simp only [zag, zak, prepV, prepC, idx, hpL', lookR, zaa, if_true, if_false]; rfl)
    case h => (first | exact dl .. | exact n6 .. | exact d1 .. | exact n7 .. | exact e2 .. | exact u1 ..))
 | (apply cl_lend
    case hr => (simp only [zag, zak, hpL', lookR, zaa, if_true, if_false]; first | exact map1 _ | exact map2 _ _ | exact map3 _ _ _)
    case ha => (simp only [zag, zak, prepV, prepC, idx, hpL', lookR, zaa, if_true, if_false]; rfl)
    case hs => rfl
    case hn => decide
    case h => (first | exact dl .. | exact n6 .. | exact d1 .. | exact n7 .. | exact e2 .. | exact u1 ..)
    case hf => (simp only [zab, zad, false_implies, implies_true, and_true, true_and, flat_cons, flat_nil, flat_ints, flat_bools, flat_app, Cs_flat, zaB, and_self, eq_self_iff_true, zas])
    case hl => (simp only [zaA, zaE]; decide))
 | ((first | refine s1_id ?_ | refine swp_id ?_ | refine sops_id ?_ | refine s2_id ?_); simp only [decide_eq_true c1, lendM, dice, decide_eq_false hv0, decide_eq_false hv1, go_sem, zaa, zah, zai, zaj, zam, zaf, ↓reduceIte, reduceCtorEq, zac, zae, zan, zao, zap, zaI, zaN, zaz, zaO, renO, bk, back, outUpsFrom, Ints_ren])
 | (intros; (try simp only [zaw, zay, zau, zat, zal, zaq, decide_eq_true_eq, decide_eq_false_iff_not] at *); omega))
  refine w_loop (ι := Nat × List (Int × Int)) (fun s => ⟨[(3, dp), (4, .one (.optr 1 0)), (5, i1 (1 + v1)), (6, gr P' none), (9, .one (.mp 2 false)), (10, .one (.mp 3 false)), (11, i1 m), (91, gi U none), (92, i1 U.length), (93, i1 s.1)], [(0, some (dice D jc)), (1, some ⟨[.gsl (Cs l) 0 l.length none, int n], 2⟩), (2, some ⟨Mps s.2, 0⟩), (3, some ⟨Mps N, 0⟩)], 4⟩) (fun s => s.1 ≤ U.length ∧ ∀ g, getM s.2 g = getM S g + if g ∈ U.take s.1 then 1 else 0) (fun s => U.length - s.1) (0, S) ?_ ⟨zaT _, fun g => by simp⟩ ?_
  · (refine imp_ren _ _ _ [(0, 0, dice D jc), (1, 1, ⟨[.gsl (Cs l) 0 l.length none, int n], 2⟩), (2, 2, ⟨Mps S, 0⟩), (3, 3, ⟨Mps N, 0⟩)] (by simp) (by simp) (by simp) (zax rfl) ?_ rfl (by simp only [zab, zad, false_implies, implies_true, and_true, zaQ, lookR, zaa, if_true, if_false, ↓reduceIte, dice, Mps_flat] <;> (repeat' apply zav) <;> (first | rfl | trivial)) (by simp only [zab, zad, false_implies, implies_true, and_true, true_and, flat_cons, flat_nil, flat_ints, flat_bools, flat_app, zaB, and_self, eq_self_iff_true, zas, dice, Mps_flat]); simp only [zag, zak, zab, zad, false_implies, implies_true, and_true, lk, slot, zaI, zaz, toN, zaa, if_true, if_false, ↓reduceIte, reduceCtorEq])
    all_goals ((repeat' apply zav) <;> (first | rfl | trivial))
  clear dl n6 d1 n7 e2 u1
  rintro ⟨u, S'⟩ ⟨hu, hS⟩
  simp only at hu hS ⊢
  rcases zaV u U.length with hul | hug
  case inl =>
    have c2 : (u : Int) < (U.length : Int) := by omega
    have hst := cnt_step hul hnd hS
    have hbd := hI.s (U.getD u 0)
    have hbd2 := hS (U.getD u 0)
    have hbd3 : 0 ≤ getM S' (U.getD u 0) ∧ getM S' (U.getD u 0) ≤ 1000 := by rw [hbd2]; split <;> omega
    simp only [go_sem, zaa, zah, zai, zaj, zam, zaf, ↓reduceIte, reduceCtorEq, zac, zae, zan, zao, zap, decide_eq_true c2, lendM]
    repeat' (first
 | with_reducible refine zav ?_ ?_
 | (intros; omega)
 | (intros; (try simp only [zaw, zay, zau, zat, zal, zaq, decide_eq_true_eq, decide_eq_false_iff_not] at *); omega))
    refine le_mk (u + 1, setM S' (U.getD u 0) (getM S' (U.getD u 0) + 1)) ?_ ⟨hul, hst⟩ (by show U.length - (u + 1) < U.length - u; omega)
    (refine imp_ren _ _ _ [(0, 0, dice D jc), (1, 1, ⟨[.gsl (Cs l) 0 l.length none, int n], 2⟩), (2, 2, ⟨Mps (setM S' (U.getD u 0) (getM S' (U.getD u 0) + 1)), 0⟩), (3, 3, ⟨Mps N, 0⟩)] (by simp) (by simp) (by simp) (zax rfl) ?_ rfl (by simp only [zab, zad, false_implies, implies_true, and_true, zaQ, lookR, zaa, if_true, if_false, ↓reduceIte, dice, Mps_flat] <;> (repeat' apply zav) <;> (first | rfl | trivial)) (by simp only [zab, zad, false_implies, implies_true, and_true, true_and, flat_cons, flat_nil, flat_ints, flat_bools, flat_app, zaB, and_self, eq_self_iff_true, zas, dice, Mps_flat]); simp only [zag, zak, zab, zad, false_implies, implies_true, and_true, lk, slot, zaI, zaz, toN, zaa, if_true, if_false, ↓reduceIte, reduceCtorEq])
    all_goals ((repeat' apply zav) <;> (first | rfl | trivial | (simp only [zar]; done) | (simp only [zar]; rfl) | (simp only [zar]; trivial)))
  case inr =>
  have c2 : ¬ (u : Int) < (U.length : Int) := by omega
  rw [zaP hug] at hS
  obtain ⟨N', hN'⟩ : ∃ N', N' = N := ⟨_, rfl⟩
  rw [← hN'] at hsp ⊢
  replace hI := hsp S' hS
  clear hsp hS hN'
  have hPl := hI.pv.len
  have hall := hI.pv.all
  have x1 := rthck_spec l n P' none (by omega) (by omega) hti.nr (fun x hx => smp_of (hall x hx))
  rw [hI.pv.ok] at x1
  have hpl := pl_len P'
  simp only [go_sem, zaa, zah, zai, zaj, zam, zaf, ↓reduceIte, reduceCtorEq, zac, zae, zan, zao, zap, decide_eq_false c2, lendM]
  repeat' (first
 | (apply cl_plain
    case hs => rfl
    case ha => (simp only [zag, zak, prepV, prepC, idx, hpL', lookR, zaa, if_true, if_false]; rfl)
    case h => (first | exact x1 ..))
 | ((first | refine s1_id ?_ | refine swp_id ?_ | refine sops_id ?_ | refine s2_id ?_); simp only [decide_eq_false c2, lendM, go_sem, zaa, zah, zai, zaj, zam, zaf, ↓reduceIte, reduceCtorEq, zac, zae, zan, zao, zap, zaI, zaN, zaz, zaO, renO, bk, back, outUpsFrom, Ints_ren])
 | (intros; (try simp only [zaw, zay, zau, zat, zal, zaq, decide_eq_true_eq, decide_eq_false_iff_not] at *); omega))
  refine w_loop (ι := Nat) (fun k => ⟨[(3, dp), (4, .one (.optr 1 0)), (5, i1 (1 + v1)), (6, gr P' none), (9, .one (.mp 2 false)), (10, .one (.mp 3 false)), (11, i1 m), (135, i1 P'.length), (136, i1 k)], [(0, some (dice D jc)), (1, some ⟨[.gsl (Cs l) 0 l.length none, int n], 2⟩), (2, some ⟨Mps S', 0⟩), (3, some ⟨Mps N', 0⟩)], 4⟩) (fun k => k ≤ P'.length) (fun k => P'.length - k) 0 ?_ (zaT _) ?_
  · (refine imp_ren _ _ _ [(0, 0, dice D jc), (1, 1, ⟨[.gsl (Cs l) 0 l.length none, int n], 2⟩), (2, 2, ⟨Mps S', 0⟩), (3, 3, ⟨Mps N', 0⟩)] (by simp) (by simp) (by simp) (zax rfl) ?_ rfl (by simp only [zab, zad, false_implies, implies_true, and_true, zaQ, lookR, zaa, if_true, if_false, ↓reduceIte, dice, Mps_flat] <;> (repeat' apply zav) <;> (first | rfl | trivial)) (by simp only [zab, zad, false_implies, implies_true, and_true, true_and, flat_cons, flat_nil, flat_ints, flat_bools, flat_app, zaB, and_self, eq_self_iff_true, zas, dice, Mps_flat]); simp only [zag, zak, zab, zad, false_implies, implies_true, and_true, lk, slot, zaI, zaz, toN, zaa, if_true, if_false, ↓reduceIte, reduceCtorEq])
    all_goals ((repeat' apply zav) <;> (first | rfl | trivial))
  intro k hk
  simp only at hk ⊢
  rcases zaV k P'.length with hkl | hkg
  case inr =>
    have c5 : ¬ (k : Int) < (P'.length : Int) := by omega
    simp only [go_sem, zaa, zah, zai, zaj, zam, zaf, ↓reduceIte, reduceCtorEq, zac, zae, zan, zao, zap, decide_eq_false c5, lendM]
    repeat' (first
 | with_reducible refine zav ?_ ?_
 | (intros; omega)
 | (intros; (try simp only [zaw, zay, zau, zat, zal, zaq, decide_eq_true_eq, decide_eq_false_iff_not] at *); omega))
    refine le_mk (m + 1, P', S', N', jc) ?_ ⟨by show m + 1 ≤ 40; omega, hI⟩ (by show 40 - (m + 1) < 40 - m; omega)
    (refine imp_ren _ _ _ [(0, 0, dice D jc), (1, 1, ⟨[.gsl (Cs l) 0 l.length none, int n], 2⟩), (2, 2, ⟨Mps S', 0⟩), (3, 3, ⟨Mps N', 0⟩)] (by simp) (by simp) (by simp) (zax rfl) ?_ rfl (by simp only [zab, zad, false_implies, implies_true, and_true, zaQ, lookR, zaa, if_true, if_false, ↓reduceIte, dice, Mps_flat] <;> (repeat' apply zav) <;> (first | rfl | trivial)) (by simp only [zab, zad, false_implies, implies_true, and_true, true_and, flat_cons, flat_nil, flat_ints, flat_bools, flat_app, zaB, and_self, eq_self_iff_true, zas, dice, Mps_flat]); simp only [zag, zak, zab, zad, false_implies, implies_true, and_true, lk, slot, zaI, zaz, toN, zaa, if_true, if_false, ↓reduceIte, reduceCtorEq])
    all_goals ((repeat' apply zav) <;> (first | rfl | trivial | (simp only [zar]; done) | (simp only [zar]; rfl) | (simp only [zar]; trivial)))
  have c5 : (k : Int) < (P'.length : Int) := by omega
  have hT := pl_td P' k hkl
  have y1 := rlimited_spec (gP P' k) none
  have hok := hI.ok (by omega) hkl
  generalize lim (gP P' k) = li at *
  generalize hxx : gP P' k = x at *
  clear hxx
  obtain ⟨a0, a1, a2, a3, a4, a5, a6, a7, a8, a9⟩ := x
  simp only at hok
  simp only [plc, plt] at hT y1
  cases li with
  | false =>
    simp only [go_sem, zaa, zah, zai, zaj, zam, zaf, ↓reduceIte, reduceCtorEq, zac, zae, zan, zao, zap, decide_eq_true c5, lendM, hT]
    repeat' (first
 | with_reducible refine zav ?_ ?_
 | (apply cg_tp
    case hl => rfl
    case ha => (simp only [zag, zak, prepV, prepC, idx, hpL', lookR, zaa, if_true, if_false]; rfl)
    case hs => rfl
    case h => (first | exact x1 .. | exact y1 ..))
 | (apply cl_plain
    case hs => rfl
    case ha => (simp only [zag, zak, prepV, prepC, idx, hpL', lookR, zaa, if_true, if_false]; rfl)
    case h => (first | exact x1 .. | exact y1 ..))
 | ((first | refine s1_id ?_ | refine swp_id ?_ | refine sops_id ?_ | refine s2_id ?_); simp only [decide_eq_true c5, lendM, hT, zaJ, zaK, zas, zaC, zaD, zaG, zaH, zaF, zaL, zaM, zaA, zaE, go_sem, zaa, zah, zai, zaj, zam, zaf, ↓reduceIte, reduceCtorEq, zac, zae, zan, zao, zap, zaI, zaN, zaz, zaO, renO, bk, back, outUpsFrom, Ints_ren])
 | (intros; omega)
 | (intros; (try simp only [zaw, zay, zau, zat, zal, zaq, decide_eq_true_eq, decide_eq_false_iff_not] at *); omega))
    refine le_mk (k + 1) ?_ hkl (by show P'.length - (k + 1) < P'.length - k; omega)
    (refine imp_ren _ _ _ [(0, 0, dice D jc), (1, 1, ⟨[.gsl (Cs l) 0 l.length none, int n], 2⟩), (2, 2, ⟨Mps S', 0⟩), (3, 3, ⟨Mps N', 0⟩)] (by simp) (by simp) (by simp) (zax rfl) ?_ rfl (by simp only [zab, zad, false_implies, implies_true, and_true, zaQ, lookR, zaa, if_true, if_false, ↓reduceIte, dice, Mps_flat] <;> (repeat' apply zav) <;> (first | rfl | trivial)) (by simp only [zab, zad, false_implies, implies_true, and_true, true_and, flat_cons, flat_nil, flat_ints, flat_bools, flat_app, zaB, and_self, eq_self_iff_true, zas, dice, Mps_flat]); simp only [zag, zak, zab, zad, false_implies, implies_true, and_true, lk, slot, zaI, zaz, toN, zaa, if_true, if_false, ↓reduceIte, reduceCtorEq])
    all_goals ((repeat' apply zav) <;> (first | rfl | trivial | (simp only [zar]; done) | (simp only [zar]; rfl) | (simp only [zar]; trivial)))
  | true =>
    obtain ⟨o1, o2, o3, o4⟩ := hok rfl
    simp only [go_sem, zaa, zah, zai, zaj, zam, zaf, ↓reduceIte, reduceCtorEq, zac, zae, zan, zao, zap, decide_eq_true c5, lendM, hT]
    repeat' (first
 | with_reducible refine zav ?_ ?_
 | (apply cg_tp
    case hl => rfl
    case ha => (simp only [zag, zak, prepV, prepC, idx, hpL', lookR, zaa, if_true, if_false]; rfl)
    case hs => rfl
    case h => (first | exact x1 .. | exact y1 ..))
 | (apply cl_plain
    case hs => rfl
    case ha => (simp only [zag, zak, prepV, prepC, idx, hpL', lookR, zaa, if_true, if_false]; rfl)
    case h => (first | exact x1 .. | exact y1 ..))
 | ((first | refine s1_id ?_ | refine swp_id ?_ | refine sops_id ?_ | refine s2_id ?_); simp only [decide_eq_true c5, lendM, hT, decide_eq_false o1, zaJ, zaK, zas, zaC, zaD, zaG, zaH, zaF, zaL, zaM, zaA, zaE, go_sem, zaa, zah, zai, zaj, zam, zaf, ↓reduceIte, reduceCtorEq, zac, zae, zan, zao, zap, zaI, zaN, zaz, zaO, renO, bk, back, outUpsFrom, Ints_ren])
 | (intros; omega)
 | (intros; (try simp only [zaw, zay, zau, zat, zal, zaq, decide_eq_true_eq, decide_eq_false_iff_not] at *); omega))
    refine le_mk (k + 1) ?_ hkl (by show P'.length - (k + 1) < P'.length - k; omega)
    (refine imp_ren _ _ _ [(0, 0, dice D jc), (1, 1, ⟨[.gsl (Cs l) 0 l.length none, int n], 2⟩), (2, 2, ⟨Mps S', 0⟩), (3, 3, ⟨Mps N', 0⟩)] (by simp) (by simp) (by simp) (zax rfl) ?_ rfl (by simp only [zab, zad, false_implies, implies_true, and_true, zaQ, lookR, zaa, if_true, if_false, ↓reduceIte, dice, Mps_flat] <;> (repeat' apply zav) <;> (first | rfl | trivial)) (by simp only [zab, zad, false_implies, implies_true, and_true, true_and, flat_cons, flat_nil, flat_ints, flat_bools, flat_app, zaB, and_self, eq_self_iff_true, zas, dice, Mps_flat]); simp only [zag, zak, zab, zad, false_implies, implies_true, and_true, lk, slot, zaI, zaz, toN, zaa, if_true, if_false, ↓reduceIte, reduceCtorEq])
    all_goals ((repeat' apply zav) <;> (first | rfl | trivial | (simp only [zar]; done) | (simp only [zar]; rfl) | (simp only [zar]; trivial)))
theorem limits_main (g0 : List Cell) (s0 : GTy Tryz.prog 12 22 g0) : FnSpec Tryz.prog 5 [svOf Tryz.prog 22 g0] [] (b1 true) [] := by
  obtain ⟨l, rfl, hl, hr⟩ := gty_ints (n := 10) Tryz.underlying22 Tryz.underlying3 s0
  simp only [svOf, Tryz.underlying22, List.headD_cons]
  exact limits_spec l hr
end Go.Proofs.YtcnilpdlcmpbbaaGreat
