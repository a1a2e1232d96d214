/- Contracts of functions, told of values, on the way to SettingsLists (part 4). -/
import Derived.Test.YtcnilpdlcmpbbabSettingsListsM3
-- short names of the library's lemmas
open Nat renaming reduceEqDiff → zaa, reduceLeDiff → zae, reduceAdd → zah, reduceSub → zai, reduceMul → zaj, reduceLT → zal, le_of_ble_eq_true → zaw, zero_le → zaW, le_refl → zaX, lt_succ_self → zaY, lt_or_ge → zbc, le_of_lt → zbj
open List renaming reduceReplicate → zab, forall_mem_cons → zad, not_mem_nil → zaf, map_cons → zag, map_nil → zak, append_nil → zas, getD_cons_zero → zaz, getD_cons_succ → zaA, length_cons → zaC, length_nil → zaF, take_succ_cons → zaK, set_cons_zero → zaL, set_cons_succ → zaM, flatten_cons → zaN, cons_append → zaP, flatten_nil → zaR, nil_append → zaS, take_zero → zaT, take_nil → zaU, take_of_length_le → zba, pairwise_singleton → zbe, filter_cons_of_pos → zbf, filter_cons_of_neg → zbg, drop_of_length_le → zbh, length_take → zbk
open Int renaming cast_ofNat_Int → zac, reduceEq → zam, reduceLT → zan, reduceLE → zao, natCast_add → zaB, toNat_natCast → zaO
open Option renaming getD_some → zaD, getD_none → zaE
open Bool renaming and_eq_false_iff → zap, or_eq_false_iff → zaq, and_eq_true → zat, not_eq_false' → zau, not_eq_true' → zav, or_eq_true → zax, false_and → zaV, true_and → zaZ, false_eq_true → zbb, and_false → zbi
open And renaming intro → zar
open Go.Proofs.Ytcnilpdlcmpbbab.Sh.Cell renaming ren → zay, refs → zaI
open Go.Proofs.Ytcnilpdlcmpbbab.Sh.SV renaming ren → zaG, renL → zaJ
open Go.Proofs.Ytcnilpdlcmpbbab.Sh.Row renaming ren → zaH
open Go.Proofs.Ytcnilpdlcmpbbab.Sh.St renaming hpF → zaQ, tmF → zbd
-- NEWGO
-- PRUNE: cl_lendx cl_use cl_lend
namespace Go.Proofs.Ytcnilpdlcmpbbab
set_option linter.unusedVariables false
set_option linter.unusedSimpArgs false
open Go.Proofs.Ytcnilpdlcmpbbab.Sh
set_option maxRecDepth 20000
abbrev r1 (n : Int) : SV := .one (.sc (.int .i32 n))
def ixQ (q : UInt8 → Bool) : Str → Nat → Int
  | [], _ => -1
  | b :: r, i => if q b = true then (i : Int) else ixQ q r (i + 1)
theorem ixQ_any (q : UInt8 → Bool) : ∀ s i, decide (0 ≤ ixQ q s i) = s.any q
  | [], i => rfl
  | b :: r, i => by
    unfold ixQ
    by_cases h : q b = true
    · rw [if_pos h, List.any_cons, h, decide_eq_true (by omega)]; rfl
    · rw [if_neg h, List.any_cons, Bool.eq_false_iff.2 h, ixQ_any q r (i + 1)]; rfl
theorem drop_at (s : Str) (i : Nat) (b : UInt8) (h : s[i]? = some b) : s.drop i = b :: s.drop (i + 1) := by
  obtain ⟨hl, e⟩ := List.getElem?_eq_some_iff.1 h
  rw [List.drop_eq_getElem_cons hl, e]
set_option maxHeartbeats 4000000 in
theorem indexF_spec (g : FuncId) (p : Int → Bool) (q : UInt8 → Bool) (hg : ∀ r : Int, 0 ≤ r ∧ r ≤ 2147483647 → FnSpec Try.prog g [r1 r] [] (b1 (p r)) []) (hlo : ∀ b : UInt8, b.toNat < 128 → p (b.toNat : Int) = q b) (hhi : ∀ r : Int, 128 ≤ r → p r = true) (hq : ∀ b : UInt8, 128 ≤ b.toNat → q b = true)
    (s : Str) (hs : s.length ≤ 9223372036854775807) : FnSpec Try.prog 98 [s1 s, .one (.fn g []), b1 true] [] (i1 (ixQ q s 0)) [] := by
  refine fnspec_of mixed TT_ok TT_cl ⟨fun _ => false, fun _ => [], 0, fun _ => false, fun _ => false⟩ Try.func98 rfl (by kernel_rfl) rfl 21 rfl [.tmp 6] rfl ?_
  simp only [go_sem, zaa, zah, zai, zaj, zal, zae, ↓reduceIte, reduceCtorEq, zab, zac, zam, zan, zao]
  repeat' (first
 | (intros; (try simp only [zat, zax, zav, zau, zap, zaq, decide_eq_true_eq, decide_eq_false_iff_not] at *); omega))
  refine w_loop (ι := Nat) (fun i => ⟨[(1, .one (.fn g [])), (2, b1 true), (10, .one (.mp 0 true))], [(0, some ⟨[st s, int i, bool true], 0⟩)], 1⟩) (fun i => i ≤ s.length ∧ ixQ q s 0 = ixQ q (s.drop i) i) (fun i => s.length - i) 0 ?_ ⟨zaW _, rfl⟩ ?_
  · (refine imp_ren _ _ _ [(0, 2, ⟨[st s, int 0, Sh.bool true], 0⟩)] (by simp) (by simp) (by simp) (zaw rfl) ?_ rfl (by simp only [zad, zaf, false_implies, implies_true, and_true, zaQ, lookR, zaa, if_true, if_false, ↓reduceIte] <;> (repeat' apply zar) <;> (first | rfl | trivial)) (by simp only [zad, zaf, false_implies, implies_true, and_true, true_and, flat_cons, flat_nil, flat_ints, flat_bools, flat_app, zaI, and_self, eq_self_iff_true, zas]); simp only [zag, zak, zad, zaf, false_implies, implies_true, and_true, lk, slot, zaG, zay, toN, zaa, if_true, if_false, ↓reduceIte, reduceCtorEq])
    all_goals ((repeat' apply zar) <;> (first | rfl | trivial))
  rintro i ⟨hi, he⟩
  simp only at hi he ⊢
  rcases zbc i s.length with hlt | hge
  case inr =>
    have hlt' : ¬ (i : Int) < (s.length : Int) := by omega
    rw [zbh hge] at he
    rw [he]
    simp only [go_sem, zaa, zah, zai, zaj, zal, zae, ↓reduceIte, reduceCtorEq, zab, zac, zam, zan, zao, decide_eq_false hlt', ixQ]
    repeat' (first
 | with_reducible refine zar ?_ ?_
 | (intros; omega)
 | exact fs_nil trivial rfl
 | fail)
  have hlt' : (i : Int) < (s.length : Int) := by omega
  obtain ⟨b, hb⟩ : ∃ b, s[i]? = some b := ⟨_, List.getElem?_eq_getElem hlt⟩
  rw [drop_at s i b hb, ixQ] at he
  by_cases h128 : b.toNat < 128
  · have hd := bs_dec s i b hb h128
    have hc := hg b.toNat (by omega)
    rw [hlo b h128] at hc
    cases hqb : q b with
    | true =>
      rw [hqb] at hc he
      simp only [if_true] at he
      rw [he]
      simp only [go_sem, zaa, zah, zai, zaj, zal, zae, ↓reduceIte, reduceCtorEq, zab, zac, zam, zan, zao, decide_eq_true hlt', hd]
      repeat' (first
 | with_reducible refine zar ?_ ?_
 | (apply cl_plain
    case hs => rfl
    case ha => (simp only [zag, zak, prepV, prepC, idx, hpL', lookR, zaa, if_true, if_false]; rfl)
    case h => (first | exact hc ..))
 | ((first | refine s1_id ?_ | refine swp_id ?_ | refine sops_id ?_ | refine s2_id ?_); simp only [decide_eq_true hlt', hd, go_sem, zaa, zah, zai, zaj, zal, zae, ↓reduceIte, reduceCtorEq, zab, zac, zam, zan, zao, zaG, zaJ, zay, zaH, renO, bk, back, outUpsFrom, Ints_ren])
 | (intros; omega)
 | exact fs_nil trivial rfl
 | fail)
    | false =>
      rw [hqb] at hc he
      simp only [zbb, if_false] at he
      simp only [go_sem, zaa, zah, zai, zaj, zal, zae, ↓reduceIte, reduceCtorEq, zab, zac, zam, zan, zao, decide_eq_true hlt', hd]
      repeat' (first
 | with_reducible refine zar ?_ ?_
 | (apply cl_plain
    case hs => rfl
    case ha => (simp only [zag, zak, prepV, prepC, idx, hpL', lookR, zaa, if_true, if_false]; rfl)
    case h => (first | exact hc ..))
 | ((first | refine s1_id ?_ | refine swp_id ?_ | refine sops_id ?_ | refine s2_id ?_); simp only [decide_eq_true hlt', hd, go_sem, zaa, zah, zai, zaj, zal, zae, ↓reduceIte, reduceCtorEq, zab, zac, zam, zan, zao, zaG, zaJ, zay, zaH, renO, bk, back, outUpsFrom, Ints_ren])
 | (intros; omega)
 | (intros; (try simp only [zat, zax, zav, zau, zap, zaq, decide_eq_true_eq, decide_eq_false_iff_not] at *); omega))
      refine le_mk (i + 1) ?_ ⟨by omega, he⟩ (by omega)
      (refine imp_ren _ _ _ [(0, 0, ⟨[st s, int ((i + 1 : Nat) : Int), Sh.bool true], 0⟩)] (by simp) (by simp) (by simp) (zaw rfl) ?_ rfl (by simp only [zad, zaf, false_implies, implies_true, and_true, zaQ, lookR, zaa, if_true, if_false, ↓reduceIte, zaB] <;> (repeat' apply zar) <;> (first | rfl | trivial)) (by simp only [zad, zaf, false_implies, implies_true, and_true, true_and, flat_cons, flat_nil, flat_ints, flat_bools, flat_app, zaI, and_self, eq_self_iff_true, zas, zaB]); simp only [zag, zak, zad, zaf, false_implies, implies_true, and_true, lk, slot, zaG, zay, toN, zaa, if_true, if_false, ↓reduceIte, reduceCtorEq])
      all_goals ((repeat' apply zar) <;> (first | rfl | trivial | (simp only [zaB]; done) | (simp only [zaB]; rfl) | (simp only [zaB]; trivial)))
  · have hd := bs_high s i b hb (by omega)
    have hle := bs_le s i
    have hc := hg (Utf8.decode (bs s) i).1 (by omega)
    rw [hhi _ (by omega)] at hc
    rw [hq b (by omega), if_pos rfl] at he
    rw [he]
    simp only [go_sem, zaa, zah, zai, zaj, zal, zae, ↓reduceIte, reduceCtorEq, zab, zac, zam, zan, zao, decide_eq_true hlt']
    repeat' (first
 | with_reducible refine zar ?_ ?_
 | (apply cl_plain
    case hs => rfl
    case ha => (simp only [zag, zak, prepV, prepC, idx, hpL', lookR, zaa, if_true, if_false]; rfl)
    case h => (first | exact hc ..))
 | ((first | refine s1_id ?_ | refine swp_id ?_ | refine sops_id ?_ | refine s2_id ?_); simp only [decide_eq_true hlt', go_sem, zaa, zah, zai, zaj, zal, zae, ↓reduceIte, reduceCtorEq, zab, zac, zam, zan, zao, zaG, zaJ, zay, zaH, renO, bk, back, outUpsFrom, Ints_ren])
 | (intros; omega)
 | exact fs_nil trivial rfl
 | fail)
theorem indexFn_spec (g : FuncId) (p : Int → Bool) (q : UInt8 → Bool) (hg : ∀ r : Int, 0 ≤ r ∧ r ≤ 2147483647 → FnSpec Try.prog g [r1 r] [] (b1 (p r)) []) (hlo : ∀ b : UInt8, b.toNat < 128 → p (b.toNat : Int) = q b) (hhi : ∀ r : Int, 128 ≤ r → p r = true) (hq : ∀ b : UInt8, 128 ≤ b.toNat → q b = true)
    (s : Str) (hs : s.length ≤ 9223372036854775807) : FnSpec Try.prog 97 [s1 s, .one (.fn g [])] [] (i1 (ixQ q s 0)) [] := by
  have h1 := indexF_spec g p q hg hlo hhi hq s hs
  refine fnspec_of mixed TT_ok TT_cl ⟨fun _ => false, fun _ => [], 0, fun _ => false, fun _ => false⟩ Try.func97 rfl (by kernel_rfl) rfl 8 rfl [.tmp 4] rfl ?_
  simp only [go_sem, zaa, zah, zai, zaj, zal, zae, ↓reduceIte, reduceCtorEq, zab, zac, zam, zan, zao]
  repeat' (first
 | (apply cl_plain
    case hs => rfl
    case ha => (simp only [zag, zak, prepV, prepC, idx, hpL', lookR, zaa, if_true, if_false]; rfl)
    case h => (first | exact h1 ..))
 | ((first | refine s1_id ?_ | refine swp_id ?_ | refine sops_id ?_ | refine s2_id ?_); simp only [go_sem, zaa, zah, zai, zaj, zal, zae, ↓reduceIte, reduceCtorEq, zab, zac, zam, zan, zao, zaG, zaJ, zay, zaH, renO, bk, back, outUpsFrom, Ints_ren])
 | exact fs_nil trivial rfl
 | fail)
theorem contF_spec (g : FuncId) (p : Int → Bool) (q : UInt8 → Bool) (hg : ∀ r : Int, 0 ≤ r ∧ r ≤ 2147483647 → FnSpec Try.prog g [r1 r] [] (b1 (p r)) []) (hlo : ∀ b : UInt8, b.toNat < 128 → p (b.toNat : Int) = q b) (hhi : ∀ r : Int, 128 ≤ r → p r = true) (hq : ∀ b : UInt8, 128 ≤ b.toNat → q b = true)
    (s : Str) (hs : s.length ≤ 9223372036854775807) : FnSpec Try.prog 96 [s1 s, .one (.fn g [])] [] (b1 (s.any q)) [] := by
  have h1 := indexFn_spec g p q hg hlo hhi hq s hs
  rw [← ixQ_any q s 0]
  refine fnspec_of mixed TT_ok TT_cl ⟨fun _ => false, fun _ => [], 0, fun _ => false, fun _ => false⟩ Try.func96 rfl (by kernel_rfl) rfl 9 rfl [.tmp 4] rfl ?_
  simp only [go_sem, zaa, zah, zai, zaj, zal, zae, ↓reduceIte, reduceCtorEq, zab, zac, zam, zan, zao]
  repeat' (first
 | (apply cl_plain
    case hs => rfl
    case ha => (simp only [zag, zak, prepV, prepC, idx, hpL', lookR, zaa, if_true, if_false]; rfl)
    case h => (first | exact h1 ..))
 | ((first | refine s1_id ?_ | refine swp_id ?_ | refine sops_id ?_ | refine s2_id ?_); simp only [go_sem, zaa, zah, zai, zaj, zal, zae, ↓reduceIte, reduceCtorEq, zab, zac, zam, zan, zao, zaG, zaJ, zay, zaH, renO, bk, back, outUpsFrom, Ints_ren])
 | exact fs_nil trivial rfl
 | fail)
def inN (r : Int) : Bool := ((((decide (97 ≤ r) && decide (r ≤ 122)) || (decide (65 ≤ r) && decide (r ≤ 90))) || (decide (48 ≤ r) && decide (r ≤ 57))) || decide (r = 95)) || decide (r = 45)
def okB (b : UInt8) : Bool := inN b.toNat
theorem inN_spec (r : Int) : FnSpec Try.prog 95 [r1 r] [] (b1 (inN r)) [] := by
  unfold inN
  refine fnspec_of mixed TT_ok TT_cl ⟨fun _ => false, fun _ => [], 0, fun _ => false, fun _ => false⟩ Try.func95 rfl (by kernel_rfl) rfl 33 rfl [.tmp 2] rfl ?_
  simp only [go_sem, zaa, zah, zai, zaj, zal, zae, ↓reduceIte, reduceCtorEq, zab, zac, zam, zan, zao]
  repeat' (first
 | exact fs_nil trivial rfl
 | fail)
theorem strange_spec (r : Int) : FnSpec Try.prog 94 [r1 r] [] (b1 (!inN r)) [] := by
  have h1 := inN_spec r
  refine fnspec_of mixed TT_ok TT_cl ⟨fun _ => false, fun _ => [], 0, fun _ => false, fun _ => false⟩ Try.func94 rfl (by kernel_rfl) rfl 6 rfl [.tmp 2] rfl ?_
  simp only [go_sem, zaa, zah, zai, zaj, zal, zae, ↓reduceIte, reduceCtorEq, zab, zac, zam, zan, zao]
  repeat' (first
 | (apply cl_plain
    case hs => rfl
    case ha => (simp only [zag, zak, prepV, prepC, idx, hpL', lookR, zaa, if_true, if_false]; rfl)
    case h => (first | exact h1 ..))
 | ((first | refine s1_id ?_ | refine swp_id ?_ | refine sops_id ?_ | refine s2_id ?_); simp only [go_sem, zaa, zah, zai, zaj, zal, zae, ↓reduceIte, reduceCtorEq, zab, zac, zam, zan, zao, zaG, zaJ, zay, zaH, renO, bk, back, outUpsFrom, Ints_ren])
 | exact fs_nil trivial rfl
 | fail)
def nmOk (s : Str) : Bool := decide (1 ≤ (s.length : Int)) && decide ((s.length : Int) ≤ 32) && !decide (((s.headD 0).toNat : Int) = 45) && s.all okB
theorem inN_hi (r : Int) (h : 128 ≤ r) : (!inN r) = true := by
  unfold inN
  simp
  omega
theorem all_any (s : Str) : (!(s.any fun b => !okB b)) = s.all okB := by
  rw [List.all_eq_not_any_not]
theorem valid_spec (s : Str) (hs : s.length ≤ 9223372036854775807) : FnSpec Try.prog 92 [s1 s] [] (b1 (nmOk s)) [] := by
  have h1 := contF_spec 94 (fun r => !inN r) (fun b => !okB b) (fun r _ => strange_spec r) (fun b _ => rfl) inN_hi (fun b hb => inN_hi _ (by omega)) s hs
  unfold nmOk
  by_cases ha : 1 ≤ (s.length : Int)
  case neg =>
    simp only [decide_eq_false ha, zaV]
    refine fnspec_of mixed TT_ok TT_cl ⟨fun _ => false, fun _ => [], 0, fun _ => false, fun _ => false⟩ Try.func92 rfl (by kernel_rfl) rfl 23 rfl [.tmp 2] rfl ?_
    simp only [go_sem, zaa, zah, zai, zaj, zal, zae, ↓reduceIte, reduceCtorEq, zab, zac, zam, zan, zao, decide_eq_false ha]
    repeat' (first
 | exact fs_nil trivial rfl
 | fail)
  by_cases hb : (s.length : Int) ≤ 32
  case neg =>
    simp only [decide_eq_true ha, decide_eq_false hb, zaV, zbi]
    refine fnspec_of mixed TT_ok TT_cl ⟨fun _ => false, fun _ => [], 0, fun _ => false, fun _ => false⟩ Try.func92 rfl (by kernel_rfl) rfl 23 rfl [.tmp 2] rfl ?_
    simp only [go_sem, zaa, zah, zai, zaj, zal, zae, ↓reduceIte, reduceCtorEq, zab, zac, zam, zan, zao, decide_eq_true ha, decide_eq_false hb]
    repeat' (first
 | exact fs_nil trivial rfl
 | fail)
  have hd : ((s[Int.toNat 0]?).getD 0) = s.headD 0 := by cases s <;> rfl
  by_cases hc : ((s.headD 0).toNat : Int) = 45
  case pos =>
    simp only [decide_eq_true ha, decide_eq_true hb, decide_eq_true hc, Bool.not_true, zaV, zbi]
    refine fnspec_of mixed TT_ok TT_cl ⟨fun _ => false, fun _ => [], 0, fun _ => false, fun _ => false⟩ Try.func92 rfl (by kernel_rfl) rfl 23 rfl [.tmp 2] rfl ?_
    simp only [go_sem, zaa, zah, zai, zaj, zal, zae, ↓reduceIte, reduceCtorEq, zab, zac, zam, zan, zao, decide_eq_true ha, decide_eq_true hb, hd, decide_eq_true hc]
    repeat' (first
 | with_reducible refine zar ?_ ?_
 | (intros; omega)
 | exact fs_nil trivial rfl
 | fail)
  simp only [decide_eq_true ha, decide_eq_true hb, decide_eq_false hc, Bool.not_false, zaZ, ← all_any]
  refine fnspec_of mixed TT_ok TT_cl ⟨fun _ => false, fun _ => [], 0, fun _ => false, fun _ => false⟩ Try.func92 rfl (by kernel_rfl) rfl 23 rfl [.tmp 2] rfl ?_
  simp only [go_sem, zaa, zah, zai, zaj, zal, zae, ↓reduceIte, reduceCtorEq, zab, zac, zam, zan, zao, decide_eq_true ha, decide_eq_true hb, hd, decide_eq_false hc]
  repeat' (first
 | with_reducible refine zar ?_ ?_
 | (apply cg_tp
    case hl => rfl
    case ha => (simp only [zag, zak, prepV, prepC, idx, hpL', lookR, zaa, if_true, if_false]; rfl)
    case hs => rfl
    case h => (first | exact h1 ..))
 | ((first | refine s1_id ?_ | refine swp_id ?_ | refine sops_id ?_ | refine s2_id ?_); simp only [decide_eq_true ha, decide_eq_true hb, hd, decide_eq_false hc, go_sem, zaa, zah, zai, zaj, zal, zae, ↓reduceIte, reduceCtorEq, zab, zac, zam, zan, zao, zaG, zaJ, zay, zaH, renO, bk, back, outUpsFrom, Ints_ren])
 | (intros; omega)
 | exact fs_nil trivial rfl
 | fail)
end Go.Proofs.Ytcnilpdlcmpbbab
-- NEWGO
-- PRUNE: cl_lendx cl_use cl_lend
namespace Go.Proofs.Ytcnilpdlcmpbbab
set_option linter.unusedVariables false
set_option linter.unusedSimpArgs false
open Go.Proofs.Ytcnilpdlcmpbbab.Sh
set_option maxRecDepth 20000
theorem inN_fold (r : Int) : (((((decide (97 ≤ r) && decide (r ≤ 122)) || (decide (65 ≤ r) && decide (r ≤ 90))) || (decide (48 ≤ r) && decide (r ≤ 57))) || decide (r = 95)) || decide (r = 45)) = inN r := rfl
set_option maxHeartbeats 4000000 in
theorem rvalid_spec (s : Str) (hs : s.length ≤ 9223372036854775807) : FnSpec Try.prog 45 [s1 s] [] (b1 (nmOk s)) [] := by
  unfold nmOk
  by_cases ha : 1 ≤ (s.length : Int)
  case neg =>
    have ha' : (s.length : Int) = 0 := by omega
    simp only [decide_eq_false ha, zaV]
    refine fnspec_of mixed TT_ok TT_cl ⟨fun _ => false, fun _ => [], 0, fun _ => false, fun _ => false⟩ Try.func45 rfl (by kernel_rfl) rfl 58 rfl [.tmp 2] rfl ?_
    simp only [go_sem, zaa, zah, zai, zaj, zal, zae, ↓reduceIte, reduceCtorEq, zab, zac, zam, zan, zao, decide_eq_true ha']
    repeat' (first
 | exact fs_nil trivial rfl
 | fail)
  have ha' : ¬ (s.length : Int) = 0 := by omega
  by_cases hb : (s.length : Int) ≤ 32
  case neg =>
    have hb' : 32 < (s.length : Int) := by omega
    simp only [decide_eq_true ha, decide_eq_false hb, zaV, zbi]
    refine fnspec_of mixed TT_ok TT_cl ⟨fun _ => false, fun _ => [], 0, fun _ => false, fun _ => false⟩ Try.func45 rfl (by kernel_rfl) rfl 58 rfl [.tmp 2] rfl ?_
    simp only [go_sem, zaa, zah, zai, zaj, zal, zae, ↓reduceIte, reduceCtorEq, zab, zac, zam, zan, zao, decide_eq_false ha', decide_eq_true hb']
    repeat' (first
 | exact fs_nil trivial rfl
 | fail)
  have hb' : ¬ 32 < (s.length : Int) := by omega
  have hd : ((s[Int.toNat 0]?).getD 0) = s.headD 0 := by cases s <;> rfl
  by_cases hc : ((s.headD 0).toNat : Int) = 45
  case pos =>
    simp only [decide_eq_true ha, decide_eq_true hb, decide_eq_true hc, Bool.not_true, zaV, zbi]
    refine fnspec_of mixed TT_ok TT_cl ⟨fun _ => false, fun _ => [], 0, fun _ => false, fun _ => false⟩ Try.func45 rfl (by kernel_rfl) rfl 58 rfl [.tmp 2] rfl ?_
    simp only [go_sem, zaa, zah, zai, zaj, zal, zae, ↓reduceIte, reduceCtorEq, zab, zac, zam, zan, zao, decide_eq_false ha', decide_eq_false hb', hd, decide_eq_true hc]
    repeat' (first
 | with_reducible refine zar ?_ ?_
 | (intros; omega)
 | exact fs_nil trivial rfl
 | fail)
  simp only [decide_eq_true ha, decide_eq_true hb, decide_eq_false hc, Bool.not_false, zaZ]
  refine fnspec_of mixed TT_ok TT_cl ⟨fun _ => false, fun _ => [], 0, fun _ => false, fun _ => false⟩ Try.func45 rfl (by kernel_rfl) rfl 58 rfl [.tmp 2] rfl ?_
  simp only [go_sem, zaa, zah, zai, zaj, zal, zae, ↓reduceIte, reduceCtorEq, zab, zac, zam, zan, zao, decide_eq_false ha', decide_eq_false hb', hd, decide_eq_false hc]
  repeat' (first
 | with_reducible refine zar ?_ ?_
 | (intros; omega)
 | (intros; (try simp only [zat, zax, zav, zau, zap, zaq, decide_eq_true_eq, decide_eq_false_iff_not] at *); omega))
  refine w_loop (ι := Nat) (fun i => ⟨[(0, s1 s), (3, i1 i)], [], 0⟩) (fun i => i ≤ s.length ∧ s.all okB = (s.drop i).all okB) (fun i => s.length - i) 0 ?_ ⟨zaW _, rfl⟩ ?_
  · (refine imp_sub _ _ _ [] (by simp) (by simp) (by simp) (zaW _) ?_ rfl (by simp); simp only [zad, zaf, false_implies, implies_true, and_true, lk, slot, zaG, zay, zaa, if_true, if_false, ↓reduceIte, reduceCtorEq])
    all_goals ((repeat' apply zar) <;> (first | rfl | trivial))
  rintro i ⟨hi, he⟩
  simp only at hi he ⊢
  rcases zbc i s.length with hlt | hge
  case inr =>
    have hlt' : ¬ (i : Int) < (s.length : Int) := by omega
    rw [zbh hge] at he
    rw [he]
    simp only [go_sem, zaa, zah, zai, zaj, zal, zae, ↓reduceIte, reduceCtorEq, zab, zac, zam, zan, zao, decide_eq_false hlt', List.all_nil]
    repeat' (first
 | exact fs_nil trivial rfl
 | fail)
  have hlt' : (i : Int) < (s.length : Int) := by omega
  obtain ⟨b, hb2⟩ : ∃ b, s[i]? = some b := ⟨_, List.getElem?_eq_getElem hlt⟩
  rw [drop_at s i b hb2, List.all_cons] at he
  cases hob : okB b with
  | true =>
    rw [hob, zaZ] at he
    have hob' : inN (b.toNat : Int) = true := hob
    simp only [go_sem, zaa, zah, zai, zaj, zal, zae, ↓reduceIte, reduceCtorEq, zab, zac, zam, zan, zao, decide_eq_true hlt', hb2, inN_fold, hob']
    repeat' (first
 | with_reducible refine zar ?_ ?_
 | (intros; omega)
 | (intros; (try simp only [zat, zax, zav, zau, zap, zaq, decide_eq_true_eq, decide_eq_false_iff_not] at *); omega))
    refine le_mk (i + 1) ?_ ⟨by omega, he⟩ (by omega)
    (refine imp_sub _ _ _ [] (by simp) (by simp) (by simp) (zaW _) ?_ rfl (by simp); simp only [zad, zaf, false_implies, implies_true, and_true, lk, slot, zaG, zay, zaa, if_true, if_false, ↓reduceIte, reduceCtorEq])
    all_goals ((repeat' apply zar) <;> (first | rfl | trivial | (simp only [zaB]; done) | (simp only [zaB]; rfl) | (simp only [zaB]; trivial)))
  | false =>
    rw [hob, zaV] at he
    rw [he]
    have hob' : inN (b.toNat : Int) = false := hob
    simp only [go_sem, zaa, zah, zai, zaj, zal, zae, ↓reduceIte, reduceCtorEq, zab, zac, zam, zan, zao, decide_eq_true hlt', hb2, inN_fold, hob']
    repeat' (first
 | with_reducible refine zar ?_ ?_
 | (intros; omega)
 | exact fs_nil trivial rfl
 | fail)
end Go.Proofs.Ytcnilpdlcmpbbab
-- NEWGO
-- PRUNE: cl_lendx cl_use cl_lend
namespace Go.Proofs.Ytcnilpdlcmpbbab
set_option linter.unusedVariables false
set_option linter.unusedSimpArgs false
open Go.Proofs.Ytcnilpdlcmpbbab.Sh
set_option maxRecDepth 20000
structure Nd where
  i : Int
  p : Int
  nm : Str
  c : Int
  k : Int
  o : Int
theorem Nd.ext' {x y : Nd} (h1 : x.i = y.i) (h2 : x.p = y.p) (h3 : x.nm = y.nm) (h4 : x.c = y.c) (h5 : x.k = y.k) (h6 : x.o = y.o) : x = y := by cases x; cases y; simp only at *; subst h1 h2 h3 h4 h5 h6; rfl
abbrev ndc (x : Nd) : List Cell := [int x.i, int x.p, st x.nm, int x.c, int x.k, int x.o]
instance : Rec Nd := ⟨ndc, 6, ⟨0, 0, [], 0, 0, 0⟩, fun _ => rfl, fun x c h => by
  simp only [ndc, List.mem_cons, zaf, or_false] at h
  rcases h with rfl | rfl | rfl | rfl | rfl | rfl <;> rfl⟩
abbrev zn : Nd := ⟨0, 0, [], 0, 0, 0⟩
abbrev gN (l : List Nd) (i : Nat) : Nd := l.getD i zn
abbrev trV (l : List Nd) (k : Option Nat) (n : Int) : SV := .agg [.gsl (Cs l) 0 l.length k, int n]
structure NdR (x : Nd) : Prop where
  nm : x.nm.length ≤ 1000000000
  c : -9223372036854775808 ≤ x.c ∧ x.c ≤ 9223372036854775807
def rngOk (x : Nd) : Bool := decide (0 ≤ x.c) && decide (x.c ≤ 31) && (decide (0 ≤ x.o) && decide (x.o ≤ 1048576))
def rootOk (x : Nd) : Bool := decide (x.i = 1) && decide (x.p = 0) && decide (x.nm = []) && decide (x.k = 0)
def same1 (p : Int) (s : Str) (y : Nd) : Bool := decide (y.p = p) && decide (y.nm = s)
def chOk (l : List Nd) (i : Nat) : Bool :=
  decide ((gN l (i - 1)).i < (gN l i).i) && nmOk (gN l i).nm && (l.take i).any (fun y => decide (y.i = (gN l i).p)) && !(l.take i).any (same1 (gN l i).p (gN l i).nm)
def kdOk (x : Nd) : Bool := decide (x.k = 0) || decide (x.k = 1)
def stOk (l : List Nd) (i : Nat) : Bool := kdOk (gN l i) && rngOk (gN l i) && (if i = 0 then rootOk (gN l 0) else chOk l i)
def upR : List Nd → Int → List Int
  | [], _ => []
  | x :: r, id => if x.i = id then id :: upR r x.p else upR r id
def upL (l : List Nd) (id : Int) : List Int := upR l.reverse id
theorem upR_len : ∀ (l : List Nd) (id : Int), (upR l id).length ≤ l.length
  | [], _ => zaX _
  | x :: r, id => by
    unfold upR
    split
    · rw [zaC, zaC]; have := upR_len r x.p; omega
    · rw [zaC]; have := upR_len r id; omega
def allN (n : Nat) (f : Nat → Bool) : Bool := (List.range n).all f
theorem allN_iff (n : Nat) (f : Nat → Bool) : allN n f = true ↔ ∀ i, i < n → f i = true := by
  simp [allN, List.all_eq_true, List.mem_range]
def chkT (l : List Nd) (n : Int) : Bool :=
  decide (1 ≤ l.length) && decide (l.length ≤ 64) && allN l.length (stOk l) && allN l.length (fun i => decide ((upL l (gN l i).i).length ≤ 9)) && (decide ((gN l (l.length - 1)).i < n) && decide (n ≤ 2147483648))
structure VT (l : List Nd) (n : Int) : Prop where
  ne : 1 ≤ l.length
  le : l.length ≤ 64
  st : ∀ i, i < l.length → stOk l i = true
  dp : ∀ i, i < l.length → (upL l (gN l i).i).length ≤ 9
  nx : (gN l (l.length - 1)).i < n
  mx : n ≤ 2147483648
theorem chkT_iff (l : List Nd) (n : Int) : chkT l n = true ↔ VT l n := by
  unfold chkT
  simp only [zat, decide_eq_true_eq, allN_iff]
  constructor
  · rintro ⟨⟨⟨⟨h1, h2⟩, h3⟩, h4⟩, h5, h6⟩; exact ⟨h1, h2, h3, h4, h5, h6⟩
  · rintro ⟨h1, h2, h3, h4, h5, h6⟩; exact ⟨⟨⟨⟨h1, h2⟩, h3⟩, h4⟩, h5, h6⟩
theorem chkT_not {l : List Nd} {n : Int} (h : ¬ VT l n) : chkT l n = false := Bool.eq_false_iff.2 fun e => h ((chkT_iff l n).1 e)
/-! what a well-formed tree is like -/
theorem stOk_root {l : List Nd} (h : stOk l 0 = true) : (gN l 0).i = 1 ∧ (gN l 0).p = 0 ∧ (gN l 0).nm = [] ∧ (gN l 0).k = 0 := by
  unfold stOk rootOk at h
  simp only [if_pos, zat, decide_eq_true_eq] at h
  obtain ⟨_, ⟨⟨h1, h2⟩, h3⟩, h4⟩ := h
  exact ⟨h1, h2, h3, h4⟩
structure ChP (l : List Nd) (i : Nat) : Prop where
  lt : (gN l (i - 1)).i < (gN l i).i
  nm : nmOk (gN l i).nm = true
  par : ∃ j, j < i ∧ (gN l j).i = (gN l i).p
  new : ∀ j, j < i → ¬ ((gN l j).p = (gN l i).p ∧ (gN l j).nm = (gN l i).nm)
theorem take_any_iff (l : List Nd) (i : Nat) (hi : i ≤ l.length) (f : Nd → Bool) : (l.take i).any f = true ↔ ∃ j, j < i ∧ f (gN l j) = true := by
  rw [List.any_eq_true]
  constructor
  · rintro ⟨x, hx, hf⟩
    obtain ⟨k, hk, rfl⟩ := List.mem_take_iff_getElem.1 hx
    exact ⟨k, by omega, by rw [show gN l k = l[k] from getD_at l k zn (by omega)]; exact hf⟩
  · rintro ⟨j, hj, hf⟩
    exact ⟨gN l j, List.mem_take_iff_getElem.2 ⟨j, by omega, (getD_at l j zn (by omega)).symm⟩, hf⟩
theorem chOk_iff (l : List Nd) (i : Nat) (hi : i < l.length) : chOk l i = true ↔ ChP l i := by
  unfold chOk
  simp only [zat, zav, decide_eq_true_eq]
  rw [take_any_iff l i (zbj hi), Bool.eq_false_iff, ne_eq, take_any_iff l i (zbj hi)]
  unfold same1
  simp only [zat, decide_eq_true_eq]
  constructor
  · rintro ⟨⟨⟨h1, h2⟩, h3⟩, h4⟩
    exact ⟨h1, h2, h3, fun j hj h => h4 ⟨j, hj, h⟩⟩
  · rintro ⟨h1, h2, h3, h4⟩
    exact ⟨⟨⟨h1, h2⟩, h3⟩, fun ⟨j, hj, h⟩ => h4 j hj h⟩
theorem stOk_ch {l : List Nd} {i : Nat} (hi : i < l.length) (h0 : i ≠ 0) (h : stOk l i = true) : ChP l i := by
  unfold stOk at h
  rw [if_neg h0, zat] at h
  exact (chOk_iff l i hi).1 h.2
theorem VT.ch {l : List Nd} {n : Int} (h : VT l n) {i : Nat} (hi : i < l.length) (h0 : i ≠ 0) : ChP l i := stOk_ch hi h0 (h.st i hi)
theorem VT.root {l : List Nd} {n : Int} (h : VT l n) : (gN l 0).i = 1 ∧ (gN l 0).p = 0 ∧ (gN l 0).nm = [] ∧ (gN l 0).k = 0 := stOk_root (h.st 0 h.ne)
def AscI (l : List Nd) : Prop := ∀ i j, i < j → j < l.length → (gN l i).i < (gN l j).i
theorem asc_of_step {l : List Nd} (h : ∀ i, i ≠ 0 → i < l.length → (gN l (i - 1)).i < (gN l i).i) : AscI l := by
  intro i j hij hj
  induction j with
  | zero => omega
  | succ j ih =>
    have h1 := h (j + 1) (by omega) hj
    rw [Nat.add_sub_cancel] at h1
    by_cases e : i = j
    · subst e; exact h1
    · have := ih (by omega) (by omega); omega
theorem VT.asc {l : List Nd} {n : Int} (h : VT l n) : AscI l := asc_of_step fun i h0 hi => (h.ch hi h0).lt
theorem VT.pos {l : List Nd} {n : Int} (h : VT l n) {i : Nat} (hi : i < l.length) : 1 ≤ (gN l i).i := by
  by_cases e : i = 0
  · subst e; have := h.root.1; omega
  · have := h.asc 0 i (by omega) hi; have := h.root.1; omega
theorem VT.lt {l : List Nd} {n : Int} (h : VT l n) {i : Nat} (hi : i < l.length) : (gN l i).i < n := by
  have h1 := h.nx
  by_cases e : i = l.length - 1
  · rw [e]; exact h1
  · have := h.asc i (l.length - 1) (by omega) (by omega); omega
theorem AscI.inj {l : List Nd} (h : AscI l) {i j : Nat} (hi : i < l.length) (hj : j < l.length) (e : (gN l i).i = (gN l j).i) : i = j := by
  rcases Nat.lt_trichotomy i j with c | c | c
  · have := h i j c hj; omega
  · exact c
  · have := h j i c hi; omega
theorem AscI.take {l : List Nd} (h : AscI l) (k : Nat) : AscI (l.take k) := by
  intro i j hij hj
  rw [zbk] at hj
  have e : ∀ m, m < k → gN (l.take k) m = gN l m := fun m hm => by
    simp only [gN, List.getD_eq_getElem?_getD, List.getElem?_take_of_lt hm]
  rw [e i (by omega), e j (by omega)]
  exact h i j hij (by omega)
theorem gN_take (l : List Nd) (k m : Nat) (hm : m < k) : gN (l.take k) m = gN l m := by
  simp only [gN, List.getD_eq_getElem?_getD, List.getElem?_take_of_lt hm]
theorem gN_mem (l : List Nd) (x : Nd) (h : x ∈ l) : ∃ i, i < l.length ∧ gN l i = x := by
  obtain ⟨i, hi, e⟩ := List.getElem_of_mem h
  exact ⟨i, hi, by rw [← e]; exact getD_at l i zn hi⟩
/-! the way up -/
theorem upL_snoc (l : List Nd) (x : Nd) (id : Int) : upL (l ++ [x]) id = if x.i = id then id :: upL l x.p else upL l id := by
  rw [upL, List.reverse_append, List.reverse_singleton, zaP, zaS, upR]; rfl
theorem upL_take (l : List Nd) (i : Nat) (hi : i < l.length) (id : Int) : upL (l.take (i + 1)) id = if (gN l i).i = id then id :: upL (l.take i) (gN l i).p else upL (l.take i) id := by
  rw [take_getD l i zn hi, upL_snoc]
theorem upL_skip (l : List Nd) (id : Int) : ∀ (k : Nat), k ≤ l.length → (∀ j, k ≤ j → j < l.length → (gN l j).i ≠ id) → upL l id = upL (l.take k) id := by
  intro k hk hne
  have : ∀ m, m ≤ l.length - k → upL (l.take (k + m)) id = upL (l.take k) id := by
    intro m
    induction m with
    | zero => intro _; rfl
    | succ m ih =>
      intro hm
      rw [← Nat.add_assoc, upL_take l (k + m) (by omega), if_neg (hne (k + m) (by omega) (by omega)), ih (by omega)]
  have h2 := this (l.length - k) (zaX _)
  rw [show k + (l.length - k) = l.length by omega, List.take_length] at h2
  exact h2
theorem upL_node {l : List Nd} (h : AscI l) {i : Nat} (hi : i < l.length) : upL l (gN l i).i = (gN l i).i :: upL (l.take i) (gN l i).p := by
  rw [upL_skip l (gN l i).i (i + 1) hi (fun j hj hj2 => by have := h i j (by omega) hj2; omega), upL_take l i hi, if_pos rfl]
theorem upL_par {l : List Nd} (h : AscI l) {i j : Nat} (hi : i < l.length) (hj : j < i) : upL (l.take i) (gN l j).i = upL l (gN l j).i := by
  rw [upL_node h (by omega : j < l.length)]
  have := upL_node (h.take i) (i := j) (by rw [zbk]; omega)
  rw [gN_take l i j hj, List.take_take, Nat.min_eq_left (zbj hj)] at this
  exact this
theorem VT.up {l : List Nd} {n : Int} (h : VT l n) {i : Nat} (hi : i < l.length) (h0 : i ≠ 0) : upL l (gN l i).i = (gN l i).i :: upL l (gN l i).p := by
  obtain ⟨j, hj, e⟩ := (h.ch hi h0).par
  rw [upL_node h.asc hi, ← e, upL_par h.asc hi hj]
theorem VT.up0 {l : List Nd} {n : Int} (h : VT l n) : upL l 1 = [1] := by
  have := upL_node h.asc (i := 0) h.ne
  rw [h.root.1] at this
  rw [this]; rfl
end Go.Proofs.Ytcnilpdlcmpbbab
-- NEWGO
namespace Go.Proofs.Ytcnilpdlcmpbbab
set_option linter.unusedVariables false
set_option linter.unusedSimpArgs false
open Go.Proofs.Ytcnilpdlcmpbbab.Sh
set_option maxRecDepth 20000
structure VL (l : List Nd) (n : Int) : Prop where
  ne : 1 ≤ l.length
  rt : (gN l 0).i = 1 ∧ (gN l 0).p = 0 ∧ (gN l 0).nm = [] ∧ (gN l 0).k = 0
  le : l.length ≤ 64
  all : ∀ x ∈ l, kdOk x = true ∧ rngOk x = true
  asc : l.Pairwise (fun x y => x.i < y.i)
  ch : ∀ x ∈ l, x.i ≠ 1 → nmOk x.nm = true ∧ ∃ y ∈ l, y.i = x.p ∧ y.i < x.i
  new : l.Pairwise (fun x y => ¬ (x.p = y.p ∧ x.nm = y.nm))
  dp : ∀ x ∈ l, (upL l x.i).length ≤ 9
  nx : ∀ x ∈ l, x.i < n
  mx : n ≤ 2147483648
theorem ascI_iff (l : List Nd) : l.Pairwise (fun x y => x.i < y.i) ↔ AscI l := by
  rw [List.pairwise_iff_getElem]
  constructor
  · intro h i j hij hj
    have := h i j (by omega) hj hij
    rw [show gN l i = l[i] from getD_at l i zn (by omega), show gN l j = l[j] from getD_at l j zn hj]
    exact this
  · intro h i j hi hj hij
    have := h i j hij hj
    rw [show gN l i = l[i] from getD_at l i zn hi, show gN l j = l[j] from getD_at l j zn hj] at this
    exact this
theorem VT.vl {l : List Nd} {n : Int} (h : VT l n) : VL l n where
  ne := h.ne
  rt := h.root
  le := h.le
  all := fun x hx => by
    obtain ⟨i, hi, rfl⟩ := gN_mem l x hx
    have := h.st i hi
    unfold stOk at this
    simp only [zat] at this
    exact this.1
  asc := (ascI_iff l).2 h.asc
  ch := fun x hx h1 => by
    obtain ⟨i, hi, rfl⟩ := gN_mem l x hx
    have h0 : i ≠ 0 := fun e => h1 (by rw [e]; exact h.root.1)
    have hc := h.ch hi h0
    obtain ⟨j, hj, e⟩ := hc.par
    exact ⟨hc.nm, gN l j, getD_mem l j zn (by omega), e, h.asc j i hj hi⟩
  new := by
    rw [List.pairwise_iff_getElem]
    intro i j hi hj hij hh
    have hc := h.ch hj (by omega)
    refine hc.new i hij ?_
    rw [show gN l i = l[i] from getD_at l i zn hi, show gN l j = l[j] from getD_at l j zn hj]
    exact hh
  dp := fun x hx => by
    obtain ⟨i, hi, rfl⟩ := gN_mem l x hx
    exact h.dp i hi
  nx := fun x hx => by
    obtain ⟨i, hi, rfl⟩ := gN_mem l x hx
    exact h.lt hi
  mx := h.mx
theorem VL.vt {l : List Nd} {n : Int} (h : VL l n) : VT l n where
  ne := h.ne
  le := h.le
  st := fun i hi => by
    have hm : gN l i ∈ l := getD_mem l i zn hi
    obtain ⟨h1, h2⟩ := h.all _ hm
    have hA := (ascI_iff l).1 h.asc
    unfold stOk
    rw [h1, h2, zaZ, zaZ]
    by_cases h0 : i = 0
    · rw [if_pos h0]
      unfold rootOk
      rw [decide_eq_true h.rt.1, decide_eq_true h.rt.2.1, decide_eq_true h.rt.2.2.1, decide_eq_true h.rt.2.2.2]
      rfl
    · rw [if_neg h0, chOk_iff l i hi]
      have hne : (gN l i).i ≠ 1 := by have := hA 0 i (by omega) hi; have := h.rt.1; omega
      obtain ⟨h3, y, hy, e, hlt⟩ := h.ch _ hm hne
      refine ⟨hA (i - 1) i (by omega) hi, h3, ?_, fun j hj hh => ?_⟩
      · obtain ⟨j, hj, rfl⟩ := gN_mem l y hy
        refine ⟨j, ?_, e⟩
        rcases Nat.lt_trichotomy j i with c | c | c
        · exact c
        · rw [c] at hlt; omega
        · have := hA i j c hj; omega
      · have hn := (List.pairwise_iff_getElem.1 h.new) j i (by omega) hi hj
        rw [show gN l i = l[i] from getD_at l i zn hi, show gN l j = l[j] from getD_at l j zn (by omega)] at hh
        exact hn hh
  dp := fun i hi => h.dp _ (getD_mem l i zn hi)
  nx := h.nx _ (getD_mem l _ zn (by have := h.ne; omega))
  mx := h.mx
theorem VL.pos {l : List Nd} {n : Int} (h : VL l n) {x : Nd} (hx : x ∈ l) : 1 ≤ x.i := by
  obtain ⟨i, hi, rfl⟩ := gN_mem l x hx
  exact h.vt.pos hi
theorem VL.inj {l : List Nd} {n : Int} (h : VL l n) {x y : Nd} (hx : x ∈ l) (hy : y ∈ l) (e : x.i = y.i) : x = y := by
  obtain ⟨i, hi, rfl⟩ := gN_mem l x hx
  obtain ⟨j, hj, rfl⟩ := gN_mem l y hy
  rw [((ascI_iff l).1 h.asc).inj hi hj e]
theorem VL.add {l : List Nd} {n : Int} (h : VL l n) {p : Int} {s : Str} (hs : nmOk s = true) (hp : ∃ y ∈ l, y.i = p) (hn : ∀ y ∈ l, ¬ (y.p = p ∧ y.nm = s)) (hd : (upL l p).length ≤ 8) (hl : l.length < 64) (hx : n ≤ 2147483647) :
    VL (l ++ [⟨n, p, s, 0, 0, 0⟩]) (n + 1) where
  ne := by rw [List.length_append]; have := h.ne; omega
  rt := by
    have e : gN (l ++ [⟨n, p, s, 0, 0, 0⟩]) 0 = gN l 0 := by
      have := h.ne
      simp only [gN, List.getD_eq_getElem?_getD]
      rw [List.getElem?_append_left (by omega)]
    rw [e]; exact h.rt
  le := by rw [List.length_append, List.length_singleton]; omega
  all := fun x hx => by
    rcases List.mem_append.1 hx with hx | hx
    · exact h.all x hx
    · rw [List.mem_singleton.1 hx]; exact ⟨rfl, rfl⟩
  asc := List.pairwise_append.2 ⟨h.asc, zbe _ _, fun a ha b hb => by rw [List.mem_singleton.1 hb]; exact h.nx a ha⟩
  ch := fun x hx h1 => by
    rcases List.mem_append.1 hx with hx | hx
    · obtain ⟨h2, y, hy, h3⟩ := h.ch x hx h1
      exact ⟨h2, y, List.mem_append_left _ hy, h3⟩
    · rw [List.mem_singleton.1 hx]
      obtain ⟨y, hy, e⟩ := hp
      exact ⟨hs, y, List.mem_append_left _ hy, e, h.nx y hy⟩
  new := List.pairwise_append.2 ⟨h.new, zbe _ _, fun a ha b hb => by rw [List.mem_singleton.1 hb]; exact hn a ha⟩
  dp := fun x hx => by
    rw [upL_snoc]
    rcases List.mem_append.1 hx with hx | hx
    · have := h.nx x hx
      rw [if_neg (by simp only; omega)]
      exact h.dp x hx
    · rw [List.mem_singleton.1 hx, if_pos rfl, zaC]
      simp only; omega
  nx := fun x hx => by
    rcases List.mem_append.1 hx with hx | hx
    · have := h.nx x hx; omega
    · rw [List.mem_singleton.1 hx]; simp only; omega
  mx := by omega
def rmN (l : List Nd) (id : Int) : List Nd := l.filter fun x => !decide (x.i = id)
theorem rmN_mem (l : List Nd) (id : Int) (x : Nd) : x ∈ rmN l id ↔ x ∈ l ∧ x.i ≠ id := by
  unfold rmN
  rw [List.mem_filter]; simp
theorem upR_rm (id : Int) : ∀ (l : List Nd) (q : Int), q ≠ id → (∀ x ∈ l, x.p ≠ id) → upR (l.filter fun x => !decide (x.i = id)) q = upR l q
  | [], q, _, _ => rfl
  | x :: r, q, hq, hp => by
    have hpr : ∀ y ∈ r, y.p ≠ id := fun y hy => hp y (List.mem_cons_of_mem _ hy)
    by_cases c : x.i = id
    · rw [zbg (by simp [c]), upR_rm id r q hq hpr, upR, if_neg (by omega)]
    · rw [zbf (by simp [c]), upR, upR, upR_rm id r q hq hpr, upR_rm id r x.p (hp x List.mem_cons_self) hpr]
theorem upL_rm (l : List Nd) (id q : Int) (hq : q ≠ id) (hp : ∀ x ∈ l, x.p ≠ id) : upL (rmN l id) q = upL l q := by
  unfold upL rmN
  rw [← List.filter_reverse]
  exact upR_rm id l.reverse q hq fun x hx => hp x (List.mem_reverse.1 hx)
theorem VL.rm {l : List Nd} {n : Int} (h : VL l n) {id : Int} (h1 : id ≠ 1) (hc : ∀ x ∈ l, x.p ≠ id) : VL (rmN l id) n := by
  have hsub : (rmN l id).Sublist l := List.filter_sublist
  have h0 : rmN l id ≠ [] ∧ gN (rmN l id) 0 = gN l 0 := by
    have hne := h.ne
    cases l with
    | nil => simp at hne
    | cons r t =>
      have hr : r.i = 1 := h.rt.1
      have : rmN (r :: t) id = r :: rmN t id := by
        unfold rmN
        rw [zbf]
        simp; omega
      rw [this]
      exact ⟨List.cons_ne_nil _ _, rfl⟩
  exact
  { ne := List.length_pos_iff.2 h0.1
    rt := by rw [h0.2]; exact h.rt
    le := Nat.le_trans hsub.length_le h.le
    all := fun x hx => h.all x (hsub.subset hx)
    asc := h.asc.sublist hsub
    ch := fun x hx hx1 => by
      obtain ⟨h2, y, hy, h3, h4⟩ := h.ch x (hsub.subset hx) hx1
      exact ⟨h2, y, (rmN_mem l id y).2 ⟨hy, by rw [h3]; exact hc x (hsub.subset hx)⟩, h3, h4⟩
    new := h.new.sublist hsub
    dp := fun x hx => by
      rw [upL_rm l id x.i ((rmN_mem l id x).1 hx).2 hc]
      exact h.dp x (hsub.subset hx)
    nx := fun x hx => h.nx x (hsub.subset hx)
    mx := h.mx }
theorem VL_new : VL [⟨1, 0, [], 0, 0, 0⟩] 2 where
  ne := zaX _
  rt := ⟨rfl, rfl, rfl, rfl⟩
  le := by decide
  all := fun x hx => by rw [List.mem_singleton.1 hx]; exact ⟨rfl, rfl⟩
  asc := zbe _ _
  ch := fun x hx h => by rw [List.mem_singleton.1 hx] at h; exact absurd rfl h
  new := zbe _ _
  dp := fun x hx => by rw [List.mem_singleton.1 hx]; decide
  nx := fun x hx => by rw [List.mem_singleton.1 hx]; decide
  mx := by decide
end Go.Proofs.Ytcnilpdlcmpbbab
-- NEWGO
-- PRUNE: cl_lendx cl_use cl_lend
namespace Go.Proofs.Ytcnilpdlcmpbbab
set_option linter.unusedVariables false
set_option linter.unusedSimpArgs false
open Go.Proofs.Ytcnilpdlcmpbbab.Sh
set_option maxRecDepth 20000
theorem andn (x : BitVec 64) : (x &&& ~~~ 31#64 = 0#64) ↔ x.toNat < 32 := by
  constructor
  · intro h
    have h1 : x = x &&& 31#64 := by
      apply BitVec.eq_of_getLsbD_eq
      intro i hi
      have := congrArg (fun y => BitVec.getLsbD y i) h
      simp only [BitVec.getLsbD_and, BitVec.getLsbD_not, BitVec.getLsbD_zero] at this ⊢
      revert this
      cases x.getLsbD i <;> cases (31#64).getLsbD i <;> simp [hi]
    have h2 := congrArg BitVec.toNat h1
    rw [BitVec.toNat_and] at h2
    have h3 : x.toNat &&& 31 = x.toNat % 32 := Nat.and_two_pow_sub_one_eq_mod x.toNat 5
    have h4 : (31#64).toNat = 31 := rfl
    rw [h4, h3] at h2
    omega
  · intro h
    have h1 : x &&& 31#64 = x := by
      apply BitVec.eq_of_toNat_eq
      rw [BitVec.toNat_and]
      have h3 : x.toNat &&& 31 = x.toNat % 32 := Nat.and_two_pow_sub_one_eq_mod x.toNat 5
      have h4 : (31#64).toNat = 31 := rfl
      rw [h4, h3, Nat.mod_eq_of_lt h]
    rw [← h1, BitVec.and_assoc]
    have h5 : 31#64 &&& ~~~ 31#64 = 0#64 := by decide
    rw [h5]; simp
abbrev andN (a : Int) : Int := IntKind.i64.wrap (((BitVec.ofInt 64 a &&& ~~~ BitVec.ofInt 64 31).toNat : Nat) : Int)
theorem andN_iff (a : Int) (h : -9223372036854775808 ≤ a ∧ a ≤ 9223372036854775807) : andN a = 0 ↔ 0 ≤ a ∧ a ≤ 31 := by
  have h1 : BitVec.ofInt 64 31 = 31#64 := by decide
  unfold andN
  rw [h1, IntKind.wrap_i64]
  have h2 := andn (BitVec.ofInt 64 a)
  have h3 : (BitVec.ofInt 64 a).toNat = (a % 18446744073709551616).toNat := by rw [BitVec.toNat_ofInt]; rfl
  have h4 := (BitVec.ofInt 64 a &&& ~~~ 31#64).isLt
  have h5 : (BitVec.ofInt 64 a &&& ~~~ 31#64 = 0#64) ↔ (BitVec.ofInt 64 a &&& ~~~ 31#64).toNat = 0 := by
    constructor
    · intro e; rw [e]; rfl
    · intro e; exact BitVec.eq_of_toNat_eq e
  rw [h5, h3] at h2
  generalize (BitVec.ofInt 64 a &&& ~~~ 31#64).toNat = m at *
  constructor
  · intro e
    have : m = 0 := by omega
    have := h2.1 this
    omega
  · intro e
    have : m = 0 := h2.2 (by omega)
    subst this
    omega
end Go.Proofs.Ytcnilpdlcmpbbab
-- NEWGO
-- PRUNE: cl_lendx cl_use cl_lend
-- ISG: Cs_isG
-- FLAT: Cs_flat
namespace Go.Proofs.Ytcnilpdlcmpbbab
set_option linter.unusedVariables false
set_option linter.unusedSimpArgs false
open Go.Proofs.Ytcnilpdlcmpbbab.Sh
set_option maxRecDepth 20000
theorem nd_td (l : List Nd) (i : Nat) (h : i < l.length) : List.take 6 (List.drop (i * 6) (Cs l)) = ndc (gN l i) := Cs_td l i h
theorem nd_f (l : List Nd) (i : Nat) (h : i < l.length) (d : Cell) : (Cs l).getD (i * 6) d = int (gN l i).i ∧ (Cs l).getD (i * 6 + 1) d = int (gN l i).p ∧ (Cs l).getD (i * 6 + 2) d = st (gN l i).nm ∧ (Cs l).getD (i * 6 + 3) d = int (gN l i).c ∧ (Cs l).getD (i * 6 + 4) d = int (gN l i).k ∧ (Cs l).getD (i * 6 + 5) d = int (gN l i).o :=
  ⟨Cs_fld l i 0 d h (by decide), Cs_fld l i 1 d h (by decide), Cs_fld l i 2 d h (by decide), Cs_fld l i 3 d h (by decide), Cs_fld l i 4 d h (by decide), Cs_fld l i 5 d h (by decide)⟩
theorem nd_len (l : List Nd) : (Cs l).length = l.length * 6 := Cs_len l
theorem gate_eq (xk xc xo : Int) : (!decide (xk = 0) && !decide (xk = 1) || decide (xc < 0) || decide (31 < xc) || decide (xo < 0) || decide (1048576 < xo)) = !((decide (xk = 0) || decide (xk = 1)) && (decide (0 ≤ xc) && decide (xc ≤ 31) && (decide (0 ≤ xo) && decide (xo ≤ 1048576)))) := by
  have e1 : decide (xc < 0) = !decide (0 ≤ xc) := by rw [← decide_not]; exact decide_eq_decide.2 (by omega)
  have e2 : decide (31 < xc) = !decide (xc ≤ 31) := by rw [← decide_not]; exact decide_eq_decide.2 (by omega)
  have e3 : decide (xo < 0) = !decide (0 ≤ xo) := by rw [← decide_not]; exact decide_eq_decide.2 (by omega)
  have e4 : decide (1048576 < xo) = !decide (xo ≤ 1048576) := by rw [← decide_not]; exact decide_eq_decide.2 (by omega)
  rw [e1, e2, e3, e4]
  cases decide (xk = 0) <;> cases decide (xk = 1) <;> cases decide (0 ≤ xc) <;> cases decide (xc ≤ 31) <;> cases decide (0 ≤ xo) <;> cases decide (xo ≤ 1048576) <;> rfl
theorem any_take_succ (l : List Nd) (k : Nat) (h : k < l.length) (f : Nd → Bool) : (l.take (k + 1)).any f = ((l.take k).any f || f (gN l k)) := by
  rw [take_getD l k zn h, List.any_append]; simp
set_option maxHeartbeats 8000000 in
theorem node_spec (l : List Nd) (k : Option Nat) (n : Int) (i : Nat) (hi : i < l.length) (hl : l.length ≤ 1000000) (hnm : (gN l i).nm.length ≤ 1000000000) : FnSpec Try.prog 74 [trV l k n, i1 i] [] (b1 (stOk l i)) [] := by
  have hN := nd_td l i hi
  have hnl := nd_len l
  obtain ⟨x, hx⟩ : ∃ x, gN l i = x := ⟨_, rfl⟩
  have hst : stOk l i = (kdOk x && rngOk x && (if i = 0 then rootOk x else chOk l i)) := by
    unfold stOk
    rw [hx]
    by_cases h0 : i = 0
    · subst h0; rw [if_pos rfl, if_pos rfl, hx]
    · rw [if_neg h0, if_neg h0]
  have hch : chOk l i = (decide ((gN l (i - 1)).i < x.i) && nmOk x.nm && (l.take i).any (fun y => decide (y.i = x.p)) && !(l.take i).any (same1 x.p x.nm)) := by unfold chOk; rw [hx]
  rw [hx] at hN hnm
  obtain ⟨xi, xp, xn, xc, xk, xo⟩ := x
  simp only [ndc] at hN hnm
  have hg := gate_eq xk xc xo
  have hge : (kdOk ⟨xi, xp, xn, xc, xk, xo⟩ && rngOk ⟨xi, xp, xn, xc, xk, xo⟩) = ((decide (xk = 0) || decide (xk = 1)) && (decide (0 ≤ xc) && decide (xc ≤ 31) && (decide (0 ≤ xo) && decide (xo ≤ 1048576)))) := rfl
  rw [← hge] at hg
  rw [hst]
  cases hb : (kdOk ⟨xi, xp, xn, xc, xk, xo⟩ && rngOk ⟨xi, xp, xn, xc, xk, xo⟩) with
  | false =>
    rw [hb] at hg
    simp only [Bool.not_false] at hg
    rw [zaV]
    refine fnspec_of mixed TT_ok TT_cl ⟨fun _ => false, fun _ => [], 0, fun _ => false, fun _ => false⟩ Try.func74 rfl (by kernel_rfl) rfl 115 rfl [.tmp 4] rfl ?_
    simp only [go_sem, zaa, zah, zai, zaj, zal, zae, ↓reduceIte, reduceCtorEq, zab, zac, zam, zan, zao, hN, zaN, zaR, zas, zaP, zaS, zaL, zaM, zaK, zaT, zaU, zaC, zaF, hg]
    repeat' (first
 | with_reducible refine zar ?_ ?_
 | (intros; omega)
 | exact fs_nil trivial rfl
 | fail)
  | true =>
    rw [hb] at hg
    simp only [Bool.not_true] at hg
    rw [zaZ]
    by_cases h0 : i = 0
    · have c0 : (i : Int) = 0 := by omega
      rw [if_pos h0]
      unfold rootOk
      refine fnspec_of mixed TT_ok TT_cl ⟨fun _ => false, fun _ => [], 0, fun _ => false, fun _ => false⟩ Try.func74 rfl (by kernel_rfl) rfl 115 rfl [.tmp 4] rfl ?_
      simp only [go_sem, zaa, zah, zai, zaj, zal, zae, ↓reduceIte, reduceCtorEq, zab, zac, zam, zan, zao, hN, zaN, zaR, zas, zaP, zaS, zaL, zaM, zaK, zaT, zaU, zaC, zaF, hg, decide_eq_true c0]
      repeat' (first
 | with_reducible refine zar ?_ ?_
 | (intros; omega)
 | exact fs_nil trivial rfl
 | fail)
    have c0 : ¬ (i : Int) = 0 := by omega
    rw [if_neg h0, hch]
    have hin : ((i : Int) - 1).toNat = i - 1 := by omega
    obtain ⟨f1, _⟩ := nd_f l (i - 1) (by omega) (.sc (.int .i64 0))
    have hv := rvalid_spec xn (by omega)
    by_cases hlt : xi ≤ (gN l (i - 1)).i
    · rw [decide_eq_false (by simp only; omega), zaV, zaV, zaV]
      refine fnspec_of mixed TT_ok TT_cl ⟨fun _ => false, fun _ => [], 0, fun _ => false, fun _ => false⟩ Try.func74 rfl (by kernel_rfl) rfl 115 rfl [.tmp 4] rfl ?_
      simp only [go_sem, zaa, zah, zai, zaj, zal, zae, ↓reduceIte, reduceCtorEq, zab, zac, zam, zan, zao, hN, zaN, zaR, zas, zaP, zaS, zaL, zaM, zaK, zaT, zaU, zaC, zaF, hg, decide_eq_false c0, hin, f1, decide_eq_true hlt]
      repeat' (first
 | with_reducible refine zar ?_ ?_
 | (unfold OKC; kernel_rfl)
 | (unfold EDG; kernel_rfl)
 | (intros; omega)
 | exact fs_nil trivial rfl
 | fail)
    rw [decide_eq_true (by simp only; omega), zaZ]
    cases hnv : nmOk xn with
    | false =>
      rw [hnv] at hv
      rw [zaV, zaV]
      refine fnspec_of mixed TT_ok TT_cl ⟨fun _ => false, fun _ => [], 0, fun _ => false, fun _ => false⟩ Try.func74 rfl (by kernel_rfl) rfl 115 rfl [.tmp 4] rfl ?_
      simp only [go_sem, zaa, zah, zai, zaj, zal, zae, ↓reduceIte, reduceCtorEq, zab, zac, zam, zan, zao, hN, zaN, zaR, zas, zaP, zaS, zaL, zaM, zaK, zaT, zaU, zaC, zaF, hg, decide_eq_false c0, hin, f1, decide_eq_false hlt]
      repeat' (first
 | with_reducible refine zar ?_ ?_
 | (unfold OKC; kernel_rfl)
 | (unfold EDG; kernel_rfl)
 | (apply cg_tp
    case hl => rfl
    case ha => (simp only [zag, zak, prepV, prepC, idx, hpL', lookR, zaa, if_true, if_false]; rfl)
    case hs => rfl
    case h => (first | exact hv ..))
 | ((first | refine s1_id ?_ | refine swp_id ?_ | refine sops_id ?_ | refine s2_id ?_); simp only [hN, zaN, zaR, zas, zaP, zaS, zaL, zaM, zaK, zaT, zaU, zaC, zaF, hg, decide_eq_false c0, hin, f1, decide_eq_false hlt, go_sem, zaa, zah, zai, zaj, zal, zae, ↓reduceIte, reduceCtorEq, zab, zac, zam, zan, zao, zaG, zaJ, zay, zaH, renO, bk, back, outUpsFrom, Ints_ren])
 | (intros; omega)
 | exact fs_nil trivial rfl
 | fail)
    | true =>
    rw [hnv] at hv
    rw [zaZ]
    simp only
    refine fnspec_of mixed TT_ok TT_cl ⟨fun _ => false, fun _ => [], 0, fun _ => false, fun _ => false⟩ Try.func74 rfl (by kernel_rfl) rfl 115 rfl [.tmp 4] rfl ?_
    simp only [go_sem, zaa, zah, zai, zaj, zal, zae, ↓reduceIte, reduceCtorEq, zab, zac, zam, zan, zao, hN, zaN, zaR, zas, zaP, zaS, zaL, zaM, zaK, zaT, zaU, zaC, zaF, hg, decide_eq_false c0, hin, f1, decide_eq_false hlt]
    repeat' (first
 | with_reducible refine zar ?_ ?_
 | (unfold OKC; kernel_rfl)
 | (unfold EDG; kernel_rfl)
 | (apply cg_tp
    case hl => rfl
    case ha => (simp only [zag, zak, prepV, prepC, idx, hpL', lookR, zaa, if_true, if_false]; rfl)
    case hs => rfl
    case h => (first | exact hv ..))
 | ((first | refine s1_id ?_ | refine swp_id ?_ | refine sops_id ?_ | refine s2_id ?_); simp only [hN, zaN, zaR, zas, zaP, zaS, zaL, zaM, zaK, zaT, zaU, zaC, zaF, hg, decide_eq_false c0, hin, f1, decide_eq_false hlt, go_sem, zaa, zah, zai, zaj, zal, zae, ↓reduceIte, reduceCtorEq, zab, zac, zam, zan, zao, zaG, zaJ, zay, zaH, renO, bk, back, outUpsFrom, Ints_ren])
 | (intros; omega)
 | (intros; (try simp only [zat, zax, zav, zau, zap, zaq, decide_eq_true_eq, decide_eq_false_iff_not] at *); omega))
    refine w_loop (ι := Nat) (fun m => ⟨[(1, i1 i), (2, .one (.optr 0 0)), (5, .one (.optr 1 0)), (6, b1 ((l.take m).any fun y => decide (y.i = xp))), (7, i1 m)], [(0, some ⟨[.gsl (Cs l) 0 l.length k, int n], 2⟩), (1, some ⟨[int xi, int xp, st xn, int xc, int xk, int xo], 6⟩)], 2⟩) (fun m => m ≤ i ∧ (l.take m).any (same1 xp xn) = false) (fun m => i - m) 0 ?_ ⟨zaW _, rfl⟩ ?_
    · (refine imp_ren _ _ _ [(0, 0, ⟨[.gsl (Cs l) 0 l.length k, int n], 2⟩), (1, 7, ⟨[int xi, int xp, st xn, int xc, int xk, int xo], 6⟩)] (by simp) (by simp) (by simp) (zaw rfl) ?_ rfl (by simp only [zad, zaf, false_implies, implies_true, and_true, zaQ, lookR, zaa, if_true, if_false, ↓reduceIte] <;> (repeat' apply zar) <;> (first | rfl | trivial)) (by simp only [zad, zaf, false_implies, implies_true, and_true, true_and, flat_cons, flat_nil, flat_ints, flat_bools, flat_app, zaI, and_self, eq_self_iff_true, zas]); simp only [zag, zak, zad, zaf, false_implies, implies_true, and_true, lk, slot, zaG, zay, toN, zaa, if_true, if_false, ↓reduceIte, reduceCtorEq])
      all_goals ((repeat' apply zar) <;> (first | rfl | trivial))
    rintro m ⟨hm, hno⟩
    simp only at hm hno ⊢
    rcases zbc m i with hmi | hge
    case inr =>
      have c : ¬ (m : Int) < (i : Int) := by omega
      obtain rfl : m = i := by omega
      rw [hno, Bool.not_false, Bool.and_true]
      simp only [go_sem, zaa, zah, zai, zaj, zal, zae, ↓reduceIte, reduceCtorEq, zab, zac, zam, zan, zao, decide_eq_false c]
      repeat' (first
 | exact fs_nil trivial rfl
 | fail)
    have c : (m : Int) < (i : Int) := by omega
    obtain ⟨g1, g2, g3, _⟩ := nd_f l m (by omega) (.sc (.int .i64 0))
    have g3' := (nd_f l m (by omega) (.sc (.string (bs [])))).2.2.1
    have hs := any_take_succ l m (by omega) (same1 xp xn)
    have hs2 := any_take_succ l m (by omega) (fun y => decide (y.i = xp))
    have hsm : same1 xp xn (gN l m) = (decide ((gN l m).p = xp) && decide ((gN l m).nm = xn)) := rfl
    rw [hno, Bool.false_or] at hs
    cases hdup : same1 xp xn (gN l m) with
    | true =>
      have hany : (l.take i).any (same1 xp xn) = true := (take_any_iff l i (zbj hi) _).2 ⟨m, hmi, hdup⟩
      rw [hany, Bool.not_true, zbi]
      rw [hsm] at hdup
      simp only [go_sem, zaa, zah, zai, zaj, zal, zae, ↓reduceIte, reduceCtorEq, zab, zac, zam, zan, zao, decide_eq_true c, g1, g2, g3', hdup]
      repeat' (first
 | with_reducible refine zar ?_ ?_
 | (unfold OKC; kernel_rfl)
 | (unfold EDG; kernel_rfl)
 | (intros; omega)
 | exact fs_nil trivial rfl
 | fail)
    | false =>
      rw [hdup] at hs
      rw [hsm] at hdup
      simp only [go_sem, zaa, zah, zai, zaj, zal, zae, ↓reduceIte, reduceCtorEq, zab, zac, zam, zan, zao, decide_eq_true c, g1, g2, g3', hdup]
      repeat' (first
 | with_reducible refine zar ?_ ?_
 | (unfold OKC; kernel_rfl)
 | (unfold EDG; kernel_rfl)
 | (intros; omega)
 | (intros; (try simp only [zat, zax, zav, zau, zap, zaq, decide_eq_true_eq, decide_eq_false_iff_not] at *); omega))
      refine le_mk (m + 1) ?_ ⟨hmi, hs⟩ (by omega)
      rw [hs2]
      (refine imp_ren _ _ _ [(0, 0, ⟨[.gsl (Cs l) 0 l.length k, int n], 2⟩), (1, 1, ⟨[int xi, int xp, st xn, int xc, int xk, int xo], 6⟩)] (by simp) (by simp) (by simp) (zaw rfl) ?_ rfl (by simp only [zad, zaf, false_implies, implies_true, and_true, zaQ, lookR, zaa, if_true, if_false, ↓reduceIte] <;> (repeat' apply zar) <;> (first | rfl | trivial)) (by simp only [zad, zaf, false_implies, implies_true, and_true, true_and, flat_cons, flat_nil, flat_ints, flat_bools, flat_app, zaI, and_self, eq_self_iff_true, zas]); simp only [zag, zak, zad, zaf, false_implies, implies_true, and_true, lk, slot, zaG, zay, toN, zaa, if_true, if_false, ↓reduceIte, reduceCtorEq])
      all_goals ((repeat' apply zar) <;> (first | rfl | trivial | (simp only [zaB]; done) | (simp only [zaB]; rfl) | (simp only [zaB]; trivial)))
end Go.Proofs.Ytcnilpdlcmpbbab
-- NEWGO
-- PRUNE: cl_lendx cl_use cl_lend
-- ISG: Cs_isG
-- FLAT: Cs_flat
namespace Go.Proofs.Ytcnilpdlcmpbbab
set_option linter.unusedVariables false
set_option linter.unusedSimpArgs false
open Go.Proofs.Ytcnilpdlcmpbbab.Sh
set_option maxRecDepth 20000
set_option maxHeartbeats 8000000 in
theorem up_spec (l : List Nd) (k : Option Nat) (n : Int) (id0 : Int) (hl : l.length ≤ 1000000) : FnSpec Try.prog 73 [trV l k n, i1 id0] [] (gi (upL l id0) none) [] := by
  have hnl := nd_len l
  refine fnspec_of mixed TT_ok TT_cl ⟨fun _ => false, fun _ => [], 0, fun _ => false, fun _ => false⟩ Try.func73 rfl (by kernel_rfl) rfl 34 rfl [.tmp 4] rfl ?_
  simp only [go_sem, zaa, zah, zai, zaj, zal, zae, ↓reduceIte, reduceCtorEq, zab, zac, zam, zan, zao]
  repeat' (first
 | with_reducible refine zar ?_ ?_
 | (intros; omega)
 | (intros; (try simp only [zat, zax, zav, zau, zap, zaq, decide_eq_true_eq, decide_eq_false_iff_not] at *); omega))
  refine w_loop (ι := Nat × Int × List Int) (fun s => ⟨[(1, i1 s.2.1), (2, .one (.optr 0 0)), (5, .one (.osl 1 0 s.2.2.length none)), (6, i1 ((s.1 : Int) - 1))], [(0, some ⟨[.gsl (Cs l) 0 l.length k, int n], 2⟩), (1, some ⟨Ints s.2.2, 1⟩)], 2⟩) (fun s => s.1 ≤ l.length ∧ s.2.2.length + s.1 ≤ l.length ∧ upL l id0 = s.2.2 ++ upL (l.take s.1) s.2.1) (fun s => s.1) (l.length, id0, []) ?_ ⟨zaX _, by simp, by rw [List.take_length]; rfl⟩ ?_
  · (refine Imp.trans (imp_nilA _ _ 5 1 99 (by simp only []; omega) rfl) ?_)
    (refine imp_ren _ _ _ [(0, 0, ⟨[.gsl (Cs l) 0 l.length k, int n], 2⟩), (1, 99, ⟨[], 1⟩)] (by simp) (by simp) (by simp) (zaw rfl) ?_ rfl (by simp only [zad, zaf, false_implies, implies_true, and_true, zaQ, lookR, zaa, if_true, if_false, ↓reduceIte] <;> (repeat' apply zar) <;> (first | rfl | trivial)) (by simp only [zad, zaf, false_implies, implies_true, and_true, true_and, flat_cons, flat_nil, flat_ints, flat_bools, flat_app, zaI, and_self, eq_self_iff_true, zas]); simp only [zag, zak, zad, zaf, false_implies, implies_true, and_true, lk, slot, zaG, zay, toN, zaa, if_true, if_false, ↓reduceIte, reduceCtorEq])
    all_goals ((repeat' apply zar) <;> (first | rfl | trivial))
  rintro ⟨m, id, acc⟩ ⟨hm, ha, hI⟩
  simp only at hm ha hI ⊢
  cases m with
  | zero =>
    have c : ¬ (0 : Int) ≤ ((0 : Nat) : Int) - 1 := by omega
    have he : upL [] id = [] := rfl
    rw [zaT, he, zas] at hI
    rw [hI]
    simp only [go_sem, zaa, zah, zai, zaj, zal, zae, ↓reduceIte, reduceCtorEq, zab, zac, zam, zan, zao, decide_eq_false c]
    repeat' (first
 | with_reducible refine zar ?_ ?_
 | (refine gt_if (fun h => ?_) (fun h => ?_) <;> (try simp only [h]))
 | ((first | refine s1_id ?_ | refine swp_id ?_ | refine sops_id ?_ | refine s2_id ?_); simp only [decide_eq_false c, go_sem, zaa, zah, zai, zaj, zal, zae, ↓reduceIte, reduceCtorEq, zab, zac, zam, zan, zao, zaG, zaJ, zay, zaH, renO, bk, back, outUpsFrom, Ints_ren])
 | (intros; omega)
 | (intros; (try simp only [zat, zax, zav, zau, zap, zaq, decide_eq_true_eq, decide_eq_false_iff_not] at *); omega))
    (refine fs_frz 1 ⟨Ints acc, 1⟩ (by simp only [zaQ, lookR, zaa, if_true, if_false, ↓reduceIte]) (by first | exact Ints_isG _ | exact Bools_isG _ | exact Cs_isG _ | (simp [Cell.isG]; done)) ?_; simp only [frzTm, SV.frz, SV.frzL, Cell.frz, frzHp, frzO, Ints_frz, Bools_frz, zag, zak, zaa, if_true, if_false, ↓reduceIte])
    apply fs_nil <;> (try simp only [go_sem, resV, resS, zaG, zaJ, zay, zbd, zaQ, idx, renO, zaH, evS, slot, lookR, zaa, ↓reduceIte, reduceCtorEq, if_true, if_false, zaD, zaE, zag, zak, sLoad, readAt, readNeed, Ints_ren, Ints_length, Ints_getD, and_true, true_and, zaz, zaA]) <;> (try rfl)
  | succ m =>
    have c : (0 : Int) ≤ ((m + 1 : Nat) : Int) - 1 := by omega
    have e1 : (((m + 1 : Nat) : Int) - 1).toNat = m := by omega
    have e2 : ((m + 1 : Nat) : Int) - 1 = (m : Int) := by omega
    have hlt : m < l.length := by omega
    obtain ⟨g1, g2, _⟩ := nd_f l m hlt (.sc (.int .i64 0))
    rw [upL_take l m hlt] at hI
    by_cases hid : (gN l m).i = id
    · rw [if_pos hid] at hI
      have htk : List.take acc.length (Ints acc) = Ints acc := zba (by rw [Ints_length]; exact zaX _)
      have hpp : Ints acc ++ [int id] = Ints (acc ++ [id]) := by simp [Ints]
      have hla : (acc ++ [id]).length = acc.length + 1 := by simp
      simp only [go_sem, zaa, zah, zai, zaj, zal, zae, ↓reduceIte, reduceCtorEq, zab, zac, zam, zan, zao, e2, decide_eq_true (Int.natCast_nonneg m), g1, g2, decide_eq_true hid]
      repeat' (first
 | with_reducible refine zar ?_ ?_
 | (intros; omega)
 | (intros; (try simp only [zat, zax, zav, zau, zap, zaq, decide_eq_true_eq, decide_eq_false_iff_not] at *); omega))
      refine le_mk (m, (gN l m).p, acc ++ [id]) ?_ ⟨zbj hlt, by show (acc ++ [id]).length + m ≤ l.length; rw [hla]; omega, by rw [hI]; simp⟩ (zaY m)
      simp only [hla]
      (refine imp_ren _ _ _ [(0, 0, ⟨[.gsl (Cs l) 0 l.length k, int n], 2⟩), (1, 15, ⟨Ints (acc ++ [id]), 1⟩)] (by simp) (by simp) (by simp) (zaw rfl) ?_ rfl (by simp only [zad, zaf, false_implies, implies_true, and_true, zaQ, lookR, zaa, if_true, if_false, ↓reduceIte] <;> (repeat' apply zar) <;> (first | rfl | trivial)) (by simp only [zad, zaf, false_implies, implies_true, and_true, true_and, flat_cons, flat_nil, flat_ints, flat_bools, flat_app, zaI, and_self, eq_self_iff_true, zas]); simp only [zag, zak, zad, zaf, false_implies, implies_true, and_true, lk, slot, zaG, zay, toN, zaa, if_true, if_false, ↓reduceIte, reduceCtorEq])
      all_goals ((repeat' apply zar) <;> (first | rfl | trivial | (simp only []; done) | (simp only []; rfl) | (simp only []; trivial)))
    · rw [if_neg hid] at hI
      simp only [go_sem, zaa, zah, zai, zaj, zal, zae, ↓reduceIte, reduceCtorEq, zab, zac, zam, zan, zao, e2, decide_eq_true (Int.natCast_nonneg m), g1, g2, decide_eq_false hid]
      repeat' (first
 | with_reducible refine zar ?_ ?_
 | (intros; omega)
 | (intros; (try simp only [zat, zax, zav, zau, zap, zaq, decide_eq_true_eq, decide_eq_false_iff_not] at *); omega))
      refine le_mk (m, id, acc) ?_ ⟨zbj hlt, by show acc.length + m ≤ l.length; omega, hI⟩ (zaY m)
      (refine imp_ren _ _ _ [(0, 0, ⟨[.gsl (Cs l) 0 l.length k, int n], 2⟩), (1, 1, ⟨Ints acc, 1⟩)] (by simp) (by simp) (by simp) (zaw rfl) ?_ rfl (by simp only [zad, zaf, false_implies, implies_true, and_true, zaQ, lookR, zaa, if_true, if_false, ↓reduceIte] <;> (repeat' apply zar) <;> (first | rfl | trivial)) (by simp only [zad, zaf, false_implies, implies_true, and_true, true_and, flat_cons, flat_nil, flat_ints, flat_bools, flat_app, zaI, and_self, eq_self_iff_true, zas]); simp only [zag, zak, zad, zaf, false_implies, implies_true, and_true, lk, slot, zaG, zay, toN, zaa, if_true, if_false, ↓reduceIte, reduceCtorEq])
      all_goals ((repeat' apply zar) <;> (first | rfl | trivial | (simp only []; done) | (simp only []; rfl) | (simp only []; trivial)))
def NmR (l : List Nd) : Prop := ∀ x ∈ l, x.nm.length ≤ 1000000000
theorem NmR.at {l : List Nd} (h : NmR l) (i : Nat) (hi : i < l.length) : (gN l i).nm.length ≤ 1000000000 := h _ (getD_mem l i zn hi)
set_option maxHeartbeats 8000000 in
theorem trcheck_spec (l : List Nd) (k : Option Nat) (n : Int) (hl : l.length ≤ 1000000) (hnm : NmR l) : FnSpec Try.prog 44 [trV l k n] [] (b1 (chkT l n)) [] := by
  have hnl := nd_len l
  by_cases h1 : (l.length : Int) < 1
  · rw [chkT_not fun h => by have := h.ne; omega]
    refine fnspec_of mixed TT_ok TT_cl ⟨fun _ => false, fun _ => [], 0, fun _ => false, fun _ => false⟩ Try.func44 rfl (by kernel_rfl) rfl 54 rfl [.tmp 2] rfl ?_
    simp only [go_sem, zaa, zah, zai, zaj, zal, zae, ↓reduceIte, reduceCtorEq, zab, zac, zam, zan, zao, decide_eq_true h1]
    repeat' (first
 | exact fs_nil trivial rfl
 | fail)
  by_cases h64 : 64 < (l.length : Int)
  · rw [chkT_not fun h => by have := h.le; omega]
    refine fnspec_of mixed TT_ok TT_cl ⟨fun _ => false, fun _ => [], 0, fun _ => false, fun _ => false⟩ Try.func44 rfl (by kernel_rfl) rfl 54 rfl [.tmp 2] rfl ?_
    simp only [go_sem, zaa, zah, zai, zaj, zal, zae, ↓reduceIte, reduceCtorEq, zab, zac, zam, zan, zao, decide_eq_false h1, decide_eq_true h64]
    repeat' (first
 | exact fs_nil trivial rfl
 | fail)
  have h1' : 1 ≤ l.length := by omega
  have h64' : l.length ≤ 64 := by omega
  refine fnspec_of mixed TT_ok TT_cl ⟨fun _ => false, fun _ => [], 0, fun _ => false, fun _ => false⟩ Try.func44 rfl (by kernel_rfl) rfl 54 rfl [.tmp 2] rfl ?_
  simp only [go_sem, zaa, zah, zai, zaj, zal, zae, ↓reduceIte, reduceCtorEq, zab, zac, zam, zan, zao, decide_eq_false h1, decide_eq_false h64]
  repeat' (first
 | (intros; (try simp only [zat, zax, zav, zau, zap, zaq, decide_eq_true_eq, decide_eq_false_iff_not] at *); omega))
  refine w_loop (ι := Nat) (fun m => ⟨[(1, .one (.optr 0 0)), (3, i1 l.length), (4, i1 m)], [(0, some ⟨[.gsl (Cs l) 0 l.length k, int n], 2⟩)], 1⟩) (fun m => m ≤ l.length ∧ ∀ i, i < m → stOk l i = true) (fun m => l.length - m) 0 ?_ ⟨zaW _, fun i hi => absurd hi (Nat.not_lt_zero _)⟩ ?_
  · (refine imp_ren _ _ _ [(0, 0, ⟨[.gsl (Cs l) 0 l.length k, int n], 2⟩)] (by simp) (by simp) (by simp) (zaw rfl) ?_ rfl (by simp only [zad, zaf, false_implies, implies_true, and_true, zaQ, lookR, zaa, if_true, if_false, ↓reduceIte] <;> (repeat' apply zar) <;> (first | rfl | trivial)) (by simp only [zad, zaf, false_implies, implies_true, and_true, true_and, flat_cons, flat_nil, flat_ints, flat_bools, flat_app, zaI, and_self, eq_self_iff_true, zas]); simp only [zag, zak, zad, zaf, false_implies, implies_true, and_true, lk, slot, zaG, zay, toN, zaa, if_true, if_false, ↓reduceIte, reduceCtorEq])
    all_goals ((repeat' apply zar) <;> (first | rfl | trivial))
  rintro m ⟨hm, hst⟩
  simp only at hm hst ⊢
  rcases zbc m l.length with hlt | hge
  case inl =>
    have c : (m : Int) < (l.length : Int) := by omega
    have h2 := node_spec l k n m hlt hl (hnm.at m hlt)
    cases hb : stOk l m with
    | false =>
      rw [chkT_not fun h => by have := h.st m hlt; rw [hb] at this; cases this]
      rw [hb] at h2
      simp only [go_sem, zaa, zah, zai, zaj, zal, zae, ↓reduceIte, reduceCtorEq, zab, zac, zam, zan, zao, decide_eq_true c]
      repeat' (first
 | (apply cl_plain
    case hs => rfl
    case ha => (simp only [zag, zak, prepV, prepC, idx, hpL', lookR, zaa, if_true, if_false]; rfl)
    case h => (first | exact h2 ..))
 | ((first | refine s1_id ?_ | refine swp_id ?_ | refine sops_id ?_ | refine s2_id ?_); simp only [decide_eq_true c, go_sem, zaa, zah, zai, zaj, zal, zae, ↓reduceIte, reduceCtorEq, zab, zac, zam, zan, zao, zaG, zaJ, zay, zaH, renO, bk, back, outUpsFrom, Ints_ren])
 | exact fs_nil trivial rfl
 | fail)
    | true =>
      rw [hb] at h2
      simp only [go_sem, zaa, zah, zai, zaj, zal, zae, ↓reduceIte, reduceCtorEq, zab, zac, zam, zan, zao, decide_eq_true c]
      repeat' (first
 | with_reducible refine zar ?_ ?_
 | (apply cl_plain
    case hs => rfl
    case ha => (simp only [zag, zak, prepV, prepC, idx, hpL', lookR, zaa, if_true, if_false]; rfl)
    case h => (first | exact h2 ..))
 | ((first | refine s1_id ?_ | refine swp_id ?_ | refine sops_id ?_ | refine s2_id ?_); simp only [decide_eq_true c, go_sem, zaa, zah, zai, zaj, zal, zae, ↓reduceIte, reduceCtorEq, zab, zac, zam, zan, zao, zaG, zaJ, zay, zaH, renO, bk, back, outUpsFrom, Ints_ren])
 | (intros; omega)
 | (intros; (try simp only [zat, zax, zav, zau, zap, zaq, decide_eq_true_eq, decide_eq_false_iff_not] at *); omega))
      refine le_mk (m + 1) ?_ ⟨hlt, fun i hi => by rcases Nat.lt_succ_iff_lt_or_eq.1 hi with h | h; (· exact hst i h); (· rw [h]; exact hb)⟩ (by omega)
      (refine imp_ren _ _ _ [(0, 0, ⟨[.gsl (Cs l) 0 l.length k, int n], 2⟩)] (by simp) (by simp) (by simp) (zaw rfl) ?_ rfl (by simp only [zad, zaf, false_implies, implies_true, and_true, zaQ, lookR, zaa, if_true, if_false, ↓reduceIte] <;> (repeat' apply zar) <;> (first | rfl | trivial)) (by simp only [zad, zaf, false_implies, implies_true, and_true, true_and, flat_cons, flat_nil, flat_ints, flat_bools, flat_app, zaI, and_self, eq_self_iff_true, zas]); simp only [zag, zak, zad, zaf, false_implies, implies_true, and_true, lk, slot, zaG, zay, toN, zaa, if_true, if_false, ↓reduceIte, reduceCtorEq])
      all_goals ((repeat' apply zar) <;> (first | rfl | trivial | (simp only [zaB]; done) | (simp only [zaB]; rfl) | (simp only [zaB]; trivial)))
  have c : ¬ (m : Int) < (l.length : Int) := by omega
  obtain rfl : m = l.length := by omega
  simp only [go_sem, zaa, zah, zai, zaj, zal, zae, ↓reduceIte, reduceCtorEq, zab, zac, zam, zan, zao, decide_eq_false c]
  repeat' (first
 | (intros; (try simp only [zat, zax, zav, zau, zap, zaq, decide_eq_true_eq, decide_eq_false_iff_not] at *); omega))
  refine w_loop (ι := Nat) (fun m => ⟨[(1, .one (.optr 0 0)), (3, i1 l.length), (5, i1 m)], [(0, some ⟨[.gsl (Cs l) 0 l.length k, int n], 2⟩)], 1⟩) (fun m => m ≤ l.length ∧ ∀ i, i < m → (upL l (gN l i).i).length ≤ 9) (fun m => l.length - m) 0 ?_ ⟨zaW _, fun i hi => absurd hi (Nat.not_lt_zero _)⟩ ?_
  · (refine imp_ren _ _ _ [(0, 0, ⟨[.gsl (Cs l) 0 l.length k, int n], 2⟩)] (by simp) (by simp) (by simp) (zaw rfl) ?_ rfl (by simp only [zad, zaf, false_implies, implies_true, and_true, zaQ, lookR, zaa, if_true, if_false, ↓reduceIte] <;> (repeat' apply zar) <;> (first | rfl | trivial)) (by simp only [zad, zaf, false_implies, implies_true, and_true, true_and, flat_cons, flat_nil, flat_ints, flat_bools, flat_app, zaI, and_self, eq_self_iff_true, zas]); simp only [zag, zak, zad, zaf, false_implies, implies_true, and_true, lk, slot, zaG, zay, toN, zaa, if_true, if_false, ↓reduceIte, reduceCtorEq])
    all_goals ((repeat' apply zar) <;> (first | rfl | trivial))
  rintro m ⟨hm, hdp⟩
  simp only at hm hdp ⊢
  rcases zbc m l.length with hlt | hge
  case inl =>
    have c : (m : Int) < (l.length : Int) := by omega
    have h3 := up_spec l k n (gN l m).i hl
    obtain ⟨g1, _⟩ := nd_f l m hlt (.sc (.int .i64 0))
    by_cases h9 : 9 < ((upL l (gN l m).i).length : Int)
    · rw [chkT_not fun h => by have := h.dp m hlt; omega]
      generalize upL l (gN l m).i = U at *
      simp only [go_sem, zaa, zah, zai, zaj, zal, zae, ↓reduceIte, reduceCtorEq, zab, zac, zam, zan, zao, decide_eq_true c, g1, decide_eq_true h9]
      repeat' (first
 | with_reducible refine zar ?_ ?_
 | (unfold OKC; kernel_rfl)
 | (unfold EDG; kernel_rfl)
 | (apply cl_plain
    case hs => rfl
    case ha => (simp only [zag, zak, prepV, prepC, idx, hpL', lookR, zaa, if_true, if_false]; rfl)
    case h => (first | exact h3 ..))
 | ((first | refine s1_id ?_ | refine swp_id ?_ | refine sops_id ?_ | refine s2_id ?_); simp only [decide_eq_true c, g1, decide_eq_true h9, go_sem, zaa, zah, zai, zaj, zal, zae, ↓reduceIte, reduceCtorEq, zab, zac, zam, zan, zao, zaG, zaJ, zay, zaH, renO, bk, back, outUpsFrom, Ints_ren])
 | (intros; omega)
 | exact fs_nil trivial rfl
 | fail)
    · have h9' : (upL l (gN l m).i).length ≤ 9 := by omega
      have hnx : ∀ i, i < m + 1 → (upL l (gN l i).i).length ≤ 9 := fun i hi => by rcases Nat.lt_succ_iff_lt_or_eq.1 hi with h | h; (· exact hdp i h); (· rw [h]; exact h9')
      generalize upL l (gN l m).i = U at *
      simp only [go_sem, zaa, zah, zai, zaj, zal, zae, ↓reduceIte, reduceCtorEq, zab, zac, zam, zan, zao, decide_eq_true c, g1, decide_eq_false h9]
      repeat' (first
 | with_reducible refine zar ?_ ?_
 | (unfold OKC; kernel_rfl)
 | (unfold EDG; kernel_rfl)
 | (apply cl_plain
    case hs => rfl
    case ha => (simp only [zag, zak, prepV, prepC, idx, hpL', lookR, zaa, if_true, if_false]; rfl)
    case h => (first | exact h3 ..))
 | ((first | refine s1_id ?_ | refine swp_id ?_ | refine sops_id ?_ | refine s2_id ?_); simp only [decide_eq_true c, g1, decide_eq_false h9, go_sem, zaa, zah, zai, zaj, zal, zae, ↓reduceIte, reduceCtorEq, zab, zac, zam, zan, zao, zaG, zaJ, zay, zaH, renO, bk, back, outUpsFrom, Ints_ren])
 | (intros; omega)
 | (intros; (try simp only [zat, zax, zav, zau, zap, zaq, decide_eq_true_eq, decide_eq_false_iff_not] at *); omega))
      refine le_mk (m + 1) ?_ ⟨hlt, hnx⟩ (by omega)
      (refine imp_ren _ _ _ [(0, 0, ⟨[.gsl (Cs l) 0 l.length k, int n], 2⟩)] (by simp) (by simp) (by simp) (zaw rfl) ?_ rfl (by simp only [zad, zaf, false_implies, implies_true, and_true, zaQ, lookR, zaa, if_true, if_false, ↓reduceIte] <;> (repeat' apply zar) <;> (first | rfl | trivial)) (by simp only [zad, zaf, false_implies, implies_true, and_true, true_and, flat_cons, flat_nil, flat_ints, flat_bools, flat_app, zaI, and_self, eq_self_iff_true, zas]); simp only [zag, zak, zad, zaf, false_implies, implies_true, and_true, lk, slot, zaG, zay, toN, zaa, if_true, if_false, ↓reduceIte, reduceCtorEq])
      all_goals ((repeat' apply zar) <;> (first | rfl | trivial | (simp only [zaB]; done) | (simp only [zaB]; rfl) | (simp only [zaB]; trivial)))
  have c : ¬ (m : Int) < (l.length : Int) := by omega
  obtain rfl : m = l.length := by omega
  have hin : ((l.length : Int) - 1).toNat = l.length - 1 := by omega
  obtain ⟨g1, _⟩ := nd_f l (l.length - 1) (by omega) (.sc (.int .i64 0))
  have hres : chkT l n = (decide ((gN l (l.length - 1)).i < n) && decide (n ≤ 2147483648)) := by
    unfold chkT
    rw [decide_eq_true h1', decide_eq_true h64', (allN_iff _ _).2 hst, (allN_iff _ _).2 fun i hi => decide_eq_true (hdp i hi)]
    rfl
  rw [hres]
  simp only [go_sem, zaa, zah, zai, zaj, zal, zae, ↓reduceIte, reduceCtorEq, zab, zac, zam, zan, zao, decide_eq_false c, hin, g1]
  repeat' (first
 | with_reducible refine zar ?_ ?_
 | (unfold OKC; kernel_rfl)
 | (unfold EDG; kernel_rfl)
 | (intros; omega)
 | exact fs_nil trivial rfl
 | fail)
end Go.Proofs.Ytcnilpdlcmpbbab
-- NEWGO
-- PRUNE: cl_lendx cl_use
-- ISG: Cs_isG
-- FLAT: Cs_flat
namespace Go.Proofs.Ytcnilpdlcmpbbab
set_option linter.unusedVariables false
set_option linter.unusedSimpArgs false
open Go.Proofs.Ytcnilpdlcmpbbab.Sh
set_option maxRecDepth 20000
abbrev hasI (id : Int) (x : Nd) : Bool := decide (x.i = id)
def fdM (l : List Nd) (n id : Int) : Nd × Bool := if chkT l n = true then (match l.find? (hasI id) with
  | some x => (x, true)
  | none => (zn, false)) else (zn, false)
def hasM (l : List Nd) (n id : Int) : Bool := chkT l n && l.any (hasI id)
theorem fdM_2 (l : List Nd) (n id : Int) : (fdM l n id).2 = hasM l n id := by
  unfold fdM hasM
  cases hc : chkT l n with
  | false => rfl
  | true =>
    rw [if_pos rfl, zaZ]
    cases hf : l.find? (hasI id) with
    | none =>
      have := List.find?_eq_none.1 hf
      exact (List.any_eq_false.2 this).symm
    | some x =>
      exact (List.any_eq_true.2 ⟨x, List.mem_of_find?_eq_some hf, List.find?_some hf⟩).symm
theorem find_drop {l : List Nd} {m : Nat} (h : m < l.length) (id : Int) : (l.drop m).find? (hasI id) = if (gN l m).i = id then some (gN l m) else (l.drop (m + 1)).find? (hasI id) := by
  rw [drop_getD l m zn h, List.find?_cons]
  by_cases c : (gN l m).i = id
  · rw [if_pos c, show hasI id (l.getD m zn) = true from decide_eq_true c]
  · rw [if_neg c, show hasI id (l.getD m zn) = false from decide_eq_false c]
abbrev zr : Row := ⟨[int 0, int 0, st [], int 0, int 0, int 0], 6⟩
set_option maxHeartbeats 8000000 in
theorem rfindT_spec (l : List Nd) (k : Option Nat) (n id : Int) (hl : l.length ≤ 1000000) (hnm : NmR l) : FnSpec Try.prog 75 [trV l k n, i1 id] [] (.tup [.agg (ndc (fdM l n id).1), b1 (fdM l n id).2]) [] := by
  have h1 := trcheck_spec l k n hl hnm
  have hnl := nd_len l
  unfold fdM
  cases hc : chkT l n with
  | false =>
    rw [hc] at h1
    simp only [zbb, if_false]
    refine fnspec_of mixed TT_ok TT_cl ⟨fun _ => false, fun _ => [], 0, fun _ => false, fun _ => false⟩ Try.func75 rfl (by kernel_rfl) rfl 32 rfl [.cell 4 37, .tmp 5] rfl ?_
    simp only [go_sem, zaa, zah, zai, zaj, zal, zae, ↓reduceIte, reduceCtorEq, zab, zac, zam, zan, zao]
    repeat' (first
 | with_reducible refine zar ?_ ?_
 | (apply cl_plain
    case hs => rfl
    case ha => (simp only [zag, zak, prepV, prepC, idx, hpL', lookR, zaa, if_true, if_false]; rfl)
    case h => (first | exact h1 ..))
 | ((first | refine s1_id ?_ | refine swp_id ?_ | refine sops_id ?_ | refine s2_id ?_); simp only [go_sem, zaa, zah, zai, zaj, zal, zae, ↓reduceIte, reduceCtorEq, zab, zac, zam, zan, zao, zaG, zaJ, zay, zaH, renO, bk, back, outUpsFrom, Ints_ren])
 | (intros; omega)
 | (apply fs_nil <;> (try simp only [go_sem, resV, resS, zaG, zaJ, zay, zbd, zaQ, idx, renO, zaH, evS, slot, lookR, zaa, ↓reduceIte, reduceCtorEq, if_true, if_false, zaD, zaE, zag, zak, sLoad, readAt, readNeed, Ints_ren, Ints_length, Ints_getD, and_true, true_and, zaz, zaA]) <;> (try rfl))
 | fail)
  | true =>
    rw [hc] at h1
    rw [if_pos rfl]
    refine fnspec_of mixed TT_ok TT_cl ⟨fun _ => false, fun _ => [], 0, fun _ => false, fun _ => false⟩ Try.func75 rfl (by kernel_rfl) rfl 32 rfl [.cell 4 37, .tmp 5] rfl ?_
    simp only [go_sem, zaa, zah, zai, zaj, zal, zae, ↓reduceIte, reduceCtorEq, zab, zac, zam, zan, zao]
    repeat' (first
 | (apply cl_plain
    case hs => rfl
    case ha => (simp only [zag, zak, prepV, prepC, idx, hpL', lookR, zaa, if_true, if_false]; rfl)
    case h => (first | exact h1 ..))
 | ((first | refine s1_id ?_ | refine swp_id ?_ | refine sops_id ?_ | refine s2_id ?_); simp only [go_sem, zaa, zah, zai, zaj, zal, zae, ↓reduceIte, reduceCtorEq, zab, zac, zam, zan, zao, zaG, zaJ, zay, zaH, renO, bk, back, outUpsFrom, Ints_ren])
 | (intros; (try simp only [zat, zax, zav, zau, zap, zaq, decide_eq_true_eq, decide_eq_false_iff_not] at *); omega))
    refine w_loop (ι := Nat) (fun m => ⟨[(1, i1 id), (2, .one (.optr 0 0)), (4, .one (.optr 1 0)), (6, i1 m)], [(0, some ⟨[.gsl (Cs l) 0 l.length k, int n], 2⟩), (1, some zr)], 2⟩) (fun m => m ≤ l.length ∧ l.find? (hasI id) = (l.drop m).find? (hasI id)) (fun m => l.length - m) 0 ?_ ⟨zaW _, rfl⟩ ?_
    · (refine imp_ren _ _ _ [(0, 0, ⟨[.gsl (Cs l) 0 l.length k, int n], 2⟩), (1, 1, zr)] (by simp) (by simp) (by simp) (zaw rfl) ?_ rfl (by simp only [zad, zaf, false_implies, implies_true, and_true, zaQ, lookR, zaa, if_true, if_false, ↓reduceIte] <;> (repeat' apply zar) <;> (first | rfl | trivial)) (by simp only [zad, zaf, false_implies, implies_true, and_true, true_and, flat_cons, flat_nil, flat_ints, flat_bools, flat_app, zaI, and_self, eq_self_iff_true, zas]); simp only [zag, zak, zad, zaf, false_implies, implies_true, and_true, lk, slot, zaG, zay, toN, zaa, if_true, if_false, ↓reduceIte, reduceCtorEq])
      all_goals ((repeat' apply zar) <;> (first | rfl | trivial))
    clear h1
    rintro m ⟨hm, hf⟩
    simp only at hm hf ⊢
    rcases zbc m l.length with hlt | hge
    case inr =>
      have c : ¬ (m : Int) < (l.length : Int) := by omega
      rw [zbh hge] at hf
      rw [hf]
      simp only [go_sem, zaa, zah, zai, zaj, zal, zae, ↓reduceIte, reduceCtorEq, zab, zac, zam, zan, zao, decide_eq_false c, zr, List.find?_nil]
      repeat' (first
 | with_reducible refine zar ?_ ?_
 | (intros; omega)
 | (apply fs_nil <;> (try simp only [go_sem, resV, resS, zaG, zaJ, zay, zbd, zaQ, idx, renO, zaH, evS, slot, lookR, zaa, ↓reduceIte, reduceCtorEq, if_true, if_false, zaD, zaE, zag, zak, sLoad, readAt, readNeed, Ints_ren, Ints_length, Ints_getD, and_true, true_and, zaz, zaA]) <;> (try rfl))
 | fail)
    have c : (m : Int) < (l.length : Int) := by omega
    obtain ⟨g1, _⟩ := nd_f l m hlt (.sc (.int .i64 0))
    have hN := nd_td l m hlt
    rw [find_drop hlt] at hf
    by_cases hid : (gN l m).i = id
    · rw [if_pos hid] at hf
      rw [hf]
      generalize gN l m = x at *
      obtain ⟨xi, xp, xn, xc, xk, xo⟩ := x
      simp only [ndc] at hN g1 hid ⊢
      simp only [go_sem, zaa, zah, zai, zaj, zal, zae, ↓reduceIte, reduceCtorEq, zab, zac, zam, zan, zao, decide_eq_true c, g1, decide_eq_true hid, hN, zr]
      repeat' (first
 | with_reducible refine zar ?_ ?_
 | (intros; omega)
 | (apply fs_nil <;> (try simp only [go_sem, resV, resS, zaG, zaJ, zay, zbd, zaQ, idx, renO, zaH, evS, slot, lookR, zaa, ↓reduceIte, reduceCtorEq, if_true, if_false, zaD, zaE, zag, zak, sLoad, readAt, readNeed, Ints_ren, Ints_length, Ints_getD, and_true, true_and, zaz, zaA]) <;> (try rfl))
 | fail)
    · rw [if_neg hid] at hf
      simp only [go_sem, zaa, zah, zai, zaj, zal, zae, ↓reduceIte, reduceCtorEq, zab, zac, zam, zan, zao, decide_eq_true c, g1, decide_eq_false hid, zr]
      repeat' (first
 | with_reducible refine zar ?_ ?_
 | (intros; omega)
 | (intros; (try simp only [zat, zax, zav, zau, zap, zaq, decide_eq_true_eq, decide_eq_false_iff_not] at *); omega))
      refine le_mk (m + 1) ?_ ⟨hlt, hf⟩ (by omega)
      (refine imp_ren _ _ _ [(0, 0, ⟨[.gsl (Cs l) 0 l.length k, int n], 2⟩), (1, 1, zr)] (by simp) (by simp) (by simp) (zaw rfl) ?_ rfl (by simp only [zad, zaf, false_implies, implies_true, and_true, zaQ, lookR, zaa, if_true, if_false, ↓reduceIte] <;> (repeat' apply zar) <;> (first | rfl | trivial)) (by simp only [zad, zaf, false_implies, implies_true, and_true, true_and, flat_cons, flat_nil, flat_ints, flat_bools, flat_app, zaI, and_self, eq_self_iff_true, zas]); simp only [zag, zak, zad, zaf, false_implies, implies_true, and_true, lk, slot, zaG, zay, toN, zaa, if_true, if_false, ↓reduceIte, reduceCtorEq])
      all_goals ((repeat' apply zar) <;> (first | rfl | trivial | (simp only [zaB]; done) | (simp only [zaB]; rfl) | (simp only [zaB]; trivial)))
theorem rhas_spec (l : List Nd) (k : Option Nat) (n id : Int) (hl : l.length ≤ 1000000) (hnm : NmR l) : FnSpec Try.prog 46 [trV l k n, i1 id] [] (b1 (hasM l n id)) [] := by
  have h1 := rfindT_spec l k n id hl hnm
  rw [← fdM_2]
  generalize fdM l n id = u at *
  obtain ⟨⟨xi, xp, xn, xc, xk, xo⟩, b⟩ := u
  simp only [ndc] at h1 ⊢
  refine fnspec_of mixed TT_ok TT_cl ⟨fun _ => false, fun _ => [], 0, fun _ => false, fun _ => false⟩ Try.func46 rfl (by kernel_rfl) rfl 14 rfl [.tmp 4] rfl ?_
  simp only [go_sem, zaa, zah, zai, zaj, zal, zae, ↓reduceIte, reduceCtorEq, zab, zac, zam, zan, zao]
  repeat' (first
 | (apply cl_plain
    case hs => rfl
    case ha => (simp only [zag, zak, prepV, prepC, idx, hpL', lookR, zaa, if_true, if_false]; rfl)
    case h => (first | exact h1 ..))
 | ((first | refine s1_id ?_ | refine swp_id ?_ | refine sops_id ?_ | refine s2_id ?_); simp only [zaN, zaR, zas, zaP, zaS, zaL, zaM, zaK, zaT, zaU, zaC, zaF, go_sem, zaa, zah, zai, zaj, zal, zae, ↓reduceIte, reduceCtorEq, zab, zac, zam, zan, zao, zaG, zaJ, zay, zaH, renO, bk, back, outUpsFrom, Ints_ren])
 | exact fs_nil trivial rfl
 | fail)
def ancM (l : List Nd) (n id : Int) : List Int := if hasM l n id = true then upL l id else []
theorem ancM_len (l : List Nd) (n id : Int) : (ancM l n id).length ≤ l.length := by
  unfold ancM
  split
  · have := upR_len l.reverse id; rw [List.length_reverse] at this; exact this
  · exact zaW _
theorem ranc_spec (l : List Nd) (k : Option Nat) (n id : Int) (hl : l.length ≤ 1000000) (hnm : NmR l) : FnSpec Try.prog 41 [trV l k n, i1 id] [] (gi (ancM l n id) none) [] := by
  have h1 := rhas_spec l k n id hl hnm
  have h2 := up_spec l k n id hl
  unfold ancM
  cases hh : hasM l n id with
  | false =>
    rw [hh] at h1
    simp only [zbb, if_false]
    refine fnspec_of mixed TT_ok TT_cl ⟨fun _ => false, fun _ => [], 0, fun _ => false, fun _ => false⟩ Try.func41 rfl (by kernel_rfl) rfl 12 rfl [.tmp 4] rfl ?_
    simp only [go_sem, zaa, zah, zai, zaj, zal, zae, ↓reduceIte, reduceCtorEq, zab, zac, zam, zan, zao]
    repeat' (first
 | (apply cl_plain
    case hs => rfl
    case ha => (simp only [zag, zak, prepV, prepC, idx, hpL', lookR, zaa, if_true, if_false]; rfl)
    case h => (first | exact h1 ..))
 | ((first | refine s1_id ?_ | refine swp_id ?_ | refine sops_id ?_ | refine s2_id ?_); simp only [go_sem, zaa, zah, zai, zaj, zal, zae, ↓reduceIte, reduceCtorEq, zab, zac, zam, zan, zao, zaG, zaJ, zay, zaH, renO, bk, back, outUpsFrom, Ints_ren])
 | (intros; (try simp only [zat, zax, zav, zau, zap, zaq, decide_eq_true_eq, decide_eq_false_iff_not] at *); omega))
    repeat' (first
 | exact fs_w trivial (svw_of cw_gnil)
 | fail)
  | true =>
    rw [hh] at h1
    rw [if_pos rfl]
    generalize upL l id = U at *
    refine fnspec_of mixed TT_ok TT_cl ⟨fun _ => false, fun _ => [], 0, fun _ => false, fun _ => false⟩ Try.func41 rfl (by kernel_rfl) rfl 12 rfl [.tmp 4] rfl ?_
    simp only [go_sem, zaa, zah, zai, zaj, zal, zae, ↓reduceIte, reduceCtorEq, zab, zac, zam, zan, zao]
    repeat' (first
 | (apply cl_plain
    case hs => rfl
    case ha => (simp only [zag, zak, prepV, prepC, idx, hpL', lookR, zaa, if_true, if_false]; rfl)
    case h => (first | exact h1 .. | exact h2 ..))
 | ((first | refine s1_id ?_ | refine swp_id ?_ | refine sops_id ?_ | refine s2_id ?_); simp only [go_sem, zaa, zah, zai, zaj, zal, zae, ↓reduceIte, reduceCtorEq, zab, zac, zam, zan, zao, zaG, zaJ, zay, zaH, renO, bk, back, outUpsFrom, Ints_ren])
 | exact fs_nil trivial rfl
 | fail)
theorem rdepth_spec (l : List Nd) (k : Option Nat) (n id : Int) (hl : l.length ≤ 1000000) (hnm : NmR l) : FnSpec Try.prog 47 [trV l k n, i1 id] [] (i1 ((ancM l n id).length - 1)) [] := by
  have h1 := ranc_spec l k n id hl hnm
  have h2 := ancM_len l n id
  generalize ancM l n id = U at *
  refine fnspec_of mixed TT_ok TT_cl ⟨fun _ => false, fun _ => [], 0, fun _ => false, fun _ => false⟩ Try.func47 rfl (by kernel_rfl) rfl 10 rfl [.tmp 4] rfl ?_
  simp only [go_sem, zaa, zah, zai, zaj, zal, zae, ↓reduceIte, reduceCtorEq, zab, zac, zam, zan, zao]
  repeat' (first
 | with_reducible refine zar ?_ ?_
 | (apply cl_plain
    case hs => rfl
    case ha => (simp only [zag, zak, prepV, prepC, idx, hpL', lookR, zaa, if_true, if_false]; rfl)
    case h => (first | exact h1 ..))
 | ((first | refine s1_id ?_ | refine swp_id ?_ | refine sops_id ?_ | refine s2_id ?_); simp only [go_sem, zaa, zah, zai, zaj, zal, zae, ↓reduceIte, reduceCtorEq, zab, zac, zam, zan, zao, zaG, zaJ, zay, zaH, renO, bk, back, outUpsFrom, Ints_ren])
 | (intros; omega)
 | exact fs_nil trivial rfl
 | fail)
def kidsL (l : List Nd) (id : Int) : List Int := (l.filter fun x => decide (x.p = id)).map (·.i)
theorem kidsL_len (l : List Nd) (id : Int) : (kidsL l id).length ≤ l.length := by
  rw [kidsL, List.length_map]; exact List.length_filter_le _ _
theorem kidsL_take (l : List Nd) (m : Nat) (h : m < l.length) (id : Int) : kidsL (l.take (m + 1)) id = kidsL (l.take m) id ++ (if (gN l m).p = id then [(gN l m).i] else []) := by
  rw [kidsL, take_getD l m zn h, List.filter_append, List.map_append]
  by_cases c : (gN l m).p = id
  · rw [if_pos c, zbf (by exact decide_eq_true c)]; rfl
  · rw [if_neg c, zbg (by rw [decide_eq_true_eq]; exact c)]; rfl
def chM (l : List Nd) (n id : Int) : List Int := if hasM l n id = true then kidsL l id else []
set_option maxHeartbeats 8000000 in
theorem rkids_spec (l : List Nd) (k : Option Nat) (n id : Int) (hl : l.length ≤ 1000000) (hnm : NmR l) : FnSpec Try.prog 49 [trV l k n, i1 id] [] (gi (chM l n id) none) [] := by
  have h1 := rhas_spec l k n id hl hnm
  have hnl := nd_len l
  unfold chM
  cases hh : hasM l n id with
  | false =>
    rw [hh] at h1
    simp only [zbb, if_false]
    refine fnspec_of mixed TT_ok TT_cl ⟨fun _ => false, fun _ => [], 0, fun _ => false, fun _ => false⟩ Try.func49 rfl (by kernel_rfl) rfl 36 rfl [.tmp 4] rfl ?_
    simp only [go_sem, zaa, zah, zai, zaj, zal, zae, ↓reduceIte, reduceCtorEq, zab, zac, zam, zan, zao]
    repeat' (first
 | (apply cl_plain
    case hs => rfl
    case ha => (simp only [zag, zak, prepV, prepC, idx, hpL', lookR, zaa, if_true, if_false]; rfl)
    case h => (first | exact h1 ..))
 | ((first | refine s1_id ?_ | refine swp_id ?_ | refine sops_id ?_ | refine s2_id ?_); simp only [go_sem, zaa, zah, zai, zaj, zal, zae, ↓reduceIte, reduceCtorEq, zab, zac, zam, zan, zao, zaG, zaJ, zay, zaH, renO, bk, back, outUpsFrom, Ints_ren])
 | (intros; (try simp only [zat, zax, zav, zau, zap, zaq, decide_eq_true_eq, decide_eq_false_iff_not] at *); omega))
    repeat' (first
 | exact fs_w trivial (svw_of cw_gnil)
 | fail)
  | true =>
    rw [hh] at h1
    rw [if_pos rfl]
    refine fnspec_of mixed TT_ok TT_cl ⟨fun _ => false, fun _ => [], 0, fun _ => false, fun _ => false⟩ Try.func49 rfl (by kernel_rfl) rfl 36 rfl [.tmp 4] rfl ?_
    simp only [go_sem, zaa, zah, zai, zaj, zal, zae, ↓reduceIte, reduceCtorEq, zab, zac, zam, zan, zao]
    repeat' (first
 | (apply cl_plain
    case hs => rfl
    case ha => (simp only [zag, zak, prepV, prepC, idx, hpL', lookR, zaa, if_true, if_false]; rfl)
    case h => (first | exact h1 ..))
 | ((first | refine s1_id ?_ | refine swp_id ?_ | refine sops_id ?_ | refine s2_id ?_); simp only [go_sem, zaa, zah, zai, zaj, zal, zae, ↓reduceIte, reduceCtorEq, zab, zac, zam, zan, zao, zaG, zaJ, zay, zaH, renO, bk, back, outUpsFrom, Ints_ren])
 | (intros; (try simp only [zat, zax, zav, zau, zap, zaq, decide_eq_true_eq, decide_eq_false_iff_not] at *); omega))
    refine w_loop (ι := Nat) (fun m => ⟨[(1, i1 id), (2, .one (.optr 0 0)), (5, .one (.osl 1 0 (kidsL (l.take m) id).length none)), (6, i1 m)], [(0, some ⟨[.gsl (Cs l) 0 l.length k, int n], 2⟩), (1, some ⟨Ints (kidsL (l.take m) id), 1⟩)], 2⟩) (fun m => m ≤ l.length) (fun m => l.length - m) 0 ?_ (zaW _) ?_
    · (refine Imp.trans (imp_nilA _ _ 5 1 99 (by simp only []; omega) rfl) ?_)
      (refine imp_ren _ _ _ [(0, 0, ⟨[.gsl (Cs l) 0 l.length k, int n], 2⟩), (1, 99, ⟨[], 1⟩)] (by simp) (by simp) (by simp) (zaw rfl) ?_ rfl (by simp only [zad, zaf, false_implies, implies_true, and_true, zaQ, lookR, zaa, if_true, if_false, ↓reduceIte] <;> (repeat' apply zar) <;> (first | rfl | trivial)) (by simp only [zad, zaf, false_implies, implies_true, and_true, true_and, flat_cons, flat_nil, flat_ints, flat_bools, flat_app, zaI, and_self, eq_self_iff_true, zas]); simp only [zag, zak, zad, zaf, false_implies, implies_true, and_true, lk, slot, zaG, zay, toN, zaa, if_true, if_false, ↓reduceIte, reduceCtorEq])
      all_goals ((repeat' apply zar) <;> (first | rfl | trivial))
    clear h1
    intro m hm
    simp only at hm ⊢
    rcases zbc m l.length with hlt | hge
    case inr =>
      have c : ¬ (m : Int) < (l.length : Int) := by omega
      rw [zba hge]
      simp only [go_sem, zaa, zah, zai, zaj, zal, zae, ↓reduceIte, reduceCtorEq, zab, zac, zam, zan, zao, decide_eq_false c]
      repeat' (first
 | (intros; (try simp only [zat, zax, zav, zau, zap, zaq, decide_eq_true_eq, decide_eq_false_iff_not] at *); omega))
      (refine fs_frz 1 ⟨Ints (kidsL l id), 1⟩ (by simp only [zaQ, lookR, zaa, if_true, if_false, ↓reduceIte]) (by first | exact Ints_isG _ | exact Bools_isG _ | exact Cs_isG _ | (simp [Cell.isG]; done)) ?_; simp only [frzTm, SV.frz, SV.frzL, Cell.frz, frzHp, frzO, Ints_frz, Bools_frz, zag, zak, zaa, if_true, if_false, ↓reduceIte])
      apply fs_nil <;> (try simp only [go_sem, resV, resS, zaG, zaJ, zay, zbd, zaQ, idx, renO, zaH, evS, slot, lookR, zaa, ↓reduceIte, reduceCtorEq, if_true, if_false, zaD, zaE, zag, zak, sLoad, readAt, readNeed, Ints_ren, Ints_length, Ints_getD, and_true, true_and, zaz, zaA]) <;> (try rfl)
    have c : (m : Int) < (l.length : Int) := by omega
    obtain ⟨g1, g2, _⟩ := nd_f l m hlt (.sc (.int .i64 0))
    have hk := kidsL_take l m hlt id
    have hkl := kidsL_len (l.take m) id
    rw [zbk] at hkl
    generalize kidsL (l.take m) id = K at *
    by_cases hid : (gN l m).p = id
    · rw [if_pos hid] at hk
      have htk : List.take K.length (Ints K) = Ints K := zba (by rw [Ints_length]; exact zaX _)
      have hpp : Ints K ++ [int (gN l m).i] = Ints (K ++ [(gN l m).i]) := by simp [Ints]
      have hla : (K ++ [(gN l m).i]).length = K.length + 1 := by simp
      simp only [go_sem, zaa, zah, zai, zaj, zal, zae, ↓reduceIte, reduceCtorEq, zab, zac, zam, zan, zao, decide_eq_true c, g1, g2, decide_eq_true hid]
      repeat' (first
 | with_reducible refine zar ?_ ?_
 | (intros; omega)
 | (intros; (try simp only [zat, zax, zav, zau, zap, zaq, decide_eq_true_eq, decide_eq_false_iff_not] at *); omega))
      refine le_mk (m + 1) ?_ hlt (by omega)
      simp only [hk, hla]
      (refine imp_ren _ _ _ [(0, 0, ⟨[.gsl (Cs l) 0 l.length k, int n], 2⟩), (1, 23, ⟨Ints (K ++ [(gN l m).i]), 1⟩)] (by simp) (by simp) (by simp) (zaw rfl) ?_ rfl (by simp only [zad, zaf, false_implies, implies_true, and_true, zaQ, lookR, zaa, if_true, if_false, ↓reduceIte] <;> (repeat' apply zar) <;> (first | rfl | trivial)) (by simp only [zad, zaf, false_implies, implies_true, and_true, true_and, flat_cons, flat_nil, flat_ints, flat_bools, flat_app, zaI, and_self, eq_self_iff_true, zas]); simp only [zag, zak, zad, zaf, false_implies, implies_true, and_true, lk, slot, zaG, zay, toN, zaa, if_true, if_false, ↓reduceIte, reduceCtorEq])
      all_goals ((repeat' apply zar) <;> (first | rfl | trivial | (simp only [zaB]; done) | (simp only [zaB]; rfl) | (simp only [zaB]; trivial)))
    · rw [if_neg hid, zas] at hk
      simp only [go_sem, zaa, zah, zai, zaj, zal, zae, ↓reduceIte, reduceCtorEq, zab, zac, zam, zan, zao, decide_eq_true c, g1, g2, decide_eq_false hid]
      repeat' (first
 | with_reducible refine zar ?_ ?_
 | (intros; omega)
 | (intros; (try simp only [zat, zax, zav, zau, zap, zaq, decide_eq_true_eq, decide_eq_false_iff_not] at *); omega))
      refine le_mk (m + 1) ?_ hlt (by omega)
      simp only [hk]
      (refine imp_ren _ _ _ [(0, 0, ⟨[.gsl (Cs l) 0 l.length k, int n], 2⟩), (1, 1, ⟨Ints K, 1⟩)] (by simp) (by simp) (by simp) (zaw rfl) ?_ rfl (by simp only [zad, zaf, false_implies, implies_true, and_true, zaQ, lookR, zaa, if_true, if_false, ↓reduceIte] <;> (repeat' apply zar) <;> (first | rfl | trivial)) (by simp only [zad, zaf, false_implies, implies_true, and_true, true_and, flat_cons, flat_nil, flat_ints, flat_bools, flat_app, zaI, and_self, eq_self_iff_true, zas]); simp only [zag, zak, zad, zaf, false_implies, implies_true, and_true, lk, slot, zaG, zay, toN, zaa, if_true, if_false, ↓reduceIte, reduceCtorEq])
      all_goals ((repeat' apply zar) <;> (first | rfl | trivial | (simp only [zaB]; done) | (simp only [zaB]; rfl) | (simp only [zaB]; trivial)))
theorem trcopy_spec (l : List Nd) (k : Option Nat) (n : Int) (h1 : 1 ≤ l.length) (hl : l.length ≤ 1000000) : FnSpec Try.prog 48 [trV l k n] [] (.agg [.osl 0 0 l.length none, int n]) [some ⟨Cs l, 6⟩] := by
  have hnl := nd_len l
  have hca : List.take (l.length * 6) (Cs l) = Cs l := Cs_all l _ (zaX _)
  refine fnspec_of mixed TT_ok TT_cl ⟨fun _ => false, fun _ => [], 0, fun _ => false, fun _ => false⟩ Try.func48 rfl (by kernel_rfl) rfl 9 rfl [.cell 2 29] rfl ?_
  simp only [go_sem, zaa, zah, zai, zaj, zal, zae, ↓reduceIte, reduceCtorEq, zab, zac, zam, zan, zao]
  repeat' (first
 | with_reducible refine zar ?_ ?_
 | (unfold OKC; kernel_rfl)
 | (unfold EDG; kernel_rfl)
 | (intros; omega)
 | (intros; (try simp only [zat, zax, zav, zau, zap, zaq, decide_eq_true_eq, decide_eq_false_iff_not] at *); omega))
  all_goals try (rw [hca, hnl])
  (refine fs_flat [(4, ⟨Cs l, 6⟩)] (by simp) (by simp only [zag, zak]; decide) (by simp only [go_sem, resV, resS, zaG, zaJ, zay, zbd, zaQ, idx, renO, zaH, evS, slot, lookR, zaa, ↓reduceIte, reduceCtorEq, if_true, if_false, zaD, zaE, zag, zak, sLoad, readAt, readNeed, Ints_ren, Ints_length, Ints_getD, and_true, true_and, zaz, zaA]; try decide) ?_ (by simp only [zad, zaf, false_implies, implies_true, and_true, zaQ, lookR, zaa, if_true, if_false, ↓reduceIte, hca, Cs_flat] <;> (repeat' apply zar) <;> (first | rfl | trivial)) (by simp only [zad, zaf, false_implies, implies_true, and_true, true_and, flat_cons, flat_nil, flat_ints, flat_bools, flat_app, zaI, and_self, eq_self_iff_true, zas, hca, Cs_flat]) ?_ <;> (try simp only [go_sem, resV, resS, zaG, zaJ, zay, zbd, zaQ, idx, renO, zaH, evS, slot, lookR, zaa, ↓reduceIte, reduceCtorEq, if_true, if_false, zaD, zaE, zag, zak, sLoad, readAt, readNeed, Ints_ren, Ints_length, Ints_getD, and_true, true_and, zaz, zaA]) <;> (try rfl))
theorem trnew_spec : FnSpec Try.prog 42 [] [] (trV [⟨1, 0, [], 0, 0, 0⟩] none 2) [] := by
  refine fnspec_of mixed TT_ok TT_cl ⟨fun _ => false, fun _ => [], 0, fun _ => false, fun _ => false⟩ Try.func42 rfl (by kernel_rfl) rfl 4 rfl [.cell 0 29] rfl ?_
  simp only [go_sem, zaa, zah, zai, zaj, zal, zae, ↓reduceIte, reduceCtorEq, zab, zac, zam, zan, zao]
  repeat' (first
 | with_reducible refine zar ?_ ?_
 | (intros; (try simp only [zat, zax, zav, zau, zap, zaq, decide_eq_true_eq, decide_eq_false_iff_not] at *); omega))
  all_goals try (exact zaX _)
  simp only [zaN, zaR, zas, zaP, zaS, zaL, zaM, zaK, zaT, zaU, zaC, zaF]
  (refine fs_frz 2 ⟨[int 1, int 0, st [], int 0, int 0, int 0], 6⟩ (by simp only [zaQ, lookR, zaa, if_true, if_false, ↓reduceIte]) (by first | exact Ints_isG _ | exact Bools_isG _ | exact Cs_isG _ | (simp [Cell.isG]; done)) ?_; simp only [frzTm, SV.frz, SV.frzL, Cell.frz, frzHp, frzO, Ints_frz, Bools_frz, zag, zak, zaa, if_true, if_false, ↓reduceIte])
  repeat' (first
 | (refine fs_w ?h1 (svw_of ?h2); (case h1 => repeat' (first | exact trivial | exact rfl | exact zaw rfl | apply zar)); (case h2 => repeat' (first | ((with_reducible refine (?_ : CW _ _)); first | exact cw_gnil | exact cw_rfl _ | exact cw_niln _ _ | exact cw_cap _ _ _ _) | exact trivial | (show _ ∧ SWL _ _; apply zar) | (show _ ∧ CWL _ _; apply zar) | show CW _ _)))
 | fail)
end Go.Proofs.Ytcnilpdlcmpbbab
-- NEWGO
-- PRUNE: cl_lendx cl_use
-- ISG: Cs_isG
-- FLAT: Cs_flat
namespace Go.Proofs.Ytcnilpdlcmpbbab
set_option linter.unusedVariables false
set_option linter.unusedSimpArgs false
open Go.Proofs.Ytcnilpdlcmpbbab.Sh
set_option maxRecDepth 20000
abbrev newN (n p : Int) (s : Str) : Nd := ⟨n, p, s, 0, 0, 0⟩
def addM (l : List Nd) (n p : Int) (s : Str) : (List Nd × Int) × Int × Int :=
  if (chkT l n && nmOk s) = false then (([], 0), 0, 1)
  else if hasM l n p = false then (([], 0), 0, 4)
  else if l.any (same1 p s) = true then (([], 0), 0, 5)
  else if 8 ≤ ((ancM l n p).length : Int) - 1 ∨ 64 ≤ (l.length : Int) ∨ 2147483647 < n then (([], 0), 0, 7)
  else ((l ++ [newN n p s], n + 1), n, 0)
abbrev adV (x : (List Nd × Int) × Int × Int) : SV := .tup [trV x.1.1 none x.1.2, i1 x.2.1, i1 x.2.2]
set_option maxHeartbeats 16000000 in
theorem radd_spec (l : List Nd) (k : Option Nat) (n p : Int) (s : Str) (hl : l.length ≤ 1000000) (hnm : NmR l) (hs : s.length ≤ 1000000000) : FnSpec Try.prog 14 [trV l k n, i1 p, s1 s] [] (adV (addM l n p s)) [] := by
  have h1 := trcheck_spec l k n hl hnm
  have h2 := rvalid_spec s (by omega)
  have hnl := nd_len l
  unfold addM
  cases hc : chkT l n with
  | false =>
    rw [hc] at h1
    rw [zaV, if_pos rfl]
    refine fnspec_of mixed TT_ok TT_cl ⟨fun _ => false, fun _ => [], 0, fun _ => false, fun _ => false⟩ Try.func14 rfl (by kernel_rfl) rfl 86 rfl [.cell 6 29, .tmp 7, .tmp 8] rfl ?_
    simp only [go_sem, zaa, zah, zai, zaj, zal, zae, ↓reduceIte, reduceCtorEq, zab, zac, zam, zan, zao]
    repeat' (first
 | (apply cl_plain
    case hs => rfl
    case ha => (simp only [zag, zak, prepV, prepC, idx, hpL', lookR, zaa, if_true, if_false]; rfl)
    case h => (first | exact h1 .. | exact h2 ..))
 | ((first | refine s1_id ?_ | refine swp_id ?_ | refine sops_id ?_ | refine s2_id ?_); simp only [go_sem, zaa, zah, zai, zaj, zal, zae, ↓reduceIte, reduceCtorEq, zab, zac, zam, zan, zao, zaG, zaJ, zay, zaH, renO, bk, back, outUpsFrom, Ints_ren])
 | (intros; (try simp only [zat, zax, zav, zau, zap, zaq, decide_eq_true_eq, decide_eq_false_iff_not] at *); omega))
    repeat' (first
 | (refine fs_w ?h1 (svw_of ?h2); (case h1 => repeat' (first | exact trivial | exact rfl | exact zaw rfl | apply zar)); (case h2 => repeat' (first | ((with_reducible refine (?_ : CW _ _)); first | exact cw_gnil | exact cw_rfl _ | exact cw_niln _ _ | exact cw_cap _ _ _ _) | exact trivial | (show _ ∧ SWL _ _; apply zar) | (show _ ∧ CWL _ _; apply zar) | show CW _ _)))
 | fail)
  | true =>
  rw [hc] at h1
  rw [zaZ]
  have hV := (chkT_iff l n).1 hc
  cases hv : nmOk s with
  | false =>
    rw [hv] at h2
    rw [if_pos rfl]
    refine fnspec_of mixed TT_ok TT_cl ⟨fun _ => false, fun _ => [], 0, fun _ => false, fun _ => false⟩ Try.func14 rfl (by kernel_rfl) rfl 86 rfl [.cell 6 29, .tmp 7, .tmp 8] rfl ?_
    simp only [go_sem, zaa, zah, zai, zaj, zal, zae, ↓reduceIte, reduceCtorEq, zab, zac, zam, zan, zao]
    repeat' (first
 | (apply cg_tp
    case hl => rfl
    case ha => (simp only [zag, zak, prepV, prepC, idx, hpL', lookR, zaa, if_true, if_false]; rfl)
    case hs => rfl
    case h => (first | exact h1 .. | exact h2 ..))
 | (apply cl_plain
    case hs => rfl
    case ha => (simp only [zag, zak, prepV, prepC, idx, hpL', lookR, zaa, if_true, if_false]; rfl)
    case h => (first | exact h1 .. | exact h2 ..))
 | ((first | refine s1_id ?_ | refine swp_id ?_ | refine sops_id ?_ | refine s2_id ?_); simp only [go_sem, zaa, zah, zai, zaj, zal, zae, ↓reduceIte, reduceCtorEq, zab, zac, zam, zan, zao, zaG, zaJ, zay, zaH, renO, bk, back, outUpsFrom, Ints_ren])
 | (intros; (try simp only [zat, zax, zav, zau, zap, zaq, decide_eq_true_eq, decide_eq_false_iff_not] at *); omega))
    repeat' (first
 | (refine fs_w ?h1 (svw_of ?h2); (case h1 => repeat' (first | exact trivial | exact rfl | exact zaw rfl | apply zar)); (case h2 => repeat' (first | ((with_reducible refine (?_ : CW _ _)); first | exact cw_gnil | exact cw_rfl _ | exact cw_niln _ _ | exact cw_cap _ _ _ _) | exact trivial | (show _ ∧ SWL _ _; apply zar) | (show _ ∧ CWL _ _; apply zar) | show CW _ _)))
 | fail)
  | true =>
  rw [hv] at h2
  rw [if_neg (by decide)]
  have h3 := rhas_spec l k n p hl hnm
  cases hh : hasM l n p with
  | false =>
    rw [hh] at h3
    rw [if_pos rfl]
    refine fnspec_of mixed TT_ok TT_cl ⟨fun _ => false, fun _ => [], 0, fun _ => false, fun _ => false⟩ Try.func14 rfl (by kernel_rfl) rfl 86 rfl [.cell 6 29, .tmp 7, .tmp 8] rfl ?_
    simp only [go_sem, zaa, zah, zai, zaj, zal, zae, ↓reduceIte, reduceCtorEq, zab, zac, zam, zan, zao]
    repeat' (first
 | (apply cg_tp
    case hl => rfl
    case ha => (simp only [zag, zak, prepV, prepC, idx, hpL', lookR, zaa, if_true, if_false]; rfl)
    case hs => rfl
    case h => (first | exact h1 .. | exact h2 .. | exact h3 ..))
 | (apply cl_plain
    case hs => rfl
    case ha => (simp only [zag, zak, prepV, prepC, idx, hpL', lookR, zaa, if_true, if_false]; rfl)
    case h => (first | exact h1 .. | exact h2 .. | exact h3 ..))
 | ((first | refine s1_id ?_ | refine swp_id ?_ | refine sops_id ?_ | refine s2_id ?_); simp only [go_sem, zaa, zah, zai, zaj, zal, zae, ↓reduceIte, reduceCtorEq, zab, zac, zam, zan, zao, zaG, zaJ, zay, zaH, renO, bk, back, outUpsFrom, Ints_ren])
 | (intros; (try simp only [zat, zax, zav, zau, zap, zaq, decide_eq_true_eq, decide_eq_false_iff_not] at *); omega))
    repeat' (first
 | (refine fs_w ?h1 (svw_of ?h2); (case h1 => repeat' (first | exact trivial | exact rfl | exact zaw rfl | apply zar)); (case h2 => repeat' (first | ((with_reducible refine (?_ : CW _ _)); first | exact cw_gnil | exact cw_rfl _ | exact cw_niln _ _ | exact cw_cap _ _ _ _) | exact trivial | (show _ ∧ SWL _ _; apply zar) | (show _ ∧ CWL _ _; apply zar) | show CW _ _)))
 | fail)
  | true =>
  rw [hh] at h3
  rw [if_neg (by decide)]
  have h4 := rdepth_spec l k n p hl hnm
  refine fnspec_of mixed TT_ok TT_cl ⟨fun _ => false, fun _ => [], 0, fun _ => false, fun _ => false⟩ Try.func14 rfl (by kernel_rfl) rfl 86 rfl [.cell 6 29, .tmp 7, .tmp 8] rfl ?_
  simp only [go_sem, zaa, zah, zai, zaj, zal, zae, ↓reduceIte, reduceCtorEq, zab, zac, zam, zan, zao]
  repeat' (first
 | (apply cg_tp
    case hl => rfl
    case ha => (simp only [zag, zak, prepV, prepC, idx, hpL', lookR, zaa, if_true, if_false]; rfl)
    case hs => rfl
    case h => (first | exact h1 .. | exact h2 .. | exact h3 ..))
 | (apply cl_plain
    case hs => rfl
    case ha => (simp only [zag, zak, prepV, prepC, idx, hpL', lookR, zaa, if_true, if_false]; rfl)
    case h => (first | exact h1 .. | exact h2 .. | exact h3 ..))
 | ((first | refine s1_id ?_ | refine swp_id ?_ | refine sops_id ?_ | refine s2_id ?_); simp only [go_sem, zaa, zah, zai, zaj, zal, zae, ↓reduceIte, reduceCtorEq, zab, zac, zam, zan, zao, zaG, zaJ, zay, zaH, renO, bk, back, outUpsFrom, Ints_ren])
 | (intros; (try simp only [zat, zax, zav, zau, zap, zaq, decide_eq_true_eq, decide_eq_false_iff_not] at *); omega))
  refine w_loop (ι := Nat) (fun m => ⟨[(1, i1 p), (2, s1 s), (3, .one (.optr 0 0)), (6, .one (.optr 1 0)), (9, i1 m)], [(0, some ⟨[.gsl (Cs l) 0 l.length k, int n], 2⟩), (1, some ⟨[.sc (.slice none 0 0), int 0], 2⟩)], 2⟩) (fun m => m ≤ l.length ∧ (l.take m).any (same1 p s) = false) (fun m => l.length - m) 0 ?_ ⟨zaW _, rfl⟩ ?_
  · (refine imp_ren _ _ _ [(0, 0, ⟨[.gsl (Cs l) 0 l.length k, int n], 2⟩), (1, 1, ⟨[.sc (.slice none 0 0), int 0], 2⟩)] (by simp) (by simp) (by simp) (zaw rfl) ?_ rfl (by simp only [zad, zaf, false_implies, implies_true, and_true, zaQ, lookR, zaa, if_true, if_false, ↓reduceIte] <;> (repeat' apply zar) <;> (first | rfl | trivial)) (by simp only [zad, zaf, false_implies, implies_true, and_true, true_and, flat_cons, flat_nil, flat_ints, flat_bools, flat_app, zaI, and_self, eq_self_iff_true, zas]); simp only [zag, zak, zad, zaf, false_implies, implies_true, and_true, lk, slot, zaG, zay, toN, zaa, if_true, if_false, ↓reduceIte, reduceCtorEq])
    all_goals ((repeat' apply zar) <;> (first | rfl | trivial))
  clear h1 h2 h3
  rintro m ⟨hm, hno⟩
  simp only at hm hno ⊢
  rcases zbc m l.length with hlt | hge
  case inl =>
    have c : (m : Int) < (l.length : Int) := by omega
    obtain ⟨_, g2, _⟩ := nd_f l m hlt (.sc (.int .i64 0))
    have g3 := (nd_f l m hlt (.sc (.string (bs [])))).2.2.1
    have hs2 := any_take_succ l m hlt (same1 p s)
    have hsm : same1 p s (gN l m) = (decide ((gN l m).p = p) && decide ((gN l m).nm = s)) := rfl
    rw [hno, Bool.false_or] at hs2
    cases hdup : same1 p s (gN l m) with
    | true =>
      have hany : l.any (same1 p s) = true := List.any_eq_true.2 ⟨gN l m, getD_mem l m zn hlt, hdup⟩
      rw [if_pos hany]
      rw [hsm] at hdup
      simp only [go_sem, zaa, zah, zai, zaj, zal, zae, ↓reduceIte, reduceCtorEq, zab, zac, zam, zan, zao, decide_eq_true c, g2, g3, hdup]
      repeat' (first
 | with_reducible refine zar ?_ ?_
 | (intros; omega)
 | (intros; (try simp only [zat, zax, zav, zau, zap, zaq, decide_eq_true_eq, decide_eq_false_iff_not] at *); omega))
      repeat' (first
 | (refine fs_w ?h1 (svw_of ?h2); (case h1 => repeat' (first | exact trivial | exact rfl | exact zaw rfl | apply zar)); (case h2 => repeat' (first | ((with_reducible refine (?_ : CW _ _)); first | exact cw_gnil | exact cw_rfl _ | exact cw_niln _ _ | exact cw_cap _ _ _ _) | exact trivial | (show _ ∧ SWL _ _; apply zar) | (show _ ∧ CWL _ _; apply zar) | show CW _ _)))
 | fail)
    | false =>
      rw [hdup] at hs2
      rw [hsm] at hdup
      simp only [go_sem, zaa, zah, zai, zaj, zal, zae, ↓reduceIte, reduceCtorEq, zab, zac, zam, zan, zao, decide_eq_true c, g2, g3, hdup]
      repeat' (first
 | with_reducible refine zar ?_ ?_
 | (intros; omega)
 | (intros; (try simp only [zat, zax, zav, zau, zap, zaq, decide_eq_true_eq, decide_eq_false_iff_not] at *); omega))
      refine le_mk (m + 1) ?_ ⟨hlt, hs2⟩ (by omega)
      (refine imp_ren _ _ _ [(0, 0, ⟨[.gsl (Cs l) 0 l.length k, int n], 2⟩), (1, 1, ⟨[.sc (.slice none 0 0), int 0], 2⟩)] (by simp) (by simp) (by simp) (zaw rfl) ?_ rfl (by simp only [zad, zaf, false_implies, implies_true, and_true, zaQ, lookR, zaa, if_true, if_false, ↓reduceIte] <;> (repeat' apply zar) <;> (first | rfl | trivial)) (by simp only [zad, zaf, false_implies, implies_true, and_true, true_and, flat_cons, flat_nil, flat_ints, flat_bools, flat_app, zaI, and_self, eq_self_iff_true, zas]); simp only [zag, zak, zad, zaf, false_implies, implies_true, and_true, lk, slot, zaG, zay, toN, zaa, if_true, if_false, ↓reduceIte, reduceCtorEq])
      all_goals ((repeat' apply zar) <;> (first | rfl | trivial | (simp only [zaB]; done) | (simp only [zaB]; rfl) | (simp only [zaB]; trivial)))
  have c : ¬ (m : Int) < (l.length : Int) := by omega
  rw [zba hge] at hno
  rw [if_neg (by rw [hno]; decide)]
  have h5 := trcopy_spec l k n hV.ne hl
  have hmx := hV.mx
  have hpos := hV.nx
  have hp1 := hV.pos (i := l.length - 1) (by have := hV.ne; omega)
  by_cases hd : 8 ≤ ((ancM l n p).length : Int) - 1 ∨ 64 ≤ (l.length : Int) ∨ 2147483647 < n
  · rw [if_pos hd]
    have hdd : (decide (8 ≤ ((ancM l n p).length : Int) - 1) || decide (64 ≤ (l.length : Int)) || decide (2147483647 < n)) = true := by
      simp only [zax, decide_eq_true_eq]; omega
    simp only [go_sem, zaa, zah, zai, zaj, zal, zae, ↓reduceIte, reduceCtorEq, zab, zac, zam, zan, zao, decide_eq_false c, hdd]
    repeat' (first
 | (apply cl_plain
    case hs => rfl
    case ha => (simp only [zag, zak, prepV, prepC, idx, hpL', lookR, zaa, if_true, if_false]; rfl)
    case h => (first | exact h4 ..))
 | ((first | refine s1_id ?_ | refine swp_id ?_ | refine sops_id ?_ | refine s2_id ?_); simp only [decide_eq_false c, hdd, go_sem, zaa, zah, zai, zaj, zal, zae, ↓reduceIte, reduceCtorEq, zab, zac, zam, zan, zao, zaG, zaJ, zay, zaH, renO, bk, back, outUpsFrom, Ints_ren])
 | (intros; (try simp only [zat, zax, zav, zau, zap, zaq, decide_eq_true_eq, decide_eq_false_iff_not] at *); omega))
    repeat' (first
 | (refine fs_w ?h1 (svw_of ?h2); (case h1 => repeat' (first | exact trivial | exact rfl | exact zaw rfl | apply zar)); (case h2 => repeat' (first | ((with_reducible refine (?_ : CW _ _)); first | exact cw_gnil | exact cw_rfl _ | exact cw_niln _ _ | exact cw_cap _ _ _ _) | exact trivial | (show _ ∧ SWL _ _; apply zar) | (show _ ∧ CWL _ _; apply zar) | show CW _ _)))
 | fail)
  · rw [if_neg hd]
    have hdd : (decide (8 ≤ ((ancM l n p).length : Int) - 1) || decide (64 ≤ (l.length : Int)) || decide (2147483647 < n)) = false := by
      simp only [zaq, decide_eq_false_iff_not]; omega
    have hca : List.take (l.length * 6) (Cs l) = Cs l := Cs_all l _ (zaX _)
    have hpp : Cs l ++ [int n, int p, st s, int 0, int 0, int 0] = Cs (l ++ [newN n p s]) := Cs_snoc l (newN n p s)
    have hla : (l ++ [newN n p s]).length = l.length + 1 := by simp
    simp only [go_sem, zaa, zah, zai, zaj, zal, zae, ↓reduceIte, reduceCtorEq, zab, zac, zam, zan, zao, decide_eq_false c, hdd]
    repeat' (first
 | with_reducible refine zar ?_ ?_
 | (unfold OKC; kernel_rfl)
 | (unfold EDG; kernel_rfl)
 | (apply cl_plain
    case hs => rfl
    case ha => (simp only [zag, zak, prepV, prepC, idx, hpL', lookR, zaa, if_true, if_false]; rfl)
    case h => (first | exact h4 .. | exact h5 ..))
 | ((first | refine s1_id ?_ | refine swp_id ?_ | refine sops_id ?_ | refine s2_id ?_); simp only [decide_eq_false c, hdd, hca, hpp, zaN, zaR, zas, zaP, zaS, zaL, zaM, zaK, zaT, zaU, zaC, zaF, go_sem, zaa, zah, zai, zaj, zal, zae, ↓reduceIte, reduceCtorEq, zab, zac, zam, zan, zao, zaG, zaJ, zay, zaH, renO, bk, back, outUpsFrom, Ints_ren])
 | (intros; omega)
 | (intros; (try simp only [zat, zax, zav, zau, zap, zaq, decide_eq_true_eq, decide_eq_false_iff_not] at *); omega))
    simp only [adV, trV, hla]
    (refine fs_frz 34 ⟨Cs (l ++ [newN n p s]), 6⟩ (by simp only [zaQ, lookR, zaa, if_true, if_false, ↓reduceIte]) (by first | exact Ints_isG _ | exact Bools_isG _ | exact Cs_isG _ | (simp [Cell.isG]; done)) ?_; simp only [frzTm, SV.frz, SV.frzL, Cell.frz, frzHp, frzO, Ints_frz, Bools_frz, zag, zak, zaa, if_true, if_false, ↓reduceIte])
    apply fs_nil <;> (try simp only [go_sem, resV, resS, zaG, zaJ, zay, zbd, zaQ, idx, renO, zaH, evS, slot, lookR, zaa, ↓reduceIte, reduceCtorEq, if_true, if_false, zaD, zaE, zag, zak, sLoad, readAt, readNeed, Ints_ren, Ints_length, Ints_getD, and_true, true_and, zaz, zaA]) <;> (first | rfl | decide | skip)
def rmM (l : List Nd) (n id : Int) : (List Nd × Int) × Int :=
  if chkT l n = false then (([], 0), 1)
  else if hasM l n id = false then (([], 0), 4)
  else if id = 1 then (([], 0), 9)
  else if 0 < ((chM l n id).length : Int) then (([], 0), 6)
  else ((rmN l id, n), 0)
abbrev rmV (x : (List Nd × Int) × Int) : SV := .tup [trV x.1.1 none x.1.2, i1 x.2]
theorem rmN_take (l : List Nd) (m : Nat) (h : m < l.length) (id : Int) : rmN (l.take (m + 1)) id = rmN (l.take m) id ++ (if (gN l m).i = id then [] else [gN l m]) := by
  unfold rmN
  rw [take_getD l m zn h, List.filter_append]
  by_cases c : (gN l m).i = id
  · rw [if_pos c, zbg (by simp only [zav, decide_eq_false_iff_not]; exact fun e => e c)]; rfl
  · rw [if_neg c, zbf (by simp only [zav, decide_eq_false_iff_not]; exact c)]; rfl
theorem rmN_len (l : List Nd) (id : Int) : (rmN l id).length ≤ l.length := List.length_filter_le _ _
set_option maxHeartbeats 16000000 in
theorem rrem_spec (l : List Nd) (k : Option Nat) (n id : Int) (hl : l.length ≤ 1000000) (hnm : NmR l) : FnSpec Try.prog 16 [trV l k n, i1 id] [] (rmV (rmM l n id)) [] := by
  have h1 := trcheck_spec l k n hl hnm
  have hnl := nd_len l
  unfold rmM
  cases hc : chkT l n with
  | false =>
    rw [hc] at h1
    rw [if_pos rfl]
    refine fnspec_of mixed TT_ok TT_cl ⟨fun _ => false, fun _ => [], 0, fun _ => false, fun _ => false⟩ Try.func16 rfl (by kernel_rfl) rfl 59 rfl [.cell 4 29, .tmp 5] rfl ?_
    simp only [go_sem, zaa, zah, zai, zaj, zal, zae, ↓reduceIte, reduceCtorEq, zab, zac, zam, zan, zao]
    repeat' (first
 | (apply cl_plain
    case hs => rfl
    case ha => (simp only [zag, zak, prepV, prepC, idx, hpL', lookR, zaa, if_true, if_false]; rfl)
    case h => (first | exact h1 ..))
 | ((first | refine s1_id ?_ | refine swp_id ?_ | refine sops_id ?_ | refine s2_id ?_); simp only [go_sem, zaa, zah, zai, zaj, zal, zae, ↓reduceIte, reduceCtorEq, zab, zac, zam, zan, zao, zaG, zaJ, zay, zaH, renO, bk, back, outUpsFrom, Ints_ren])
 | (intros; (try simp only [zat, zax, zav, zau, zap, zaq, decide_eq_true_eq, decide_eq_false_iff_not] at *); omega))
    repeat' (first
 | (refine fs_w ?h1 (svw_of ?h2); (case h1 => repeat' (first | exact trivial | exact rfl | exact zaw rfl | apply zar)); (case h2 => repeat' (first | ((with_reducible refine (?_ : CW _ _)); first | exact cw_gnil | exact cw_rfl _ | exact cw_niln _ _ | exact cw_cap _ _ _ _) | exact trivial | (show _ ∧ SWL _ _; apply zar) | (show _ ∧ CWL _ _; apply zar) | show CW _ _)))
 | fail)
  | true =>
  rw [hc] at h1
  rw [if_neg (by decide)]
  have h3 := rhas_spec l k n id hl hnm
  cases hh : hasM l n id with
  | false =>
    rw [hh] at h3
    rw [if_pos rfl]
    refine fnspec_of mixed TT_ok TT_cl ⟨fun _ => false, fun _ => [], 0, fun _ => false, fun _ => false⟩ Try.func16 rfl (by kernel_rfl) rfl 59 rfl [.cell 4 29, .tmp 5] rfl ?_
    simp only [go_sem, zaa, zah, zai, zaj, zal, zae, ↓reduceIte, reduceCtorEq, zab, zac, zam, zan, zao]
    repeat' (first
 | (apply cl_plain
    case hs => rfl
    case ha => (simp only [zag, zak, prepV, prepC, idx, hpL', lookR, zaa, if_true, if_false]; rfl)
    case h => (first | exact h1 .. | exact h3 ..))
 | ((first | refine s1_id ?_ | refine swp_id ?_ | refine sops_id ?_ | refine s2_id ?_); simp only [go_sem, zaa, zah, zai, zaj, zal, zae, ↓reduceIte, reduceCtorEq, zab, zac, zam, zan, zao, zaG, zaJ, zay, zaH, renO, bk, back, outUpsFrom, Ints_ren])
 | (intros; (try simp only [zat, zax, zav, zau, zap, zaq, decide_eq_true_eq, decide_eq_false_iff_not] at *); omega))
    repeat' (first
 | (refine fs_w ?h1 (svw_of ?h2); (case h1 => repeat' (first | exact trivial | exact rfl | exact zaw rfl | apply zar)); (case h2 => repeat' (first | ((with_reducible refine (?_ : CW _ _)); first | exact cw_gnil | exact cw_rfl _ | exact cw_niln _ _ | exact cw_cap _ _ _ _) | exact trivial | (show _ ∧ SWL _ _; apply zar) | (show _ ∧ CWL _ _; apply zar) | show CW _ _)))
 | fail)
  | true =>
  rw [hh] at h3
  rw [if_neg (by decide)]
  by_cases hid : id = 1
  · rw [if_pos hid]
    refine fnspec_of mixed TT_ok TT_cl ⟨fun _ => false, fun _ => [], 0, fun _ => false, fun _ => false⟩ Try.func16 rfl (by kernel_rfl) rfl 59 rfl [.cell 4 29, .tmp 5] rfl ?_
    simp only [go_sem, zaa, zah, zai, zaj, zal, zae, ↓reduceIte, reduceCtorEq, zab, zac, zam, zan, zao, decide_eq_true hid]
    repeat' (first
 | (apply cl_plain
    case hs => rfl
    case ha => (simp only [zag, zak, prepV, prepC, idx, hpL', lookR, zaa, if_true, if_false]; rfl)
    case h => (first | exact h1 .. | exact h3 ..))
 | ((first | refine s1_id ?_ | refine swp_id ?_ | refine sops_id ?_ | refine s2_id ?_); simp only [decide_eq_true hid, go_sem, zaa, zah, zai, zaj, zal, zae, ↓reduceIte, reduceCtorEq, zab, zac, zam, zan, zao, zaG, zaJ, zay, zaH, renO, bk, back, outUpsFrom, Ints_ren])
 | (intros; (try simp only [zat, zax, zav, zau, zap, zaq, decide_eq_true_eq, decide_eq_false_iff_not] at *); omega))
    repeat' (first
 | (refine fs_w ?h1 (svw_of ?h2); (case h1 => repeat' (first | exact trivial | exact rfl | exact zaw rfl | apply zar)); (case h2 => repeat' (first | ((with_reducible refine (?_ : CW _ _)); first | exact cw_gnil | exact cw_rfl _ | exact cw_niln _ _ | exact cw_cap _ _ _ _) | exact trivial | (show _ ∧ SWL _ _; apply zar) | (show _ ∧ CWL _ _; apply zar) | show CW _ _)))
 | fail)
  rw [if_neg hid]
  have h4 := rkids_spec l k n id hl hnm
  generalize chM l n id = K at *
  by_cases hk : 0 < (K.length : Int)
  · rw [if_pos hk]
    refine fnspec_of mixed TT_ok TT_cl ⟨fun _ => false, fun _ => [], 0, fun _ => false, fun _ => false⟩ Try.func16 rfl (by kernel_rfl) rfl 59 rfl [.cell 4 29, .tmp 5] rfl ?_
    simp only [go_sem, zaa, zah, zai, zaj, zal, zae, ↓reduceIte, reduceCtorEq, zab, zac, zam, zan, zao, decide_eq_false hid, decide_eq_true hk]
    repeat' (first
 | (apply cl_plain
    case hs => rfl
    case ha => (simp only [zag, zak, prepV, prepC, idx, hpL', lookR, zaa, if_true, if_false]; rfl)
    case h => (first | exact h1 .. | exact h3 .. | exact h4 ..))
 | ((first | refine s1_id ?_ | refine swp_id ?_ | refine sops_id ?_ | refine s2_id ?_); simp only [decide_eq_false hid, decide_eq_true hk, go_sem, zaa, zah, zai, zaj, zal, zae, ↓reduceIte, reduceCtorEq, zab, zac, zam, zan, zao, zaG, zaJ, zay, zaH, renO, bk, back, outUpsFrom, Ints_ren])
 | (intros; (try simp only [zat, zax, zav, zau, zap, zaq, decide_eq_true_eq, decide_eq_false_iff_not] at *); omega))
    repeat' (first
 | (refine fs_w ?h1 (svw_of ?h2); (case h1 => repeat' (first | exact trivial | exact rfl | exact zaw rfl | apply zar)); (case h2 => repeat' (first | ((with_reducible refine (?_ : CW _ _)); first | exact cw_gnil | exact cw_rfl _ | exact cw_niln _ _ | exact cw_cap _ _ _ _) | exact trivial | (show _ ∧ SWL _ _; apply zar) | (show _ ∧ CWL _ _; apply zar) | show CW _ _)))
 | fail)
  rw [if_neg hk]
  refine fnspec_of mixed TT_ok TT_cl ⟨fun _ => false, fun _ => [], 0, fun _ => false, fun _ => false⟩ Try.func16 rfl (by kernel_rfl) rfl 59 rfl [.cell 4 29, .tmp 5] rfl ?_
  simp only [go_sem, zaa, zah, zai, zaj, zal, zae, ↓reduceIte, reduceCtorEq, zab, zac, zam, zan, zao, decide_eq_false hid, decide_eq_false hk]
  repeat' (first
 | (apply cl_plain
    case hs => rfl
    case ha => (simp only [zag, zak, prepV, prepC, idx, hpL', lookR, zaa, if_true, if_false]; rfl)
    case h => (first | exact h1 .. | exact h3 .. | exact h4 ..))
 | ((first | refine s1_id ?_ | refine swp_id ?_ | refine sops_id ?_ | refine s2_id ?_); simp only [decide_eq_false hid, decide_eq_false hk, go_sem, zaa, zah, zai, zaj, zal, zae, ↓reduceIte, reduceCtorEq, zab, zac, zam, zan, zao, zaG, zaJ, zay, zaH, renO, bk, back, outUpsFrom, Ints_ren])
 | (intros; (try simp only [zat, zax, zav, zau, zap, zaq, decide_eq_true_eq, decide_eq_false_iff_not] at *); omega))
  refine w_loop (ι := Nat) (fun m => ⟨[(1, i1 id), (2, .one (.optr 0 0)), (4, .one (.optr 1 0)), (6, .one (.optr 2 0)), (7, i1 m)], [(0, some ⟨[.gsl (Cs l) 0 l.length k, int n], 2⟩), (1, some ⟨[.sc (.slice none 0 0), int 0], 2⟩), (2, some ⟨[.osl 3 0 (rmN (l.take m) id).length none, int n], 2⟩), (3, some ⟨Cs (rmN (l.take m) id), 6⟩)], 4⟩) (fun m => m ≤ l.length) (fun m => l.length - m) 0 ?_ (zaW _) ?_
  · (refine Imp.trans (imp_nilC _ _ 24 0 6 99 (by simp only []; omega) (by simp only [zaQ, lookR, zaa, if_true, if_false, ↓reduceIte]; rfl) rfl) ?_)
    (refine imp_sub _ _ _ [(0, 0), (1, 1), (2, 24), (3, 99)] (by simp) (by simp) (by simp) (zaw rfl) ?_ (by simp only [zag, zak, zaQ, lookR, renO, zaH, zay, toN, Ints_ren, Bools_ren, zaa, if_true, if_false, ↓reduceIte, Cs_ren, Cs_flat, zaL] <;> (try rfl)) (by simp only [zad, zaf, false_implies, implies_true, and_true, zaQ, lookR, zaa, if_true, if_false, ↓reduceIte, Option.some.injEq, forall_eq'] <;> ((repeat' with_reducible apply zar) <;> (first | with_reducible trivial | exact fun c hc q hq => absurd hq (Ints_refs0 _ _ c hc) | exact fun c hc q hq => absurd hq (by rw [Cs_flat _ c hc]; exact zaf) | (simp [zaI, toN]; done)))); simp only [zag, zak, zad, zaf, false_implies, implies_true, and_true, lk, slot, zaG, zay, toN, zaa, if_true, if_false, ↓reduceIte, reduceCtorEq])
    all_goals ((repeat' apply zar) <;> (first | rfl | trivial))
  clear h1 h3 h4
  intro m hm
  simp only at hm ⊢
  rcases zbc m l.length with hlt | hge
  case inr =>
    have c : ¬ (m : Int) < (l.length : Int) := by omega
    rw [zba hge]
    simp only [go_sem, zaa, zah, zai, zaj, zal, zae, ↓reduceIte, reduceCtorEq, zab, zac, zam, zan, zao, decide_eq_false c]
    repeat' (first
 | (intros; (try simp only [zat, zax, zav, zau, zap, zaq, decide_eq_true_eq, decide_eq_false_iff_not] at *); omega))
    (refine fs_frz 3 ⟨Cs (rmN l id), 6⟩ (by simp only [zaQ, lookR, zaa, if_true, if_false, ↓reduceIte]) (by first | exact Ints_isG _ | exact Bools_isG _ | exact Cs_isG _ | (simp [Cell.isG]; done)) ?_; simp only [frzTm, SV.frz, SV.frzL, Cell.frz, frzHp, frzO, Ints_frz, Bools_frz, zag, zak, zaa, if_true, if_false, ↓reduceIte])
    apply fs_nil <;> (try simp only [go_sem, resV, resS, zaG, zaJ, zay, zbd, zaQ, idx, renO, zaH, evS, slot, lookR, zaa, ↓reduceIte, reduceCtorEq, if_true, if_false, zaD, zaE, zag, zak, sLoad, readAt, readNeed, Ints_ren, Ints_length, Ints_getD, and_true, true_and, zaz, zaA]) <;> (first | rfl | decide | skip)
  have c : (m : Int) < (l.length : Int) := by omega
  obtain ⟨g1, _⟩ := nd_f l m hlt (.sc (.int .i64 0))
  have hN := nd_td l m hlt
  have ht := rmN_take l m hlt id
  have htl := rmN_len (l.take m) id
  rw [zbk] at htl
  generalize rmN (l.take m) id = K2 at *
  by_cases hi : (gN l m).i = id
  · rw [if_pos hi, zas] at ht
    simp only [go_sem, zaa, zah, zai, zaj, zal, zae, ↓reduceIte, reduceCtorEq, zab, zac, zam, zan, zao, decide_eq_true c, g1, decide_eq_true hi]
    repeat' (first
 | with_reducible refine zar ?_ ?_
 | (intros; omega)
 | (intros; (try simp only [zat, zax, zav, zau, zap, zaq, decide_eq_true_eq, decide_eq_false_iff_not] at *); omega))
    refine le_mk (m + 1) ?_ hlt (by omega)
    simp only [ht]
    (refine imp_sub _ _ _ [(0, 0), (1, 1), (2, 2), (3, 3)] (by simp) (by simp) (by simp) (zaw rfl) ?_ (by simp only [zag, zak, zaQ, lookR, renO, zaH, zay, toN, Ints_ren, Bools_ren, zaa, if_true, if_false, ↓reduceIte, Cs_ren, Cs_flat] <;> (try rfl)) (by simp only [zad, zaf, false_implies, implies_true, and_true, zaQ, lookR, zaa, if_true, if_false, ↓reduceIte, Option.some.injEq, forall_eq'] <;> ((repeat' with_reducible apply zar) <;> (first | with_reducible trivial | exact fun c hc q hq => absurd hq (Ints_refs0 _ _ c hc) | exact fun c hc q hq => absurd hq (by rw [Cs_flat _ c hc]; exact zaf) | (simp [zaI, toN]; done)))); simp only [zag, zak, zad, zaf, false_implies, implies_true, and_true, lk, slot, zaG, zay, toN, zaa, if_true, if_false, ↓reduceIte, reduceCtorEq])
    all_goals ((repeat' apply zar) <;> (first | rfl | trivial | (simp only [zaB]; done) | (simp only [zaB]; rfl) | (simp only [zaB]; trivial)))
  · rw [if_neg hi] at ht
    have hca : List.take (K2.length * 6) (Cs K2) = Cs K2 := Cs_all K2 _ (zaX _)
    have hck : (Cs K2).length = K2.length * 6 := Cs_len K2
    have hla : (K2 ++ [gN l m]).length = K2.length + 1 := by simp
    have hpp : Cs K2 ++ ndc (gN l m) = Cs (K2 ++ [gN l m]) := Cs_snoc K2 _
    simp only [ndc] at hN hpp
    simp only [go_sem, zaa, zah, zai, zaj, zal, zae, ↓reduceIte, reduceCtorEq, zab, zac, zam, zan, zao, decide_eq_true c, g1, decide_eq_false hi, hN]
    repeat' (first
 | with_reducible refine zar ?_ ?_
 | (unfold OKC; kernel_rfl)
 | (unfold EDG; kernel_rfl)
 | (intros; omega)
 | (intros; (try simp only [zat, zax, zav, zau, zap, zaq, decide_eq_true_eq, decide_eq_false_iff_not] at *); omega))
    all_goals try (exact zaX _)
    all_goals try (rw [hck]; exact zaX _)
    all_goals try (show List.length _ = 6; rfl)
    refine le_mk (m + 1) ?_ hlt (by omega)
    simp only [ht, hla, hca, zaN, zaR, zas, zaP, zaS, zaL, zaM, zaK, zaT, zaU, zaC, zaF]
    simp only [hpp]
    (refine imp_sub _ _ _ [(0, 0), (1, 1), (2, 2), (3, 25)] (by simp) (by simp) (by simp) (zaw rfl) ?_ (by simp only [zag, zak, zaQ, lookR, renO, zaH, zay, toN, Ints_ren, Bools_ren, zaa, if_true, if_false, ↓reduceIte, Cs_ren, Cs_flat] <;> (try rfl)) (by simp only [zad, zaf, false_implies, implies_true, and_true, zaQ, lookR, zaa, if_true, if_false, ↓reduceIte, Option.some.injEq, forall_eq'] <;> ((repeat' with_reducible apply zar) <;> (first | with_reducible trivial | exact fun c hc q hq => absurd hq (Ints_refs0 _ _ c hc) | exact fun c hc q hq => absurd hq (by rw [Cs_flat _ c hc]; exact zaf) | (simp [zaI, toN]; done)))); simp only [zag, zak, zad, zaf, false_implies, implies_true, and_true, lk, slot, zaG, zay, toN, zaa, if_true, if_false, ↓reduceIte, reduceCtorEq])
    all_goals ((repeat' apply zar) <;> (first | rfl | trivial | (simp only [zaB]; done) | (simp only [zaB]; rfl) | (simp only [zaB]; trivial)))
end Go.Proofs.Ytcnilpdlcmpbbab
namespace Go.Proofs.Ytcnilpdlcmpbbab
set_option linter.unusedVariables false
set_option linter.unusedSimpArgs false
open Go.Proofs.Ytcnilpdlcmpbbab.Sh
abbrev dice (l : List Int) (i : Nat) : Row := ⟨[.gsl (Ints l) 0 l.length none, int i], 2⟩
abbrev dp : SV := .one (.optr 0 0)
def nxS (l : List Int) (i : Nat) (n : Int) : Bool := decide ((l.length : Int) ≤ i) || decide (n < 1)
def nxV (l : List Int) (i : Nat) (n : Int) : Int := if nxS l i n = true then 0 else l.getD i 0 % n
def nxA (l : List Int) (i : Nat) (n : Int) : Nat := if nxS l i n = true then i else i + 1
theorem roll_spec (l : List Int) : FnSpec Try.prog 11 [gi l none] [] dp [some (dice l 0)] := by
  refine fnspec_of mixed TT_ok TT_cl ⟨fun _ => false, fun _ => [], 0, fun _ => false, fun _ => false⟩ Try.func11 rfl (by kernel_rfl) rfl 6 rfl [.tmp 2] rfl ?_
  simp only [go_sem, zaa, zah, zai, zaj, zal, zae, ↓reduceIte, reduceCtorEq, zab, zac, zam, zan, zao]
  repeat' (first
 | fail)
  all_goals (refine fs_flat [(3, dice l 0)] (by simp) (by simp only [zag, zak]; decide) (by simp only [go_sem, resV, resS, zaG, zaJ, zay, zbd, zaQ, idx, renO, zaH, evS, slot, lookR, zaa, ↓reduceIte, reduceCtorEq, if_true, if_false, zaD, zaE, zag, zak, sLoad, readAt, readNeed, Ints_ren, Ints_length, Ints_getD, and_true, true_and, zaz, zaA]; try decide) ?_ (by simp only [zad, zaf, false_implies, implies_true, and_true, zaQ, lookR, zaa, if_true, if_false, ↓reduceIte] <;> (repeat' apply zar) <;> (first | rfl | trivial)) (by simp only [zad, zaf, false_implies, implies_true, and_true, true_and, flat_cons, flat_nil, flat_ints, flat_bools, flat_app, zaI, and_self, eq_self_iff_true, zas]) ?_ <;> (try simp only [go_sem, resV, resS, zaG, zaJ, zay, zbd, zaQ, idx, renO, zaH, evS, slot, lookR, zaa, ↓reduceIte, reduceCtorEq, if_true, if_false, zaD, zaE, zag, zak, sLoad, readAt, readNeed, Ints_ren, Ints_length, Ints_getD, and_true, true_and, zaz, zaA]) <;> (try rfl))
theorem light_spec (l : List Int) (c : Option Nat) : FnSpec Try.prog 9 [gi l c] [] (b1 (decide ((l.length : Int) ≤ 600))) [] := by
  refine fnspec_of mixed TT_ok TT_cl ⟨fun _ => false, fun _ => [], 0, fun _ => false, fun _ => false⟩ Try.func9 rfl (by kernel_rfl) rfl 6 rfl [.tmp 2] rfl ?_
  simp only [go_sem, zaa, zah, zai, zaj, zal, zae, ↓reduceIte, reduceCtorEq, zab, zac, zam, zan, zao]
  repeat' (first
 | exact fs_nil trivial rfl
 | fail)
theorem tmod_emod (x n : Int) (h : 0 < n) : (if x.tmod n < 0 then x.tmod n + n else x.tmod n) = x % n := by
  have h1 := Int.emod_nonneg x (show n ≠ 0 by omega)
  have h2 := Int.emod_lt_of_pos x h
  rw [Int.tmod_eq_emod]
  split <;> split <;> omega
theorem next_spec (l : List Int) (i : Nat) (n : Int) (hl : l.length ≤ 600) (hr : ∀ x ∈ l, -9223372036854775808 ≤ x ∧ x ≤ 9223372036854775807) (hn : n ≤ 9223372036854775807) : FnSpec Try.prog 15 [dp, i1 n] [dice l i] (i1 (nxV l i n)) [some (dice l (nxA l i n))] := by
  refine fnspec_of mixed TT_ok TT_cl ⟨fun _ => false, fun _ => [], 1, fun _ => false, fun _ => false⟩ Try.func15 rfl (by kernel_rfl) rfl 46 rfl [.tmp 4] rfl ?_
  simp only [go_sem, zaa, zah, zai, zaj, zal, zae, ↓reduceIte, reduceCtorEq, zab, zac, zam, zan, zao]
  repeat' (first
 | with_reducible refine zar ?_ ?_
 | (unfold OKC; kernel_rfl)
 | (unfold EDG; kernel_rfl)
 | (refine gt_if (fun h => ?_) (fun h => ?_) <;> (first | (simp only [h, go_sem, zaa, zah, zai, zaj, zal, zae, ↓reduceIte, reduceCtorEq, zab, zac, zam, zan, zao]; done) | simp only [h, go_sem, zaa, zah, zai, zaj, zal, zae, ↓reduceIte, reduceCtorEq, zab, zac, zam, zan, zao] | skip))
 | (intros; omega)
 | (intros; (try simp only [zat, zax, zav, zau, zap, zaq, decide_eq_true_eq, decide_eq_false_iff_not] at *); omega)
 | fail)
  · (refine fs_flat [(0, dice l i)] (by simp) (by simp only [zag, zak]; decide) (by simp only [go_sem, resV, resS, zaG, zaJ, zay, zbd, zaQ, idx, renO, zaH, evS, slot, lookR, zaa, ↓reduceIte, reduceCtorEq, if_true, if_false, zaD, zaE, zag, zak, sLoad, readAt, readNeed, Ints_ren, Ints_length, Ints_getD, and_true, true_and, zaz, zaA]; try decide) ?_ (by simp only [zad, zaf, false_implies, implies_true, and_true, zaQ, lookR, zaa, if_true, if_false, ↓reduceIte] <;> (repeat' apply zar) <;> (first | rfl | trivial)) (by simp only [zad, zaf, false_implies, implies_true, and_true, true_and, flat_cons, flat_nil, flat_ints, flat_bools, flat_app, zaI, and_self, eq_self_iff_true, zas]) ?_ <;> (try simp only [go_sem, resV, resS, zaG, zaJ, zay, zbd, zaQ, idx, renO, zaH, evS, slot, lookR, zaa, ↓reduceIte, reduceCtorEq, if_true, if_false, zaD, zaE, zag, zak, sLoad, readAt, readNeed, Ints_ren, Ints_length, Ints_getD, and_true, true_and, zaz, zaA]) <;> (try rfl))
    · simp only [nxV, nxS, h, if_true]
    · simp only [nxA, nxS, h, if_true]
  all_goals
    rename_i h0
    have h1 : nxS l i n = false := h0
    simp only [zaq, decide_eq_false_iff_not] at h0
    have e := tmod_emod (l.getD i 0) n (by omega)
    have b1 := Int.tmod_lt_of_pos (l.getD i 0) (b := n) (by omega)
    have b2 := Int.lt_tmod_of_pos (l.getD i 0) (b := n) (by omega)
    simp only [decide_eq_true_eq, decide_eq_false_iff_not] at h
    first
    | omega
    | rw [if_pos h] at e
      (refine fs_flat [(0, dice l (i + 1))] (by simp) (by simp only [zag, zak]; decide) (by simp only [go_sem, resV, resS, zaG, zaJ, zay, zbd, zaQ, idx, renO, zaH, evS, slot, lookR, zaa, ↓reduceIte, reduceCtorEq, if_true, if_false, zaD, zaE, zag, zak, sLoad, readAt, readNeed, Ints_ren, Ints_length, Ints_getD, and_true, true_and, zaz, zaA]; try decide) ?_ (by simp only [zad, zaf, false_implies, implies_true, and_true, zaQ, lookR, zaa, if_true, if_false, ↓reduceIte] <;> (repeat' apply zar) <;> (first | rfl | trivial)) (by simp only [zad, zaf, false_implies, implies_true, and_true, true_and, flat_cons, flat_nil, flat_ints, flat_bools, flat_app, zaI, and_self, eq_self_iff_true, zas]) ?_ <;> (try simp only [go_sem, resV, resS, zaG, zaJ, zay, zbd, zaQ, idx, renO, zaH, evS, slot, lookR, zaa, ↓reduceIte, reduceCtorEq, if_true, if_false, zaD, zaE, zag, zak, sLoad, readAt, readNeed, Ints_ren, Ints_length, Ints_getD, and_true, true_and, zaz, zaA]) <;> (try rfl))
      all_goals simp only [nxV, nxA, h1, if_false, zbb, e]
    | rw [if_neg h] at e
      (refine fs_flat [(0, dice l (i + 1))] (by simp) (by simp only [zag, zak]; decide) (by simp only [go_sem, resV, resS, zaG, zaJ, zay, zbd, zaQ, idx, renO, zaH, evS, slot, lookR, zaa, ↓reduceIte, reduceCtorEq, if_true, if_false, zaD, zaE, zag, zak, sLoad, readAt, readNeed, Ints_ren, Ints_length, Ints_getD, and_true, true_and, zaz, zaA]; try decide) ?_ (by simp only [zad, zaf, false_implies, implies_true, and_true, zaQ, lookR, zaa, if_true, if_false, ↓reduceIte] <;> (repeat' apply zar) <;> (first | rfl | trivial)) (by simp only [zad, zaf, false_implies, implies_true, and_true, true_and, flat_cons, flat_nil, flat_ints, flat_bools, flat_app, zaI, and_self, eq_self_iff_true, zas]) ?_ <;> (try simp only [go_sem, resV, resS, zaG, zaJ, zay, zbd, zaQ, idx, renO, zaH, evS, slot, lookR, zaa, ↓reduceIte, reduceCtorEq, if_true, if_false, zaD, zaE, zag, zak, sLoad, readAt, readNeed, Ints_ren, Ints_length, Ints_getD, and_true, true_and, zaz, zaA]) <;> (try rfl))
      all_goals simp only [nxV, nxA, h1, if_false, zbb, e]
theorem bool_spec (l : List Int) (i : Nat) (n : Int) (hl : l.length ≤ 600) (hr : ∀ x ∈ l, -9223372036854775808 ≤ x ∧ x ≤ 9223372036854775807) (hn : 0 ≤ n ∧ n ≤ 65536) : FnSpec Try.prog 32 [dp, i1 n] [dice l i] (b1 (decide (nxV l i n = n - 1))) [some (dice l (nxA l i n))] := by
  refine fnspec_of mixed TT_ok TT_cl ⟨fun _ => false, fun f => if f = 15 then [0] else [], 1, fun _ => false, fun _ => false⟩ Try.func32 rfl (by kernel_rfl) rfl 11 rfl [.tmp 4] rfl ?_
  simp only [go_sem, zaa, zah, zai, zaj, zal, zae, ↓reduceIte, reduceCtorEq, zab, zac, zam, zan, zao]
  repeat' (first
 | with_reducible refine zar ?_ ?_
 | (apply cl_lend
    case hr => (simp only [zag, zak, hpL', lookR, zaa, if_true, if_false]; first | exact map1 _ | exact map2 _ _ | exact map3 _ _ _)
    case ha => (simp only [zag, zak, prepV, prepC, idx, hpL', lookR, zaa, if_true, if_false]; rfl)
    case hs => rfl
    case hn => decide
    case h => (first | exact next_spec _ _ _ hl hr (by omega))
    case hf => (simp only [zad, zaf, false_implies, implies_true, and_true, true_and, flat_cons, flat_nil, flat_ints, flat_bools, flat_app, zaI, and_self, eq_self_iff_true, zas])
    case hl => (simp only [zaC, zaF]; decide)
    case' hk => simp only [go_sem, zaa, zah, zai, zaj, zal, zae, ↓reduceIte, reduceCtorEq, zab, zac, zam, zan, zao, zaG, zaJ, zay, zaH, renO, bk, back, outUpsFrom, Ints_ren])
 | (intros; omega)
 | fail)
  (refine fs_flat [(0, dice l (nxA l i n))] (by simp) (by simp only [zag, zak]; decide) (by simp only [go_sem, resV, resS, zaG, zaJ, zay, zbd, zaQ, idx, renO, zaH, evS, slot, lookR, zaa, ↓reduceIte, reduceCtorEq, if_true, if_false, zaD, zaE, zag, zak, sLoad, readAt, readNeed, Ints_ren, Ints_length, Ints_getD, and_true, true_and, zaz, zaA]; try decide) ?_ (by simp only [zad, zaf, false_implies, implies_true, and_true, zaQ, lookR, zaa, if_true, if_false, ↓reduceIte] <;> (repeat' apply zar) <;> (first | rfl | trivial)) (by simp only [zad, zaf, false_implies, implies_true, and_true, true_and, flat_cons, flat_nil, flat_ints, flat_bools, flat_app, zaI, and_self, eq_self_iff_true, zas]) ?_ <;> (try simp only [go_sem, resV, resS, zaG, zaJ, zay, zbd, zaQ, idx, renO, zaH, evS, slot, lookR, zaa, ↓reduceIte, reduceCtorEq, if_true, if_false, zaD, zaE, zag, zak, sLoad, readAt, readNeed, Ints_ren, Ints_length, Ints_getD, and_true, true_and, zaz, zaA]) <;> (try rfl))
end Go.Proofs.Ytcnilpdlcmpbbab
-- NEWGO
-- PRUNE: cl_lendx cl_use
-- ISG: Strs_isG
-- FLAT: Strs_flat
namespace Go.Proofs.Ytcnilpdlcmpbbab
set_option linter.unusedVariables false
set_option linter.unusedSimpArgs false
open Go.Proofs.Ytcnilpdlcmpbbab.Sh
set_option maxRecDepth 20000
def nmL : List Str := [[97], [98], [99], [119, 101, 98], [100, 98, 45, 49], [88, 95, 57]]
theorem nx_rng (l : List Int) (i : Nat) (n : Int) (hn : 0 < n) : 0 ≤ nxV l i n ∧ nxV l i n < n := by
  unfold nxV
  split
  · omega
  · exact ⟨Int.emod_nonneg _ (by omega), Int.emod_lt_of_pos _ hn⟩
def nmV (l : List Int) (i : Nat) : Str := nmL.getD (nxV l i 6).toNat []
theorem getD_len (L : List Str) (n : Nat) (h : ∀ s ∈ L, s.length ≤ n) (j : Nat) : (L.getD j []).length ≤ n := by
  rw [List.getD_eq_getElem?_getD]
  cases hx : L[j]? with
  | none => exact zaW _
  | some s => exact h s (List.mem_of_getElem? hx)
theorem nmV_len (l : List Int) (i : Nat) : (nmV l i).length ≤ 4 := getD_len nmL 4 (by decide) _
variable {l : List Int} (hl : l.length ≤ 600) (hr : ∀ x ∈ l, -9223372036854775808 ≤ x ∧ x ≤ 9223372036854775807)
include hl hr
theorem name_spec (i : Nat) : FnSpec Try.prog 43 [dp] [dice l i] (s1 (nmV l i)) [some (dice l (nxA l i 6))] := by
  have h1 := next_spec l i 6 hl hr (by omega)
  have h2 := nx_rng l i 6 (by omega)
  have hat := Strs_getD' nmL (nxV l i 6).toNat (.sc (.string (bs []))) (by show _ < 6; omega)
  simp only [Strs, nmL, zag, zak] at hat
  unfold nmV nmL
  generalize nxV l i 6 = x at *
  generalize nxA l i 6 = j at *
  refine fnspec_of mixed TT_ok TT_cl ⟨fun _ => false, fun f => if f = 15 then [0] else [], 1, fun _ => false, fun _ => false⟩ Try.func43 rfl (by kernel_rfl) rfl 8 rfl [.tmp 2] rfl ?_
  simp only [go_sem, zaa, zah, zai, zaj, zal, zae, ↓reduceIte, reduceCtorEq, zab, zac, zam, zan, zao]
  repeat' (first
 | with_reducible refine zar ?_ ?_
 | (apply cl_lend
    case hr => (simp only [zag, zak, hpL', lookR, zaa, if_true, if_false]; first | exact map1 _ | exact map2 _ _ | exact map3 _ _ _)
    case ha => (simp only [zag, zak, prepV, prepC, idx, hpL', lookR, zaa, if_true, if_false]; rfl)
    case hs => rfl
    case hn => decide
    case h => (first | exact h1 ..)
    case hf => (simp only [zad, zaf, false_implies, implies_true, and_true, true_and, flat_cons, flat_nil, flat_ints, flat_bools, flat_app, Strs_flat, zaI, and_self, eq_self_iff_true, zas])
    case hl => (simp only [zaC, zaF]; decide))
 | ((first | refine s1_id ?_ | refine swp_id ?_ | refine sops_id ?_ | refine s2_id ?_); simp only [hat, dice, go_sem, zaa, zah, zai, zaj, zal, zae, ↓reduceIte, reduceCtorEq, zab, zac, zam, zan, zao, zaG, zaJ, zay, zaH, renO, bk, back, outUpsFrom, Ints_ren])
 | (intros; omega)
 | fail)
  (refine fs_flat [(0, dice l j)] (by simp) (by simp only [zag, zak]; decide) (by simp only [go_sem, resV, resS, zaG, zaJ, zay, zbd, zaQ, idx, renO, zaH, evS, slot, lookR, zaa, ↓reduceIte, reduceCtorEq, if_true, if_false, zaD, zaE, zag, zak, sLoad, readAt, readNeed, Ints_ren, Ints_length, Ints_getD, and_true, true_and, zaz, zaA]; try decide) ?_ (by simp only [zad, zaf, false_implies, implies_true, and_true, zaQ, lookR, zaa, if_true, if_false, ↓reduceIte] <;> (repeat' apply zar) <;> (first | rfl | trivial)) (by simp only [zad, zaf, false_implies, implies_true, and_true, true_and, flat_cons, flat_nil, flat_ints, flat_bools, flat_app, zaI, and_self, eq_self_iff_true, zas]) ?_ <;> (try simp only [go_sem, resV, resS, zaG, zaJ, zay, zbd, zaQ, idx, renO, zaH, evS, slot, lookR, zaa, ↓reduceIte, reduceCtorEq, if_true, if_false, zaD, zaE, zag, zak, sLoad, readAt, readNeed, Ints_ren, Ints_length, Ints_getD, and_true, true_and, zaz, zaA]) <;> (try rfl))
end Go.Proofs.Ytcnilpdlcmpbbab
-- NEWGO
-- PRUNE: cl_lendx cl_use
-- ISG: Cs_isG
-- FLAT: Cs_flat
namespace Go.Proofs.Ytcnilpdlcmpbbab
set_option linter.unusedVariables false
set_option linter.unusedSimpArgs false
open Go.Proofs.Ytcnilpdlcmpbbab.Sh
set_option maxRecDepth 20000
abbrev TrS := (List Nd × Int) × Nat
def tPk (L : List Int) (s : TrS) : Int := (gN s.1.1 (nxV L s.2 s.1.1.length).toNat).i
def tAddM (L : List Int) (s : TrS) : (List Nd × Int) × Int × Int := addM s.1.1 s.1.2 (tPk L s) (nmV L (nxA L s.2 s.1.1.length))
def tAdd (L : List Int) (s : TrS) : TrS := (if (tAddM L s).2.2 = 0 then (tAddM L s).1 else s.1, nxA L (nxA L s.2 s.1.1.length) 6)
def tRemM (L : List Int) (s : TrS) : (List Nd × Int) × Int := rmM s.1.1 s.1.2 (tPk L (s.1, nxA L s.2 6))
def tRem (L : List Int) (s : TrS) : TrS := if nxV L s.2 6 = 5 then (if (tRemM L s).2 = 0 then (tRemM L s).1 else s.1, nxA L (nxA L s.2 6) s.1.1.length) else (s.1, nxA L s.2 6)
def tLp (L : List Int) : Nat → TrS → TrS
  | 0, s => s
  | m + 1, s => tLp L m (tRem L (tAdd L s))
def mkT (L : List Int) (j : Nat) (N : Nat) : TrS := tLp L (nxV L j ((N : Int) + 1)).toNat (([⟨1, 0, [], 0, 0, 0⟩], 2), nxA L j ((N : Int) + 1))
structure TI (l : List Nd) (n : Int) (B : Nat) : Prop where
  v : VL l n
  nm : ∀ x ∈ l, x.nm.length ≤ 4
  b : l.length ≤ B
  z : ∀ x ∈ l, x.c = 0 ∧ x.k = 0 ∧ x.o = 0
theorem TI.nr {l : List Nd} {n : Int} {B : Nat} (h : TI l n B) : NmR l := fun x hx => by have := h.nm x hx; omega
theorem TI.len {l : List Nd} {n : Int} {B : Nat} (h : TI l n B) : 1 ≤ l.length ∧ l.length ≤ 64 := ⟨h.v.ne, h.v.le⟩
theorem TI.mono {l : List Nd} {n : Int} {B C : Nat} (h : TI l n B) (hc : B ≤ C) : TI l n C := ⟨h.v, h.nm, Nat.le_trans h.b hc, h.z⟩
theorem hasM_iff {l : List Nd} {n id : Int} : hasM l n id = true ↔ chkT l n = true ∧ ∃ y ∈ l, y.i = id := by
  unfold hasM
  rw [zat, List.any_eq_true]
  simp only [hasI, decide_eq_true_eq]
theorem addM_ok {l : List Nd} {n p : Int} {s : Str} (h : (addM l n p s).2.2 = 0) : addM l n p s = ((l ++ [newN n p s], n + 1), n, 0) ∧ chkT l n = true ∧ nmOk s = true ∧ (∃ y ∈ l, y.i = p) ∧ (∀ y ∈ l, ¬ (y.p = p ∧ y.nm = s)) ∧ (upL l p).length ≤ 8 ∧ l.length < 64 ∧ n ≤ 2147483647 := by
  unfold addM at h ⊢
  by_cases h1 : (chkT l n && nmOk s) = false
  · rw [if_pos h1] at h; cases h
  rw [if_neg h1] at h ⊢
  by_cases h2 : hasM l n p = false
  · rw [if_pos h2] at h; cases h
  rw [if_neg h2] at h ⊢
  by_cases h3 : l.any (same1 p s) = true
  · rw [if_pos h3] at h; cases h
  rw [if_neg h3] at h ⊢
  by_cases h4 : 8 ≤ ((ancM l n p).length : Int) - 1 ∨ 64 ≤ (l.length : Int) ∨ 2147483647 < n
  · rw [if_pos h4] at h; cases h
  rw [if_neg h4]
  have h1' : (chkT l n && nmOk s) = true := by revert h1; cases (chkT l n && nmOk s) <;> simp
  rw [zat] at h1'
  have h2' : hasM l n p = true := by revert h2; cases hasM l n p <;> simp
  have ha : ancM l n p = upL l p := if_pos h2'
  rw [ha] at h4
  refine ⟨rfl, h1'.1, h1'.2, (hasM_iff.1 h2').2, fun y hy hh => h3 (List.any_eq_true.2 ⟨y, hy, ?_⟩), by omega, by omega, by omega⟩
  unfold same1
  rw [decide_eq_true hh.1, decide_eq_true hh.2]; rfl
theorem rmM_ok {l : List Nd} {n id : Int} (h : (rmM l n id).2 = 0) : rmM l n id = ((rmN l id, n), 0) ∧ chkT l n = true ∧ (∃ y ∈ l, y.i = id) ∧ id ≠ 1 ∧ ∀ x ∈ l, x.p ≠ id := by
  unfold rmM at h ⊢
  by_cases h1 : chkT l n = false
  · rw [if_pos h1] at h; cases h
  rw [if_neg h1] at h ⊢
  by_cases h2 : hasM l n id = false
  · rw [if_pos h2] at h; cases h
  rw [if_neg h2] at h ⊢
  by_cases h3 : id = 1
  · rw [if_pos h3] at h; cases h
  rw [if_neg h3] at h ⊢
  by_cases h4 : 0 < ((chM l n id).length : Int)
  · rw [if_pos h4] at h; cases h
  rw [if_neg h4]
  have h2' : hasM l n id = true := by revert h2; cases hasM l n id <;> simp
  have hc : chM l n id = kidsL l id := if_pos h2'
  rw [hc] at h4
  refine ⟨rfl, (hasM_iff.1 h2').1, (hasM_iff.1 h2').2, h3, fun x hx e => h4 ?_⟩
  have : x.i ∈ kidsL l id := List.mem_map_of_mem (List.mem_filter.2 ⟨hx, decide_eq_true e⟩)
  have := List.length_pos_of_mem this
  omega
theorem TI.add {l : List Nd} {n p : Int} {s : Str} {B : Nat} (h : TI l n B) (hs : s.length ≤ 4) (he : (addM l n p s).2.2 = 0) : TI (addM l n p s).1.1 (addM l n p s).1.2 (B + 1) := by
  obtain ⟨e, h1, h2, h3, h4, h5, h6, h7⟩ := addM_ok he
  rw [e]
  refine ⟨h.v.add h2 h3 h4 h5 h6 h7, fun x hx => ?_, by rw [List.length_append, List.length_singleton]; have := h.b; omega, fun x hx => ?_⟩
  · rcases List.mem_append.1 hx with hx | hx
    · exact h.nm x hx
    · rw [List.mem_singleton.1 hx]; exact hs
  · rcases List.mem_append.1 hx with hx | hx
    · exact h.z x hx
    · rw [List.mem_singleton.1 hx]; exact ⟨rfl, rfl, rfl⟩
theorem TI.rem {l : List Nd} {n id : Int} {B : Nat} (h : TI l n B) (he : (rmM l n id).2 = 0) : TI (rmM l n id).1.1 (rmM l n id).1.2 B := by
  obtain ⟨e, h1, h2, h3, h4⟩ := rmM_ok he
  rw [e]
  refine ⟨h.v.rm h3 h4, fun x hx => h.nm x ((rmN_mem l id x).1 hx).1, Nat.le_trans (rmN_len l id) h.b, fun x hx => h.z x ((rmN_mem l id x).1 hx).1⟩
theorem tAdd_ok (L : List Int) {s : TrS} {B : Nat} (h : TI s.1.1 s.1.2 B) : TI (tAdd L s).1.1 (tAdd L s).1.2 (B + 1) := by
  unfold tAdd
  simp only
  by_cases he : (tAddM L s).2.2 = 0
  · rw [if_pos he]
    exact h.add (nmV_len _ _) he
  · rw [if_neg he]; exact h.mono (Nat.le_succ B)
theorem tRem_ok (L : List Int) {s : TrS} {B : Nat} (h : TI s.1.1 s.1.2 B) : TI (tRem L s).1.1 (tRem L s).1.2 B := by
  unfold tRem
  by_cases hb : nxV L s.2 6 = 5
  · rw [if_pos hb]
    simp only
    by_cases he : (tRemM L s).2 = 0
    · rw [if_pos he]; exact h.rem he
    · rw [if_neg he]; exact h
  · rw [if_neg hb]; exact h
theorem tLp_ok (L : List Int) : ∀ (m : Nat) (s : TrS) (B : Nat), TI s.1.1 s.1.2 B → TI (tLp L m s).1.1 (tLp L m s).1.2 (B + m)
  | 0, s, B, h => h
  | m + 1, s, B, h => by
    have := tLp_ok L m _ _ (tRem_ok L (tAdd_ok L h))
    rw [show B + 1 + m = B + (m + 1) by omega] at this
    exact this
theorem TI_new : TI [⟨1, 0, [], 0, 0, 0⟩] 2 1 := ⟨VL_new, fun x hx => by rw [List.mem_singleton.1 hx]; decide, zaX _, fun x hx => by rw [List.mem_singleton.1 hx]; exact ⟨rfl, rfl, rfl⟩⟩
theorem mkT_ok (L : List Int) (j N : Nat) : TI (mkT L j N).1.1 (mkT L j N).1.2 (N + 1) := by
  have h := tLp_ok L (nxV L j ((N : Int) + 1)).toNat (([⟨1, 0, [], 0, 0, 0⟩], 2), nxA L j ((N : Int) + 1)) 1 TI_new
  have h2 := nx_rng L j ((N : Int) + 1) (by omega)
  exact h.mono (by omega)
def lendT : FuncId → List Nat := fun f => if f = 15 then [0] else if f = 43 then [0] else if f = 32 then [0] else []
set_option maxHeartbeats 32000000 in
theorem tree_spec (L : List Int) (hl : L.length ≤ 600) (hr : ∀ x ∈ L, -9223372036854775808 ≤ x ∧ x ≤ 9223372036854775807) (j N : Nat) (hN : N ≤ 50) :
    FnSpec Try.prog 12 [dp, i1 N] [dice L j] (trV (mkT L j N).1.1 none (mkT L j N).1.2) [some (dice L (mkT L j N).2)] := by
  have n0 := next_spec L j ((N : Int) + 1) hl hr (by omega)
  have r0 := nx_rng L j ((N : Int) + 1) (by omega)
  obtain ⟨T, hT⟩ : ∃ T, mkT L j N = T := ⟨_, rfl⟩
  have hT0 := hT
  rw [hT]
  unfold mkT at hT
  obtain ⟨c0, hc0, hc1⟩ : ∃ c : Nat, nxV L j ((N : Int) + 1) = c ∧ c ≤ N := ⟨(nxV L j ((N : Int) + 1)).toNat, by omega, by omega⟩
  rw [hc0, zaO] at hT
  rw [hc0] at n0
  refine fnspec_of mixed TT_ok TT_cl ⟨fun _ => false, lendT, 1, fun _ => false, fun _ => false⟩ Try.func12 rfl (by kernel_rfl) rfl 65 rfl [.cell 4 29] rfl ?_
  simp only [go_sem, zaa, zah, zai, zaj, zal, zae, ↓reduceIte, reduceCtorEq, zab, zac, zam, zan, zao, lendT]
  repeat' (first
 | with_reducible refine zar ?_ ?_
 | (apply cl_plain
    case hs => rfl
    case ha => (simp only [zag, zak, prepV, prepC, idx, hpL', lookR, zaa, if_true, if_false]; rfl)
    case h => (first | exact trnew_spec .. | exact n0 ..))
 | (apply cl_lend
    case hr => (simp only [zag, zak, hpL', lookR, zaa, if_true, if_false]; first | exact map1 _ | exact map2 _ _ | exact map3 _ _ _)
    case ha => (simp only [zag, zak, prepV, prepC, idx, hpL', lookR, zaa, if_true, if_false]; rfl)
    case hs => rfl
    case hn => decide
    case h => (first | exact trnew_spec .. | exact n0 ..)
    case hf => (simp only [zad, zaf, false_implies, implies_true, and_true, true_and, flat_cons, flat_nil, flat_ints, flat_bools, flat_app, Cs_flat, zaI, and_self, eq_self_iff_true, zas])
    case hl => (simp only [zaC, zaF]; decide))
 | ((first | refine s1_id ?_ | refine swp_id ?_ | refine sops_id ?_ | refine s2_id ?_); simp only [lendT, dice, go_sem, zaa, zah, zai, zaj, zal, zae, ↓reduceIte, reduceCtorEq, zab, zac, zam, zan, zao, zaG, zaJ, zay, zaH, renO, bk, back, outUpsFrom, Ints_ren])
 | (intros; omega)
 | (intros; (try simp only [zat, zax, zav, zau, zap, zaq, decide_eq_true_eq, decide_eq_false_iff_not] at *); omega))
  refine w_loop (ι := Nat × TrS) (fun s => ⟨[(0, dp), (4, .one (.optr 1 0)), (5, .one (.optr 2 0)), (6, i1 s.1)], [(0, some (dice L s.2.2)), (1, some ⟨[.sc (.slice none 0 0), int 0], 2⟩), (2, some ⟨[.gsl (Cs s.2.1.1) 0 s.2.1.1.length none, int s.2.1.2], 2⟩)], 3⟩) (fun s => T = tLp L s.1 s.2 ∧ TI s.2.1.1 s.2.1.2 (N + 1 - s.1) ∧ s.1 ≤ N) (fun s => s.1) (c0, (([⟨1, 0, [], 0, 0, 0⟩], 2), nxA L j ((N : Int) + 1))) ?_ ⟨hT.symm, TI_new.mono (by omega), hc1⟩ ?_
  · (refine imp_ren _ _ _ [(0, 0, dice L (nxA L j ((N : Int) + 1))), (1, 1, ⟨[.sc (.slice none 0 0), int 0], 2⟩), (2, 3, ⟨[.gsl (Cs ([⟨1, 0, [], 0, 0, 0⟩] : List Nd)) 0 1 none, int 2], 2⟩)] (by simp) (by simp) (by simp) (zaw rfl) ?_ rfl (by simp only [zad, zaf, false_implies, implies_true, and_true, zaQ, lookR, zaa, if_true, if_false, ↓reduceIte, dice] <;> (repeat' apply zar) <;> (first | rfl | trivial)) (by simp only [zad, zaf, false_implies, implies_true, and_true, true_and, flat_cons, flat_nil, flat_ints, flat_bools, flat_app, zaI, and_self, eq_self_iff_true, zas, dice]); simp only [zag, zak, zad, zaf, false_implies, implies_true, and_true, lk, slot, zaG, zay, toN, zaa, if_true, if_false, ↓reduceIte, reduceCtorEq])
    all_goals ((repeat' apply zar) <;> (first | rfl | trivial))
  clear n0 r0 hT hT0 hc0
  rintro ⟨m, ⟨⟨l, n⟩, i⟩⟩ ⟨hI, hti, hmN⟩
  simp only at hI hti hmN ⊢
  cases m with
  | zero =>
    rw [tLp] at hI
    subst hI
    simp only [go_sem, zaa, zah, zai, zaj, zal, zae, ↓reduceIte, reduceCtorEq, zab, zac, zam, zan, zao, lendT]
    repeat' (first
 | (intros; (try simp only [zat, zax, zav, zau, zap, zaq, decide_eq_true_eq, decide_eq_false_iff_not] at *); omega))
    (refine fs_flat [(0, dice L i)] (by simp) (by simp only [zag, zak]; decide) (by simp only [go_sem, resV, resS, zaG, zaJ, zay, zbd, zaQ, idx, renO, zaH, evS, slot, lookR, zaa, ↓reduceIte, reduceCtorEq, if_true, if_false, zaD, zaE, zag, zak, sLoad, readAt, readNeed, Ints_ren, Ints_length, Ints_getD, and_true, true_and, zaz, zaA]; try decide) ?_ (by simp only [zad, zaf, false_implies, implies_true, and_true, zaQ, lookR, zaa, if_true, if_false, ↓reduceIte, dice] <;> (repeat' apply zar) <;> (first | rfl | trivial)) (by simp only [zad, zaf, false_implies, implies_true, and_true, true_and, flat_cons, flat_nil, flat_ints, flat_bools, flat_app, zaI, and_self, eq_self_iff_true, zas, dice]) ?_ <;> (try simp only [go_sem, resV, resS, zaG, zaJ, zay, zbd, zaQ, idx, renO, zaH, evS, slot, lookR, zaa, ↓reduceIte, reduceCtorEq, if_true, if_false, zaD, zaE, zag, zak, sLoad, readAt, readNeed, Ints_ren, Ints_length, Ints_getD, and_true, true_and, zaz, zaA]) <;> (try rfl))
  | succ m =>
  have c : (0 : Int) < ((m + 1 : Nat) : Int) := by omega
  have e2 : ((m + 1 : Nat) : Int) - 1 = (m : Int) := by omega
  have hlen := hti.len
  rw [tLp] at hI
  have hta := tAdd_ok L (s := ((l, n), i)) hti
  have htr := tRem_ok L hta
  have hnl := nd_len l
  have n1 := next_spec L i l.length hl hr (by omega)
  have r1 := nx_rng L i l.length (by omega)
  obtain ⟨x, hx, hxl⟩ : ∃ x : Nat, nxV L i l.length = x ∧ x < l.length := ⟨(nxV L i l.length).toNat, by omega, by omega⟩
  obtain ⟨g1, _⟩ := nd_f l x hxl (.sc (.int .i64 0))
  have hA0 : tAddM L ((l, n), i) = addM l n (gN l x).i (nmV L (nxA L i l.length)) := by unfold tAddM tPk; simp only; rw [hx, zaO]
  rw [hx] at n1
  have n2 := name_spec (l := L) hl hr (nxA L i l.length)
  have s1' := nmV_len L (nxA L i l.length)
  have a1 := radd_spec l none n (gN l x).i (nmV L (nxA L i l.length)) (by omega) hti.nr (by omega)
  rw [← hA0] at a1
  have hj2 : (tAdd L ((l, n), i)).2 = nxA L (nxA L i l.length) 6 := rfl
  have ht1 : (tAdd L ((l, n), i)).1 = if (tAddM L ((l, n), i)).2.2 = 0 then (tAddM L ((l, n), i)).1 else (l, n) := rfl
  generalize nmV L (nxA L i l.length) = nam at *
  generalize tAddM L ((l, n), i) = AM at *
  obtain ⟨⟨la, na⟩, ia, ea⟩ := AM
  clear hA0
  simp only [adV] at a1
  obtain ⟨S1, hS1⟩ : ∃ S1, tAdd L ((l, n), i) = S1 := ⟨_, rfl⟩
  rw [hS1] at hI hta htr hj2 ht1
  clear hS1
  obtain ⟨⟨l1, n1'⟩, j2⟩ := S1
  simp only at hta hj2 ht1
  subst hj2
  have hlen1 := hta.len
  have n3 := bool_spec L (nxA L (nxA L i l.length) 6) 6 hl hr (by decide)
  generalize nxA L (nxA L i l.length) 6 = j2 at *
  have htr2 : tRem L ((l1, n1'), j2) = if nxV L j2 6 = 5 then (if (tRemM L ((l1, n1'), j2)).2 = 0 then (tRemM L ((l1, n1'), j2)).1 else (l1, n1'), nxA L (nxA L j2 6) l1.length) else ((l1, n1'), nxA L j2 6) := rfl
  have hnl1 := nd_len l1
  have n4 := next_spec L (nxA L j2 6) l1.length hl hr (by omega)
  have r4 := nx_rng L (nxA L j2 6) l1.length (by omega)
  obtain ⟨y, hy, hyl⟩ : ∃ y : Nat, nxV L (nxA L j2 6) l1.length = y ∧ y < l1.length := ⟨(nxV L (nxA L j2 6) l1.length).toNat, by omega, by omega⟩
  obtain ⟨g2, _⟩ := nd_f l1 y hyl (.sc (.int .i64 0))
  have hR0 : tRemM L ((l1, n1'), j2) = rmM l1 n1' (gN l1 y).i := by unfold tRemM tPk; simp only; rw [hy, zaO]
  rw [hy] at n4
  have a2 := rrem_spec l1 none n1' (gN l1 y).i (by omega) hta.nr
  rw [← hR0] at a2
  generalize tRemM L ((l1, n1'), j2) = RM at *
  obtain ⟨⟨lr, nr⟩, er⟩ := RM
  clear hR0
  simp only [rmV] at a2
  simp only at ht1 htr2
  obtain ⟨S2, hS2⟩ : ∃ S2, tRem L ((l1, n1'), j2) = S2 := ⟨_, rfl⟩
  rw [hS2] at hI htr htr2
  clear hS2
  have hBB : TI S2.1.1 S2.1.2 (N + 1 - m) := htr.mono (by omega)
  obtain ⟨⟨l2, n2'⟩, j3⟩ := S2
  simp only at hBB
  clear htr hta hti
  by_cases hea : ea = 0
  · rw [if_pos hea] at ht1
    obtain ⟨rfl, rfl⟩ := Prod.mk.inj ht1
    by_cases hb : nxV L j2 6 = 5
    · rw [if_pos hb] at htr2
      rw [decide_eq_true (by omega : nxV L j2 6 = 6 - 1)] at n3
      by_cases her : er = 0
      · rw [if_pos her] at htr2
        obtain ⟨e1, rfl⟩ := Prod.mk.inj htr2
        obtain ⟨rfl, rfl⟩ := Prod.mk.inj e1
        simp only [go_sem, zaa, zah, zai, zaj, zal, zae, ↓reduceIte, reduceCtorEq, zab, zac, zam, zan, zao, decide_eq_true c, e2, lendT, g1, g2, zaO, decide_eq_true hea, decide_eq_true her]
        repeat' (first
 | with_reducible refine zar ?_ ?_
 | (unfold OKC; kernel_rfl)
 | (unfold EDG; kernel_rfl)
 | (apply cl_plain
    case hs => rfl
    case ha => (simp only [zag, zak, prepV, prepC, idx, hpL', lookR, zaa, if_true, if_false]; rfl)
    case h => (first | exact n1 .. | exact n2 .. | exact a1 .. | exact n3 .. | exact n4 .. | exact a2 ..))
 | (apply cl_lend
    case hr => (simp only [zag, zak, hpL', lookR, zaa, if_true, if_false]; first | exact map1 _ | exact map2 _ _ | exact map3 _ _ _)
    case ha => (simp only [zag, zak, prepV, prepC, idx, hpL', lookR, zaa, if_true, if_false]; rfl)
    case hs => rfl
    case hn => decide
    case h => (first | exact n1 .. | exact n2 .. | exact a1 .. | exact n3 .. | exact n4 .. | exact a2 ..)
    case hf => (simp only [zad, zaf, false_implies, implies_true, and_true, true_and, flat_cons, flat_nil, flat_ints, flat_bools, flat_app, Cs_flat, zaI, and_self, eq_self_iff_true, zas])
    case hl => (simp only [zaC, zaF]; decide))
 | ((first | refine s1_id ?_ | refine swp_id ?_ | refine sops_id ?_ | refine s2_id ?_); simp only [decide_eq_true c, e2, lendT, g1, g2, dice, zaO, decide_eq_true hea, decide_eq_true her, zaN, zaR, zas, zaP, zaS, zaL, zaM, zaK, zaT, zaU, zaC, zaF, go_sem, zaa, zah, zai, zaj, zal, zae, ↓reduceIte, reduceCtorEq, zab, zac, zam, zan, zao, zaG, zaJ, zay, zaH, renO, bk, back, outUpsFrom, Ints_ren])
 | (intros; omega)
 | (intros; (try simp only [zat, zax, zav, zau, zap, zaq, decide_eq_true_eq, decide_eq_false_iff_not] at *); omega))
        refine le_mk (m, ((l2, n2'), (nxA L (nxA L j2 6) l1.length))) ?_ ⟨hI, hBB, by show m ≤ N; omega⟩ (zaY m)
        (refine imp_ren _ _ _ [(0, 0, dice L (nxA L (nxA L j2 6) l1.length)), (1, 1, ⟨[.sc (.slice none 0 0), int 0], 2⟩), (2, 2, ⟨[.gsl (Cs l2) 0 l2.length none, int n2'], 2⟩)] (by simp) (by simp) (by simp) (zaw rfl) ?_ rfl (by simp only [zad, zaf, false_implies, implies_true, and_true, zaQ, lookR, zaa, if_true, if_false, ↓reduceIte, dice] <;> (repeat' apply zar) <;> (first | rfl | trivial)) (by simp only [zad, zaf, false_implies, implies_true, and_true, true_and, flat_cons, flat_nil, flat_ints, flat_bools, flat_app, zaI, and_self, eq_self_iff_true, zas, dice]); simp only [zag, zak, zad, zaf, false_implies, implies_true, and_true, lk, slot, zaG, zay, toN, zaa, if_true, if_false, ↓reduceIte, reduceCtorEq])
        all_goals ((repeat' apply zar) <;> (first | rfl | trivial | (simp only []; done) | (simp only []; rfl) | (simp only []; trivial)))
      · rw [if_neg her] at htr2
        obtain ⟨e1, rfl⟩ := Prod.mk.inj htr2
        obtain ⟨rfl, rfl⟩ := Prod.mk.inj e1
        simp only [go_sem, zaa, zah, zai, zaj, zal, zae, ↓reduceIte, reduceCtorEq, zab, zac, zam, zan, zao, decide_eq_true c, e2, lendT, g1, g2, zaO, decide_eq_true hea, decide_eq_false her]
        repeat' (first
 | with_reducible refine zar ?_ ?_
 | (unfold OKC; kernel_rfl)
 | (unfold EDG; kernel_rfl)
 | (apply cl_plain
    case hs => rfl
    case ha => (simp only [zag, zak, prepV, prepC, idx, hpL', lookR, zaa, if_true, if_false]; rfl)
    case h => (first | exact n1 .. | exact n2 .. | exact a1 .. | exact n3 .. | exact n4 .. | exact a2 ..))
 | (apply cl_lend
    case hr => (simp only [zag, zak, hpL', lookR, zaa, if_true, if_false]; first | exact map1 _ | exact map2 _ _ | exact map3 _ _ _)
    case ha => (simp only [zag, zak, prepV, prepC, idx, hpL', lookR, zaa, if_true, if_false]; rfl)
    case hs => rfl
    case hn => decide
    case h => (first | exact n1 .. | exact n2 .. | exact a1 .. | exact n3 .. | exact n4 .. | exact a2 ..)
    case hf => (simp only [zad, zaf, false_implies, implies_true, and_true, true_and, flat_cons, flat_nil, flat_ints, flat_bools, flat_app, Cs_flat, zaI, and_self, eq_self_iff_true, zas])
    case hl => (simp only [zaC, zaF]; decide))
 | ((first | refine s1_id ?_ | refine swp_id ?_ | refine sops_id ?_ | refine s2_id ?_); simp only [decide_eq_true c, e2, lendT, g1, g2, dice, zaO, decide_eq_true hea, decide_eq_false her, zaN, zaR, zas, zaP, zaS, zaL, zaM, zaK, zaT, zaU, zaC, zaF, go_sem, zaa, zah, zai, zaj, zal, zae, ↓reduceIte, reduceCtorEq, zab, zac, zam, zan, zao, zaG, zaJ, zay, zaH, renO, bk, back, outUpsFrom, Ints_ren])
 | (intros; omega)
 | (intros; (try simp only [zat, zax, zav, zau, zap, zaq, decide_eq_true_eq, decide_eq_false_iff_not] at *); omega))
        refine le_mk (m, ((l2, n2'), (nxA L (nxA L j2 6) l2.length))) ?_ ⟨hI, hBB, by show m ≤ N; omega⟩ (zaY m)
        (refine imp_ren _ _ _ [(0, 0, dice L (nxA L (nxA L j2 6) l2.length)), (1, 1, ⟨[.sc (.slice none 0 0), int 0], 2⟩), (2, 2, ⟨[.gsl (Cs l2) 0 l2.length none, int n2'], 2⟩)] (by simp) (by simp) (by simp) (zaw rfl) ?_ rfl (by simp only [zad, zaf, false_implies, implies_true, and_true, zaQ, lookR, zaa, if_true, if_false, ↓reduceIte, dice] <;> (repeat' apply zar) <;> (first | rfl | trivial)) (by simp only [zad, zaf, false_implies, implies_true, and_true, true_and, flat_cons, flat_nil, flat_ints, flat_bools, flat_app, zaI, and_self, eq_self_iff_true, zas, dice]); simp only [zag, zak, zad, zaf, false_implies, implies_true, and_true, lk, slot, zaG, zay, toN, zaa, if_true, if_false, ↓reduceIte, reduceCtorEq])
        all_goals ((repeat' apply zar) <;> (first | rfl | trivial | (simp only []; done) | (simp only []; rfl) | (simp only []; trivial)))
    · rw [if_neg hb] at htr2
      rw [decide_eq_false (by omega : ¬ nxV L j2 6 = 6 - 1)] at n3
      obtain ⟨e1, rfl⟩ := Prod.mk.inj htr2
      obtain ⟨rfl, rfl⟩ := Prod.mk.inj e1
      simp only [go_sem, zaa, zah, zai, zaj, zal, zae, ↓reduceIte, reduceCtorEq, zab, zac, zam, zan, zao, decide_eq_true c, e2, lendT, g1, g2, zaO, decide_eq_true hea]
      repeat' (first
 | with_reducible refine zar ?_ ?_
 | (unfold OKC; kernel_rfl)
 | (unfold EDG; kernel_rfl)
 | (apply cl_plain
    case hs => rfl
    case ha => (simp only [zag, zak, prepV, prepC, idx, hpL', lookR, zaa, if_true, if_false]; rfl)
    case h => (first | exact n1 .. | exact n2 .. | exact a1 .. | exact n3 ..))
 | (apply cl_lend
    case hr => (simp only [zag, zak, hpL', lookR, zaa, if_true, if_false]; first | exact map1 _ | exact map2 _ _ | exact map3 _ _ _)
    case ha => (simp only [zag, zak, prepV, prepC, idx, hpL', lookR, zaa, if_true, if_false]; rfl)
    case hs => rfl
    case hn => decide
    case h => (first | exact n1 .. | exact n2 .. | exact a1 .. | exact n3 ..)
    case hf => (simp only [zad, zaf, false_implies, implies_true, and_true, true_and, flat_cons, flat_nil, flat_ints, flat_bools, flat_app, Cs_flat, zaI, and_self, eq_self_iff_true, zas])
    case hl => (simp only [zaC, zaF]; decide))
 | ((first | refine s1_id ?_ | refine swp_id ?_ | refine sops_id ?_ | refine s2_id ?_); simp only [decide_eq_true c, e2, lendT, g1, g2, dice, zaO, decide_eq_true hea, zaN, zaR, zas, zaP, zaS, zaL, zaM, zaK, zaT, zaU, zaC, zaF, go_sem, zaa, zah, zai, zaj, zal, zae, ↓reduceIte, reduceCtorEq, zab, zac, zam, zan, zao, zaG, zaJ, zay, zaH, renO, bk, back, outUpsFrom, Ints_ren])
 | (intros; omega)
 | (intros; (try simp only [zat, zax, zav, zau, zap, zaq, decide_eq_true_eq, decide_eq_false_iff_not] at *); omega))
      refine le_mk (m, ((l2, n2'), (nxA L j2 6))) ?_ ⟨hI, hBB, by show m ≤ N; omega⟩ (zaY m)
      (refine imp_ren _ _ _ [(0, 0, dice L (nxA L j2 6)), (1, 1, ⟨[.sc (.slice none 0 0), int 0], 2⟩), (2, 2, ⟨[.gsl (Cs l2) 0 l2.length none, int n2'], 2⟩)] (by simp) (by simp) (by simp) (zaw rfl) ?_ rfl (by simp only [zad, zaf, false_implies, implies_true, and_true, zaQ, lookR, zaa, if_true, if_false, ↓reduceIte, dice] <;> (repeat' apply zar) <;> (first | rfl | trivial)) (by simp only [zad, zaf, false_implies, implies_true, and_true, true_and, flat_cons, flat_nil, flat_ints, flat_bools, flat_app, zaI, and_self, eq_self_iff_true, zas, dice]); simp only [zag, zak, zad, zaf, false_implies, implies_true, and_true, lk, slot, zaG, zay, toN, zaa, if_true, if_false, ↓reduceIte, reduceCtorEq])
      all_goals ((repeat' apply zar) <;> (first | rfl | trivial | (simp only []; done) | (simp only []; rfl) | (simp only []; trivial)))
  · rw [if_neg hea] at ht1
    obtain ⟨rfl, rfl⟩ := Prod.mk.inj ht1
    by_cases hb : nxV L j2 6 = 5
    · rw [if_pos hb] at htr2
      rw [decide_eq_true (by omega : nxV L j2 6 = 6 - 1)] at n3
      by_cases her : er = 0
      · rw [if_pos her] at htr2
        obtain ⟨e1, rfl⟩ := Prod.mk.inj htr2
        obtain ⟨rfl, rfl⟩ := Prod.mk.inj e1
        simp only [go_sem, zaa, zah, zai, zaj, zal, zae, ↓reduceIte, reduceCtorEq, zab, zac, zam, zan, zao, decide_eq_true c, e2, lendT, g1, g2, zaO, decide_eq_false hea, decide_eq_true her]
        repeat' (first
 | with_reducible refine zar ?_ ?_
 | (unfold OKC; kernel_rfl)
 | (unfold EDG; kernel_rfl)
 | (apply cl_plain
    case hs => rfl
    case ha => (simp only [zag, zak, prepV, prepC, idx, hpL', lookR, zaa, if_true, if_false]; rfl)
    case h => (first | exact n1 .. | exact n2 .. | exact a1 .. | exact n3 .. | exact n4 .. | exact a2 ..))
 | (apply cl_lend
    case hr => (simp only [zag, zak, hpL', lookR, zaa, if_true, if_false]; first | exact map1 _ | exact map2 _ _ | exact map3 _ _ _)
    case ha => (simp only [zag, zak, prepV, prepC, idx, hpL', lookR, zaa, if_true, if_false]; rfl)
    case hs => rfl
    case hn => decide
    case h => (first | exact n1 .. | exact n2 .. | exact a1 .. | exact n3 .. | exact n4 .. | exact a2 ..)
    case hf => (simp only [zad, zaf, false_implies, implies_true, and_true, true_and, flat_cons, flat_nil, flat_ints, flat_bools, flat_app, Cs_flat, zaI, and_self, eq_self_iff_true, zas])
    case hl => (simp only [zaC, zaF]; decide))
 | ((first | refine s1_id ?_ | refine swp_id ?_ | refine sops_id ?_ | refine s2_id ?_); simp only [decide_eq_true c, e2, lendT, g1, g2, dice, zaO, decide_eq_false hea, decide_eq_true her, zaN, zaR, zas, zaP, zaS, zaL, zaM, zaK, zaT, zaU, zaC, zaF, go_sem, zaa, zah, zai, zaj, zal, zae, ↓reduceIte, reduceCtorEq, zab, zac, zam, zan, zao, zaG, zaJ, zay, zaH, renO, bk, back, outUpsFrom, Ints_ren])
 | (intros; omega)
 | (intros; (try simp only [zat, zax, zav, zau, zap, zaq, decide_eq_true_eq, decide_eq_false_iff_not] at *); omega))
        refine le_mk (m, ((l2, n2'), (nxA L (nxA L j2 6) l1.length))) ?_ ⟨hI, hBB, by show m ≤ N; omega⟩ (zaY m)
        (refine imp_ren _ _ _ [(0, 0, dice L (nxA L (nxA L j2 6) l1.length)), (1, 1, ⟨[.sc (.slice none 0 0), int 0], 2⟩), (2, 2, ⟨[.gsl (Cs l2) 0 l2.length none, int n2'], 2⟩)] (by simp) (by simp) (by simp) (zaw rfl) ?_ rfl (by simp only [zad, zaf, false_implies, implies_true, and_true, zaQ, lookR, zaa, if_true, if_false, ↓reduceIte, dice] <;> (repeat' apply zar) <;> (first | rfl | trivial)) (by simp only [zad, zaf, false_implies, implies_true, and_true, true_and, flat_cons, flat_nil, flat_ints, flat_bools, flat_app, zaI, and_self, eq_self_iff_true, zas, dice]); simp only [zag, zak, zad, zaf, false_implies, implies_true, and_true, lk, slot, zaG, zay, toN, zaa, if_true, if_false, ↓reduceIte, reduceCtorEq])
        all_goals ((repeat' apply zar) <;> (first | rfl | trivial | (simp only []; done) | (simp only []; rfl) | (simp only []; trivial)))
      · rw [if_neg her] at htr2
        obtain ⟨e1, rfl⟩ := Prod.mk.inj htr2
        obtain ⟨rfl, rfl⟩ := Prod.mk.inj e1
        simp only [go_sem, zaa, zah, zai, zaj, zal, zae, ↓reduceIte, reduceCtorEq, zab, zac, zam, zan, zao, decide_eq_true c, e2, lendT, g1, g2, zaO, decide_eq_false hea, decide_eq_false her]
        repeat' (first
 | with_reducible refine zar ?_ ?_
 | (unfold OKC; kernel_rfl)
 | (unfold EDG; kernel_rfl)
 | (apply cl_plain
    case hs => rfl
    case ha => (simp only [zag, zak, prepV, prepC, idx, hpL', lookR, zaa, if_true, if_false]; rfl)
    case h => (first | exact n1 .. | exact n2 .. | exact a1 .. | exact n3 .. | exact n4 .. | exact a2 ..))
 | (apply cl_lend
    case hr => (simp only [zag, zak, hpL', lookR, zaa, if_true, if_false]; first | exact map1 _ | exact map2 _ _ | exact map3 _ _ _)
    case ha => (simp only [zag, zak, prepV, prepC, idx, hpL', lookR, zaa, if_true, if_false]; rfl)
    case hs => rfl
    case hn => decide
    case h => (first | exact n1 .. | exact n2 .. | exact a1 .. | exact n3 .. | exact n4 .. | exact a2 ..)
    case hf => (simp only [zad, zaf, false_implies, implies_true, and_true, true_and, flat_cons, flat_nil, flat_ints, flat_bools, flat_app, Cs_flat, zaI, and_self, eq_self_iff_true, zas])
    case hl => (simp only [zaC, zaF]; decide))
 | ((first | refine s1_id ?_ | refine swp_id ?_ | refine sops_id ?_ | refine s2_id ?_); simp only [decide_eq_true c, e2, lendT, g1, g2, dice, zaO, decide_eq_false hea, decide_eq_false her, zaN, zaR, zas, zaP, zaS, zaL, zaM, zaK, zaT, zaU, zaC, zaF, go_sem, zaa, zah, zai, zaj, zal, zae, ↓reduceIte, reduceCtorEq, zab, zac, zam, zan, zao, zaG, zaJ, zay, zaH, renO, bk, back, outUpsFrom, Ints_ren])
 | (intros; omega)
 | (intros; (try simp only [zat, zax, zav, zau, zap, zaq, decide_eq_true_eq, decide_eq_false_iff_not] at *); omega))
        refine le_mk (m, ((l2, n2'), (nxA L (nxA L j2 6) l2.length))) ?_ ⟨hI, hBB, by show m ≤ N; omega⟩ (zaY m)
        (refine imp_ren _ _ _ [(0, 0, dice L (nxA L (nxA L j2 6) l2.length)), (1, 1, ⟨[.sc (.slice none 0 0), int 0], 2⟩), (2, 2, ⟨[.gsl (Cs l2) 0 l2.length none, int n2'], 2⟩)] (by simp) (by simp) (by simp) (zaw rfl) ?_ rfl (by simp only [zad, zaf, false_implies, implies_true, and_true, zaQ, lookR, zaa, if_true, if_false, ↓reduceIte, dice] <;> (repeat' apply zar) <;> (first | rfl | trivial)) (by simp only [zad, zaf, false_implies, implies_true, and_true, true_and, flat_cons, flat_nil, flat_ints, flat_bools, flat_app, zaI, and_self, eq_self_iff_true, zas, dice]); simp only [zag, zak, zad, zaf, false_implies, implies_true, and_true, lk, slot, zaG, zay, toN, zaa, if_true, if_false, ↓reduceIte, reduceCtorEq])
        all_goals ((repeat' apply zar) <;> (first | rfl | trivial | (simp only []; done) | (simp only []; rfl) | (simp only []; trivial)))
    · rw [if_neg hb] at htr2
      rw [decide_eq_false (by omega : ¬ nxV L j2 6 = 6 - 1)] at n3
      obtain ⟨e1, rfl⟩ := Prod.mk.inj htr2
      obtain ⟨rfl, rfl⟩ := Prod.mk.inj e1
      simp only [go_sem, zaa, zah, zai, zaj, zal, zae, ↓reduceIte, reduceCtorEq, zab, zac, zam, zan, zao, decide_eq_true c, e2, lendT, g1, g2, zaO, decide_eq_false hea]
      repeat' (first
 | with_reducible refine zar ?_ ?_
 | (unfold OKC; kernel_rfl)
 | (unfold EDG; kernel_rfl)
 | (apply cl_plain
    case hs => rfl
    case ha => (simp only [zag, zak, prepV, prepC, idx, hpL', lookR, zaa, if_true, if_false]; rfl)
    case h => (first | exact n1 .. | exact n2 .. | exact a1 .. | exact n3 ..))
 | (apply cl_lend
    case hr => (simp only [zag, zak, hpL', lookR, zaa, if_true, if_false]; first | exact map1 _ | exact map2 _ _ | exact map3 _ _ _)
    case ha => (simp only [zag, zak, prepV, prepC, idx, hpL', lookR, zaa, if_true, if_false]; rfl)
    case hs => rfl
    case hn => decide
    case h => (first | exact n1 .. | exact n2 .. | exact a1 .. | exact n3 ..)
    case hf => (simp only [zad, zaf, false_implies, implies_true, and_true, true_and, flat_cons, flat_nil, flat_ints, flat_bools, flat_app, Cs_flat, zaI, and_self, eq_self_iff_true, zas])
    case hl => (simp only [zaC, zaF]; decide))
 | ((first | refine s1_id ?_ | refine swp_id ?_ | refine sops_id ?_ | refine s2_id ?_); simp only [decide_eq_true c, e2, lendT, g1, g2, dice, zaO, decide_eq_false hea, zaN, zaR, zas, zaP, zaS, zaL, zaM, zaK, zaT, zaU, zaC, zaF, go_sem, zaa, zah, zai, zaj, zal, zae, ↓reduceIte, reduceCtorEq, zab, zac, zam, zan, zao, zaG, zaJ, zay, zaH, renO, bk, back, outUpsFrom, Ints_ren])
 | (intros; omega)
 | (intros; (try simp only [zat, zax, zav, zau, zap, zaq, decide_eq_true_eq, decide_eq_false_iff_not] at *); omega))
      refine le_mk (m, ((l2, n2'), (nxA L j2 6))) ?_ ⟨hI, hBB, by show m ≤ N; omega⟩ (zaY m)
      (refine imp_ren _ _ _ [(0, 0, dice L (nxA L j2 6)), (1, 1, ⟨[.sc (.slice none 0 0), int 0], 2⟩), (2, 2, ⟨[.gsl (Cs l2) 0 l2.length none, int n2'], 2⟩)] (by simp) (by simp) (by simp) (zaw rfl) ?_ rfl (by simp only [zad, zaf, false_implies, implies_true, and_true, zaQ, lookR, zaa, if_true, if_false, ↓reduceIte, dice] <;> (repeat' apply zar) <;> (first | rfl | trivial)) (by simp only [zad, zaf, false_implies, implies_true, and_true, true_and, flat_cons, flat_nil, flat_ints, flat_bools, flat_app, zaI, and_self, eq_self_iff_true, zas, dice]); simp only [zag, zak, zad, zaf, false_implies, implies_true, and_true, lk, slot, zaG, zay, toN, zaa, if_true, if_false, ↓reduceIte, reduceCtorEq])
      all_goals ((repeat' apply zar) <;> (first | rfl | trivial | (simp only []; done) | (simp only []; rfl) | (simp only []; trivial)))
end Go.Proofs.Ytcnilpdlcmpbbab
-- NEWGO
-- PRUNE: cl_lendx cl_use
-- ISG: Cs_isG
-- FLAT: Cs_flat
namespace Go.Proofs.Ytcnilpdlcmpbbab
set_option linter.unusedVariables false
set_option linter.unusedSimpArgs false
open Go.Proofs.Ytcnilpdlcmpbbab.Sh
set_option maxRecDepth 20000
def lendD : FuncId → List Nat := fun f => if f = 15 then [0] else if f = 32 then [0] else []
def dgV (L : List Int) (l : List Nd) (j : Nat) : Int := if nxV L j 15 = 14 then nxV L (nxA L j 15) 9 - 1 else (gN l (nxV L (nxA L j 15) l.length).toNat).i
def dgA (L : List Int) (l : List Nd) (j : Nat) : Nat := if nxV L j 15 = 14 then nxA L (nxA L j 15) 9 else nxA L (nxA L j 15) l.length
set_option maxHeartbeats 8000000 in
theorem dgroup_spec (L : List Int) (hl : L.length ≤ 600) (hr : ∀ x ∈ L, -9223372036854775808 ≤ x ∧ x ≤ 9223372036854775807) (j : Nat) (l : List Nd) (n : Int) (h1 : 1 ≤ l.length) (hll : l.length ≤ 64) :
    FnSpec Try.prog 36 [dp, trV l none n] [dice L j] (i1 (dgV L l j)) [some (dice L (dgA L l j))] := by
  have hnl := nd_len l
  have n1 := bool_spec L j 15 hl hr (by decide)
  unfold dgV dgA
  generalize nxA L j 15 = j2 at *
  have c0 : ¬ (l.length : Int) = 0 := by omega
  by_cases hb : nxV L j 15 = 14
  · rw [decide_eq_true (by omega : nxV L j 15 = 15 - 1)] at n1
    have n2 := next_spec L j2 9 hl hr (by decide)
    have r2 := nx_rng L j2 9 (by decide)
    rw [if_pos hb, if_pos hb]
    generalize nxV L j2 9 = v at *
    refine fnspec_of mixed TT_ok TT_cl ⟨fun _ => false, lendD, 1, fun _ => false, fun _ => false⟩ Try.func36 rfl (by kernel_rfl) rfl 26 rfl [.tmp 4] rfl ?_
    simp only [go_sem, zaa, zah, zai, zaj, zal, zae, ↓reduceIte, reduceCtorEq, zab, zac, zam, zan, zao, lendD]
    repeat' (first
 | with_reducible refine zar ?_ ?_
 | (apply cl_lend
    case hr => (simp only [zag, zak, hpL', lookR, zaa, if_true, if_false]; first | exact map1 _ | exact map2 _ _ | exact map3 _ _ _)
    case ha => (simp only [zag, zak, prepV, prepC, idx, hpL', lookR, zaa, if_true, if_false]; rfl)
    case hs => rfl
    case hn => decide
    case h => (first | exact n1 .. | exact n2 ..)
    case hf => (simp only [zad, zaf, false_implies, implies_true, and_true, true_and, flat_cons, flat_nil, flat_ints, flat_bools, flat_app, Cs_flat, zaI, and_self, eq_self_iff_true, zas])
    case hl => (simp only [zaC, zaF]; decide))
 | ((first | refine s1_id ?_ | refine swp_id ?_ | refine sops_id ?_ | refine s2_id ?_); simp only [lendD, dice, go_sem, zaa, zah, zai, zaj, zal, zae, ↓reduceIte, reduceCtorEq, zab, zac, zam, zan, zao, zaG, zaJ, zay, zaH, renO, bk, back, outUpsFrom, Ints_ren])
 | (intros; omega)
 | (intros; (try simp only [zat, zax, zav, zau, zap, zaq, decide_eq_true_eq, decide_eq_false_iff_not] at *); omega))
    (refine fs_flat [(0, dice L (nxA L j2 9))] (by simp) (by simp only [zag, zak]; decide) (by simp only [go_sem, resV, resS, zaG, zaJ, zay, zbd, zaQ, idx, renO, zaH, evS, slot, lookR, zaa, ↓reduceIte, reduceCtorEq, if_true, if_false, zaD, zaE, zag, zak, sLoad, readAt, readNeed, Ints_ren, Ints_length, Ints_getD, and_true, true_and, zaz, zaA]; try decide) ?_ (by simp only [zad, zaf, false_implies, implies_true, and_true, zaQ, lookR, zaa, if_true, if_false, ↓reduceIte, dice] <;> (repeat' apply zar) <;> (first | rfl | trivial)) (by simp only [zad, zaf, false_implies, implies_true, and_true, true_and, flat_cons, flat_nil, flat_ints, flat_bools, flat_app, zaI, and_self, eq_self_iff_true, zas, dice]) ?_ <;> (try simp only [go_sem, resV, resS, zaG, zaJ, zay, zbd, zaQ, idx, renO, zaH, evS, slot, lookR, zaa, ↓reduceIte, reduceCtorEq, if_true, if_false, zaD, zaE, zag, zak, sLoad, readAt, readNeed, Ints_ren, Ints_length, Ints_getD, and_true, true_and, zaz, zaA]) <;> (try rfl))
  · rw [decide_eq_false (by omega : ¬ nxV L j 15 = 15 - 1)] at n1
    have n2 := next_spec L j2 l.length hl hr (by omega)
    have r2 := nx_rng L j2 l.length (by omega)
    obtain ⟨v, hv⟩ : ∃ v : Nat, nxV L j2 l.length = v := ⟨(nxV L j2 l.length).toNat, by omega⟩
    rw [hv] at n2 r2 ⊢
    obtain ⟨g1, _⟩ := nd_f l v (by omega) (.sc (.int .i64 0))
    rw [if_neg hb, if_neg hb]
    rw [zaO]
    refine fnspec_of mixed TT_ok TT_cl ⟨fun _ => false, lendD, 1, fun _ => false, fun _ => false⟩ Try.func36 rfl (by kernel_rfl) rfl 26 rfl [.tmp 4] rfl ?_
    simp only [go_sem, zaa, zah, zai, zaj, zal, zae, ↓reduceIte, reduceCtorEq, zab, zac, zam, zan, zao, lendD, decide_eq_false c0, g1]
    repeat' (first
 | with_reducible refine zar ?_ ?_
 | (unfold OKC; kernel_rfl)
 | (unfold EDG; kernel_rfl)
 | (apply cl_lend
    case hr => (simp only [zag, zak, hpL', lookR, zaa, if_true, if_false]; first | exact map1 _ | exact map2 _ _ | exact map3 _ _ _)
    case ha => (simp only [zag, zak, prepV, prepC, idx, hpL', lookR, zaa, if_true, if_false]; rfl)
    case hs => rfl
    case hn => decide
    case h => (first | exact n1 .. | exact n2 ..)
    case hf => (simp only [zad, zaf, false_implies, implies_true, and_true, true_and, flat_cons, flat_nil, flat_ints, flat_bools, flat_app, Cs_flat, zaI, and_self, eq_self_iff_true, zas])
    case hl => (simp only [zaC, zaF]; decide))
 | ((first | refine s1_id ?_ | refine swp_id ?_ | refine sops_id ?_ | refine s2_id ?_); simp only [lendD, dice, decide_eq_false c0, g1, zaO, go_sem, zaa, zah, zai, zaj, zal, zae, ↓reduceIte, reduceCtorEq, zab, zac, zam, zan, zao, zaG, zaJ, zay, zaH, renO, bk, back, outUpsFrom, Ints_ren])
 | (intros; omega)
 | (intros; (try simp only [zat, zax, zav, zau, zap, zaq, decide_eq_true_eq, decide_eq_false_iff_not] at *); omega))
    (refine fs_flat [(0, dice L (nxA L j2 l.length))] (by simp) (by simp only [zag, zak]; decide) (by simp only [go_sem, resV, resS, zaG, zaJ, zay, zbd, zaQ, idx, renO, zaH, evS, slot, lookR, zaa, ↓reduceIte, reduceCtorEq, if_true, if_false, zaD, zaE, zag, zak, sLoad, readAt, readNeed, Ints_ren, Ints_length, Ints_getD, and_true, true_and, zaz, zaA]; try decide) ?_ (by simp only [zad, zaf, false_implies, implies_true, and_true, zaQ, lookR, zaa, if_true, if_false, ↓reduceIte, dice] <;> (repeat' apply zar) <;> (first | rfl | trivial)) (by simp only [zad, zaf, false_implies, implies_true, and_true, true_and, flat_cons, flat_nil, flat_ints, flat_bools, flat_app, zaI, and_self, eq_self_iff_true, zas, dice]) ?_ <;> (try simp only [go_sem, resV, resS, zaG, zaJ, zay, zbd, zaQ, idx, renO, zaH, evS, slot, lookR, zaa, ↓reduceIte, reduceCtorEq, if_true, if_false, zaD, zaE, zag, zak, sLoad, readAt, readNeed, Ints_ren, Ints_length, Ints_getD, and_true, true_and, zaz, zaA]) <;> (try rfl))
end Go.Proofs.Ytcnilpdlcmpbbab
