/- Contracts of functions, told of values, on the way to KillExact (part 4). -/
import Derived.Test.YtlajelbiniakpaaKillExactM3
-- short names of the library's lemmas
open Nat renaming reduceEqDiff → zaa, reduceLeDiff → zah, reduceAdd → zaj, reduceSub → zak, reduceMul → zal, reduceLT → zan, le_of_ble_eq_true → zaF, zero_le → zbd, lt_or_ge → zbf, le_refl → zbh, le_of_lt → zbq
open List renaming map_cons → zab, reduceReplicate → zac, forall_mem_cons → zad, map_nil → zae, not_mem_nil → zag, append_nil → zam, cons_append → zar, nil_append → zas, flatMap_cons → zav, flatMap_nil → zay, getD_cons_zero → zaG, getD_cons_succ → zaH, mem_cons_of_mem → zaI, mem_cons_self → zaJ, length_cons → zaM, take_succ_cons → zaT, set_cons_zero → zaU, set_cons_succ → zaV, flatten_cons → zaX, flatten_nil → zaY, length_nil → zaZ, take_zero → zba, take_nil → zbc, mem_cons → zbi, pairwise_singleton → zbj, drop_of_length_le → zbk, filter_cons_of_pos → zbm, take_of_length_le → zbo, mem_flatMap → zbs
open Int renaming cast_ofNat_Int → zaf, reduceEq → zao, reduceLT → zap, reduceLE → zaq, natCast_add → zaD, natCast_nonneg → zbn
open Option renaming getD_some → zaN, getD_none → zaO
open Bool renaming and_eq_false_iff → zat, or_eq_false_iff → zau, and_eq_true → zaw, not_eq_false' → zax, not_eq_true' → zaz, or_eq_true → zaB, false_and → zbb, true_and → zbg, false_eq_true → zbl, and_false → zbp
open And renaming intro → zai
open Go.Proofs.Ytlajelbiniakpaa.Sh.Cell renaming refs → zaA, ren → zaC, noG → zaE, isG → zaP
open Go.Proofs.Ytlajelbiniakpaa.Sh.SV renaming refs → zaK, noGL → zaL, ren → zaR, renL → zaS, noG → zaW
open Go.Proofs.Ytlajelbiniakpaa.Sh.Row renaming ren → zaQ
open Go.Proofs.Ytlajelbiniakpaa.Sh.St renaming hpF → zbe, tmF → zbr
-- NEWGO
-- PRUNE: cl_lendx cl_use cl_lend
namespace Go.Proofs.Ytlajelbiniakpaa
set_option linter.unusedVariables false
set_option linter.unusedSimpArgs false
open Go.Proofs.Ytlajelbiniakpaa.Sh
set_option maxRecDepth 20000
abbrev r1 (n : Int) : SV := .one (.sc (.int .i32 n))
def ixQ (q : UInt8 → Bool) : Str → Nat → Int
  | [], _ => -1
  | b :: r, i => if q b = true then (i : Int) else ixQ q r (i + 1)
theorem ixQ_any (q : UInt8 → Bool) : ∀ s i, decide (0 ≤ ixQ q s i) = s.any q
  | [], i => rfl
  | b :: r, i => by
    unfold ixQ
    by_cases h : q b = true
    · rw [if_pos h, List.any_cons, h, decide_eq_true (by omega)]; rfl
    · rw [if_neg h, List.any_cons, Bool.eq_false_iff.2 h, ixQ_any q r (i + 1)]; rfl
theorem drop_at (s : Str) (i : Nat) (b : UInt8) (h : s[i]? = some b) : s.drop i = b :: s.drop (i + 1) := by
  obtain ⟨hl, e⟩ := List.getElem?_eq_some_iff.1 h
  rw [List.drop_eq_getElem_cons hl, e]
set_option maxHeartbeats 4000000 in
theorem indexF_spec (g : FuncId) (p : Int → Bool) (q : UInt8 → Bool) (hg : ∀ r : Int, 0 ≤ r ∧ r ≤ 2147483647 → FnSpec Try.prog g [r1 r] [] (b1 (p r)) []) (hlo : ∀ b : UInt8, b.toNat < 128 → p (b.toNat : Int) = q b) (hhi : ∀ r : Int, 128 ≤ r → p r = true) (hq : ∀ b : UInt8, 128 ≤ b.toNat → q b = true)
    (s : Str) (hs : s.length ≤ 9223372036854775807) : FnSpec Try.prog 83 [s1 s, .one (.fn g []), b1 true] [] (i1 (ixQ q s 0)) [] := by
  refine fnspec_of mixed TT_ok TT_cl ⟨fun _ => false, fun _ => [], 0, fun _ => false, fun _ => false⟩ Try.func83 rfl (by kernel_rfl) rfl 21 rfl [.tmp 6] rfl ?_
  simp only [go_sem, zaa, zaj, zak, zal, zan, zah, ↓reduceIte, reduceCtorEq, zac, zaf, zao, zap, zaq]
  repeat' (first
 | (intros; (try simp only [zaw, zaB, zaz, zax, zat, zau, decide_eq_true_eq, decide_eq_false_iff_not] at *); omega))
  refine w_loop (ι := Nat) (fun i => ⟨[(1, .one (.fn g [])), (2, b1 true), (10, .one (.mp 0 true))], [(0, some ⟨[st s, int i, bool true], 0⟩)], 1⟩) (fun i => i ≤ s.length ∧ ixQ q s 0 = ixQ q (s.drop i) i) (fun i => s.length - i) 0 ?_ ⟨zbd _, rfl⟩ ?_
  · (refine imp_ren _ _ _ [(0, 2, ⟨[st s, int 0, Sh.bool true], 0⟩)] (by simp) (by simp) (by simp) (zaF rfl) ?_ rfl (by simp only [zad, zag, false_implies, implies_true, and_true, zbe, lookR, zaa, if_true, if_false, ↓reduceIte] <;> (repeat' apply zai) <;> (first | rfl | trivial)) (by simp only [zad, zag, false_implies, implies_true, and_true, true_and, flat_cons, flat_nil, flat_ints, flat_bools, flat_app, zaA, and_self, eq_self_iff_true, zam]); simp only [zab, zae, zad, zag, false_implies, implies_true, and_true, lk, slot, zaR, zaC, toN, zaa, if_true, if_false, ↓reduceIte, reduceCtorEq])
    all_goals ((repeat' apply zai) <;> (first | rfl | trivial))
  rintro i ⟨hi, he⟩
  simp only at hi he ⊢
  rcases zbf i s.length with hlt | hge
  case inr =>
    have hlt' : ¬ (i : Int) < (s.length : Int) := by omega
    rw [zbk hge] at he
    rw [he]
    simp only [go_sem, zaa, zaj, zak, zal, zan, zah, ↓reduceIte, reduceCtorEq, zac, zaf, zao, zap, zaq, decide_eq_false hlt', ixQ]
    repeat' (first
 | with_reducible refine zai ?_ ?_
 | (intros; omega)
 | exact fs_nil trivial rfl
 | fail)
  have hlt' : (i : Int) < (s.length : Int) := by omega
  obtain ⟨b, hb⟩ : ∃ b, s[i]? = some b := ⟨_, List.getElem?_eq_getElem hlt⟩
  rw [drop_at s i b hb, ixQ] at he
  by_cases h128 : b.toNat < 128
  · have hd := bs_dec s i b hb h128
    have hc := hg b.toNat (by omega)
    rw [hlo b h128] at hc
    cases hqb : q b with
    | true =>
      rw [hqb] at hc he
      simp only [if_true] at he
      rw [he]
      simp only [go_sem, zaa, zaj, zak, zal, zan, zah, ↓reduceIte, reduceCtorEq, zac, zaf, zao, zap, zaq, decide_eq_true hlt', hd]
      repeat' (first
 | with_reducible refine zai ?_ ?_
 | (apply cl_plain
    case hs => rfl
    case ha => (simp only [zab, zae, prepV, prepC, idx, hpL', lookR, zaa, if_true, if_false]; rfl)
    case h => (first | exact hc ..))
 | ((first | refine s1_id ?_ | refine swp_id ?_ | refine sops_id ?_ | refine s2_id ?_); simp only [decide_eq_true hlt', hd, go_sem, zaa, zaj, zak, zal, zan, zah, ↓reduceIte, reduceCtorEq, zac, zaf, zao, zap, zaq, zaR, zaS, zaC, zaQ, renO, bk, back, outUpsFrom, Ints_ren])
 | (intros; omega)
 | exact fs_nil trivial rfl
 | fail)
    | false =>
      rw [hqb] at hc he
      simp only [zbl, if_false] at he
      simp only [go_sem, zaa, zaj, zak, zal, zan, zah, ↓reduceIte, reduceCtorEq, zac, zaf, zao, zap, zaq, decide_eq_true hlt', hd]
      repeat' (first
 | with_reducible refine zai ?_ ?_
 | (apply cl_plain
    case hs => rfl
    case ha => (simp only [zab, zae, prepV, prepC, idx, hpL', lookR, zaa, if_true, if_false]; rfl)
    case h => (first | exact hc ..))
 | ((first | refine s1_id ?_ | refine swp_id ?_ | refine sops_id ?_ | refine s2_id ?_); simp only [decide_eq_true hlt', hd, go_sem, zaa, zaj, zak, zal, zan, zah, ↓reduceIte, reduceCtorEq, zac, zaf, zao, zap, zaq, zaR, zaS, zaC, zaQ, renO, bk, back, outUpsFrom, Ints_ren])
 | (intros; omega)
 | (intros; (try simp only [zaw, zaB, zaz, zax, zat, zau, decide_eq_true_eq, decide_eq_false_iff_not] at *); omega))
      refine le_mk (i + 1) ?_ ⟨by omega, he⟩ (by omega)
      (refine imp_ren _ _ _ [(0, 0, ⟨[st s, int ((i + 1 : Nat) : Int), Sh.bool true], 0⟩)] (by simp) (by simp) (by simp) (zaF rfl) ?_ rfl (by simp only [zad, zag, false_implies, implies_true, and_true, zbe, lookR, zaa, if_true, if_false, ↓reduceIte, zaD] <;> (repeat' apply zai) <;> (first | rfl | trivial)) (by simp only [zad, zag, false_implies, implies_true, and_true, true_and, flat_cons, flat_nil, flat_ints, flat_bools, flat_app, zaA, and_self, eq_self_iff_true, zam, zaD]); simp only [zab, zae, zad, zag, false_implies, implies_true, and_true, lk, slot, zaR, zaC, toN, zaa, if_true, if_false, ↓reduceIte, reduceCtorEq])
      all_goals ((repeat' apply zai) <;> (first | rfl | trivial | (simp only [zaD]; done) | (simp only [zaD]; rfl) | (simp only [zaD]; trivial)))
  · have hd := bs_high s i b hb (by omega)
    have hle := bs_le s i
    have hc := hg (Utf8.decode (bs s) i).1 (by omega)
    rw [hhi _ (by omega)] at hc
    rw [hq b (by omega), if_pos rfl] at he
    rw [he]
    simp only [go_sem, zaa, zaj, zak, zal, zan, zah, ↓reduceIte, reduceCtorEq, zac, zaf, zao, zap, zaq, decide_eq_true hlt']
    repeat' (first
 | with_reducible refine zai ?_ ?_
 | (apply cl_plain
    case hs => rfl
    case ha => (simp only [zab, zae, prepV, prepC, idx, hpL', lookR, zaa, if_true, if_false]; rfl)
    case h => (first | exact hc ..))
 | ((first | refine s1_id ?_ | refine swp_id ?_ | refine sops_id ?_ | refine s2_id ?_); simp only [decide_eq_true hlt', go_sem, zaa, zaj, zak, zal, zan, zah, ↓reduceIte, reduceCtorEq, zac, zaf, zao, zap, zaq, zaR, zaS, zaC, zaQ, renO, bk, back, outUpsFrom, Ints_ren])
 | (intros; omega)
 | exact fs_nil trivial rfl
 | fail)
theorem indexFn_spec (g : FuncId) (p : Int → Bool) (q : UInt8 → Bool) (hg : ∀ r : Int, 0 ≤ r ∧ r ≤ 2147483647 → FnSpec Try.prog g [r1 r] [] (b1 (p r)) []) (hlo : ∀ b : UInt8, b.toNat < 128 → p (b.toNat : Int) = q b) (hhi : ∀ r : Int, 128 ≤ r → p r = true) (hq : ∀ b : UInt8, 128 ≤ b.toNat → q b = true)
    (s : Str) (hs : s.length ≤ 9223372036854775807) : FnSpec Try.prog 82 [s1 s, .one (.fn g [])] [] (i1 (ixQ q s 0)) [] := by
  have h1 := indexF_spec g p q hg hlo hhi hq s hs
  refine fnspec_of mixed TT_ok TT_cl ⟨fun _ => false, fun _ => [], 0, fun _ => false, fun _ => false⟩ Try.func82 rfl (by kernel_rfl) rfl 8 rfl [.tmp 4] rfl ?_
  simp only [go_sem, zaa, zaj, zak, zal, zan, zah, ↓reduceIte, reduceCtorEq, zac, zaf, zao, zap, zaq]
  repeat' (first
 | (apply cl_plain
    case hs => rfl
    case ha => (simp only [zab, zae, prepV, prepC, idx, hpL', lookR, zaa, if_true, if_false]; rfl)
    case h => (first | exact h1 ..))
 | ((first | refine s1_id ?_ | refine swp_id ?_ | refine sops_id ?_ | refine s2_id ?_); simp only [go_sem, zaa, zaj, zak, zal, zan, zah, ↓reduceIte, reduceCtorEq, zac, zaf, zao, zap, zaq, zaR, zaS, zaC, zaQ, renO, bk, back, outUpsFrom, Ints_ren])
 | exact fs_nil trivial rfl
 | fail)
theorem contF_spec (g : FuncId) (p : Int → Bool) (q : UInt8 → Bool) (hg : ∀ r : Int, 0 ≤ r ∧ r ≤ 2147483647 → FnSpec Try.prog g [r1 r] [] (b1 (p r)) []) (hlo : ∀ b : UInt8, b.toNat < 128 → p (b.toNat : Int) = q b) (hhi : ∀ r : Int, 128 ≤ r → p r = true) (hq : ∀ b : UInt8, 128 ≤ b.toNat → q b = true)
    (s : Str) (hs : s.length ≤ 9223372036854775807) : FnSpec Try.prog 81 [s1 s, .one (.fn g [])] [] (b1 (s.any q)) [] := by
  have h1 := indexFn_spec g p q hg hlo hhi hq s hs
  rw [← ixQ_any q s 0]
  refine fnspec_of mixed TT_ok TT_cl ⟨fun _ => false, fun _ => [], 0, fun _ => false, fun _ => false⟩ Try.func81 rfl (by kernel_rfl) rfl 9 rfl [.tmp 4] rfl ?_
  simp only [go_sem, zaa, zaj, zak, zal, zan, zah, ↓reduceIte, reduceCtorEq, zac, zaf, zao, zap, zaq]
  repeat' (first
 | (apply cl_plain
    case hs => rfl
    case ha => (simp only [zab, zae, prepV, prepC, idx, hpL', lookR, zaa, if_true, if_false]; rfl)
    case h => (first | exact h1 ..))
 | ((first | refine s1_id ?_ | refine swp_id ?_ | refine sops_id ?_ | refine s2_id ?_); simp only [go_sem, zaa, zaj, zak, zal, zan, zah, ↓reduceIte, reduceCtorEq, zac, zaf, zao, zap, zaq, zaR, zaS, zaC, zaQ, renO, bk, back, outUpsFrom, Ints_ren])
 | exact fs_nil trivial rfl
 | fail)
def inN (r : Int) : Bool := ((((decide (97 ≤ r) && decide (r ≤ 122)) || (decide (65 ≤ r) && decide (r ≤ 90))) || (decide (48 ≤ r) && decide (r ≤ 57))) || decide (r = 95)) || decide (r = 45)
def okB (b : UInt8) : Bool := inN b.toNat
theorem inN_spec (r : Int) : FnSpec Try.prog 80 [r1 r] [] (b1 (inN r)) [] := by
  unfold inN
  refine fnspec_of mixed TT_ok TT_cl ⟨fun _ => false, fun _ => [], 0, fun _ => false, fun _ => false⟩ Try.func80 rfl (by kernel_rfl) rfl 33 rfl [.tmp 2] rfl ?_
  simp only [go_sem, zaa, zaj, zak, zal, zan, zah, ↓reduceIte, reduceCtorEq, zac, zaf, zao, zap, zaq]
  repeat' (first
 | exact fs_nil trivial rfl
 | fail)
theorem strange_spec (r : Int) : FnSpec Try.prog 79 [r1 r] [] (b1 (!inN r)) [] := by
  have h1 := inN_spec r
  refine fnspec_of mixed TT_ok TT_cl ⟨fun _ => false, fun _ => [], 0, fun _ => false, fun _ => false⟩ Try.func79 rfl (by kernel_rfl) rfl 6 rfl [.tmp 2] rfl ?_
  simp only [go_sem, zaa, zaj, zak, zal, zan, zah, ↓reduceIte, reduceCtorEq, zac, zaf, zao, zap, zaq]
  repeat' (first
 | (apply cl_plain
    case hs => rfl
    case ha => (simp only [zab, zae, prepV, prepC, idx, hpL', lookR, zaa, if_true, if_false]; rfl)
    case h => (first | exact h1 ..))
 | ((first | refine s1_id ?_ | refine swp_id ?_ | refine sops_id ?_ | refine s2_id ?_); simp only [go_sem, zaa, zaj, zak, zal, zan, zah, ↓reduceIte, reduceCtorEq, zac, zaf, zao, zap, zaq, zaR, zaS, zaC, zaQ, renO, bk, back, outUpsFrom, Ints_ren])
 | exact fs_nil trivial rfl
 | fail)
def nmOk (s : Str) : Bool := decide (1 ≤ (s.length : Int)) && decide ((s.length : Int) ≤ 32) && !decide (((s.headD 0).toNat : Int) = 45) && s.all okB
theorem inN_hi (r : Int) (h : 128 ≤ r) : (!inN r) = true := by
  unfold inN
  simp
  omega
theorem all_any (s : Str) : (!(s.any fun b => !okB b)) = s.all okB := by
  rw [List.all_eq_not_any_not]
theorem valid_spec (s : Str) (hs : s.length ≤ 9223372036854775807) : FnSpec Try.prog 78 [s1 s] [] (b1 (nmOk s)) [] := by
  have h1 := contF_spec 79 (fun r => !inN r) (fun b => !okB b) (fun r _ => strange_spec r) (fun b _ => rfl) inN_hi (fun b hb => inN_hi _ (by omega)) s hs
  unfold nmOk
  by_cases ha : 1 ≤ (s.length : Int)
  case neg =>
    simp only [decide_eq_false ha, zbb]
    refine fnspec_of mixed TT_ok TT_cl ⟨fun _ => false, fun _ => [], 0, fun _ => false, fun _ => false⟩ Try.func78 rfl (by kernel_rfl) rfl 23 rfl [.tmp 2] rfl ?_
    simp only [go_sem, zaa, zaj, zak, zal, zan, zah, ↓reduceIte, reduceCtorEq, zac, zaf, zao, zap, zaq, decide_eq_false ha]
    repeat' (first
 | exact fs_nil trivial rfl
 | fail)
  by_cases hb : (s.length : Int) ≤ 32
  case neg =>
    simp only [decide_eq_true ha, decide_eq_false hb, zbb, zbp]
    refine fnspec_of mixed TT_ok TT_cl ⟨fun _ => false, fun _ => [], 0, fun _ => false, fun _ => false⟩ Try.func78 rfl (by kernel_rfl) rfl 23 rfl [.tmp 2] rfl ?_
    simp only [go_sem, zaa, zaj, zak, zal, zan, zah, ↓reduceIte, reduceCtorEq, zac, zaf, zao, zap, zaq, decide_eq_true ha, decide_eq_false hb]
    repeat' (first
 | exact fs_nil trivial rfl
 | fail)
  have hd : ((s[Int.toNat 0]?).getD 0) = s.headD 0 := by cases s <;> rfl
  by_cases hc : ((s.headD 0).toNat : Int) = 45
  case pos =>
    simp only [decide_eq_true ha, decide_eq_true hb, decide_eq_true hc, Bool.not_true, zbb, zbp]
    refine fnspec_of mixed TT_ok TT_cl ⟨fun _ => false, fun _ => [], 0, fun _ => false, fun _ => false⟩ Try.func78 rfl (by kernel_rfl) rfl 23 rfl [.tmp 2] rfl ?_
    simp only [go_sem, zaa, zaj, zak, zal, zan, zah, ↓reduceIte, reduceCtorEq, zac, zaf, zao, zap, zaq, decide_eq_true ha, decide_eq_true hb, hd, decide_eq_true hc]
    repeat' (first
 | with_reducible refine zai ?_ ?_
 | (intros; omega)
 | exact fs_nil trivial rfl
 | fail)
  simp only [decide_eq_true ha, decide_eq_true hb, decide_eq_false hc, Bool.not_false, zbg, ← all_any]
  refine fnspec_of mixed TT_ok TT_cl ⟨fun _ => false, fun _ => [], 0, fun _ => false, fun _ => false⟩ Try.func78 rfl (by kernel_rfl) rfl 23 rfl [.tmp 2] rfl ?_
  simp only [go_sem, zaa, zaj, zak, zal, zan, zah, ↓reduceIte, reduceCtorEq, zac, zaf, zao, zap, zaq, decide_eq_true ha, decide_eq_true hb, hd, decide_eq_false hc]
  repeat' (first
 | with_reducible refine zai ?_ ?_
 | (apply cg_tp
    case hl => rfl
    case ha => (simp only [zab, zae, prepV, prepC, idx, hpL', lookR, zaa, if_true, if_false]; rfl)
    case hs => rfl
    case h => (first | exact h1 ..))
 | ((first | refine s1_id ?_ | refine swp_id ?_ | refine sops_id ?_ | refine s2_id ?_); simp only [decide_eq_true ha, decide_eq_true hb, hd, decide_eq_false hc, go_sem, zaa, zaj, zak, zal, zan, zah, ↓reduceIte, reduceCtorEq, zac, zaf, zao, zap, zaq, zaR, zaS, zaC, zaQ, renO, bk, back, outUpsFrom, Ints_ren])
 | (intros; omega)
 | exact fs_nil trivial rfl
 | fail)
end Go.Proofs.Ytlajelbiniakpaa
-- NEWGO
-- PRUNE: cl_lendx cl_use cl_lend
namespace Go.Proofs.Ytlajelbiniakpaa
set_option linter.unusedVariables false
set_option linter.unusedSimpArgs false
open Go.Proofs.Ytlajelbiniakpaa.Sh
set_option maxRecDepth 20000
theorem inN_fold (r : Int) : (((((decide (97 ≤ r) && decide (r ≤ 122)) || (decide (65 ≤ r) && decide (r ≤ 90))) || (decide (48 ≤ r) && decide (r ≤ 57))) || decide (r = 95)) || decide (r = 45)) = inN r := rfl
set_option maxHeartbeats 4000000 in
theorem rvalid_spec (s : Str) (hs : s.length ≤ 9223372036854775807) : FnSpec Try.prog 44 [s1 s] [] (b1 (nmOk s)) [] := by
  unfold nmOk
  by_cases ha : 1 ≤ (s.length : Int)
  case neg =>
    have ha' : (s.length : Int) = 0 := by omega
    simp only [decide_eq_false ha, zbb]
    refine fnspec_of mixed TT_ok TT_cl ⟨fun _ => false, fun _ => [], 0, fun _ => false, fun _ => false⟩ Try.func44 rfl (by kernel_rfl) rfl 58 rfl [.tmp 2] rfl ?_
    simp only [go_sem, zaa, zaj, zak, zal, zan, zah, ↓reduceIte, reduceCtorEq, zac, zaf, zao, zap, zaq, decide_eq_true ha']
    repeat' (first
 | exact fs_nil trivial rfl
 | fail)
  have ha' : ¬ (s.length : Int) = 0 := by omega
  by_cases hb : (s.length : Int) ≤ 32
  case neg =>
    have hb' : 32 < (s.length : Int) := by omega
    simp only [decide_eq_true ha, decide_eq_false hb, zbb, zbp]
    refine fnspec_of mixed TT_ok TT_cl ⟨fun _ => false, fun _ => [], 0, fun _ => false, fun _ => false⟩ Try.func44 rfl (by kernel_rfl) rfl 58 rfl [.tmp 2] rfl ?_
    simp only [go_sem, zaa, zaj, zak, zal, zan, zah, ↓reduceIte, reduceCtorEq, zac, zaf, zao, zap, zaq, decide_eq_false ha', decide_eq_true hb']
    repeat' (first
 | exact fs_nil trivial rfl
 | fail)
  have hb' : ¬ 32 < (s.length : Int) := by omega
  have hd : ((s[Int.toNat 0]?).getD 0) = s.headD 0 := by cases s <;> rfl
  by_cases hc : ((s.headD 0).toNat : Int) = 45
  case pos =>
    simp only [decide_eq_true ha, decide_eq_true hb, decide_eq_true hc, Bool.not_true, zbb, zbp]
    refine fnspec_of mixed TT_ok TT_cl ⟨fun _ => false, fun _ => [], 0, fun _ => false, fun _ => false⟩ Try.func44 rfl (by kernel_rfl) rfl 58 rfl [.tmp 2] rfl ?_
    simp only [go_sem, zaa, zaj, zak, zal, zan, zah, ↓reduceIte, reduceCtorEq, zac, zaf, zao, zap, zaq, decide_eq_false ha', decide_eq_false hb', hd, decide_eq_true hc]
    repeat' (first
 | with_reducible refine zai ?_ ?_
 | (intros; omega)
 | exact fs_nil trivial rfl
 | fail)
  simp only [decide_eq_true ha, decide_eq_true hb, decide_eq_false hc, Bool.not_false, zbg]
  refine fnspec_of mixed TT_ok TT_cl ⟨fun _ => false, fun _ => [], 0, fun _ => false, fun _ => false⟩ Try.func44 rfl (by kernel_rfl) rfl 58 rfl [.tmp 2] rfl ?_
  simp only [go_sem, zaa, zaj, zak, zal, zan, zah, ↓reduceIte, reduceCtorEq, zac, zaf, zao, zap, zaq, decide_eq_false ha', decide_eq_false hb', hd, decide_eq_false hc]
  repeat' (first
 | with_reducible refine zai ?_ ?_
 | (intros; omega)
 | (intros; (try simp only [zaw, zaB, zaz, zax, zat, zau, decide_eq_true_eq, decide_eq_false_iff_not] at *); omega))
  refine w_loop (ι := Nat) (fun i => ⟨[(0, s1 s), (3, i1 i)], [], 0⟩) (fun i => i ≤ s.length ∧ s.all okB = (s.drop i).all okB) (fun i => s.length - i) 0 ?_ ⟨zbd _, rfl⟩ ?_
  · (refine imp_sub _ _ _ [] (by simp) (by simp) (by simp) (zbd _) ?_ rfl (by simp); simp only [zad, zag, false_implies, implies_true, and_true, lk, slot, zaR, zaC, zaa, if_true, if_false, ↓reduceIte, reduceCtorEq])
    all_goals ((repeat' apply zai) <;> (first | rfl | trivial))
  rintro i ⟨hi, he⟩
  simp only at hi he ⊢
  rcases zbf i s.length with hlt | hge
  case inr =>
    have hlt' : ¬ (i : Int) < (s.length : Int) := by omega
    rw [zbk hge] at he
    rw [he]
    simp only [go_sem, zaa, zaj, zak, zal, zan, zah, ↓reduceIte, reduceCtorEq, zac, zaf, zao, zap, zaq, decide_eq_false hlt', List.all_nil]
    repeat' (first
 | exact fs_nil trivial rfl
 | fail)
  have hlt' : (i : Int) < (s.length : Int) := by omega
  obtain ⟨b, hb2⟩ : ∃ b, s[i]? = some b := ⟨_, List.getElem?_eq_getElem hlt⟩
  rw [drop_at s i b hb2, List.all_cons] at he
  cases hob : okB b with
  | true =>
    rw [hob, zbg] at he
    have hob' : inN (b.toNat : Int) = true := hob
    simp only [go_sem, zaa, zaj, zak, zal, zan, zah, ↓reduceIte, reduceCtorEq, zac, zaf, zao, zap, zaq, decide_eq_true hlt', hb2, inN_fold, hob']
    repeat' (first
 | with_reducible refine zai ?_ ?_
 | (intros; omega)
 | (intros; (try simp only [zaw, zaB, zaz, zax, zat, zau, decide_eq_true_eq, decide_eq_false_iff_not] at *); omega))
    refine le_mk (i + 1) ?_ ⟨by omega, he⟩ (by omega)
    (refine imp_sub _ _ _ [] (by simp) (by simp) (by simp) (zbd _) ?_ rfl (by simp); simp only [zad, zag, false_implies, implies_true, and_true, lk, slot, zaR, zaC, zaa, if_true, if_false, ↓reduceIte, reduceCtorEq])
    all_goals ((repeat' apply zai) <;> (first | rfl | trivial | (simp only [zaD]; done) | (simp only [zaD]; rfl) | (simp only [zaD]; trivial)))
  | false =>
    rw [hob, zbb] at he
    rw [he]
    have hob' : inN (b.toNat : Int) = false := hob
    simp only [go_sem, zaa, zaj, zak, zal, zan, zah, ↓reduceIte, reduceCtorEq, zac, zaf, zao, zap, zaq, decide_eq_true hlt', hb2, inN_fold, hob']
    repeat' (first
 | with_reducible refine zai ?_ ?_
 | (intros; omega)
 | exact fs_nil trivial rfl
 | fail)
end Go.Proofs.Ytlajelbiniakpaa
-- NEWGO
-- PRUNE: cl_lendx cl_use cl_lend
namespace Go.Proofs.Ytlajelbiniakpaa
set_option linter.unusedVariables false
set_option linter.unusedSimpArgs false
open Go.Proofs.Ytlajelbiniakpaa.Sh
set_option maxRecDepth 20000
structure Nd where
  i : Int
  p : Int
  nm : Str
  c : Int
  k : Int
  o : Int
theorem Nd.ext' {x y : Nd} (h1 : x.i = y.i) (h2 : x.p = y.p) (h3 : x.nm = y.nm) (h4 : x.c = y.c) (h5 : x.k = y.k) (h6 : x.o = y.o) : x = y := by cases x; cases y; simp only at *; subst h1 h2 h3 h4 h5 h6; rfl
abbrev ndc (x : Nd) : List Cell := [int x.i, int x.p, st x.nm, int x.c, int x.k, int x.o]
instance : Rec Nd := ⟨ndc, 6, ⟨0, 0, [], 0, 0, 0⟩, fun _ => rfl, fun x c h => by
  simp only [ndc, zbi, zag, or_false] at h
  rcases h with rfl | rfl | rfl | rfl | rfl | rfl <;> rfl⟩
abbrev zn : Nd := ⟨0, 0, [], 0, 0, 0⟩
abbrev gN (l : List Nd) (i : Nat) : Nd := l.getD i zn
abbrev trV (l : List Nd) (k : Option Nat) (n : Int) : SV := .agg [.gsl (Cs l) 0 l.length k, int n]
structure NdR (x : Nd) : Prop where
  nm : x.nm.length ≤ 9223372036854775807
  c : -9223372036854775808 ≤ x.c ∧ x.c ≤ 9223372036854775807
def rngOk (x : Nd) : Bool := decide (0 ≤ x.c) && decide (x.c ≤ 31) && (decide (0 ≤ x.o) && decide (x.o ≤ 1048576))
def rootOk (x : Nd) : Bool := decide (x.i = 1) && decide (x.p = 0) && decide (x.nm = []) && decide (x.k = 0)
def same1 (p : Int) (s : Str) (y : Nd) : Bool := decide (y.p = p) && decide (y.nm = s)
def chOk (l : List Nd) (i : Nat) : Bool :=
  decide ((gN l (i - 1)).i < (gN l i).i) && nmOk (gN l i).nm && (l.take i).any (fun y => decide (y.i = (gN l i).p)) && !(l.take i).any (same1 (gN l i).p (gN l i).nm)
def kdOk (x : Nd) : Bool := decide (x.k = 0) || decide (x.k = 1)
def stOk (l : List Nd) (i : Nat) : Bool := kdOk (gN l i) && rngOk (gN l i) && (if i = 0 then rootOk (gN l 0) else chOk l i)
def upR : List Nd → Int → List Int
  | [], _ => []
  | x :: r, id => if x.i = id then id :: upR r x.p else upR r id
def upL (l : List Nd) (id : Int) : List Int := upR l.reverse id
theorem upR_len : ∀ (l : List Nd) (id : Int), (upR l id).length ≤ l.length
  | [], _ => zbh _
  | x :: r, id => by
    unfold upR
    split
    · rw [zaM, zaM]; have := upR_len r x.p; omega
    · rw [zaM]; have := upR_len r id; omega
def allN (n : Nat) (f : Nat → Bool) : Bool := (List.range n).all f
theorem allN_iff (n : Nat) (f : Nat → Bool) : allN n f = true ↔ ∀ i, i < n → f i = true := by
  simp [allN, List.all_eq_true, List.mem_range]
def chkT (l : List Nd) (n : Int) : Bool :=
  decide (1 ≤ l.length) && decide (l.length ≤ 64) && allN l.length (stOk l) && allN l.length (fun i => decide ((upL l (gN l i).i).length ≤ 9)) && (decide ((gN l (l.length - 1)).i < n) && decide (n ≤ 2147483648))
structure VT (l : List Nd) (n : Int) : Prop where
  ne : 1 ≤ l.length
  le : l.length ≤ 64
  st : ∀ i, i < l.length → stOk l i = true
  dp : ∀ i, i < l.length → (upL l (gN l i).i).length ≤ 9
  nx : (gN l (l.length - 1)).i < n
  mx : n ≤ 2147483648
theorem chkT_iff (l : List Nd) (n : Int) : chkT l n = true ↔ VT l n := by
  unfold chkT
  simp only [zaw, decide_eq_true_eq, allN_iff]
  constructor
  · rintro ⟨⟨⟨⟨h1, h2⟩, h3⟩, h4⟩, h5, h6⟩; exact ⟨h1, h2, h3, h4, h5, h6⟩
  · rintro ⟨h1, h2, h3, h4, h5, h6⟩; exact ⟨⟨⟨⟨h1, h2⟩, h3⟩, h4⟩, h5, h6⟩
theorem chkT_not {l : List Nd} {n : Int} (h : ¬ VT l n) : chkT l n = false := Bool.eq_false_iff.2 fun e => h ((chkT_iff l n).1 e)
/-! what a well-formed tree is like -/
theorem stOk_root {l : List Nd} (h : stOk l 0 = true) : (gN l 0).i = 1 ∧ (gN l 0).p = 0 ∧ (gN l 0).nm = [] ∧ (gN l 0).k = 0 := by
  unfold stOk rootOk at h
  simp only [if_pos, zaw, decide_eq_true_eq] at h
  obtain ⟨_, ⟨⟨h1, h2⟩, h3⟩, h4⟩ := h
  exact ⟨h1, h2, h3, h4⟩
structure ChP (l : List Nd) (i : Nat) : Prop where
  lt : (gN l (i - 1)).i < (gN l i).i
  nm : nmOk (gN l i).nm = true
  par : ∃ j, j < i ∧ (gN l j).i = (gN l i).p
  new : ∀ j, j < i → ¬ ((gN l j).p = (gN l i).p ∧ (gN l j).nm = (gN l i).nm)
theorem take_any_iff (l : List Nd) (i : Nat) (hi : i ≤ l.length) (f : Nd → Bool) : (l.take i).any f = true ↔ ∃ j, j < i ∧ f (gN l j) = true := by
  rw [List.any_eq_true]
  constructor
  · rintro ⟨x, hx, hf⟩
    obtain ⟨k, hk, rfl⟩ := List.mem_take_iff_getElem.1 hx
    exact ⟨k, by omega, by rw [show gN l k = l[k] from getD_at l k zn (by omega)]; exact hf⟩
  · rintro ⟨j, hj, hf⟩
    exact ⟨gN l j, List.mem_take_iff_getElem.2 ⟨j, by omega, (getD_at l j zn (by omega)).symm⟩, hf⟩
theorem chOk_iff (l : List Nd) (i : Nat) (hi : i < l.length) : chOk l i = true ↔ ChP l i := by
  unfold chOk
  simp only [zaw, zaz, decide_eq_true_eq]
  rw [take_any_iff l i (zbq hi), Bool.eq_false_iff, ne_eq, take_any_iff l i (zbq hi)]
  unfold same1
  simp only [zaw, decide_eq_true_eq]
  constructor
  · rintro ⟨⟨⟨h1, h2⟩, h3⟩, h4⟩
    exact ⟨h1, h2, h3, fun j hj h => h4 ⟨j, hj, h⟩⟩
  · rintro ⟨h1, h2, h3, h4⟩
    exact ⟨⟨⟨h1, h2⟩, h3⟩, fun ⟨j, hj, h⟩ => h4 j hj h⟩
theorem stOk_ch {l : List Nd} {i : Nat} (hi : i < l.length) (h0 : i ≠ 0) (h : stOk l i = true) : ChP l i := by
  unfold stOk at h
  rw [if_neg h0, zaw] at h
  exact (chOk_iff l i hi).1 h.2
theorem VT.ch {l : List Nd} {n : Int} (h : VT l n) {i : Nat} (hi : i < l.length) (h0 : i ≠ 0) : ChP l i := stOk_ch hi h0 (h.st i hi)
theorem VT.root {l : List Nd} {n : Int} (h : VT l n) : (gN l 0).i = 1 ∧ (gN l 0).p = 0 ∧ (gN l 0).nm = [] ∧ (gN l 0).k = 0 := stOk_root (h.st 0 h.ne)
def AscI (l : List Nd) : Prop := ∀ i j, i < j → j < l.length → (gN l i).i < (gN l j).i
theorem asc_of_step {l : List Nd} (h : ∀ i, i ≠ 0 → i < l.length → (gN l (i - 1)).i < (gN l i).i) : AscI l := by
  intro i j hij hj
  induction j with
  | zero => omega
  | succ j ih =>
    have h1 := h (j + 1) (by omega) hj
    rw [Nat.add_sub_cancel] at h1
    by_cases e : i = j
    · subst e; exact h1
    · have := ih (by omega) (by omega); omega
theorem VT.asc {l : List Nd} {n : Int} (h : VT l n) : AscI l := asc_of_step fun i h0 hi => (h.ch hi h0).lt
theorem VT.pos {l : List Nd} {n : Int} (h : VT l n) {i : Nat} (hi : i < l.length) : 1 ≤ (gN l i).i := by
  by_cases e : i = 0
  · subst e; have := h.root.1; omega
  · have := h.asc 0 i (by omega) hi; have := h.root.1; omega
theorem VT.lt {l : List Nd} {n : Int} (h : VT l n) {i : Nat} (hi : i < l.length) : (gN l i).i < n := by
  have h1 := h.nx
  by_cases e : i = l.length - 1
  · rw [e]; exact h1
  · have := h.asc i (l.length - 1) (by omega) (by omega); omega
theorem AscI.inj {l : List Nd} (h : AscI l) {i j : Nat} (hi : i < l.length) (hj : j < l.length) (e : (gN l i).i = (gN l j).i) : i = j := by
  rcases Nat.lt_trichotomy i j with c | c | c
  · have := h i j c hj; omega
  · exact c
  · have := h j i c hi; omega
theorem AscI.take {l : List Nd} (h : AscI l) (k : Nat) : AscI (l.take k) := by
  intro i j hij hj
  rw [List.length_take] at hj
  have e : ∀ m, m < k → gN (l.take k) m = gN l m := fun m hm => by
    simp only [gN, List.getD_eq_getElem?_getD, List.getElem?_take_of_lt hm]
  rw [e i (by omega), e j (by omega)]
  exact h i j hij (by omega)
theorem gN_take (l : List Nd) (k m : Nat) (hm : m < k) : gN (l.take k) m = gN l m := by
  simp only [gN, List.getD_eq_getElem?_getD, List.getElem?_take_of_lt hm]
theorem gN_mem (l : List Nd) (x : Nd) (h : x ∈ l) : ∃ i, i < l.length ∧ gN l i = x := by
  obtain ⟨i, hi, e⟩ := List.getElem_of_mem h
  exact ⟨i, hi, by rw [← e]; exact getD_at l i zn hi⟩
/-! the way up -/
theorem upL_snoc (l : List Nd) (x : Nd) (id : Int) : upL (l ++ [x]) id = if x.i = id then id :: upL l x.p else upL l id := by
  rw [upL, List.reverse_append, List.reverse_singleton, zar, zas, upR]; rfl
theorem upL_take (l : List Nd) (i : Nat) (hi : i < l.length) (id : Int) : upL (l.take (i + 1)) id = if (gN l i).i = id then id :: upL (l.take i) (gN l i).p else upL (l.take i) id := by
  rw [take_getD l i zn hi, upL_snoc]
theorem upL_skip (l : List Nd) (id : Int) : ∀ (k : Nat), k ≤ l.length → (∀ j, k ≤ j → j < l.length → (gN l j).i ≠ id) → upL l id = upL (l.take k) id := by
  intro k hk hne
  have : ∀ m, m ≤ l.length - k → upL (l.take (k + m)) id = upL (l.take k) id := by
    intro m
    induction m with
    | zero => intro _; rfl
    | succ m ih =>
      intro hm
      rw [← Nat.add_assoc, upL_take l (k + m) (by omega), if_neg (hne (k + m) (by omega) (by omega)), ih (by omega)]
  have h2 := this (l.length - k) (zbh _)
  rw [show k + (l.length - k) = l.length by omega, List.take_length] at h2
  exact h2
theorem upL_node {l : List Nd} (h : AscI l) {i : Nat} (hi : i < l.length) : upL l (gN l i).i = (gN l i).i :: upL (l.take i) (gN l i).p := by
  rw [upL_skip l (gN l i).i (i + 1) hi (fun j hj hj2 => by have := h i j (by omega) hj2; omega), upL_take l i hi, if_pos rfl]
theorem upL_par {l : List Nd} (h : AscI l) {i j : Nat} (hi : i < l.length) (hj : j < i) : upL (l.take i) (gN l j).i = upL l (gN l j).i := by
  rw [upL_node h (by omega : j < l.length)]
  have := upL_node (h.take i) (i := j) (by rw [List.length_take]; omega)
  rw [gN_take l i j hj, List.take_take, Nat.min_eq_left (zbq hj)] at this
  exact this
theorem VT.up {l : List Nd} {n : Int} (h : VT l n) {i : Nat} (hi : i < l.length) (h0 : i ≠ 0) : upL l (gN l i).i = (gN l i).i :: upL l (gN l i).p := by
  obtain ⟨j, hj, e⟩ := (h.ch hi h0).par
  rw [upL_node h.asc hi, ← e, upL_par h.asc hi hj]
theorem VT.up0 {l : List Nd} {n : Int} (h : VT l n) : upL l 1 = [1] := by
  have := upL_node h.asc (i := 0) h.ne
  rw [h.root.1] at this
  rw [this]; rfl
end Go.Proofs.Ytlajelbiniakpaa
-- NEWGO
namespace Go.Proofs.Ytlajelbiniakpaa
set_option linter.unusedVariables false
set_option linter.unusedSimpArgs false
open Go.Proofs.Ytlajelbiniakpaa.Sh
set_option maxRecDepth 20000
structure VL (l : List Nd) (n : Int) : Prop where
  ne : 1 ≤ l.length
  rt : (gN l 0).i = 1 ∧ (gN l 0).p = 0 ∧ (gN l 0).nm = [] ∧ (gN l 0).k = 0
  le : l.length ≤ 64
  all : ∀ x ∈ l, kdOk x = true ∧ rngOk x = true
  asc : l.Pairwise (fun x y => x.i < y.i)
  ch : ∀ x ∈ l, x.i ≠ 1 → nmOk x.nm = true ∧ ∃ y ∈ l, y.i = x.p ∧ y.i < x.i
  new : l.Pairwise (fun x y => ¬ (x.p = y.p ∧ x.nm = y.nm))
  dp : ∀ x ∈ l, (upL l x.i).length ≤ 9
  nx : ∀ x ∈ l, x.i < n
  mx : n ≤ 2147483648
theorem ascI_iff (l : List Nd) : l.Pairwise (fun x y => x.i < y.i) ↔ AscI l := by
  rw [List.pairwise_iff_getElem]
  constructor
  · intro h i j hij hj
    have := h i j (by omega) hj hij
    rw [show gN l i = l[i] from getD_at l i zn (by omega), show gN l j = l[j] from getD_at l j zn hj]
    exact this
  · intro h i j hi hj hij
    have := h i j hij hj
    rw [show gN l i = l[i] from getD_at l i zn hi, show gN l j = l[j] from getD_at l j zn hj] at this
    exact this
theorem VT.vl {l : List Nd} {n : Int} (h : VT l n) : VL l n where
  ne := h.ne
  rt := h.root
  le := h.le
  all := fun x hx => by
    obtain ⟨i, hi, rfl⟩ := gN_mem l x hx
    have := h.st i hi
    unfold stOk at this
    simp only [zaw] at this
    exact this.1
  asc := (ascI_iff l).2 h.asc
  ch := fun x hx h1 => by
    obtain ⟨i, hi, rfl⟩ := gN_mem l x hx
    have h0 : i ≠ 0 := fun e => h1 (by rw [e]; exact h.root.1)
    have hc := h.ch hi h0
    obtain ⟨j, hj, e⟩ := hc.par
    exact ⟨hc.nm, gN l j, getD_mem l j zn (by omega), e, h.asc j i hj hi⟩
  new := by
    rw [List.pairwise_iff_getElem]
    intro i j hi hj hij hh
    have hc := h.ch hj (by omega)
    refine hc.new i hij ?_
    rw [show gN l i = l[i] from getD_at l i zn hi, show gN l j = l[j] from getD_at l j zn hj]
    exact hh
  dp := fun x hx => by
    obtain ⟨i, hi, rfl⟩ := gN_mem l x hx
    exact h.dp i hi
  nx := fun x hx => by
    obtain ⟨i, hi, rfl⟩ := gN_mem l x hx
    exact h.lt hi
  mx := h.mx
theorem VL.vt {l : List Nd} {n : Int} (h : VL l n) : VT l n where
  ne := h.ne
  le := h.le
  st := fun i hi => by
    have hm : gN l i ∈ l := getD_mem l i zn hi
    obtain ⟨h1, h2⟩ := h.all _ hm
    have hA := (ascI_iff l).1 h.asc
    unfold stOk
    rw [h1, h2, zbg, zbg]
    by_cases h0 : i = 0
    · rw [if_pos h0]
      unfold rootOk
      rw [decide_eq_true h.rt.1, decide_eq_true h.rt.2.1, decide_eq_true h.rt.2.2.1, decide_eq_true h.rt.2.2.2]
      rfl
    · rw [if_neg h0, chOk_iff l i hi]
      have hne : (gN l i).i ≠ 1 := by have := hA 0 i (by omega) hi; have := h.rt.1; omega
      obtain ⟨h3, y, hy, e, hlt⟩ := h.ch _ hm hne
      refine ⟨hA (i - 1) i (by omega) hi, h3, ?_, fun j hj hh => ?_⟩
      · obtain ⟨j, hj, rfl⟩ := gN_mem l y hy
        refine ⟨j, ?_, e⟩
        rcases Nat.lt_trichotomy j i with c | c | c
        · exact c
        · rw [c] at hlt; omega
        · have := hA i j c hj; omega
      · have hn := (List.pairwise_iff_getElem.1 h.new) j i (by omega) hi hj
        rw [show gN l i = l[i] from getD_at l i zn hi, show gN l j = l[j] from getD_at l j zn (by omega)] at hh
        exact hn hh
  dp := fun i hi => h.dp _ (getD_mem l i zn hi)
  nx := h.nx _ (getD_mem l _ zn (by have := h.ne; omega))
  mx := h.mx
theorem VL.pos {l : List Nd} {n : Int} (h : VL l n) {x : Nd} (hx : x ∈ l) : 1 ≤ x.i := by
  obtain ⟨i, hi, rfl⟩ := gN_mem l x hx
  exact h.vt.pos hi
theorem VL.inj {l : List Nd} {n : Int} (h : VL l n) {x y : Nd} (hx : x ∈ l) (hy : y ∈ l) (e : x.i = y.i) : x = y := by
  obtain ⟨i, hi, rfl⟩ := gN_mem l x hx
  obtain ⟨j, hj, rfl⟩ := gN_mem l y hy
  rw [((ascI_iff l).1 h.asc).inj hi hj e]
theorem VL.add {l : List Nd} {n : Int} (h : VL l n) {p : Int} {s : Str} (hs : nmOk s = true) (hp : ∃ y ∈ l, y.i = p) (hn : ∀ y ∈ l, ¬ (y.p = p ∧ y.nm = s)) (hd : (upL l p).length ≤ 8) (hl : l.length < 64) (hx : n ≤ 2147483647) :
    VL (l ++ [⟨n, p, s, 0, 0, 0⟩]) (n + 1) where
  ne := by rw [List.length_append]; have := h.ne; omega
  rt := by
    have e : gN (l ++ [⟨n, p, s, 0, 0, 0⟩]) 0 = gN l 0 := by
      have := h.ne
      simp only [gN, List.getD_eq_getElem?_getD]
      rw [List.getElem?_append_left (by omega)]
    rw [e]; exact h.rt
  le := by rw [List.length_append, List.length_singleton]; omega
  all := fun x hx => by
    rcases List.mem_append.1 hx with hx | hx
    · exact h.all x hx
    · rw [List.mem_singleton.1 hx]; exact ⟨rfl, rfl⟩
  asc := List.pairwise_append.2 ⟨h.asc, zbj _ _, fun a ha b hb => by rw [List.mem_singleton.1 hb]; exact h.nx a ha⟩
  ch := fun x hx h1 => by
    rcases List.mem_append.1 hx with hx | hx
    · obtain ⟨h2, y, hy, h3⟩ := h.ch x hx h1
      exact ⟨h2, y, List.mem_append_left _ hy, h3⟩
    · rw [List.mem_singleton.1 hx]
      obtain ⟨y, hy, e⟩ := hp
      exact ⟨hs, y, List.mem_append_left _ hy, e, h.nx y hy⟩
  new := List.pairwise_append.2 ⟨h.new, zbj _ _, fun a ha b hb => by rw [List.mem_singleton.1 hb]; exact hn a ha⟩
  dp := fun x hx => by
    rw [upL_snoc]
    rcases List.mem_append.1 hx with hx | hx
    · have := h.nx x hx
      rw [if_neg (by simp only; omega)]
      exact h.dp x hx
    · rw [List.mem_singleton.1 hx, if_pos rfl, zaM]
      simp only; omega
  nx := fun x hx => by
    rcases List.mem_append.1 hx with hx | hx
    · have := h.nx x hx; omega
    · rw [List.mem_singleton.1 hx]; simp only; omega
  mx := by omega
def rmN (l : List Nd) (id : Int) : List Nd := l.filter fun x => !decide (x.i = id)
theorem rmN_mem (l : List Nd) (id : Int) (x : Nd) : x ∈ rmN l id ↔ x ∈ l ∧ x.i ≠ id := by
  unfold rmN
  rw [List.mem_filter]; simp
theorem upR_rm (id : Int) : ∀ (l : List Nd) (q : Int), q ≠ id → (∀ x ∈ l, x.p ≠ id) → upR (l.filter fun x => !decide (x.i = id)) q = upR l q
  | [], q, _, _ => rfl
  | x :: r, q, hq, hp => by
    have hpr : ∀ y ∈ r, y.p ≠ id := fun y hy => hp y (zaI _ hy)
    by_cases c : x.i = id
    · rw [List.filter_cons_of_neg (by simp [c]), upR_rm id r q hq hpr, upR, if_neg (by omega)]
    · rw [zbm (by simp [c]), upR, upR, upR_rm id r q hq hpr, upR_rm id r x.p (hp x zaJ) hpr]
theorem upL_rm (l : List Nd) (id q : Int) (hq : q ≠ id) (hp : ∀ x ∈ l, x.p ≠ id) : upL (rmN l id) q = upL l q := by
  unfold upL rmN
  rw [← List.filter_reverse]
  exact upR_rm id l.reverse q hq fun x hx => hp x (List.mem_reverse.1 hx)
theorem VL.rm {l : List Nd} {n : Int} (h : VL l n) {id : Int} (h1 : id ≠ 1) (hc : ∀ x ∈ l, x.p ≠ id) : VL (rmN l id) n := by
  have hsub : (rmN l id).Sublist l := List.filter_sublist
  have h0 : rmN l id ≠ [] ∧ gN (rmN l id) 0 = gN l 0 := by
    have hne := h.ne
    cases l with
    | nil => simp at hne
    | cons r t =>
      have hr : r.i = 1 := h.rt.1
      have : rmN (r :: t) id = r :: rmN t id := by
        unfold rmN
        rw [zbm]
        simp; omega
      rw [this]
      exact ⟨List.cons_ne_nil _ _, rfl⟩
  exact
  { ne := List.length_pos_iff.2 h0.1
    rt := by rw [h0.2]; exact h.rt
    le := Nat.le_trans hsub.length_le h.le
    all := fun x hx => h.all x (hsub.subset hx)
    asc := h.asc.sublist hsub
    ch := fun x hx hx1 => by
      obtain ⟨h2, y, hy, h3, h4⟩ := h.ch x (hsub.subset hx) hx1
      exact ⟨h2, y, (rmN_mem l id y).2 ⟨hy, by rw [h3]; exact hc x (hsub.subset hx)⟩, h3, h4⟩
    new := h.new.sublist hsub
    dp := fun x hx => by
      rw [upL_rm l id x.i ((rmN_mem l id x).1 hx).2 hc]
      exact h.dp x (hsub.subset hx)
    nx := fun x hx => h.nx x (hsub.subset hx)
    mx := h.mx }
theorem VL_new : VL [⟨1, 0, [], 0, 0, 0⟩] 2 where
  ne := zbh _
  rt := ⟨rfl, rfl, rfl, rfl⟩
  le := by decide
  all := fun x hx => by rw [List.mem_singleton.1 hx]; exact ⟨rfl, rfl⟩
  asc := zbj _ _
  ch := fun x hx h => by rw [List.mem_singleton.1 hx] at h; exact absurd rfl h
  new := zbj _ _
  dp := fun x hx => by rw [List.mem_singleton.1 hx]; decide
  nx := fun x hx => by rw [List.mem_singleton.1 hx]; decide
  mx := by decide
end Go.Proofs.Ytlajelbiniakpaa
-- NEWGO
-- PRUNE: cl_lendx cl_use cl_lend
namespace Go.Proofs.Ytlajelbiniakpaa
set_option linter.unusedVariables false
set_option linter.unusedSimpArgs false
open Go.Proofs.Ytlajelbiniakpaa.Sh
set_option maxRecDepth 20000
theorem andn (x : BitVec 64) : (x &&& ~~~ 31#64 = 0#64) ↔ x.toNat < 32 := by
  constructor
  · intro h
    have h1 : x = x &&& 31#64 := by
      apply BitVec.eq_of_getLsbD_eq
      intro i hi
      have := congrArg (fun y => BitVec.getLsbD y i) h
      simp only [BitVec.getLsbD_and, BitVec.getLsbD_not, BitVec.getLsbD_zero] at this ⊢
      revert this
      cases x.getLsbD i <;> cases (31#64).getLsbD i <;> simp [hi]
    have h2 := congrArg BitVec.toNat h1
    rw [BitVec.toNat_and] at h2
    have h3 : x.toNat &&& 31 = x.toNat % 32 := Nat.and_two_pow_sub_one_eq_mod x.toNat 5
    have h4 : (31#64).toNat = 31 := rfl
    rw [h4, h3] at h2
    omega
  · intro h
    have h1 : x &&& 31#64 = x := by
      apply BitVec.eq_of_toNat_eq
      rw [BitVec.toNat_and]
      have h3 : x.toNat &&& 31 = x.toNat % 32 := Nat.and_two_pow_sub_one_eq_mod x.toNat 5
      have h4 : (31#64).toNat = 31 := rfl
      rw [h4, h3, Nat.mod_eq_of_lt h]
    rw [← h1, BitVec.and_assoc]
    have h5 : 31#64 &&& ~~~ 31#64 = 0#64 := by decide
    rw [h5]; simp
abbrev andN (a : Int) : Int := IntKind.i64.wrap (((BitVec.ofInt 64 a &&& ~~~ BitVec.ofInt 64 31).toNat : Nat) : Int)
theorem andN_iff (a : Int) (h : -9223372036854775808 ≤ a ∧ a ≤ 9223372036854775807) : andN a = 0 ↔ 0 ≤ a ∧ a ≤ 31 := by
  have h1 : BitVec.ofInt 64 31 = 31#64 := by decide
  unfold andN
  rw [h1, IntKind.wrap_i64]
  have h2 := andn (BitVec.ofInt 64 a)
  have h3 : (BitVec.ofInt 64 a).toNat = (a % 18446744073709551616).toNat := by rw [BitVec.toNat_ofInt]; rfl
  have h4 := (BitVec.ofInt 64 a &&& ~~~ 31#64).isLt
  have h5 : (BitVec.ofInt 64 a &&& ~~~ 31#64 = 0#64) ↔ (BitVec.ofInt 64 a &&& ~~~ 31#64).toNat = 0 := by
    constructor
    · intro e; rw [e]; rfl
    · intro e; exact BitVec.eq_of_toNat_eq e
  rw [h5, h3] at h2
  generalize (BitVec.ofInt 64 a &&& ~~~ 31#64).toNat = m at *
  constructor
  · intro e
    have : m = 0 := by omega
    have := h2.1 this
    omega
  · intro e
    have : m = 0 := h2.2 (by omega)
    subst this
    omega
end Go.Proofs.Ytlajelbiniakpaa
-- NEWGO
-- PRUNE: cl_lendx cl_use cl_lend
-- ISG: Cs_isG
-- FLAT: Cs_flat
namespace Go.Proofs.Ytlajelbiniakpaa
set_option linter.unusedVariables false
set_option linter.unusedSimpArgs false
open Go.Proofs.Ytlajelbiniakpaa.Sh
set_option maxRecDepth 20000
theorem nd_td (l : List Nd) (i : Nat) (h : i < l.length) : List.take 6 (List.drop (i * 6) (Cs l)) = ndc (gN l i) := Cs_td l i h
theorem nd_f (l : List Nd) (i : Nat) (h : i < l.length) (d : Cell) : (Cs l).getD (i * 6) d = int (gN l i).i ∧ (Cs l).getD (i * 6 + 1) d = int (gN l i).p ∧ (Cs l).getD (i * 6 + 2) d = st (gN l i).nm ∧ (Cs l).getD (i * 6 + 3) d = int (gN l i).c ∧ (Cs l).getD (i * 6 + 4) d = int (gN l i).k ∧ (Cs l).getD (i * 6 + 5) d = int (gN l i).o :=
  ⟨Cs_fld l i 0 d h (by decide), Cs_fld l i 1 d h (by decide), Cs_fld l i 2 d h (by decide), Cs_fld l i 3 d h (by decide), Cs_fld l i 4 d h (by decide), Cs_fld l i 5 d h (by decide)⟩
theorem nd_len (l : List Nd) : (Cs l).length = l.length * 6 := Cs_len l
theorem gate_eq (xk xc xo : Int) : (!decide (xk = 0) && !decide (xk = 1) || decide (xc < 0) || decide (31 < xc) || decide (xo < 0) || decide (1048576 < xo)) = !((decide (xk = 0) || decide (xk = 1)) && (decide (0 ≤ xc) && decide (xc ≤ 31) && (decide (0 ≤ xo) && decide (xo ≤ 1048576)))) := by
  have e1 : decide (xc < 0) = !decide (0 ≤ xc) := by rw [← decide_not]; exact decide_eq_decide.2 (by omega)
  have e2 : decide (31 < xc) = !decide (xc ≤ 31) := by rw [← decide_not]; exact decide_eq_decide.2 (by omega)
  have e3 : decide (xo < 0) = !decide (0 ≤ xo) := by rw [← decide_not]; exact decide_eq_decide.2 (by omega)
  have e4 : decide (1048576 < xo) = !decide (xo ≤ 1048576) := by rw [← decide_not]; exact decide_eq_decide.2 (by omega)
  rw [e1, e2, e3, e4]
  cases decide (xk = 0) <;> cases decide (xk = 1) <;> cases decide (0 ≤ xc) <;> cases decide (xc ≤ 31) <;> cases decide (0 ≤ xo) <;> cases decide (xo ≤ 1048576) <;> rfl
theorem any_take_succ (l : List Nd) (k : Nat) (h : k < l.length) (f : Nd → Bool) : (l.take (k + 1)).any f = ((l.take k).any f || f (gN l k)) := by
  rw [take_getD l k zn h, List.any_append]; simp
set_option maxHeartbeats 8000000 in
theorem node_spec (l : List Nd) (k : Option Nat) (n : Int) (i : Nat) (hi : i < l.length) (hl : l.length ≤ 1000000) (hnm : (gN l i).nm.length ≤ 9223372036854775807) : FnSpec Try.prog 65 [trV l k n, i1 i] [] (b1 (stOk l i)) [] := by
  have hN := nd_td l i hi
  have hnl := nd_len l
  obtain ⟨x, hx⟩ : ∃ x, gN l i = x := ⟨_, rfl⟩
  have hst : stOk l i = (kdOk x && rngOk x && (if i = 0 then rootOk x else chOk l i)) := by
    unfold stOk
    rw [hx]
    by_cases h0 : i = 0
    · subst h0; rw [if_pos rfl, if_pos rfl, hx]
    · rw [if_neg h0, if_neg h0]
  have hch : chOk l i = (decide ((gN l (i - 1)).i < x.i) && nmOk x.nm && (l.take i).any (fun y => decide (y.i = x.p)) && !(l.take i).any (same1 x.p x.nm)) := by unfold chOk; rw [hx]
  rw [hx] at hN hnm
  obtain ⟨xi, xp, xn, xc, xk, xo⟩ := x
  simp only [ndc] at hN hnm
  have hg := gate_eq xk xc xo
  have hge : (kdOk ⟨xi, xp, xn, xc, xk, xo⟩ && rngOk ⟨xi, xp, xn, xc, xk, xo⟩) = ((decide (xk = 0) || decide (xk = 1)) && (decide (0 ≤ xc) && decide (xc ≤ 31) && (decide (0 ≤ xo) && decide (xo ≤ 1048576)))) := rfl
  rw [← hge] at hg
  rw [hst]
  cases hb : (kdOk ⟨xi, xp, xn, xc, xk, xo⟩ && rngOk ⟨xi, xp, xn, xc, xk, xo⟩) with
  | false =>
    rw [hb] at hg
    simp only [Bool.not_false] at hg
    rw [zbb]
    refine fnspec_of mixed TT_ok TT_cl ⟨fun _ => false, fun _ => [], 0, fun _ => false, fun _ => false⟩ Try.func65 rfl (by kernel_rfl) rfl 115 rfl [.tmp 4] rfl ?_
    simp only [go_sem, zaa, zaj, zak, zal, zan, zah, ↓reduceIte, reduceCtorEq, zac, zaf, zao, zap, zaq, hN, zaX, zaY, zam, zar, zas, zaU, zaV, zaT, zba, zbc, zaM, zaZ, hg]
    repeat' (first
 | with_reducible refine zai ?_ ?_
 | (unfold OKC; kernel_rfl)
 | (apply okc_up <;> (first | ((repeat (first | exact Sub.nil | apply Sub.gfp | apply Sub.same)); done) | kernel_rfl))
 | (unfold EDG; kernel_rfl)
 | (refine gt_if (fun h => ?_) (fun h => ?_) <;> (try simp only [h]))
 | (refine pt_if (fun h => ?_) (fun h => ?_) <;> (try simp only [h]))
 | (refine cd_if (fun h => ?_) (fun h => ?_) <;> (try simp only [h]))
 | (apply cg_tp
    case hl => rfl
    case ha => (simp only [zab, zae, prepV, prepC, idx, hpL', lookR, zaa, if_true, if_false]; rfl)
    case hs => rfl
    case h => (first | fail))
 | (apply cg_ts
    case hl => rfl
    case ha => (simp only [zab, zae, prepV, prepC, idx, hpL', lookR, zaa, if_true, if_false]; rfl)
    case hs => (simp only [snaps_nil, zav, zay, zaK, zaA, zas, zar, zam]; rfl)
    case h => (first | fail)
    case hf => ((simp only [zad, zag, false_implies, implies_true, and_true, hpL', lookR, zaa, if_true, if_false]) <;> (repeat' apply zai) <;> (first | exact ⟨_, rfl, Ints_isG _⟩ | exact ⟨_, rfl, Cs_isG _⟩ | exact ⟨_, rfl, by simp [zaP]⟩))
    case hg => simp [zaW, zaL, zaE])
 | (apply cg_any
    case hl => rfl
    case ha => (intro hb; simp only [zab, zae, cnd, hb, if_true, prepV, prepC, idx, hpL', lookR, zaa, if_false]; rfl)
    case hs => (intro hb; simp only [cnd, hb, if_true]; rfl)
    case h => (first | fail))
 | (apply cg_show
    case hl => rfl
    case ha => (intro hb; simp only [zab, zae, cnd, hb, if_true, prepV, prepC, idx, hpL', lookR, zaa, if_false]; rfl)
    case hs => (intro hb; simp only [cnd, hb, if_true, snaps_nil, zav, zay, zaK, zaA, zas, zar, zam]; rfl)
    case h => (first | fail)
    case hf => ((simp only [zad, zag, false_implies, implies_true, and_true, hpL', lookR, zaa, if_true, if_false]) <;> (repeat' apply zai) <;> (first | exact ⟨_, rfl, Ints_isG _⟩ | exact ⟨_, rfl, Cs_isG _⟩ | exact ⟨_, rfl, by simp [zaP]⟩))
    case hg => simp [zaW, zaL, zaE])
 | (apply cl_plain
    case hs => rfl
    case ha => (simp only [zab, zae, prepV, prepC, idx, hpL', lookR, zaa, if_true, if_false]; rfl)
    case h => (first | fail))
 | (apply cl_show
    case ha => (simp only [zab, zae, prepV, prepC, idx, hpL', lookR, zaa, if_true, if_false]; rfl)
    case hs => ((simp [snaps, zaK, zaA, idx, hpL', lookR]) <;> (repeat' apply zai) <;> (first | exact Ints_isG _ | exact Cs_isG _))
    case h => (first | fail)
    case hg => ((simp [zaW, zaL, zaE]) <;> (repeat' apply zai) <;> exact Ints_noG _))
 | ((first | refine s1_id ?_ | refine swp_id ?_ | refine sops_id ?_ | refine s2_id ?_); simp only [hN, zaX, zaY, zam, zar, zas, zaU, zaV, zaT, zba, zbc, zaM, zaZ, hg, go_sem, zaa, zaj, zak, zal, zan, zah, ↓reduceIte, reduceCtorEq, zac, zaf, zao, zap, zaq, zaR, zaS, zaC, zaQ, renO, bk, back, outUpsFrom, Ints_ren])
 | (intros; omega)
 | (intros; (try simp only [zaw, zaB, zaz, zax, zat, zau, decide_eq_true_eq, decide_eq_false_iff_not] at *); omega)
 | exact fs_nil trivial rfl
 | (apply fs_nil <;> (try simp only [go_sem, resV, resS, zaR, zaS, zaC, zbr, zbe, idx, renO, zaQ, evS, slot, lookR, zaa, ↓reduceIte, reduceCtorEq, if_true, if_false, zaN, zaO, zab, zae, sLoad, readAt, readNeed, Ints_ren, Ints_length, Ints_getD, and_true, true_and, zaG, zaH]) <;> (try rfl))
 | fail)
  | true =>
    rw [hb] at hg
    simp only [Bool.not_true] at hg
    rw [zbg]
    by_cases h0 : i = 0
    · have c0 : (i : Int) = 0 := by omega
      rw [if_pos h0]
      unfold rootOk
      refine fnspec_of mixed TT_ok TT_cl ⟨fun _ => false, fun _ => [], 0, fun _ => false, fun _ => false⟩ Try.func65 rfl (by kernel_rfl) rfl 115 rfl [.tmp 4] rfl ?_
      simp only [go_sem, zaa, zaj, zak, zal, zan, zah, ↓reduceIte, reduceCtorEq, zac, zaf, zao, zap, zaq, hN, zaX, zaY, zam, zar, zas, zaU, zaV, zaT, zba, zbc, zaM, zaZ, hg, decide_eq_true c0]
      repeat' (first
 | with_reducible refine zai ?_ ?_
 | (unfold OKC; kernel_rfl)
 | (apply okc_up <;> (first | ((repeat (first | exact Sub.nil | apply Sub.gfp | apply Sub.same)); done) | kernel_rfl))
 | (unfold EDG; kernel_rfl)
 | (refine gt_if (fun h => ?_) (fun h => ?_) <;> (try simp only [h]))
 | (refine pt_if (fun h => ?_) (fun h => ?_) <;> (try simp only [h]))
 | (refine cd_if (fun h => ?_) (fun h => ?_) <;> (try simp only [h]))
 | (apply cg_tp
    case hl => rfl
    case ha => (simp only [zab, zae, prepV, prepC, idx, hpL', lookR, zaa, if_true, if_false]; rfl)
    case hs => rfl
    case h => (first | fail))
 | (apply cg_ts
    case hl => rfl
    case ha => (simp only [zab, zae, prepV, prepC, idx, hpL', lookR, zaa, if_true, if_false]; rfl)
    case hs => (simp only [snaps_nil, zav, zay, zaK, zaA, zas, zar, zam]; rfl)
    case h => (first | fail)
    case hf => ((simp only [zad, zag, false_implies, implies_true, and_true, hpL', lookR, zaa, if_true, if_false]) <;> (repeat' apply zai) <;> (first | exact ⟨_, rfl, Ints_isG _⟩ | exact ⟨_, rfl, Cs_isG _⟩ | exact ⟨_, rfl, by simp [zaP]⟩))
    case hg => simp [zaW, zaL, zaE])
 | (apply cg_any
    case hl => rfl
    case ha => (intro hb; simp only [zab, zae, cnd, hb, if_true, prepV, prepC, idx, hpL', lookR, zaa, if_false]; rfl)
    case hs => (intro hb; simp only [cnd, hb, if_true]; rfl)
    case h => (first | fail))
 | (apply cg_show
    case hl => rfl
    case ha => (intro hb; simp only [zab, zae, cnd, hb, if_true, prepV, prepC, idx, hpL', lookR, zaa, if_false]; rfl)
    case hs => (intro hb; simp only [cnd, hb, if_true, snaps_nil, zav, zay, zaK, zaA, zas, zar, zam]; rfl)
    case h => (first | fail)
    case hf => ((simp only [zad, zag, false_implies, implies_true, and_true, hpL', lookR, zaa, if_true, if_false]) <;> (repeat' apply zai) <;> (first | exact ⟨_, rfl, Ints_isG _⟩ | exact ⟨_, rfl, Cs_isG _⟩ | exact ⟨_, rfl, by simp [zaP]⟩))
    case hg => simp [zaW, zaL, zaE])
 | (apply cl_plain
    case hs => rfl
    case ha => (simp only [zab, zae, prepV, prepC, idx, hpL', lookR, zaa, if_true, if_false]; rfl)
    case h => (first | fail))
 | (apply cl_show
    case ha => (simp only [zab, zae, prepV, prepC, idx, hpL', lookR, zaa, if_true, if_false]; rfl)
    case hs => ((simp [snaps, zaK, zaA, idx, hpL', lookR]) <;> (repeat' apply zai) <;> (first | exact Ints_isG _ | exact Cs_isG _))
    case h => (first | fail)
    case hg => ((simp [zaW, zaL, zaE]) <;> (repeat' apply zai) <;> exact Ints_noG _))
 | ((first | refine s1_id ?_ | refine swp_id ?_ | refine sops_id ?_ | refine s2_id ?_); simp only [hN, zaX, zaY, zam, zar, zas, zaU, zaV, zaT, zba, zbc, zaM, zaZ, hg, decide_eq_true c0, go_sem, zaa, zaj, zak, zal, zan, zah, ↓reduceIte, reduceCtorEq, zac, zaf, zao, zap, zaq, zaR, zaS, zaC, zaQ, renO, bk, back, outUpsFrom, Ints_ren])
 | (intros; omega)
 | (intros; (try simp only [zaw, zaB, zaz, zax, zat, zau, decide_eq_true_eq, decide_eq_false_iff_not] at *); omega)
 | exact fs_nil trivial rfl
 | (apply fs_nil <;> (try simp only [go_sem, resV, resS, zaR, zaS, zaC, zbr, zbe, idx, renO, zaQ, evS, slot, lookR, zaa, ↓reduceIte, reduceCtorEq, if_true, if_false, zaN, zaO, zab, zae, sLoad, readAt, readNeed, Ints_ren, Ints_length, Ints_getD, and_true, true_and, zaG, zaH]) <;> (try rfl))
 | fail)
    have c0 : ¬ (i : Int) = 0 := by omega
    rw [if_neg h0, hch]
    have hin : ((i : Int) - 1).toNat = i - 1 := by omega
    obtain ⟨f1, _⟩ := nd_f l (i - 1) (by omega) (.sc (.int .i64 0))
    have hv := rvalid_spec xn (by omega)
    by_cases hlt : xi ≤ (gN l (i - 1)).i
    · rw [decide_eq_false (by simp only; omega), zbb, zbb, zbb]
      refine fnspec_of mixed TT_ok TT_cl ⟨fun _ => false, fun _ => [], 0, fun _ => false, fun _ => false⟩ Try.func65 rfl (by kernel_rfl) rfl 115 rfl [.tmp 4] rfl ?_
      simp only [go_sem, zaa, zaj, zak, zal, zan, zah, ↓reduceIte, reduceCtorEq, zac, zaf, zao, zap, zaq, hN, zaX, zaY, zam, zar, zas, zaU, zaV, zaT, zba, zbc, zaM, zaZ, hg, decide_eq_false c0, hin, f1, decide_eq_true hlt]
      repeat' (first
 | with_reducible refine zai ?_ ?_
 | (unfold OKC; kernel_rfl)
 | (apply okc_up <;> (first | ((repeat (first | exact Sub.nil | apply Sub.gfp | apply Sub.same)); done) | kernel_rfl))
 | (unfold EDG; kernel_rfl)
 | (refine gt_if (fun h => ?_) (fun h => ?_) <;> (try simp only [h]))
 | (refine pt_if (fun h => ?_) (fun h => ?_) <;> (try simp only [h]))
 | (refine cd_if (fun h => ?_) (fun h => ?_) <;> (try simp only [h]))
 | (apply cg_tp
    case hl => rfl
    case ha => (simp only [zab, zae, prepV, prepC, idx, hpL', lookR, zaa, if_true, if_false]; rfl)
    case hs => rfl
    case h => (first | fail))
 | (apply cg_ts
    case hl => rfl
    case ha => (simp only [zab, zae, prepV, prepC, idx, hpL', lookR, zaa, if_true, if_false]; rfl)
    case hs => (simp only [snaps_nil, zav, zay, zaK, zaA, zas, zar, zam]; rfl)
    case h => (first | fail)
    case hf => ((simp only [zad, zag, false_implies, implies_true, and_true, hpL', lookR, zaa, if_true, if_false]) <;> (repeat' apply zai) <;> (first | exact ⟨_, rfl, Ints_isG _⟩ | exact ⟨_, rfl, Cs_isG _⟩ | exact ⟨_, rfl, by simp [zaP]⟩))
    case hg => simp [zaW, zaL, zaE])
 | (apply cg_any
    case hl => rfl
    case ha => (intro hb; simp only [zab, zae, cnd, hb, if_true, prepV, prepC, idx, hpL', lookR, zaa, if_false]; rfl)
    case hs => (intro hb; simp only [cnd, hb, if_true]; rfl)
    case h => (first | fail))
 | (apply cg_show
    case hl => rfl
    case ha => (intro hb; simp only [zab, zae, cnd, hb, if_true, prepV, prepC, idx, hpL', lookR, zaa, if_false]; rfl)
    case hs => (intro hb; simp only [cnd, hb, if_true, snaps_nil, zav, zay, zaK, zaA, zas, zar, zam]; rfl)
    case h => (first | fail)
    case hf => ((simp only [zad, zag, false_implies, implies_true, and_true, hpL', lookR, zaa, if_true, if_false]) <;> (repeat' apply zai) <;> (first | exact ⟨_, rfl, Ints_isG _⟩ | exact ⟨_, rfl, Cs_isG _⟩ | exact ⟨_, rfl, by simp [zaP]⟩))
    case hg => simp [zaW, zaL, zaE])
 | (apply cl_plain
    case hs => rfl
    case ha => (simp only [zab, zae, prepV, prepC, idx, hpL', lookR, zaa, if_true, if_false]; rfl)
    case h => (first | fail))
 | (apply cl_show
    case ha => (simp only [zab, zae, prepV, prepC, idx, hpL', lookR, zaa, if_true, if_false]; rfl)
    case hs => ((simp [snaps, zaK, zaA, idx, hpL', lookR]) <;> (repeat' apply zai) <;> (first | exact Ints_isG _ | exact Cs_isG _))
    case h => (first | fail)
    case hg => ((simp [zaW, zaL, zaE]) <;> (repeat' apply zai) <;> exact Ints_noG _))
 | ((first | refine s1_id ?_ | refine swp_id ?_ | refine sops_id ?_ | refine s2_id ?_); simp only [hN, zaX, zaY, zam, zar, zas, zaU, zaV, zaT, zba, zbc, zaM, zaZ, hg, decide_eq_false c0, hin, f1, decide_eq_true hlt, go_sem, zaa, zaj, zak, zal, zan, zah, ↓reduceIte, reduceCtorEq, zac, zaf, zao, zap, zaq, zaR, zaS, zaC, zaQ, renO, bk, back, outUpsFrom, Ints_ren])
 | (intros; omega)
 | (intros; (try simp only [zaw, zaB, zaz, zax, zat, zau, decide_eq_true_eq, decide_eq_false_iff_not] at *); omega)
 | exact fs_nil trivial rfl
 | (apply fs_nil <;> (try simp only [go_sem, resV, resS, zaR, zaS, zaC, zbr, zbe, idx, renO, zaQ, evS, slot, lookR, zaa, ↓reduceIte, reduceCtorEq, if_true, if_false, zaN, zaO, zab, zae, sLoad, readAt, readNeed, Ints_ren, Ints_length, Ints_getD, and_true, true_and, zaG, zaH]) <;> (try rfl))
 | fail)
    rw [decide_eq_true (by simp only; omega), zbg]
    cases hnv : nmOk xn with
    | false =>
      rw [hnv] at hv
      rw [zbb, zbb]
      refine fnspec_of mixed TT_ok TT_cl ⟨fun _ => false, fun _ => [], 0, fun _ => false, fun _ => false⟩ Try.func65 rfl (by kernel_rfl) rfl 115 rfl [.tmp 4] rfl ?_
      simp only [go_sem, zaa, zaj, zak, zal, zan, zah, ↓reduceIte, reduceCtorEq, zac, zaf, zao, zap, zaq, hN, zaX, zaY, zam, zar, zas, zaU, zaV, zaT, zba, zbc, zaM, zaZ, hg, decide_eq_false c0, hin, f1, decide_eq_false hlt]
      repeat' (first
 | with_reducible refine zai ?_ ?_
 | (unfold OKC; kernel_rfl)
 | (apply okc_up <;> (first | ((repeat (first | exact Sub.nil | apply Sub.gfp | apply Sub.same)); done) | kernel_rfl))
 | (unfold EDG; kernel_rfl)
 | (refine gt_if (fun h => ?_) (fun h => ?_) <;> (try simp only [h]))
 | (refine pt_if (fun h => ?_) (fun h => ?_) <;> (try simp only [h]))
 | (refine cd_if (fun h => ?_) (fun h => ?_) <;> (try simp only [h]))
 | (apply cg_tp
    case hl => rfl
    case ha => (simp only [zab, zae, prepV, prepC, idx, hpL', lookR, zaa, if_true, if_false]; rfl)
    case hs => rfl
    case h => (first | exact hv ..))
 | (apply cg_ts
    case hl => rfl
    case ha => (simp only [zab, zae, prepV, prepC, idx, hpL', lookR, zaa, if_true, if_false]; rfl)
    case hs => (simp only [snaps_nil, zav, zay, zaK, zaA, zas, zar, zam]; rfl)
    case h => (first | exact hv ..)
    case hf => ((simp only [zad, zag, false_implies, implies_true, and_true, hpL', lookR, zaa, if_true, if_false]) <;> (repeat' apply zai) <;> (first | exact ⟨_, rfl, Ints_isG _⟩ | exact ⟨_, rfl, Cs_isG _⟩ | exact ⟨_, rfl, by simp [zaP]⟩))
    case hg => simp [zaW, zaL, zaE])
 | (apply cg_any
    case hl => rfl
    case ha => (intro hb; simp only [zab, zae, cnd, hb, if_true, prepV, prepC, idx, hpL', lookR, zaa, if_false]; rfl)
    case hs => (intro hb; simp only [cnd, hb, if_true]; rfl)
    case h => (first | exact hv ..))
 | (apply cg_show
    case hl => rfl
    case ha => (intro hb; simp only [zab, zae, cnd, hb, if_true, prepV, prepC, idx, hpL', lookR, zaa, if_false]; rfl)
    case hs => (intro hb; simp only [cnd, hb, if_true, snaps_nil, zav, zay, zaK, zaA, zas, zar, zam]; rfl)
    case h => (first | exact hv ..)
    case hf => ((simp only [zad, zag, false_implies, implies_true, and_true, hpL', lookR, zaa, if_true, if_false]) <;> (repeat' apply zai) <;> (first | exact ⟨_, rfl, Ints_isG _⟩ | exact ⟨_, rfl, Cs_isG _⟩ | exact ⟨_, rfl, by simp [zaP]⟩))
    case hg => simp [zaW, zaL, zaE])
 | (apply cl_plain
    case hs => rfl
    case ha => (simp only [zab, zae, prepV, prepC, idx, hpL', lookR, zaa, if_true, if_false]; rfl)
    case h => (first | exact hv ..))
 | (apply cl_show
    case ha => (simp only [zab, zae, prepV, prepC, idx, hpL', lookR, zaa, if_true, if_false]; rfl)
    case hs => ((simp [snaps, zaK, zaA, idx, hpL', lookR]) <;> (repeat' apply zai) <;> (first | exact Ints_isG _ | exact Cs_isG _))
    case h => (first | exact hv ..)
    case hg => ((simp [zaW, zaL, zaE]) <;> (repeat' apply zai) <;> exact Ints_noG _))
 | ((first | refine s1_id ?_ | refine swp_id ?_ | refine sops_id ?_ | refine s2_id ?_); simp only [hN, zaX, zaY, zam, zar, zas, zaU, zaV, zaT, zba, zbc, zaM, zaZ, hg, decide_eq_false c0, hin, f1, decide_eq_false hlt, go_sem, zaa, zaj, zak, zal, zan, zah, ↓reduceIte, reduceCtorEq, zac, zaf, zao, zap, zaq, zaR, zaS, zaC, zaQ, renO, bk, back, outUpsFrom, Ints_ren])
 | (intros; omega)
 | (intros; (try simp only [zaw, zaB, zaz, zax, zat, zau, decide_eq_true_eq, decide_eq_false_iff_not] at *); omega)
 | exact fs_nil trivial rfl
 | (apply fs_nil <;> (try simp only [go_sem, resV, resS, zaR, zaS, zaC, zbr, zbe, idx, renO, zaQ, evS, slot, lookR, zaa, ↓reduceIte, reduceCtorEq, if_true, if_false, zaN, zaO, zab, zae, sLoad, readAt, readNeed, Ints_ren, Ints_length, Ints_getD, and_true, true_and, zaG, zaH]) <;> (try rfl))
 | fail)
    | true =>
    rw [hnv] at hv
    rw [zbg]
    simp only
    refine fnspec_of mixed TT_ok TT_cl ⟨fun _ => false, fun _ => [], 0, fun _ => false, fun _ => false⟩ Try.func65 rfl (by kernel_rfl) rfl 115 rfl [.tmp 4] rfl ?_
    simp only [go_sem, zaa, zaj, zak, zal, zan, zah, ↓reduceIte, reduceCtorEq, zac, zaf, zao, zap, zaq, hN, zaX, zaY, zam, zar, zas, zaU, zaV, zaT, zba, zbc, zaM, zaZ, hg, decide_eq_false c0, hin, f1, decide_eq_false hlt]
    repeat' (first
 | with_reducible refine zai ?_ ?_
 | (unfold OKC; kernel_rfl)
 | (apply okc_up <;> (first | ((repeat (first | exact Sub.nil | apply Sub.gfp | apply Sub.same)); done) | kernel_rfl))
 | (unfold EDG; kernel_rfl)
 | (refine gt_if (fun h => ?_) (fun h => ?_) <;> (try simp only [h]))
 | (refine pt_if (fun h => ?_) (fun h => ?_) <;> (try simp only [h]))
 | (refine cd_if (fun h => ?_) (fun h => ?_) <;> (try simp only [h]))
 | (apply cg_tp
    case hl => rfl
    case ha => (simp only [zab, zae, prepV, prepC, idx, hpL', lookR, zaa, if_true, if_false]; rfl)
    case hs => rfl
    case h => (first | exact hv ..))
 | (apply cg_ts
    case hl => rfl
    case ha => (simp only [zab, zae, prepV, prepC, idx, hpL', lookR, zaa, if_true, if_false]; rfl)
    case hs => (simp only [snaps_nil, zav, zay, zaK, zaA, zas, zar, zam]; rfl)
    case h => (first | exact hv ..)
    case hf => ((simp only [zad, zag, false_implies, implies_true, and_true, hpL', lookR, zaa, if_true, if_false]) <;> (repeat' apply zai) <;> (first | exact ⟨_, rfl, Ints_isG _⟩ | exact ⟨_, rfl, Cs_isG _⟩ | exact ⟨_, rfl, by simp [zaP]⟩))
    case hg => simp [zaW, zaL, zaE])
 | (apply cg_any
    case hl => rfl
    case ha => (intro hb; simp only [zab, zae, cnd, hb, if_true, prepV, prepC, idx, hpL', lookR, zaa, if_false]; rfl)
    case hs => (intro hb; simp only [cnd, hb, if_true]; rfl)
    case h => (first | exact hv ..))
 | (apply cg_show
    case hl => rfl
    case ha => (intro hb; simp only [zab, zae, cnd, hb, if_true, prepV, prepC, idx, hpL', lookR, zaa, if_false]; rfl)
    case hs => (intro hb; simp only [cnd, hb, if_true, snaps_nil, zav, zay, zaK, zaA, zas, zar, zam]; rfl)
    case h => (first | exact hv ..)
    case hf => ((simp only [zad, zag, false_implies, implies_true, and_true, hpL', lookR, zaa, if_true, if_false]) <;> (repeat' apply zai) <;> (first | exact ⟨_, rfl, Ints_isG _⟩ | exact ⟨_, rfl, Cs_isG _⟩ | exact ⟨_, rfl, by simp [zaP]⟩))
    case hg => simp [zaW, zaL, zaE])
 | (apply cl_plain
    case hs => rfl
    case ha => (simp only [zab, zae, prepV, prepC, idx, hpL', lookR, zaa, if_true, if_false]; rfl)
    case h => (first | exact hv ..))
 | (apply cl_show
    case ha => (simp only [zab, zae, prepV, prepC, idx, hpL', lookR, zaa, if_true, if_false]; rfl)
    case hs => ((simp [snaps, zaK, zaA, idx, hpL', lookR]) <;> (repeat' apply zai) <;> (first | exact Ints_isG _ | exact Cs_isG _))
    case h => (first | exact hv ..)
    case hg => ((simp [zaW, zaL, zaE]) <;> (repeat' apply zai) <;> exact Ints_noG _))
 | ((first | refine s1_id ?_ | refine swp_id ?_ | refine sops_id ?_ | refine s2_id ?_); simp only [hN, zaX, zaY, zam, zar, zas, zaU, zaV, zaT, zba, zbc, zaM, zaZ, hg, decide_eq_false c0, hin, f1, decide_eq_false hlt, go_sem, zaa, zaj, zak, zal, zan, zah, ↓reduceIte, reduceCtorEq, zac, zaf, zao, zap, zaq, zaR, zaS, zaC, zaQ, renO, bk, back, outUpsFrom, Ints_ren])
 | (intros; omega)
 | (intros; (try simp only [zaw, zaB, zaz, zax, zat, zau, decide_eq_true_eq, decide_eq_false_iff_not] at *); omega))
    refine w_loop (ι := Nat) (fun m => ⟨[(1, i1 i), (2, .one (.optr 0 0)), (5, .one (.optr 1 0)), (6, b1 ((l.take m).any fun y => decide (y.i = xp))), (7, i1 m)], [(0, some ⟨[.gsl (Cs l) 0 l.length k, int n], 2⟩), (1, some ⟨[int xi, int xp, st xn, int xc, int xk, int xo], 6⟩)], 2⟩) (fun m => m ≤ i ∧ (l.take m).any (same1 xp xn) = false) (fun m => i - m) 0 ?_ ⟨zbd _, rfl⟩ ?_
    · (refine imp_ren _ _ _ [(0, 0, ⟨[.gsl (Cs l) 0 l.length k, int n], 2⟩), (1, 7, ⟨[int xi, int xp, st xn, int xc, int xk, int xo], 6⟩)] (by simp) (by simp) (by simp) (zaF rfl) ?_ rfl (by simp only [zad, zag, false_implies, implies_true, and_true, zbe, lookR, zaa, if_true, if_false, ↓reduceIte] <;> (repeat' apply zai) <;> (first | rfl | trivial)) (by simp only [zad, zag, false_implies, implies_true, and_true, true_and, flat_cons, flat_nil, flat_ints, flat_bools, flat_app, zaA, and_self, eq_self_iff_true, zam]); simp only [zab, zae, zad, zag, false_implies, implies_true, and_true, lk, slot, zaR, zaC, toN, zaa, if_true, if_false, ↓reduceIte, reduceCtorEq])
      all_goals ((repeat' apply zai) <;> (first | rfl | trivial))
    rintro m ⟨hm, hno⟩
    simp only at hm hno ⊢
    rcases zbf m i with hmi | hge
    case inr =>
      have c : ¬ (m : Int) < (i : Int) := by omega
      obtain rfl : m = i := by omega
      rw [hno, Bool.not_false, Bool.and_true]
      simp only [go_sem, zaa, zaj, zak, zal, zan, zah, ↓reduceIte, reduceCtorEq, zac, zaf, zao, zap, zaq, decide_eq_false c]
      repeat' (first
 | with_reducible refine zai ?_ ?_
 | (unfold OKC; kernel_rfl)
 | (apply okc_up <;> (first | ((repeat (first | exact Sub.nil | apply Sub.gfp | apply Sub.same)); done) | kernel_rfl))
 | (unfold EDG; kernel_rfl)
 | (refine gt_if (fun h => ?_) (fun h => ?_) <;> (try simp only [h]))
 | (refine pt_if (fun h => ?_) (fun h => ?_) <;> (try simp only [h]))
 | (refine cd_if (fun h => ?_) (fun h => ?_) <;> (try simp only [h]))
 | (apply cg_tp
    case hl => rfl
    case ha => (simp only [zab, zae, prepV, prepC, idx, hpL', lookR, zaa, if_true, if_false]; rfl)
    case hs => rfl
    case h => (first | fail))
 | (apply cg_ts
    case hl => rfl
    case ha => (simp only [zab, zae, prepV, prepC, idx, hpL', lookR, zaa, if_true, if_false]; rfl)
    case hs => (simp only [snaps_nil, zav, zay, zaK, zaA, zas, zar, zam]; rfl)
    case h => (first | fail)
    case hf => ((simp only [zad, zag, false_implies, implies_true, and_true, hpL', lookR, zaa, if_true, if_false]) <;> (repeat' apply zai) <;> (first | exact ⟨_, rfl, Ints_isG _⟩ | exact ⟨_, rfl, Cs_isG _⟩ | exact ⟨_, rfl, by simp [zaP]⟩))
    case hg => simp [zaW, zaL, zaE])
 | (apply cg_any
    case hl => rfl
    case ha => (intro hb; simp only [zab, zae, cnd, hb, if_true, prepV, prepC, idx, hpL', lookR, zaa, if_false]; rfl)
    case hs => (intro hb; simp only [cnd, hb, if_true]; rfl)
    case h => (first | fail))
 | (apply cg_show
    case hl => rfl
    case ha => (intro hb; simp only [zab, zae, cnd, hb, if_true, prepV, prepC, idx, hpL', lookR, zaa, if_false]; rfl)
    case hs => (intro hb; simp only [cnd, hb, if_true, snaps_nil, zav, zay, zaK, zaA, zas, zar, zam]; rfl)
    case h => (first | fail)
    case hf => ((simp only [zad, zag, false_implies, implies_true, and_true, hpL', lookR, zaa, if_true, if_false]) <;> (repeat' apply zai) <;> (first | exact ⟨_, rfl, Ints_isG _⟩ | exact ⟨_, rfl, Cs_isG _⟩ | exact ⟨_, rfl, by simp [zaP]⟩))
    case hg => simp [zaW, zaL, zaE])
 | (apply cl_plain
    case hs => rfl
    case ha => (simp only [zab, zae, prepV, prepC, idx, hpL', lookR, zaa, if_true, if_false]; rfl)
    case h => (first | fail))
 | (apply cl_show
    case ha => (simp only [zab, zae, prepV, prepC, idx, hpL', lookR, zaa, if_true, if_false]; rfl)
    case hs => ((simp [snaps, zaK, zaA, idx, hpL', lookR]) <;> (repeat' apply zai) <;> (first | exact Ints_isG _ | exact Cs_isG _))
    case h => (first | fail)
    case hg => ((simp [zaW, zaL, zaE]) <;> (repeat' apply zai) <;> exact Ints_noG _))
 | ((first | refine s1_id ?_ | refine swp_id ?_ | refine sops_id ?_ | refine s2_id ?_); simp only [decide_eq_false c, go_sem, zaa, zaj, zak, zal, zan, zah, ↓reduceIte, reduceCtorEq, zac, zaf, zao, zap, zaq, zaR, zaS, zaC, zaQ, renO, bk, back, outUpsFrom, Ints_ren])
 | (intros; omega)
 | (intros; (try simp only [zaw, zaB, zaz, zax, zat, zau, decide_eq_true_eq, decide_eq_false_iff_not] at *); omega)
 | exact fs_nil trivial rfl
 | (apply fs_nil <;> (try simp only [go_sem, resV, resS, zaR, zaS, zaC, zbr, zbe, idx, renO, zaQ, evS, slot, lookR, zaa, ↓reduceIte, reduceCtorEq, if_true, if_false, zaN, zaO, zab, zae, sLoad, readAt, readNeed, Ints_ren, Ints_length, Ints_getD, and_true, true_and, zaG, zaH]) <;> (try rfl))
 | fail)
    have c : (m : Int) < (i : Int) := by omega
    obtain ⟨g1, g2, g3, _⟩ := nd_f l m (by omega) (.sc (.int .i64 0))
    have g3' := (nd_f l m (by omega) (.sc (.string (bs [])))).2.2.1
    have hs := any_take_succ l m (by omega) (same1 xp xn)
    have hs2 := any_take_succ l m (by omega) (fun y => decide (y.i = xp))
    have hsm : same1 xp xn (gN l m) = (decide ((gN l m).p = xp) && decide ((gN l m).nm = xn)) := rfl
    rw [hno, Bool.false_or] at hs
    cases hdup : same1 xp xn (gN l m) with
    | true =>
      have hany : (l.take i).any (same1 xp xn) = true := (take_any_iff l i (zbq hi) _).2 ⟨m, hmi, hdup⟩
      rw [hany, Bool.not_true, zbp]
      rw [hsm] at hdup
      simp only [go_sem, zaa, zaj, zak, zal, zan, zah, ↓reduceIte, reduceCtorEq, zac, zaf, zao, zap, zaq, decide_eq_true c, g1, g2, g3', hdup]
      repeat' (first
 | with_reducible refine zai ?_ ?_
 | (unfold OKC; kernel_rfl)
 | (apply okc_up <;> (first | ((repeat (first | exact Sub.nil | apply Sub.gfp | apply Sub.same)); done) | kernel_rfl))
 | (unfold EDG; kernel_rfl)
 | (refine gt_if (fun h => ?_) (fun h => ?_) <;> (try simp only [h]))
 | (refine pt_if (fun h => ?_) (fun h => ?_) <;> (try simp only [h]))
 | (refine cd_if (fun h => ?_) (fun h => ?_) <;> (try simp only [h]))
 | (apply cg_tp
    case hl => rfl
    case ha => (simp only [zab, zae, prepV, prepC, idx, hpL', lookR, zaa, if_true, if_false]; rfl)
    case hs => rfl
    case h => (first | fail))
 | (apply cg_ts
    case hl => rfl
    case ha => (simp only [zab, zae, prepV, prepC, idx, hpL', lookR, zaa, if_true, if_false]; rfl)
    case hs => (simp only [snaps_nil, zav, zay, zaK, zaA, zas, zar, zam]; rfl)
    case h => (first | fail)
    case hf => ((simp only [zad, zag, false_implies, implies_true, and_true, hpL', lookR, zaa, if_true, if_false]) <;> (repeat' apply zai) <;> (first | exact ⟨_, rfl, Ints_isG _⟩ | exact ⟨_, rfl, Cs_isG _⟩ | exact ⟨_, rfl, by simp [zaP]⟩))
    case hg => simp [zaW, zaL, zaE])
 | (apply cg_any
    case hl => rfl
    case ha => (intro hb; simp only [zab, zae, cnd, hb, if_true, prepV, prepC, idx, hpL', lookR, zaa, if_false]; rfl)
    case hs => (intro hb; simp only [cnd, hb, if_true]; rfl)
    case h => (first | fail))
 | (apply cg_show
    case hl => rfl
    case ha => (intro hb; simp only [zab, zae, cnd, hb, if_true, prepV, prepC, idx, hpL', lookR, zaa, if_false]; rfl)
    case hs => (intro hb; simp only [cnd, hb, if_true, snaps_nil, zav, zay, zaK, zaA, zas, zar, zam]; rfl)
    case h => (first | fail)
    case hf => ((simp only [zad, zag, false_implies, implies_true, and_true, hpL', lookR, zaa, if_true, if_false]) <;> (repeat' apply zai) <;> (first | exact ⟨_, rfl, Ints_isG _⟩ | exact ⟨_, rfl, Cs_isG _⟩ | exact ⟨_, rfl, by simp [zaP]⟩))
    case hg => simp [zaW, zaL, zaE])
 | (apply cl_plain
    case hs => rfl
    case ha => (simp only [zab, zae, prepV, prepC, idx, hpL', lookR, zaa, if_true, if_false]; rfl)
    case h => (first | fail))
 | (apply cl_show
    case ha => (simp only [zab, zae, prepV, prepC, idx, hpL', lookR, zaa, if_true, if_false]; rfl)
    case hs => ((simp [snaps, zaK, zaA, idx, hpL', lookR]) <;> (repeat' apply zai) <;> (first | exact Ints_isG _ | exact Cs_isG _))
    case h => (first | fail)
    case hg => ((simp [zaW, zaL, zaE]) <;> (repeat' apply zai) <;> exact Ints_noG _))
 | ((first | refine s1_id ?_ | refine swp_id ?_ | refine sops_id ?_ | refine s2_id ?_); simp only [decide_eq_true c, g1, g2, g3', hdup, go_sem, zaa, zaj, zak, zal, zan, zah, ↓reduceIte, reduceCtorEq, zac, zaf, zao, zap, zaq, zaR, zaS, zaC, zaQ, renO, bk, back, outUpsFrom, Ints_ren])
 | (intros; omega)
 | (intros; (try simp only [zaw, zaB, zaz, zax, zat, zau, decide_eq_true_eq, decide_eq_false_iff_not] at *); omega)
 | exact fs_nil trivial rfl
 | (apply fs_nil <;> (try simp only [go_sem, resV, resS, zaR, zaS, zaC, zbr, zbe, idx, renO, zaQ, evS, slot, lookR, zaa, ↓reduceIte, reduceCtorEq, if_true, if_false, zaN, zaO, zab, zae, sLoad, readAt, readNeed, Ints_ren, Ints_length, Ints_getD, and_true, true_and, zaG, zaH]) <;> (try rfl))
 | fail)
    | false =>
      rw [hdup] at hs
      rw [hsm] at hdup
      simp only [go_sem, zaa, zaj, zak, zal, zan, zah, ↓reduceIte, reduceCtorEq, zac, zaf, zao, zap, zaq, decide_eq_true c, g1, g2, g3', hdup]
      repeat' (first
 | with_reducible refine zai ?_ ?_
 | (unfold OKC; kernel_rfl)
 | (apply okc_up <;> (first | ((repeat (first | exact Sub.nil | apply Sub.gfp | apply Sub.same)); done) | kernel_rfl))
 | (unfold EDG; kernel_rfl)
 | (refine gt_if (fun h => ?_) (fun h => ?_) <;> (try simp only [h]))
 | (refine pt_if (fun h => ?_) (fun h => ?_) <;> (try simp only [h]))
 | (refine cd_if (fun h => ?_) (fun h => ?_) <;> (try simp only [h]))
 | (apply cg_tp
    case hl => rfl
    case ha => (simp only [zab, zae, prepV, prepC, idx, hpL', lookR, zaa, if_true, if_false]; rfl)
    case hs => rfl
    case h => (first | fail))
 | (apply cg_ts
    case hl => rfl
    case ha => (simp only [zab, zae, prepV, prepC, idx, hpL', lookR, zaa, if_true, if_false]; rfl)
    case hs => (simp only [snaps_nil, zav, zay, zaK, zaA, zas, zar, zam]; rfl)
    case h => (first | fail)
    case hf => ((simp only [zad, zag, false_implies, implies_true, and_true, hpL', lookR, zaa, if_true, if_false]) <;> (repeat' apply zai) <;> (first | exact ⟨_, rfl, Ints_isG _⟩ | exact ⟨_, rfl, Cs_isG _⟩ | exact ⟨_, rfl, by simp [zaP]⟩))
    case hg => simp [zaW, zaL, zaE])
 | (apply cg_any
    case hl => rfl
    case ha => (intro hb; simp only [zab, zae, cnd, hb, if_true, prepV, prepC, idx, hpL', lookR, zaa, if_false]; rfl)
    case hs => (intro hb; simp only [cnd, hb, if_true]; rfl)
    case h => (first | fail))
 | (apply cg_show
    case hl => rfl
    case ha => (intro hb; simp only [zab, zae, cnd, hb, if_true, prepV, prepC, idx, hpL', lookR, zaa, if_false]; rfl)
    case hs => (intro hb; simp only [cnd, hb, if_true, snaps_nil, zav, zay, zaK, zaA, zas, zar, zam]; rfl)
    case h => (first | fail)
    case hf => ((simp only [zad, zag, false_implies, implies_true, and_true, hpL', lookR, zaa, if_true, if_false]) <;> (repeat' apply zai) <;> (first | exact ⟨_, rfl, Ints_isG _⟩ | exact ⟨_, rfl, Cs_isG _⟩ | exact ⟨_, rfl, by simp [zaP]⟩))
    case hg => simp [zaW, zaL, zaE])
 | (apply cl_plain
    case hs => rfl
    case ha => (simp only [zab, zae, prepV, prepC, idx, hpL', lookR, zaa, if_true, if_false]; rfl)
    case h => (first | fail))
 | (apply cl_show
    case ha => (simp only [zab, zae, prepV, prepC, idx, hpL', lookR, zaa, if_true, if_false]; rfl)
    case hs => ((simp [snaps, zaK, zaA, idx, hpL', lookR]) <;> (repeat' apply zai) <;> (first | exact Ints_isG _ | exact Cs_isG _))
    case h => (first | fail)
    case hg => ((simp [zaW, zaL, zaE]) <;> (repeat' apply zai) <;> exact Ints_noG _))
 | ((first | refine s1_id ?_ | refine swp_id ?_ | refine sops_id ?_ | refine s2_id ?_); simp only [decide_eq_true c, g1, g2, g3', hdup, go_sem, zaa, zaj, zak, zal, zan, zah, ↓reduceIte, reduceCtorEq, zac, zaf, zao, zap, zaq, zaR, zaS, zaC, zaQ, renO, bk, back, outUpsFrom, Ints_ren])
 | (intros; omega)
 | (intros; (try simp only [zaw, zaB, zaz, zax, zat, zau, decide_eq_true_eq, decide_eq_false_iff_not] at *); omega))
      refine le_mk (m + 1) ?_ ⟨hmi, hs⟩ (by omega)
      rw [hs2]
      (refine imp_ren _ _ _ [(0, 0, ⟨[.gsl (Cs l) 0 l.length k, int n], 2⟩), (1, 1, ⟨[int xi, int xp, st xn, int xc, int xk, int xo], 6⟩)] (by simp) (by simp) (by simp) (zaF rfl) ?_ rfl (by simp only [zad, zag, false_implies, implies_true, and_true, zbe, lookR, zaa, if_true, if_false, ↓reduceIte] <;> (repeat' apply zai) <;> (first | rfl | trivial)) (by simp only [zad, zag, false_implies, implies_true, and_true, true_and, flat_cons, flat_nil, flat_ints, flat_bools, flat_app, zaA, and_self, eq_self_iff_true, zam]); simp only [zab, zae, zad, zag, false_implies, implies_true, and_true, lk, slot, zaR, zaC, toN, zaa, if_true, if_false, ↓reduceIte, reduceCtorEq])
      all_goals ((repeat' apply zai) <;> (first | rfl | trivial | (simp only [zaD]; done) | (simp only [zaD]; rfl) | (simp only [zaD]; trivial)))
end Go.Proofs.Ytlajelbiniakpaa
-- NEWGO
-- PRUNE: cl_lendx cl_use cl_lend
-- ISG: Cs_isG
-- FLAT: Cs_flat
namespace Go.Proofs.Ytlajelbiniakpaa
set_option linter.unusedVariables false
set_option linter.unusedSimpArgs false
open Go.Proofs.Ytlajelbiniakpaa.Sh
set_option maxRecDepth 20000
set_option maxHeartbeats 8000000 in
theorem up_spec (l : List Nd) (k : Option Nat) (n : Int) (id0 : Int) (hl : l.length ≤ 1000000) : FnSpec Try.prog 58 [trV l k n, i1 id0] [] (gi (upL l id0) none) [] := by
  have hnl := nd_len l
  refine fnspec_of mixed TT_ok TT_cl ⟨fun _ => false, fun _ => [], 0, fun _ => false, fun _ => false⟩ Try.func58 rfl (by kernel_rfl) rfl 34 rfl [.tmp 4] rfl ?_
  simp only [go_sem, zaa, zaj, zak, zal, zan, zah, ↓reduceIte, reduceCtorEq, zac, zaf, zao, zap, zaq]
  repeat' (first
 | with_reducible refine zai ?_ ?_
 | (unfold OKC; kernel_rfl)
 | (apply okc_up <;> (first | ((repeat (first | exact Sub.nil | apply Sub.gfp | apply Sub.same)); done) | kernel_rfl))
 | (unfold EDG; kernel_rfl)
 | (refine gt_if (fun h => ?_) (fun h => ?_) <;> (try simp only [h]))
 | (refine pt_if (fun h => ?_) (fun h => ?_) <;> (try simp only [h]))
 | (refine cd_if (fun h => ?_) (fun h => ?_) <;> (try simp only [h]))
 | (apply cg_tp
    case hl => rfl
    case ha => (simp only [zab, zae, prepV, prepC, idx, hpL', lookR, zaa, if_true, if_false]; rfl)
    case hs => rfl
    case h => (first | fail))
 | (apply cg_ts
    case hl => rfl
    case ha => (simp only [zab, zae, prepV, prepC, idx, hpL', lookR, zaa, if_true, if_false]; rfl)
    case hs => (simp only [snaps_nil, zav, zay, zaK, zaA, zas, zar, zam]; rfl)
    case h => (first | fail)
    case hf => ((simp only [zad, zag, false_implies, implies_true, and_true, hpL', lookR, zaa, if_true, if_false]) <;> (repeat' apply zai) <;> (first | exact ⟨_, rfl, Ints_isG _⟩ | exact ⟨_, rfl, Cs_isG _⟩ | exact ⟨_, rfl, by simp [zaP]⟩))
    case hg => simp [zaW, zaL, zaE])
 | (apply cg_any
    case hl => rfl
    case ha => (intro hb; simp only [zab, zae, cnd, hb, if_true, prepV, prepC, idx, hpL', lookR, zaa, if_false]; rfl)
    case hs => (intro hb; simp only [cnd, hb, if_true]; rfl)
    case h => (first | fail))
 | (apply cg_show
    case hl => rfl
    case ha => (intro hb; simp only [zab, zae, cnd, hb, if_true, prepV, prepC, idx, hpL', lookR, zaa, if_false]; rfl)
    case hs => (intro hb; simp only [cnd, hb, if_true, snaps_nil, zav, zay, zaK, zaA, zas, zar, zam]; rfl)
    case h => (first | fail)
    case hf => ((simp only [zad, zag, false_implies, implies_true, and_true, hpL', lookR, zaa, if_true, if_false]) <;> (repeat' apply zai) <;> (first | exact ⟨_, rfl, Ints_isG _⟩ | exact ⟨_, rfl, Cs_isG _⟩ | exact ⟨_, rfl, by simp [zaP]⟩))
    case hg => simp [zaW, zaL, zaE])
 | (apply cl_plain
    case hs => rfl
    case ha => (simp only [zab, zae, prepV, prepC, idx, hpL', lookR, zaa, if_true, if_false]; rfl)
    case h => (first | fail))
 | (apply cl_show
    case ha => (simp only [zab, zae, prepV, prepC, idx, hpL', lookR, zaa, if_true, if_false]; rfl)
    case hs => ((simp [snaps, zaK, zaA, idx, hpL', lookR]) <;> (repeat' apply zai) <;> (first | exact Ints_isG _ | exact Cs_isG _))
    case h => (first | fail)
    case hg => ((simp [zaW, zaL, zaE]) <;> (repeat' apply zai) <;> exact Ints_noG _))
 | ((first | refine s1_id ?_ | refine swp_id ?_ | refine sops_id ?_ | refine s2_id ?_); simp only [go_sem, zaa, zaj, zak, zal, zan, zah, ↓reduceIte, reduceCtorEq, zac, zaf, zao, zap, zaq, zaR, zaS, zaC, zaQ, renO, bk, back, outUpsFrom, Ints_ren])
 | (intros; omega)
 | (intros; (try simp only [zaw, zaB, zaz, zax, zat, zau, decide_eq_true_eq, decide_eq_false_iff_not] at *); omega))
  refine w_loop (ι := Nat × Int × List Int) (fun s => ⟨[(1, i1 s.2.1), (2, .one (.optr 0 0)), (5, .one (.osl 1 0 s.2.2.length none)), (6, i1 ((s.1 : Int) - 1))], [(0, some ⟨[.gsl (Cs l) 0 l.length k, int n], 2⟩), (1, some ⟨Ints s.2.2, 1⟩)], 2⟩) (fun s => s.1 ≤ l.length ∧ s.2.2.length + s.1 ≤ l.length ∧ upL l id0 = s.2.2 ++ upL (l.take s.1) s.2.1) (fun s => s.1) (l.length, id0, []) ?_ ⟨zbh _, by simp, by rw [List.take_length]; rfl⟩ ?_
  · (refine Imp.trans (imp_nilA _ _ 5 1 99 (by simp only []; omega) rfl) ?_)
    (refine imp_ren _ _ _ [(0, 0, ⟨[.gsl (Cs l) 0 l.length k, int n], 2⟩), (1, 99, ⟨[], 1⟩)] (by simp) (by simp) (by simp) (zaF rfl) ?_ rfl (by simp only [zad, zag, false_implies, implies_true, and_true, zbe, lookR, zaa, if_true, if_false, ↓reduceIte] <;> (repeat' apply zai) <;> (first | rfl | trivial)) (by simp only [zad, zag, false_implies, implies_true, and_true, true_and, flat_cons, flat_nil, flat_ints, flat_bools, flat_app, zaA, and_self, eq_self_iff_true, zam]); simp only [zab, zae, zad, zag, false_implies, implies_true, and_true, lk, slot, zaR, zaC, toN, zaa, if_true, if_false, ↓reduceIte, reduceCtorEq])
    all_goals ((repeat' apply zai) <;> (first | rfl | trivial))
  rintro ⟨m, id, acc⟩ ⟨hm, ha, hI⟩
  simp only at hm ha hI ⊢
  cases m with
  | zero =>
    have c : ¬ (0 : Int) ≤ ((0 : Nat) : Int) - 1 := by omega
    have he : upL [] id = [] := rfl
    rw [zba, he, zam] at hI
    rw [hI]
    simp only [go_sem, zaa, zaj, zak, zal, zan, zah, ↓reduceIte, reduceCtorEq, zac, zaf, zao, zap, zaq, decide_eq_false c]
    repeat' (first
 | with_reducible refine zai ?_ ?_
 | (unfold OKC; kernel_rfl)
 | (apply okc_up <;> (first | ((repeat (first | exact Sub.nil | apply Sub.gfp | apply Sub.same)); done) | kernel_rfl))
 | (unfold EDG; kernel_rfl)
 | (refine gt_if (fun h => ?_) (fun h => ?_) <;> (try simp only [h]))
 | (refine pt_if (fun h => ?_) (fun h => ?_) <;> (try simp only [h]))
 | (refine cd_if (fun h => ?_) (fun h => ?_) <;> (try simp only [h]))
 | (apply cg_tp
    case hl => rfl
    case ha => (simp only [zab, zae, prepV, prepC, idx, hpL', lookR, zaa, if_true, if_false]; rfl)
    case hs => rfl
    case h => (first | fail))
 | (apply cg_ts
    case hl => rfl
    case ha => (simp only [zab, zae, prepV, prepC, idx, hpL', lookR, zaa, if_true, if_false]; rfl)
    case hs => (simp only [snaps_nil, zav, zay, zaK, zaA, zas, zar, zam]; rfl)
    case h => (first | fail)
    case hf => ((simp only [zad, zag, false_implies, implies_true, and_true, hpL', lookR, zaa, if_true, if_false]) <;> (repeat' apply zai) <;> (first | exact ⟨_, rfl, Ints_isG _⟩ | exact ⟨_, rfl, Cs_isG _⟩ | exact ⟨_, rfl, by simp [zaP]⟩))
    case hg => simp [zaW, zaL, zaE])
 | (apply cg_any
    case hl => rfl
    case ha => (intro hb; simp only [zab, zae, cnd, hb, if_true, prepV, prepC, idx, hpL', lookR, zaa, if_false]; rfl)
    case hs => (intro hb; simp only [cnd, hb, if_true]; rfl)
    case h => (first | fail))
 | (apply cg_show
    case hl => rfl
    case ha => (intro hb; simp only [zab, zae, cnd, hb, if_true, prepV, prepC, idx, hpL', lookR, zaa, if_false]; rfl)
    case hs => (intro hb; simp only [cnd, hb, if_true, snaps_nil, zav, zay, zaK, zaA, zas, zar, zam]; rfl)
    case h => (first | fail)
    case hf => ((simp only [zad, zag, false_implies, implies_true, and_true, hpL', lookR, zaa, if_true, if_false]) <;> (repeat' apply zai) <;> (first | exact ⟨_, rfl, Ints_isG _⟩ | exact ⟨_, rfl, Cs_isG _⟩ | exact ⟨_, rfl, by simp [zaP]⟩))
    case hg => simp [zaW, zaL, zaE])
 | (apply cl_plain
    case hs => rfl
    case ha => (simp only [zab, zae, prepV, prepC, idx, hpL', lookR, zaa, if_true, if_false]; rfl)
    case h => (first | fail))
 | (apply cl_show
    case ha => (simp only [zab, zae, prepV, prepC, idx, hpL', lookR, zaa, if_true, if_false]; rfl)
    case hs => ((simp [snaps, zaK, zaA, idx, hpL', lookR]) <;> (repeat' apply zai) <;> (first | exact Ints_isG _ | exact Cs_isG _))
    case h => (first | fail)
    case hg => ((simp [zaW, zaL, zaE]) <;> (repeat' apply zai) <;> exact Ints_noG _))
 | ((first | refine s1_id ?_ | refine swp_id ?_ | refine sops_id ?_ | refine s2_id ?_); simp only [decide_eq_false c, go_sem, zaa, zaj, zak, zal, zan, zah, ↓reduceIte, reduceCtorEq, zac, zaf, zao, zap, zaq, zaR, zaS, zaC, zaQ, renO, bk, back, outUpsFrom, Ints_ren])
 | (intros; omega)
 | (intros; (try simp only [zaw, zaB, zaz, zax, zat, zau, decide_eq_true_eq, decide_eq_false_iff_not] at *); omega))
    (refine fs_frz 1 ⟨Ints acc, 1⟩ (by simp only [zbe, lookR, zaa, if_true, if_false, ↓reduceIte]) (by first | exact Ints_isG _ | exact Bools_isG _ | exact Cs_isG _ | (simp [zaP]; done)) ?_; simp only [frzTm, SV.frz, SV.frzL, Cell.frz, frzHp, frzO, Ints_frz, Bools_frz, zab, zae, zaa, if_true, if_false, ↓reduceIte])
    apply fs_nil <;> (try simp only [go_sem, resV, resS, zaR, zaS, zaC, zbr, zbe, idx, renO, zaQ, evS, slot, lookR, zaa, ↓reduceIte, reduceCtorEq, if_true, if_false, zaN, zaO, zab, zae, sLoad, readAt, readNeed, Ints_ren, Ints_length, Ints_getD, and_true, true_and, zaG, zaH]) <;> (try rfl)
  | succ m =>
    have c : (0 : Int) ≤ ((m + 1 : Nat) : Int) - 1 := by omega
    have e1 : (((m + 1 : Nat) : Int) - 1).toNat = m := by omega
    have e2 : ((m + 1 : Nat) : Int) - 1 = (m : Int) := by omega
    have hlt : m < l.length := by omega
    obtain ⟨g1, g2, _⟩ := nd_f l m hlt (.sc (.int .i64 0))
    rw [upL_take l m hlt] at hI
    by_cases hid : (gN l m).i = id
    · rw [if_pos hid] at hI
      have htk : List.take acc.length (Ints acc) = Ints acc := zbo (by rw [Ints_length]; exact zbh _)
      have hpp : Ints acc ++ [int id] = Ints (acc ++ [id]) := by simp [Ints]
      have hla : (acc ++ [id]).length = acc.length + 1 := by simp
      simp only [go_sem, zaa, zaj, zak, zal, zan, zah, ↓reduceIte, reduceCtorEq, zac, zaf, zao, zap, zaq, e2, decide_eq_true (zbn m), g1, g2, decide_eq_true hid]
      repeat' (first
 | with_reducible refine zai ?_ ?_
 | (unfold OKC; kernel_rfl)
 | (apply okc_up <;> (first | ((repeat (first | exact Sub.nil | apply Sub.gfp | apply Sub.same)); done) | kernel_rfl))
 | (unfold EDG; kernel_rfl)
 | (refine gt_if (fun h => ?_) (fun h => ?_) <;> (try simp only [h]))
 | (refine pt_if (fun h => ?_) (fun h => ?_) <;> (try simp only [h]))
 | (refine cd_if (fun h => ?_) (fun h => ?_) <;> (try simp only [h]))
 | (apply cg_tp
    case hl => rfl
    case ha => (simp only [zab, zae, prepV, prepC, idx, hpL', lookR, zaa, if_true, if_false]; rfl)
    case hs => rfl
    case h => (first | fail))
 | (apply cg_ts
    case hl => rfl
    case ha => (simp only [zab, zae, prepV, prepC, idx, hpL', lookR, zaa, if_true, if_false]; rfl)
    case hs => (simp only [snaps_nil, zav, zay, zaK, zaA, zas, zar, zam]; rfl)
    case h => (first | fail)
    case hf => ((simp only [zad, zag, false_implies, implies_true, and_true, hpL', lookR, zaa, if_true, if_false]) <;> (repeat' apply zai) <;> (first | exact ⟨_, rfl, Ints_isG _⟩ | exact ⟨_, rfl, Cs_isG _⟩ | exact ⟨_, rfl, by simp [zaP]⟩))
    case hg => simp [zaW, zaL, zaE])
 | (apply cg_any
    case hl => rfl
    case ha => (intro hb; simp only [zab, zae, cnd, hb, if_true, prepV, prepC, idx, hpL', lookR, zaa, if_false]; rfl)
    case hs => (intro hb; simp only [cnd, hb, if_true]; rfl)
    case h => (first | fail))
 | (apply cg_show
    case hl => rfl
    case ha => (intro hb; simp only [zab, zae, cnd, hb, if_true, prepV, prepC, idx, hpL', lookR, zaa, if_false]; rfl)
    case hs => (intro hb; simp only [cnd, hb, if_true, snaps_nil, zav, zay, zaK, zaA, zas, zar, zam]; rfl)
    case h => (first | fail)
    case hf => ((simp only [zad, zag, false_implies, implies_true, and_true, hpL', lookR, zaa, if_true, if_false]) <;> (repeat' apply zai) <;> (first | exact ⟨_, rfl, Ints_isG _⟩ | exact ⟨_, rfl, Cs_isG _⟩ | exact ⟨_, rfl, by simp [zaP]⟩))
    case hg => simp [zaW, zaL, zaE])
 | (apply cl_plain
    case hs => rfl
    case ha => (simp only [zab, zae, prepV, prepC, idx, hpL', lookR, zaa, if_true, if_false]; rfl)
    case h => (first | fail))
 | (apply cl_show
    case ha => (simp only [zab, zae, prepV, prepC, idx, hpL', lookR, zaa, if_true, if_false]; rfl)
    case hs => ((simp [snaps, zaK, zaA, idx, hpL', lookR]) <;> (repeat' apply zai) <;> (first | exact Ints_isG _ | exact Cs_isG _))
    case h => (first | fail)
    case hg => ((simp [zaW, zaL, zaE]) <;> (repeat' apply zai) <;> exact Ints_noG _))
 | ((first | refine s1_id ?_ | refine swp_id ?_ | refine sops_id ?_ | refine s2_id ?_); simp only [e2, decide_eq_true (zbn m), g1, g2, decide_eq_true hid, htk, hpp, zaX, zaY, zam, zar, zas, zaU, zaV, zaT, zba, zbc, zaM, zaZ, go_sem, zaa, zaj, zak, zal, zan, zah, ↓reduceIte, reduceCtorEq, zac, zaf, zao, zap, zaq, zaR, zaS, zaC, zaQ, renO, bk, back, outUpsFrom, Ints_ren])
 | (intros; omega)
 | (intros; (try simp only [zaw, zaB, zaz, zax, zat, zau, decide_eq_true_eq, decide_eq_false_iff_not] at *); omega))
      refine le_mk (m, (gN l m).p, acc ++ [id]) ?_ ⟨zbq hlt, by show (acc ++ [id]).length + m ≤ l.length; rw [hla]; omega, by rw [hI]; simp⟩ (Nat.lt_succ_self m)
      simp only [hla]
      (refine imp_ren _ _ _ [(0, 0, ⟨[.gsl (Cs l) 0 l.length k, int n], 2⟩), (1, 15, ⟨Ints (acc ++ [id]), 1⟩)] (by simp) (by simp) (by simp) (zaF rfl) ?_ rfl (by simp only [zad, zag, false_implies, implies_true, and_true, zbe, lookR, zaa, if_true, if_false, ↓reduceIte] <;> (repeat' apply zai) <;> (first | rfl | trivial)) (by simp only [zad, zag, false_implies, implies_true, and_true, true_and, flat_cons, flat_nil, flat_ints, flat_bools, flat_app, zaA, and_self, eq_self_iff_true, zam]); simp only [zab, zae, zad, zag, false_implies, implies_true, and_true, lk, slot, zaR, zaC, toN, zaa, if_true, if_false, ↓reduceIte, reduceCtorEq])
      all_goals ((repeat' apply zai) <;> (first | rfl | trivial | (simp only []; done) | (simp only []; rfl) | (simp only []; trivial)))
    · rw [if_neg hid] at hI
      simp only [go_sem, zaa, zaj, zak, zal, zan, zah, ↓reduceIte, reduceCtorEq, zac, zaf, zao, zap, zaq, e2, decide_eq_true (zbn m), g1, g2, decide_eq_false hid]
      repeat' (first
 | with_reducible refine zai ?_ ?_
 | (unfold OKC; kernel_rfl)
 | (apply okc_up <;> (first | ((repeat (first | exact Sub.nil | apply Sub.gfp | apply Sub.same)); done) | kernel_rfl))
 | (unfold EDG; kernel_rfl)
 | (refine gt_if (fun h => ?_) (fun h => ?_) <;> (try simp only [h]))
 | (refine pt_if (fun h => ?_) (fun h => ?_) <;> (try simp only [h]))
 | (refine cd_if (fun h => ?_) (fun h => ?_) <;> (try simp only [h]))
 | (apply cg_tp
    case hl => rfl
    case ha => (simp only [zab, zae, prepV, prepC, idx, hpL', lookR, zaa, if_true, if_false]; rfl)
    case hs => rfl
    case h => (first | fail))
 | (apply cg_ts
    case hl => rfl
    case ha => (simp only [zab, zae, prepV, prepC, idx, hpL', lookR, zaa, if_true, if_false]; rfl)
    case hs => (simp only [snaps_nil, zav, zay, zaK, zaA, zas, zar, zam]; rfl)
    case h => (first | fail)
    case hf => ((simp only [zad, zag, false_implies, implies_true, and_true, hpL', lookR, zaa, if_true, if_false]) <;> (repeat' apply zai) <;> (first | exact ⟨_, rfl, Ints_isG _⟩ | exact ⟨_, rfl, Cs_isG _⟩ | exact ⟨_, rfl, by simp [zaP]⟩))
    case hg => simp [zaW, zaL, zaE])
 | (apply cg_any
    case hl => rfl
    case ha => (intro hb; simp only [zab, zae, cnd, hb, if_true, prepV, prepC, idx, hpL', lookR, zaa, if_false]; rfl)
    case hs => (intro hb; simp only [cnd, hb, if_true]; rfl)
    case h => (first | fail))
 | (apply cg_show
    case hl => rfl
    case ha => (intro hb; simp only [zab, zae, cnd, hb, if_true, prepV, prepC, idx, hpL', lookR, zaa, if_false]; rfl)
    case hs => (intro hb; simp only [cnd, hb, if_true, snaps_nil, zav, zay, zaK, zaA, zas, zar, zam]; rfl)
    case h => (first | fail)
    case hf => ((simp only [zad, zag, false_implies, implies_true, and_true, hpL', lookR, zaa, if_true, if_false]) <;> (repeat' apply zai) <;> (first | exact ⟨_, rfl, Ints_isG _⟩ | exact ⟨_, rfl, Cs_isG _⟩ | exact ⟨_, rfl, by simp [zaP]⟩))
    case hg => simp [zaW, zaL, zaE])
 | (apply cl_plain
    case hs => rfl
    case ha => (simp only [zab, zae, prepV, prepC, idx, hpL', lookR, zaa, if_true, if_false]; rfl)
    case h => (first | fail))
 | (apply cl_show
    case ha => (simp only [zab, zae, prepV, prepC, idx, hpL', lookR, zaa, if_true, if_false]; rfl)
    case hs => ((simp [snaps, zaK, zaA, idx, hpL', lookR]) <;> (repeat' apply zai) <;> (first | exact Ints_isG _ | exact Cs_isG _))
    case h => (first | fail)
    case hg => ((simp [zaW, zaL, zaE]) <;> (repeat' apply zai) <;> exact Ints_noG _))
 | ((first | refine s1_id ?_ | refine swp_id ?_ | refine sops_id ?_ | refine s2_id ?_); simp only [e2, decide_eq_true (zbn m), g1, g2, decide_eq_false hid, go_sem, zaa, zaj, zak, zal, zan, zah, ↓reduceIte, reduceCtorEq, zac, zaf, zao, zap, zaq, zaR, zaS, zaC, zaQ, renO, bk, back, outUpsFrom, Ints_ren])
 | (intros; omega)
 | (intros; (try simp only [zaw, zaB, zaz, zax, zat, zau, decide_eq_true_eq, decide_eq_false_iff_not] at *); omega))
      refine le_mk (m, id, acc) ?_ ⟨zbq hlt, by show acc.length + m ≤ l.length; omega, hI⟩ (Nat.lt_succ_self m)
      (refine imp_ren _ _ _ [(0, 0, ⟨[.gsl (Cs l) 0 l.length k, int n], 2⟩), (1, 1, ⟨Ints acc, 1⟩)] (by simp) (by simp) (by simp) (zaF rfl) ?_ rfl (by simp only [zad, zag, false_implies, implies_true, and_true, zbe, lookR, zaa, if_true, if_false, ↓reduceIte] <;> (repeat' apply zai) <;> (first | rfl | trivial)) (by simp only [zad, zag, false_implies, implies_true, and_true, true_and, flat_cons, flat_nil, flat_ints, flat_bools, flat_app, zaA, and_self, eq_self_iff_true, zam]); simp only [zab, zae, zad, zag, false_implies, implies_true, and_true, lk, slot, zaR, zaC, toN, zaa, if_true, if_false, ↓reduceIte, reduceCtorEq])
      all_goals ((repeat' apply zai) <;> (first | rfl | trivial | (simp only []; done) | (simp only []; rfl) | (simp only []; trivial)))
def NmR (l : List Nd) : Prop := ∀ x ∈ l, x.nm.length ≤ 9223372036854775807
theorem NmR.at {l : List Nd} (h : NmR l) (i : Nat) (hi : i < l.length) : (gN l i).nm.length ≤ 9223372036854775807 := h _ (getD_mem l i zn hi)
set_option maxHeartbeats 8000000 in
theorem trcheck_spec (l : List Nd) (k : Option Nat) (n : Int) (hl : l.length ≤ 1000000) (hnm : NmR l) : FnSpec Try.prog 43 [trV l k n] [] (b1 (chkT l n)) [] := by
  have hnl := nd_len l
  by_cases h1 : (l.length : Int) < 1
  · rw [chkT_not fun h => by have := h.ne; omega]
    refine fnspec_of mixed TT_ok TT_cl ⟨fun _ => false, fun _ => [], 0, fun _ => false, fun _ => false⟩ Try.func43 rfl (by kernel_rfl) rfl 54 rfl [.tmp 2] rfl ?_
    simp only [go_sem, zaa, zaj, zak, zal, zan, zah, ↓reduceIte, reduceCtorEq, zac, zaf, zao, zap, zaq, decide_eq_true h1]
    repeat' (first
 | with_reducible refine zai ?_ ?_
 | (unfold OKC; kernel_rfl)
 | (apply okc_up <;> (first | ((repeat (first | exact Sub.nil | apply Sub.gfp | apply Sub.same)); done) | kernel_rfl))
 | (unfold EDG; kernel_rfl)
 | (refine gt_if (fun h => ?_) (fun h => ?_) <;> (try simp only [h]))
 | (refine pt_if (fun h => ?_) (fun h => ?_) <;> (try simp only [h]))
 | (refine cd_if (fun h => ?_) (fun h => ?_) <;> (try simp only [h]))
 | (apply cg_tp
    case hl => rfl
    case ha => (simp only [zab, zae, prepV, prepC, idx, hpL', lookR, zaa, if_true, if_false]; rfl)
    case hs => rfl
    case h => (first | fail))
 | (apply cg_ts
    case hl => rfl
    case ha => (simp only [zab, zae, prepV, prepC, idx, hpL', lookR, zaa, if_true, if_false]; rfl)
    case hs => (simp only [snaps_nil, zav, zay, zaK, zaA, zas, zar, zam]; rfl)
    case h => (first | fail)
    case hf => ((simp only [zad, zag, false_implies, implies_true, and_true, hpL', lookR, zaa, if_true, if_false]) <;> (repeat' apply zai) <;> (first | exact ⟨_, rfl, Ints_isG _⟩ | exact ⟨_, rfl, Cs_isG _⟩ | exact ⟨_, rfl, by simp [zaP]⟩))
    case hg => simp [zaW, zaL, zaE])
 | (apply cg_any
    case hl => rfl
    case ha => (intro hb; simp only [zab, zae, cnd, hb, if_true, prepV, prepC, idx, hpL', lookR, zaa, if_false]; rfl)
    case hs => (intro hb; simp only [cnd, hb, if_true]; rfl)
    case h => (first | fail))
 | (apply cg_show
    case hl => rfl
    case ha => (intro hb; simp only [zab, zae, cnd, hb, if_true, prepV, prepC, idx, hpL', lookR, zaa, if_false]; rfl)
    case hs => (intro hb; simp only [cnd, hb, if_true, snaps_nil, zav, zay, zaK, zaA, zas, zar, zam]; rfl)
    case h => (first | fail)
    case hf => ((simp only [zad, zag, false_implies, implies_true, and_true, hpL', lookR, zaa, if_true, if_false]) <;> (repeat' apply zai) <;> (first | exact ⟨_, rfl, Ints_isG _⟩ | exact ⟨_, rfl, Cs_isG _⟩ | exact ⟨_, rfl, by simp [zaP]⟩))
    case hg => simp [zaW, zaL, zaE])
 | (apply cl_plain
    case hs => rfl
    case ha => (simp only [zab, zae, prepV, prepC, idx, hpL', lookR, zaa, if_true, if_false]; rfl)
    case h => (first | fail))
 | (apply cl_show
    case ha => (simp only [zab, zae, prepV, prepC, idx, hpL', lookR, zaa, if_true, if_false]; rfl)
    case hs => ((simp [snaps, zaK, zaA, idx, hpL', lookR]) <;> (repeat' apply zai) <;> (first | exact Ints_isG _ | exact Cs_isG _))
    case h => (first | fail)
    case hg => ((simp [zaW, zaL, zaE]) <;> (repeat' apply zai) <;> exact Ints_noG _))
 | ((first | refine s1_id ?_ | refine swp_id ?_ | refine sops_id ?_ | refine s2_id ?_); simp only [decide_eq_true h1, go_sem, zaa, zaj, zak, zal, zan, zah, ↓reduceIte, reduceCtorEq, zac, zaf, zao, zap, zaq, zaR, zaS, zaC, zaQ, renO, bk, back, outUpsFrom, Ints_ren])
 | (intros; omega)
 | (intros; (try simp only [zaw, zaB, zaz, zax, zat, zau, decide_eq_true_eq, decide_eq_false_iff_not] at *); omega)
 | exact fs_nil trivial rfl
 | (apply fs_nil <;> (try simp only [go_sem, resV, resS, zaR, zaS, zaC, zbr, zbe, idx, renO, zaQ, evS, slot, lookR, zaa, ↓reduceIte, reduceCtorEq, if_true, if_false, zaN, zaO, zab, zae, sLoad, readAt, readNeed, Ints_ren, Ints_length, Ints_getD, and_true, true_and, zaG, zaH]) <;> (try rfl))
 | fail)
  by_cases h64 : 64 < (l.length : Int)
  · rw [chkT_not fun h => by have := h.le; omega]
    refine fnspec_of mixed TT_ok TT_cl ⟨fun _ => false, fun _ => [], 0, fun _ => false, fun _ => false⟩ Try.func43 rfl (by kernel_rfl) rfl 54 rfl [.tmp 2] rfl ?_
    simp only [go_sem, zaa, zaj, zak, zal, zan, zah, ↓reduceIte, reduceCtorEq, zac, zaf, zao, zap, zaq, decide_eq_false h1, decide_eq_true h64]
    repeat' (first
 | with_reducible refine zai ?_ ?_
 | (unfold OKC; kernel_rfl)
 | (apply okc_up <;> (first | ((repeat (first | exact Sub.nil | apply Sub.gfp | apply Sub.same)); done) | kernel_rfl))
 | (unfold EDG; kernel_rfl)
 | (refine gt_if (fun h => ?_) (fun h => ?_) <;> (try simp only [h]))
 | (refine pt_if (fun h => ?_) (fun h => ?_) <;> (try simp only [h]))
 | (refine cd_if (fun h => ?_) (fun h => ?_) <;> (try simp only [h]))
 | (apply cg_tp
    case hl => rfl
    case ha => (simp only [zab, zae, prepV, prepC, idx, hpL', lookR, zaa, if_true, if_false]; rfl)
    case hs => rfl
    case h => (first | fail))
 | (apply cg_ts
    case hl => rfl
    case ha => (simp only [zab, zae, prepV, prepC, idx, hpL', lookR, zaa, if_true, if_false]; rfl)
    case hs => (simp only [snaps_nil, zav, zay, zaK, zaA, zas, zar, zam]; rfl)
    case h => (first | fail)
    case hf => ((simp only [zad, zag, false_implies, implies_true, and_true, hpL', lookR, zaa, if_true, if_false]) <;> (repeat' apply zai) <;> (first | exact ⟨_, rfl, Ints_isG _⟩ | exact ⟨_, rfl, Cs_isG _⟩ | exact ⟨_, rfl, by simp [zaP]⟩))
    case hg => simp [zaW, zaL, zaE])
 | (apply cg_any
    case hl => rfl
    case ha => (intro hb; simp only [zab, zae, cnd, hb, if_true, prepV, prepC, idx, hpL', lookR, zaa, if_false]; rfl)
    case hs => (intro hb; simp only [cnd, hb, if_true]; rfl)
    case h => (first | fail))
 | (apply cg_show
    case hl => rfl
    case ha => (intro hb; simp only [zab, zae, cnd, hb, if_true, prepV, prepC, idx, hpL', lookR, zaa, if_false]; rfl)
    case hs => (intro hb; simp only [cnd, hb, if_true, snaps_nil, zav, zay, zaK, zaA, zas, zar, zam]; rfl)
    case h => (first | fail)
    case hf => ((simp only [zad, zag, false_implies, implies_true, and_true, hpL', lookR, zaa, if_true, if_false]) <;> (repeat' apply zai) <;> (first | exact ⟨_, rfl, Ints_isG _⟩ | exact ⟨_, rfl, Cs_isG _⟩ | exact ⟨_, rfl, by simp [zaP]⟩))
    case hg => simp [zaW, zaL, zaE])
 | (apply cl_plain
    case hs => rfl
    case ha => (simp only [zab, zae, prepV, prepC, idx, hpL', lookR, zaa, if_true, if_false]; rfl)
    case h => (first | fail))
 | (apply cl_show
    case ha => (simp only [zab, zae, prepV, prepC, idx, hpL', lookR, zaa, if_true, if_false]; rfl)
    case hs => ((simp [snaps, zaK, zaA, idx, hpL', lookR]) <;> (repeat' apply zai) <;> (first | exact Ints_isG _ | exact Cs_isG _))
    case h => (first | fail)
    case hg => ((simp [zaW, zaL, zaE]) <;> (repeat' apply zai) <;> exact Ints_noG _))
 | ((first | refine s1_id ?_ | refine swp_id ?_ | refine sops_id ?_ | refine s2_id ?_); simp only [decide_eq_false h1, decide_eq_true h64, go_sem, zaa, zaj, zak, zal, zan, zah, ↓reduceIte, reduceCtorEq, zac, zaf, zao, zap, zaq, zaR, zaS, zaC, zaQ, renO, bk, back, outUpsFrom, Ints_ren])
 | (intros; omega)
 | (intros; (try simp only [zaw, zaB, zaz, zax, zat, zau, decide_eq_true_eq, decide_eq_false_iff_not] at *); omega)
 | exact fs_nil trivial rfl
 | (apply fs_nil <;> (try simp only [go_sem, resV, resS, zaR, zaS, zaC, zbr, zbe, idx, renO, zaQ, evS, slot, lookR, zaa, ↓reduceIte, reduceCtorEq, if_true, if_false, zaN, zaO, zab, zae, sLoad, readAt, readNeed, Ints_ren, Ints_length, Ints_getD, and_true, true_and, zaG, zaH]) <;> (try rfl))
 | fail)
  have h1' : 1 ≤ l.length := by omega
  have h64' : l.length ≤ 64 := by omega
  refine fnspec_of mixed TT_ok TT_cl ⟨fun _ => false, fun _ => [], 0, fun _ => false, fun _ => false⟩ Try.func43 rfl (by kernel_rfl) rfl 54 rfl [.tmp 2] rfl ?_
  simp only [go_sem, zaa, zaj, zak, zal, zan, zah, ↓reduceIte, reduceCtorEq, zac, zaf, zao, zap, zaq, decide_eq_false h1, decide_eq_false h64]
  repeat' (first
 | with_reducible refine zai ?_ ?_
 | (unfold OKC; kernel_rfl)
 | (apply okc_up <;> (first | ((repeat (first | exact Sub.nil | apply Sub.gfp | apply Sub.same)); done) | kernel_rfl))
 | (unfold EDG; kernel_rfl)
 | (refine gt_if (fun h => ?_) (fun h => ?_) <;> (try simp only [h]))
 | (refine pt_if (fun h => ?_) (fun h => ?_) <;> (try simp only [h]))
 | (refine cd_if (fun h => ?_) (fun h => ?_) <;> (try simp only [h]))
 | (apply cg_tp
    case hl => rfl
    case ha => (simp only [zab, zae, prepV, prepC, idx, hpL', lookR, zaa, if_true, if_false]; rfl)
    case hs => rfl
    case h => (first | fail))
 | (apply cg_ts
    case hl => rfl
    case ha => (simp only [zab, zae, prepV, prepC, idx, hpL', lookR, zaa, if_true, if_false]; rfl)
    case hs => (simp only [snaps_nil, zav, zay, zaK, zaA, zas, zar, zam]; rfl)
    case h => (first | fail)
    case hf => ((simp only [zad, zag, false_implies, implies_true, and_true, hpL', lookR, zaa, if_true, if_false]) <;> (repeat' apply zai) <;> (first | exact ⟨_, rfl, Ints_isG _⟩ | exact ⟨_, rfl, Cs_isG _⟩ | exact ⟨_, rfl, by simp [zaP]⟩))
    case hg => simp [zaW, zaL, zaE])
 | (apply cg_any
    case hl => rfl
    case ha => (intro hb; simp only [zab, zae, cnd, hb, if_true, prepV, prepC, idx, hpL', lookR, zaa, if_false]; rfl)
    case hs => (intro hb; simp only [cnd, hb, if_true]; rfl)
    case h => (first | fail))
 | (apply cg_show
    case hl => rfl
    case ha => (intro hb; simp only [zab, zae, cnd, hb, if_true, prepV, prepC, idx, hpL', lookR, zaa, if_false]; rfl)
    case hs => (intro hb; simp only [cnd, hb, if_true, snaps_nil, zav, zay, zaK, zaA, zas, zar, zam]; rfl)
    case h => (first | fail)
    case hf => ((simp only [zad, zag, false_implies, implies_true, and_true, hpL', lookR, zaa, if_true, if_false]) <;> (repeat' apply zai) <;> (first | exact ⟨_, rfl, Ints_isG _⟩ | exact ⟨_, rfl, Cs_isG _⟩ | exact ⟨_, rfl, by simp [zaP]⟩))
    case hg => simp [zaW, zaL, zaE])
 | (apply cl_plain
    case hs => rfl
    case ha => (simp only [zab, zae, prepV, prepC, idx, hpL', lookR, zaa, if_true, if_false]; rfl)
    case h => (first | fail))
 | (apply cl_show
    case ha => (simp only [zab, zae, prepV, prepC, idx, hpL', lookR, zaa, if_true, if_false]; rfl)
    case hs => ((simp [snaps, zaK, zaA, idx, hpL', lookR]) <;> (repeat' apply zai) <;> (first | exact Ints_isG _ | exact Cs_isG _))
    case h => (first | fail)
    case hg => ((simp [zaW, zaL, zaE]) <;> (repeat' apply zai) <;> exact Ints_noG _))
 | ((first | refine s1_id ?_ | refine swp_id ?_ | refine sops_id ?_ | refine s2_id ?_); simp only [decide_eq_false h1, decide_eq_false h64, go_sem, zaa, zaj, zak, zal, zan, zah, ↓reduceIte, reduceCtorEq, zac, zaf, zao, zap, zaq, zaR, zaS, zaC, zaQ, renO, bk, back, outUpsFrom, Ints_ren])
 | (intros; omega)
 | (intros; (try simp only [zaw, zaB, zaz, zax, zat, zau, decide_eq_true_eq, decide_eq_false_iff_not] at *); omega))
  refine w_loop (ι := Nat) (fun m => ⟨[(1, .one (.optr 0 0)), (3, i1 l.length), (4, i1 m)], [(0, some ⟨[.gsl (Cs l) 0 l.length k, int n], 2⟩)], 1⟩) (fun m => m ≤ l.length ∧ ∀ i, i < m → stOk l i = true) (fun m => l.length - m) 0 ?_ ⟨zbd _, fun i hi => absurd hi (Nat.not_lt_zero _)⟩ ?_
  · (refine imp_ren _ _ _ [(0, 0, ⟨[.gsl (Cs l) 0 l.length k, int n], 2⟩)] (by simp) (by simp) (by simp) (zaF rfl) ?_ rfl (by simp only [zad, zag, false_implies, implies_true, and_true, zbe, lookR, zaa, if_true, if_false, ↓reduceIte] <;> (repeat' apply zai) <;> (first | rfl | trivial)) (by simp only [zad, zag, false_implies, implies_true, and_true, true_and, flat_cons, flat_nil, flat_ints, flat_bools, flat_app, zaA, and_self, eq_self_iff_true, zam]); simp only [zab, zae, zad, zag, false_implies, implies_true, and_true, lk, slot, zaR, zaC, toN, zaa, if_true, if_false, ↓reduceIte, reduceCtorEq])
    all_goals ((repeat' apply zai) <;> (first | rfl | trivial))
  rintro m ⟨hm, hst⟩
  simp only at hm hst ⊢
  rcases zbf m l.length with hlt | hge
  case inl =>
    have c : (m : Int) < (l.length : Int) := by omega
    have h2 := node_spec l k n m hlt hl (hnm.at m hlt)
    cases hb : stOk l m with
    | false =>
      rw [chkT_not fun h => by have := h.st m hlt; rw [hb] at this; cases this]
      rw [hb] at h2
      simp only [go_sem, zaa, zaj, zak, zal, zan, zah, ↓reduceIte, reduceCtorEq, zac, zaf, zao, zap, zaq, decide_eq_true c]
      repeat' (first
 | with_reducible refine zai ?_ ?_
 | (unfold OKC; kernel_rfl)
 | (apply okc_up <;> (first | ((repeat (first | exact Sub.nil | apply Sub.gfp | apply Sub.same)); done) | kernel_rfl))
 | (unfold EDG; kernel_rfl)
 | (refine gt_if (fun h => ?_) (fun h => ?_) <;> (try simp only [h]))
 | (refine pt_if (fun h => ?_) (fun h => ?_) <;> (try simp only [h]))
 | (refine cd_if (fun h => ?_) (fun h => ?_) <;> (try simp only [h]))
 | (apply cg_tp
    case hl => rfl
    case ha => (simp only [zab, zae, prepV, prepC, idx, hpL', lookR, zaa, if_true, if_false]; rfl)
    case hs => rfl
    case h => (first | exact h2 ..))
 | (apply cg_ts
    case hl => rfl
    case ha => (simp only [zab, zae, prepV, prepC, idx, hpL', lookR, zaa, if_true, if_false]; rfl)
    case hs => (simp only [snaps_nil, zav, zay, zaK, zaA, zas, zar, zam]; rfl)
    case h => (first | exact h2 ..)
    case hf => ((simp only [zad, zag, false_implies, implies_true, and_true, hpL', lookR, zaa, if_true, if_false]) <;> (repeat' apply zai) <;> (first | exact ⟨_, rfl, Ints_isG _⟩ | exact ⟨_, rfl, Cs_isG _⟩ | exact ⟨_, rfl, by simp [zaP]⟩))
    case hg => simp [zaW, zaL, zaE])
 | (apply cg_any
    case hl => rfl
    case ha => (intro hb; simp only [zab, zae, cnd, hb, if_true, prepV, prepC, idx, hpL', lookR, zaa, if_false]; rfl)
    case hs => (intro hb; simp only [cnd, hb, if_true]; rfl)
    case h => (first | exact h2 ..))
 | (apply cg_show
    case hl => rfl
    case ha => (intro hb; simp only [zab, zae, cnd, hb, if_true, prepV, prepC, idx, hpL', lookR, zaa, if_false]; rfl)
    case hs => (intro hb; simp only [cnd, hb, if_true, snaps_nil, zav, zay, zaK, zaA, zas, zar, zam]; rfl)
    case h => (first | exact h2 ..)
    case hf => ((simp only [zad, zag, false_implies, implies_true, and_true, hpL', lookR, zaa, if_true, if_false]) <;> (repeat' apply zai) <;> (first | exact ⟨_, rfl, Ints_isG _⟩ | exact ⟨_, rfl, Cs_isG _⟩ | exact ⟨_, rfl, by simp [zaP]⟩))
    case hg => simp [zaW, zaL, zaE])
 | (apply cl_plain
    case hs => rfl
    case ha => (simp only [zab, zae, prepV, prepC, idx, hpL', lookR, zaa, if_true, if_false]; rfl)
    case h => (first | exact h2 ..))
 | (apply cl_show
    case ha => (simp only [zab, zae, prepV, prepC, idx, hpL', lookR, zaa, if_true, if_false]; rfl)
    case hs => ((simp [snaps, zaK, zaA, idx, hpL', lookR]) <;> (repeat' apply zai) <;> (first | exact Ints_isG _ | exact Cs_isG _))
    case h => (first | exact h2 ..)
    case hg => ((simp [zaW, zaL, zaE]) <;> (repeat' apply zai) <;> exact Ints_noG _))
 | ((first | refine s1_id ?_ | refine swp_id ?_ | refine sops_id ?_ | refine s2_id ?_); simp only [decide_eq_true c, go_sem, zaa, zaj, zak, zal, zan, zah, ↓reduceIte, reduceCtorEq, zac, zaf, zao, zap, zaq, zaR, zaS, zaC, zaQ, renO, bk, back, outUpsFrom, Ints_ren])
 | (intros; omega)
 | (intros; (try simp only [zaw, zaB, zaz, zax, zat, zau, decide_eq_true_eq, decide_eq_false_iff_not] at *); omega)
 | exact fs_nil trivial rfl
 | (apply fs_nil <;> (try simp only [go_sem, resV, resS, zaR, zaS, zaC, zbr, zbe, idx, renO, zaQ, evS, slot, lookR, zaa, ↓reduceIte, reduceCtorEq, if_true, if_false, zaN, zaO, zab, zae, sLoad, readAt, readNeed, Ints_ren, Ints_length, Ints_getD, and_true, true_and, zaG, zaH]) <;> (try rfl))
 | fail)
    | true =>
      rw [hb] at h2
      simp only [go_sem, zaa, zaj, zak, zal, zan, zah, ↓reduceIte, reduceCtorEq, zac, zaf, zao, zap, zaq, decide_eq_true c]
      repeat' (first
 | with_reducible refine zai ?_ ?_
 | (unfold OKC; kernel_rfl)
 | (apply okc_up <;> (first | ((repeat (first | exact Sub.nil | apply Sub.gfp | apply Sub.same)); done) | kernel_rfl))
 | (unfold EDG; kernel_rfl)
 | (refine gt_if (fun h => ?_) (fun h => ?_) <;> (try simp only [h]))
 | (refine pt_if (fun h => ?_) (fun h => ?_) <;> (try simp only [h]))
 | (refine cd_if (fun h => ?_) (fun h => ?_) <;> (try simp only [h]))
 | (apply cg_tp
    case hl => rfl
    case ha => (simp only [zab, zae, prepV, prepC, idx, hpL', lookR, zaa, if_true, if_false]; rfl)
    case hs => rfl
    case h => (first | exact h2 ..))
 | (apply cg_ts
    case hl => rfl
    case ha => (simp only [zab, zae, prepV, prepC, idx, hpL', lookR, zaa, if_true, if_false]; rfl)
    case hs => (simp only [snaps_nil, zav, zay, zaK, zaA, zas, zar, zam]; rfl)
    case h => (first | exact h2 ..)
    case hf => ((simp only [zad, zag, false_implies, implies_true, and_true, hpL', lookR, zaa, if_true, if_false]) <;> (repeat' apply zai) <;> (first | exact ⟨_, rfl, Ints_isG _⟩ | exact ⟨_, rfl, Cs_isG _⟩ | exact ⟨_, rfl, by simp [zaP]⟩))
    case hg => simp [zaW, zaL, zaE])
 | (apply cg_any
    case hl => rfl
    case ha => (intro hb; simp only [zab, zae, cnd, hb, if_true, prepV, prepC, idx, hpL', lookR, zaa, if_false]; rfl)
    case hs => (intro hb; simp only [cnd, hb, if_true]; rfl)
    case h => (first | exact h2 ..))
 | (apply cg_show
    case hl => rfl
    case ha => (intro hb; simp only [zab, zae, cnd, hb, if_true, prepV, prepC, idx, hpL', lookR, zaa, if_false]; rfl)
    case hs => (intro hb; simp only [cnd, hb, if_true, snaps_nil, zav, zay, zaK, zaA, zas, zar, zam]; rfl)
    case h => (first | exact h2 ..)
    case hf => ((simp only [zad, zag, false_implies, implies_true, and_true, hpL', lookR, zaa, if_true, if_false]) <;> (repeat' apply zai) <;> (first | exact ⟨_, rfl, Ints_isG _⟩ | exact ⟨_, rfl, Cs_isG _⟩ | exact ⟨_, rfl, by simp [zaP]⟩))
    case hg => simp [zaW, zaL, zaE])
 | (apply cl_plain
    case hs => rfl
    case ha => (simp only [zab, zae, prepV, prepC, idx, hpL', lookR, zaa, if_true, if_false]; rfl)
    case h => (first | exact h2 ..))
 | (apply cl_show
    case ha => (simp only [zab, zae, prepV, prepC, idx, hpL', lookR, zaa, if_true, if_false]; rfl)
    case hs => ((simp [snaps, zaK, zaA, idx, hpL', lookR]) <;> (repeat' apply zai) <;> (first | exact Ints_isG _ | exact Cs_isG _))
    case h => (first | exact h2 ..)
    case hg => ((simp [zaW, zaL, zaE]) <;> (repeat' apply zai) <;> exact Ints_noG _))
 | ((first | refine s1_id ?_ | refine swp_id ?_ | refine sops_id ?_ | refine s2_id ?_); simp only [decide_eq_true c, go_sem, zaa, zaj, zak, zal, zan, zah, ↓reduceIte, reduceCtorEq, zac, zaf, zao, zap, zaq, zaR, zaS, zaC, zaQ, renO, bk, back, outUpsFrom, Ints_ren])
 | (intros; omega)
 | (intros; (try simp only [zaw, zaB, zaz, zax, zat, zau, decide_eq_true_eq, decide_eq_false_iff_not] at *); omega))
      refine le_mk (m + 1) ?_ ⟨hlt, fun i hi => by rcases Nat.lt_succ_iff_lt_or_eq.1 hi with h | h; (· exact hst i h); (· rw [h]; exact hb)⟩ (by omega)
      (refine imp_ren _ _ _ [(0, 0, ⟨[.gsl (Cs l) 0 l.length k, int n], 2⟩)] (by simp) (by simp) (by simp) (zaF rfl) ?_ rfl (by simp only [zad, zag, false_implies, implies_true, and_true, zbe, lookR, zaa, if_true, if_false, ↓reduceIte] <;> (repeat' apply zai) <;> (first | rfl | trivial)) (by simp only [zad, zag, false_implies, implies_true, and_true, true_and, flat_cons, flat_nil, flat_ints, flat_bools, flat_app, zaA, and_self, eq_self_iff_true, zam]); simp only [zab, zae, zad, zag, false_implies, implies_true, and_true, lk, slot, zaR, zaC, toN, zaa, if_true, if_false, ↓reduceIte, reduceCtorEq])
      all_goals ((repeat' apply zai) <;> (first | rfl | trivial | (simp only [zaD]; done) | (simp only [zaD]; rfl) | (simp only [zaD]; trivial)))
  have c : ¬ (m : Int) < (l.length : Int) := by omega
  obtain rfl : m = l.length := by omega
  simp only [go_sem, zaa, zaj, zak, zal, zan, zah, ↓reduceIte, reduceCtorEq, zac, zaf, zao, zap, zaq, decide_eq_false c]
  repeat' (first
 | with_reducible refine zai ?_ ?_
 | (unfold OKC; kernel_rfl)
 | (apply okc_up <;> (first | ((repeat (first | exact Sub.nil | apply Sub.gfp | apply Sub.same)); done) | kernel_rfl))
 | (unfold EDG; kernel_rfl)
 | (refine gt_if (fun h => ?_) (fun h => ?_) <;> (try simp only [h]))
 | (refine pt_if (fun h => ?_) (fun h => ?_) <;> (try simp only [h]))
 | (refine cd_if (fun h => ?_) (fun h => ?_) <;> (try simp only [h]))
 | (apply cg_tp
    case hl => rfl
    case ha => (simp only [zab, zae, prepV, prepC, idx, hpL', lookR, zaa, if_true, if_false]; rfl)
    case hs => rfl
    case h => (first | fail))
 | (apply cg_ts
    case hl => rfl
    case ha => (simp only [zab, zae, prepV, prepC, idx, hpL', lookR, zaa, if_true, if_false]; rfl)
    case hs => (simp only [snaps_nil, zav, zay, zaK, zaA, zas, zar, zam]; rfl)
    case h => (first | fail)
    case hf => ((simp only [zad, zag, false_implies, implies_true, and_true, hpL', lookR, zaa, if_true, if_false]) <;> (repeat' apply zai) <;> (first | exact ⟨_, rfl, Ints_isG _⟩ | exact ⟨_, rfl, Cs_isG _⟩ | exact ⟨_, rfl, by simp [zaP]⟩))
    case hg => simp [zaW, zaL, zaE])
 | (apply cg_any
    case hl => rfl
    case ha => (intro hb; simp only [zab, zae, cnd, hb, if_true, prepV, prepC, idx, hpL', lookR, zaa, if_false]; rfl)
    case hs => (intro hb; simp only [cnd, hb, if_true]; rfl)
    case h => (first | fail))
 | (apply cg_show
    case hl => rfl
    case ha => (intro hb; simp only [zab, zae, cnd, hb, if_true, prepV, prepC, idx, hpL', lookR, zaa, if_false]; rfl)
    case hs => (intro hb; simp only [cnd, hb, if_true, snaps_nil, zav, zay, zaK, zaA, zas, zar, zam]; rfl)
    case h => (first | fail)
    case hf => ((simp only [zad, zag, false_implies, implies_true, and_true, hpL', lookR, zaa, if_true, if_false]) <;> (repeat' apply zai) <;> (first | exact ⟨_, rfl, Ints_isG _⟩ | exact ⟨_, rfl, Cs_isG _⟩ | exact ⟨_, rfl, by simp [zaP]⟩))
    case hg => simp [zaW, zaL, zaE])
 | (apply cl_plain
    case hs => rfl
    case ha => (simp only [zab, zae, prepV, prepC, idx, hpL', lookR, zaa, if_true, if_false]; rfl)
    case h => (first | fail))
 | (apply cl_show
    case ha => (simp only [zab, zae, prepV, prepC, idx, hpL', lookR, zaa, if_true, if_false]; rfl)
    case hs => ((simp [snaps, zaK, zaA, idx, hpL', lookR]) <;> (repeat' apply zai) <;> (first | exact Ints_isG _ | exact Cs_isG _))
    case h => (first | fail)
    case hg => ((simp [zaW, zaL, zaE]) <;> (repeat' apply zai) <;> exact Ints_noG _))
 | ((first | refine s1_id ?_ | refine swp_id ?_ | refine sops_id ?_ | refine s2_id ?_); simp only [decide_eq_false c, go_sem, zaa, zaj, zak, zal, zan, zah, ↓reduceIte, reduceCtorEq, zac, zaf, zao, zap, zaq, zaR, zaS, zaC, zaQ, renO, bk, back, outUpsFrom, Ints_ren])
 | (intros; omega)
 | (intros; (try simp only [zaw, zaB, zaz, zax, zat, zau, decide_eq_true_eq, decide_eq_false_iff_not] at *); omega))
  refine w_loop (ι := Nat) (fun m => ⟨[(1, .one (.optr 0 0)), (3, i1 l.length), (5, i1 m)], [(0, some ⟨[.gsl (Cs l) 0 l.length k, int n], 2⟩)], 1⟩) (fun m => m ≤ l.length ∧ ∀ i, i < m → (upL l (gN l i).i).length ≤ 9) (fun m => l.length - m) 0 ?_ ⟨zbd _, fun i hi => absurd hi (Nat.not_lt_zero _)⟩ ?_
  · (refine imp_ren _ _ _ [(0, 0, ⟨[.gsl (Cs l) 0 l.length k, int n], 2⟩)] (by simp) (by simp) (by simp) (zaF rfl) ?_ rfl (by simp only [zad, zag, false_implies, implies_true, and_true, zbe, lookR, zaa, if_true, if_false, ↓reduceIte] <;> (repeat' apply zai) <;> (first | rfl | trivial)) (by simp only [zad, zag, false_implies, implies_true, and_true, true_and, flat_cons, flat_nil, flat_ints, flat_bools, flat_app, zaA, and_self, eq_self_iff_true, zam]); simp only [zab, zae, zad, zag, false_implies, implies_true, and_true, lk, slot, zaR, zaC, toN, zaa, if_true, if_false, ↓reduceIte, reduceCtorEq])
    all_goals ((repeat' apply zai) <;> (first | rfl | trivial))
  rintro m ⟨hm, hdp⟩
  simp only at hm hdp ⊢
  rcases zbf m l.length with hlt | hge
  case inl =>
    have c : (m : Int) < (l.length : Int) := by omega
    have h3 := up_spec l k n (gN l m).i hl
    obtain ⟨g1, _⟩ := nd_f l m hlt (.sc (.int .i64 0))
    by_cases h9 : 9 < ((upL l (gN l m).i).length : Int)
    · rw [chkT_not fun h => by have := h.dp m hlt; omega]
      generalize upL l (gN l m).i = U at *
      simp only [go_sem, zaa, zaj, zak, zal, zan, zah, ↓reduceIte, reduceCtorEq, zac, zaf, zao, zap, zaq, decide_eq_true c, g1, decide_eq_true h9]
      repeat' (first
 | with_reducible refine zai ?_ ?_
 | (unfold OKC; kernel_rfl)
 | (apply okc_up <;> (first | ((repeat (first | exact Sub.nil | apply Sub.gfp | apply Sub.same)); done) | kernel_rfl))
 | (unfold EDG; kernel_rfl)
 | (refine gt_if (fun h => ?_) (fun h => ?_) <;> (try simp only [h]))
 | (refine pt_if (fun h => ?_) (fun h => ?_) <;> (try simp only [h]))
 | (refine cd_if (fun h => ?_) (fun h => ?_) <;> (try simp only [h]))
 | (apply cg_tp
    case hl => rfl
    case ha => (simp only [zab, zae, prepV, prepC, idx, hpL', lookR, zaa, if_true, if_false]; rfl)
    case hs => rfl
    case h => (first | exact h3 ..))
 | (apply cg_ts
    case hl => rfl
    case ha => (simp only [zab, zae, prepV, prepC, idx, hpL', lookR, zaa, if_true, if_false]; rfl)
    case hs => (simp only [snaps_nil, zav, zay, zaK, zaA, zas, zar, zam]; rfl)
    case h => (first | exact h3 ..)
    case hf => ((simp only [zad, zag, false_implies, implies_true, and_true, hpL', lookR, zaa, if_true, if_false]) <;> (repeat' apply zai) <;> (first | exact ⟨_, rfl, Ints_isG _⟩ | exact ⟨_, rfl, Cs_isG _⟩ | exact ⟨_, rfl, by simp [zaP]⟩))
    case hg => simp [zaW, zaL, zaE])
 | (apply cg_any
    case hl => rfl
    case ha => (intro hb; simp only [zab, zae, cnd, hb, if_true, prepV, prepC, idx, hpL', lookR, zaa, if_false]; rfl)
    case hs => (intro hb; simp only [cnd, hb, if_true]; rfl)
    case h => (first | exact h3 ..))
 | (apply cg_show
    case hl => rfl
    case ha => (intro hb; simp only [zab, zae, cnd, hb, if_true, prepV, prepC, idx, hpL', lookR, zaa, if_false]; rfl)
    case hs => (intro hb; simp only [cnd, hb, if_true, snaps_nil, zav, zay, zaK, zaA, zas, zar, zam]; rfl)
    case h => (first | exact h3 ..)
    case hf => ((simp only [zad, zag, false_implies, implies_true, and_true, hpL', lookR, zaa, if_true, if_false]) <;> (repeat' apply zai) <;> (first | exact ⟨_, rfl, Ints_isG _⟩ | exact ⟨_, rfl, Cs_isG _⟩ | exact ⟨_, rfl, by simp [zaP]⟩))
    case hg => simp [zaW, zaL, zaE])
 | (apply cl_plain
    case hs => rfl
    case ha => (simp only [zab, zae, prepV, prepC, idx, hpL', lookR, zaa, if_true, if_false]; rfl)
    case h => (first | exact h3 ..))
 | (apply cl_show
    case ha => (simp only [zab, zae, prepV, prepC, idx, hpL', lookR, zaa, if_true, if_false]; rfl)
    case hs => ((simp [snaps, zaK, zaA, idx, hpL', lookR]) <;> (repeat' apply zai) <;> (first | exact Ints_isG _ | exact Cs_isG _))
    case h => (first | exact h3 ..)
    case hg => ((simp [zaW, zaL, zaE]) <;> (repeat' apply zai) <;> exact Ints_noG _))
 | ((first | refine s1_id ?_ | refine swp_id ?_ | refine sops_id ?_ | refine s2_id ?_); simp only [decide_eq_true c, g1, decide_eq_true h9, go_sem, zaa, zaj, zak, zal, zan, zah, ↓reduceIte, reduceCtorEq, zac, zaf, zao, zap, zaq, zaR, zaS, zaC, zaQ, renO, bk, back, outUpsFrom, Ints_ren])
 | (intros; omega)
 | (intros; (try simp only [zaw, zaB, zaz, zax, zat, zau, decide_eq_true_eq, decide_eq_false_iff_not] at *); omega)
 | exact fs_nil trivial rfl
 | (apply fs_nil <;> (try simp only [go_sem, resV, resS, zaR, zaS, zaC, zbr, zbe, idx, renO, zaQ, evS, slot, lookR, zaa, ↓reduceIte, reduceCtorEq, if_true, if_false, zaN, zaO, zab, zae, sLoad, readAt, readNeed, Ints_ren, Ints_length, Ints_getD, and_true, true_and, zaG, zaH]) <;> (try rfl))
 | fail)
    · have h9' : (upL l (gN l m).i).length ≤ 9 := by omega
      have hnx : ∀ i, i < m + 1 → (upL l (gN l i).i).length ≤ 9 := fun i hi => by rcases Nat.lt_succ_iff_lt_or_eq.1 hi with h | h; (· exact hdp i h); (· rw [h]; exact h9')
      generalize upL l (gN l m).i = U at *
      simp only [go_sem, zaa, zaj, zak, zal, zan, zah, ↓reduceIte, reduceCtorEq, zac, zaf, zao, zap, zaq, decide_eq_true c, g1, decide_eq_false h9]
      repeat' (first
 | with_reducible refine zai ?_ ?_
 | (unfold OKC; kernel_rfl)
 | (apply okc_up <;> (first | ((repeat (first | exact Sub.nil | apply Sub.gfp | apply Sub.same)); done) | kernel_rfl))
 | (unfold EDG; kernel_rfl)
 | (refine gt_if (fun h => ?_) (fun h => ?_) <;> (try simp only [h]))
 | (refine pt_if (fun h => ?_) (fun h => ?_) <;> (try simp only [h]))
 | (refine cd_if (fun h => ?_) (fun h => ?_) <;> (try simp only [h]))
 | (apply cg_tp
    case hl => rfl
    case ha => (simp only [zab, zae, prepV, prepC, idx, hpL', lookR, zaa, if_true, if_false]; rfl)
    case hs => rfl
    case h => (first | exact h3 ..))
 | (apply cg_ts
    case hl => rfl
    case ha => (simp only [zab, zae, prepV, prepC, idx, hpL', lookR, zaa, if_true, if_false]; rfl)
    case hs => (simp only [snaps_nil, zav, zay, zaK, zaA, zas, zar, zam]; rfl)
    case h => (first | exact h3 ..)
    case hf => ((simp only [zad, zag, false_implies, implies_true, and_true, hpL', lookR, zaa, if_true, if_false]) <;> (repeat' apply zai) <;> (first | exact ⟨_, rfl, Ints_isG _⟩ | exact ⟨_, rfl, Cs_isG _⟩ | exact ⟨_, rfl, by simp [zaP]⟩))
    case hg => simp [zaW, zaL, zaE])
 | (apply cg_any
    case hl => rfl
    case ha => (intro hb; simp only [zab, zae, cnd, hb, if_true, prepV, prepC, idx, hpL', lookR, zaa, if_false]; rfl)
    case hs => (intro hb; simp only [cnd, hb, if_true]; rfl)
    case h => (first | exact h3 ..))
 | (apply cg_show
    case hl => rfl
    case ha => (intro hb; simp only [zab, zae, cnd, hb, if_true, prepV, prepC, idx, hpL', lookR, zaa, if_false]; rfl)
    case hs => (intro hb; simp only [cnd, hb, if_true, snaps_nil, zav, zay, zaK, zaA, zas, zar, zam]; rfl)
    case h => (first | exact h3 ..)
    case hf => ((simp only [zad, zag, false_implies, implies_true, and_true, hpL', lookR, zaa, if_true, if_false]) <;> (repeat' apply zai) <;> (first | exact ⟨_, rfl, Ints_isG _⟩ | exact ⟨_, rfl, Cs_isG _⟩ | exact ⟨_, rfl, by simp [zaP]⟩))
    case hg => simp [zaW, zaL, zaE])
 | (apply cl_plain
    case hs => rfl
    case ha => (simp only [zab, zae, prepV, prepC, idx, hpL', lookR, zaa, if_true, if_false]; rfl)
    case h => (first | exact h3 ..))
 | (apply cl_show
    case ha => (simp only [zab, zae, prepV, prepC, idx, hpL', lookR, zaa, if_true, if_false]; rfl)
    case hs => ((simp [snaps, zaK, zaA, idx, hpL', lookR]) <;> (repeat' apply zai) <;> (first | exact Ints_isG _ | exact Cs_isG _))
    case h => (first | exact h3 ..)
    case hg => ((simp [zaW, zaL, zaE]) <;> (repeat' apply zai) <;> exact Ints_noG _))
 | ((first | refine s1_id ?_ | refine swp_id ?_ | refine sops_id ?_ | refine s2_id ?_); simp only [decide_eq_true c, g1, decide_eq_false h9, go_sem, zaa, zaj, zak, zal, zan, zah, ↓reduceIte, reduceCtorEq, zac, zaf, zao, zap, zaq, zaR, zaS, zaC, zaQ, renO, bk, back, outUpsFrom, Ints_ren])
 | (intros; omega)
 | (intros; (try simp only [zaw, zaB, zaz, zax, zat, zau, decide_eq_true_eq, decide_eq_false_iff_not] at *); omega))
      refine le_mk (m + 1) ?_ ⟨hlt, hnx⟩ (by omega)
      (refine imp_ren _ _ _ [(0, 0, ⟨[.gsl (Cs l) 0 l.length k, int n], 2⟩)] (by simp) (by simp) (by simp) (zaF rfl) ?_ rfl (by simp only [zad, zag, false_implies, implies_true, and_true, zbe, lookR, zaa, if_true, if_false, ↓reduceIte] <;> (repeat' apply zai) <;> (first | rfl | trivial)) (by simp only [zad, zag, false_implies, implies_true, and_true, true_and, flat_cons, flat_nil, flat_ints, flat_bools, flat_app, zaA, and_self, eq_self_iff_true, zam]); simp only [zab, zae, zad, zag, false_implies, implies_true, and_true, lk, slot, zaR, zaC, toN, zaa, if_true, if_false, ↓reduceIte, reduceCtorEq])
      all_goals ((repeat' apply zai) <;> (first | rfl | trivial | (simp only [zaD]; done) | (simp only [zaD]; rfl) | (simp only [zaD]; trivial)))
  have c : ¬ (m : Int) < (l.length : Int) := by omega
  obtain rfl : m = l.length := by omega
  have hin : ((l.length : Int) - 1).toNat = l.length - 1 := by omega
  obtain ⟨g1, _⟩ := nd_f l (l.length - 1) (by omega) (.sc (.int .i64 0))
  have hres : chkT l n = (decide ((gN l (l.length - 1)).i < n) && decide (n ≤ 2147483648)) := by
    unfold chkT
    rw [decide_eq_true h1', decide_eq_true h64', (allN_iff _ _).2 hst, (allN_iff _ _).2 fun i hi => decide_eq_true (hdp i hi)]
    rfl
  rw [hres]
  simp only [go_sem, zaa, zaj, zak, zal, zan, zah, ↓reduceIte, reduceCtorEq, zac, zaf, zao, zap, zaq, decide_eq_false c, hin, g1]
  repeat' (first
 | with_reducible refine zai ?_ ?_
 | (unfold OKC; kernel_rfl)
 | (apply okc_up <;> (first | ((repeat (first | exact Sub.nil | apply Sub.gfp | apply Sub.same)); done) | kernel_rfl))
 | (unfold EDG; kernel_rfl)
 | (refine gt_if (fun h => ?_) (fun h => ?_) <;> (try simp only [h]))
 | (refine pt_if (fun h => ?_) (fun h => ?_) <;> (try simp only [h]))
 | (refine cd_if (fun h => ?_) (fun h => ?_) <;> (try simp only [h]))
 | (apply cg_tp
    case hl => rfl
    case ha => (simp only [zab, zae, prepV, prepC, idx, hpL', lookR, zaa, if_true, if_false]; rfl)
    case hs => rfl
    case h => (first | fail))
 | (apply cg_ts
    case hl => rfl
    case ha => (simp only [zab, zae, prepV, prepC, idx, hpL', lookR, zaa, if_true, if_false]; rfl)
    case hs => (simp only [snaps_nil, zav, zay, zaK, zaA, zas, zar, zam]; rfl)
    case h => (first | fail)
    case hf => ((simp only [zad, zag, false_implies, implies_true, and_true, hpL', lookR, zaa, if_true, if_false]) <;> (repeat' apply zai) <;> (first | exact ⟨_, rfl, Ints_isG _⟩ | exact ⟨_, rfl, Cs_isG _⟩ | exact ⟨_, rfl, by simp [zaP]⟩))
    case hg => simp [zaW, zaL, zaE])
 | (apply cg_any
    case hl => rfl
    case ha => (intro hb; simp only [zab, zae, cnd, hb, if_true, prepV, prepC, idx, hpL', lookR, zaa, if_false]; rfl)
    case hs => (intro hb; simp only [cnd, hb, if_true]; rfl)
    case h => (first | fail))
 | (apply cg_show
    case hl => rfl
    case ha => (intro hb; simp only [zab, zae, cnd, hb, if_true, prepV, prepC, idx, hpL', lookR, zaa, if_false]; rfl)
    case hs => (intro hb; simp only [cnd, hb, if_true, snaps_nil, zav, zay, zaK, zaA, zas, zar, zam]; rfl)
    case h => (first | fail)
    case hf => ((simp only [zad, zag, false_implies, implies_true, and_true, hpL', lookR, zaa, if_true, if_false]) <;> (repeat' apply zai) <;> (first | exact ⟨_, rfl, Ints_isG _⟩ | exact ⟨_, rfl, Cs_isG _⟩ | exact ⟨_, rfl, by simp [zaP]⟩))
    case hg => simp [zaW, zaL, zaE])
 | (apply cl_plain
    case hs => rfl
    case ha => (simp only [zab, zae, prepV, prepC, idx, hpL', lookR, zaa, if_true, if_false]; rfl)
    case h => (first | fail))
 | (apply cl_show
    case ha => (simp only [zab, zae, prepV, prepC, idx, hpL', lookR, zaa, if_true, if_false]; rfl)
    case hs => ((simp [snaps, zaK, zaA, idx, hpL', lookR]) <;> (repeat' apply zai) <;> (first | exact Ints_isG _ | exact Cs_isG _))
    case h => (first | fail)
    case hg => ((simp [zaW, zaL, zaE]) <;> (repeat' apply zai) <;> exact Ints_noG _))
 | ((first | refine s1_id ?_ | refine swp_id ?_ | refine sops_id ?_ | refine s2_id ?_); simp only [decide_eq_false c, hin, g1, go_sem, zaa, zaj, zak, zal, zan, zah, ↓reduceIte, reduceCtorEq, zac, zaf, zao, zap, zaq, zaR, zaS, zaC, zaQ, renO, bk, back, outUpsFrom, Ints_ren])
 | (intros; omega)
 | (intros; (try simp only [zaw, zaB, zaz, zax, zat, zau, decide_eq_true_eq, decide_eq_false_iff_not] at *); omega)
 | exact fs_nil trivial rfl
 | (apply fs_nil <;> (try simp only [go_sem, resV, resS, zaR, zaS, zaC, zbr, zbe, idx, renO, zaQ, evS, slot, lookR, zaa, ↓reduceIte, reduceCtorEq, if_true, if_false, zaN, zaO, zab, zae, sLoad, readAt, readNeed, Ints_ren, Ints_length, Ints_getD, and_true, true_and, zaG, zaH]) <;> (try rfl))
 | fail)
end Go.Proofs.Ytlajelbiniakpaa
-- NEWGO
-- PRUNE: cl_lendx cl_use
-- ISG: Cs_isG
-- FLAT: Cs_flat
namespace Go.Proofs.Ytlajelbiniakpaa
set_option linter.unusedVariables false
set_option linter.unusedSimpArgs false
open Go.Proofs.Ytlajelbiniakpaa.Sh
set_option maxRecDepth 20000
abbrev hasI (id : Int) (x : Nd) : Bool := decide (x.i = id)
def fdM (l : List Nd) (n id : Int) : Nd × Bool := if chkT l n = true then (match l.find? (hasI id) with
  | some x => (x, true)
  | none => (zn, false)) else (zn, false)
def hasM (l : List Nd) (n id : Int) : Bool := chkT l n && l.any (hasI id)
theorem fdM_2 (l : List Nd) (n id : Int) : (fdM l n id).2 = hasM l n id := by
  unfold fdM hasM
  cases hc : chkT l n with
  | false => rfl
  | true =>
    rw [if_pos rfl, zbg]
    cases hf : l.find? (hasI id) with
    | none =>
      have := List.find?_eq_none.1 hf
      exact (List.any_eq_false.2 this).symm
    | some x =>
      exact (List.any_eq_true.2 ⟨x, List.mem_of_find?_eq_some hf, List.find?_some hf⟩).symm
theorem find_drop {l : List Nd} {m : Nat} (h : m < l.length) (id : Int) : (l.drop m).find? (hasI id) = if (gN l m).i = id then some (gN l m) else (l.drop (m + 1)).find? (hasI id) := by
  rw [drop_getD l m zn h, List.find?_cons]
  by_cases c : (gN l m).i = id
  · rw [if_pos c, show hasI id (l.getD m zn) = true from decide_eq_true c]
  · rw [if_neg c, show hasI id (l.getD m zn) = false from decide_eq_false c]
abbrev zr : Row := ⟨[int 0, int 0, st [], int 0, int 0, int 0], 6⟩
set_option maxHeartbeats 8000000 in
theorem rfindT_spec (l : List Nd) (k : Option Nat) (n id : Int) (hl : l.length ≤ 1000000) (hnm : NmR l) : FnSpec Try.prog 66 [trV l k n, i1 id] [] (.tup [.agg (ndc (fdM l n id).1), b1 (fdM l n id).2]) [] := by
  have h1 := trcheck_spec l k n hl hnm
  have hnl := nd_len l
  unfold fdM
  cases hc : chkT l n with
  | false =>
    rw [hc] at h1
    simp only [zbl, if_false]
    refine fnspec_of mixed TT_ok TT_cl ⟨fun _ => false, fun _ => [], 0, fun _ => false, fun _ => false⟩ Try.func66 rfl (by kernel_rfl) rfl 32 rfl [.cell 4 44, .tmp 5] rfl ?_
    simp only [go_sem, zaa, zaj, zak, zal, zan, zah, ↓reduceIte, reduceCtorEq, zac, zaf, zao, zap, zaq]
    repeat' (first
 | with_reducible refine zai ?_ ?_
 | (apply cl_plain
    case hs => rfl
    case ha => (simp only [zab, zae, prepV, prepC, idx, hpL', lookR, zaa, if_true, if_false]; rfl)
    case h => (first | exact h1 ..))
 | ((first | refine s1_id ?_ | refine swp_id ?_ | refine sops_id ?_ | refine s2_id ?_); simp only [go_sem, zaa, zaj, zak, zal, zan, zah, ↓reduceIte, reduceCtorEq, zac, zaf, zao, zap, zaq, zaR, zaS, zaC, zaQ, renO, bk, back, outUpsFrom, Ints_ren])
 | (intros; omega)
 | (apply fs_nil <;> (try simp only [go_sem, resV, resS, zaR, zaS, zaC, zbr, zbe, idx, renO, zaQ, evS, slot, lookR, zaa, ↓reduceIte, reduceCtorEq, if_true, if_false, zaN, zaO, zab, zae, sLoad, readAt, readNeed, Ints_ren, Ints_length, Ints_getD, and_true, true_and, zaG, zaH]) <;> (try rfl))
 | fail)
  | true =>
    rw [hc] at h1
    rw [if_pos rfl]
    refine fnspec_of mixed TT_ok TT_cl ⟨fun _ => false, fun _ => [], 0, fun _ => false, fun _ => false⟩ Try.func66 rfl (by kernel_rfl) rfl 32 rfl [.cell 4 44, .tmp 5] rfl ?_
    simp only [go_sem, zaa, zaj, zak, zal, zan, zah, ↓reduceIte, reduceCtorEq, zac, zaf, zao, zap, zaq]
    repeat' (first
 | (apply cl_plain
    case hs => rfl
    case ha => (simp only [zab, zae, prepV, prepC, idx, hpL', lookR, zaa, if_true, if_false]; rfl)
    case h => (first | exact h1 ..))
 | ((first | refine s1_id ?_ | refine swp_id ?_ | refine sops_id ?_ | refine s2_id ?_); simp only [go_sem, zaa, zaj, zak, zal, zan, zah, ↓reduceIte, reduceCtorEq, zac, zaf, zao, zap, zaq, zaR, zaS, zaC, zaQ, renO, bk, back, outUpsFrom, Ints_ren])
 | (intros; (try simp only [zaw, zaB, zaz, zax, zat, zau, decide_eq_true_eq, decide_eq_false_iff_not] at *); omega))
    refine w_loop (ι := Nat) (fun m => ⟨[(1, i1 id), (2, .one (.optr 0 0)), (4, .one (.optr 1 0)), (6, i1 m)], [(0, some ⟨[.gsl (Cs l) 0 l.length k, int n], 2⟩), (1, some zr)], 2⟩) (fun m => m ≤ l.length ∧ l.find? (hasI id) = (l.drop m).find? (hasI id)) (fun m => l.length - m) 0 ?_ ⟨zbd _, rfl⟩ ?_
    · (refine imp_ren _ _ _ [(0, 0, ⟨[.gsl (Cs l) 0 l.length k, int n], 2⟩), (1, 1, zr)] (by simp) (by simp) (by simp) (zaF rfl) ?_ rfl (by simp only [zad, zag, false_implies, implies_true, and_true, zbe, lookR, zaa, if_true, if_false, ↓reduceIte] <;> (repeat' apply zai) <;> (first | rfl | trivial)) (by simp only [zad, zag, false_implies, implies_true, and_true, true_and, flat_cons, flat_nil, flat_ints, flat_bools, flat_app, zaA, and_self, eq_self_iff_true, zam]); simp only [zab, zae, zad, zag, false_implies, implies_true, and_true, lk, slot, zaR, zaC, toN, zaa, if_true, if_false, ↓reduceIte, reduceCtorEq])
      all_goals ((repeat' apply zai) <;> (first | rfl | trivial))
    clear h1
    rintro m ⟨hm, hf⟩
    simp only at hm hf ⊢
    rcases zbf m l.length with hlt | hge
    case inr =>
      have c : ¬ (m : Int) < (l.length : Int) := by omega
      rw [zbk hge] at hf
      rw [hf]
      simp only [go_sem, zaa, zaj, zak, zal, zan, zah, ↓reduceIte, reduceCtorEq, zac, zaf, zao, zap, zaq, decide_eq_false c, zr, List.find?_nil]
      repeat' (first
 | with_reducible refine zai ?_ ?_
 | (intros; omega)
 | (apply fs_nil <;> (try simp only [go_sem, resV, resS, zaR, zaS, zaC, zbr, zbe, idx, renO, zaQ, evS, slot, lookR, zaa, ↓reduceIte, reduceCtorEq, if_true, if_false, zaN, zaO, zab, zae, sLoad, readAt, readNeed, Ints_ren, Ints_length, Ints_getD, and_true, true_and, zaG, zaH]) <;> (try rfl))
 | fail)
    have c : (m : Int) < (l.length : Int) := by omega
    obtain ⟨g1, _⟩ := nd_f l m hlt (.sc (.int .i64 0))
    have hN := nd_td l m hlt
    rw [find_drop hlt] at hf
    by_cases hid : (gN l m).i = id
    · rw [if_pos hid] at hf
      rw [hf]
      generalize gN l m = x at *
      obtain ⟨xi, xp, xn, xc, xk, xo⟩ := x
      simp only [ndc] at hN g1 hid ⊢
      simp only [go_sem, zaa, zaj, zak, zal, zan, zah, ↓reduceIte, reduceCtorEq, zac, zaf, zao, zap, zaq, decide_eq_true c, g1, decide_eq_true hid, hN, zr]
      repeat' (first
 | with_reducible refine zai ?_ ?_
 | (intros; omega)
 | (apply fs_nil <;> (try simp only [go_sem, resV, resS, zaR, zaS, zaC, zbr, zbe, idx, renO, zaQ, evS, slot, lookR, zaa, ↓reduceIte, reduceCtorEq, if_true, if_false, zaN, zaO, zab, zae, sLoad, readAt, readNeed, Ints_ren, Ints_length, Ints_getD, and_true, true_and, zaG, zaH]) <;> (try rfl))
 | fail)
    · rw [if_neg hid] at hf
      simp only [go_sem, zaa, zaj, zak, zal, zan, zah, ↓reduceIte, reduceCtorEq, zac, zaf, zao, zap, zaq, decide_eq_true c, g1, decide_eq_false hid, zr]
      repeat' (first
 | with_reducible refine zai ?_ ?_
 | (intros; omega)
 | (intros; (try simp only [zaw, zaB, zaz, zax, zat, zau, decide_eq_true_eq, decide_eq_false_iff_not] at *); omega))
      refine le_mk (m + 1) ?_ ⟨hlt, hf⟩ (by omega)
      (refine imp_ren _ _ _ [(0, 0, ⟨[.gsl (Cs l) 0 l.length k, int n], 2⟩), (1, 1, zr)] (by simp) (by simp) (by simp) (zaF rfl) ?_ rfl (by simp only [zad, zag, false_implies, implies_true, and_true, zbe, lookR, zaa, if_true, if_false, ↓reduceIte] <;> (repeat' apply zai) <;> (first | rfl | trivial)) (by simp only [zad, zag, false_implies, implies_true, and_true, true_and, flat_cons, flat_nil, flat_ints, flat_bools, flat_app, zaA, and_self, eq_self_iff_true, zam]); simp only [zab, zae, zad, zag, false_implies, implies_true, and_true, lk, slot, zaR, zaC, toN, zaa, if_true, if_false, ↓reduceIte, reduceCtorEq])
      all_goals ((repeat' apply zai) <;> (first | rfl | trivial | (simp only [zaD]; done) | (simp only [zaD]; rfl) | (simp only [zaD]; trivial)))
theorem rhas_spec (l : List Nd) (k : Option Nat) (n id : Int) (hl : l.length ≤ 1000000) (hnm : NmR l) : FnSpec Try.prog 45 [trV l k n, i1 id] [] (b1 (hasM l n id)) [] := by
  have h1 := rfindT_spec l k n id hl hnm
  rw [← fdM_2]
  generalize fdM l n id = u at *
  obtain ⟨⟨xi, xp, xn, xc, xk, xo⟩, b⟩ := u
  simp only [ndc] at h1 ⊢
  refine fnspec_of mixed TT_ok TT_cl ⟨fun _ => false, fun _ => [], 0, fun _ => false, fun _ => false⟩ Try.func45 rfl (by kernel_rfl) rfl 14 rfl [.tmp 4] rfl ?_
  simp only [go_sem, zaa, zaj, zak, zal, zan, zah, ↓reduceIte, reduceCtorEq, zac, zaf, zao, zap, zaq]
  repeat' (first
 | (apply cl_plain
    case hs => rfl
    case ha => (simp only [zab, zae, prepV, prepC, idx, hpL', lookR, zaa, if_true, if_false]; rfl)
    case h => (first | exact h1 ..))
 | ((first | refine s1_id ?_ | refine swp_id ?_ | refine sops_id ?_ | refine s2_id ?_); simp only [zaX, zaY, zam, zar, zas, zaU, zaV, zaT, zba, zbc, zaM, zaZ, go_sem, zaa, zaj, zak, zal, zan, zah, ↓reduceIte, reduceCtorEq, zac, zaf, zao, zap, zaq, zaR, zaS, zaC, zaQ, renO, bk, back, outUpsFrom, Ints_ren])
 | exact fs_nil trivial rfl
 | fail)
def ancM (l : List Nd) (n id : Int) : List Int := if hasM l n id = true then upL l id else []
theorem ancM_len (l : List Nd) (n id : Int) : (ancM l n id).length ≤ l.length := by
  unfold ancM
  split
  · have := upR_len l.reverse id; rw [List.length_reverse] at this; exact this
  · exact zbd _
theorem ranc_spec (l : List Nd) (k : Option Nat) (n id : Int) (hl : l.length ≤ 1000000) (hnm : NmR l) : FnSpec Try.prog 37 [trV l k n, i1 id] [] (gi (ancM l n id) none) [] := by
  have h1 := rhas_spec l k n id hl hnm
  have h2 := up_spec l k n id hl
  unfold ancM
  cases hh : hasM l n id with
  | false =>
    rw [hh] at h1
    simp only [zbl, if_false]
    refine fnspec_of mixed TT_ok TT_cl ⟨fun _ => false, fun _ => [], 0, fun _ => false, fun _ => false⟩ Try.func37 rfl (by kernel_rfl) rfl 12 rfl [.tmp 4] rfl ?_
    simp only [go_sem, zaa, zaj, zak, zal, zan, zah, ↓reduceIte, reduceCtorEq, zac, zaf, zao, zap, zaq]
    repeat' (first
 | (apply cl_plain
    case hs => rfl
    case ha => (simp only [zab, zae, prepV, prepC, idx, hpL', lookR, zaa, if_true, if_false]; rfl)
    case h => (first | exact h1 ..))
 | ((first | refine s1_id ?_ | refine swp_id ?_ | refine sops_id ?_ | refine s2_id ?_); simp only [go_sem, zaa, zaj, zak, zal, zan, zah, ↓reduceIte, reduceCtorEq, zac, zaf, zao, zap, zaq, zaR, zaS, zaC, zaQ, renO, bk, back, outUpsFrom, Ints_ren])
 | (intros; (try simp only [zaw, zaB, zaz, zax, zat, zau, decide_eq_true_eq, decide_eq_false_iff_not] at *); omega))
    repeat' (first
 | exact fs_w trivial (svw_of cw_gnil)
 | fail)
  | true =>
    rw [hh] at h1
    rw [if_pos rfl]
    generalize upL l id = U at *
    refine fnspec_of mixed TT_ok TT_cl ⟨fun _ => false, fun _ => [], 0, fun _ => false, fun _ => false⟩ Try.func37 rfl (by kernel_rfl) rfl 12 rfl [.tmp 4] rfl ?_
    simp only [go_sem, zaa, zaj, zak, zal, zan, zah, ↓reduceIte, reduceCtorEq, zac, zaf, zao, zap, zaq]
    repeat' (first
 | (apply cl_plain
    case hs => rfl
    case ha => (simp only [zab, zae, prepV, prepC, idx, hpL', lookR, zaa, if_true, if_false]; rfl)
    case h => (first | exact h1 .. | exact h2 ..))
 | ((first | refine s1_id ?_ | refine swp_id ?_ | refine sops_id ?_ | refine s2_id ?_); simp only [go_sem, zaa, zaj, zak, zal, zan, zah, ↓reduceIte, reduceCtorEq, zac, zaf, zao, zap, zaq, zaR, zaS, zaC, zaQ, renO, bk, back, outUpsFrom, Ints_ren])
 | exact fs_nil trivial rfl
 | fail)
theorem rdepth_spec (l : List Nd) (k : Option Nat) (n id : Int) (hl : l.length ≤ 1000000) (hnm : NmR l) : FnSpec Try.prog 46 [trV l k n, i1 id] [] (i1 ((ancM l n id).length - 1)) [] := by
  have h1 := ranc_spec l k n id hl hnm
  have h2 := ancM_len l n id
  generalize ancM l n id = U at *
  refine fnspec_of mixed TT_ok TT_cl ⟨fun _ => false, fun _ => [], 0, fun _ => false, fun _ => false⟩ Try.func46 rfl (by kernel_rfl) rfl 10 rfl [.tmp 4] rfl ?_
  simp only [go_sem, zaa, zaj, zak, zal, zan, zah, ↓reduceIte, reduceCtorEq, zac, zaf, zao, zap, zaq]
  repeat' (first
 | with_reducible refine zai ?_ ?_
 | (apply cl_plain
    case hs => rfl
    case ha => (simp only [zab, zae, prepV, prepC, idx, hpL', lookR, zaa, if_true, if_false]; rfl)
    case h => (first | exact h1 ..))
 | ((first | refine s1_id ?_ | refine swp_id ?_ | refine sops_id ?_ | refine s2_id ?_); simp only [go_sem, zaa, zaj, zak, zal, zan, zah, ↓reduceIte, reduceCtorEq, zac, zaf, zao, zap, zaq, zaR, zaS, zaC, zaQ, renO, bk, back, outUpsFrom, Ints_ren])
 | (intros; omega)
 | exact fs_nil trivial rfl
 | fail)
def kidsL (l : List Nd) (id : Int) : List Int := (l.filter fun x => decide (x.p = id)).map (·.i)
theorem kidsL_len (l : List Nd) (id : Int) : (kidsL l id).length ≤ l.length := by
  rw [kidsL, List.length_map]; exact List.length_filter_le _ _
theorem kidsL_take (l : List Nd) (m : Nat) (h : m < l.length) (id : Int) : kidsL (l.take (m + 1)) id = kidsL (l.take m) id ++ (if (gN l m).p = id then [(gN l m).i] else []) := by
  rw [kidsL, take_getD l m zn h, List.filter_append, List.map_append]
  by_cases c : (gN l m).p = id
  · rw [if_pos c, zbm (by exact decide_eq_true c)]; rfl
  · rw [if_neg c, List.filter_cons_of_neg (by rw [decide_eq_true_eq]; exact c)]; rfl
def chM (l : List Nd) (n id : Int) : List Int := if hasM l n id = true then kidsL l id else []
set_option maxHeartbeats 8000000 in
theorem rkids_spec (l : List Nd) (k : Option Nat) (n id : Int) (hl : l.length ≤ 1000000) (hnm : NmR l) : FnSpec Try.prog 48 [trV l k n, i1 id] [] (gi (chM l n id) none) [] := by
  have h1 := rhas_spec l k n id hl hnm
  have hnl := nd_len l
  unfold chM
  cases hh : hasM l n id with
  | false =>
    rw [hh] at h1
    simp only [zbl, if_false]
    refine fnspec_of mixed TT_ok TT_cl ⟨fun _ => false, fun _ => [], 0, fun _ => false, fun _ => false⟩ Try.func48 rfl (by kernel_rfl) rfl 36 rfl [.tmp 4] rfl ?_
    simp only [go_sem, zaa, zaj, zak, zal, zan, zah, ↓reduceIte, reduceCtorEq, zac, zaf, zao, zap, zaq]
    repeat' (first
 | (apply cl_plain
    case hs => rfl
    case ha => (simp only [zab, zae, prepV, prepC, idx, hpL', lookR, zaa, if_true, if_false]; rfl)
    case h => (first | exact h1 ..))
 | ((first | refine s1_id ?_ | refine swp_id ?_ | refine sops_id ?_ | refine s2_id ?_); simp only [go_sem, zaa, zaj, zak, zal, zan, zah, ↓reduceIte, reduceCtorEq, zac, zaf, zao, zap, zaq, zaR, zaS, zaC, zaQ, renO, bk, back, outUpsFrom, Ints_ren])
 | (intros; (try simp only [zaw, zaB, zaz, zax, zat, zau, decide_eq_true_eq, decide_eq_false_iff_not] at *); omega))
    repeat' (first
 | exact fs_w trivial (svw_of cw_gnil)
 | fail)
  | true =>
    rw [hh] at h1
    rw [if_pos rfl]
    refine fnspec_of mixed TT_ok TT_cl ⟨fun _ => false, fun _ => [], 0, fun _ => false, fun _ => false⟩ Try.func48 rfl (by kernel_rfl) rfl 36 rfl [.tmp 4] rfl ?_
    simp only [go_sem, zaa, zaj, zak, zal, zan, zah, ↓reduceIte, reduceCtorEq, zac, zaf, zao, zap, zaq]
    repeat' (first
 | (apply cl_plain
    case hs => rfl
    case ha => (simp only [zab, zae, prepV, prepC, idx, hpL', lookR, zaa, if_true, if_false]; rfl)
    case h => (first | exact h1 ..))
 | ((first | refine s1_id ?_ | refine swp_id ?_ | refine sops_id ?_ | refine s2_id ?_); simp only [go_sem, zaa, zaj, zak, zal, zan, zah, ↓reduceIte, reduceCtorEq, zac, zaf, zao, zap, zaq, zaR, zaS, zaC, zaQ, renO, bk, back, outUpsFrom, Ints_ren])
 | (intros; (try simp only [zaw, zaB, zaz, zax, zat, zau, decide_eq_true_eq, decide_eq_false_iff_not] at *); omega))
    refine w_loop (ι := Nat) (fun m => ⟨[(1, i1 id), (2, .one (.optr 0 0)), (5, .one (.osl 1 0 (kidsL (l.take m) id).length none)), (6, i1 m)], [(0, some ⟨[.gsl (Cs l) 0 l.length k, int n], 2⟩), (1, some ⟨Ints (kidsL (l.take m) id), 1⟩)], 2⟩) (fun m => m ≤ l.length) (fun m => l.length - m) 0 ?_ (zbd _) ?_
    · (refine Imp.trans (imp_nilA _ _ 5 1 99 (by simp only []; omega) rfl) ?_)
      (refine imp_ren _ _ _ [(0, 0, ⟨[.gsl (Cs l) 0 l.length k, int n], 2⟩), (1, 99, ⟨[], 1⟩)] (by simp) (by simp) (by simp) (zaF rfl) ?_ rfl (by simp only [zad, zag, false_implies, implies_true, and_true, zbe, lookR, zaa, if_true, if_false, ↓reduceIte] <;> (repeat' apply zai) <;> (first | rfl | trivial)) (by simp only [zad, zag, false_implies, implies_true, and_true, true_and, flat_cons, flat_nil, flat_ints, flat_bools, flat_app, zaA, and_self, eq_self_iff_true, zam]); simp only [zab, zae, zad, zag, false_implies, implies_true, and_true, lk, slot, zaR, zaC, toN, zaa, if_true, if_false, ↓reduceIte, reduceCtorEq])
      all_goals ((repeat' apply zai) <;> (first | rfl | trivial))
    clear h1
    intro m hm
    simp only at hm ⊢
    rcases zbf m l.length with hlt | hge
    case inr =>
      have c : ¬ (m : Int) < (l.length : Int) := by omega
      rw [zbo hge]
      simp only [go_sem, zaa, zaj, zak, zal, zan, zah, ↓reduceIte, reduceCtorEq, zac, zaf, zao, zap, zaq, decide_eq_false c]
      repeat' (first
 | (intros; (try simp only [zaw, zaB, zaz, zax, zat, zau, decide_eq_true_eq, decide_eq_false_iff_not] at *); omega))
      (refine fs_frz 1 ⟨Ints (kidsL l id), 1⟩ (by simp only [zbe, lookR, zaa, if_true, if_false, ↓reduceIte]) (by first | exact Ints_isG _ | exact Bools_isG _ | exact Cs_isG _ | (simp [zaP]; done)) ?_; simp only [frzTm, SV.frz, SV.frzL, Cell.frz, frzHp, frzO, Ints_frz, Bools_frz, zab, zae, zaa, if_true, if_false, ↓reduceIte])
      apply fs_nil <;> (try simp only [go_sem, resV, resS, zaR, zaS, zaC, zbr, zbe, idx, renO, zaQ, evS, slot, lookR, zaa, ↓reduceIte, reduceCtorEq, if_true, if_false, zaN, zaO, zab, zae, sLoad, readAt, readNeed, Ints_ren, Ints_length, Ints_getD, and_true, true_and, zaG, zaH]) <;> (try rfl)
    have c : (m : Int) < (l.length : Int) := by omega
    obtain ⟨g1, g2, _⟩ := nd_f l m hlt (.sc (.int .i64 0))
    have hk := kidsL_take l m hlt id
    have hkl := kidsL_len (l.take m) id
    rw [List.length_take] at hkl
    generalize kidsL (l.take m) id = K at *
    by_cases hid : (gN l m).p = id
    · rw [if_pos hid] at hk
      have htk : List.take K.length (Ints K) = Ints K := zbo (by rw [Ints_length]; exact zbh _)
      have hpp : Ints K ++ [int (gN l m).i] = Ints (K ++ [(gN l m).i]) := by simp [Ints]
      have hla : (K ++ [(gN l m).i]).length = K.length + 1 := by simp
      simp only [go_sem, zaa, zaj, zak, zal, zan, zah, ↓reduceIte, reduceCtorEq, zac, zaf, zao, zap, zaq, decide_eq_true c, g1, g2, decide_eq_true hid]
      repeat' (first
 | with_reducible refine zai ?_ ?_
 | (intros; omega)
 | (intros; (try simp only [zaw, zaB, zaz, zax, zat, zau, decide_eq_true_eq, decide_eq_false_iff_not] at *); omega))
      refine le_mk (m + 1) ?_ hlt (by omega)
      simp only [hk, hla]
      (refine imp_ren _ _ _ [(0, 0, ⟨[.gsl (Cs l) 0 l.length k, int n], 2⟩), (1, 23, ⟨Ints (K ++ [(gN l m).i]), 1⟩)] (by simp) (by simp) (by simp) (zaF rfl) ?_ rfl (by simp only [zad, zag, false_implies, implies_true, and_true, zbe, lookR, zaa, if_true, if_false, ↓reduceIte] <;> (repeat' apply zai) <;> (first | rfl | trivial)) (by simp only [zad, zag, false_implies, implies_true, and_true, true_and, flat_cons, flat_nil, flat_ints, flat_bools, flat_app, zaA, and_self, eq_self_iff_true, zam]); simp only [zab, zae, zad, zag, false_implies, implies_true, and_true, lk, slot, zaR, zaC, toN, zaa, if_true, if_false, ↓reduceIte, reduceCtorEq])
      all_goals ((repeat' apply zai) <;> (first | rfl | trivial | (simp only [zaD]; done) | (simp only [zaD]; rfl) | (simp only [zaD]; trivial)))
    · rw [if_neg hid, zam] at hk
      simp only [go_sem, zaa, zaj, zak, zal, zan, zah, ↓reduceIte, reduceCtorEq, zac, zaf, zao, zap, zaq, decide_eq_true c, g1, g2, decide_eq_false hid]
      repeat' (first
 | with_reducible refine zai ?_ ?_
 | (intros; omega)
 | (intros; (try simp only [zaw, zaB, zaz, zax, zat, zau, decide_eq_true_eq, decide_eq_false_iff_not] at *); omega))
      refine le_mk (m + 1) ?_ hlt (by omega)
      simp only [hk]
      (refine imp_ren _ _ _ [(0, 0, ⟨[.gsl (Cs l) 0 l.length k, int n], 2⟩), (1, 1, ⟨Ints K, 1⟩)] (by simp) (by simp) (by simp) (zaF rfl) ?_ rfl (by simp only [zad, zag, false_implies, implies_true, and_true, zbe, lookR, zaa, if_true, if_false, ↓reduceIte] <;> (repeat' apply zai) <;> (first | rfl | trivial)) (by simp only [zad, zag, false_implies, implies_true, and_true, true_and, flat_cons, flat_nil, flat_ints, flat_bools, flat_app, zaA, and_self, eq_self_iff_true, zam]); simp only [zab, zae, zad, zag, false_implies, implies_true, and_true, lk, slot, zaR, zaC, toN, zaa, if_true, if_false, ↓reduceIte, reduceCtorEq])
      all_goals ((repeat' apply zai) <;> (first | rfl | trivial | (simp only [zaD]; done) | (simp only [zaD]; rfl) | (simp only [zaD]; trivial)))
theorem trcopy_spec (l : List Nd) (k : Option Nat) (n : Int) (h1 : 1 ≤ l.length) (hl : l.length ≤ 1000000) : FnSpec Try.prog 47 [trV l k n] [] (.agg [.osl 0 0 l.length none, int n]) [some ⟨Cs l, 6⟩] := by
  have hnl := nd_len l
  have hca : List.take (l.length * 6) (Cs l) = Cs l := Cs_all l _ (zbh _)
  refine fnspec_of mixed TT_ok TT_cl ⟨fun _ => false, fun _ => [], 0, fun _ => false, fun _ => false⟩ Try.func47 rfl (by kernel_rfl) rfl 9 rfl [.cell 2 25] rfl ?_
  simp only [go_sem, zaa, zaj, zak, zal, zan, zah, ↓reduceIte, reduceCtorEq, zac, zaf, zao, zap, zaq]
  repeat' (first
 | with_reducible refine zai ?_ ?_
 | (unfold OKC; kernel_rfl)
 | (unfold EDG; kernel_rfl)
 | (intros; omega)
 | (intros; (try simp only [zaw, zaB, zaz, zax, zat, zau, decide_eq_true_eq, decide_eq_false_iff_not] at *); omega))
  all_goals try (rw [hca, hnl])
  (refine fs_flat [(4, ⟨Cs l, 6⟩)] (by simp) (by simp only [zab, zae]; decide) (by simp only [go_sem, resV, resS, zaR, zaS, zaC, zbr, zbe, idx, renO, zaQ, evS, slot, lookR, zaa, ↓reduceIte, reduceCtorEq, if_true, if_false, zaN, zaO, zab, zae, sLoad, readAt, readNeed, Ints_ren, Ints_length, Ints_getD, and_true, true_and, zaG, zaH]; try decide) ?_ (by simp only [zad, zag, false_implies, implies_true, and_true, zbe, lookR, zaa, if_true, if_false, ↓reduceIte, hca, Cs_flat] <;> (repeat' apply zai) <;> (first | rfl | trivial)) (by simp only [zad, zag, false_implies, implies_true, and_true, true_and, flat_cons, flat_nil, flat_ints, flat_bools, flat_app, zaA, and_self, eq_self_iff_true, zam, hca, Cs_flat]) ?_ <;> (try simp only [go_sem, resV, resS, zaR, zaS, zaC, zbr, zbe, idx, renO, zaQ, evS, slot, lookR, zaa, ↓reduceIte, reduceCtorEq, if_true, if_false, zaN, zaO, zab, zae, sLoad, readAt, readNeed, Ints_ren, Ints_length, Ints_getD, and_true, true_and, zaG, zaH]) <;> (try rfl))
theorem trnew_spec : FnSpec Try.prog 24 [] [] (trV [⟨1, 0, [], 0, 0, 0⟩] none 2) [] := by
  refine fnspec_of mixed TT_ok TT_cl ⟨fun _ => false, fun _ => [], 0, fun _ => false, fun _ => false⟩ Try.func24 rfl (by kernel_rfl) rfl 4 rfl [.cell 0 25] rfl ?_
  simp only [go_sem, zaa, zaj, zak, zal, zan, zah, ↓reduceIte, reduceCtorEq, zac, zaf, zao, zap, zaq]
  repeat' (first
 | with_reducible refine zai ?_ ?_
 | (intros; (try simp only [zaw, zaB, zaz, zax, zat, zau, decide_eq_true_eq, decide_eq_false_iff_not] at *); omega))
  all_goals try (exact zbh _)
  simp only [zaX, zaY, zam, zar, zas, zaU, zaV, zaT, zba, zbc, zaM, zaZ]
  (refine fs_frz 2 ⟨[int 1, int 0, st [], int 0, int 0, int 0], 6⟩ (by simp only [zbe, lookR, zaa, if_true, if_false, ↓reduceIte]) (by first | exact Ints_isG _ | exact Bools_isG _ | exact Cs_isG _ | (simp [zaP]; done)) ?_; simp only [frzTm, SV.frz, SV.frzL, Cell.frz, frzHp, frzO, Ints_frz, Bools_frz, zab, zae, zaa, if_true, if_false, ↓reduceIte])
  repeat' (first
 | (refine fs_w ?h1 (svw_of ?h2); (case h1 => repeat' (first | exact trivial | exact rfl | exact zaF rfl | apply zai)); (case h2 => repeat' (first | ((with_reducible refine (?_ : CW _ _)); first | exact cw_gnil | exact cw_rfl _ | exact cw_niln _ _ | exact cw_cap _ _ _ _) | exact trivial | (show _ ∧ SWL _ _; apply zai) | (show _ ∧ CWL _ _; apply zai) | show CW _ _)))
 | fail)
end Go.Proofs.Ytlajelbiniakpaa
-- NEWGO
-- PRUNE: cl_lendx cl_use
-- ISG: Cs_isG
-- FLAT: Cs_flat
namespace Go.Proofs.Ytlajelbiniakpaa
set_option linter.unusedVariables false
set_option linter.unusedSimpArgs false
open Go.Proofs.Ytlajelbiniakpaa.Sh
set_option maxRecDepth 20000
theorem has_spec (a : List Int) (k : Option Nat) (x : Int) (hl : a.length ≤ 1000000) : FnSpec Try.prog 22 [gi a k, i1 x] [] (b1 (decide (x ∈ a))) [] := by
  refine fnspec_of mixed TT_ok TT_cl ⟨fun _ => false, fun _ => [], 0, fun _ => false, fun _ => false⟩ Try.func22 rfl (by kernel_rfl) rfl 18 rfl [.tmp 4] rfl ?_
  simp only [go_sem, zaa, zaj, zak, zal, zan, zah, ↓reduceIte, reduceCtorEq, zac, zaf, zao, zap, zaq]
  repeat' (first
 | (intros; (try simp only [zaw, zaB, zaz, zax, zat, zau, decide_eq_true_eq, decide_eq_false_iff_not] at *); omega))
  refine w_loop (ι := Nat) (fun i => ⟨[(0, gi a k), (1, i1 x), (5, i1 i)], [], 0⟩) (fun i => i ≤ a.length ∧ (x ∈ a ↔ x ∈ a.drop i)) (fun i => a.length - i) 0 ?_ ⟨zbd _, Iff.rfl⟩ ?_
  · (refine imp_sub _ _ _ [] (by simp) (by simp) (by simp) (zbd _) ?_ rfl (by simp); simp only [zad, zag, false_implies, implies_true, and_true, lk, slot, zaR, zaC, zaa, if_true, if_false, ↓reduceIte, reduceCtorEq])
    all_goals ((repeat' apply zai) <;> (first | rfl | trivial))
  rintro i ⟨hi, he⟩
  simp only at hi he ⊢
  rcases zbf i a.length with hlt | hge
  case inr =>
    have c : ¬ (i : Int) < (a.length : Int) := by omega
    rw [zbk hge] at he
    rw [decide_eq_false (fun h => absurd (he.1 h) zag)]
    simp only [go_sem, zaa, zaj, zak, zal, zan, zah, ↓reduceIte, reduceCtorEq, zac, zaf, zao, zap, zaq, decide_eq_false c]
    repeat' (first
 | exact fs_nil trivial rfl
 | fail)
  have c : (i : Int) < (a.length : Int) := by omega
  rw [drop_getD a i 0 hlt, zbi] at he
  by_cases hx : a.getD i 0 = x
  · rw [decide_eq_true (he.2 (Or.inl hx.symm))]
    simp only [go_sem, zaa, zaj, zak, zal, zan, zah, ↓reduceIte, reduceCtorEq, zac, zaf, zao, zap, zaq, decide_eq_true c, decide_eq_true hx]
    repeat' (first
 | with_reducible refine zai ?_ ?_
 | (intros; omega)
 | exact fs_nil trivial rfl
 | fail)
  · have he2 : x ∈ a ↔ x ∈ a.drop (i + 1) := he.trans ⟨fun h => h.resolve_left (fun e => hx e.symm), Or.inr⟩
    simp only [go_sem, zaa, zaj, zak, zal, zan, zah, ↓reduceIte, reduceCtorEq, zac, zaf, zao, zap, zaq, decide_eq_true c, decide_eq_false hx]
    repeat' (first
 | with_reducible refine zai ?_ ?_
 | (intros; omega)
 | (intros; (try simp only [zaw, zaB, zaz, zax, zat, zau, decide_eq_true_eq, decide_eq_false_iff_not] at *); omega))
    refine le_mk (i + 1) ?_ ⟨hlt, he2⟩ (by omega)
    (refine imp_sub _ _ _ [] (by simp) (by simp) (by simp) (zbd _) ?_ rfl (by simp); simp only [zad, zag, false_implies, implies_true, and_true, lk, slot, zaR, zaC, zaa, if_true, if_false, ↓reduceIte, reduceCtorEq])
    all_goals ((repeat' apply zai) <;> (first | rfl | trivial | (simp only [zaD]; done) | (simp only [zaD]; rfl) | (simp only [zaD]; trivial)))
def subF (l : List Nd) : Nat → Int → List Int
  | 0, _ => []
  | f + 1, id => id :: (kidsL l id).flatMap (subF l f)
theorem kidsL_mem {l : List Nd} {id x : Int} : x ∈ kidsL l id ↔ ∃ j, j < l.length ∧ (gN l j).p = id ∧ (gN l j).i = x := by
  unfold kidsL
  rw [List.mem_map]
  constructor
  · rintro ⟨y, hy, rfl⟩
    rw [List.mem_filter] at hy
    obtain ⟨j, hj, rfl⟩ := gN_mem l y hy.1
    exact ⟨j, hj, of_decide_eq_true hy.2, rfl⟩
  · rintro ⟨j, hj, hp, rfl⟩
    exact ⟨gN l j, List.mem_filter.2 ⟨getD_mem l j zn hj, decide_eq_true hp⟩, rfl⟩
theorem VT.kid {l : List Nd} {n : Int} (h : VT l n) {i j : Nat} (hi : i < l.length) (hj : j < l.length) (hp : (gN l j).p = (gN l i).i) : i < j ∧ j ≠ 0 := by
  have h0 : j ≠ 0 := by
    rintro rfl
    have := h.pos hi
    rw [h.root.2.1] at hp
    omega
  obtain ⟨q, hq, he⟩ := (h.ch hj h0).par
  have := h.asc.inj (i := q) (j := i) (by omega) hi (by rw [he, hp])
  omega
theorem subF_self {l : List Nd} {f : Nat} {id : Int} (h : 0 < f) : id ∈ subF l f id := by
  cases f with
  | zero => omega
  | succ f => exact zaJ
theorem subF_kid {l : List Nd} {n : Int} (h : VT l n) : ∀ (f k j i : Nat), k < l.length → j < l.length → i < l.length → l.length - k ≤ f → (gN l i).p = (gN l j).i → (gN l j).i ∈ subF l f (gN l k).i → (gN l i).i ∈ subF l f (gN l k).i
  | 0, k, _, _, hk, _, _, hf, _, _ => by omega
  | f + 1, k, j, i, hk, hj, hi, hf, hp, hm => by
    rw [subF, zbi] at hm ⊢
    right
    rw [zbs]
    rcases hm with he | hm
    · have := h.asc.inj hj hk he
      subst this
      have hlt := h.kid hj hi hp
      exact ⟨(gN l i).i, kidsL_mem.2 ⟨i, hi, hp, rfl⟩, subF_self (by omega)⟩
    · rw [zbs] at hm
      obtain ⟨c, hc, hcm⟩ := hm
      obtain ⟨q, hq, hqp, rfl⟩ := kidsL_mem.1 hc
      have hlt := h.kid hk hq hqp
      exact ⟨(gN l q).i, hc, subF_kid h f q j i hq hj hi (by omega) hp hcm⟩
theorem subF_up {l : List Nd} {n : Int} (h : VT l n) {k f : Nat} (hk : k < l.length) (hf : l.length - k ≤ f) : ∀ i, i < l.length → (gN l k).i ∈ upL l (gN l i).i → (gN l i).i ∈ subF l f (gN l k).i := fun i => by
  induction i using Nat.strongRecOn with
  | _ i ih =>
    intro hi hm
    by_cases h0 : i = 0
    · subst h0
      have hr := h.root.1
      rw [hr, h.up0, List.mem_singleton] at hm
      have := h.asc.inj hk hi (by rw [hm, hr])
      subst this
      exact subF_self (by omega)
    · rw [h.up hi h0, zbi] at hm
      rcases hm with he | hm
      · have := h.asc.inj hk hi he
        subst this
        exact subF_self (by omega)
      · obtain ⟨j, hj, hp⟩ := (h.ch hi h0).par
        rw [← hp] at hm
        exact subF_kid h f k j i hk (by omega) hi hf hp.symm (ih j hj (by omega) hm)
theorem up_le {l : List Nd} {n : Int} (h : VT l n) : ∀ i, i < l.length → ∀ x ∈ upL l (gN l i).i, ∃ t, t ≤ i ∧ (gN l t).i = x := fun i => by
  induction i using Nat.strongRecOn with
  | _ i ih =>
    intro hi x hx
    by_cases h0 : i = 0
    · subst h0
      have hr := h.root.1
      rw [hr, h.up0, List.mem_singleton] at hx
      exact ⟨0, zbh _, by rw [hr, hx]⟩
    · rw [h.up hi h0, zbi] at hx
      rcases hx with rfl | hx
      · exact ⟨i, zbh _, rfl⟩
      · obtain ⟨j, hj, hp⟩ := (h.ch hi h0).par
        rw [← hp] at hx
        obtain ⟨t, ht, e⟩ := ih j hj (by omega) x hx
        exact ⟨t, by omega, e⟩
theorem up_low {l : List Nd} {n : Int} (h : VT l n) : ∀ i, i < l.length → ∀ c y, c < l.length → y < l.length → (gN l c).i ∈ upL l (gN l i).i → (gN l y).i ∈ upL l (gN l i).i → y < c → (gN l y).i ∈ upL l (gN l c).p := fun i => by
  induction i using Nat.strongRecOn with
  | _ i ih =>
    intro hi c y hc hy hcm hym hyc
    by_cases h0 : i = 0
    · subst h0
      obtain ⟨t, ht, e⟩ := up_le h 0 hi _ hcm
      have := h.asc.inj (i := t) (j := c) (by omega) hc e
      omega
    · rw [h.up hi h0, zbi] at hcm hym
      obtain ⟨j, hj, hp⟩ := (h.ch hi h0).par
      rcases hcm with e | hcm
      · have := h.asc.inj hc hi e
        subst this
        rcases hym with e | hym
        · have := h.asc.inj hy hc e
          omega
        · exact hym
      · rw [← hp] at hcm hym
        obtain ⟨t, ht, e⟩ := up_le h j (by omega) _ hcm
        have := h.asc.inj (i := t) (j := c) (by omega) hc e
        rcases hym with e | hym
        · have := h.asc.inj hy hi e
          omega
        · exact ih j hj (by omega) c y hc hy hcm hym hyc
theorem up_trans {l : List Nd} {n : Int} (h : VT l n) {q k : Nat} (hq : q < l.length) (hk : k < l.length) (hp : (gN l q).p = (gN l k).i) : ∀ i, i < l.length → ∀ {x : Int}, (gN l i).i = x → (gN l q).i ∈ upL l x → (gN l k).i ∈ upL l x := fun i => by
  induction i using Nat.strongRecOn with
  | _ i ih =>
    intro hi x hx hm
    subst hx
    by_cases h0 : i = 0
    · subst h0
      obtain ⟨t, ht, e⟩ := up_le h 0 hi _ hm
      have := h.asc.inj (i := t) (j := q) (by omega) hq e
      have := (h.kid hk hq hp).1
      omega
    · rw [h.up hi h0, zbi] at hm ⊢
      obtain ⟨j, hj, hpj⟩ := (h.ch hi h0).par
      right
      rcases hm with e | hm
      · have := h.asc.inj hq hi e
        subst this
        rw [hp, upL_node h.asc hk]
        exact zaJ
      · rw [← hpj] at hm ⊢
        exact ih j hj (by omega) rfl hm
theorem subF_ge {l : List Nd} {n : Int} (h : VT l n) : ∀ (f k : Nat) (x : Int), k < l.length → x ∈ subF l f (gN l k).i → ∃ i, k ≤ i ∧ i < l.length ∧ (gN l i).i = x ∧ (gN l k).i ∈ upL l x
  | 0, _, _, _, hx => by cases hx
  | f + 1, k, x, hk, hx => by
    rw [subF, zbi] at hx
    rcases hx with rfl | hx
    · exact ⟨k, zbh _, hk, rfl, by rw [upL_node h.asc hk]; exact zaJ⟩
    · rw [zbs] at hx
      obtain ⟨c, hc, hcm⟩ := hx
      obtain ⟨q, hq, hqp, rfl⟩ := kidsL_mem.1 hc
      have hlt := h.kid hk hq hqp
      obtain ⟨i, hi1, hi2, hi3, hi4⟩ := subF_ge h f q x hq hcm
      refine ⟨i, by omega, hi2, hi3, ?_⟩
      exact up_trans h hq hk hqp i hi2 hi3 hi4
theorem nodup_le : ∀ (A B : List Int), A.Nodup → (∀ x ∈ A, x ∈ B) → A.length ≤ B.length
  | [], _, _, _ => zbd _
  | a :: A, B, h, hs => by
    have ha := hs a zaJ
    have h1 := nodup_le A (B.erase a) (List.nodup_cons.1 h).2 (fun x hx => by
      have : x ≠ a := fun e => (List.nodup_cons.1 h).1 (by rw [← e]; exact hx)
      exact (List.mem_erase_of_ne this).2 (hs x (zaI _ hx)))
    rw [List.length_erase_of_mem ha] at h1
    have := List.length_pos_of_mem ha
    rw [zaM]; omega
theorem kidsL_asc {l : List Nd} {n : Int} (h : VT l n) (id : Int) : (kidsL l id).Pairwise (· < ·) := by
  unfold kidsL
  rw [List.pairwise_map]
  exact ((h.vl.asc).filter _).imp fun h => h
theorem subF_nodup {l : List Nd} {n : Int} (h : VT l n) : ∀ (f k : Nat), k < l.length → (subF l f (gN l k).i).Nodup
  | 0, _, _ => List.nodup_nil
  | f + 1, k, hk => by
    rw [subF, List.nodup_cons]
    refine ⟨fun hm => ?_, ?_⟩
    · rw [zbs] at hm
      obtain ⟨c, hc, hcm⟩ := hm
      obtain ⟨q, hq, hqp, rfl⟩ := kidsL_mem.1 hc
      have hlt := h.kid hk hq hqp
      obtain ⟨i, hi1, hi2, hi3, _⟩ := subF_ge h f q _ hq hcm
      have := h.asc.inj hi2 hk hi3
      omega
    · unfold List.Nodup
      rw [List.pairwise_flatMap]
      refine ⟨fun c hc => ?_, ?_⟩
      · obtain ⟨q, hq, hqp, rfl⟩ := kidsL_mem.1 hc
        exact subF_nodup h f q hq
      · refine (kidsL_asc h (gN l k).i).imp_of_mem fun {a b} ha hb hab x hx y hy hxy => ?_
        subst hxy
        obtain ⟨q, hq, hqp, rfl⟩ := kidsL_mem.1 ha
        obtain ⟨r, hr, hrp, rfl⟩ := kidsL_mem.1 hb
        obtain ⟨i, hi1, hi2, hi3, hi4⟩ := subF_ge h f q _ hq hx
        obtain ⟨j, hj1, hj2, hj3, hj4⟩ := subF_ge h f r _ hr hy
        have hqr : q < r := by
          rcases zbf q r with c | c
          · exact c
          · rcases zbf r q with d | d
            · have := h.asc r q d hq; omega
            · have : q = r := by omega
              subst this; omega
        rw [← hi3] at hi4 hj4
        have h3 := up_low h i hi2 r q hr hq hj4 hi4 hqr
        rw [hrp] at h3
        obtain ⟨t, ht, hte⟩ := up_le h k hk _ h3
        have := h.asc.inj (i := q) (j := t) hq (by omega) hte.symm
        have := (h.kid hk hq hqp).1
        omega
theorem subF_len {l : List Nd} {n : Int} (h : VT l n) (f k : Nat) (hk : k < l.length) : (subF l f (gN l k).i).length ≤ l.length := by
  have := nodup_le _ (l.map (·.i)) (subF_nodup h f k hk) (fun x hx => by
    obtain ⟨i, _, hi, e, _⟩ := subF_ge h f k x hk hx
    exact List.mem_map.2 ⟨gN l i, getD_mem l i zn hi, e⟩)
  rwa [List.length_map] at this
end Go.Proofs.Ytlajelbiniakpaa
-- NEWGO
-- PRUNE: cl_lendx cl_use
-- ISG: Cs_isG
-- FLAT: Cs_flat
namespace Go.Proofs.Ytlajelbiniakpaa
set_option linter.unusedVariables false
set_option linter.unusedSimpArgs false
open Go.Proofs.Ytlajelbiniakpaa.Sh
set_option maxRecDepth 20000
abbrev KL := List (Int × List Int)
def mcN : List Nat → KL → List Cell
  | n :: ns, x :: r => int x.1 :: .osl n 0 x.2.length none :: mcN ns r
  | _, _ => []
def mrN : List Nat → KL → List (Nat × Option Row)
  | n :: ns, x :: r => (n, some ⟨Ints x.2, 1⟩) :: mrN ns r
  | _, _ => []
def gcN : KL → List Cell
  | [] => []
  | x :: r => int x.1 :: .gsl (Ints x.2) 0 x.2.length none :: gcN r
theorem mcN_app : ∀ {ns : List Nat} {ks : KL}, ns.length = ks.length → ∀ (ns' : List Nat) (ks' : KL), mcN (ns ++ ns') (ks ++ ks') = mcN ns ks ++ mcN ns' ks'
  | [], [], _, _, _ => rfl
  | n :: ns, x :: r, h, ns', ks' => by
    show int x.1 :: .osl n 0 x.2.length none :: mcN (ns ++ ns') (r ++ ks') = _
    rw [mcN_app (by simpa using h) ns' ks']; rfl
theorem mrN_app : ∀ {ns : List Nat} {ks : KL}, ns.length = ks.length → ∀ (ns' : List Nat) (ks' : KL), mrN (ns ++ ns') (ks ++ ks') = mrN ns ks ++ mrN ns' ks'
  | [], [], _, _, _ => rfl
  | n :: ns, x :: r, h, ns', ks' => by
    show (n, _) :: mrN (ns ++ ns') (r ++ ks') = _
    rw [mrN_app (by simpa using h) ns' ks']; rfl
theorem keyEq_i (a b : Int) : keyEq (.int .i64 a) (.int .i64 b) = (a == b) := rfl
theorem mkeys_mcN : ∀ (ns : List Nat) (ks : KL), mkeys (.int .i64) (mcN ns ks) = true
  | [], ks => by cases ks <;> rfl
  | _ :: _, [] => rfl
  | n :: ns, x :: r => by
    show (keyB (.int .i64) (.int .i64 x.1) && mkeys (.int .i64) (mcN ns r)) = true
    rw [mkeys_mcN ns r]; rfl
theorem mget_none {p : Int} : ∀ (ns : List Nat) (ks : KL), (∀ x ∈ ks, x.1 ≠ p) → mget (.int .i64 p) (mcN ns ks) = none
  | [], ks, _ => by cases ks <;> rfl
  | _ :: _, [], _ => rfl
  | n :: ns, x :: r, h => by
    show (if keyEq (.int .i64 p) (.int .i64 x.1) = true then _ else mget (.int .i64 p) (mcN ns r)) = none
    rw [keyEq_i, if_neg (by simpa using fun e => h x zaJ e.symm)]
    exact mget_none ns r (fun y hy => h y (zaI _ hy))
theorem mget_at {p : Int} (c : Cell) (D : List Cell) : ∀ (ns : List Nat) (ks : KL), (∀ x ∈ ks, x.1 ≠ p) → mget (.int .i64 p) (mcN ns ks ++ int p :: c :: D) = some c
  | [], ks, _ => by
    have : mcN [] ks = [] := by cases ks <;> rfl
    rw [this]
    show (if keyEq (.int .i64 p) (.int .i64 p) = true then _ else _) = _
    rw [keyEq_i, if_pos (by simp)]
  | _ :: _, [], _ => by
    show (if keyEq (.int .i64 p) (.int .i64 p) = true then _ else _) = _
    rw [keyEq_i, if_pos (by simp)]
  | n :: ns, x :: r, h => by
    show (if keyEq (.int .i64 p) (.int .i64 x.1) = true then _ else mget (.int .i64 p) (mcN ns r ++ int p :: c :: D)) = some c
    rw [keyEq_i, if_neg (by simpa using fun e => h x zaJ e.symm)]
    exact mget_at c D ns r (fun y hy => h y (zaI _ hy))
theorem mset_new {p : Int} (c : Cell) : ∀ (ns : List Nat) (ks : KL), ns.length = ks.length → (∀ x ∈ ks, x.1 ≠ p) → mset (.int .i64 p) c (mcN ns ks) = mcN ns ks ++ [int p, c]
  | [], [], _, _ => rfl
  | n :: ns, x :: r, hl, h => by
    show (if keyEq (.int .i64 p) (.int .i64 x.1) = true then _ else int x.1 :: .osl n 0 x.2.length none :: mset (.int .i64 p) c (mcN ns r)) = _
    rw [keyEq_i, if_neg (by simpa using fun e => h x zaJ e.symm), mset_new c ns r (by simpa using hl) (fun y hy => h y (zaI _ hy))]
    rfl
theorem mset_at {p : Int} (c d : Cell) (D : List Cell) : ∀ (ns : List Nat) (ks : KL), ns.length = ks.length → (∀ x ∈ ks, x.1 ≠ p) → mset (.int .i64 p) c (mcN ns ks ++ int p :: d :: D) = mcN ns ks ++ int p :: c :: D
  | [], [], _, _ => by
    show (if keyEq (.int .i64 p) (.int .i64 p) = true then _ else _) = _
    rw [keyEq_i, if_pos (by simp)]; rfl
  | n :: ns, x :: r, hl, h => by
    show (if keyEq (.int .i64 p) (.int .i64 x.1) = true then _ else int x.1 :: .osl n 0 x.2.length none :: mset (.int .i64 p) c (mcN ns r ++ int p :: d :: D)) = _
    rw [keyEq_i, if_neg (by simpa using fun e => h x zaJ e.symm), mset_at c d D ns r (by simpa using hl) (fun y hy => h y (zaI _ hy))]
    rfl
theorem lookR_mrN_out {r : Nat} : ∀ {ns : List Nat} {ks : KL}, ¬ r ∈ ns → lookR r (mrN ns ks) = none
  | [], ks, _ => by cases ks <;> rfl
  | _ :: _, [], _ => rfl
  | n :: ns, x :: ks, h => by
    show (if n = r then _ else lookR r (mrN ns ks)) = none
    rw [if_neg (fun e => h (by rw [e]; exact zaJ))]
    exact lookR_mrN_out (fun hm => h (zaI _ hm))
theorem lookR_app {r : Nat} : ∀ (A B : List (Nat × Option Row)), (∀ p ∈ A, p.1 ≠ r) → lookR r (A ++ B) = lookR r B
  | [], B, _ => rfl
  | (j, x) :: A, B, h => by
    show (if j = r then x else lookR r (A ++ B)) = _
    rw [if_neg (h _ zaJ)]
    exact lookR_app A B (fun p hp => h p (zaI _ hp))
theorem mrN_fst : ∀ {ns : List Nat} {ks : KL}, ∀ p ∈ mrN ns ks, p.1 ∈ ns
  | [], ks, p, hp => by cases ks <;> cases hp
  | _ :: _, [], p, hp => by cases hp
  | n :: ns, x :: ks, p, hp => by
    rcases List.mem_cons.1 hp with rfl | hp
    · exact zaJ
    · exact zaI _ (mrN_fst p hp)
theorem mrN_at {r : Nat} {L : List Int} {p : Int} {B : KL} {nb : List Nat} : ∀ {ns : List Nat} {ks : KL}, ns.length = ks.length → ¬ r ∈ ns → lookR r (mrN (ns ++ r :: nb) (ks ++ (p, L) :: B)) = some ⟨Ints L, 1⟩ := fun {ns ks} hl h => by
  rw [mrN_app hl, lookR_app (mrN ns ks) _ (fun q hq e => h (by rw [← e]; exact mrN_fst q hq))]
  show (if r = r then _ else _) = _
  rw [if_pos rfl]
def RowsAt (f : Nat → Option Row) : List Nat → KL → Prop
  | n :: ns, x :: r => f n = some ⟨Ints x.2, 1⟩ ∧ RowsAt f ns r
  | [], [] => True
  | _, _ => False
theorem RowsAt.app {f : Nat → Option Row} {ms : List Nat} {B : KL} (h2 : RowsAt f ms B) : ∀ {ns : List Nat} {A : KL}, RowsAt f ns A → RowsAt f (ns ++ ms) (A ++ B)
  | [], [], _ => h2
  | _ :: _, _ :: _, h => ⟨h.1, RowsAt.app h2 h.2⟩
theorem RowsAt.mono {f g : Nat → Option Row} : ∀ {ns : List Nat} {A : KL}, (∀ n ∈ ns, g n = f n) → RowsAt f ns A → RowsAt g ns A
  | [], [], _, _ => trivial
  | n :: ns, _ :: _, h, hr => ⟨by rw [h n zaJ]; exact hr.1, RowsAt.mono (fun m hm => h m (zaI _ hm)) hr.2⟩
theorem RowsAt.of {ns : List Nat} {ks : KL} (hl : ns.length = ks.length) (hn : ns.Nodup) : RowsAt (fun r => lookR r (mrN ns ks)) ns ks := by
  induction ns generalizing ks with
  | nil => cases ks with
    | nil => trivial
    | cons x r => cases hl
  | cons n ns ih => cases ks with
    | nil => cases hl
    | cons x r =>
      rw [List.nodup_cons] at hn
      refine ⟨if_pos rfl, RowsAt.mono (fun m hm => ?_) (ih (ks := r) (by simpa using hl) hn.2)⟩
      show (if n = m then _ else lookR m (mrN ns r)) = _
      rw [if_neg (fun e => hn.1 (by rw [e]; exact hm))]
theorem imp_hp (k : Nat) (tm : List (Nat × SV)) (h1 h2 : List (Nat × Option Row)) (nx : Nat) (h : ∀ r, lookR r h1 = lookR r h2) : Imp k ⟨tm, h1, nx⟩ ⟨tm, h2, nx⟩ := by
  intro P w0 A N a w m π hk hr
  refine ⟨m, π, ?_⟩
  have e : zbe ⟨tm, h2, nx⟩ = zbe ⟨tm, h1, nx⟩ := by funext r; exact (h r).symm
  rw [e]
  exact hr
theorem imp_kl {k : Nat} {s : St} (hk : k = 0) (tm : List (Nat × SV)) (ms ns : List Nat) (ks : KL) (N : Nat) (hl : ns.length = ks.length) (hl2 : ms.length = ks.length) (hn : (0 :: ns).Nodup) (hm : (0 :: ms).Nodup) (hlt : ∀ m ∈ ms, m < N)
    (h0 : s.hpF 0 = some ⟨mcN ns ks, 0⟩) (hr : RowsAt s.hpF ns ks) (ht : ∀ x ∈ tm, lk s ((0, 0) :: ms.zip ns) x.1 = some x.2) (hN : 0 < N) : Imp k s ⟨tm, (0, some ⟨mcN ms ks, 0⟩) :: mrN ms ks, N⟩ := by
  subst hk
  have hz1 : (ms.zip ns).map (·.1) = ms := List.map_fst_zip (by omega)
  have hz2 : (ms.zip ns).map (·.2) = ns := List.map_snd_zip (by omega)
  have htn : ∀ p ∈ ms.zip ns, toN ((0, 0) :: ms.zip ns) p.2 = some p.1 := fun p hp => toN_of (by rw [zab, hz2]; exact hn) (zaI _ hp)
  refine imp_sub 0 s _ ((0, 0) :: ms.zip ns) (by rw [zab, hz1]; exact hm) (by rw [zab, hz2]; exact hn) ?_ (zbd _) ht ?_ ?_
  · intro p hp
    refine ⟨?_, fun h => absurd h (Nat.not_lt_zero _)⟩
    rcases List.mem_cons.1 hp with rfl | hp
    · exact hN
    · exact hlt _ (by rw [← hz1]; exact List.mem_map_of_mem hp)
  · have hc : ∀ (ms' ns' : List Nat) (ks' : KL), ms'.length = ks'.length → ns'.length = ks'.length → (∀ p ∈ ms'.zip ns', toN ((0, 0) :: ms.zip ns) p.2 = some p.1) → (mcN ns' ks').map (zaC (toN ((0, 0) :: ms.zip ns))) = mcN ms' ks' := by
      intro ms' ns' ks'
      induction ks' generalizing ms' ns' with
      | nil =>
        intro a b _
        rw [List.length_eq_zero_iff.1 a, List.length_eq_zero_iff.1 b]; rfl
      | cons x r ih =>
        intro a b c
        cases ms' with
        | nil => cases a
        | cons m ms' => cases ns' with
          | nil => cases b
          | cons n ns' =>
            show (int x.1).ren _ :: (Cell.osl n 0 x.2.length none).ren _ :: (mcN ns' r).map _ = _
            rw [ih ms' ns' (by simpa using a) (by simpa using b) (fun p hp => c p (zaI _ hp))]
            have := c (m, n) zaJ
            simp only at this
            simp only [zaC, this]
            rfl
    have hrr : ∀ (ms' ns' : List Nat) (ks' : KL), ms'.length = ks'.length → RowsAt s.hpF ns' ks' → mrN ms' ks' = (ms'.zip ns').map fun p => (p.1, renO (toN ((0, 0) :: ms.zip ns)) (s.hpF p.2)) := by
      intro ms' ns' ks'
      induction ks' generalizing ms' ns' with
      | nil =>
        intro a _
        rw [List.length_eq_zero_iff.1 a]; rfl
      | cons x r ih =>
        intro a b
        cases ms' with
        | nil => cases a
        | cons m ms' => cases ns' with
          | nil => exact b.elim
          | cons n ns' =>
            show (m, some ⟨Ints x.2, 1⟩) :: mrN ms' r = (m, renO _ (s.hpF n)) :: _
            rw [ih ms' ns' (by simpa using a) b.2, b.1]
            simp only [renO, zaQ, Ints_ren]
            rfl
    show (0, some ⟨mcN ms ks, 0⟩) :: mrN ms ks = (0, renO _ (s.hpF 0)) :: _
    rw [hrr ms ns ks hl2 hr, h0]
    simp only [renO, zaQ, hc ms ns ks hl2 hl htn]
  · intro p hp row hrow c hc q hq
    have hin : ∀ n, n ∈ 0 :: ns → (toN ((0, 0) :: ms.zip ns) n).isSome = true := by
      intro n hn'
      rcases List.mem_cons.1 hn' with rfl | hn'
      · rfl
      · rw [← hz2] at hn'
        obtain ⟨p, hp, rfl⟩ := List.mem_map.1 hn'
        rw [htn p hp]; rfl
    have hcells : ∀ (ns' : List Nat) (ks' : KL), (∀ n ∈ ns', n ∈ ns) → ∀ c ∈ mcN ns' ks', ∀ q ∈ c.refs, q ∈ ns := by
      intro ns' ks'
      induction ks' generalizing ns' with
      | nil => intro _ c hc; cases ns' <;> cases hc
      | cons x r ih =>
        cases ns' with
        | nil => intro _ c hc; cases hc
        | cons n ns' =>
          intro h c hc q hq
          rcases List.mem_cons.1 hc with rfl | hc
          · cases hq
          rcases List.mem_cons.1 hc with rfl | hc
          · rw [List.mem_singleton.1 hq]; exact h n zaJ
          · exact ih ns' (fun m hm => h m (zaI _ hm)) c hc q hq
    have hrows : ∀ (ns' : List Nat) (ks' : KL), RowsAt s.hpF ns' ks' → ∀ n ∈ ns', ∃ L, s.hpF n = some ⟨Ints L, 1⟩ := by
      intro ns' ks'
      induction ks' generalizing ns' with
      | nil => intro h n hn; cases ns' with
        | nil => cases hn
        | cons _ _ => exact h.elim
      | cons x r ih =>
        cases ns' with
        | nil => intro h; exact h.elim
        | cons m ns' =>
          intro h n hn
          rcases List.mem_cons.1 hn with rfl | hn
          · exact ⟨_, h.1⟩
          · exact ih ns' h.2 n hn
    rcases List.mem_cons.1 hp with rfl | hp
    · rw [h0] at hrow
      cases hrow
      exact hin q (zaI _ (hcells ns ks (fun _ h => h) c hc q hq))
    · obtain ⟨L, hL⟩ := hrows ns ks hr p.2 (by rw [← hz2]; exact List.mem_map_of_mem hp)
      rw [hL] at hrow
      cases hrow
      exact absurd hq (by intro hq; exact Ints_refs _ c hc (fun _ => False) q hq)
theorem gcN_g : ∀ (ks : KL), ∀ c ∈ gcN ks, c.isG = true
  | [], c, h => by cases h
  | x :: r, c, h => by
    rcases List.mem_cons.1 h with rfl | h
    · rfl
    rcases List.mem_cons.1 h with rfl | h
    · rfl
    exact gcN_g r c h
theorem gcN_app (a b : KL) : gcN (a ++ b) = gcN a ++ gcN b := by
  induction a with
  | nil => rfl
  | cons x r ih => show _ :: _ :: gcN (r ++ b) = _; rw [ih]; rfl
theorem mcN_frz {r : Nat} {cs : List Cell} : ∀ (ns : List Nat) (ks : KL), ¬ r ∈ ns → (mcN ns ks).map (Cell.frz r cs) = mcN ns ks
  | [], ks, _ => by cases ks <;> rfl
  | _ :: _, [], _ => rfl
  | n :: ns, x :: ks, h => by
    show (int x.1).frz r cs :: (Cell.osl n 0 x.2.length none).frz r cs :: (mcN ns ks).map _ = _
    rw [mcN_frz ns ks (fun hm => h (zaI _ hm))]
    simp only [Cell.frz]
    rw [if_neg (fun e => h (by rw [← e]; exact zaJ))]
    rfl
theorem mrN_frz {r : Nat} {cs : List Cell} : ∀ (ns : List Nat) (ks : KL), frzHp r cs (mrN ns ks) = mrN ns ks
  | [], ks => by cases ks <;> rfl
  | _ :: _, [] => rfl
  | n :: ns, x :: ks => by
    show (n, some (⟨(Ints x.2).map (Cell.frz r cs), 1⟩ : Row)) :: frzHp r cs (mrN ns ks) = _
    rw [mrN_frz ns ks, Ints_frz]
    rfl
theorem imp_gc (k : Nat) (tm : List (Nat × SV)) (N : Nat) (ht : ∀ r cs, r ≠ 0 → frzTm r cs tm = tm) : ∀ (ns : List Nat) (ks pre : KL), ns.length = ks.length → (0 :: ns).Nodup → Imp k ⟨tm, (0, some ⟨gcN pre ++ mcN ns ks, 0⟩) :: mrN ns ks, N⟩ ⟨tm, [(0, some ⟨gcN (pre ++ ks), 0⟩)], N⟩
  | [], [], pre, _, _ => by
    rw [zam]
    show Imp k ⟨tm, [(0, some ⟨gcN pre ++ [], 0⟩)], N⟩ _
    rw [zam]
    exact Imp.refl _ _
  | n :: ns, x :: ks, pre, hl, hn => by
    have hn' := hn
    rw [List.nodup_cons, List.nodup_cons] at hn
    have hn0 : n ≠ 0 := fun e => hn.1 (by rw [e]; exact zaJ)
    refine Imp.trans (imp_frz k _ n ⟨Ints x.2, 1⟩ ?_ (Ints_isG _)) ?_
    · show (if 0 = n then _ else if n = n then _ else _) = _
      rw [if_neg (fun e => hn0 e.symm), if_pos rfl]
    have h1 : (gcN pre ++ mcN (n :: ns) (x :: ks)).map (Cell.frz n (Ints x.2)) = gcN (pre ++ [x]) ++ mcN ns ks := by
      rw [List.map_append, map_id_of (fun c hc => isG_frz (gcN_g pre c hc) _ _), gcN_app, List.append_assoc]
      congr 1
      show (int x.1).frz _ _ :: (Cell.osl n 0 x.2.length none).frz _ _ :: (mcN ns ks).map _ = _
      rw [mcN_frz ns ks hn.2.1]
      simp only [Cell.frz, if_true]
      rfl
    have h2 : frzTm n (Ints x.2) tm = tm := ht _ _ hn0
    refine Imp.trans (imp_hp k _ _ ((0, some ⟨gcN (pre ++ [x]) ++ mcN ns ks, 0⟩) :: mrN ns ks) _ ?_) ?_
    · intro r
      show (if n = r then none else if 0 = r then some (⟨_, 0⟩ : Row) else if n = r then _ else lookR r (frzHp n _ (mrN ns ks))) = if 0 = r then _ else lookR r (mrN ns ks)
      rw [mrN_frz, h1]
      by_cases e : n = r
      · subst e
        rw [if_pos rfl, if_neg (fun e => hn0 e.symm), lookR_mrN_out hn.2.1]
      · rw [if_neg e]
        simp only [if_neg e]
    show Imp k ⟨frzTm n (Ints x.2) tm, _, N⟩ _
    rw [h2]
    have := imp_gc k tm N ht ns ks (pre ++ [x]) (by simpa using hl) (List.nodup_cons.2 ⟨fun h => hn.1 (zaI _ h), hn.2.2⟩)
    rw [List.append_assoc] at this
    exact this
end Go.Proofs.Ytlajelbiniakpaa
