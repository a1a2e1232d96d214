/- Contracts of functions, told of values, on the way to MemberReads (part 4). -/
import Derived.Test.YtnahpejlhfeleabGreatMemberReadsM3
namespace Go.Proofs.YtnahpejlhfeleabGreat
theorem yda {p : Prop} (h : p := by first | (intros; (try simp only [zat, zax, zau, zas, zaq, zar, decide_eq_true_eq, decide_eq_false_iff_not] at *); omega) | fail) : p := h
theorem ydb {p : Prop} (h : p := by first | (simp only [zan, zao, prepV, prepC, idx, hpL', lookR, zaa, if_true, if_false]; rfl) | fail) : p := h
theorem ydc {p : Prop} (h : p := by first | (refine fs_w ?h1 (svw_of ?h2); (case h1 => repeat' (first | exact trivial | exact rfl | exact zav rfl | apply zap)); (case h2 => repeat' (first | ((with_reducible refine (?_ : CW _ _)); first | exact cw_gnil | exact cw_rfl _ | exact cw_niln _ _ | exact cw_cap _ _ _ _) | exact trivial | (show _ ∧ SWL _ _; apply zap) | (show _ ∧ CWL _ _; apply zap) | show CW _ _))) | fail) : p := h
theorem ydd {p : Prop} (h : p := by first | (intros; omega) | fail) : p := h
theorem yde {p : Prop} (h : p := by first | (first | exact h1 ..) | fail) : p := h
theorem ydf {p : Prop} (h : p := by first | (first | exact h2 .. | exact h3 .. | exact h4 ..) | fail) : p := h
theorem ydg {p : Prop} (h : p := by first | (first | exact h1 .. | exact h2 ..) | fail) : p := h
theorem ydh {p : Prop} (h : p := by first | (simp only [zan, zao, hpL', lookR, zaa, if_true, if_false]; first | exact map1 _ | exact map2 _ _ | exact map3 _ _ _) | fail) : p := h
theorem ydi {p : Prop} (h : p := by first | (first | exact h1 .. | exact h2 .. | exact h3 ..) | fail) : p := h
end Go.Proofs.YtnahpejlhfeleabGreat
-- short names of the library's lemmas
open Nat renaming reduceEqDiff → zaa, reduceLeDiff → zad, reduceAdd → zaf, reduceSub → zag, reduceMul → zah, reduceLT → zai, le_of_ble_eq_true → zav, le_refl → zaX, zero_le → zaZ, zero_mul → zbb, sub_zero → zbc, lt_or_ge → zbd, le_of_lt → zbl
open List renaming reduceReplicate → zab, forall_mem_cons → zae, not_mem_nil → zam, map_cons → zan, map_nil → zao, append_nil → zaw, getD_cons_zero → zaA, getD_cons_succ → zaB, length_cons → zaE, take_succ_cons → zaI, set_cons_zero → zaJ, set_cons_succ → zaK, flatten_cons → zaL, cons_append → zaN, length_nil → zaO, flatten_nil → zaP, nil_append → zaQ, take_zero → zaT, length_take → zaU, take_nil → zaV, take_of_length_le → zba, pairwise_singleton → zbf, filter_cons_of_pos → zbg, filter_cons_of_neg → zbj, drop_of_length_le → zbk, take → zbm
open Int renaming cast_ofNat_Int → zac, reduceEq → zaj, reduceLT → zak, reduceLE → zal, natCast_add → zaz, toNat_zero → zaY
open Option renaming getD_some → zaG, getD_none → zaH
open Bool renaming and_eq_false_iff → zaq, or_eq_false_iff → zar, not_eq_false' → zas, and_eq_true → zat, not_eq_true' → zau, or_eq_true → zax, false_and → zaR, true_and → zaW, false_eq_true → zbe, and_false → zbh
open And renaming intro → zap
open Go.Proofs.YtnahpejlhfeleabGreat.Sh.Cell renaming ren → zay, refs → zaM
open Go.Proofs.YtnahpejlhfeleabGreat.Sh.SV renaming ren → zaC, renL → zaF
open Go.Proofs.YtnahpejlhfeleabGreat.Sh.Row renaming ren → zaD
open Go.Proofs.YtnahpejlhfeleabGreat.Sh.St renaming hpF → zaS, tmF → zbi
set_option linter.unusedSimpArgs false
set_option linter.unusedVariables false
namespace Go.Proofs.YtnahpejlhfeleabGreat
open Go.Proofs.YtnahpejlhfeleabGreat.Sh
set_option maxRecDepth 20000
abbrev r1 (n : Int) : SV := .one (.sc (.int .i32 n))
def ixQ (q : UInt8 → Bool) : Str → Nat → Int
  | [], _ => -1
  | b :: r, i => if q b = true then (i : Int) else ixQ q r (i + 1)
theorem ixQ_any (q : UInt8 → Bool) : ∀ s i, decide (0 ≤ ixQ q s i) = s.any q
  | [], i => rfl
  | b :: r, i => by
    unfold ixQ
    by_cases h : q b = true
    · rw [if_pos h, List.any_cons, h, decide_eq_true (by omega)]; rfl
    · rw [if_neg h, List.any_cons, Bool.eq_false_iff.2 h, ixQ_any q r (i + 1)]; rfl
theorem drop_at (s : Str) (i : Nat) (b : UInt8) (h : s[i]? = some b) : s.drop i = b :: s.drop (i + 1) := by
 obtain ⟨hl, e⟩ := List.getElem?_eq_some_iff.1 h
 rw [List.drop_eq_getElem_cons hl, e]
set_option maxHeartbeats 4000000 in
theorem indexF_spec (g : FuncId) (p : Int → Bool) (q : UInt8 → Bool) (hg : ∀ r : Int, 0 ≤ r ∧ r ≤ 2147483647 → FnSpec Tryz.prog g [r1 r] [] (b1 (p r)) []) (hlo : ∀ b : UInt8, b.toNat < 128 → p (b.toNat : Int) = q b) (hhi : ∀ r : Int, 128 ≤ r → p r = true) (hq : ∀ b : UInt8, 128 ≤ b.toNat → q b = true) (s : Str) (hs : s.length ≤ 9223372036854775807) : FnSpec Tryz.prog 129 [s1 s, .one (.fn g []), b1 true] [] (i1 (ixQ q s 0)) [] := by
 refine fnspec_of mixed TT_ok TT_cl ⟨fun _ => false, fun _ => [], 0, fun _ => false, fun _ => false⟩ Tryz.func129 rfl (by kernel_rfl) rfl 21 rfl [.tmp 6] rfl ?_
 simp only [go_sem, zaa, zaf, zag, zah, zai, zad, ↓reduceIte, reduceCtorEq, zab, zac, zaj, zak, zal]
 repeat' (first
 | exact yda | fail)
 refine w_loop (ι := Nat) (fun i => ⟨[(1, .one (.fn g [])), (2, b1 true), (10, .one (.mp 0 true))], [(0, some ⟨[st s, int i, bool true], 0⟩)], 1⟩) (fun i => i ≤ s.length ∧ ixQ q s 0 = ixQ q (s.drop i) i) (fun i => s.length - i) 0 ?_ ⟨zaZ _, rfl⟩ ?_
 · (refine imp_ren _ _ _ [(0, 2, ⟨[st s, int 0, Sh.bool true], 0⟩)] (by simp) (by simp) (by simp) (zav rfl) ?_ rfl (by simp only [zae, zam, false_implies, implies_true, and_true, zaS, lookR, zaa, if_true, if_false, ↓reduceIte] <;> (repeat' apply zap) <;> (first | rfl | trivial)) (by simp only [zae, zam, false_implies, implies_true, and_true, true_and, flat_cons, flat_nil, flat_ints, flat_bools, flat_app, zaM, and_self, eq_self_iff_true, zaw]); simp only [zan, zao, zae, zam, false_implies, implies_true, and_true, lk, slot, zaC, zay, toN, zaa, if_true, if_false, ↓reduceIte, reduceCtorEq])
   all_goals ((repeat' apply zap) <;> (first | rfl | trivial))
 rintro i ⟨hi, he⟩
 simp only at hi he ⊢
 rcases zbd i s.length with hlt | hge
 case inr =>
   have hlt' : ¬ (i : Int) < (s.length : Int) := by omega
   rw [zbk hge] at he
   rw [he]
   simp only [go_sem, zaa, zaf, zag, zah, zai, zad, ↓reduceIte, reduceCtorEq, zab, zac, zaj, zak, zal, decide_eq_false hlt', ixQ]
   repeat' (first
 | with_reducible refine zap ?_ ?_
 | exact ydd
 | exact fs_nil trivial rfl
 | fail)
 have hlt' : (i : Int) < (s.length : Int) := by omega
 obtain ⟨b, hb⟩ : ∃ b, s[i]? = some b := ⟨_, List.getElem?_eq_getElem hlt⟩
 rw [drop_at s i b hb, ixQ] at he
 by_cases h128 : b.toNat < 128
 · have hd := bs_dec s i b hb h128
   have hc := hg b.toNat (by omega)
   rw [hlo b h128] at hc
   cases hqb : q b with
   | true =>
     rw [hqb] at hc he
     simp only [if_true] at he
     rw [he]
     simp only [go_sem, zaa, zaf, zag, zah, zai, zad, ↓reduceIte, reduceCtorEq, zab, zac, zaj, zak, zal, decide_eq_true hlt', hd]
     repeat' (first
 | with_reducible refine zap ?_ ?_
 | (apply cl_plain
    case hs => rfl
    case ha => exact ydb
    case h => (first | exact hc ..))
 | ((first | refine s1_id ?_ | refine swp_id ?_ | refine sops_id ?_ | refine s2_id ?_); simp only [decide_eq_true hlt', hd, go_sem, zaa, zaf, zag, zah, zai, zad, ↓reduceIte, reduceCtorEq, zab, zac, zaj, zak, zal, zaC, zaF, zay, zaD, renO, bk, back, outUpsFrom, Ints_ren])
 | exact ydd
 | exact fs_nil trivial rfl
 | fail)
   | false =>
     rw [hqb] at hc he
     simp only [zbe, if_false] at he
     simp only [go_sem, zaa, zaf, zag, zah, zai, zad, ↓reduceIte, reduceCtorEq, zab, zac, zaj, zak, zal, decide_eq_true hlt', hd]
     repeat' (first
 | with_reducible refine zap ?_ ?_
 | (apply cl_plain
    case hs => rfl
    case ha => exact ydb
    case h => (first | exact hc ..))
 | ((first | refine s1_id ?_ | refine swp_id ?_ | refine sops_id ?_ | refine s2_id ?_); simp only [decide_eq_true hlt', hd, go_sem, zaa, zaf, zag, zah, zai, zad, ↓reduceIte, reduceCtorEq, zab, zac, zaj, zak, zal, zaC, zaF, zay, zaD, renO, bk, back, outUpsFrom, Ints_ren])
 | exact ydd
 | exact yda | fail)
     refine le_mk (i + 1) ?_ ⟨by omega, he⟩ (by omega)
     (refine imp_ren _ _ _ [(0, 0, ⟨[st s, int ((i + 1 : Nat) : Int), Sh.bool true], 0⟩)] (by simp) (by simp) (by simp) (zav rfl) ?_ rfl (by simp only [zae, zam, false_implies, implies_true, and_true, zaS, lookR, zaa, if_true, if_false, ↓reduceIte, zaz] <;> (repeat' apply zap) <;> (first | rfl | trivial)) (by simp only [zae, zam, false_implies, implies_true, and_true, true_and, flat_cons, flat_nil, flat_ints, flat_bools, flat_app, zaM, and_self, eq_self_iff_true, zaw, zaz]); simp only [zan, zao, zae, zam, false_implies, implies_true, and_true, lk, slot, zaC, zay, toN, zaa, if_true, if_false, ↓reduceIte, reduceCtorEq])
     all_goals ((repeat' apply zap) <;> (first | rfl | trivial | (simp only [zaz]; done) | (simp only [zaz]; rfl) | (simp only [zaz]; trivial)))
 · have hd := bs_high s i b hb (by omega)
   have hle := bs_le s i
   have hc := hg (Utf8.decode (bs s) i).1 (by omega)
   rw [hhi _ (by omega)] at hc
   rw [hq b (by omega), if_pos rfl] at he
   rw [he]
   simp only [go_sem, zaa, zaf, zag, zah, zai, zad, ↓reduceIte, reduceCtorEq, zab, zac, zaj, zak, zal, decide_eq_true hlt']
   repeat' (first
 | with_reducible refine zap ?_ ?_
 | (apply cl_plain
    case hs => rfl
    case ha => exact ydb
    case h => (first | exact hc ..))
 | ((first | refine s1_id ?_ | refine swp_id ?_ | refine sops_id ?_ | refine s2_id ?_); simp only [decide_eq_true hlt', go_sem, zaa, zaf, zag, zah, zai, zad, ↓reduceIte, reduceCtorEq, zab, zac, zaj, zak, zal, zaC, zaF, zay, zaD, renO, bk, back, outUpsFrom, Ints_ren])
 | exact ydd
 | exact fs_nil trivial rfl
 | fail)
theorem indexFn_spec (g : FuncId) (p : Int → Bool) (q : UInt8 → Bool) (hg : ∀ r : Int, 0 ≤ r ∧ r ≤ 2147483647 → FnSpec Tryz.prog g [r1 r] [] (b1 (p r)) []) (hlo : ∀ b : UInt8, b.toNat < 128 → p (b.toNat : Int) = q b) (hhi : ∀ r : Int, 128 ≤ r → p r = true) (hq : ∀ b : UInt8, 128 ≤ b.toNat → q b = true) (s : Str) (hs : s.length ≤ 9223372036854775807) : FnSpec Tryz.prog 128 [s1 s, .one (.fn g [])] [] (i1 (ixQ q s 0)) [] := by
 have h1 := indexF_spec g p q hg hlo hhi hq s hs
 refine fnspec_of mixed TT_ok TT_cl ⟨fun _ => false, fun _ => [], 0, fun _ => false, fun _ => false⟩ Tryz.func128 rfl (by kernel_rfl) rfl 8 rfl [.tmp 4] rfl ?_
 simp only [go_sem, zaa, zaf, zag, zah, zai, zad, ↓reduceIte, reduceCtorEq, zab, zac, zaj, zak, zal]
 repeat' (first
 | (apply cl_plain
    case hs => rfl
    case ha => exact ydb
    case h => exact yde)
 | ((first | refine s1_id ?_ | refine swp_id ?_ | refine sops_id ?_ | refine s2_id ?_); simp only [go_sem, zaa, zaf, zag, zah, zai, zad, ↓reduceIte, reduceCtorEq, zab, zac, zaj, zak, zal, zaC, zaF, zay, zaD, renO, bk, back, outUpsFrom, Ints_ren])
 | exact fs_nil trivial rfl
 | fail)
theorem contF_spec (g : FuncId) (p : Int → Bool) (q : UInt8 → Bool) (hg : ∀ r : Int, 0 ≤ r ∧ r ≤ 2147483647 → FnSpec Tryz.prog g [r1 r] [] (b1 (p r)) []) (hlo : ∀ b : UInt8, b.toNat < 128 → p (b.toNat : Int) = q b) (hhi : ∀ r : Int, 128 ≤ r → p r = true) (hq : ∀ b : UInt8, 128 ≤ b.toNat → q b = true) (s : Str) (hs : s.length ≤ 9223372036854775807) : FnSpec Tryz.prog 126 [s1 s, .one (.fn g [])] [] (b1 (s.any q)) [] := by
 have h1 := indexFn_spec g p q hg hlo hhi hq s hs
 rw [← ixQ_any q s 0]
 refine fnspec_of mixed TT_ok TT_cl ⟨fun _ => false, fun _ => [], 0, fun _ => false, fun _ => false⟩ Tryz.func126 rfl (by kernel_rfl) rfl 9 rfl [.tmp 4] rfl ?_
 simp only [go_sem, zaa, zaf, zag, zah, zai, zad, ↓reduceIte, reduceCtorEq, zab, zac, zaj, zak, zal]
 repeat' (first
 | (apply cl_plain
    case hs => rfl
    case ha => exact ydb
    case h => exact yde)
 | ((first | refine s1_id ?_ | refine swp_id ?_ | refine sops_id ?_ | refine s2_id ?_); simp only [go_sem, zaa, zaf, zag, zah, zai, zad, ↓reduceIte, reduceCtorEq, zab, zac, zaj, zak, zal, zaC, zaF, zay, zaD, renO, bk, back, outUpsFrom, Ints_ren])
 | exact fs_nil trivial rfl
 | fail)
def inN (r : Int) : Bool := ((((decide (97 ≤ r) && decide (r ≤ 122)) || (decide (65 ≤ r) && decide (r ≤ 90))) || (decide (48 ≤ r) && decide (r ≤ 57))) || decide (r = 95)) || decide (r = 45)
def okB (b : UInt8) : Bool := inN b.toNat
theorem inN_spec (r : Int) : FnSpec Tryz.prog 125 [r1 r] [] (b1 (inN r)) [] := by
 unfold inN
 refine fnspec_of mixed TT_ok TT_cl ⟨fun _ => false, fun _ => [], 0, fun _ => false, fun _ => false⟩ Tryz.func125 rfl (by kernel_rfl) rfl 33 rfl [.tmp 2] rfl ?_
 simp only [go_sem, zaa, zaf, zag, zah, zai, zad, ↓reduceIte, reduceCtorEq, zab, zac, zaj, zak, zal]
 repeat' (first
 | exact fs_nil trivial rfl
 | fail)
theorem strange_spec (r : Int) : FnSpec Tryz.prog 124 [r1 r] [] (b1 (!inN r)) [] := by
 have h1 := inN_spec r
 refine fnspec_of mixed TT_ok TT_cl ⟨fun _ => false, fun _ => [], 0, fun _ => false, fun _ => false⟩ Tryz.func124 rfl (by kernel_rfl) rfl 6 rfl [.tmp 2] rfl ?_
 simp only [go_sem, zaa, zaf, zag, zah, zai, zad, ↓reduceIte, reduceCtorEq, zab, zac, zaj, zak, zal]
 repeat' (first
 | (apply cl_plain
    case hs => rfl
    case ha => exact ydb
    case h => exact yde)
 | ((first | refine s1_id ?_ | refine swp_id ?_ | refine sops_id ?_ | refine s2_id ?_); simp only [go_sem, zaa, zaf, zag, zah, zai, zad, ↓reduceIte, reduceCtorEq, zab, zac, zaj, zak, zal, zaC, zaF, zay, zaD, renO, bk, back, outUpsFrom, Ints_ren])
 | exact fs_nil trivial rfl
 | fail)
def nmOk (s : Str) : Bool := decide (1 ≤ (s.length : Int)) && decide ((s.length : Int) ≤ 32) && !decide (((s.headD 0).toNat : Int) = 45) && s.all okB
theorem inN_hi (r : Int) (h : 128 ≤ r) : (!inN r) = true := by
 unfold inN
 simp
 omega
theorem all_any (s : Str) : (!(s.any fun b => !okB b)) = s.all okB := by
 rw [List.all_eq_not_any_not]
theorem valid_spec (s : Str) (hs : s.length ≤ 9223372036854775807) : FnSpec Tryz.prog 120 [s1 s] [] (b1 (nmOk s)) [] := by
 have h1 := contF_spec 124 (fun r => !inN r) (fun b => !okB b) (fun r _ => strange_spec r) (fun b _ => rfl) inN_hi (fun b hb => inN_hi _ (by omega)) s hs
 unfold nmOk
 by_cases ha : 1 ≤ (s.length : Int)
 case neg =>
   simp only [decide_eq_false ha, zaR]
   refine fnspec_of mixed TT_ok TT_cl ⟨fun _ => false, fun _ => [], 0, fun _ => false, fun _ => false⟩ Tryz.func120 rfl (by kernel_rfl) rfl 23 rfl [.tmp 2] rfl ?_
   simp only [go_sem, zaa, zaf, zag, zah, zai, zad, ↓reduceIte, reduceCtorEq, zab, zac, zaj, zak, zal, decide_eq_false ha]
   repeat' (first
 | exact fs_nil trivial rfl
 | fail)
 by_cases hb : (s.length : Int) ≤ 32
 case neg =>
   simp only [decide_eq_true ha, decide_eq_false hb, zaR, zbh]
   refine fnspec_of mixed TT_ok TT_cl ⟨fun _ => false, fun _ => [], 0, fun _ => false, fun _ => false⟩ Tryz.func120 rfl (by kernel_rfl) rfl 23 rfl [.tmp 2] rfl ?_
   simp only [go_sem, zaa, zaf, zag, zah, zai, zad, ↓reduceIte, reduceCtorEq, zab, zac, zaj, zak, zal, decide_eq_true ha, decide_eq_false hb]
   repeat' (first
 | exact fs_nil trivial rfl
 | fail)
 have hd : ((s[Int.toNat 0]?).getD 0) = s.headD 0 := by cases s <;> rfl
 by_cases hc : ((s.headD 0).toNat : Int) = 45
 case pos =>
   simp only [decide_eq_true ha, decide_eq_true hb, decide_eq_true hc, Bool.not_true, zaR, zbh]
   refine fnspec_of mixed TT_ok TT_cl ⟨fun _ => false, fun _ => [], 0, fun _ => false, fun _ => false⟩ Tryz.func120 rfl (by kernel_rfl) rfl 23 rfl [.tmp 2] rfl ?_
   simp only [go_sem, zaa, zaf, zag, zah, zai, zad, ↓reduceIte, reduceCtorEq, zab, zac, zaj, zak, zal, decide_eq_true ha, decide_eq_true hb, hd, decide_eq_true hc]
   repeat' (first
 | with_reducible refine zap ?_ ?_
 | exact ydd
 | exact fs_nil trivial rfl
 | fail)
 simp only [decide_eq_true ha, decide_eq_true hb, decide_eq_false hc, Bool.not_false, zaW, ← all_any]
 refine fnspec_of mixed TT_ok TT_cl ⟨fun _ => false, fun _ => [], 0, fun _ => false, fun _ => false⟩ Tryz.func120 rfl (by kernel_rfl) rfl 23 rfl [.tmp 2] rfl ?_
 simp only [go_sem, zaa, zaf, zag, zah, zai, zad, ↓reduceIte, reduceCtorEq, zab, zac, zaj, zak, zal, decide_eq_true ha, decide_eq_true hb, hd, decide_eq_false hc]
 repeat' (first
 | with_reducible refine zap ?_ ?_
 | (apply cg_tp
    case hl => rfl
    case ha => exact ydb
    case hs => rfl
    case h => exact yde)
 | ((first | refine s1_id ?_ | refine swp_id ?_ | refine sops_id ?_ | refine s2_id ?_); simp only [decide_eq_true ha, decide_eq_true hb, hd, decide_eq_false hc, go_sem, zaa, zaf, zag, zah, zai, zad, ↓reduceIte, reduceCtorEq, zab, zac, zaj, zak, zal, zaC, zaF, zay, zaD, renO, bk, back, outUpsFrom, Ints_ren])
 | exact ydd
 | exact fs_nil trivial rfl
 | fail)
end Go.Proofs.YtnahpejlhfeleabGreat
namespace Go.Proofs.YtnahpejlhfeleabGreat
open Go.Proofs.YtnahpejlhfeleabGreat.Sh
set_option maxRecDepth 20000
theorem inN_fold (r : Int) : (((((decide (97 ≤ r) && decide (r ≤ 122)) || (decide (65 ≤ r) && decide (r ≤ 90))) || (decide (48 ≤ r) && decide (r ≤ 57))) || decide (r = 95)) || decide (r = 45)) = inN r := rfl
set_option maxHeartbeats 4000000 in
theorem rvalid_spec (s : Str) (hs : s.length ≤ 9223372036854775807) : FnSpec Tryz.prog 113 [s1 s] [] (b1 (nmOk s)) [] := by
 unfold nmOk
 by_cases ha : 1 ≤ (s.length : Int)
 case neg =>
   have ha' : (s.length : Int) = 0 := by omega
   simp only [decide_eq_false ha, zaR]
   refine fnspec_of mixed TT_ok TT_cl ⟨fun _ => false, fun _ => [], 0, fun _ => false, fun _ => false⟩ Tryz.func113 rfl (by kernel_rfl) rfl 58 rfl [.tmp 2] rfl ?_
   simp only [go_sem, zaa, zaf, zag, zah, zai, zad, ↓reduceIte, reduceCtorEq, zab, zac, zaj, zak, zal, decide_eq_true ha']
   repeat' (first
 | exact fs_nil trivial rfl
 | fail)
 have ha' : ¬ (s.length : Int) = 0 := by omega
 by_cases hb : (s.length : Int) ≤ 32
 case neg =>
   have hb' : 32 < (s.length : Int) := by omega
   simp only [decide_eq_true ha, decide_eq_false hb, zaR, zbh]
   refine fnspec_of mixed TT_ok TT_cl ⟨fun _ => false, fun _ => [], 0, fun _ => false, fun _ => false⟩ Tryz.func113 rfl (by kernel_rfl) rfl 58 rfl [.tmp 2] rfl ?_
   simp only [go_sem, zaa, zaf, zag, zah, zai, zad, ↓reduceIte, reduceCtorEq, zab, zac, zaj, zak, zal, decide_eq_false ha', decide_eq_true hb']
   repeat' (first
 | exact fs_nil trivial rfl
 | fail)
 have hb' : ¬ 32 < (s.length : Int) := by omega
 have hd : ((s[Int.toNat 0]?).getD 0) = s.headD 0 := by cases s <;> rfl
 by_cases hc : ((s.headD 0).toNat : Int) = 45
 case pos =>
   simp only [decide_eq_true ha, decide_eq_true hb, decide_eq_true hc, Bool.not_true, zaR, zbh]
   refine fnspec_of mixed TT_ok TT_cl ⟨fun _ => false, fun _ => [], 0, fun _ => false, fun _ => false⟩ Tryz.func113 rfl (by kernel_rfl) rfl 58 rfl [.tmp 2] rfl ?_
   simp only [go_sem, zaa, zaf, zag, zah, zai, zad, ↓reduceIte, reduceCtorEq, zab, zac, zaj, zak, zal, decide_eq_false ha', decide_eq_false hb', hd, decide_eq_true hc]
   repeat' (first
 | with_reducible refine zap ?_ ?_
 | exact ydd
 | exact fs_nil trivial rfl
 | fail)
 simp only [decide_eq_true ha, decide_eq_true hb, decide_eq_false hc, Bool.not_false, zaW]
 refine fnspec_of mixed TT_ok TT_cl ⟨fun _ => false, fun _ => [], 0, fun _ => false, fun _ => false⟩ Tryz.func113 rfl (by kernel_rfl) rfl 58 rfl [.tmp 2] rfl ?_
 simp only [go_sem, zaa, zaf, zag, zah, zai, zad, ↓reduceIte, reduceCtorEq, zab, zac, zaj, zak, zal, decide_eq_false ha', decide_eq_false hb', hd, decide_eq_false hc]
 repeat' (first
 | with_reducible refine zap ?_ ?_
 | exact ydd
 | exact yda | fail)
 refine w_loop (ι := Nat) (fun i => ⟨[(0, s1 s), (3, i1 i)], [], 0⟩) (fun i => i ≤ s.length ∧ s.all okB = (s.drop i).all okB) (fun i => s.length - i) 0 ?_ ⟨zaZ _, rfl⟩ ?_
 · (refine imp_sub _ _ _ [] (by simp) (by simp) (by simp) (zaZ _) ?_ rfl (by simp); simp only [zae, zam, false_implies, implies_true, and_true, lk, slot, zaC, zay, zaa, if_true, if_false, ↓reduceIte, reduceCtorEq])
   all_goals ((repeat' apply zap) <;> (first | rfl | trivial))
 rintro i ⟨hi, he⟩
 simp only at hi he ⊢
 rcases zbd i s.length with hlt | hge
 case inr =>
   have hlt' : ¬ (i : Int) < (s.length : Int) := by omega
   rw [zbk hge] at he
   rw [he]
   simp only [go_sem, zaa, zaf, zag, zah, zai, zad, ↓reduceIte, reduceCtorEq, zab, zac, zaj, zak, zal, decide_eq_false hlt', List.all_nil]
   repeat' (first
 | exact fs_nil trivial rfl
 | fail)
 have hlt' : (i : Int) < (s.length : Int) := by omega
 obtain ⟨b, hb2⟩ : ∃ b, s[i]? = some b := ⟨_, List.getElem?_eq_getElem hlt⟩
 rw [drop_at s i b hb2, List.all_cons] at he
 cases hob : okB b with
 | true =>
   rw [hob, zaW] at he
   have hob' : inN (b.toNat : Int) = true := hob
   simp only [go_sem, zaa, zaf, zag, zah, zai, zad, ↓reduceIte, reduceCtorEq, zab, zac, zaj, zak, zal, decide_eq_true hlt', hb2, inN_fold, hob']
   repeat' (first
 | with_reducible refine zap ?_ ?_
 | exact ydd
 | exact yda | fail)
   refine le_mk (i + 1) ?_ ⟨by omega, he⟩ (by omega)
   (refine imp_sub _ _ _ [] (by simp) (by simp) (by simp) (zaZ _) ?_ rfl (by simp); simp only [zae, zam, false_implies, implies_true, and_true, lk, slot, zaC, zay, zaa, if_true, if_false, ↓reduceIte, reduceCtorEq])
   all_goals ((repeat' apply zap) <;> (first | rfl | trivial | (simp only [zaz]; done) | (simp only [zaz]; rfl) | (simp only [zaz]; trivial)))
 | false =>
   rw [hob, zaR] at he
   rw [he]
   have hob' : inN (b.toNat : Int) = false := hob
   simp only [go_sem, zaa, zaf, zag, zah, zai, zad, ↓reduceIte, reduceCtorEq, zab, zac, zaj, zak, zal, decide_eq_true hlt', hb2, inN_fold, hob']
   repeat' (first
 | with_reducible refine zap ?_ ?_
 | exact ydd
 | exact fs_nil trivial rfl
 | fail)
end Go.Proofs.YtnahpejlhfeleabGreat
namespace Go.Proofs.YtnahpejlhfeleabGreat
open Go.Proofs.YtnahpejlhfeleabGreat.Sh
set_option maxRecDepth 20000
structure Nd where
  i : Int
  p : Int
  nm : Str
  c : Int
  k : Int
  o : Int
theorem Nd.ext' {x y : Nd} (h1 : x.i = y.i) (h2 : x.p = y.p) (h3 : x.nm = y.nm) (h4 : x.c = y.c) (h5 : x.k = y.k) (h6 : x.o = y.o) : x = y := by cases x; cases y; simp only at *; subst h1 h2 h3 h4 h5 h6; rfl
abbrev ndc (x : Nd) : List Cell := [int x.i, int x.p, st x.nm, int x.c, int x.k, int x.o]
instance : Rec Nd := ⟨ndc, 6, ⟨0, 0, [], 0, 0, 0⟩, fun _ => rfl, fun x c h => by
  simp only [ndc, List.mem_cons, zam, or_false] at h
  rcases h with rfl | rfl | rfl | rfl | rfl | rfl <;> rfl⟩
abbrev zn : Nd := ⟨0, 0, [], 0, 0, 0⟩
abbrev gN (l : List Nd) (i : Nat) : Nd := l.getD i zn
abbrev trV (l : List Nd) (k : Option Nat) (n : Int) : SV := .agg [.gsl (Cs l) 0 l.length k, int n]
structure NdR (x : Nd) : Prop where
  nm : x.nm.length ≤ 9223372036854775807
  c : -9223372036854775808 ≤ x.c ∧ x.c ≤ 9223372036854775807
def rngOk (x : Nd) : Bool := decide (0 ≤ x.c) && decide (x.c ≤ 31) && (decide (0 ≤ x.o) && decide (x.o ≤ 1048576))
def rootOk (x : Nd) : Bool := decide (x.i = 1) && decide (x.p = 0) && decide (x.nm = []) && decide (x.k = 0)
def same1 (p : Int) (s : Str) (y : Nd) : Bool := decide (y.p = p) && decide (y.nm = s)
def chOk (l : List Nd) (i : Nat) : Bool :=
  decide ((gN l (i - 1)).i < (gN l i).i) && nmOk (gN l i).nm && (l.take i).any (fun y => decide (y.i = (gN l i).p)) && !(l.take i).any (same1 (gN l i).p (gN l i).nm)
def kdOk (x : Nd) : Bool := decide (x.k = 0) || decide (x.k = 1)
def stOk (l : List Nd) (i : Nat) : Bool := kdOk (gN l i) && rngOk (gN l i) && (if i = 0 then rootOk (gN l 0) else chOk l i)
def upR : List Nd → Int → List Int
  | [], _ => []
  | x :: r, id => if x.i = id then id :: upR r x.p else upR r id
def upL (l : List Nd) (id : Int) : List Int := upR l.reverse id
theorem upR_len : ∀ (l : List Nd) (id : Int), (upR l id).length ≤ l.length
  | [], _ => zaX _
  | x :: r, id => by
    unfold upR
    split
    · rw [zaE, zaE]; have := upR_len r x.p; omega
    · rw [zaE]; have := upR_len r id; omega
def allN (n : Nat) (f : Nat → Bool) : Bool := (List.range n).all f
theorem allN_iff (n : Nat) (f : Nat → Bool) : allN n f = true ↔ ∀ i, i < n → f i = true := by
 simp [allN, List.all_eq_true, List.mem_range]
def chkT (l : List Nd) (n : Int) : Bool :=
  decide (1 ≤ l.length) && decide (l.length ≤ 64) && allN l.length (stOk l) && allN l.length (fun i => decide ((upL l (gN l i).i).length ≤ 9)) && (decide ((gN l (l.length - 1)).i < n) && decide (n ≤ 2147483648))
structure VT (l : List Nd) (n : Int) : Prop where
  ne : 1 ≤ l.length
  le : l.length ≤ 64
  st : ∀ i, i < l.length → stOk l i = true
  dp : ∀ i, i < l.length → (upL l (gN l i).i).length ≤ 9
  nx : (gN l (l.length - 1)).i < n
  mx : n ≤ 2147483648
theorem chkT_iff (l : List Nd) (n : Int) : chkT l n = true ↔ VT l n := by
 unfold chkT
 simp only [zat, decide_eq_true_eq, allN_iff]
 constructor
 · rintro ⟨⟨⟨⟨h1, h2⟩, h3⟩, h4⟩, h5, h6⟩; exact ⟨h1, h2, h3, h4, h5, h6⟩
 · rintro ⟨h1, h2, h3, h4, h5, h6⟩; exact ⟨⟨⟨⟨h1, h2⟩, h3⟩, h4⟩, h5, h6⟩
theorem chkT_not {l : List Nd} {n : Int} (h : ¬ VT l n) : chkT l n = false := Bool.eq_false_iff.2 fun e => h ((chkT_iff l n).1 e)
theorem stOk_root {l : List Nd} (h : stOk l 0 = true) : (gN l 0).i = 1 ∧ (gN l 0).p = 0 ∧ (gN l 0).nm = [] ∧ (gN l 0).k = 0 := by
 unfold stOk rootOk at h
 simp only [if_pos, zat, decide_eq_true_eq] at h
 obtain ⟨_, ⟨⟨h1, h2⟩, h3⟩, h4⟩ := h
 exact ⟨h1, h2, h3, h4⟩
structure ChP (l : List Nd) (i : Nat) : Prop where
  lt : (gN l (i - 1)).i < (gN l i).i
  nm : nmOk (gN l i).nm = true
  par : ∃ j, j < i ∧ (gN l j).i = (gN l i).p
  new : ∀ j, j < i → ¬ ((gN l j).p = (gN l i).p ∧ (gN l j).nm = (gN l i).nm)
theorem take_any_iff (l : List Nd) (i : Nat) (hi : i ≤ l.length) (f : Nd → Bool) : (l.take i).any f = true ↔ ∃ j, j < i ∧ f (gN l j) = true := by
 rw [List.any_eq_true]
 constructor
 · rintro ⟨x, hx, hf⟩
   obtain ⟨k, hk, rfl⟩ := List.mem_take_iff_getElem.1 hx
   exact ⟨k, by omega, by rw [show gN l k = l[k] from getD_at l k zn (by omega)]; exact hf⟩
 · rintro ⟨j, hj, hf⟩
   exact ⟨gN l j, List.mem_take_iff_getElem.2 ⟨j, by omega, (getD_at l j zn (by omega)).symm⟩, hf⟩
theorem chOk_iff (l : List Nd) (i : Nat) (hi : i < l.length) : chOk l i = true ↔ ChP l i := by
 unfold chOk
 simp only [zat, zau, decide_eq_true_eq]
 rw [take_any_iff l i (zbl hi), Bool.eq_false_iff, ne_eq, take_any_iff l i (zbl hi)]
 unfold same1
 simp only [zat, decide_eq_true_eq]
 constructor
 · rintro ⟨⟨⟨h1, h2⟩, h3⟩, h4⟩
   exact ⟨h1, h2, h3, fun j hj h => h4 ⟨j, hj, h⟩⟩
 · rintro ⟨h1, h2, h3, h4⟩
   exact ⟨⟨⟨h1, h2⟩, h3⟩, fun ⟨j, hj, h⟩ => h4 j hj h⟩
theorem stOk_ch {l : List Nd} {i : Nat} (hi : i < l.length) (h0 : i ≠ 0) (h : stOk l i = true) : ChP l i := by
 unfold stOk at h
 rw [if_neg h0, zat] at h
 exact (chOk_iff l i hi).1 h.2
theorem VT.ch {l : List Nd} {n : Int} (h : VT l n) {i : Nat} (hi : i < l.length) (h0 : i ≠ 0) : ChP l i := stOk_ch hi h0 (h.st i hi)
theorem VT.root {l : List Nd} {n : Int} (h : VT l n) : (gN l 0).i = 1 ∧ (gN l 0).p = 0 ∧ (gN l 0).nm = [] ∧ (gN l 0).k = 0 := stOk_root (h.st 0 h.ne)
def AscI (l : List Nd) : Prop := ∀ i j, i < j → j < l.length → (gN l i).i < (gN l j).i
theorem asc_of_step {l : List Nd} (h : ∀ i, i ≠ 0 → i < l.length → (gN l (i - 1)).i < (gN l i).i) : AscI l := by
 intro i j hij hj
 induction j with
 | zero => omega
 | succ j ih =>
   have h1 := h (j + 1) (by omega) hj
   rw [Nat.add_sub_cancel] at h1
   by_cases e : i = j
   · subst e; exact h1
   · have := ih (by omega) (by omega); omega
theorem VT.asc {l : List Nd} {n : Int} (h : VT l n) : AscI l := asc_of_step fun i h0 hi => (h.ch hi h0).lt
theorem VT.pos {l : List Nd} {n : Int} (h : VT l n) {i : Nat} (hi : i < l.length) : 1 ≤ (gN l i).i := by
 by_cases e : i = 0
 · subst e; have := h.root.1; omega
 · have := h.asc 0 i (by omega) hi; have := h.root.1; omega
theorem VT.lt {l : List Nd} {n : Int} (h : VT l n) {i : Nat} (hi : i < l.length) : (gN l i).i < n := by
 have h1 := h.nx
 by_cases e : i = l.length - 1
 · rw [e]; exact h1
 · have := h.asc i (l.length - 1) (by omega) (by omega); omega
theorem AscI.inj {l : List Nd} (h : AscI l) {i j : Nat} (hi : i < l.length) (hj : j < l.length) (e : (gN l i).i = (gN l j).i) : i = j := by
 rcases Nat.lt_trichotomy i j with c | c | c
 · have := h i j c hj; omega
 · exact c
 · have := h j i c hi; omega
theorem AscI.take {l : List Nd} (h : AscI l) (k : Nat) : AscI (l.take k) := by
 intro i j hij hj
 rw [zaU] at hj
 have e : ∀ m, m < k → gN (l.take k) m = gN l m := fun m hm => by
   simp only [gN, List.getD_eq_getElem?_getD, List.getElem?_take_of_lt hm]
 rw [e i (by omega), e j (by omega)]
 exact h i j hij (by omega)
theorem gN_take (l : List Nd) (k m : Nat) (hm : m < k) : gN (l.take k) m = gN l m := by
 simp only [gN, List.getD_eq_getElem?_getD, List.getElem?_take_of_lt hm]
theorem gN_mem (l : List Nd) (x : Nd) (h : x ∈ l) : ∃ i, i < l.length ∧ gN l i = x := by
 obtain ⟨i, hi, e⟩ := List.getElem_of_mem h
 exact ⟨i, hi, by rw [← e]; exact getD_at l i zn hi⟩
theorem upL_snoc (l : List Nd) (x : Nd) (id : Int) : upL (l ++ [x]) id = if x.i = id then id :: upL l x.p else upL l id := by
 rw [upL, List.reverse_append, List.reverse_singleton, zaN, zaQ, upR]; rfl
theorem upL_take (l : List Nd) (i : Nat) (hi : i < l.length) (id : Int) : upL (l.take (i + 1)) id = if (gN l i).i = id then id :: upL (l.take i) (gN l i).p else upL (l.take i) id := by
 rw [take_getD l i zn hi, upL_snoc]
theorem upL_skip (l : List Nd) (id : Int) : ∀ (k : Nat), k ≤ l.length → (∀ j, k ≤ j → j < l.length → (gN l j).i ≠ id) → upL l id = upL (l.take k) id := by
 intro k hk hne
 have : ∀ m, m ≤ l.length - k → upL (l.take (k + m)) id = upL (l.take k) id := by
   intro m
   induction m with
   | zero => intro _; rfl
   | succ m ih =>
     intro hm
     rw [← Nat.add_assoc, upL_take l (k + m) (by omega), if_neg (hne (k + m) (by omega) (by omega)), ih (by omega)]
 have h2 := this (l.length - k) (zaX _)
 rw [show k + (l.length - k) = l.length by omega, List.take_length] at h2
 exact h2
theorem upL_node {l : List Nd} (h : AscI l) {i : Nat} (hi : i < l.length) : upL l (gN l i).i = (gN l i).i :: upL (l.take i) (gN l i).p := by
 rw [upL_skip l (gN l i).i (i + 1) hi (fun j hj hj2 => by have := h i j (by omega) hj2; omega), upL_take l i hi, if_pos rfl]
theorem upL_par {l : List Nd} (h : AscI l) {i j : Nat} (hi : i < l.length) (hj : j < i) : upL (l.take i) (gN l j).i = upL l (gN l j).i := by
 rw [upL_node h (by omega : j < l.length)]
 have := upL_node (h.take i) (i := j) (by rw [zaU]; omega)
 rw [gN_take l i j hj, List.take_take, Nat.min_eq_left (zbl hj)] at this
 exact this
theorem upL_no (l : List Nd) (id : Int) (h : ∀ j, j < l.length → (gN l j).i ≠ id) : upL l id = [] := by
 rw [upL_skip l id 0 (zaZ _) (fun j _ hj => h j hj)]; rfl
theorem VT.up {l : List Nd} {n : Int} (h : VT l n) {i : Nat} (hi : i < l.length) (h0 : i ≠ 0) : upL l (gN l i).i = (gN l i).i :: upL l (gN l i).p := by
 obtain ⟨j, hj, e⟩ := (h.ch hi h0).par
 rw [upL_node h.asc hi, ← e, upL_par h.asc hi hj]
theorem VT.up0 {l : List Nd} {n : Int} (h : VT l n) : upL l 1 = [1] := by
 have := upL_node h.asc (i := 0) h.ne
 rw [h.root.1] at this
 rw [this]; rfl
end Go.Proofs.YtnahpejlhfeleabGreat
namespace Go.Proofs.YtnahpejlhfeleabGreat
open Go.Proofs.YtnahpejlhfeleabGreat.Sh
set_option maxRecDepth 20000
structure VL (l : List Nd) (n : Int) : Prop where
  ne : 1 ≤ l.length
  rt : (gN l 0).i = 1 ∧ (gN l 0).p = 0 ∧ (gN l 0).nm = [] ∧ (gN l 0).k = 0
  le : l.length ≤ 64
  all : ∀ x ∈ l, kdOk x = true ∧ rngOk x = true
  asc : l.Pairwise (fun x y => x.i < y.i)
  ch : ∀ x ∈ l, x.i ≠ 1 → nmOk x.nm = true ∧ ∃ y ∈ l, y.i = x.p ∧ y.i < x.i
  new : l.Pairwise (fun x y => ¬ (x.p = y.p ∧ x.nm = y.nm))
  dp : ∀ x ∈ l, (upL l x.i).length ≤ 9
  nx : ∀ x ∈ l, x.i < n
  mx : n ≤ 2147483648
theorem ascI_iff (l : List Nd) : l.Pairwise (fun x y => x.i < y.i) ↔ AscI l := by
 rw [List.pairwise_iff_getElem]
 constructor
 · intro h i j hij hj
   have := h i j (by omega) hj hij
   rw [show gN l i = l[i] from getD_at l i zn (by omega), show gN l j = l[j] from getD_at l j zn hj]
   exact this
 · intro h i j hi hj hij
   have := h i j hij hj
   rw [show gN l i = l[i] from getD_at l i zn hi, show gN l j = l[j] from getD_at l j zn hj] at this
   exact this
theorem VT.vl {l : List Nd} {n : Int} (h : VT l n) : VL l n where
  ne := h.ne
  rt := h.root
  le := h.le
  all := fun x hx => by
    obtain ⟨i, hi, rfl⟩ := gN_mem l x hx
    have := h.st i hi
    unfold stOk at this
    simp only [zat] at this
    exact this.1
  asc := (ascI_iff l).2 h.asc
  ch := fun x hx h1 => by
    obtain ⟨i, hi, rfl⟩ := gN_mem l x hx
    have h0 : i ≠ 0 := fun e => h1 (by rw [e]; exact h.root.1)
    have hc := h.ch hi h0
    obtain ⟨j, hj, e⟩ := hc.par
    exact ⟨hc.nm, gN l j, getD_mem l j zn (by omega), e, h.asc j i hj hi⟩
  new := by
    rw [List.pairwise_iff_getElem]
    intro i j hi hj hij hh
    have hc := h.ch hj (by omega)
    refine hc.new i hij ?_
    rw [show gN l i = l[i] from getD_at l i zn hi, show gN l j = l[j] from getD_at l j zn hj]
    exact hh
  dp := fun x hx => by
    obtain ⟨i, hi, rfl⟩ := gN_mem l x hx
    exact h.dp i hi
  nx := fun x hx => by
    obtain ⟨i, hi, rfl⟩ := gN_mem l x hx
    exact h.lt hi
  mx := h.mx
theorem VL.vt {l : List Nd} {n : Int} (h : VL l n) : VT l n where
  ne := h.ne
  le := h.le
  st := fun i hi => by
    have hm : gN l i ∈ l := getD_mem l i zn hi
    obtain ⟨h1, h2⟩ := h.all _ hm
    have hA := (ascI_iff l).1 h.asc
    unfold stOk
    rw [h1, h2, zaW, zaW]
    by_cases h0 : i = 0
    · rw [if_pos h0]
      unfold rootOk
      rw [decide_eq_true h.rt.1, decide_eq_true h.rt.2.1, decide_eq_true h.rt.2.2.1, decide_eq_true h.rt.2.2.2]
      rfl
    · rw [if_neg h0, chOk_iff l i hi]
      have hne : (gN l i).i ≠ 1 := by have := hA 0 i (by omega) hi; have := h.rt.1; omega
      obtain ⟨h3, y, hy, e, hlt⟩ := h.ch _ hm hne
      refine ⟨hA (i - 1) i (by omega) hi, h3, ?_, fun j hj hh => ?_⟩
      · obtain ⟨j, hj, rfl⟩ := gN_mem l y hy
        refine ⟨j, ?_, e⟩
        rcases Nat.lt_trichotomy j i with c | c | c
        · exact c
        · rw [c] at hlt; omega
        · have := hA i j c hj; omega
      · have hn := (List.pairwise_iff_getElem.1 h.new) j i (by omega) hi hj
        rw [show gN l i = l[i] from getD_at l i zn hi, show gN l j = l[j] from getD_at l j zn (by omega)] at hh
        exact hn hh
  dp := fun i hi => h.dp _ (getD_mem l i zn hi)
  nx := h.nx _ (getD_mem l _ zn (by have := h.ne; omega))
  mx := h.mx
theorem VL.pos {l : List Nd} {n : Int} (h : VL l n) {x : Nd} (hx : x ∈ l) : 1 ≤ x.i := by
 obtain ⟨i, hi, rfl⟩ := gN_mem l x hx
 exact h.vt.pos hi
theorem VL.inj {l : List Nd} {n : Int} (h : VL l n) {x y : Nd} (hx : x ∈ l) (hy : y ∈ l) (e : x.i = y.i) : x = y := by
 obtain ⟨i, hi, rfl⟩ := gN_mem l x hx
 obtain ⟨j, hj, rfl⟩ := gN_mem l y hy
 rw [((ascI_iff l).1 h.asc).inj hi hj e]
theorem VL.add {l : List Nd} {n : Int} (h : VL l n) {p : Int} {s : Str} (hs : nmOk s = true) (hp : ∃ y ∈ l, y.i = p) (hn : ∀ y ∈ l, ¬ (y.p = p ∧ y.nm = s)) (hd : (upL l p).length ≤ 8) (hl : l.length < 64) (hx : n ≤ 2147483647) : VL (l ++ [⟨n, p, s, 0, 0, 0⟩]) (n + 1) where
  ne := by rw [List.length_append]; have := h.ne; omega
  rt := by
    have e : gN (l ++ [⟨n, p, s, 0, 0, 0⟩]) 0 = gN l 0 := by
      have := h.ne
      simp only [gN, List.getD_eq_getElem?_getD]
      rw [List.getElem?_append_left (by omega)]
    rw [e]; exact h.rt
  le := by rw [List.length_append, List.length_singleton]; omega
  all := fun x hx => by
    rcases List.mem_append.1 hx with hx | hx
    · exact h.all x hx
    · rw [List.mem_singleton.1 hx]; exact ⟨rfl, rfl⟩
  asc := List.pairwise_append.2 ⟨h.asc, zbf _ _, fun a ha b hb => by rw [List.mem_singleton.1 hb]; exact h.nx a ha⟩
  ch := fun x hx h1 => by
    rcases List.mem_append.1 hx with hx | hx
    · obtain ⟨h2, y, hy, h3⟩ := h.ch x hx h1
      exact ⟨h2, y, List.mem_append_left _ hy, h3⟩
    · rw [List.mem_singleton.1 hx]
      obtain ⟨y, hy, e⟩ := hp
      exact ⟨hs, y, List.mem_append_left _ hy, e, h.nx y hy⟩
  new := List.pairwise_append.2 ⟨h.new, zbf _ _, fun a ha b hb => by rw [List.mem_singleton.1 hb]; exact hn a ha⟩
  dp := fun x hx => by
    rw [upL_snoc]
    rcases List.mem_append.1 hx with hx | hx
    · have := h.nx x hx
      rw [if_neg (by simp only; omega)]
      exact h.dp x hx
    · rw [List.mem_singleton.1 hx, if_pos rfl, zaE]
      simp only; omega
  nx := fun x hx => by
    rcases List.mem_append.1 hx with hx | hx
    · have := h.nx x hx; omega
    · rw [List.mem_singleton.1 hx]; simp only; omega
  mx := by omega
def rmN (l : List Nd) (id : Int) : List Nd := l.filter fun x => !decide (x.i = id)
theorem rmN_mem (l : List Nd) (id : Int) (x : Nd) : x ∈ rmN l id ↔ x ∈ l ∧ x.i ≠ id := by
 unfold rmN
 rw [List.mem_filter]; simp
theorem upR_rm (id : Int) : ∀ (l : List Nd) (q : Int), q ≠ id → (∀ x ∈ l, x.p ≠ id) → upR (l.filter fun x => !decide (x.i = id)) q = upR l q
  | [], q, _, _ => rfl
  | x :: r, q, hq, hp => by
    have hpr : ∀ y ∈ r, y.p ≠ id := fun y hy => hp y (List.mem_cons_of_mem _ hy)
    by_cases c : x.i = id
    · rw [zbj (by simp [c]), upR_rm id r q hq hpr, upR, if_neg (by omega)]
    · rw [zbg (by simp [c]), upR, upR, upR_rm id r q hq hpr, upR_rm id r x.p (hp x List.mem_cons_self) hpr]
theorem upL_rm (l : List Nd) (id q : Int) (hq : q ≠ id) (hp : ∀ x ∈ l, x.p ≠ id) : upL (rmN l id) q = upL l q := by
 unfold upL rmN
 rw [← List.filter_reverse]
 exact upR_rm id l.reverse q hq fun x hx => hp x (List.mem_reverse.1 hx)
theorem VL.rm {l : List Nd} {n : Int} (h : VL l n) {id : Int} (h1 : id ≠ 1) (hc : ∀ x ∈ l, x.p ≠ id) : VL (rmN l id) n := by
 have hsub : (rmN l id).Sublist l := List.filter_sublist
 have h0 : rmN l id ≠ [] ∧ gN (rmN l id) 0 = gN l 0 := by
   have hne := h.ne
   cases l with
   | nil => simp at hne
   | cons r t =>
     have hr : r.i = 1 := h.rt.1
     have : rmN (r :: t) id = r :: rmN t id := by
       unfold rmN
       rw [zbg]
       simp; omega
     rw [this]
     exact ⟨List.cons_ne_nil _ _, rfl⟩
 exact
 { ne := List.length_pos_iff.2 h0.1
   rt := by rw [h0.2]; exact h.rt
   le := Nat.le_trans hsub.length_le h.le
   all := fun x hx => h.all x (hsub.subset hx)
   asc := h.asc.sublist hsub
   ch := fun x hx hx1 => by
     obtain ⟨h2, y, hy, h3, h4⟩ := h.ch x (hsub.subset hx) hx1
     exact ⟨h2, y, (rmN_mem l id y).2 ⟨hy, by rw [h3]; exact hc x (hsub.subset hx)⟩, h3, h4⟩
   new := h.new.sublist hsub
   dp := fun x hx => by
     rw [upL_rm l id x.i ((rmN_mem l id x).1 hx).2 hc]
     exact h.dp x (hsub.subset hx)
   nx := fun x hx => h.nx x (hsub.subset hx)
   mx := h.mx }
theorem VL_new : VL [⟨1, 0, [], 0, 0, 0⟩] 2 where
  ne := zaX _
  rt := ⟨rfl, rfl, rfl, rfl⟩
  le := by decide
  all := fun x hx => by rw [List.mem_singleton.1 hx]; exact ⟨rfl, rfl⟩
  asc := zbf _ _
  ch := fun x hx h => by rw [List.mem_singleton.1 hx] at h; exact absurd rfl h
  new := zbf _ _
  dp := fun x hx => by rw [List.mem_singleton.1 hx]; decide
  nx := fun x hx => by rw [List.mem_singleton.1 hx]; decide
  mx := by decide
end Go.Proofs.YtnahpejlhfeleabGreat
namespace Go.Proofs.YtnahpejlhfeleabGreat
open Go.Proofs.YtnahpejlhfeleabGreat.Sh
set_option maxRecDepth 20000
theorem andn (x : BitVec 64) : (x &&& ~~~ 31#64 = 0#64) ↔ x.toNat < 32 := by
 constructor
 · intro h
   have h1 : x = x &&& 31#64 := by
     apply BitVec.eq_of_getLsbD_eq
     intro i hi
     have := congrArg (fun y => BitVec.getLsbD y i) h
     simp only [BitVec.getLsbD_and, BitVec.getLsbD_not, BitVec.getLsbD_zero] at this ⊢
     revert this
     cases x.getLsbD i <;> cases (31#64).getLsbD i <;> simp [hi]
   have h2 := congrArg BitVec.toNat h1
   rw [BitVec.toNat_and] at h2
   have h3 : x.toNat &&& 31 = x.toNat % 32 := Nat.and_two_pow_sub_one_eq_mod x.toNat 5
   have h4 : (31#64).toNat = 31 := rfl
   rw [h4, h3] at h2
   omega
 · intro h
   have h1 : x &&& 31#64 = x := by
     apply BitVec.eq_of_toNat_eq
     rw [BitVec.toNat_and]
     have h3 : x.toNat &&& 31 = x.toNat % 32 := Nat.and_two_pow_sub_one_eq_mod x.toNat 5
     have h4 : (31#64).toNat = 31 := rfl
     rw [h4, h3, Nat.mod_eq_of_lt h]
   rw [← h1, BitVec.and_assoc]
   have h5 : 31#64 &&& ~~~ 31#64 = 0#64 := by decide
   rw [h5]; simp
abbrev andN (a : Int) : Int := IntKind.i64.wrap (((BitVec.ofInt 64 a &&& ~~~ BitVec.ofInt 64 31).toNat : Nat) : Int)
theorem andN_iff (a : Int) (h : -9223372036854775808 ≤ a ∧ a ≤ 9223372036854775807) : andN a = 0 ↔ 0 ≤ a ∧ a ≤ 31 := by
 have h1 : BitVec.ofInt 64 31 = 31#64 := by decide
 unfold andN
 rw [h1, IntKind.wrap_i64]
 have h2 := andn (BitVec.ofInt 64 a)
 have h3 : (BitVec.ofInt 64 a).toNat = (a % 18446744073709551616).toNat := by rw [BitVec.toNat_ofInt]; rfl
 have h4 := (BitVec.ofInt 64 a &&& ~~~ 31#64).isLt
 have h5 : (BitVec.ofInt 64 a &&& ~~~ 31#64 = 0#64) ↔ (BitVec.ofInt 64 a &&& ~~~ 31#64).toNat = 0 := by
   constructor
   · intro e; rw [e]; rfl
   · intro e; exact BitVec.eq_of_toNat_eq e
 rw [h5, h3] at h2
 generalize (BitVec.ofInt 64 a &&& ~~~ 31#64).toNat = m at *
 constructor
 · intro e
   have : m = 0 := by omega
   have := h2.1 this
   omega
 · intro e
   have : m = 0 := h2.2 (by omega)
   subst this
   omega
end Go.Proofs.YtnahpejlhfeleabGreat
namespace Go.Proofs.YtnahpejlhfeleabGreat
open Go.Proofs.YtnahpejlhfeleabGreat.Sh
set_option maxRecDepth 20000
theorem nd_td (l : List Nd) (i : Nat) (h : i < l.length) : zbm 6 (List.drop (i * 6) (Cs l)) = ndc (gN l i) := Cs_td l i h
theorem nd_f (l : List Nd) (i : Nat) (h : i < l.length) (d : Cell) : (Cs l).getD (i * 6) d = int (gN l i).i ∧ (Cs l).getD (i * 6 + 1) d = int (gN l i).p ∧ (Cs l).getD (i * 6 + 2) d = st (gN l i).nm ∧ (Cs l).getD (i * 6 + 3) d = int (gN l i).c ∧ (Cs l).getD (i * 6 + 4) d = int (gN l i).k ∧ (Cs l).getD (i * 6 + 5) d = int (gN l i).o :=
  ⟨Cs_fld l i 0 d h (by decide), Cs_fld l i 1 d h (by decide), Cs_fld l i 2 d h (by decide), Cs_fld l i 3 d h (by decide), Cs_fld l i 4 d h (by decide), Cs_fld l i 5 d h (by decide)⟩
theorem nd_len (l : List Nd) : (Cs l).length = l.length * 6 := Cs_len l
theorem gate_eq (xk xc xo : Int) : (!decide (xk = 0) && !decide (xk = 1) || decide (xc < 0) || decide (31 < xc) || decide (xo < 0) || decide (1048576 < xo)) = !((decide (xk = 0) || decide (xk = 1)) && (decide (0 ≤ xc) && decide (xc ≤ 31) && (decide (0 ≤ xo) && decide (xo ≤ 1048576)))) := by
 have e1 : decide (xc < 0) = !decide (0 ≤ xc) := by rw [← decide_not]; exact decide_eq_decide.2 (by omega)
 have e2 : decide (31 < xc) = !decide (xc ≤ 31) := by rw [← decide_not]; exact decide_eq_decide.2 (by omega)
 have e3 : decide (xo < 0) = !decide (0 ≤ xo) := by rw [← decide_not]; exact decide_eq_decide.2 (by omega)
 have e4 : decide (1048576 < xo) = !decide (xo ≤ 1048576) := by rw [← decide_not]; exact decide_eq_decide.2 (by omega)
 rw [e1, e2, e3, e4]
 cases decide (xk = 0) <;> cases decide (xk = 1) <;> cases decide (0 ≤ xc) <;> cases decide (xc ≤ 31) <;> cases decide (0 ≤ xo) <;> cases decide (xo ≤ 1048576) <;> rfl
theorem any_take_succ (l : List Nd) (k : Nat) (h : k < l.length) (f : Nd → Bool) : (l.take (k + 1)).any f = ((l.take k).any f || f (gN l k)) := by
 rw [take_getD l k zn h, List.any_append]; simp
set_option maxHeartbeats 8000000 in
theorem node_spec (l : List Nd) (k : Option Nat) (n : Int) (i : Nat) (hi : i < l.length) (hl : l.length ≤ 1000000) (hnm : (gN l i).nm.length ≤ 9223372036854775807) : FnSpec Tryz.prog 103 [trV l k n, i1 i] [] (b1 (stOk l i)) [] := by
 have hN := nd_td l i hi
 have hnl := nd_len l
 obtain ⟨x, hx⟩ : ∃ x, gN l i = x := ⟨_, rfl⟩
 have hst : stOk l i = (kdOk x && rngOk x && (if i = 0 then rootOk x else chOk l i)) := by
   unfold stOk
   rw [hx]
   by_cases h0 : i = 0
   · subst h0; rw [if_pos rfl, if_pos rfl, hx]
   · rw [if_neg h0, if_neg h0]
 have hch : chOk l i = (decide ((gN l (i - 1)).i < x.i) && nmOk x.nm && (l.take i).any (fun y => decide (y.i = x.p)) && !(l.take i).any (same1 x.p x.nm)) := by unfold chOk; rw [hx]
 rw [hx] at hN hnm
 obtain ⟨xi, xp, xn, xc, xk, xo⟩ := x
 simp only [ndc] at hN hnm
 have hg := gate_eq xk xc xo
 have hge : (kdOk ⟨xi, xp, xn, xc, xk, xo⟩ && rngOk ⟨xi, xp, xn, xc, xk, xo⟩) = ((decide (xk = 0) || decide (xk = 1)) && (decide (0 ≤ xc) && decide (xc ≤ 31) && (decide (0 ≤ xo) && decide (xo ≤ 1048576)))) := rfl
 rw [← hge] at hg
 rw [hst]
 cases hb : (kdOk ⟨xi, xp, xn, xc, xk, xo⟩ && rngOk ⟨xi, xp, xn, xc, xk, xo⟩) with
 | false =>
   rw [hb] at hg
   simp only [Bool.not_false] at hg
   rw [zaR]
   refine fnspec_of mixed TT_ok TT_cl ⟨fun _ => false, fun _ => [], 0, fun _ => false, fun _ => false⟩ Tryz.func103 rfl (by kernel_rfl) rfl 115 rfl [.tmp 4] rfl ?_
   simp only [go_sem, zaa, zaf, zag, zah, zai, zad, ↓reduceIte, reduceCtorEq, zab, zac, zaj, zak, zal, hN, zaL, zaP, zaw, zaN, zaQ, zaJ, zaK, zaI, zaT, zaV, zaE, zaO, hg]
   repeat' (first
 | with_reducible refine zap ?_ ?_
 | exact ydd
 | exact fs_nil trivial rfl
 | fail)
 | true =>
   rw [hb] at hg
   simp only [Bool.not_true] at hg
   rw [zaW]
   by_cases h0 : i = 0
   · have c0 : (i : Int) = 0 := by omega
     rw [if_pos h0]
     unfold rootOk
     refine fnspec_of mixed TT_ok TT_cl ⟨fun _ => false, fun _ => [], 0, fun _ => false, fun _ => false⟩ Tryz.func103 rfl (by kernel_rfl) rfl 115 rfl [.tmp 4] rfl ?_
     simp only [go_sem, zaa, zaf, zag, zah, zai, zad, ↓reduceIte, reduceCtorEq, zab, zac, zaj, zak, zal, hN, zaL, zaP, zaw, zaN, zaQ, zaJ, zaK, zaI, zaT, zaV, zaE, zaO, hg, decide_eq_true c0]
     repeat' (first
 | with_reducible refine zap ?_ ?_
 | exact ydd
 | exact fs_nil trivial rfl
 | fail)
   have c0 : ¬ (i : Int) = 0 := by omega
   rw [if_neg h0, hch]
   have hin : ((i : Int) - 1).toNat = i - 1 := by omega
   obtain ⟨f1, _⟩ := nd_f l (i - 1) (by omega) (.sc (.int .i64 0))
   have hv := rvalid_spec xn (by omega)
   by_cases hlt : xi ≤ (gN l (i - 1)).i
   · rw [decide_eq_false (by simp only; omega), zaR, zaR, zaR]
     refine fnspec_of mixed TT_ok TT_cl ⟨fun _ => false, fun _ => [], 0, fun _ => false, fun _ => false⟩ Tryz.func103 rfl (by kernel_rfl) rfl 115 rfl [.tmp 4] rfl ?_
     simp only [go_sem, zaa, zaf, zag, zah, zai, zad, ↓reduceIte, reduceCtorEq, zab, zac, zaj, zak, zal, hN, zaL, zaP, zaw, zaN, zaQ, zaJ, zaK, zaI, zaT, zaV, zaE, zaO, hg, decide_eq_false c0, hin, f1, decide_eq_true hlt]
     repeat' (first
 | with_reducible refine zap ?_ ?_
 | (unfold OKC; kernel_rfl)
 | (unfold EDG; kernel_rfl)
 | exact ydd
 | exact fs_nil trivial rfl
 | fail)
   rw [decide_eq_true (by simp only; omega), zaW]
   cases hnv : nmOk xn with
   | false =>
     rw [hnv] at hv
     rw [zaR, zaR]
     refine fnspec_of mixed TT_ok TT_cl ⟨fun _ => false, fun _ => [], 0, fun _ => false, fun _ => false⟩ Tryz.func103 rfl (by kernel_rfl) rfl 115 rfl [.tmp 4] rfl ?_
     simp only [go_sem, zaa, zaf, zag, zah, zai, zad, ↓reduceIte, reduceCtorEq, zab, zac, zaj, zak, zal, hN, zaL, zaP, zaw, zaN, zaQ, zaJ, zaK, zaI, zaT, zaV, zaE, zaO, hg, decide_eq_false c0, hin, f1, decide_eq_false hlt]
     repeat' (first
 | with_reducible refine zap ?_ ?_
 | (unfold OKC; kernel_rfl)
 | (unfold EDG; kernel_rfl)
 | (apply cg_tp
    case hl => rfl
    case ha => exact ydb
    case hs => rfl
    case h => (first | exact hv ..))
 | ((first | refine s1_id ?_ | refine swp_id ?_ | refine sops_id ?_ | refine s2_id ?_); simp only [hN, zaL, zaP, zaw, zaN, zaQ, zaJ, zaK, zaI, zaT, zaV, zaE, zaO, hg, decide_eq_false c0, hin, f1, decide_eq_false hlt, go_sem, zaa, zaf, zag, zah, zai, zad, ↓reduceIte, reduceCtorEq, zab, zac, zaj, zak, zal, zaC, zaF, zay, zaD, renO, bk, back, outUpsFrom, Ints_ren])
 | exact ydd
 | exact fs_nil trivial rfl
 | fail)
   | true =>
   rw [hnv] at hv
   rw [zaW]
   simp only
   refine fnspec_of mixed TT_ok TT_cl ⟨fun _ => false, fun _ => [], 0, fun _ => false, fun _ => false⟩ Tryz.func103 rfl (by kernel_rfl) rfl 115 rfl [.tmp 4] rfl ?_
   simp only [go_sem, zaa, zaf, zag, zah, zai, zad, ↓reduceIte, reduceCtorEq, zab, zac, zaj, zak, zal, hN, zaL, zaP, zaw, zaN, zaQ, zaJ, zaK, zaI, zaT, zaV, zaE, zaO, hg, decide_eq_false c0, hin, f1, decide_eq_false hlt]
   repeat' (first
 | with_reducible refine zap ?_ ?_
 | (unfold OKC; kernel_rfl)
 | (unfold EDG; kernel_rfl)
 | (apply cg_tp
    case hl => rfl
    case ha => exact ydb
    case hs => rfl
    case h => (first | exact hv ..))
 | ((first | refine s1_id ?_ | refine swp_id ?_ | refine sops_id ?_ | refine s2_id ?_); simp only [hN, zaL, zaP, zaw, zaN, zaQ, zaJ, zaK, zaI, zaT, zaV, zaE, zaO, hg, decide_eq_false c0, hin, f1, decide_eq_false hlt, go_sem, zaa, zaf, zag, zah, zai, zad, ↓reduceIte, reduceCtorEq, zab, zac, zaj, zak, zal, zaC, zaF, zay, zaD, renO, bk, back, outUpsFrom, Ints_ren])
 | exact ydd
 | exact yda | fail)
   refine w_loop (ι := Nat) (fun m => ⟨[(1, i1 i), (2, .one (.optr 0 0)), (5, .one (.optr 1 0)), (6, b1 ((l.take m).any fun y => decide (y.i = xp))), (7, i1 m)], [(0, some ⟨[.gsl (Cs l) 0 l.length k, int n], 2⟩), (1, some ⟨[int xi, int xp, st xn, int xc, int xk, int xo], 6⟩)], 2⟩) (fun m => m ≤ i ∧ (l.take m).any (same1 xp xn) = false) (fun m => i - m) 0 ?_ ⟨zaZ _, rfl⟩ ?_
   · (refine imp_ren _ _ _ [(0, 0, ⟨[.gsl (Cs l) 0 l.length k, int n], 2⟩), (1, 7, ⟨[int xi, int xp, st xn, int xc, int xk, int xo], 6⟩)] (by simp) (by simp) (by simp) (zav rfl) ?_ rfl (by simp only [zae, zam, false_implies, implies_true, and_true, zaS, lookR, zaa, if_true, if_false, ↓reduceIte] <;> (repeat' apply zap) <;> (first | rfl | trivial)) (by simp only [zae, zam, false_implies, implies_true, and_true, true_and, flat_cons, flat_nil, flat_ints, flat_bools, flat_app, zaM, and_self, eq_self_iff_true, zaw]); simp only [zan, zao, zae, zam, false_implies, implies_true, and_true, lk, slot, zaC, zay, toN, zaa, if_true, if_false, ↓reduceIte, reduceCtorEq])
     all_goals ((repeat' apply zap) <;> (first | rfl | trivial))
   rintro m ⟨hm, hno⟩
   simp only at hm hno ⊢
   rcases zbd m i with hmi | hge
   case inr =>
     have c : ¬ (m : Int) < (i : Int) := by omega
     obtain rfl : m = i := by omega
     rw [hno, Bool.not_false, Bool.and_true]
     simp only [go_sem, zaa, zaf, zag, zah, zai, zad, ↓reduceIte, reduceCtorEq, zab, zac, zaj, zak, zal, decide_eq_false c]
     repeat' (first
 | exact fs_nil trivial rfl
 | fail)
   have c : (m : Int) < (i : Int) := by omega
   obtain ⟨g1, g2, g3, _⟩ := nd_f l m (by omega) (.sc (.int .i64 0))
   have g3' := (nd_f l m (by omega) (.sc (.string (bs [])))).2.2.1
   have hs := any_take_succ l m (by omega) (same1 xp xn)
   have hs2 := any_take_succ l m (by omega) (fun y => decide (y.i = xp))
   have hsm : same1 xp xn (gN l m) = (decide ((gN l m).p = xp) && decide ((gN l m).nm = xn)) := rfl
   rw [hno, Bool.false_or] at hs
   cases hdup : same1 xp xn (gN l m) with
   | true =>
     have hany : (l.take i).any (same1 xp xn) = true := (take_any_iff l i (zbl hi) _).2 ⟨m, hmi, hdup⟩
     rw [hany, Bool.not_true, zbh]
     rw [hsm] at hdup
     simp only [go_sem, zaa, zaf, zag, zah, zai, zad, ↓reduceIte, reduceCtorEq, zab, zac, zaj, zak, zal, decide_eq_true c, g1, g2, g3', hdup]
     repeat' (first
 | with_reducible refine zap ?_ ?_
 | (unfold OKC; kernel_rfl)
 | (unfold EDG; kernel_rfl)
 | exact ydd
 | exact fs_nil trivial rfl
 | fail)
   | false =>
     rw [hdup] at hs
     rw [hsm] at hdup
     simp only [go_sem, zaa, zaf, zag, zah, zai, zad, ↓reduceIte, reduceCtorEq, zab, zac, zaj, zak, zal, decide_eq_true c, g1, g2, g3', hdup]
     repeat' (first
 | with_reducible refine zap ?_ ?_
 | (unfold OKC; kernel_rfl)
 | (unfold EDG; kernel_rfl)
 | exact ydd
 | exact yda | fail)
     refine le_mk (m + 1) ?_ ⟨hmi, hs⟩ (by omega)
     rw [hs2]
     (refine imp_ren _ _ _ [(0, 0, ⟨[.gsl (Cs l) 0 l.length k, int n], 2⟩), (1, 1, ⟨[int xi, int xp, st xn, int xc, int xk, int xo], 6⟩)] (by simp) (by simp) (by simp) (zav rfl) ?_ rfl (by simp only [zae, zam, false_implies, implies_true, and_true, zaS, lookR, zaa, if_true, if_false, ↓reduceIte] <;> (repeat' apply zap) <;> (first | rfl | trivial)) (by simp only [zae, zam, false_implies, implies_true, and_true, true_and, flat_cons, flat_nil, flat_ints, flat_bools, flat_app, zaM, and_self, eq_self_iff_true, zaw]); simp only [zan, zao, zae, zam, false_implies, implies_true, and_true, lk, slot, zaC, zay, toN, zaa, if_true, if_false, ↓reduceIte, reduceCtorEq])
     all_goals ((repeat' apply zap) <;> (first | rfl | trivial | (simp only [zaz]; done) | (simp only [zaz]; rfl) | (simp only [zaz]; trivial)))
end Go.Proofs.YtnahpejlhfeleabGreat
namespace Go.Proofs.YtnahpejlhfeleabGreat
open Go.Proofs.YtnahpejlhfeleabGreat.Sh
set_option maxRecDepth 20000
set_option maxHeartbeats 8000000 in
theorem up_spec (l : List Nd) (k : Option Nat) (n : Int) (id0 : Int) (hl : l.length ≤ 1000000) : FnSpec Tryz.prog 104 [trV l k n, i1 id0] [] (gi (upL l id0) none) [] := by
 have hnl := nd_len l
 refine fnspec_of mixed TT_ok TT_cl ⟨fun _ => false, fun _ => [], 0, fun _ => false, fun _ => false⟩ Tryz.func104 rfl (by kernel_rfl) rfl 34 rfl [.tmp 4] rfl ?_
 simp only [go_sem, zaa, zaf, zag, zah, zai, zad, ↓reduceIte, reduceCtorEq, zab, zac, zaj, zak, zal]
 repeat' (first
 | with_reducible refine zap ?_ ?_
 | exact ydd
 | exact yda | fail)
 refine w_loop (ι := Nat × Int × List Int) (fun s => ⟨[(1, i1 s.2.1), (2, .one (.optr 0 0)), (5, .one (.osl 1 0 s.2.2.length none)), (6, i1 ((s.1 : Int) - 1))], [(0, some ⟨[.gsl (Cs l) 0 l.length k, int n], 2⟩), (1, some ⟨Ints s.2.2, 1⟩)], 2⟩) (fun s => s.1 ≤ l.length ∧ s.2.2.length + s.1 ≤ l.length ∧ upL l id0 = s.2.2 ++ upL (l.take s.1) s.2.1) (fun s => s.1) (l.length, id0, []) ?_ ⟨zaX _, by simp, by rw [List.take_length]; rfl⟩ ?_
 · (refine Imp.trans (imp_nilA _ _ 5 1 99 (by simp only []; omega) rfl) ?_)
   (refine imp_ren _ _ _ [(0, 0, ⟨[.gsl (Cs l) 0 l.length k, int n], 2⟩), (1, 99, ⟨[], 1⟩)] (by simp) (by simp) (by simp) (zav rfl) ?_ rfl (by simp only [zae, zam, false_implies, implies_true, and_true, zaS, lookR, zaa, if_true, if_false, ↓reduceIte] <;> (repeat' apply zap) <;> (first | rfl | trivial)) (by simp only [zae, zam, false_implies, implies_true, and_true, true_and, flat_cons, flat_nil, flat_ints, flat_bools, flat_app, zaM, and_self, eq_self_iff_true, zaw]); simp only [zan, zao, zae, zam, false_implies, implies_true, and_true, lk, slot, zaC, zay, toN, zaa, if_true, if_false, ↓reduceIte, reduceCtorEq])
   all_goals ((repeat' apply zap) <;> (first | rfl | trivial))
 rintro ⟨m, id, acc⟩ ⟨hm, ha, hI⟩
 simp only at hm ha hI ⊢
 cases m with
 | zero =>
   have c : ¬ (0 : Int) ≤ ((0 : Nat) : Int) - 1 := by omega
   have he : upL [] id = [] := rfl
   rw [zaT, he, zaw] at hI
   rw [hI]
   simp only [go_sem, zaa, zaf, zag, zah, zai, zad, ↓reduceIte, reduceCtorEq, zab, zac, zaj, zak, zal, decide_eq_false c]
   repeat' (first
 | with_reducible refine zap ?_ ?_
 | (refine gt_if (fun h => ?_) (fun h => ?_) <;> (try simp only [h]))
 | ((first | refine s1_id ?_ | refine swp_id ?_ | refine sops_id ?_ | refine s2_id ?_); simp only [decide_eq_false c, go_sem, zaa, zaf, zag, zah, zai, zad, ↓reduceIte, reduceCtorEq, zab, zac, zaj, zak, zal, zaC, zaF, zay, zaD, renO, bk, back, outUpsFrom, Ints_ren])
 | exact ydd
 | exact yda | fail)
   (refine fs_frz 1 ⟨Ints acc, 1⟩ (by simp only [zaS, lookR, zaa, if_true, if_false, ↓reduceIte]) (by first | exact Ints_isG _ | exact Bools_isG _ | exact Cs_isG _ | (simp [Cell.isG]; done)) ?_; simp only [frzTm, SV.frz, SV.frzL, Cell.frz, frzHp, frzO, Ints_frz, Bools_frz, zan, zao, zaa, if_true, if_false, ↓reduceIte])
   apply fs_nil <;> (try simp only [go_sem, resV, resS, zaC, zaF, zay, zbi, zaS, idx, renO, zaD, evS, slot, lookR, zaa, ↓reduceIte, reduceCtorEq, if_true, if_false, zaG, zaH, zan, zao, sLoad, readAt, readNeed, Ints_ren, Ints_length, Ints_getD, and_true, true_and, zaA, zaB]) <;> (try rfl)
 | succ m =>
   have c : (0 : Int) ≤ ((m + 1 : Nat) : Int) - 1 := by omega
   have e1 : (((m + 1 : Nat) : Int) - 1).toNat = m := by omega
   have e2 : ((m + 1 : Nat) : Int) - 1 = (m : Int) := by omega
   have hlt : m < l.length := by omega
   obtain ⟨g1, g2, _⟩ := nd_f l m hlt (.sc (.int .i64 0))
   rw [upL_take l m hlt] at hI
   by_cases hid : (gN l m).i = id
   · rw [if_pos hid] at hI
     have htk : zbm acc.length (Ints acc) = Ints acc := zba (by rw [Ints_length]; exact zaX _)
     have hpp : Ints acc ++ [int id] = Ints (acc ++ [id]) := by simp [Ints]
     have hla : (acc ++ [id]).length = acc.length + 1 := by simp
     simp only [go_sem, zaa, zaf, zag, zah, zai, zad, ↓reduceIte, reduceCtorEq, zab, zac, zaj, zak, zal, e2, decide_eq_true (Int.natCast_nonneg m), g1, g2, decide_eq_true hid]
     repeat' (first
 | with_reducible refine zap ?_ ?_
 | exact ydd
 | exact yda | fail)
     refine le_mk (m, (gN l m).p, acc ++ [id]) ?_ ⟨zbl hlt, by show (acc ++ [id]).length + m ≤ l.length; rw [hla]; omega, by rw [hI]; simp⟩ (Nat.lt_succ_self m)
     simp only [hla]
     (refine imp_ren _ _ _ [(0, 0, ⟨[.gsl (Cs l) 0 l.length k, int n], 2⟩), (1, 15, ⟨Ints (acc ++ [id]), 1⟩)] (by simp) (by simp) (by simp) (zav rfl) ?_ rfl (by simp only [zae, zam, false_implies, implies_true, and_true, zaS, lookR, zaa, if_true, if_false, ↓reduceIte] <;> (repeat' apply zap) <;> (first | rfl | trivial)) (by simp only [zae, zam, false_implies, implies_true, and_true, true_and, flat_cons, flat_nil, flat_ints, flat_bools, flat_app, zaM, and_self, eq_self_iff_true, zaw]); simp only [zan, zao, zae, zam, false_implies, implies_true, and_true, lk, slot, zaC, zay, toN, zaa, if_true, if_false, ↓reduceIte, reduceCtorEq])
     all_goals ((repeat' apply zap) <;> (first | rfl | trivial | (simp only []; done) | (simp only []; rfl) | (simp only []; trivial)))
   · rw [if_neg hid] at hI
     simp only [go_sem, zaa, zaf, zag, zah, zai, zad, ↓reduceIte, reduceCtorEq, zab, zac, zaj, zak, zal, e2, decide_eq_true (Int.natCast_nonneg m), g1, g2, decide_eq_false hid]
     repeat' (first
 | with_reducible refine zap ?_ ?_
 | exact ydd
 | exact yda | fail)
     refine le_mk (m, id, acc) ?_ ⟨zbl hlt, by show acc.length + m ≤ l.length; omega, hI⟩ (Nat.lt_succ_self m)
     (refine imp_ren _ _ _ [(0, 0, ⟨[.gsl (Cs l) 0 l.length k, int n], 2⟩), (1, 1, ⟨Ints acc, 1⟩)] (by simp) (by simp) (by simp) (zav rfl) ?_ rfl (by simp only [zae, zam, false_implies, implies_true, and_true, zaS, lookR, zaa, if_true, if_false, ↓reduceIte] <;> (repeat' apply zap) <;> (first | rfl | trivial)) (by simp only [zae, zam, false_implies, implies_true, and_true, true_and, flat_cons, flat_nil, flat_ints, flat_bools, flat_app, zaM, and_self, eq_self_iff_true, zaw]); simp only [zan, zao, zae, zam, false_implies, implies_true, and_true, lk, slot, zaC, zay, toN, zaa, if_true, if_false, ↓reduceIte, reduceCtorEq])
     all_goals ((repeat' apply zap) <;> (first | rfl | trivial | (simp only []; done) | (simp only []; rfl) | (simp only []; trivial)))
def NmR (l : List Nd) : Prop := ∀ x ∈ l, x.nm.length ≤ 9223372036854775807
theorem NmR.at {l : List Nd} (h : NmR l) (i : Nat) (hi : i < l.length) : (gN l i).nm.length ≤ 9223372036854775807 := h _ (getD_mem l i zn hi)
set_option maxHeartbeats 8000000 in
theorem trcheck_spec (l : List Nd) (k : Option Nat) (n : Int) (hl : l.length ≤ 1000000) (hnm : NmR l) : FnSpec Tryz.prog 57 [trV l k n] [] (b1 (chkT l n)) [] := by
 have hnl := nd_len l
 by_cases h1 : (l.length : Int) < 1
 · rw [chkT_not fun h => by have := h.ne; omega]
   refine fnspec_of mixed TT_ok TT_cl ⟨fun _ => false, fun _ => [], 0, fun _ => false, fun _ => false⟩ Tryz.func57 rfl (by kernel_rfl) rfl 54 rfl [.tmp 2] rfl ?_
   simp only [go_sem, zaa, zaf, zag, zah, zai, zad, ↓reduceIte, reduceCtorEq, zab, zac, zaj, zak, zal, decide_eq_true h1]
   repeat' (first
 | exact fs_nil trivial rfl
 | fail)
 by_cases h64 : 64 < (l.length : Int)
 · rw [chkT_not fun h => by have := h.le; omega]
   refine fnspec_of mixed TT_ok TT_cl ⟨fun _ => false, fun _ => [], 0, fun _ => false, fun _ => false⟩ Tryz.func57 rfl (by kernel_rfl) rfl 54 rfl [.tmp 2] rfl ?_
   simp only [go_sem, zaa, zaf, zag, zah, zai, zad, ↓reduceIte, reduceCtorEq, zab, zac, zaj, zak, zal, decide_eq_false h1, decide_eq_true h64]
   repeat' (first
 | exact fs_nil trivial rfl
 | fail)
 have h1' : 1 ≤ l.length := by omega
 have h64' : l.length ≤ 64 := by omega
 refine fnspec_of mixed TT_ok TT_cl ⟨fun _ => false, fun _ => [], 0, fun _ => false, fun _ => false⟩ Tryz.func57 rfl (by kernel_rfl) rfl 54 rfl [.tmp 2] rfl ?_
 simp only [go_sem, zaa, zaf, zag, zah, zai, zad, ↓reduceIte, reduceCtorEq, zab, zac, zaj, zak, zal, decide_eq_false h1, decide_eq_false h64]
 repeat' (first
 | exact yda | fail)
 refine w_loop (ι := Nat) (fun m => ⟨[(1, .one (.optr 0 0)), (3, i1 l.length), (4, i1 m)], [(0, some ⟨[.gsl (Cs l) 0 l.length k, int n], 2⟩)], 1⟩) (fun m => m ≤ l.length ∧ ∀ i, i < m → stOk l i = true) (fun m => l.length - m) 0 ?_ ⟨zaZ _, fun i hi => absurd hi (Nat.not_lt_zero _)⟩ ?_
 · (refine imp_ren _ _ _ [(0, 0, ⟨[.gsl (Cs l) 0 l.length k, int n], 2⟩)] (by simp) (by simp) (by simp) (zav rfl) ?_ rfl (by simp only [zae, zam, false_implies, implies_true, and_true, zaS, lookR, zaa, if_true, if_false, ↓reduceIte] <;> (repeat' apply zap) <;> (first | rfl | trivial)) (by simp only [zae, zam, false_implies, implies_true, and_true, true_and, flat_cons, flat_nil, flat_ints, flat_bools, flat_app, zaM, and_self, eq_self_iff_true, zaw]); simp only [zan, zao, zae, zam, false_implies, implies_true, and_true, lk, slot, zaC, zay, toN, zaa, if_true, if_false, ↓reduceIte, reduceCtorEq])
   all_goals ((repeat' apply zap) <;> (first | rfl | trivial))
 rintro m ⟨hm, hst⟩
 simp only at hm hst ⊢
 rcases zbd m l.length with hlt | hge
 case inl =>
   have c : (m : Int) < (l.length : Int) := by omega
   have h2 := node_spec l k n m hlt hl (hnm.at m hlt)
   cases hb : stOk l m with
   | false =>
     rw [chkT_not fun h => by have := h.st m hlt; rw [hb] at this; cases this]
     rw [hb] at h2
     simp only [go_sem, zaa, zaf, zag, zah, zai, zad, ↓reduceIte, reduceCtorEq, zab, zac, zaj, zak, zal, decide_eq_true c]
     repeat' (first
 | (apply cl_plain
    case hs => rfl
    case ha => exact ydb
    case h => (first | exact h2 ..))
 | ((first | refine s1_id ?_ | refine swp_id ?_ | refine sops_id ?_ | refine s2_id ?_); simp only [decide_eq_true c, go_sem, zaa, zaf, zag, zah, zai, zad, ↓reduceIte, reduceCtorEq, zab, zac, zaj, zak, zal, zaC, zaF, zay, zaD, renO, bk, back, outUpsFrom, Ints_ren])
 | exact fs_nil trivial rfl
 | fail)
   | true =>
     rw [hb] at h2
     simp only [go_sem, zaa, zaf, zag, zah, zai, zad, ↓reduceIte, reduceCtorEq, zab, zac, zaj, zak, zal, decide_eq_true c]
     repeat' (first
 | with_reducible refine zap ?_ ?_
 | (apply cl_plain
    case hs => rfl
    case ha => exact ydb
    case h => (first | exact h2 ..))
 | ((first | refine s1_id ?_ | refine swp_id ?_ | refine sops_id ?_ | refine s2_id ?_); simp only [decide_eq_true c, go_sem, zaa, zaf, zag, zah, zai, zad, ↓reduceIte, reduceCtorEq, zab, zac, zaj, zak, zal, zaC, zaF, zay, zaD, renO, bk, back, outUpsFrom, Ints_ren])
 | exact ydd
 | exact yda | fail)
     refine le_mk (m + 1) ?_ ⟨hlt, fun i hi => by rcases Nat.lt_succ_iff_lt_or_eq.1 hi with h | h; (· exact hst i h); (· rw [h]; exact hb)⟩ (by omega)
     (refine imp_ren _ _ _ [(0, 0, ⟨[.gsl (Cs l) 0 l.length k, int n], 2⟩)] (by simp) (by simp) (by simp) (zav rfl) ?_ rfl (by simp only [zae, zam, false_implies, implies_true, and_true, zaS, lookR, zaa, if_true, if_false, ↓reduceIte] <;> (repeat' apply zap) <;> (first | rfl | trivial)) (by simp only [zae, zam, false_implies, implies_true, and_true, true_and, flat_cons, flat_nil, flat_ints, flat_bools, flat_app, zaM, and_self, eq_self_iff_true, zaw]); simp only [zan, zao, zae, zam, false_implies, implies_true, and_true, lk, slot, zaC, zay, toN, zaa, if_true, if_false, ↓reduceIte, reduceCtorEq])
     all_goals ((repeat' apply zap) <;> (first | rfl | trivial | (simp only [zaz]; done) | (simp only [zaz]; rfl) | (simp only [zaz]; trivial)))
 have c : ¬ (m : Int) < (l.length : Int) := by omega
 obtain rfl : m = l.length := by omega
 simp only [go_sem, zaa, zaf, zag, zah, zai, zad, ↓reduceIte, reduceCtorEq, zab, zac, zaj, zak, zal, decide_eq_false c]
 repeat' (first
 | exact yda | fail)
 refine w_loop (ι := Nat) (fun m => ⟨[(1, .one (.optr 0 0)), (3, i1 l.length), (5, i1 m)], [(0, some ⟨[.gsl (Cs l) 0 l.length k, int n], 2⟩)], 1⟩) (fun m => m ≤ l.length ∧ ∀ i, i < m → (upL l (gN l i).i).length ≤ 9) (fun m => l.length - m) 0 ?_ ⟨zaZ _, fun i hi => absurd hi (Nat.not_lt_zero _)⟩ ?_
 · (refine imp_ren _ _ _ [(0, 0, ⟨[.gsl (Cs l) 0 l.length k, int n], 2⟩)] (by simp) (by simp) (by simp) (zav rfl) ?_ rfl (by simp only [zae, zam, false_implies, implies_true, and_true, zaS, lookR, zaa, if_true, if_false, ↓reduceIte] <;> (repeat' apply zap) <;> (first | rfl | trivial)) (by simp only [zae, zam, false_implies, implies_true, and_true, true_and, flat_cons, flat_nil, flat_ints, flat_bools, flat_app, zaM, and_self, eq_self_iff_true, zaw]); simp only [zan, zao, zae, zam, false_implies, implies_true, and_true, lk, slot, zaC, zay, toN, zaa, if_true, if_false, ↓reduceIte, reduceCtorEq])
   all_goals ((repeat' apply zap) <;> (first | rfl | trivial))
 rintro m ⟨hm, hdp⟩
 simp only at hm hdp ⊢
 rcases zbd m l.length with hlt | hge
 case inl =>
   have c : (m : Int) < (l.length : Int) := by omega
   have h3 := up_spec l k n (gN l m).i hl
   obtain ⟨g1, _⟩ := nd_f l m hlt (.sc (.int .i64 0))
   by_cases h9 : 9 < ((upL l (gN l m).i).length : Int)
   · rw [chkT_not fun h => by have := h.dp m hlt; omega]
     generalize upL l (gN l m).i = U at *
     simp only [go_sem, zaa, zaf, zag, zah, zai, zad, ↓reduceIte, reduceCtorEq, zab, zac, zaj, zak, zal, decide_eq_true c, g1, decide_eq_true h9]
     repeat' (first
 | with_reducible refine zap ?_ ?_
 | (unfold OKC; kernel_rfl)
 | (unfold EDG; kernel_rfl)
 | (apply cl_plain
    case hs => rfl
    case ha => exact ydb
    case h => (first | exact h3 ..))
 | ((first | refine s1_id ?_ | refine swp_id ?_ | refine sops_id ?_ | refine s2_id ?_); simp only [decide_eq_true c, g1, decide_eq_true h9, go_sem, zaa, zaf, zag, zah, zai, zad, ↓reduceIte, reduceCtorEq, zab, zac, zaj, zak, zal, zaC, zaF, zay, zaD, renO, bk, back, outUpsFrom, Ints_ren])
 | exact ydd
 | exact fs_nil trivial rfl
 | fail)
   · have h9' : (upL l (gN l m).i).length ≤ 9 := by omega
     have hnx : ∀ i, i < m + 1 → (upL l (gN l i).i).length ≤ 9 := fun i hi => by rcases Nat.lt_succ_iff_lt_or_eq.1 hi with h | h; (· exact hdp i h); (· rw [h]; exact h9')
     generalize upL l (gN l m).i = U at *
     simp only [go_sem, zaa, zaf, zag, zah, zai, zad, ↓reduceIte, reduceCtorEq, zab, zac, zaj, zak, zal, decide_eq_true c, g1, decide_eq_false h9]
     repeat' (first
 | with_reducible refine zap ?_ ?_
 | (unfold OKC; kernel_rfl)
 | (unfold EDG; kernel_rfl)
 | (apply cl_plain
    case hs => rfl
    case ha => exact ydb
    case h => (first | exact h3 ..))
 | ((first | refine s1_id ?_ | refine swp_id ?_ | refine sops_id ?_ | refine s2_id ?_); simp only [decide_eq_true c, g1, decide_eq_false h9, go_sem, zaa, zaf, zag, zah, zai, zad, ↓reduceIte, reduceCtorEq, zab, zac, zaj, zak, zal, zaC, zaF, zay, zaD, renO, bk, back, outUpsFrom, Ints_ren])
 | exact ydd
 | exact yda | fail)
     refine le_mk (m + 1) ?_ ⟨hlt, hnx⟩ (by omega)
     (refine imp_ren _ _ _ [(0, 0, ⟨[.gsl (Cs l) 0 l.length k, int n], 2⟩)] (by simp) (by simp) (by simp) (zav rfl) ?_ rfl (by simp only [zae, zam, false_implies, implies_true, and_true, zaS, lookR, zaa, if_true, if_false, ↓reduceIte] <;> (repeat' apply zap) <;> (first | rfl | trivial)) (by simp only [zae, zam, false_implies, implies_true, and_true, true_and, flat_cons, flat_nil, flat_ints, flat_bools, flat_app, zaM, and_self, eq_self_iff_true, zaw]); simp only [zan, zao, zae, zam, false_implies, implies_true, and_true, lk, slot, zaC, zay, toN, zaa, if_true, if_false, ↓reduceIte, reduceCtorEq])
     all_goals ((repeat' apply zap) <;> (first | rfl | trivial | (simp only [zaz]; done) | (simp only [zaz]; rfl) | (simp only [zaz]; trivial)))
 have c : ¬ (m : Int) < (l.length : Int) := by omega
 obtain rfl : m = l.length := by omega
 have hin : ((l.length : Int) - 1).toNat = l.length - 1 := by omega
 obtain ⟨g1, _⟩ := nd_f l (l.length - 1) (by omega) (.sc (.int .i64 0))
 have hres : chkT l n = (decide ((gN l (l.length - 1)).i < n) && decide (n ≤ 2147483648)) := by
   unfold chkT
   rw [decide_eq_true h1', decide_eq_true h64', (allN_iff _ _).2 hst, (allN_iff _ _).2 fun i hi => decide_eq_true (hdp i hi)]
   rfl
 rw [hres]
 simp only [go_sem, zaa, zaf, zag, zah, zai, zad, ↓reduceIte, reduceCtorEq, zab, zac, zaj, zak, zal, decide_eq_false c, hin, g1]
 repeat' (first
 | with_reducible refine zap ?_ ?_
 | (unfold OKC; kernel_rfl)
 | (unfold EDG; kernel_rfl)
 | exact ydd
 | exact fs_nil trivial rfl
 | fail)
end Go.Proofs.YtnahpejlhfeleabGreat
namespace Go.Proofs.YtnahpejlhfeleabGreat
open Go.Proofs.YtnahpejlhfeleabGreat.Sh
set_option maxRecDepth 20000
theorem nan_spec (a : Int) : FnSpec Tryz.prog 121 [i1 a] [] (b1 false) [] := by
 refine fnspec_of mixed TT_ok TT_cl ⟨fun _ => false, fun _ => [], 0, fun _ => false, fun _ => false⟩ Tryz.func121 rfl (by kernel_rfl) rfl 6 rfl [.tmp 2] rfl ?_
 simp only [go_sem, zaa, zaf, zag, zah, zai, zad, ↓reduceIte, reduceCtorEq, zab, zac, zaj, zak, zal]
 repeat' (first
 | exact fs_nil trivial rfl
 | fail)
theorem cmp_spec (a b : Int) : FnSpec Tryz.prog 101 [i1 a, i1 b] [] (i1 (cmpv a b)) [] := by
 unfold cmpv
 by_cases h1 : a < b
 · rw [if_pos h1]
   refine fnspec_of mixed TT_ok TT_cl ⟨fun _ => false, fun _ => [], 0, fun _ => false, fun _ => false⟩ Tryz.func101 rfl (by kernel_rfl) rfl 20 rfl [.tmp 4] rfl ?_
   simp only [go_sem, zaa, zaf, zag, zah, zai, zad, ↓reduceIte, reduceCtorEq, zab, zac, zaj, zak, zal]
   repeat' (first
 | (apply cl_plain
    case hs => rfl
    case ha => exact ydb
    case h => (first | exact nan_spec ..))
 | ((first | refine s1_id ?_ | refine swp_id ?_ | refine sops_id ?_ | refine s2_id ?_); simp only [decide_eq_true h1, go_sem, zaa, zaf, zag, zah, zai, zad, ↓reduceIte, reduceCtorEq, zab, zac, zaj, zak, zal, zaC, zaF, zay, zaD, renO, bk, back, outUpsFrom, Ints_ren])
 | exact fs_nil trivial rfl
 | fail)
 rw [if_neg h1]
 by_cases h2 : b < a
 · rw [if_pos h2]
   refine fnspec_of mixed TT_ok TT_cl ⟨fun _ => false, fun _ => [], 0, fun _ => false, fun _ => false⟩ Tryz.func101 rfl (by kernel_rfl) rfl 20 rfl [.tmp 4] rfl ?_
   simp only [go_sem, zaa, zaf, zag, zah, zai, zad, ↓reduceIte, reduceCtorEq, zab, zac, zaj, zak, zal]
   repeat' (first
 | (apply cl_plain
    case hs => rfl
    case ha => exact ydb
    case h => (first | exact nan_spec ..))
 | ((first | refine s1_id ?_ | refine swp_id ?_ | refine sops_id ?_ | refine s2_id ?_); simp only [decide_eq_false h1, decide_eq_true h2, go_sem, zaa, zaf, zag, zah, zai, zad, ↓reduceIte, reduceCtorEq, zab, zac, zaj, zak, zal, zaC, zaF, zay, zaD, renO, bk, back, outUpsFrom, Ints_ren])
 | exact fs_nil trivial rfl
 | fail)
 rw [if_neg h2]
 refine fnspec_of mixed TT_ok TT_cl ⟨fun _ => false, fun _ => [], 0, fun _ => false, fun _ => false⟩ Tryz.func101 rfl (by kernel_rfl) rfl 20 rfl [.tmp 4] rfl ?_
 simp only [go_sem, zaa, zaf, zag, zah, zai, zad, ↓reduceIte, reduceCtorEq, zab, zac, zaj, zak, zal]
 repeat' (first
 | (apply cl_plain
    case hs => rfl
    case ha => exact ydb
    case h => (first | exact nan_spec ..))
 | ((first | refine s1_id ?_ | refine swp_id ?_ | refine sops_id ?_ | refine s2_id ?_); simp only [decide_eq_false h1, decide_eq_false h2, go_sem, zaa, zaf, zag, zah, zai, zad, ↓reduceIte, reduceCtorEq, zab, zac, zaj, zak, zal, zaC, zaF, zay, zaD, renO, bk, back, outUpsFrom, Ints_ren])
 | exact fs_nil trivial rfl
 | fail)
end Go.Proofs.YtnahpejlhfeleabGreat
namespace Go.Proofs.YtnahpejlhfeleabGreat
open Go.Proofs.YtnahpejlhfeleabGreat.Sh
set_option maxRecDepth 20000
def CtR (l : List Nd) : Prop := ∀ x ∈ l, -9223372036854775808 ≤ x.c ∧ x.c ≤ 9223372036854775807
theorem inRange_spec (x : Nd) (hc : -9223372036854775808 ≤ x.c ∧ x.c ≤ 9223372036854775807) : FnSpec Tryz.prog 118 [.agg (ndc x)] [] (b1 (rngOk x)) [] := by
 have h1 := andN_iff x.c hc
 obtain ⟨xi, xp, xn, xc, xk, xo⟩ := x
 simp only [ndc] at h1 ⊢
 unfold rngOk
 have e : (decide (0 ≤ xc) && decide (xc ≤ 31) && (decide (0 ≤ xo) && decide (xo ≤ 1048576))) = (decide (andN xc = 0) && decide (0 ≤ xo) && decide (xo ≤ 1048576)) := by
   rw [decide_eq_decide.2 h1, Bool.decide_and, Bool.and_assoc (decide (0 ≤ xc) && decide (xc ≤ 31))]
 simp only
 rw [e]
 refine fnspec_of mixed TT_ok TT_cl ⟨fun _ => false, fun _ => [], 0, fun _ => false, fun _ => false⟩ Tryz.func118 rfl (by kernel_rfl) rfl 17 rfl [.tmp 2] rfl ?_
 simp only [go_sem, zaa, zaf, zag, zah, zai, zad, ↓reduceIte, reduceCtorEq, zab, zac, zaj, zak, zal]
 repeat' (first
 | exact fs_nil trivial rfl
 | fail)
theorem isRoot_spec (x : Nd) (hc : -9223372036854775808 ≤ x.c ∧ x.c ≤ 9223372036854775807) : FnSpec Tryz.prog 95 [.agg (ndc x)] [] (b1 (rootOk x && rngOk x)) [] := by
 have h1 := inRange_spec x hc
 unfold rootOk
 obtain ⟨xi, xp, xn, xc, xk, xo⟩ := x
 simp only [ndc] at h1 ⊢
 generalize rngOk ⟨xi, xp, xn, xc, xk, xo⟩ = r at *
 cases hb : (decide (xi = 1) && decide (xp = 0) && decide (xn = []) && decide (xk = 0)) with
 | false =>
   rw [zaR]
   refine fnspec_of mixed TT_ok TT_cl ⟨fun _ => false, fun _ => [], 0, fun _ => false, fun _ => false⟩ Tryz.func95 rfl (by kernel_rfl) rfl 25 rfl [.tmp 2] rfl ?_
   simp only [go_sem, zaa, zaf, zag, zah, zai, zad, ↓reduceIte, reduceCtorEq, zab, zac, zaj, zak, zal, hb]
   repeat' (first
 | exact fs_nil trivial rfl
 | fail)
 | true =>
   rw [zaW]
   refine fnspec_of mixed TT_ok TT_cl ⟨fun _ => false, fun _ => [], 0, fun _ => false, fun _ => false⟩ Tryz.func95 rfl (by kernel_rfl) rfl 25 rfl [.tmp 2] rfl ?_
   simp only [go_sem, zaa, zaf, zag, zah, zai, zad, ↓reduceIte, reduceCtorEq, zab, zac, zaj, zak, zal, hb]
   repeat' (first
 | (apply cg_tp
    case hl => rfl
    case ha => exact ydb
    case hs => rfl
    case h => exact yde)
 | ((first | refine s1_id ?_ | refine swp_id ?_ | refine sops_id ?_ | refine s2_id ?_); simp only [hb, zaL, zaP, zaw, zaN, zaQ, zaJ, zaK, zaI, zaT, zaV, zaE, zaO, go_sem, zaa, zaf, zag, zah, zai, zad, ↓reduceIte, reduceCtorEq, zab, zac, zaj, zak, zal, zaC, zaF, zay, zaD, renO, bk, back, outUpsFrom, Ints_ren])
 | exact fs_nil trivial rfl
 | fail)
theorem isChild_spec (x : Nd) (hc : -9223372036854775808 ≤ x.c ∧ x.c ≤ 9223372036854775807) (hn : x.nm.length ≤ 9223372036854775807) : FnSpec Tryz.prog 97 [.agg (ndc x)] [] (b1 (nmOk x.nm && kdOk x && rngOk x)) [] := by
 have h1 := inRange_spec x hc
 have h2 := valid_spec x.nm (by omega)
 unfold kdOk
 obtain ⟨xi, xp, xn, xc, xk, xo⟩ := x
 simp only [ndc] at h1 h2 ⊢
 generalize rngOk ⟨xi, xp, xn, xc, xk, xo⟩ = r at *
 cases hv : nmOk xn with
 | false =>
   rw [hv] at h2
   simp only [zaR]
   refine fnspec_of mixed TT_ok TT_cl ⟨fun _ => false, fun _ => [], 0, fun _ => false, fun _ => false⟩ Tryz.func97 rfl (by kernel_rfl) rfl 20 rfl [.tmp 2] rfl ?_
   simp only [go_sem, zaa, zaf, zag, zah, zai, zad, ↓reduceIte, reduceCtorEq, zab, zac, zaj, zak, zal]
   repeat' (first
 | (apply cl_plain
    case hs => rfl
    case ha => exact ydb
    case h => (first | exact h2 ..))
 | ((first | refine s1_id ?_ | refine swp_id ?_ | refine sops_id ?_ | refine s2_id ?_); simp only [zaL, zaP, zaw, zaN, zaQ, zaJ, zaK, zaI, zaT, zaV, zaE, zaO, go_sem, zaa, zaf, zag, zah, zai, zad, ↓reduceIte, reduceCtorEq, zab, zac, zaj, zak, zal, zaC, zaF, zay, zaD, renO, bk, back, outUpsFrom, Ints_ren])
 | exact fs_nil trivial rfl
 | fail)
 | true =>
   rw [hv] at h2
   simp only [zaW]
   cases hb : (decide (xk = 0) || decide (xk = 1)) with
   | false =>
     rw [zaR]
     refine fnspec_of mixed TT_ok TT_cl ⟨fun _ => false, fun _ => [], 0, fun _ => false, fun _ => false⟩ Tryz.func97 rfl (by kernel_rfl) rfl 20 rfl [.tmp 2] rfl ?_
     simp only [go_sem, zaa, zaf, zag, zah, zai, zad, ↓reduceIte, reduceCtorEq, zab, zac, zaj, zak, zal, hb]
     repeat' (first
 | (apply cl_plain
    case hs => rfl
    case ha => exact ydb
    case h => exact ydg)
 | ((first | refine s1_id ?_ | refine swp_id ?_ | refine sops_id ?_ | refine s2_id ?_); simp only [hb, zaL, zaP, zaw, zaN, zaQ, zaJ, zaK, zaI, zaT, zaV, zaE, zaO, go_sem, zaa, zaf, zag, zah, zai, zad, ↓reduceIte, reduceCtorEq, zab, zac, zaj, zak, zal, zaC, zaF, zay, zaD, renO, bk, back, outUpsFrom, Ints_ren])
 | exact fs_nil trivial rfl
 | fail)
   | true =>
     rw [zaW]
     refine fnspec_of mixed TT_ok TT_cl ⟨fun _ => false, fun _ => [], 0, fun _ => false, fun _ => false⟩ Tryz.func97 rfl (by kernel_rfl) rfl 20 rfl [.tmp 2] rfl ?_
     simp only [go_sem, zaa, zaf, zag, zah, zai, zad, ↓reduceIte, reduceCtorEq, zab, zac, zaj, zak, zal, hb]
     repeat' (first
 | (apply cg_tp
    case hl => rfl
    case ha => exact ydb
    case hs => rfl
    case h => exact ydg)
 | (apply cl_plain
    case hs => rfl
    case ha => exact ydb
    case h => exact ydg)
 | ((first | refine s1_id ?_ | refine swp_id ?_ | refine sops_id ?_ | refine s2_id ?_); simp only [hb, zaL, zaP, zaw, zaN, zaQ, zaJ, zaK, zaI, zaT, zaV, zaE, zaO, go_sem, zaa, zaf, zag, zah, zai, zad, ↓reduceIte, reduceCtorEq, zab, zac, zaj, zak, zal, zaC, zaF, zay, zaD, renO, bk, back, outUpsFrom, Ints_ren])
 | exact fs_nil trivial rfl
 | fail)
set_option maxHeartbeats 4000000 in
theorem taken_spec (l : List Nd) (k : Option Nat) (p : Int) (s : Str) (hl : l.length ≤ 1000000) : FnSpec Tryz.prog 98 [gr l k, i1 p, s1 s] [] (b1 (l.any (same1 p s))) [] := by
 have hnl := nd_len l
 refine fnspec_of mixed TT_ok TT_cl ⟨fun _ => false, fun _ => [], 0, fun _ => false, fun _ => false⟩ Tryz.func98 rfl (by kernel_rfl) rfl 30 rfl [.tmp 6] rfl ?_
 simp only [go_sem, zaa, zaf, zag, zah, zai, zad, ↓reduceIte, reduceCtorEq, zab, zac, zaj, zak, zal]
 repeat' (first
 | exact yda | fail)
 refine w_loop (ι := Nat) (fun m => ⟨[(0, gr l k), (1, i1 p), (2, s1 s), (9, i1 l.length), (10, i1 m)], [], 0⟩) (fun m => m ≤ l.length ∧ (l.take m).any (same1 p s) = false) (fun m => l.length - m) 0 ?_ ⟨zaZ _, rfl⟩ ?_
 · (refine imp_ren _ _ _ [] (by simp) (by simp) (by simp) (zav rfl) ?_ rfl (by simp only [zae, zam, false_implies, implies_true, and_true, zaS, lookR, zaa, if_true, if_false, ↓reduceIte] <;> (repeat' apply zap) <;> (first | rfl | trivial)) (by simp only [zae, zam, false_implies, implies_true, and_true, true_and, flat_cons, flat_nil, flat_ints, flat_bools, flat_app, zaM, and_self, eq_self_iff_true, zaw]); simp only [zan, zao, zae, zam, false_implies, implies_true, and_true, lk, slot, zaC, zay, toN, zaa, if_true, if_false, ↓reduceIte, reduceCtorEq])
   all_goals ((repeat' apply zap) <;> (first | rfl | trivial))
 rintro m ⟨hm, hno⟩
 simp only at hm hno ⊢
 rcases zbd m l.length with hlt | hge
 case inr =>
   have c : ¬ (m : Int) < (l.length : Int) := by omega
   rw [zba hge] at hno
   rw [hno]
   simp only [go_sem, zaa, zaf, zag, zah, zai, zad, ↓reduceIte, reduceCtorEq, zab, zac, zaj, zak, zal, decide_eq_false c]
   repeat' (first
 | exact fs_nil trivial rfl
 | fail)
 have c : (m : Int) < (l.length : Int) := by omega
 obtain ⟨_, g2, _⟩ := nd_f l m hlt (.sc (.int .i64 0))
 have g3 := (nd_f l m hlt (.sc (.string (bs [])))).2.2.1
 have hs2 := any_take_succ l m hlt (same1 p s)
 have hsm : same1 p s (gN l m) = (decide ((gN l m).p = p) && decide ((gN l m).nm = s)) := rfl
 rw [hno, Bool.false_or] at hs2
 cases hdup : same1 p s (gN l m) with
 | true =>
   have hany : l.any (same1 p s) = true := List.any_eq_true.2 ⟨gN l m, getD_mem l m zn hlt, hdup⟩
   rw [hany]
   rw [hsm] at hdup
   simp only [go_sem, zaa, zaf, zag, zah, zai, zad, ↓reduceIte, reduceCtorEq, zab, zac, zaj, zak, zal, decide_eq_true c, g2, g3, hdup]
   repeat' (first
 | with_reducible refine zap ?_ ?_
 | exact ydd
 | exact fs_nil trivial rfl
 | fail)
 | false =>
   rw [hdup] at hs2
   rw [hsm] at hdup
   simp only [go_sem, zaa, zaf, zag, zah, zai, zad, ↓reduceIte, reduceCtorEq, zab, zac, zaj, zak, zal, decide_eq_true c, g2, g3, hdup]
   repeat' (first
 | with_reducible refine zap ?_ ?_
 | exact ydd
 | exact yda | fail)
   refine le_mk (m + 1) ?_ ⟨hlt, hs2⟩ (by omega)
   (refine imp_ren _ _ _ [] (by simp) (by simp) (by simp) (zav rfl) ?_ rfl (by simp only [zae, zam, false_implies, implies_true, and_true, zaS, lookR, zaa, if_true, if_false, ↓reduceIte] <;> (repeat' apply zap) <;> (first | rfl | trivial)) (by simp only [zae, zam, false_implies, implies_true, and_true, true_and, flat_cons, flat_nil, flat_ints, flat_bools, flat_app, zaM, and_self, eq_self_iff_true, zaw]); simp only [zan, zao, zae, zam, false_implies, implies_true, and_true, lk, slot, zaC, zay, toN, zaa, if_true, if_false, ↓reduceIte, reduceCtorEq])
   all_goals ((repeat' apply zap) <;> (first | rfl | trivial | (simp only [zaz]; done) | (simp only [zaz]; rfl) | (simp only [zaz]; trivial)))
set_option maxHeartbeats 4000000 in
theorem nd_bs (g : FuncId) (xs : List (Nd)) (id : Int) (hg : ∀ x ∈ xs, FnSpec Tryz.prog g [.agg (Rec.cs x), i1 id] [] (i1 (cmpv (Nd.i x) id)) []) (cap : Option Nat) (hl : xs.length ≤ 4611686018427387904) : FnSpec Tryz.prog 99 [gr xs cap, i1 id, .one (.fn g [])] [] (.tup [i1 (bsV Nd.i xs id), b1 (bsF Nd.i xs id)]) [] := by
 have hil : (Cs xs).length = xs.length * 6 := Cs_len xs
 refine fnspec_of mixed TT_ok TT_cl ⟨fun _ => false, fun _ => [], 0, fun _ => false, fun _ => false⟩ Tryz.func99 rfl (by kernel_rfl) rfl 49 rfl [.tmp 6, .tmp 7] rfl ?_
 simp only [go_sem, zaa, zaf, zag, zah, zai, zad, ↓reduceIte, reduceCtorEq, zab, zac, zaj, zak, zal]
 repeat' (first
 | exact yda | fail)
 refine w_loop (ι := Nat × Nat) (fun s => ⟨[(0, gr xs cap), (1, i1 id), (2, .one (.fn g [])), (8, i1 xs.length), (9, i1 s.1), (10, i1 s.2)], [], 0⟩) (fun s => s.1 ≤ s.2 ∧ s.2 ≤ xs.length ∧ bsG (fun i => Nd.i (xs.getD i Rec.z)) id (s.2 - s.1) s.1 s.2 = bsV Nd.i xs id) (fun s => s.2 - s.1) (0, xs.length) ?_ ⟨zaZ _, zaX _, rfl⟩ ?_
 · (refine imp_ren _ _ _ [] (by simp) (by simp) (by simp) (zav rfl) ?_ rfl (by simp only [zae, zam, false_implies, implies_true, and_true, zaS, lookR, zaa, if_true, if_false, ↓reduceIte] <;> (repeat' apply zap) <;> (first | rfl | trivial)) (by simp only [zae, zam, false_implies, implies_true, and_true, true_and, flat_cons, flat_nil, flat_ints, flat_bools, flat_app, zaM, and_self, eq_self_iff_true, zaw]); simp only [zan, zao, zae, zam, false_implies, implies_true, and_true, lk, slot, zaC, zay, toN, zaa, if_true, if_false, ↓reduceIte, reduceCtorEq])
   all_goals ((repeat' apply zap) <;> (first | rfl | trivial))
 rintro ⟨i, j⟩ ⟨hij, hjl, hb⟩
 simp only at hij hjl hb ⊢
 by_cases hlt : i < j
 · have hlt' : (i : Int) < (j : Int) := by omega
   have hsh : ((i : Int) + j).fdiv (2 ^ min (Int.toNat 1) 64) = (((i + j) / 2 : Nat) : Int) := by
     have e : (2 : Int) ^ min (Int.toNat 1) 64 = 2 := rfl
     rw [e, Int.fdiv_eq_ediv_of_nonneg _ (by omega)]; omega
   obtain ⟨h, hh⟩ : ∃ h, h = (i + j) / 2 := ⟨_, rfl⟩
   rw [← hh] at hsh
   have hhl : h < xs.length := by omega
   have hat : zbm 6 (List.drop (h * 6) (Cs xs)) = Rec.cs (xs.getD h Rec.z) := Cs_td xs h hhl
   have hhi : (h : Int) < (xs.length : Int) := by omega
   have hb' := bsG_fuel (fun i => Nd.i (xs.getD i Rec.z)) id (j - i) (j - i - 1 + 1) i j (zaX _) (by omega)
   rw [hb, bsG, if_pos hlt, ← hh] at hb'
   have hix := hg _ (getD_mem xs h Rec.z hhl)
   obtain ⟨b, hbb⟩ : ∃ b, xs.getD h Rec.z = b := ⟨_, rfl⟩
   rw [hbb] at hat hix hb'
   have hcs : Rec.cs b = [int b.i, int b.p, st b.nm, int b.c, int b.k, int b.o] := rfl
   rw [hcs] at hat hix
   have hcl := cmpv_lt (Nd.i b) id
   by_cases hc : Nd.i b < id
   · rw [if_pos hc] at hb'
     rw [decide_eq_true hc] at hcl
     generalize cmpv (Nd.i b) id = cv at *
     simp only [go_sem, zaa, zaf, zag, zah, zai, zad, ↓reduceIte, reduceCtorEq, zab, zac, zaj, zak, zal, decide_eq_true hlt', hsh, hat]
     repeat' (first
 | with_reducible refine zap ?_ ?_
 | (apply cl_plain
    case hs => rfl
    case ha => exact ydb
    case h => (first | exact hix ..))
 | ((first | refine s1_id ?_ | refine swp_id ?_ | refine sops_id ?_ | refine s2_id ?_); simp only [decide_eq_true hlt', hsh, hat, hcl, go_sem, zaa, zaf, zag, zah, zai, zad, ↓reduceIte, reduceCtorEq, zab, zac, zaj, zak, zal, zaC, zaF, zay, zaD, renO, bk, back, outUpsFrom, Ints_ren])
 | exact ydd
 | exact yda | fail)
     refine le_mk (h + 1, j) ?_ ⟨by show h + 1 ≤ j; omega, hjl, by show bsG _ id (j - (h + 1)) (h + 1) j = bsV Nd.i xs id; rw [hb']; exact bsG_fuel _ id _ _ _ _ (zaX _) (by omega)⟩ (by show j - (h + 1) < j - i; omega)
     (refine imp_ren _ _ _ [] (by simp) (by simp) (by simp) (zav rfl) ?_ rfl (by simp only [zae, zam, false_implies, implies_true, and_true, zaS, lookR, zaa, if_true, if_false, ↓reduceIte] <;> (repeat' apply zap) <;> (first | rfl | trivial)) (by simp only [zae, zam, false_implies, implies_true, and_true, true_and, flat_cons, flat_nil, flat_ints, flat_bools, flat_app, zaM, and_self, eq_self_iff_true, zaw]); simp only [zan, zao, zae, zam, false_implies, implies_true, and_true, lk, slot, zaC, zay, toN, zaa, if_true, if_false, ↓reduceIte, reduceCtorEq])
     all_goals ((repeat' apply zap) <;> (first | rfl | trivial | (simp only [zaz]; done) | (simp only [zaz]; rfl) | (simp only [zaz]; trivial)))
   · rw [if_neg hc] at hb'
     rw [decide_eq_false hc] at hcl
     generalize cmpv (Nd.i b) id = cv at *
     simp only [go_sem, zaa, zaf, zag, zah, zai, zad, ↓reduceIte, reduceCtorEq, zab, zac, zaj, zak, zal, decide_eq_true hlt', hsh, hat]
     repeat' (first
 | with_reducible refine zap ?_ ?_
 | (apply cl_plain
    case hs => rfl
    case ha => exact ydb
    case h => (first | exact hix ..))
 | ((first | refine s1_id ?_ | refine swp_id ?_ | refine sops_id ?_ | refine s2_id ?_); simp only [decide_eq_true hlt', hsh, hat, hcl, go_sem, zaa, zaf, zag, zah, zai, zad, ↓reduceIte, reduceCtorEq, zab, zac, zaj, zak, zal, zaC, zaF, zay, zaD, renO, bk, back, outUpsFrom, Ints_ren])
 | exact ydd
 | exact yda | fail)
     refine le_mk (i, h) ?_ ⟨by show i ≤ h; omega, by show h ≤ xs.length; omega, by show bsG _ id (h - i) i h = bsV Nd.i xs id; rw [hb']; exact bsG_fuel _ id _ _ _ _ (zaX _) (by omega)⟩ (by show h - i < j - i; omega)
     (refine imp_ren _ _ _ [] (by simp) (by simp) (by simp) (zav rfl) ?_ rfl (by simp only [zae, zam, false_implies, implies_true, and_true, zaS, lookR, zaa, if_true, if_false, ↓reduceIte] <;> (repeat' apply zap) <;> (first | rfl | trivial)) (by simp only [zae, zam, false_implies, implies_true, and_true, true_and, flat_cons, flat_nil, flat_ints, flat_bools, flat_app, zaM, and_self, eq_self_iff_true, zaw]); simp only [zan, zao, zae, zam, false_implies, implies_true, and_true, lk, slot, zaC, zay, toN, zaa, if_true, if_false, ↓reduceIte, reduceCtorEq])
     all_goals ((repeat' apply zap) <;> (first | rfl | trivial))
 · have hlt' : ¬ (i : Int) < (j : Int) := by omega
   have hi : i = bsV Nd.i xs id := by
     have e : j - i = 0 := by omega
     rw [e] at hb
     exact hb
   subst hi
   unfold bsF
   by_cases hin : bsV Nd.i xs id < xs.length
   · have hin' : ((bsV Nd.i xs id : Nat) : Int) < (xs.length : Int) := by omega
     have hat : zbm 6 (List.drop (bsV Nd.i xs id * 6) (Cs xs)) = Rec.cs (xs.getD (bsV Nd.i xs id) Rec.z) := Cs_td xs _ hin
     have hix := hg _ (getD_mem xs (bsV Nd.i xs id) Rec.z hin)
     rw [decide_eq_true hin, zaW]
     obtain ⟨b, hbb⟩ : ∃ b, xs.getD (bsV Nd.i xs id) Rec.z = b := ⟨_, rfl⟩
     rw [hbb] at hat hix ⊢
     have hcs : Rec.cs b = [int b.i, int b.p, st b.nm, int b.c, int b.k, int b.o] := rfl
     rw [hcs] at hat hix
     have hce := cmpv_eq (Nd.i b) id
     generalize cmpv (Nd.i b) id = cv at *
     generalize bsV Nd.i xs id = v at *
     simp only [go_sem, zaa, zaf, zag, zah, zai, zad, ↓reduceIte, reduceCtorEq, zab, zac, zaj, zak, zal, decide_eq_false hlt', decide_eq_true hin', hat]
     repeat' (first
 | with_reducible refine zap ?_ ?_
 | (apply cg_tp
    case hl => rfl
    case ha => exact ydb
    case hs => rfl
    case h => (first | exact hix ..))
 | ((first | refine s1_id ?_ | refine swp_id ?_ | refine sops_id ?_ | refine s2_id ?_); simp only [decide_eq_false hlt', decide_eq_true hin', hat, hce, go_sem, zaa, zaf, zag, zah, zai, zad, ↓reduceIte, reduceCtorEq, zab, zac, zaj, zak, zal, zaC, zaF, zay, zaD, renO, bk, back, outUpsFrom, Ints_ren])
 | exact ydd
 | exact fs_nil trivial rfl
 | fail)
   · have hin' : ¬ ((bsV Nd.i xs id : Nat) : Int) < (xs.length : Int) := by omega
     rw [decide_eq_false hin, zaR]
     generalize bsV Nd.i xs id = v at *
     simp only [go_sem, zaa, zaf, zag, zah, zai, zad, ↓reduceIte, reduceCtorEq, zab, zac, zaj, zak, zal, decide_eq_false hlt', decide_eq_false hin']
     repeat' (first
 | exact fs_nil trivial rfl
 | fail)
theorem tix_spec (x : Nd) (id : Int) : FnSpec Tryz.prog 119 [.agg (Rec.cs x), i1 id] [] (i1 (cmpv (Nd.i x) id)) [] := by
 show FnSpec Tryz.prog 119 [.agg (ndc x), i1 id] [] (i1 (cmpv (Nd.i x) id)) []
 obtain ⟨xi, xp, xn, xc, xk, xo⟩ := x
 simp only [ndc]
 have h1 := cmp_spec xi id
 refine fnspec_of mixed TT_ok TT_cl ⟨fun _ => false, fun _ => [], 0, fun _ => false, fun _ => false⟩ Tryz.func119 rfl (by kernel_rfl) rfl 9 rfl [.tmp 4] rfl ?_
 simp only [go_sem, zaa, zaf, zag, zah, zai, zad, ↓reduceIte, reduceCtorEq, zab, zac, zaj, zak, zal]
 repeat' (first
 | (apply cl_plain
    case hs => rfl
    case ha => exact ydb
    case h => exact yde)
 | ((first | refine s1_id ?_ | refine swp_id ?_ | refine sops_id ?_ | refine s2_id ?_); simp only [zaL, zaP, zaw, zaN, zaQ, zaJ, zaK, zaI, zaT, zaV, zaE, zaO, go_sem, zaa, zaf, zag, zah, zai, zad, ↓reduceIte, reduceCtorEq, zab, zac, zaj, zak, zal, zaC, zaF, zay, zaD, renO, bk, back, outUpsFrom, Ints_ren])
 | exact fs_nil trivial rfl
 | fail)
theorem index_spec (l : List Nd) (k : Option Nat) (id : Int) (hl : l.length ≤ 1000000) : FnSpec Tryz.prog 96 [gr l k, i1 id] [] (.tup [i1 (bsV Nd.i l id), b1 (bsF Nd.i l id)]) [] := by
 have h1 := nd_bs 119 l id (fun x _ => tix_spec x id) k (by omega)
 refine fnspec_of mixed TT_ok TT_cl ⟨fun _ => false, fun _ => [], 0, fun _ => false, fun _ => false⟩ Tryz.func96 rfl (by kernel_rfl) rfl 11 rfl [.tmp 4, .tmp 5] rfl ?_
 simp only [go_sem, zaa, zaf, zag, zah, zai, zad, ↓reduceIte, reduceCtorEq, zab, zac, zaj, zak, zal]
 repeat' (first
 | (apply cl_plain
    case hs => rfl
    case ha => exact ydb
    case h => exact yde)
 | ((first | refine s1_id ?_ | refine swp_id ?_ | refine sops_id ?_ | refine s2_id ?_); simp only [go_sem, zaa, zaf, zag, zah, zai, zad, ↓reduceIte, reduceCtorEq, zab, zac, zaj, zak, zal, zaC, zaF, zay, zaD, renO, bk, back, outUpsFrom, Ints_ren])
 | exact fs_nil trivial rfl
 | fail)
end Go.Proofs.YtnahpejlhfeleabGreat
namespace Go.Proofs.YtnahpejlhfeleabGreat
open Go.Proofs.YtnahpejlhfeleabGreat.Sh
set_option maxRecDepth 20000
structure CkI (l : List Nd) (m : Nat) : Prop where
  le : m ≤ l.length
  p1 : 1 ≤ m
  st : ∀ i, i < m → stOk l i = true
  dp : ∀ i, i < m → (upL (l.take (i + 1)) (gN l i).i).length ≤ 9
theorem CkI.asc {l : List Nd} {m : Nat} (h : CkI l m) : AscI (l.take m) := by
 refine asc_of_step fun i h0 hi => ?_
 rw [zaU] at hi
 rw [gN_take l m _ (by omega), gN_take l m i (by omega)]
 have hle := h.le
 exact (stOk_ch (by omega) h0 (h.st i (by omega))).lt
def dps (l : List Nd) (m : Nat) : List Int := (List.range 64).map fun i => if i < m then (((upL (l.take (i + 1)) (gN l i).i).length : Int) - 1) else 0
theorem dps_len (l : List Nd) (m : Nat) : (dps l m).length = 64 := by simp [dps]
theorem dps_at (l : List Nd) (m i : Nat) (hi : i < 64) : (dps l m).getD i 0 = if i < m then (((upL (l.take (i + 1)) (gN l i).i).length : Int) - 1) else 0 := by
 simp [dps, List.getD_eq_getElem?_getD, hi]
theorem dps_set (l : List Nd) (m : Nat) (hm : m < 64) : (dps l m).set m (((upL (l.take (m + 1)) (gN l m).i).length : Int) - 1) = dps l (m + 1) := by
 apply List.ext_getElem?
 intro i
 by_cases hi : i < 64
 · rw [List.getElem?_set]
   by_cases e : m = i
   · subst e
     simp [dps, hm]
   · rw [if_neg e]
     simp only [dps, List.getElem?_map, List.getElem?_range hi, Option.map_some]
     congr 1
     by_cases c : i < m
     · rw [if_pos c, if_pos (by omega)]
     · rw [if_neg c, if_neg (by omega)]
 · rw [List.getElem?_eq_none (by rw [List.length_set, dps_len]; omega), List.getElem?_eq_none (by rw [dps_len]; omega)]
theorem up_next {l : List Nd} {m j : Nat} (hA : AscI (l.take m)) (hm : m < l.length) (hj : j < m) (e : (gN l j).i = (gN l m).p) : (upL (l.take (m + 1)) (gN l m).i).length = (upL (l.take (j + 1)) (gN l j).i).length + 1 := by
 rw [upL_take l m hm, if_pos rfl, zaE, ← e]
 congr 2
 have h1 := upL_skip (l.take m) (gN l j).i (j + 1) (by rw [zaU]; omega) (fun k hk hk2 => by
   rw [zaU] at hk2
   have := hA j k (by omega) (by rw [zaU]; omega)
   rw [gN_take l m j hj, gN_take l m k (by omega)] at this
   rw [gN_take l m k (by omega)]; omega)
 rw [h1, List.take_take, Nat.min_eq_left (by omega)]
theorem up_takeA {l : List Nd} (hA : AscI l) {i : Nat} (hi : i < l.length) : upL (l.take (i + 1)) (gN l i).i = upL l (gN l i).i := by
 rw [upL_node hA hi, upL_take l i hi, if_pos rfl]
theorem index_take (l : List Nd) (k : Option Nat) (m : Nat) (id : Int) (hm : m ≤ l.length) (hl : l.length ≤ 1000000) : FnSpec Tryz.prog 96 [.one (.gsl (Cs l) 0 m k), i1 id] [] (.tup [i1 (bsV Nd.i (l.take m) id), b1 (bsF Nd.i (l.take m) id)]) [] := by
 have h1 := index_spec (l.take m) k id (by rw [zaU]; omega)
 have e : (l.take m).length = m := by rw [zaU]; omega
 simp only [gr, e, ← Cs_take] at h1
 exact h1.pre ⟨cw_take _ _ _ _ _, cw_rfl _, trivial⟩
theorem taken_take (l : List Nd) (k : Option Nat) (m : Nat) (p : Int) (s : Str) (hm : m ≤ l.length) (hl : l.length ≤ 1000000) : FnSpec Tryz.prog 98 [.one (.gsl (Cs l) 0 m k), i1 p, s1 s] [] (b1 ((l.take m).any (same1 p s))) [] := by
 have h1 := taken_spec (l.take m) k p s (by rw [zaU]; omega)
 have e : (l.take m).length = m := by rw [zaU]; omega
 simp only [gr, e, ← Cs_take] at h1
 exact h1.pre ⟨cw_take _ _ _ _ _, cw_rfl _, cw_rfl _, trivial⟩
set_option maxHeartbeats 16000000 in
theorem tchk_spec (l : List Nd) (n : Int) (hl : l.length ≤ 1000000) (hnm : NmR l) (hct : CtR l) : FnSpec Tryz.prog 52 [trV l none n] [] (b1 (chkT l n)) [] := by
 have hnl := nd_len l
 by_cases h1 : (l.length : Int) < 1
 · rw [chkT_not fun h => by have := h.ne; omega]
   refine fnspec_of mixed TT_ok TT_cl ⟨fun _ => false, fun _ => [], 0, fun _ => false, fun _ => false⟩ Tryz.func52 rfl (by kernel_rfl) rfl 108 rfl [.tmp 2] rfl ?_
   simp only [go_sem, zaa, zaf, zag, zah, zai, zad, ↓reduceIte, reduceCtorEq, zab, zac, zaj, zak, zal, decide_eq_true h1]
   repeat' (first
 | exact fs_nil trivial rfl
 | fail)
 by_cases h64 : 64 < (l.length : Int)
 · rw [chkT_not fun h => by have := h.le; omega]
   refine fnspec_of mixed TT_ok TT_cl ⟨fun _ => false, fun _ => [], 0, fun _ => false, fun _ => false⟩ Tryz.func52 rfl (by kernel_rfl) rfl 108 rfl [.tmp 2] rfl ?_
   simp only [go_sem, zaa, zaf, zag, zah, zai, zad, ↓reduceIte, reduceCtorEq, zab, zac, zaj, zak, zal, decide_eq_false h1, decide_eq_true h64]
   repeat' (first
 | exact fs_nil trivial rfl
 | fail)
 have h1' : 1 ≤ l.length := by omega
 have h64' : l.length ≤ 64 := by omega
 have hN0 := nd_td l 0 (by omega)
 have r1 := isRoot_spec (gN l 0) (hct _ (getD_mem l 0 zn (by omega)))
 have e0 : stOk l 0 = (rootOk (gN l 0) && rngOk (gN l 0)) := by
   unfold stOk
   rw [if_pos rfl]
   cases hr : rootOk (gN l 0) with
   | false => rw [zbh]; rfl
   | true =>
     have hk : kdOk (gN l 0) = true := by
       unfold rootOk at hr
       simp only [zat, decide_eq_true_eq] at hr
       unfold kdOk
       rw [decide_eq_true hr.2]; rfl
     rw [hk, zaW, Bool.and_true]
 rw [← e0] at r1
 have hN0' : zbm 6 (List.drop (Int.toNat 0 * 6) (Cs l)) = ndc (gN l 0) := hN0
 cases hs0 : stOk l 0 with
 | false =>
   rw [chkT_not fun h => by have := h.st 0 (by omega); rw [hs0] at this; cases this]
   rw [hs0] at r1
   simp only [ndc] at hN0' r1
   refine fnspec_of mixed TT_ok TT_cl ⟨fun _ => false, fun _ => [], 0, fun _ => false, fun _ => false⟩ Tryz.func52 rfl (by kernel_rfl) rfl 108 rfl [.tmp 2] rfl ?_
   simp only [go_sem, zaa, zaf, zag, zah, zai, zad, ↓reduceIte, reduceCtorEq, zab, zac, zaj, zak, zal, decide_eq_false h1, decide_eq_false h64, hN0']
   repeat' (first
 | with_reducible refine zap ?_ ?_
 | (apply cg_tp
    case hl => rfl
    case ha => exact ydb
    case hs => rfl
    case h => (first | exact r1 ..))
 | ((first | refine s1_id ?_ | refine swp_id ?_ | refine sops_id ?_ | refine s2_id ?_); simp only [decide_eq_false h1, decide_eq_false h64, hN0', go_sem, zaa, zaf, zag, zah, zai, zad, ↓reduceIte, reduceCtorEq, zab, zac, zaj, zak, zal, zaC, zaF, zay, zaD, renO, bk, back, outUpsFrom, Ints_ren])
 | exact ydd
 | exact fs_nil trivial rfl
 | fail)
 | true =>
 rw [hs0] at r1
 simp only [ndc] at hN0' r1
 refine fnspec_of mixed TT_ok TT_cl ⟨fun _ => false, fun _ => [], 0, fun _ => false, fun _ => false⟩ Tryz.func52 rfl (by kernel_rfl) rfl 108 rfl [.tmp 2] rfl ?_
 simp only [go_sem, zaa, zaf, zag, zah, zai, zad, ↓reduceIte, reduceCtorEq, zab, zac, zaj, zak, zal, decide_eq_false h1, decide_eq_false h64, hN0']
 repeat' (first
 | with_reducible refine zap ?_ ?_
 | (apply cg_tp
    case hl => rfl
    case ha => exact ydb
    case hs => rfl
    case h => (first | exact r1 ..))
 | ((first | refine s1_id ?_ | refine swp_id ?_ | refine sops_id ?_ | refine s2_id ?_); simp only [decide_eq_false h1, decide_eq_false h64, hN0', go_sem, zaa, zaf, zag, zah, zai, zad, ↓reduceIte, reduceCtorEq, zab, zac, zaj, zak, zal, zaC, zaF, zay, zaD, renO, bk, back, outUpsFrom, Ints_ren])
 | exact ydd
 | exact yda | fail)
 have hu0 : (upL (l.take 1) (gN l 0).i).length = 1 := by rw [upL_take l 0 (by omega), if_pos rfl]; rfl
 have hd1 : dps l 1 = List.replicate 64 0 := by
   apply List.ext_getElem?
   intro i
   by_cases hi : i < 64
   · simp only [dps, List.getElem?_map, List.getElem?_range hi, Option.map_some, List.getElem?_replicate, if_pos hi]
     by_cases c : i < 1
     · have : i = 0 := by omega
       subst this
       rw [if_pos c, hu0]; rfl
     · rw [if_neg c]
   · rw [List.getElem?_eq_none (by rw [dps_len]; omega), List.getElem?_eq_none (by rw [List.length_replicate]; omega)]
 refine w_loop (ι := Nat) (fun m => ⟨[(1, .one (.optr 0 0)), (3, gr l none), (4, .one (.optr 1 0)), (5, i1 m)], [(0, some ⟨[.gsl (Cs l) 0 l.length none, int n], 2⟩), (1, some ⟨Ints (dps l m), 64⟩)], 2⟩) (fun m => CkI l m) (fun m => l.length - m) 1 ?_ ⟨h1', zaX _, fun i hi => by rw [show i = 0 by omega]; exact hs0, fun i hi => by rw [show i = 0 by omega, hu0]; decide⟩ ?_
 · rw [hd1]
   (refine imp_ren _ _ _ [(0, 0, ⟨[.gsl (Cs l) 0 l.length none, int n], 2⟩), (1, 20, ⟨Ints (List.replicate 64 0), 64⟩)] (by simp) (by simp) (by simp) (zav rfl) ?_ rfl (by simp only [zae, zam, false_implies, implies_true, and_true, zaS, lookR, zaa, if_true, if_false, ↓reduceIte] <;> (repeat' apply zap) <;> (first | rfl | trivial)) (by simp only [zae, zam, false_implies, implies_true, and_true, true_and, flat_cons, flat_nil, flat_ints, flat_bools, flat_app, zaM, and_self, eq_self_iff_true, zaw]); simp only [zan, zao, zae, zam, false_implies, implies_true, and_true, lk, slot, zaC, zay, toN, zaa, if_true, if_false, ↓reduceIte, reduceCtorEq])
   all_goals ((repeat' apply zap) <;> (first | rfl | trivial))
 clear r1 hN0 hN0' hd1
 intro m hI
 simp only at hI ⊢
 have hm := hI.le
 have hm1 := hI.p1
 have hA := hI.asc
 rcases zbd m l.length with hlt | hge
 case inr =>
   have c : ¬ (m : Int) < (l.length : Int) := by omega
   obtain rfl : m = l.length := by omega
   rw [List.take_length] at hA
   have hin : ((l.length : Int) - 1).toNat = l.length - 1 := by omega
   obtain ⟨g1, _⟩ := nd_f l (l.length - 1) (by omega) (.sc (.int .i64 0))
   have hres : chkT l n = (decide ((gN l (l.length - 1)).i < n) && decide (n ≤ 2147483648)) := by
     unfold chkT
     rw [decide_eq_true h1', decide_eq_true h64', (allN_iff _ _).2 hI.st, (allN_iff _ _).2 fun i hi => decide_eq_true (by rw [← up_takeA hA hi]; exact hI.dp i hi)]
     rfl
   rw [hres]
   simp only [go_sem, zaa, zaf, zag, zah, zai, zad, ↓reduceIte, reduceCtorEq, zab, zac, zaj, zak, zal, decide_eq_false c, hin, g1]
   repeat' (first
 | with_reducible refine zap ?_ ?_
 | (unfold OKC; kernel_rfl)
 | (unfold EDG; kernel_rfl)
 | exact ydd
 | exact fs_nil trivial rfl
 | fail)
 have c : (m : Int) < (l.length : Int) := by omega
 have h2 := index_take l none m (gN l m).p hm hl
 have h3 := isChild_spec (gN l m) (hct _ (getD_mem l m zn hlt)) (hnm.at m hlt)
 have h4 := taken_take l none m (gN l m).p (gN l m).nm hm hl
 obtain ⟨g1, g2, _⟩ := nd_f l m hlt (.sc (.int .i64 0))
 have g3 := (nd_f l m hlt (.sc (.string (bs [])))).2.2.1
 have hN := nd_td l m hlt
 obtain ⟨q1, _⟩ := nd_f l (m - 1) (by omega) (.sc (.int .i64 0))
 have hin : ((m : Int) - 1).toNat = m - 1 := by omega
 have hst : stOk l m = (kdOk (gN l m) && rngOk (gN l m) && (decide ((gN l (m - 1)).i < (gN l m).i) && nmOk (gN l m).nm && bsF Nd.i (l.take m) (gN l m).p && !(l.take m).any (same1 (gN l m).p (gN l m).nm))) := by
   unfold stOk
   rw [if_neg (by omega), bs_any Nd.i (l.take m) (fun i j => hA i j)]
   rfl
 have hno : stOk l m = false → chkT l n = false := fun hf => chkT_not fun h => by have := h.st m hlt; rw [hf] at this; cases this
 have hvl := bsV_le Nd.i (l.take m) (gN l m).p
 rw [zaU] at hvl
 cases hf : bsF Nd.i (l.take m) (gN l m).p with
 | false =>
   rw [hno (by rw [hst, hf]; simp)]
   rw [hf] at h2
   generalize bsV Nd.i (l.take m) (gN l m).p = v at *
   simp only [go_sem, zaa, zaf, zag, zah, zai, zad, ↓reduceIte, reduceCtorEq, zab, zac, zaj, zak, zal, decide_eq_true c, g2, zaY, zbb, zbc]
   repeat' (first
 | with_reducible refine zap ?_ ?_
 | (unfold OKC; kernel_rfl)
 | (unfold EDG; kernel_rfl)
 | (apply cl_plain
    case hs => rfl
    case ha => exact ydb
    case h => (first | exact h2 ..))
 | ((first | refine s1_id ?_ | refine swp_id ?_ | refine sops_id ?_ | refine s2_id ?_); simp only [decide_eq_true c, g2, zaY, zbb, zbc, go_sem, zaa, zaf, zag, zah, zai, zad, ↓reduceIte, reduceCtorEq, zab, zac, zaj, zak, zal, zaC, zaF, zay, zaD, renO, bk, back, outUpsFrom, Ints_ren])
 | exact ydd
 | exact fs_nil trivial rfl
 | fail)
 | true =>
 obtain ⟨hv1, hv2⟩ := bsF_at Nd.i (l.take m) (gN l m).p hf
 rw [zaU] at hv1
 rw [hf] at h2 hst
 generalize bsV Nd.i (l.take m) (gN l m).p = v at *
 have hvm : v < m := by omega
 have hv3 : (gN l v).i = (gN l m).p := by rw [← gN_take l m v hvm]; exact hv2
 by_cases hle : (gN l m).i ≤ (gN l (m - 1)).i
 · rw [hno (by rw [hst, decide_eq_false (by omega)]; simp)]
   simp only [go_sem, zaa, zaf, zag, zah, zai, zad, ↓reduceIte, reduceCtorEq, zab, zac, zaj, zak, zal, decide_eq_true c, g1, g2, zaY, zbb, zbc, hin, q1, decide_eq_true hle]
   repeat' (first
 | with_reducible refine zap ?_ ?_
 | (unfold OKC; kernel_rfl)
 | (unfold EDG; kernel_rfl)
 | (apply cl_plain
    case hs => rfl
    case ha => exact ydb
    case h => (first | exact h2 ..))
 | ((first | refine s1_id ?_ | refine swp_id ?_ | refine sops_id ?_ | refine s2_id ?_); simp only [decide_eq_true c, g1, g2, zaY, zbb, zbc, hin, q1, decide_eq_true hle, go_sem, zaa, zaf, zag, zah, zai, zad, ↓reduceIte, reduceCtorEq, zab, zac, zaj, zak, zal, zaC, zaF, zay, zaD, renO, bk, back, outUpsFrom, Ints_ren])
 | exact ydd
 | exact fs_nil trivial rfl
 | fail)
 rw [decide_eq_true (by omega : (gN l (m - 1)).i < (gN l m).i)] at hst
 cases hcb : (nmOk (gN l m).nm && kdOk (gN l m) && rngOk (gN l m)) with
 | false =>
   rw [hno (by rw [hst]; revert hcb; cases nmOk (gN l m).nm <;> cases kdOk (gN l m) <;> cases rngOk (gN l m) <;> simp)]
   rw [hcb] at h3
   simp only [ndc] at hN h3
   simp only [go_sem, zaa, zaf, zag, zah, zai, zad, ↓reduceIte, reduceCtorEq, zab, zac, zaj, zak, zal, decide_eq_true c, g1, g2, zaY, zbb, zbc, hin, q1, decide_eq_false hle, hN]
   repeat' (first
 | with_reducible refine zap ?_ ?_
 | (unfold OKC; kernel_rfl)
 | (unfold EDG; kernel_rfl)
 | (apply cg_tp
    case hl => rfl
    case ha => exact ydb
    case hs => rfl
    case h => (first | exact h2 .. | exact h3 ..))
 | (apply cl_plain
    case hs => rfl
    case ha => exact ydb
    case h => (first | exact h2 .. | exact h3 ..))
 | ((first | refine s1_id ?_ | refine swp_id ?_ | refine sops_id ?_ | refine s2_id ?_); simp only [decide_eq_true c, g1, g2, zaY, zbb, zbc, hin, q1, decide_eq_false hle, hN, go_sem, zaa, zaf, zag, zah, zai, zad, ↓reduceIte, reduceCtorEq, zab, zac, zaj, zak, zal, zaC, zaF, zay, zaD, renO, bk, back, outUpsFrom, Ints_ren])
 | exact ydd
 | exact fs_nil trivial rfl
 | fail)
 | true =>
 rw [hcb] at h3
 cases htk : (l.take m).any (same1 (gN l m).p (gN l m).nm) with
 | true =>
   rw [hno (by rw [hst, htk]; simp)]
   rw [htk] at h4
   simp only [ndc] at hN h3
   simp only [go_sem, zaa, zaf, zag, zah, zai, zad, ↓reduceIte, reduceCtorEq, zab, zac, zaj, zak, zal, decide_eq_true c, g1, g2, g3, zaY, zbb, zbc, hin, q1, decide_eq_false hle, hN]
   repeat' (first
 | with_reducible refine zap ?_ ?_
 | (unfold OKC; kernel_rfl)
 | (unfold EDG; kernel_rfl)
 | (apply cg_tp
    case hl => rfl
    case ha => exact ydb
    case hs => rfl
    case h => exact ydf)
 | (apply cl_plain
    case hs => rfl
    case ha => exact ydb
    case h => exact ydf)
 | ((first | refine s1_id ?_ | refine swp_id ?_ | refine sops_id ?_ | refine s2_id ?_); simp only [decide_eq_true c, g1, g2, g3, zaY, zbb, zbc, hin, q1, decide_eq_false hle, hN, go_sem, zaa, zaf, zag, zah, zai, zad, ↓reduceIte, reduceCtorEq, zab, zac, zaj, zak, zal, zaC, zaF, zay, zaD, renO, bk, back, outUpsFrom, Ints_ren])
 | exact ydd
 | exact fs_nil trivial rfl
 | fail)
 | false =>
 have hok : stOk l m = true := by rw [hst, htk]; revert hcb; cases nmOk (gN l m).nm <;> cases kdOk (gN l m) <;> cases rngOk (gN l m) <;> simp
 rw [htk] at h4
 have hun := up_next hA hlt hvm hv3
 have hdv := dps_at l m v (by omega)
 rw [if_pos hvm] at hdv
 have hset := dps_set l m (by omega)
 have hdm := dps_at l (m + 1) m (by omega)
 rw [if_pos (by omega)] at hdm
 have hu1 : 1 ≤ (upL (l.take (v + 1)) (gN l v).i).length := by rw [upL_take l v (by omega), if_pos rfl, zaE]; omega
 have hu9 := hI.dp v hvm
 have hsv : ((upL (l.take (v + 1)) (gN l v).i).length : Int) - 1 + 1 = ((upL (l.take (m + 1)) (gN l m).i).length : Int) - 1 := by rw [hun]; omega
 generalize (upL (l.take (v + 1)) (gN l v).i).length = D at *
 obtain ⟨D2, hD2⟩ : ∃ D2, (upL (l.take (m + 1)) (gN l m).i).length = D2 := ⟨_, rfl⟩
 have hseti : (Ints (dps l m)).set m (int ((D2 : Int) - 1)) = Ints (dps l (m + 1)) := by rw [← hset, hD2]; simp [Ints, List.map_set]
 rw [hD2] at hsv hdm hun
 have hdl := dps_len l m
 have hdl1 := dps_len l (m + 1)
 simp only [ndc] at hN h3
 by_cases h9 : 8 < (D2 : Int) - 1
 · rw [chkT_not fun h => by
     have := h.dp m hlt
     rw [← up_takeA h.asc hlt, hD2] at this; omega]
   simp only [go_sem, zaa, zaf, zag, zah, zai, zad, ↓reduceIte, reduceCtorEq, zab, zac, zaj, zak, zal, decide_eq_true c, g1, g2, g3, zaY, zbb, zbc, hin, q1, decide_eq_false hle, hN, hdv, hsv, hdm, decide_eq_true h9]
   repeat' (first
 | with_reducible refine zap ?_ ?_
 | (unfold OKC; kernel_rfl)
 | (unfold EDG; kernel_rfl)
 | (apply cg_tp
    case hl => rfl
    case ha => exact ydb
    case hs => rfl
    case h => exact ydf)
 | (apply cl_plain
    case hs => rfl
    case ha => exact ydb
    case h => exact ydf)
 | ((first | refine s1_id ?_ | refine swp_id ?_ | refine sops_id ?_ | refine s2_id ?_); simp only [decide_eq_true c, g1, g2, g3, zaY, zbb, zbc, hin, q1, decide_eq_false hle, hN, hdv, hsv, hseti, hdm, decide_eq_true h9, go_sem, zaa, zaf, zag, zah, zai, zad, ↓reduceIte, reduceCtorEq, zab, zac, zaj, zak, zal, zaC, zaF, zay, zaD, renO, bk, back, outUpsFrom, Ints_ren])
 | exact ydd
 | exact fs_nil trivial rfl
 | fail)
 · have hst2 : CkI l (m + 1) := ⟨hlt, by omega, fun i hi => by rcases Nat.lt_succ_iff_lt_or_eq.1 hi with h | h; (· exact hI.st i h); (· rw [h]; exact hok), fun i hi => by rcases Nat.lt_succ_iff_lt_or_eq.1 hi with h | h; (· exact hI.dp i h); (· rw [h, hD2]; omega)⟩
   simp only [go_sem, zaa, zaf, zag, zah, zai, zad, ↓reduceIte, reduceCtorEq, zab, zac, zaj, zak, zal, decide_eq_true c, g1, g2, g3, zaY, zbb, zbc, hin, q1, decide_eq_false hle, hN, hdv, hsv, hdm, decide_eq_false h9]
   repeat' (first
 | with_reducible refine zap ?_ ?_
 | (unfold OKC; kernel_rfl)
 | (unfold EDG; kernel_rfl)
 | (apply cg_tp
    case hl => rfl
    case ha => exact ydb
    case hs => rfl
    case h => exact ydf)
 | (apply cl_plain
    case hs => rfl
    case ha => exact ydb
    case h => exact ydf)
 | ((first | refine s1_id ?_ | refine swp_id ?_ | refine sops_id ?_ | refine s2_id ?_); simp only [decide_eq_true c, g1, g2, g3, zaY, zbb, zbc, hin, q1, decide_eq_false hle, hN, hdv, hsv, hseti, hdm, decide_eq_false h9, go_sem, zaa, zaf, zag, zah, zai, zad, ↓reduceIte, reduceCtorEq, zab, zac, zaj, zak, zal, zaC, zaF, zay, zaD, renO, bk, back, outUpsFrom, Ints_ren])
 | exact ydd
 | exact yda | fail)
   refine le_mk (m + 1) ?_ hst2 (by omega)
   (refine imp_ren _ _ _ [(0, 0, ⟨[.gsl (Cs l) 0 l.length none, int n], 2⟩), (1, 1, ⟨Ints (dps l (m + 1)), 64⟩)] (by simp) (by simp) (by simp) (zav rfl) ?_ rfl (by simp only [zae, zam, false_implies, implies_true, and_true, zaS, lookR, zaa, if_true, if_false, ↓reduceIte, hseti] <;> (repeat' apply zap) <;> (first | rfl | trivial)) (by simp only [zae, zam, false_implies, implies_true, and_true, true_and, flat_cons, flat_nil, flat_ints, flat_bools, flat_app, zaM, and_self, eq_self_iff_true, zaw, hseti]); simp only [zan, zao, zae, zam, false_implies, implies_true, and_true, lk, slot, zaC, zay, toN, zaa, if_true, if_false, ↓reduceIte, reduceCtorEq])
   all_goals ((repeat' apply zap) <;> (first | rfl | trivial | (simp only [zaz]; done) | (simp only [zaz]; rfl) | (simp only [zaz]; trivial)))
end Go.Proofs.YtnahpejlhfeleabGreat
namespace Go.Proofs.YtnahpejlhfeleabGreat
open Go.Proofs.YtnahpejlhfeleabGreat.Sh
set_option maxRecDepth 20000
abbrev hasI (id : Int) (x : Nd) : Bool := decide (x.i = id)
def fdM (l : List Nd) (n id : Int) : Nd × Bool := if chkT l n = true then (match l.find? (hasI id) with
  | some x => (x, true)
  | none => (zn, false)) else (zn, false)
def hasM (l : List Nd) (n id : Int) : Bool := chkT l n && l.any (hasI id)
theorem fdM_2 (l : List Nd) (n id : Int) : (fdM l n id).2 = hasM l n id := by
 unfold fdM hasM
 cases hc : chkT l n with
 | false => rfl
 | true =>
   rw [if_pos rfl, zaW]
   cases hf : l.find? (hasI id) with
   | none =>
     have := List.find?_eq_none.1 hf
     exact (List.any_eq_false.2 this).symm
   | some x =>
     exact (List.any_eq_true.2 ⟨x, List.mem_of_find?_eq_some hf, List.find?_some hf⟩).symm
theorem find_drop {l : List Nd} {m : Nat} (h : m < l.length) (id : Int) : (l.drop m).find? (hasI id) = if (gN l m).i = id then some (gN l m) else (l.drop (m + 1)).find? (hasI id) := by
 rw [drop_getD l m zn h, List.find?_cons]
 by_cases c : (gN l m).i = id
 · rw [if_pos c, show hasI id (l.getD m zn) = true from decide_eq_true c]
 · rw [if_neg c, show hasI id (l.getD m zn) = false from decide_eq_false c]
abbrev zr : Row := ⟨[int 0, int 0, st [], int 0, int 0, int 0], 6⟩
set_option maxHeartbeats 8000000 in
theorem rfindT_spec (l : List Nd) (k : Option Nat) (n id : Int) (hl : l.length ≤ 1000000) (hnm : NmR l) : FnSpec Tryz.prog 90 [trV l k n, i1 id] [] (.tup [.agg (ndc (fdM l n id).1), b1 (fdM l n id).2]) [] := by
 have h1 := trcheck_spec l k n hl hnm
 have hnl := nd_len l
 unfold fdM
 cases hc : chkT l n with
 | false =>
   rw [hc] at h1
   simp only [zbe, if_false]
   refine fnspec_of mixed TT_ok TT_cl ⟨fun _ => false, fun _ => [], 0, fun _ => false, fun _ => false⟩ Tryz.func90 rfl (by kernel_rfl) rfl 32 rfl [.cell 4 61, .tmp 5] rfl ?_
   simp only [go_sem, zaa, zaf, zag, zah, zai, zad, ↓reduceIte, reduceCtorEq, zab, zac, zaj, zak, zal]
   repeat' (first
 | with_reducible refine zap ?_ ?_
 | (apply cl_plain
    case hs => rfl
    case ha => exact ydb
    case h => exact yde)
 | ((first | refine s1_id ?_ | refine swp_id ?_ | refine sops_id ?_ | refine s2_id ?_); simp only [go_sem, zaa, zaf, zag, zah, zai, zad, ↓reduceIte, reduceCtorEq, zab, zac, zaj, zak, zal, zaC, zaF, zay, zaD, renO, bk, back, outUpsFrom, Ints_ren])
 | exact ydd
 | (apply fs_nil <;> (try simp only [go_sem, resV, resS, zaC, zaF, zay, zbi, zaS, idx, renO, zaD, evS, slot, lookR, zaa, ↓reduceIte, reduceCtorEq, if_true, if_false, zaG, zaH, zan, zao, sLoad, readAt, readNeed, Ints_ren, Ints_length, Ints_getD, and_true, true_and, zaA, zaB]) <;> (try rfl))
 | fail)
 | true =>
   rw [hc] at h1
   rw [if_pos rfl]
   refine fnspec_of mixed TT_ok TT_cl ⟨fun _ => false, fun _ => [], 0, fun _ => false, fun _ => false⟩ Tryz.func90 rfl (by kernel_rfl) rfl 32 rfl [.cell 4 61, .tmp 5] rfl ?_
   simp only [go_sem, zaa, zaf, zag, zah, zai, zad, ↓reduceIte, reduceCtorEq, zab, zac, zaj, zak, zal]
   repeat' (first
 | (apply cl_plain
    case hs => rfl
    case ha => exact ydb
    case h => exact yde)
 | ((first | refine s1_id ?_ | refine swp_id ?_ | refine sops_id ?_ | refine s2_id ?_); simp only [go_sem, zaa, zaf, zag, zah, zai, zad, ↓reduceIte, reduceCtorEq, zab, zac, zaj, zak, zal, zaC, zaF, zay, zaD, renO, bk, back, outUpsFrom, Ints_ren])
 | exact yda | fail)
   refine w_loop (ι := Nat) (fun m => ⟨[(1, i1 id), (2, .one (.optr 0 0)), (4, .one (.optr 1 0)), (6, i1 m)], [(0, some ⟨[.gsl (Cs l) 0 l.length k, int n], 2⟩), (1, some zr)], 2⟩) (fun m => m ≤ l.length ∧ l.find? (hasI id) = (l.drop m).find? (hasI id)) (fun m => l.length - m) 0 ?_ ⟨zaZ _, rfl⟩ ?_
   · (refine imp_ren _ _ _ [(0, 0, ⟨[.gsl (Cs l) 0 l.length k, int n], 2⟩), (1, 1, zr)] (by simp) (by simp) (by simp) (zav rfl) ?_ rfl (by simp only [zae, zam, false_implies, implies_true, and_true, zaS, lookR, zaa, if_true, if_false, ↓reduceIte] <;> (repeat' apply zap) <;> (first | rfl | trivial)) (by simp only [zae, zam, false_implies, implies_true, and_true, true_and, flat_cons, flat_nil, flat_ints, flat_bools, flat_app, zaM, and_self, eq_self_iff_true, zaw]); simp only [zan, zao, zae, zam, false_implies, implies_true, and_true, lk, slot, zaC, zay, toN, zaa, if_true, if_false, ↓reduceIte, reduceCtorEq])
     all_goals ((repeat' apply zap) <;> (first | rfl | trivial))
   clear h1
   rintro m ⟨hm, hf⟩
   simp only at hm hf ⊢
   rcases zbd m l.length with hlt | hge
   case inr =>
     have c : ¬ (m : Int) < (l.length : Int) := by omega
     rw [zbk hge] at hf
     rw [hf]
     simp only [go_sem, zaa, zaf, zag, zah, zai, zad, ↓reduceIte, reduceCtorEq, zab, zac, zaj, zak, zal, decide_eq_false c, zr, List.find?_nil]
     repeat' (first
 | with_reducible refine zap ?_ ?_
 | exact ydd
 | (apply fs_nil <;> (try simp only [go_sem, resV, resS, zaC, zaF, zay, zbi, zaS, idx, renO, zaD, evS, slot, lookR, zaa, ↓reduceIte, reduceCtorEq, if_true, if_false, zaG, zaH, zan, zao, sLoad, readAt, readNeed, Ints_ren, Ints_length, Ints_getD, and_true, true_and, zaA, zaB]) <;> (try rfl))
 | fail)
   have c : (m : Int) < (l.length : Int) := by omega
   obtain ⟨g1, _⟩ := nd_f l m hlt (.sc (.int .i64 0))
   have hN := nd_td l m hlt
   rw [find_drop hlt] at hf
   by_cases hid : (gN l m).i = id
   · rw [if_pos hid] at hf
     rw [hf]
     generalize gN l m = x at *
     obtain ⟨xi, xp, xn, xc, xk, xo⟩ := x
     simp only [ndc] at hN g1 hid ⊢
     simp only [go_sem, zaa, zaf, zag, zah, zai, zad, ↓reduceIte, reduceCtorEq, zab, zac, zaj, zak, zal, decide_eq_true c, g1, decide_eq_true hid, hN, zr]
     repeat' (first
 | with_reducible refine zap ?_ ?_
 | exact ydd
 | (apply fs_nil <;> (try simp only [go_sem, resV, resS, zaC, zaF, zay, zbi, zaS, idx, renO, zaD, evS, slot, lookR, zaa, ↓reduceIte, reduceCtorEq, if_true, if_false, zaG, zaH, zan, zao, sLoad, readAt, readNeed, Ints_ren, Ints_length, Ints_getD, and_true, true_and, zaA, zaB]) <;> (try rfl))
 | fail)
   · rw [if_neg hid] at hf
     simp only [go_sem, zaa, zaf, zag, zah, zai, zad, ↓reduceIte, reduceCtorEq, zab, zac, zaj, zak, zal, decide_eq_true c, g1, decide_eq_false hid, zr]
     repeat' (first
 | with_reducible refine zap ?_ ?_
 | exact ydd
 | exact yda | fail)
     refine le_mk (m + 1) ?_ ⟨hlt, hf⟩ (by omega)
     (refine imp_ren _ _ _ [(0, 0, ⟨[.gsl (Cs l) 0 l.length k, int n], 2⟩), (1, 1, zr)] (by simp) (by simp) (by simp) (zav rfl) ?_ rfl (by simp only [zae, zam, false_implies, implies_true, and_true, zaS, lookR, zaa, if_true, if_false, ↓reduceIte] <;> (repeat' apply zap) <;> (first | rfl | trivial)) (by simp only [zae, zam, false_implies, implies_true, and_true, true_and, flat_cons, flat_nil, flat_ints, flat_bools, flat_app, zaM, and_self, eq_self_iff_true, zaw]); simp only [zan, zao, zae, zam, false_implies, implies_true, and_true, lk, slot, zaC, zay, toN, zaa, if_true, if_false, ↓reduceIte, reduceCtorEq])
     all_goals ((repeat' apply zap) <;> (first | rfl | trivial | (simp only [zaz]; done) | (simp only [zaz]; rfl) | (simp only [zaz]; trivial)))
theorem rhas_spec (l : List Nd) (k : Option Nat) (n id : Int) (hl : l.length ≤ 1000000) (hnm : NmR l) : FnSpec Tryz.prog 59 [trV l k n, i1 id] [] (b1 (hasM l n id)) [] := by
 have h1 := rfindT_spec l k n id hl hnm
 rw [← fdM_2]
 generalize fdM l n id = u at *
 obtain ⟨⟨xi, xp, xn, xc, xk, xo⟩, b⟩ := u
 simp only [ndc] at h1 ⊢
 refine fnspec_of mixed TT_ok TT_cl ⟨fun _ => false, fun _ => [], 0, fun _ => false, fun _ => false⟩ Tryz.func59 rfl (by kernel_rfl) rfl 14 rfl [.tmp 4] rfl ?_
 simp only [go_sem, zaa, zaf, zag, zah, zai, zad, ↓reduceIte, reduceCtorEq, zab, zac, zaj, zak, zal]
 repeat' (first
 | (apply cl_plain
    case hs => rfl
    case ha => exact ydb
    case h => exact yde)
 | ((first | refine s1_id ?_ | refine swp_id ?_ | refine sops_id ?_ | refine s2_id ?_); simp only [zaL, zaP, zaw, zaN, zaQ, zaJ, zaK, zaI, zaT, zaV, zaE, zaO, go_sem, zaa, zaf, zag, zah, zai, zad, ↓reduceIte, reduceCtorEq, zab, zac, zaj, zak, zal, zaC, zaF, zay, zaD, renO, bk, back, outUpsFrom, Ints_ren])
 | exact fs_nil trivial rfl
 | fail)
def ancM (l : List Nd) (n id : Int) : List Int := if hasM l n id = true then upL l id else []
theorem ancM_len (l : List Nd) (n id : Int) : (ancM l n id).length ≤ l.length := by
 unfold ancM
 split
 · have := upR_len l.reverse id; rw [List.length_reverse] at this; exact this
 · exact zaZ _
theorem ranc_spec (l : List Nd) (k : Option Nat) (n id : Int) (hl : l.length ≤ 1000000) (hnm : NmR l) : FnSpec Tryz.prog 117 [trV l k n, i1 id] [] (gi (ancM l n id) none) [] := by
 have h1 := rhas_spec l k n id hl hnm
 have h2 := up_spec l k n id hl
 unfold ancM
 cases hh : hasM l n id with
 | false =>
   rw [hh] at h1
   simp only [zbe, if_false]
   refine fnspec_of mixed TT_ok TT_cl ⟨fun _ => false, fun _ => [], 0, fun _ => false, fun _ => false⟩ Tryz.func117 rfl (by kernel_rfl) rfl 12 rfl [.tmp 4] rfl ?_
   simp only [go_sem, zaa, zaf, zag, zah, zai, zad, ↓reduceIte, reduceCtorEq, zab, zac, zaj, zak, zal]
   repeat' (first
 | (apply cl_plain
    case hs => rfl
    case ha => exact ydb
    case h => exact yde)
 | ((first | refine s1_id ?_ | refine swp_id ?_ | refine sops_id ?_ | refine s2_id ?_); simp only [go_sem, zaa, zaf, zag, zah, zai, zad, ↓reduceIte, reduceCtorEq, zab, zac, zaj, zak, zal, zaC, zaF, zay, zaD, renO, bk, back, outUpsFrom, Ints_ren])
 | exact yda | fail)
   repeat' (first
 | exact fs_w trivial (svw_of cw_gnil)
 | fail)
 | true =>
   rw [hh] at h1
   rw [if_pos rfl]
   generalize upL l id = U at *
   refine fnspec_of mixed TT_ok TT_cl ⟨fun _ => false, fun _ => [], 0, fun _ => false, fun _ => false⟩ Tryz.func117 rfl (by kernel_rfl) rfl 12 rfl [.tmp 4] rfl ?_
   simp only [go_sem, zaa, zaf, zag, zah, zai, zad, ↓reduceIte, reduceCtorEq, zab, zac, zaj, zak, zal]
   repeat' (first
 | (apply cl_plain
    case hs => rfl
    case ha => exact ydb
    case h => exact ydg)
 | ((first | refine s1_id ?_ | refine swp_id ?_ | refine sops_id ?_ | refine s2_id ?_); simp only [go_sem, zaa, zaf, zag, zah, zai, zad, ↓reduceIte, reduceCtorEq, zab, zac, zaj, zak, zal, zaC, zaF, zay, zaD, renO, bk, back, outUpsFrom, Ints_ren])
 | exact fs_nil trivial rfl
 | fail)
theorem rdepth_spec (l : List Nd) (k : Option Nat) (n id : Int) (hl : l.length ≤ 1000000) (hnm : NmR l) : FnSpec Tryz.prog 114 [trV l k n, i1 id] [] (i1 ((ancM l n id).length - 1)) [] := by
 have h1 := ranc_spec l k n id hl hnm
 have h2 := ancM_len l n id
 generalize ancM l n id = U at *
 refine fnspec_of mixed TT_ok TT_cl ⟨fun _ => false, fun _ => [], 0, fun _ => false, fun _ => false⟩ Tryz.func114 rfl (by kernel_rfl) rfl 10 rfl [.tmp 4] rfl ?_
 simp only [go_sem, zaa, zaf, zag, zah, zai, zad, ↓reduceIte, reduceCtorEq, zab, zac, zaj, zak, zal]
 repeat' (first
 | with_reducible refine zap ?_ ?_
 | (apply cl_plain
    case hs => rfl
    case ha => exact ydb
    case h => exact yde)
 | ((first | refine s1_id ?_ | refine swp_id ?_ | refine sops_id ?_ | refine s2_id ?_); simp only [go_sem, zaa, zaf, zag, zah, zai, zad, ↓reduceIte, reduceCtorEq, zab, zac, zaj, zak, zal, zaC, zaF, zay, zaD, renO, bk, back, outUpsFrom, Ints_ren])
 | exact ydd
 | exact fs_nil trivial rfl
 | fail)
def kidsL (l : List Nd) (id : Int) : List Int := (l.filter fun x => decide (x.p = id)).map (·.i)
theorem kidsL_len (l : List Nd) (id : Int) : (kidsL l id).length ≤ l.length := by
 rw [kidsL, List.length_map]; exact List.length_filter_le _ _
theorem kidsL_take (l : List Nd) (m : Nat) (h : m < l.length) (id : Int) : kidsL (l.take (m + 1)) id = kidsL (l.take m) id ++ (if (gN l m).p = id then [(gN l m).i] else []) := by
 rw [kidsL, take_getD l m zn h, List.filter_append, List.map_append]
 by_cases c : (gN l m).p = id
 · rw [if_pos c, zbg (by exact decide_eq_true c)]; rfl
 · rw [if_neg c, zbj (by rw [decide_eq_true_eq]; exact c)]; rfl
def chM (l : List Nd) (n id : Int) : List Int := if hasM l n id = true then kidsL l id else []
set_option maxHeartbeats 8000000 in
theorem rkids_spec (l : List Nd) (k : Option Nat) (n id : Int) (hl : l.length ≤ 1000000) (hnm : NmR l) : FnSpec Tryz.prog 43 [trV l k n, i1 id] [] (gi (chM l n id) none) [] := by
 have h1 := rhas_spec l k n id hl hnm
 have hnl := nd_len l
 unfold chM
 cases hh : hasM l n id with
 | false =>
   rw [hh] at h1
   simp only [zbe, if_false]
   refine fnspec_of mixed TT_ok TT_cl ⟨fun _ => false, fun _ => [], 0, fun _ => false, fun _ => false⟩ Tryz.func43 rfl (by kernel_rfl) rfl 36 rfl [.tmp 4] rfl ?_
   simp only [go_sem, zaa, zaf, zag, zah, zai, zad, ↓reduceIte, reduceCtorEq, zab, zac, zaj, zak, zal]
   repeat' (first
 | (apply cl_plain
    case hs => rfl
    case ha => exact ydb
    case h => exact yde)
 | ((first | refine s1_id ?_ | refine swp_id ?_ | refine sops_id ?_ | refine s2_id ?_); simp only [go_sem, zaa, zaf, zag, zah, zai, zad, ↓reduceIte, reduceCtorEq, zab, zac, zaj, zak, zal, zaC, zaF, zay, zaD, renO, bk, back, outUpsFrom, Ints_ren])
 | exact yda | fail)
   repeat' (first
 | exact fs_w trivial (svw_of cw_gnil)
 | fail)
 | true =>
   rw [hh] at h1
   rw [if_pos rfl]
   refine fnspec_of mixed TT_ok TT_cl ⟨fun _ => false, fun _ => [], 0, fun _ => false, fun _ => false⟩ Tryz.func43 rfl (by kernel_rfl) rfl 36 rfl [.tmp 4] rfl ?_
   simp only [go_sem, zaa, zaf, zag, zah, zai, zad, ↓reduceIte, reduceCtorEq, zab, zac, zaj, zak, zal]
   repeat' (first
 | (apply cl_plain
    case hs => rfl
    case ha => exact ydb
    case h => exact yde)
 | ((first | refine s1_id ?_ | refine swp_id ?_ | refine sops_id ?_ | refine s2_id ?_); simp only [go_sem, zaa, zaf, zag, zah, zai, zad, ↓reduceIte, reduceCtorEq, zab, zac, zaj, zak, zal, zaC, zaF, zay, zaD, renO, bk, back, outUpsFrom, Ints_ren])
 | exact yda | fail)
   refine w_loop (ι := Nat) (fun m => ⟨[(1, i1 id), (2, .one (.optr 0 0)), (5, .one (.osl 1 0 (kidsL (l.take m) id).length none)), (6, i1 m)], [(0, some ⟨[.gsl (Cs l) 0 l.length k, int n], 2⟩), (1, some ⟨Ints (kidsL (l.take m) id), 1⟩)], 2⟩) (fun m => m ≤ l.length) (fun m => l.length - m) 0 ?_ (zaZ _) ?_
   · (refine Imp.trans (imp_nilA _ _ 5 1 99 (by simp only []; omega) rfl) ?_)
     (refine imp_ren _ _ _ [(0, 0, ⟨[.gsl (Cs l) 0 l.length k, int n], 2⟩), (1, 99, ⟨[], 1⟩)] (by simp) (by simp) (by simp) (zav rfl) ?_ rfl (by simp only [zae, zam, false_implies, implies_true, and_true, zaS, lookR, zaa, if_true, if_false, ↓reduceIte] <;> (repeat' apply zap) <;> (first | rfl | trivial)) (by simp only [zae, zam, false_implies, implies_true, and_true, true_and, flat_cons, flat_nil, flat_ints, flat_bools, flat_app, zaM, and_self, eq_self_iff_true, zaw]); simp only [zan, zao, zae, zam, false_implies, implies_true, and_true, lk, slot, zaC, zay, toN, zaa, if_true, if_false, ↓reduceIte, reduceCtorEq])
     all_goals ((repeat' apply zap) <;> (first | rfl | trivial))
   clear h1
   intro m hm
   simp only at hm ⊢
   rcases zbd m l.length with hlt | hge
   case inr =>
     have c : ¬ (m : Int) < (l.length : Int) := by omega
     rw [zba hge]
     simp only [go_sem, zaa, zaf, zag, zah, zai, zad, ↓reduceIte, reduceCtorEq, zab, zac, zaj, zak, zal, decide_eq_false c]
     repeat' (first
 | exact yda | fail)
     (refine fs_frz 1 ⟨Ints (kidsL l id), 1⟩ (by simp only [zaS, lookR, zaa, if_true, if_false, ↓reduceIte]) (by first | exact Ints_isG _ | exact Bools_isG _ | exact Cs_isG _ | (simp [Cell.isG]; done)) ?_; simp only [frzTm, SV.frz, SV.frzL, Cell.frz, frzHp, frzO, Ints_frz, Bools_frz, zan, zao, zaa, if_true, if_false, ↓reduceIte])
     apply fs_nil <;> (try simp only [go_sem, resV, resS, zaC, zaF, zay, zbi, zaS, idx, renO, zaD, evS, slot, lookR, zaa, ↓reduceIte, reduceCtorEq, if_true, if_false, zaG, zaH, zan, zao, sLoad, readAt, readNeed, Ints_ren, Ints_length, Ints_getD, and_true, true_and, zaA, zaB]) <;> (try rfl)
   have c : (m : Int) < (l.length : Int) := by omega
   obtain ⟨g1, g2, _⟩ := nd_f l m hlt (.sc (.int .i64 0))
   have hk := kidsL_take l m hlt id
   have hkl := kidsL_len (l.take m) id
   rw [zaU] at hkl
   generalize kidsL (l.take m) id = K at *
   by_cases hid : (gN l m).p = id
   · rw [if_pos hid] at hk
     have htk : zbm K.length (Ints K) = Ints K := zba (by rw [Ints_length]; exact zaX _)
     have hpp : Ints K ++ [int (gN l m).i] = Ints (K ++ [(gN l m).i]) := by simp [Ints]
     have hla : (K ++ [(gN l m).i]).length = K.length + 1 := by simp
     simp only [go_sem, zaa, zaf, zag, zah, zai, zad, ↓reduceIte, reduceCtorEq, zab, zac, zaj, zak, zal, decide_eq_true c, g1, g2, decide_eq_true hid]
     repeat' (first
 | with_reducible refine zap ?_ ?_
 | exact ydd
 | exact yda | fail)
     refine le_mk (m + 1) ?_ hlt (by omega)
     simp only [hk, hla]
     (refine imp_ren _ _ _ [(0, 0, ⟨[.gsl (Cs l) 0 l.length k, int n], 2⟩), (1, 23, ⟨Ints (K ++ [(gN l m).i]), 1⟩)] (by simp) (by simp) (by simp) (zav rfl) ?_ rfl (by simp only [zae, zam, false_implies, implies_true, and_true, zaS, lookR, zaa, if_true, if_false, ↓reduceIte] <;> (repeat' apply zap) <;> (first | rfl | trivial)) (by simp only [zae, zam, false_implies, implies_true, and_true, true_and, flat_cons, flat_nil, flat_ints, flat_bools, flat_app, zaM, and_self, eq_self_iff_true, zaw]); simp only [zan, zao, zae, zam, false_implies, implies_true, and_true, lk, slot, zaC, zay, toN, zaa, if_true, if_false, ↓reduceIte, reduceCtorEq])
     all_goals ((repeat' apply zap) <;> (first | rfl | trivial | (simp only [zaz]; done) | (simp only [zaz]; rfl) | (simp only [zaz]; trivial)))
   · rw [if_neg hid, zaw] at hk
     simp only [go_sem, zaa, zaf, zag, zah, zai, zad, ↓reduceIte, reduceCtorEq, zab, zac, zaj, zak, zal, decide_eq_true c, g1, g2, decide_eq_false hid]
     repeat' (first
 | with_reducible refine zap ?_ ?_
 | exact ydd
 | exact yda | fail)
     refine le_mk (m + 1) ?_ hlt (by omega)
     simp only [hk]
     (refine imp_ren _ _ _ [(0, 0, ⟨[.gsl (Cs l) 0 l.length k, int n], 2⟩), (1, 1, ⟨Ints K, 1⟩)] (by simp) (by simp) (by simp) (zav rfl) ?_ rfl (by simp only [zae, zam, false_implies, implies_true, and_true, zaS, lookR, zaa, if_true, if_false, ↓reduceIte] <;> (repeat' apply zap) <;> (first | rfl | trivial)) (by simp only [zae, zam, false_implies, implies_true, and_true, true_and, flat_cons, flat_nil, flat_ints, flat_bools, flat_app, zaM, and_self, eq_self_iff_true, zaw]); simp only [zan, zao, zae, zam, false_implies, implies_true, and_true, lk, slot, zaC, zay, toN, zaa, if_true, if_false, ↓reduceIte, reduceCtorEq])
     all_goals ((repeat' apply zap) <;> (first | rfl | trivial | (simp only [zaz]; done) | (simp only [zaz]; rfl) | (simp only [zaz]; trivial)))
theorem trcopy_spec (l : List Nd) (k : Option Nat) (n : Int) (h1 : 1 ≤ l.length) (hl : l.length ≤ 1000000) : FnSpec Tryz.prog 82 [trV l k n] [] (.agg [.osl 0 0 l.length none, int n]) [some ⟨Cs l, 6⟩] := by
 have hnl := nd_len l
 have hca : zbm (l.length * 6) (Cs l) = Cs l := Cs_all l _ (zaX _)
 refine fnspec_of mixed TT_ok TT_cl ⟨fun _ => false, fun _ => [], 0, fun _ => false, fun _ => false⟩ Tryz.func82 rfl (by kernel_rfl) rfl 9 rfl [.cell 2 25] rfl ?_
 simp only [go_sem, zaa, zaf, zag, zah, zai, zad, ↓reduceIte, reduceCtorEq, zab, zac, zaj, zak, zal]
 repeat' (first
 | with_reducible refine zap ?_ ?_
 | (unfold OKC; kernel_rfl)
 | (unfold EDG; kernel_rfl)
 | exact ydd
 | exact yda | fail)
 all_goals try (rw [hca, hnl])
 (refine fs_flat [(4, ⟨Cs l, 6⟩)] (by simp) (by simp only [zan, zao]; decide) (by simp only [go_sem, resV, resS, zaC, zaF, zay, zbi, zaS, idx, renO, zaD, evS, slot, lookR, zaa, ↓reduceIte, reduceCtorEq, if_true, if_false, zaG, zaH, zan, zao, sLoad, readAt, readNeed, Ints_ren, Ints_length, Ints_getD, and_true, true_and, zaA, zaB]; try decide) ?_ (by simp only [zae, zam, false_implies, implies_true, and_true, zaS, lookR, zaa, if_true, if_false, ↓reduceIte, hca, Cs_flat] <;> (repeat' apply zap) <;> (first | rfl | trivial)) (by simp only [zae, zam, false_implies, implies_true, and_true, true_and, flat_cons, flat_nil, flat_ints, flat_bools, flat_app, zaM, and_self, eq_self_iff_true, zaw, hca, Cs_flat]) ?_ <;> (try simp only [go_sem, resV, resS, zaC, zaF, zay, zbi, zaS, idx, renO, zaD, evS, slot, lookR, zaa, ↓reduceIte, reduceCtorEq, if_true, if_false, zaG, zaH, zan, zao, sLoad, readAt, readNeed, Ints_ren, Ints_length, Ints_getD, and_true, true_and, zaA, zaB]) <;> (try rfl))
theorem trnew_spec : FnSpec Tryz.prog 75 [] [] (trV [⟨1, 0, [], 0, 0, 0⟩] none 2) [] := by
 refine fnspec_of mixed TT_ok TT_cl ⟨fun _ => false, fun _ => [], 0, fun _ => false, fun _ => false⟩ Tryz.func75 rfl (by kernel_rfl) rfl 4 rfl [.cell 0 25] rfl ?_
 simp only [go_sem, zaa, zaf, zag, zah, zai, zad, ↓reduceIte, reduceCtorEq, zab, zac, zaj, zak, zal]
 repeat' (first
 | with_reducible refine zap ?_ ?_
 | exact yda | fail)
 all_goals try (exact zaX _)
 simp only [zaL, zaP, zaw, zaN, zaQ, zaJ, zaK, zaI, zaT, zaV, zaE, zaO]
 (refine fs_frz 2 ⟨[int 1, int 0, st [], int 0, int 0, int 0], 6⟩ (by simp only [zaS, lookR, zaa, if_true, if_false, ↓reduceIte]) (by first | exact Ints_isG _ | exact Bools_isG _ | exact Cs_isG _ | (simp [Cell.isG]; done)) ?_; simp only [frzTm, SV.frz, SV.frzL, Cell.frz, frzHp, frzO, Ints_frz, Bools_frz, zan, zao, zaa, if_true, if_false, ↓reduceIte])
 repeat' (first
 | exact ydc
 | fail)
end Go.Proofs.YtnahpejlhfeleabGreat
namespace Go.Proofs.YtnahpejlhfeleabGreat
open Go.Proofs.YtnahpejlhfeleabGreat.Sh
set_option maxRecDepth 20000
abbrev newN (n p : Int) (s : Str) : Nd := ⟨n, p, s, 0, 0, 0⟩
def addM (l : List Nd) (n p : Int) (s : Str) : (List Nd × Int) × Int × Int :=
  if (chkT l n && nmOk s) = false then (([], 0), 0, 1)
  else if hasM l n p = false then (([], 0), 0, 4)
  else if l.any (same1 p s) = true then (([], 0), 0, 5)
  else if 8 ≤ ((ancM l n p).length : Int) - 1 ∨ 64 ≤ (l.length : Int) ∨ 2147483647 < n then (([], 0), 0, 7)
  else ((l ++ [newN n p s], n + 1), n, 0)
abbrev adV (x : (List Nd × Int) × Int × Int) : SV := .tup [trV x.1.1 none x.1.2, i1 x.2.1, i1 x.2.2]
set_option maxHeartbeats 16000000 in
theorem radd_spec (l : List Nd) (k : Option Nat) (n p : Int) (s : Str) (hl : l.length ≤ 1000000) (hnm : NmR l) (hs : s.length ≤ 9223372036854775807) : FnSpec Tryz.prog 86 [trV l k n, i1 p, s1 s] [] (adV (addM l n p s)) [] := by
 have h1 := trcheck_spec l k n hl hnm
 have h2 := rvalid_spec s (by omega)
 have hnl := nd_len l
 unfold addM
 cases hc : chkT l n with
 | false =>
   rw [hc] at h1
   rw [zaR, if_pos rfl]
   refine fnspec_of mixed TT_ok TT_cl ⟨fun _ => false, fun _ => [], 0, fun _ => false, fun _ => false⟩ Tryz.func86 rfl (by kernel_rfl) rfl 86 rfl [.cell 6 25, .tmp 7, .tmp 8] rfl ?_
   simp only [go_sem, zaa, zaf, zag, zah, zai, zad, ↓reduceIte, reduceCtorEq, zab, zac, zaj, zak, zal]
   repeat' (first
 | (apply cl_plain
    case hs => rfl
    case ha => exact ydb
    case h => exact ydg)
 | ((first | refine s1_id ?_ | refine swp_id ?_ | refine sops_id ?_ | refine s2_id ?_); simp only [go_sem, zaa, zaf, zag, zah, zai, zad, ↓reduceIte, reduceCtorEq, zab, zac, zaj, zak, zal, zaC, zaF, zay, zaD, renO, bk, back, outUpsFrom, Ints_ren])
 | exact yda | fail)
   repeat' (first
 | exact ydc
 | fail)
 | true =>
 rw [hc] at h1
 rw [zaW]
 have hV := (chkT_iff l n).1 hc
 cases hv : nmOk s with
 | false =>
   rw [hv] at h2
   rw [if_pos rfl]
   refine fnspec_of mixed TT_ok TT_cl ⟨fun _ => false, fun _ => [], 0, fun _ => false, fun _ => false⟩ Tryz.func86 rfl (by kernel_rfl) rfl 86 rfl [.cell 6 25, .tmp 7, .tmp 8] rfl ?_
   simp only [go_sem, zaa, zaf, zag, zah, zai, zad, ↓reduceIte, reduceCtorEq, zab, zac, zaj, zak, zal]
   repeat' (first
 | (apply cg_tp
    case hl => rfl
    case ha => exact ydb
    case hs => rfl
    case h => exact ydg)
 | (apply cl_plain
    case hs => rfl
    case ha => exact ydb
    case h => exact ydg)
 | ((first | refine s1_id ?_ | refine swp_id ?_ | refine sops_id ?_ | refine s2_id ?_); simp only [go_sem, zaa, zaf, zag, zah, zai, zad, ↓reduceIte, reduceCtorEq, zab, zac, zaj, zak, zal, zaC, zaF, zay, zaD, renO, bk, back, outUpsFrom, Ints_ren])
 | exact yda | fail)
   repeat' (first
 | exact ydc
 | fail)
 | true =>
 rw [hv] at h2
 rw [if_neg (by decide)]
 have h3 := rhas_spec l k n p hl hnm
 cases hh : hasM l n p with
 | false =>
   rw [hh] at h3
   rw [if_pos rfl]
   refine fnspec_of mixed TT_ok TT_cl ⟨fun _ => false, fun _ => [], 0, fun _ => false, fun _ => false⟩ Tryz.func86 rfl (by kernel_rfl) rfl 86 rfl [.cell 6 25, .tmp 7, .tmp 8] rfl ?_
   simp only [go_sem, zaa, zaf, zag, zah, zai, zad, ↓reduceIte, reduceCtorEq, zab, zac, zaj, zak, zal]
   repeat' (first
 | (apply cg_tp
    case hl => rfl
    case ha => exact ydb
    case hs => rfl
    case h => exact ydi)
 | (apply cl_plain
    case hs => rfl
    case ha => exact ydb
    case h => exact ydi)
 | ((first | refine s1_id ?_ | refine swp_id ?_ | refine sops_id ?_ | refine s2_id ?_); simp only [go_sem, zaa, zaf, zag, zah, zai, zad, ↓reduceIte, reduceCtorEq, zab, zac, zaj, zak, zal, zaC, zaF, zay, zaD, renO, bk, back, outUpsFrom, Ints_ren])
 | exact yda | fail)
   repeat' (first
 | exact ydc
 | fail)
 | true =>
 rw [hh] at h3
 rw [if_neg (by decide)]
 have h4 := rdepth_spec l k n p hl hnm
 refine fnspec_of mixed TT_ok TT_cl ⟨fun _ => false, fun _ => [], 0, fun _ => false, fun _ => false⟩ Tryz.func86 rfl (by kernel_rfl) rfl 86 rfl [.cell 6 25, .tmp 7, .tmp 8] rfl ?_
 simp only [go_sem, zaa, zaf, zag, zah, zai, zad, ↓reduceIte, reduceCtorEq, zab, zac, zaj, zak, zal]
 repeat' (first
 | (apply cg_tp
    case hl => rfl
    case ha => exact ydb
    case hs => rfl
    case h => exact ydi)
 | (apply cl_plain
    case hs => rfl
    case ha => exact ydb
    case h => exact ydi)
 | ((first | refine s1_id ?_ | refine swp_id ?_ | refine sops_id ?_ | refine s2_id ?_); simp only [go_sem, zaa, zaf, zag, zah, zai, zad, ↓reduceIte, reduceCtorEq, zab, zac, zaj, zak, zal, zaC, zaF, zay, zaD, renO, bk, back, outUpsFrom, Ints_ren])
 | exact yda | fail)
 refine w_loop (ι := Nat) (fun m => ⟨[(1, i1 p), (2, s1 s), (3, .one (.optr 0 0)), (6, .one (.optr 1 0)), (9, i1 m)], [(0, some ⟨[.gsl (Cs l) 0 l.length k, int n], 2⟩), (1, some ⟨[.sc (.slice none 0 0), int 0], 2⟩)], 2⟩) (fun m => m ≤ l.length ∧ (l.take m).any (same1 p s) = false) (fun m => l.length - m) 0 ?_ ⟨zaZ _, rfl⟩ ?_
 · (refine imp_ren _ _ _ [(0, 0, ⟨[.gsl (Cs l) 0 l.length k, int n], 2⟩), (1, 1, ⟨[.sc (.slice none 0 0), int 0], 2⟩)] (by simp) (by simp) (by simp) (zav rfl) ?_ rfl (by simp only [zae, zam, false_implies, implies_true, and_true, zaS, lookR, zaa, if_true, if_false, ↓reduceIte] <;> (repeat' apply zap) <;> (first | rfl | trivial)) (by simp only [zae, zam, false_implies, implies_true, and_true, true_and, flat_cons, flat_nil, flat_ints, flat_bools, flat_app, zaM, and_self, eq_self_iff_true, zaw]); simp only [zan, zao, zae, zam, false_implies, implies_true, and_true, lk, slot, zaC, zay, toN, zaa, if_true, if_false, ↓reduceIte, reduceCtorEq])
   all_goals ((repeat' apply zap) <;> (first | rfl | trivial))
 clear h1 h2 h3
 rintro m ⟨hm, hno⟩
 simp only at hm hno ⊢
 rcases zbd m l.length with hlt | hge
 case inl =>
   have c : (m : Int) < (l.length : Int) := by omega
   obtain ⟨_, g2, _⟩ := nd_f l m hlt (.sc (.int .i64 0))
   have g3 := (nd_f l m hlt (.sc (.string (bs [])))).2.2.1
   have hs2 := any_take_succ l m hlt (same1 p s)
   have hsm : same1 p s (gN l m) = (decide ((gN l m).p = p) && decide ((gN l m).nm = s)) := rfl
   rw [hno, Bool.false_or] at hs2
   cases hdup : same1 p s (gN l m) with
   | true =>
     have hany : l.any (same1 p s) = true := List.any_eq_true.2 ⟨gN l m, getD_mem l m zn hlt, hdup⟩
     rw [if_pos hany]
     rw [hsm] at hdup
     simp only [go_sem, zaa, zaf, zag, zah, zai, zad, ↓reduceIte, reduceCtorEq, zab, zac, zaj, zak, zal, decide_eq_true c, g2, g3, hdup]
     repeat' (first
 | with_reducible refine zap ?_ ?_
 | exact ydd
 | exact yda | fail)
     repeat' (first
 | exact ydc
 | fail)
   | false =>
     rw [hdup] at hs2
     rw [hsm] at hdup
     simp only [go_sem, zaa, zaf, zag, zah, zai, zad, ↓reduceIte, reduceCtorEq, zab, zac, zaj, zak, zal, decide_eq_true c, g2, g3, hdup]
     repeat' (first
 | with_reducible refine zap ?_ ?_
 | exact ydd
 | exact yda | fail)
     refine le_mk (m + 1) ?_ ⟨hlt, hs2⟩ (by omega)
     (refine imp_ren _ _ _ [(0, 0, ⟨[.gsl (Cs l) 0 l.length k, int n], 2⟩), (1, 1, ⟨[.sc (.slice none 0 0), int 0], 2⟩)] (by simp) (by simp) (by simp) (zav rfl) ?_ rfl (by simp only [zae, zam, false_implies, implies_true, and_true, zaS, lookR, zaa, if_true, if_false, ↓reduceIte] <;> (repeat' apply zap) <;> (first | rfl | trivial)) (by simp only [zae, zam, false_implies, implies_true, and_true, true_and, flat_cons, flat_nil, flat_ints, flat_bools, flat_app, zaM, and_self, eq_self_iff_true, zaw]); simp only [zan, zao, zae, zam, false_implies, implies_true, and_true, lk, slot, zaC, zay, toN, zaa, if_true, if_false, ↓reduceIte, reduceCtorEq])
     all_goals ((repeat' apply zap) <;> (first | rfl | trivial | (simp only [zaz]; done) | (simp only [zaz]; rfl) | (simp only [zaz]; trivial)))
 have c : ¬ (m : Int) < (l.length : Int) := by omega
 rw [zba hge] at hno
 rw [if_neg (by rw [hno]; decide)]
 have h5 := trcopy_spec l k n hV.ne hl
 have hmx := hV.mx
 have hpos := hV.nx
 have hp1 := hV.pos (i := l.length - 1) (by have := hV.ne; omega)
 by_cases hd : 8 ≤ ((ancM l n p).length : Int) - 1 ∨ 64 ≤ (l.length : Int) ∨ 2147483647 < n
 · rw [if_pos hd]
   have hdd : (decide (8 ≤ ((ancM l n p).length : Int) - 1) || decide (64 ≤ (l.length : Int)) || decide (2147483647 < n)) = true := by
     simp only [zax, decide_eq_true_eq]; omega
   simp only [go_sem, zaa, zaf, zag, zah, zai, zad, ↓reduceIte, reduceCtorEq, zab, zac, zaj, zak, zal, decide_eq_false c, hdd]
   repeat' (first
 | (apply cl_plain
    case hs => rfl
    case ha => exact ydb
    case h => (first | exact h4 ..))
 | ((first | refine s1_id ?_ | refine swp_id ?_ | refine sops_id ?_ | refine s2_id ?_); simp only [decide_eq_false c, hdd, go_sem, zaa, zaf, zag, zah, zai, zad, ↓reduceIte, reduceCtorEq, zab, zac, zaj, zak, zal, zaC, zaF, zay, zaD, renO, bk, back, outUpsFrom, Ints_ren])
 | exact yda | fail)
   repeat' (first
 | exact ydc
 | fail)
 · rw [if_neg hd]
   have hdd : (decide (8 ≤ ((ancM l n p).length : Int) - 1) || decide (64 ≤ (l.length : Int)) || decide (2147483647 < n)) = false := by
     simp only [zar, decide_eq_false_iff_not]; omega
   have hca : zbm (l.length * 6) (Cs l) = Cs l := Cs_all l _ (zaX _)
   have hpp : Cs l ++ [int n, int p, st s, int 0, int 0, int 0] = Cs (l ++ [newN n p s]) := Cs_snoc l (newN n p s)
   have hla : (l ++ [newN n p s]).length = l.length + 1 := by simp
   simp only [go_sem, zaa, zaf, zag, zah, zai, zad, ↓reduceIte, reduceCtorEq, zab, zac, zaj, zak, zal, decide_eq_false c, hdd]
   repeat' (first
 | with_reducible refine zap ?_ ?_
 | (unfold OKC; kernel_rfl)
 | (unfold EDG; kernel_rfl)
 | (apply cl_plain
    case hs => rfl
    case ha => exact ydb
    case h => (first | exact h4 .. | exact h5 ..))
 | ((first | refine s1_id ?_ | refine swp_id ?_ | refine sops_id ?_ | refine s2_id ?_); simp only [decide_eq_false c, hdd, hca, hpp, zaL, zaP, zaw, zaN, zaQ, zaJ, zaK, zaI, zaT, zaV, zaE, zaO, go_sem, zaa, zaf, zag, zah, zai, zad, ↓reduceIte, reduceCtorEq, zab, zac, zaj, zak, zal, zaC, zaF, zay, zaD, renO, bk, back, outUpsFrom, Ints_ren])
 | exact ydd
 | exact yda | fail)
   simp only [adV, trV, hla]
   (refine fs_frz 34 ⟨Cs (l ++ [newN n p s]), 6⟩ (by simp only [zaS, lookR, zaa, if_true, if_false, ↓reduceIte]) (by first | exact Ints_isG _ | exact Bools_isG _ | exact Cs_isG _ | (simp [Cell.isG]; done)) ?_; simp only [frzTm, SV.frz, SV.frzL, Cell.frz, frzHp, frzO, Ints_frz, Bools_frz, zan, zao, zaa, if_true, if_false, ↓reduceIte])
   apply fs_nil <;> (try simp only [go_sem, resV, resS, zaC, zaF, zay, zbi, zaS, idx, renO, zaD, evS, slot, lookR, zaa, ↓reduceIte, reduceCtorEq, if_true, if_false, zaG, zaH, zan, zao, sLoad, readAt, readNeed, Ints_ren, Ints_length, Ints_getD, and_true, true_and, zaA, zaB]) <;> (first | rfl | decide | skip)
def rmM (l : List Nd) (n id : Int) : (List Nd × Int) × Int :=
  if chkT l n = false then (([], 0), 1)
  else if hasM l n id = false then (([], 0), 4)
  else if id = 1 then (([], 0), 9)
  else if 0 < ((chM l n id).length : Int) then (([], 0), 6)
  else ((rmN l id, n), 0)
abbrev rmV (x : (List Nd × Int) × Int) : SV := .tup [trV x.1.1 none x.1.2, i1 x.2]
theorem rmN_take (l : List Nd) (m : Nat) (h : m < l.length) (id : Int) : rmN (l.take (m + 1)) id = rmN (l.take m) id ++ (if (gN l m).i = id then [] else [gN l m]) := by
 unfold rmN
 rw [take_getD l m zn h, List.filter_append]
 by_cases c : (gN l m).i = id
 · rw [if_pos c, zbj (by simp only [zau, decide_eq_false_iff_not]; exact fun e => e c)]; rfl
 · rw [if_neg c, zbg (by simp only [zau, decide_eq_false_iff_not]; exact c)]; rfl
theorem rmN_len (l : List Nd) (id : Int) : (rmN l id).length ≤ l.length := List.length_filter_le _ _
set_option maxHeartbeats 16000000 in
theorem rrem_spec (l : List Nd) (k : Option Nat) (n id : Int) (hl : l.length ≤ 1000000) (hnm : NmR l) : FnSpec Tryz.prog 85 [trV l k n, i1 id] [] (rmV (rmM l n id)) [] := by
 have h1 := trcheck_spec l k n hl hnm
 have hnl := nd_len l
 unfold rmM
 cases hc : chkT l n with
 | false =>
   rw [hc] at h1
   rw [if_pos rfl]
   refine fnspec_of mixed TT_ok TT_cl ⟨fun _ => false, fun _ => [], 0, fun _ => false, fun _ => false⟩ Tryz.func85 rfl (by kernel_rfl) rfl 59 rfl [.cell 4 25, .tmp 5] rfl ?_
   simp only [go_sem, zaa, zaf, zag, zah, zai, zad, ↓reduceIte, reduceCtorEq, zab, zac, zaj, zak, zal]
   repeat' (first
 | (apply cl_plain
    case hs => rfl
    case ha => exact ydb
    case h => exact yde)
 | ((first | refine s1_id ?_ | refine swp_id ?_ | refine sops_id ?_ | refine s2_id ?_); simp only [go_sem, zaa, zaf, zag, zah, zai, zad, ↓reduceIte, reduceCtorEq, zab, zac, zaj, zak, zal, zaC, zaF, zay, zaD, renO, bk, back, outUpsFrom, Ints_ren])
 | exact yda | fail)
   repeat' (first
 | exact ydc
 | fail)
 | true =>
 rw [hc] at h1
 rw [if_neg (by decide)]
 have h3 := rhas_spec l k n id hl hnm
 cases hh : hasM l n id with
 | false =>
   rw [hh] at h3
   rw [if_pos rfl]
   refine fnspec_of mixed TT_ok TT_cl ⟨fun _ => false, fun _ => [], 0, fun _ => false, fun _ => false⟩ Tryz.func85 rfl (by kernel_rfl) rfl 59 rfl [.cell 4 25, .tmp 5] rfl ?_
   simp only [go_sem, zaa, zaf, zag, zah, zai, zad, ↓reduceIte, reduceCtorEq, zab, zac, zaj, zak, zal]
   repeat' (first
 | (apply cl_plain
    case hs => rfl
    case ha => exact ydb
    case h => (first | exact h1 .. | exact h3 ..))
 | ((first | refine s1_id ?_ | refine swp_id ?_ | refine sops_id ?_ | refine s2_id ?_); simp only [go_sem, zaa, zaf, zag, zah, zai, zad, ↓reduceIte, reduceCtorEq, zab, zac, zaj, zak, zal, zaC, zaF, zay, zaD, renO, bk, back, outUpsFrom, Ints_ren])
 | exact yda | fail)
   repeat' (first
 | exact ydc
 | fail)
 | true =>
 rw [hh] at h3
 rw [if_neg (by decide)]
 by_cases hid : id = 1
 · rw [if_pos hid]
   refine fnspec_of mixed TT_ok TT_cl ⟨fun _ => false, fun _ => [], 0, fun _ => false, fun _ => false⟩ Tryz.func85 rfl (by kernel_rfl) rfl 59 rfl [.cell 4 25, .tmp 5] rfl ?_
   simp only [go_sem, zaa, zaf, zag, zah, zai, zad, ↓reduceIte, reduceCtorEq, zab, zac, zaj, zak, zal, decide_eq_true hid]
   repeat' (first
 | (apply cl_plain
    case hs => rfl
    case ha => exact ydb
    case h => (first | exact h1 .. | exact h3 ..))
 | ((first | refine s1_id ?_ | refine swp_id ?_ | refine sops_id ?_ | refine s2_id ?_); simp only [decide_eq_true hid, go_sem, zaa, zaf, zag, zah, zai, zad, ↓reduceIte, reduceCtorEq, zab, zac, zaj, zak, zal, zaC, zaF, zay, zaD, renO, bk, back, outUpsFrom, Ints_ren])
 | exact yda | fail)
   repeat' (first
 | exact ydc
 | fail)
 rw [if_neg hid]
 have h4 := rkids_spec l k n id hl hnm
 generalize chM l n id = K at *
 by_cases hk : 0 < (K.length : Int)
 · rw [if_pos hk]
   refine fnspec_of mixed TT_ok TT_cl ⟨fun _ => false, fun _ => [], 0, fun _ => false, fun _ => false⟩ Tryz.func85 rfl (by kernel_rfl) rfl 59 rfl [.cell 4 25, .tmp 5] rfl ?_
   simp only [go_sem, zaa, zaf, zag, zah, zai, zad, ↓reduceIte, reduceCtorEq, zab, zac, zaj, zak, zal, decide_eq_false hid, decide_eq_true hk]
   repeat' (first
 | (apply cl_plain
    case hs => rfl
    case ha => exact ydb
    case h => (first | exact h1 .. | exact h3 .. | exact h4 ..))
 | ((first | refine s1_id ?_ | refine swp_id ?_ | refine sops_id ?_ | refine s2_id ?_); simp only [decide_eq_false hid, decide_eq_true hk, go_sem, zaa, zaf, zag, zah, zai, zad, ↓reduceIte, reduceCtorEq, zab, zac, zaj, zak, zal, zaC, zaF, zay, zaD, renO, bk, back, outUpsFrom, Ints_ren])
 | exact yda | fail)
   repeat' (first
 | exact ydc
 | fail)
 rw [if_neg hk]
 refine fnspec_of mixed TT_ok TT_cl ⟨fun _ => false, fun _ => [], 0, fun _ => false, fun _ => false⟩ Tryz.func85 rfl (by kernel_rfl) rfl 59 rfl [.cell 4 25, .tmp 5] rfl ?_
 simp only [go_sem, zaa, zaf, zag, zah, zai, zad, ↓reduceIte, reduceCtorEq, zab, zac, zaj, zak, zal, decide_eq_false hid, decide_eq_false hk]
 repeat' (first
 | (apply cl_plain
    case hs => rfl
    case ha => exact ydb
    case h => (first | exact h1 .. | exact h3 .. | exact h4 ..))
 | ((first | refine s1_id ?_ | refine swp_id ?_ | refine sops_id ?_ | refine s2_id ?_); simp only [decide_eq_false hid, decide_eq_false hk, go_sem, zaa, zaf, zag, zah, zai, zad, ↓reduceIte, reduceCtorEq, zab, zac, zaj, zak, zal, zaC, zaF, zay, zaD, renO, bk, back, outUpsFrom, Ints_ren])
 | exact yda | fail)
 refine w_loop (ι := Nat) (fun m => ⟨[(1, i1 id), (2, .one (.optr 0 0)), (4, .one (.optr 1 0)), (6, .one (.optr 2 0)), (7, i1 m)], [(0, some ⟨[.gsl (Cs l) 0 l.length k, int n], 2⟩), (1, some ⟨[.sc (.slice none 0 0), int 0], 2⟩), (2, some ⟨[.osl 3 0 (rmN (l.take m) id).length none, int n], 2⟩), (3, some ⟨Cs (rmN (l.take m) id), 6⟩)], 4⟩) (fun m => m ≤ l.length) (fun m => l.length - m) 0 ?_ (zaZ _) ?_
 · (refine Imp.trans (imp_nilC _ _ 24 0 6 99 (by simp only []; omega) (by simp only [zaS, lookR, zaa, if_true, if_false, ↓reduceIte]; rfl) rfl) ?_)
   (refine imp_sub _ _ _ [(0, 0), (1, 1), (2, 24), (3, 99)] (by simp) (by simp) (by simp) (zav rfl) ?_ (by simp only [zan, zao, zaS, lookR, renO, zaD, zay, toN, Ints_ren, Bools_ren, zaa, if_true, if_false, ↓reduceIte, Cs_ren, Cs_flat, zaJ] <;> (try rfl)) (by simp only [zae, zam, false_implies, implies_true, and_true, zaS, lookR, zaa, if_true, if_false, ↓reduceIte, Option.some.injEq, forall_eq'] <;> ((repeat' with_reducible apply zap) <;> (first | with_reducible trivial | exact fun c hc q hq => absurd hq (Ints_refs0 _ _ c hc) | exact fun c hc q hq => absurd hq (by rw [Cs_flat _ c hc]; exact zam) | (simp [zaM, toN]; done)))); simp only [zan, zao, zae, zam, false_implies, implies_true, and_true, lk, slot, zaC, zay, toN, zaa, if_true, if_false, ↓reduceIte, reduceCtorEq])
   all_goals ((repeat' apply zap) <;> (first | rfl | trivial))
 clear h1 h3 h4
 intro m hm
 simp only at hm ⊢
 rcases zbd m l.length with hlt | hge
 case inr =>
   have c : ¬ (m : Int) < (l.length : Int) := by omega
   rw [zba hge]
   simp only [go_sem, zaa, zaf, zag, zah, zai, zad, ↓reduceIte, reduceCtorEq, zab, zac, zaj, zak, zal, decide_eq_false c]
   repeat' (first
 | exact yda | fail)
   (refine fs_frz 3 ⟨Cs (rmN l id), 6⟩ (by simp only [zaS, lookR, zaa, if_true, if_false, ↓reduceIte]) (by first | exact Ints_isG _ | exact Bools_isG _ | exact Cs_isG _ | (simp [Cell.isG]; done)) ?_; simp only [frzTm, SV.frz, SV.frzL, Cell.frz, frzHp, frzO, Ints_frz, Bools_frz, zan, zao, zaa, if_true, if_false, ↓reduceIte])
   apply fs_nil <;> (try simp only [go_sem, resV, resS, zaC, zaF, zay, zbi, zaS, idx, renO, zaD, evS, slot, lookR, zaa, ↓reduceIte, reduceCtorEq, if_true, if_false, zaG, zaH, zan, zao, sLoad, readAt, readNeed, Ints_ren, Ints_length, Ints_getD, and_true, true_and, zaA, zaB]) <;> (first | rfl | decide | skip)
 have c : (m : Int) < (l.length : Int) := by omega
 obtain ⟨g1, _⟩ := nd_f l m hlt (.sc (.int .i64 0))
 have hN := nd_td l m hlt
 have ht := rmN_take l m hlt id
 have htl := rmN_len (l.take m) id
 rw [zaU] at htl
 generalize rmN (l.take m) id = K2 at *
 by_cases hi : (gN l m).i = id
 · rw [if_pos hi, zaw] at ht
   simp only [go_sem, zaa, zaf, zag, zah, zai, zad, ↓reduceIte, reduceCtorEq, zab, zac, zaj, zak, zal, decide_eq_true c, g1, decide_eq_true hi]
   repeat' (first
 | with_reducible refine zap ?_ ?_
 | exact ydd
 | exact yda | fail)
   refine le_mk (m + 1) ?_ hlt (by omega)
   simp only [ht]
   (refine imp_sub _ _ _ [(0, 0), (1, 1), (2, 2), (3, 3)] (by simp) (by simp) (by simp) (zav rfl) ?_ (by simp only [zan, zao, zaS, lookR, renO, zaD, zay, toN, Ints_ren, Bools_ren, zaa, if_true, if_false, ↓reduceIte, Cs_ren, Cs_flat] <;> (try rfl)) (by simp only [zae, zam, false_implies, implies_true, and_true, zaS, lookR, zaa, if_true, if_false, ↓reduceIte, Option.some.injEq, forall_eq'] <;> ((repeat' with_reducible apply zap) <;> (first | with_reducible trivial | exact fun c hc q hq => absurd hq (Ints_refs0 _ _ c hc) | exact fun c hc q hq => absurd hq (by rw [Cs_flat _ c hc]; exact zam) | (simp [zaM, toN]; done)))); simp only [zan, zao, zae, zam, false_implies, implies_true, and_true, lk, slot, zaC, zay, toN, zaa, if_true, if_false, ↓reduceIte, reduceCtorEq])
   all_goals ((repeat' apply zap) <;> (first | rfl | trivial | (simp only [zaz]; done) | (simp only [zaz]; rfl) | (simp only [zaz]; trivial)))
 · rw [if_neg hi] at ht
   have hca : zbm (K2.length * 6) (Cs K2) = Cs K2 := Cs_all K2 _ (zaX _)
   have hck : (Cs K2).length = K2.length * 6 := Cs_len K2
   have hla : (K2 ++ [gN l m]).length = K2.length + 1 := by simp
   have hpp : Cs K2 ++ ndc (gN l m) = Cs (K2 ++ [gN l m]) := Cs_snoc K2 _
   simp only [ndc] at hN hpp
   simp only [go_sem, zaa, zaf, zag, zah, zai, zad, ↓reduceIte, reduceCtorEq, zab, zac, zaj, zak, zal, decide_eq_true c, g1, decide_eq_false hi, hN]
   repeat' (first
 | with_reducible refine zap ?_ ?_
 | (unfold OKC; kernel_rfl)
 | (unfold EDG; kernel_rfl)
 | exact ydd
 | exact yda | fail)
   all_goals try (exact zaX _)
   all_goals try (rw [hck]; exact zaX _)
   all_goals try (show List.length _ = 6; rfl)
   refine le_mk (m + 1) ?_ hlt (by omega)
   simp only [ht, hla, hca, zaL, zaP, zaw, zaN, zaQ, zaJ, zaK, zaI, zaT, zaV, zaE, zaO]
   simp only [hpp]
   (refine imp_sub _ _ _ [(0, 0), (1, 1), (2, 2), (3, 25)] (by simp) (by simp) (by simp) (zav rfl) ?_ (by simp only [zan, zao, zaS, lookR, renO, zaD, zay, toN, Ints_ren, Bools_ren, zaa, if_true, if_false, ↓reduceIte, Cs_ren, Cs_flat] <;> (try rfl)) (by simp only [zae, zam, false_implies, implies_true, and_true, zaS, lookR, zaa, if_true, if_false, ↓reduceIte, Option.some.injEq, forall_eq'] <;> ((repeat' with_reducible apply zap) <;> (first | with_reducible trivial | exact fun c hc q hq => absurd hq (Ints_refs0 _ _ c hc) | exact fun c hc q hq => absurd hq (by rw [Cs_flat _ c hc]; exact zam) | (simp [zaM, toN]; done)))); simp only [zan, zao, zae, zam, false_implies, implies_true, and_true, lk, slot, zaC, zay, toN, zaa, if_true, if_false, ↓reduceIte, reduceCtorEq])
   all_goals ((repeat' apply zap) <;> (first | rfl | trivial | (simp only [zaz]; done) | (simp only [zaz]; rfl) | (simp only [zaz]; trivial)))
end Go.Proofs.YtnahpejlhfeleabGreat
namespace Go.Proofs.YtnahpejlhfeleabGreat
open Go.Proofs.YtnahpejlhfeleabGreat.Sh
abbrev dice (l : List Int) (i : Nat) : Row := ⟨[.gsl (Ints l) 0 l.length none, int i], 2⟩
abbrev dp : SV := .one (.optr 0 0)
def nxS (l : List Int) (i : Nat) (n : Int) : Bool := decide ((l.length : Int) ≤ i) || decide (n < 1)
def nxV (l : List Int) (i : Nat) (n : Int) : Int := if nxS l i n = true then 0 else l.getD i 0 % n
def nxA (l : List Int) (i : Nat) (n : Int) : Nat := if nxS l i n = true then i else i + 1
theorem roll_spec (l : List Int) : FnSpec Tryz.prog 8 [gi l none] [] dp [some (dice l 0)] := by
 refine fnspec_of mixed TT_ok TT_cl ⟨fun _ => false, fun _ => [], 0, fun _ => false, fun _ => false⟩ Tryz.func8 rfl (by kernel_rfl) rfl 6 rfl [.tmp 2] rfl ?_
 simp only [go_sem, zaa, zaf, zag, zah, zai, zad, ↓reduceIte, reduceCtorEq, zab, zac, zaj, zak, zal]
 repeat' (first
 | fail)
 all_goals (refine fs_flat [(3, dice l 0)] (by simp) (by simp only [zan, zao]; decide) (by simp only [go_sem, resV, resS, zaC, zaF, zay, zbi, zaS, idx, renO, zaD, evS, slot, lookR, zaa, ↓reduceIte, reduceCtorEq, if_true, if_false, zaG, zaH, zan, zao, sLoad, readAt, readNeed, Ints_ren, Ints_length, Ints_getD, and_true, true_and, zaA, zaB]; try decide) ?_ (by simp only [zae, zam, false_implies, implies_true, and_true, zaS, lookR, zaa, if_true, if_false, ↓reduceIte] <;> (repeat' apply zap) <;> (first | rfl | trivial)) (by simp only [zae, zam, false_implies, implies_true, and_true, true_and, flat_cons, flat_nil, flat_ints, flat_bools, flat_app, zaM, and_self, eq_self_iff_true, zaw]) ?_ <;> (try simp only [go_sem, resV, resS, zaC, zaF, zay, zbi, zaS, idx, renO, zaD, evS, slot, lookR, zaa, ↓reduceIte, reduceCtorEq, if_true, if_false, zaG, zaH, zan, zao, sLoad, readAt, readNeed, Ints_ren, Ints_length, Ints_getD, and_true, true_and, zaA, zaB]) <;> (try rfl))
theorem light_spec (l : List Int) (c : Option Nat) : FnSpec Tryz.prog 6 [gi l c] [] (b1 (decide ((l.length : Int) ≤ 600))) [] := by
 refine fnspec_of mixed TT_ok TT_cl ⟨fun _ => false, fun _ => [], 0, fun _ => false, fun _ => false⟩ Tryz.func6 rfl (by kernel_rfl) rfl 6 rfl [.tmp 2] rfl ?_
 simp only [go_sem, zaa, zaf, zag, zah, zai, zad, ↓reduceIte, reduceCtorEq, zab, zac, zaj, zak, zal]
 repeat' (first
 | exact fs_nil trivial rfl
 | fail)
theorem tmod_emod (x n : Int) (h : 0 < n) : (if x.tmod n < 0 then x.tmod n + n else x.tmod n) = x % n := by
 have h1 := Int.emod_nonneg x (show n ≠ 0 by omega)
 have h2 := Int.emod_lt_of_pos x h
 rw [Int.tmod_eq_emod]
 split <;> split <;> omega
theorem next_spec (l : List Int) (i : Nat) (n : Int) (hl : l.length ≤ 600) (hr : ∀ x ∈ l, -9223372036854775808 ≤ x ∧ x ≤ 9223372036854775807) (hn : n ≤ 9223372036854775807) : FnSpec Tryz.prog 42 [dp, i1 n] [dice l i] (i1 (nxV l i n)) [some (dice l (nxA l i n))] := by
 refine fnspec_of mixed TT_ok TT_cl ⟨fun _ => false, fun _ => [], 1, fun _ => false, fun _ => false⟩ Tryz.func42 rfl (by kernel_rfl) rfl 46 rfl [.tmp 4] rfl ?_
 simp only [go_sem, zaa, zaf, zag, zah, zai, zad, ↓reduceIte, reduceCtorEq, zab, zac, zaj, zak, zal]
 repeat' (first
 | with_reducible refine zap ?_ ?_
 | (unfold OKC; kernel_rfl)
 | (unfold EDG; kernel_rfl)
 | (refine gt_if (fun h => ?_) (fun h => ?_) <;> (first | (simp only [h, go_sem, zaa, zaf, zag, zah, zai, zad, ↓reduceIte, reduceCtorEq, zab, zac, zaj, zak, zal]; done) | simp only [h, go_sem, zaa, zaf, zag, zah, zai, zad, ↓reduceIte, reduceCtorEq, zab, zac, zaj, zak, zal] | skip))
 | exact ydd
 | exact yda
 | fail)
 · (refine fs_flat [(0, dice l i)] (by simp) (by simp only [zan, zao]; decide) (by simp only [go_sem, resV, resS, zaC, zaF, zay, zbi, zaS, idx, renO, zaD, evS, slot, lookR, zaa, ↓reduceIte, reduceCtorEq, if_true, if_false, zaG, zaH, zan, zao, sLoad, readAt, readNeed, Ints_ren, Ints_length, Ints_getD, and_true, true_and, zaA, zaB]; try decide) ?_ (by simp only [zae, zam, false_implies, implies_true, and_true, zaS, lookR, zaa, if_true, if_false, ↓reduceIte] <;> (repeat' apply zap) <;> (first | rfl | trivial)) (by simp only [zae, zam, false_implies, implies_true, and_true, true_and, flat_cons, flat_nil, flat_ints, flat_bools, flat_app, zaM, and_self, eq_self_iff_true, zaw]) ?_ <;> (try simp only [go_sem, resV, resS, zaC, zaF, zay, zbi, zaS, idx, renO, zaD, evS, slot, lookR, zaa, ↓reduceIte, reduceCtorEq, if_true, if_false, zaG, zaH, zan, zao, sLoad, readAt, readNeed, Ints_ren, Ints_length, Ints_getD, and_true, true_and, zaA, zaB]) <;> (try rfl))
   · simp only [nxV, nxS, h, if_true]
   · simp only [nxA, nxS, h, if_true]
 all_goals
   rename_i h0
   have h1 : nxS l i n = false := h0
   simp only [zar, decide_eq_false_iff_not] at h0
   have e := tmod_emod (l.getD i 0) n (by omega)
   have b1 := Int.tmod_lt_of_pos (l.getD i 0) (b := n) (by omega)
   have b2 := Int.lt_tmod_of_pos (l.getD i 0) (b := n) (by omega)
   simp only [decide_eq_true_eq, decide_eq_false_iff_not] at h
   first
   | omega
   | rw [if_pos h] at e
     (refine fs_flat [(0, dice l (i + 1))] (by simp) (by simp only [zan, zao]; decide) (by simp only [go_sem, resV, resS, zaC, zaF, zay, zbi, zaS, idx, renO, zaD, evS, slot, lookR, zaa, ↓reduceIte, reduceCtorEq, if_true, if_false, zaG, zaH, zan, zao, sLoad, readAt, readNeed, Ints_ren, Ints_length, Ints_getD, and_true, true_and, zaA, zaB]; try decide) ?_ (by simp only [zae, zam, false_implies, implies_true, and_true, zaS, lookR, zaa, if_true, if_false, ↓reduceIte] <;> (repeat' apply zap) <;> (first | rfl | trivial)) (by simp only [zae, zam, false_implies, implies_true, and_true, true_and, flat_cons, flat_nil, flat_ints, flat_bools, flat_app, zaM, and_self, eq_self_iff_true, zaw]) ?_ <;> (try simp only [go_sem, resV, resS, zaC, zaF, zay, zbi, zaS, idx, renO, zaD, evS, slot, lookR, zaa, ↓reduceIte, reduceCtorEq, if_true, if_false, zaG, zaH, zan, zao, sLoad, readAt, readNeed, Ints_ren, Ints_length, Ints_getD, and_true, true_and, zaA, zaB]) <;> (try rfl))
     all_goals simp only [nxV, nxA, h1, if_false, zbe, e]
   | rw [if_neg h] at e
     (refine fs_flat [(0, dice l (i + 1))] (by simp) (by simp only [zan, zao]; decide) (by simp only [go_sem, resV, resS, zaC, zaF, zay, zbi, zaS, idx, renO, zaD, evS, slot, lookR, zaa, ↓reduceIte, reduceCtorEq, if_true, if_false, zaG, zaH, zan, zao, sLoad, readAt, readNeed, Ints_ren, Ints_length, Ints_getD, and_true, true_and, zaA, zaB]; try decide) ?_ (by simp only [zae, zam, false_implies, implies_true, and_true, zaS, lookR, zaa, if_true, if_false, ↓reduceIte] <;> (repeat' apply zap) <;> (first | rfl | trivial)) (by simp only [zae, zam, false_implies, implies_true, and_true, true_and, flat_cons, flat_nil, flat_ints, flat_bools, flat_app, zaM, and_self, eq_self_iff_true, zaw]) ?_ <;> (try simp only [go_sem, resV, resS, zaC, zaF, zay, zbi, zaS, idx, renO, zaD, evS, slot, lookR, zaa, ↓reduceIte, reduceCtorEq, if_true, if_false, zaG, zaH, zan, zao, sLoad, readAt, readNeed, Ints_ren, Ints_length, Ints_getD, and_true, true_and, zaA, zaB]) <;> (try rfl))
     all_goals simp only [nxV, nxA, h1, if_false, zbe, e]
theorem bool_spec (l : List Int) (i : Nat) (n : Int) (hl : l.length ≤ 600) (hr : ∀ x ∈ l, -9223372036854775808 ≤ x ∧ x ≤ 9223372036854775807) (hn : 0 ≤ n ∧ n ≤ 65536) : FnSpec Tryz.prog 47 [dp, i1 n] [dice l i] (b1 (decide (nxV l i n = n - 1))) [some (dice l (nxA l i n))] := by
 refine fnspec_of mixed TT_ok TT_cl ⟨fun _ => false, fun f => if f = 42 then [0] else [], 1, fun _ => false, fun _ => false⟩ Tryz.func47 rfl (by kernel_rfl) rfl 11 rfl [.tmp 4] rfl ?_
 simp only [go_sem, zaa, zaf, zag, zah, zai, zad, ↓reduceIte, reduceCtorEq, zab, zac, zaj, zak, zal]
 repeat' (first
 | with_reducible refine zap ?_ ?_
 | (apply cl_lend
    case hr => exact ydh
    case ha => exact ydb
    case hs => rfl
    case hn => decide
    case h => (first | exact next_spec _ _ _ hl hr (by omega))
    case hf => (simp only [zae, zam, false_implies, implies_true, and_true, true_and, flat_cons, flat_nil, flat_ints, flat_bools, flat_app, zaM, and_self, eq_self_iff_true, zaw])
    case hl => (simp only [zaE, zaO]; decide)
    case' hk => simp only [go_sem, zaa, zaf, zag, zah, zai, zad, ↓reduceIte, reduceCtorEq, zab, zac, zaj, zak, zal, zaC, zaF, zay, zaD, renO, bk, back, outUpsFrom, Ints_ren])
 | exact ydd
 | fail)
 (refine fs_flat [(0, dice l (nxA l i n))] (by simp) (by simp only [zan, zao]; decide) (by simp only [go_sem, resV, resS, zaC, zaF, zay, zbi, zaS, idx, renO, zaD, evS, slot, lookR, zaa, ↓reduceIte, reduceCtorEq, if_true, if_false, zaG, zaH, zan, zao, sLoad, readAt, readNeed, Ints_ren, Ints_length, Ints_getD, and_true, true_and, zaA, zaB]; try decide) ?_ (by simp only [zae, zam, false_implies, implies_true, and_true, zaS, lookR, zaa, if_true, if_false, ↓reduceIte] <;> (repeat' apply zap) <;> (first | rfl | trivial)) (by simp only [zae, zam, false_implies, implies_true, and_true, true_and, flat_cons, flat_nil, flat_ints, flat_bools, flat_app, zaM, and_self, eq_self_iff_true, zaw]) ?_ <;> (try simp only [go_sem, resV, resS, zaC, zaF, zay, zbi, zaS, idx, renO, zaD, evS, slot, lookR, zaa, ↓reduceIte, reduceCtorEq, if_true, if_false, zaG, zaH, zan, zao, sLoad, readAt, readNeed, Ints_ren, Ints_length, Ints_getD, and_true, true_and, zaA, zaB]) <;> (try rfl))
end Go.Proofs.YtnahpejlhfeleabGreat
namespace Go.Proofs.YtnahpejlhfeleabGreat
open Go.Proofs.YtnahpejlhfeleabGreat.Sh
set_option maxRecDepth 20000
def nmL : List Str := [[97], [98], [99], [119, 101, 98], [100, 98, 45, 49], [88, 95, 57]]
def wdL : List Str := [[97], [98], [99], [119, 101, 98], [100, 98, 45, 49], [88, 95, 57], [], [45, 97], [97, 47, 98], [195, 169], List.replicate 32 97, List.replicate 33 97]
theorem nx_rng (l : List Int) (i : Nat) (n : Int) (hn : 0 < n) : 0 ≤ nxV l i n ∧ nxV l i n < n := by
 unfold nxV
 split
 · omega
 · exact ⟨Int.emod_nonneg _ (by omega), Int.emod_lt_of_pos _ hn⟩
def nmV (l : List Int) (i : Nat) : Str := nmL.getD (nxV l i 6).toNat []
def wdV (l : List Int) (i : Nat) : Str := wdL.getD (nxV l i 12).toNat []
theorem getD_len (L : List Str) (n : Nat) (h : ∀ s ∈ L, s.length ≤ n) (j : Nat) : (L.getD j []).length ≤ n := by
 rw [List.getD_eq_getElem?_getD]
 cases hx : L[j]? with
 | none => exact zaZ _
 | some s => exact h s (List.mem_of_getElem? hx)
theorem nmV_len (l : List Int) (i : Nat) : (nmV l i).length ≤ 4 := getD_len nmL 4 (by decide) _
theorem wdV_len (l : List Int) (i : Nat) : (wdV l i).length ≤ 33 := getD_len wdL 33 (by decide) _
variable {l : List Int} (hl : l.length ≤ 600) (hr : ∀ x ∈ l, -9223372036854775808 ≤ x ∧ x ≤ 9223372036854775807)
include hl hr
theorem name_spec (i : Nat) : FnSpec Tryz.prog 87 [dp] [dice l i] (s1 (nmV l i)) [some (dice l (nxA l i 6))] := by
 have h1 := next_spec l i 6 hl hr (by omega)
 have h2 := nx_rng l i 6 (by omega)
 have hat := Strs_getD' nmL (nxV l i 6).toNat (.sc (.string (bs []))) (by show _ < 6; omega)
 simp only [Strs, nmL, zan, zao] at hat
 unfold nmV nmL
 generalize nxV l i 6 = x at *
 generalize nxA l i 6 = j at *
 refine fnspec_of mixed TT_ok TT_cl ⟨fun _ => false, fun f => if f = 42 then [0] else [], 1, fun _ => false, fun _ => false⟩ Tryz.func87 rfl (by kernel_rfl) rfl 8 rfl [.tmp 2] rfl ?_
 simp only [go_sem, zaa, zaf, zag, zah, zai, zad, ↓reduceIte, reduceCtorEq, zab, zac, zaj, zak, zal]
 repeat' (first
 | with_reducible refine zap ?_ ?_
 | (apply cl_lend
    case hr => exact ydh
    case ha => exact ydb
    case hs => rfl
    case hn => decide
    case h => exact yde
    case hf => (simp only [zae, zam, false_implies, implies_true, and_true, true_and, flat_cons, flat_nil, flat_ints, flat_bools, flat_app, Strs_flat, zaM, and_self, eq_self_iff_true, zaw])
    case hl => (simp only [zaE, zaO]; decide))
 | ((first | refine s1_id ?_ | refine swp_id ?_ | refine sops_id ?_ | refine s2_id ?_); simp only [hat, dice, go_sem, zaa, zaf, zag, zah, zai, zad, ↓reduceIte, reduceCtorEq, zab, zac, zaj, zak, zal, zaC, zaF, zay, zaD, renO, bk, back, outUpsFrom, Ints_ren])
 | exact ydd
 | fail)
 (refine fs_flat [(0, dice l j)] (by simp) (by simp only [zan, zao]; decide) (by simp only [go_sem, resV, resS, zaC, zaF, zay, zbi, zaS, idx, renO, zaD, evS, slot, lookR, zaa, ↓reduceIte, reduceCtorEq, if_true, if_false, zaG, zaH, zan, zao, sLoad, readAt, readNeed, Ints_ren, Ints_length, Ints_getD, and_true, true_and, zaA, zaB]; try decide) ?_ (by simp only [zae, zam, false_implies, implies_true, and_true, zaS, lookR, zaa, if_true, if_false, ↓reduceIte] <;> (repeat' apply zap) <;> (first | rfl | trivial)) (by simp only [zae, zam, false_implies, implies_true, and_true, true_and, flat_cons, flat_nil, flat_ints, flat_bools, flat_app, zaM, and_self, eq_self_iff_true, zaw]) ?_ <;> (try simp only [go_sem, resV, resS, zaC, zaF, zay, zbi, zaS, idx, renO, zaD, evS, slot, lookR, zaa, ↓reduceIte, reduceCtorEq, if_true, if_false, zaG, zaH, zan, zao, sLoad, readAt, readNeed, Ints_ren, Ints_length, Ints_getD, and_true, true_and, zaA, zaB]) <;> (try rfl))
end Go.Proofs.YtnahpejlhfeleabGreat
