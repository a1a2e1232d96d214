/- Contracts of functions, told of values, on the way to KillTogether (part 6). -/
import Derived.Test.YtlajelbiniakpaaKillTogetherM3
import Derived.Test.YtlajelbiniakpaaKillTogetherM5
-- short names of the library's lemmas
open Nat renaming reduceEqDiff → zaa, reduceLeDiff → zaf, reduceAdd → zai, reduceSub → zaj, reduceMul → zak, reduceLT → zam, le_of_ble_eq_true → zaI, zero_le → zaW, lt_or_ge → zaY
open List renaming reduceReplicate → zab, forall_mem_cons → zac, map_cons → zae, not_mem_nil → zag, map_nil → zah, append_nil → zal, length_cons → zas, take_succ_cons → zau, length_nil → zay, set_cons_zero → zaz, set_cons_succ → zaA, cons_append → zaB, flatten_cons → zaD, nil_append → zaE, flatten_nil → zaF, take_zero → zaJ, take_nil → zaK, getD_cons_zero → zaL, getD_cons_succ → zaM, mem_cons_of_mem → zaU, mem_cons_self → zaV, take_of_length_le → zaX, flatMap_cons → zba, flatMap_nil → zbc
open Int renaming cast_ofNat_Int → zad, reduceEq → zan, reduceLT → zao, reduceLE → zap, natCast_add → zav, le_refl → zbd
open Option renaming getD_some → zaQ, getD_none → zaR
open Bool renaming and_eq_false_iff → zaq, or_eq_false_iff → zar, and_eq_true → zaw, not_eq_false' → zax, not_eq_true' → zaC, or_eq_true → zaH, not_true → zaZ
open And renaming intro → zat
open Go.Proofs.Ytlajelbiniakpaa.Sh.Cell renaming ren → zaG, refs → zaO
open Go.Proofs.Ytlajelbiniakpaa.Sh.SV renaming ren → zaP, renL → zaS
open Go.Proofs.Ytlajelbiniakpaa.Sh.Row renaming ren → zaN
open Go.Proofs.Ytlajelbiniakpaa.Sh.St renaming hpF → zaT, tmF → zbb
-- NEWGO
-- PRUNE: cl_lendx cl_use
-- ISG: Cs_isG
-- FLAT: Cs_flat
namespace Go.Proofs.Ytlajelbiniakpaa
set_option linter.unusedVariables false
set_option linter.unusedSimpArgs false
open Go.Proofs.Ytlajelbiniakpaa.Sh
set_option maxRecDepth 20000
def outF (S : List Int) (x : Cd) : Bool := !decide (x.g ∈ S) || decide (x.a = -1000)
def wiM (l : List Nd) (n : Int) (C : List Cd) (g : Int) : List Cd := C.filter (fun x => !outF (subM l n g) x)
theorem wi1_spec (S : List Int) (x : Cd) (hS : S.length ≤ 9223372036854775807) : FnSpec Try.prog 62 [cdt x, .one (.gptr [.gsl (Ints S) 0 S.length none] 0)] [] (b1 (outF S x)) [] := by
  have h1 := kccon_spec S none x.g hS
  unfold outF
  generalize decide (x.g ∈ S) = b at *
  obtain ⟨p, g, n, a⟩ := x
  simp only [cdc] at h1 ⊢
  refine fnspec_of mixed TT_ok TT_cl ⟨fun _ => false, fun _ => [], 0, fun _ => false, fun _ => false⟩ Try.func62 rfl (by kernel_rfl) rfl 14 rfl [.tmp 3] rfl ?_
  simp only [go_sem, zaa, zai, zaj, zak, zam, zaf, ↓reduceIte, reduceCtorEq, zab, zad, zan, zao, zap]
  cases b with
  | false => repeat' (first
    | with_reducible refine zat ?_ ?_
    | (unfold OKC; kernel_rfl)
    | (apply okc_up <;> (first | ((repeat (first | exact Sub.nil | apply Sub.gfp | apply Sub.same)); done) | kernel_rfl))
    | (unfold EDG; kernel_rfl)
    | (refine gt_if (fun h => ?_) (fun h => ?_) <;> (try simp only [h]))
    | (refine pt_if (fun h => ?_) (fun h => ?_) <;> (try simp only [h]))
    | (refine cd_if (fun h => ?_) (fun h => ?_) <;> (try simp only [h]))
    | (apply cg_tp
       case hl => rfl
       case ha => (simp only [zae, zah, prepV, prepC, idx, hpL', lookR, zaa, if_true, if_false]; rfl)
       case hs => rfl
       case h => (first | exact h1 ..))
    | (apply cg_ts
       case hl => rfl
       case ha => (simp only [zae, zah, prepV, prepC, idx, hpL', lookR, zaa, if_true, if_false]; rfl)
       case hs => (simp only [snaps_nil, zba, zbc, SV.refs, zaO, zaE, zaB, zal]; rfl)
       case h => (first | exact h1 ..)
       case hf => ((simp only [zac, zag, false_implies, implies_true, and_true, hpL', lookR, zaa, if_true, if_false]) <;> (repeat' apply zat) <;> (first | exact ⟨_, rfl, Ints_isG _⟩ | exact ⟨_, rfl, Cs_isG _⟩ | exact ⟨_, rfl, by simp [Cell.isG]⟩))
       case hg => simp [SV.noG, SV.noGL, Cell.noG])
    | (apply cg_any
       case hl => rfl
       case ha => (intro hb; simp only [zae, zah, cnd, hb, if_true, prepV, prepC, idx, hpL', lookR, zaa, if_false]; rfl)
       case hs => (intro hb; simp only [cnd, hb, if_true]; rfl)
       case h => (first | exact h1 ..))
    | (apply cg_show
       case hl => rfl
       case ha => (intro hb; simp only [zae, zah, cnd, hb, if_true, prepV, prepC, idx, hpL', lookR, zaa, if_false]; rfl)
       case hs => (intro hb; simp only [cnd, hb, if_true, snaps_nil, zba, zbc, SV.refs, zaO, zaE, zaB, zal]; rfl)
       case h => (first | exact h1 ..)
       case hf => ((simp only [zac, zag, false_implies, implies_true, and_true, hpL', lookR, zaa, if_true, if_false]) <;> (repeat' apply zat) <;> (first | exact ⟨_, rfl, Ints_isG _⟩ | exact ⟨_, rfl, Cs_isG _⟩ | exact ⟨_, rfl, by simp [Cell.isG]⟩))
       case hg => simp [SV.noG, SV.noGL, Cell.noG])
    | (apply cl_plain
       case hs => rfl
       case ha => (simp only [zae, zah, prepV, prepC, idx, hpL', lookR, zaa, if_true, if_false]; rfl)
       case h => (first | exact h1 ..))
    | (apply cl_lend
       case hr => (simp only [zae, zah, hpL', lookR, zaa, if_true, if_false]; first | exact map1 _ | exact map2 _ _ | exact map3 _ _ _)
       case ha => (simp only [zae, zah, prepV, prepC, idx, hpL', lookR, zaa, if_true, if_false]; rfl)
       case hs => rfl
       case hn => decide
       case h => (first | exact h1 ..)
       case hf => (simp only [zac, zag, false_implies, implies_true, and_true, true_and, flat_cons, flat_nil, flat_ints, flat_bools, flat_app, Cs_flat, zaO, and_self, eq_self_iff_true, zal])
       case hl => (simp only [zas, zay]; decide))
    | (apply cl_show
       case ha => (simp only [zae, zah, prepV, prepC, idx, hpL', lookR, zaa, if_true, if_false]; rfl)
       case hs => ((simp [snaps, SV.refs, zaO, idx, hpL', lookR]) <;> (repeat' apply zat) <;> (first | exact Ints_isG _ | exact Cs_isG _))
       case h => (first | exact h1 ..)
       case hg => ((simp [SV.noG, SV.noGL, Cell.noG]) <;> (repeat' apply zat) <;> exact Ints_noG _))
    | ((first | refine s1_id ?_ | refine swp_id ?_ | refine sops_id ?_ | refine s2_id ?_); simp only [zaD, zaF, zal, zaB, zaE, zaz, zaA, zau, zaJ, zaK, zas, zay, go_sem, zaa, zai, zaj, zak, zam, zaf, ↓reduceIte, reduceCtorEq, zab, zad, zan, zao, zap, zaP, zaS, zaG, zaN, renO, bk, back, outUpsFrom, Ints_ren])
    | (intros; omega)
    | (intros; (try simp only [zaw, zaH, zaC, zax, zaq, zar, decide_eq_true_eq, decide_eq_false_iff_not] at *); omega)
    | exact fs_nil trivial rfl
    | (apply fs_nil <;> (try simp only [go_sem, resV, resS, zaP, zaS, zaG, zbb, zaT, idx, renO, zaN, evS, slot, lookR, zaa, ↓reduceIte, reduceCtorEq, if_true, if_false, zaQ, zaR, zae, zah, sLoad, readAt, readNeed, Ints_ren, Ints_length, Ints_getD, and_true, true_and, zaL, zaM]) <;> (try rfl))
    | fail)
  | true => repeat' (first
    | with_reducible refine zat ?_ ?_
    | (unfold OKC; kernel_rfl)
    | (apply okc_up <;> (first | ((repeat (first | exact Sub.nil | apply Sub.gfp | apply Sub.same)); done) | kernel_rfl))
    | (unfold EDG; kernel_rfl)
    | (refine gt_if (fun h => ?_) (fun h => ?_) <;> (try simp only [h]))
    | (refine pt_if (fun h => ?_) (fun h => ?_) <;> (try simp only [h]))
    | (refine cd_if (fun h => ?_) (fun h => ?_) <;> (try simp only [h]))
    | (apply cg_tp
       case hl => rfl
       case ha => (simp only [zae, zah, prepV, prepC, idx, hpL', lookR, zaa, if_true, if_false]; rfl)
       case hs => rfl
       case h => (first | exact h1 ..))
    | (apply cg_ts
       case hl => rfl
       case ha => (simp only [zae, zah, prepV, prepC, idx, hpL', lookR, zaa, if_true, if_false]; rfl)
       case hs => (simp only [snaps_nil, zba, zbc, SV.refs, zaO, zaE, zaB, zal]; rfl)
       case h => (first | exact h1 ..)
       case hf => ((simp only [zac, zag, false_implies, implies_true, and_true, hpL', lookR, zaa, if_true, if_false]) <;> (repeat' apply zat) <;> (first | exact ⟨_, rfl, Ints_isG _⟩ | exact ⟨_, rfl, Cs_isG _⟩ | exact ⟨_, rfl, by simp [Cell.isG]⟩))
       case hg => simp [SV.noG, SV.noGL, Cell.noG])
    | (apply cg_any
       case hl => rfl
       case ha => (intro hb; simp only [zae, zah, cnd, hb, if_true, prepV, prepC, idx, hpL', lookR, zaa, if_false]; rfl)
       case hs => (intro hb; simp only [cnd, hb, if_true]; rfl)
       case h => (first | exact h1 ..))
    | (apply cg_show
       case hl => rfl
       case ha => (intro hb; simp only [zae, zah, cnd, hb, if_true, prepV, prepC, idx, hpL', lookR, zaa, if_false]; rfl)
       case hs => (intro hb; simp only [cnd, hb, if_true, snaps_nil, zba, zbc, SV.refs, zaO, zaE, zaB, zal]; rfl)
       case h => (first | exact h1 ..)
       case hf => ((simp only [zac, zag, false_implies, implies_true, and_true, hpL', lookR, zaa, if_true, if_false]) <;> (repeat' apply zat) <;> (first | exact ⟨_, rfl, Ints_isG _⟩ | exact ⟨_, rfl, Cs_isG _⟩ | exact ⟨_, rfl, by simp [Cell.isG]⟩))
       case hg => simp [SV.noG, SV.noGL, Cell.noG])
    | (apply cl_plain
       case hs => rfl
       case ha => (simp only [zae, zah, prepV, prepC, idx, hpL', lookR, zaa, if_true, if_false]; rfl)
       case h => (first | exact h1 ..))
    | (apply cl_lend
       case hr => (simp only [zae, zah, hpL', lookR, zaa, if_true, if_false]; first | exact map1 _ | exact map2 _ _ | exact map3 _ _ _)
       case ha => (simp only [zae, zah, prepV, prepC, idx, hpL', lookR, zaa, if_true, if_false]; rfl)
       case hs => rfl
       case hn => decide
       case h => (first | exact h1 ..)
       case hf => (simp only [zac, zag, false_implies, implies_true, and_true, true_and, flat_cons, flat_nil, flat_ints, flat_bools, flat_app, Cs_flat, zaO, and_self, eq_self_iff_true, zal])
       case hl => (simp only [zas, zay]; decide))
    | (apply cl_show
       case ha => (simp only [zae, zah, prepV, prepC, idx, hpL', lookR, zaa, if_true, if_false]; rfl)
       case hs => ((simp [snaps, SV.refs, zaO, idx, hpL', lookR]) <;> (repeat' apply zat) <;> (first | exact Ints_isG _ | exact Cs_isG _))
       case h => (first | exact h1 ..)
       case hg => ((simp [SV.noG, SV.noGL, Cell.noG]) <;> (repeat' apply zat) <;> exact Ints_noG _))
    | ((first | refine s1_id ?_ | refine swp_id ?_ | refine sops_id ?_ | refine s2_id ?_); simp only [zaD, zaF, zal, zaB, zaE, zaz, zaA, zau, zaJ, zaK, zas, zay, go_sem, zaa, zai, zaj, zak, zam, zaf, ↓reduceIte, reduceCtorEq, zab, zad, zan, zao, zap, zaP, zaS, zaG, zaN, renO, bk, back, outUpsFrom, Ints_ren])
    | (intros; omega)
    | (intros; (try simp only [zaw, zaH, zaC, zax, zaq, zar, decide_eq_true_eq, decide_eq_false_iff_not] at *); omega)
    | exact fs_nil trivial rfl
    | (apply fs_nil <;> (try simp only [go_sem, resV, resS, zaP, zaS, zaG, zbb, zaT, idx, renO, zaN, evS, slot, lookR, zaa, ↓reduceIte, reduceCtorEq, if_true, if_false, zaQ, zaR, zae, zah, sLoad, readAt, readNeed, Ints_ren, Ints_length, Ints_getD, and_true, true_and, zaL, zaM]) <;> (try rfl))
    | fail)
set_option maxHeartbeats 4000000 in
theorem within_spec (l : List Nd) (n : Int) (C : List Cd) (k : Option Nat) (g : Int) (hl : l.length ≤ 1000000) (hC : C.length ≤ 1000000) (hnm : NmR l) (hct : CtR l) : FnSpec Try.prog 42 [trV l none n, gr C k, i1 g] [] (gr (wiM l n C g) none) [] := by
  have h1 := tsub_spec l n g hl hnm hct
  have hsl := subM_len l n g
  unfold wiM
  generalize subM l n g = S at *
  have h2 := cd_cl C k hC
  have h3 := delf_spec 62 [.gsl (Ints S) 0 S.length none] (outF S) C (fun x _ => wi1_spec S x (by omega)) hC
  generalize C.filter (fun x => !outF S x) = R at *
  refine fnspec_of mixed TT_ok TT_cl ⟨fun _ => false, fun f => if f = 63 then [0] else [], 0 , fun _ => false, fun i => if i = 2 then true else false⟩ Try.func42 rfl (by kernel_rfl) rfl 17 rfl [.tmp 6] rfl ?_
  simp only [go_sem, zaa, zai, zaj, zak, zam, zaf, ↓reduceIte, reduceCtorEq, zab, zad, zan, zao, zap]
  repeat' (first
 | (apply cl_plain
    case hs => rfl
    case ha => (simp only [zae, zah, prepV, prepC, idx, hpL', lookR, zaa, if_true, if_false]; rfl)
    case h => (first | exact h1 ..))
 | ((first | refine s1_id ?_ | refine swp_id ?_ | refine sops_id ?_ | refine s2_id ?_); simp only [zaD, zaF, zal, zaB, zaE, zaz, zaA, zau, zaJ, zaK, zas, zay, go_sem, zaa, zai, zaj, zak, zam, zaf, ↓reduceIte, reduceCtorEq, zab, zad, zan, zao, zap, zaP, zaS, zaG, zaN, renO, bk, back, outUpsFrom, Ints_ren])
 | (intros; (try simp only [zaw, zaH, zaC, zax, zaq, zar, decide_eq_true_eq, decide_eq_false_iff_not] at *); omega))
  (refine rgf_t _ (imp_frz _ _ 5 ⟨[.gsl (Ints S) 0 S.length none], 1⟩ (by simp only [zaT, lookR, zaa, if_true, if_false, ↓reduceIte]) (by first | exact Ints_isG _ | exact Bools_isG _ | exact Cs_isG _ | (simp [Cell.isG]; done))) ?_; simp only [frzTm, SV.frz, SV.frzL, Cell.frz, frzHp, frzO, Ints_frz, Bools_frz, zae, zah, zaa, if_true, if_false, ↓reduceIte])
  simp only [go_sem, zaa, zai, zaj, zak, zam, zaf, ↓reduceIte, reduceCtorEq, zab, zad, zan, zao, zap]
  repeat' (first
 | (apply cl_plain
    case hs => rfl
    case ha => (simp only [zae, zah, prepV, prepC, idx, hpL', lookR, zaa, if_true, if_false]; rfl)
    case h => (first | exact h2 .. | exact h3 ..))
 | (apply cl_lend
    case hr => (simp only [zae, zah, hpL', lookR, zaa, if_true, if_false]; first | exact map1 _ | exact map2 _ _ | exact map3 _ _ _)
    case ha => (simp only [zae, zah, prepV, prepC, idx, hpL', lookR, zaa, if_true, if_false]; rfl)
    case hs => rfl
    case hn => decide
    case h => (first | exact h2 .. | exact h3 ..)
    case hf => (simp only [zac, zag, false_implies, implies_true, and_true, true_and, flat_cons, flat_nil, flat_ints, flat_bools, flat_app, Cs_flat, zaO, and_self, eq_self_iff_true, zal])
    case hl => (simp only [zas, zay]; decide))
 | ((first | refine s1_id ?_ | refine swp_id ?_ | refine sops_id ?_ | refine s2_id ?_); simp only [zaD, zaF, zal, zaB, zaE, zaz, zaA, zau, zaJ, zaK, zas, zay, go_sem, zaa, zai, zaj, zak, zam, zaf, ↓reduceIte, reduceCtorEq, zab, zad, zan, zao, zap, zaP, zaS, zaG, zaN, renO, bk, back, outUpsFrom, Ints_ren])
 | exact fs_nil trivial rfl
 | fail)
def mxF (t : Int) : Cd → List Cd → Cd
  | m, [] => m
  | m, x :: r => mxF t (if scr m t < scr x t then x else m) r
theorem vi1_spec (x y : Cd) (t : Int) (hx : cdk x = true) (hy : cdk y = true) (ht : pgk t = true) : FnSpec Try.prog 55 [cdt x, cdt y, .one (.gptr [int t] 0)] [] (i1 (cmpv (scr x t) (scr y t))) [] := by
  have h1 := score_spec x t hx ht
  have h2 := score_spec y t hy ht
  have h3 := cmp_spec (scr x t) (scr y t)
  generalize scr x t = u at *
  generalize scr y t = v at *
  clear hx hy
  obtain ⟨p, g, n, a⟩ := x
  obtain ⟨p', g', n', a'⟩ := y
  try simp only [cdt, cdc] at h1 h2 ⊢
  refine fnspec_of mixed TT_ok TT_cl ⟨fun _ => false, fun _ => [], 0, fun _ => false, fun _ => false⟩ Try.func55 rfl (by kernel_rfl) rfl 13 rfl [.tmp 5] rfl ?_
  simp only [go_sem, zaa, zai, zaj, zak, zam, zaf, ↓reduceIte, reduceCtorEq, zab, zad, zan, zao, zap]
  repeat' (first
 | with_reducible refine zat ?_ ?_
 | (unfold OKC; kernel_rfl)
 | (unfold EDG; kernel_rfl)
 | (apply cl_plain
    case hs => rfl
    case ha => (simp only [zae, zah, prepV, prepC, idx, hpL', lookR, zaa, if_true, if_false]; rfl)
    case h => (first | exact h1 .. | exact h2 .. | exact h3 ..))
 | ((first | refine s1_id ?_ | refine swp_id ?_ | refine sops_id ?_ | refine s2_id ?_); simp only [zaD, zaF, zal, zaB, zaE, zaz, zaA, zau, zaJ, zaK, zas, zay, go_sem, zaa, zai, zaj, zak, zam, zaf, ↓reduceIte, reduceCtorEq, zab, zad, zan, zao, zap, zaP, zaS, zaG, zaN, renO, bk, back, outUpsFrom, Ints_ren])
 | exact fs_nil trivial rfl
 | fail)
theorem cmpv_gt (a b : Int) : decide (0 < cmpv a b) = decide (b < a) := by
  unfold cmpv
  split
  · rename_i h; rw [decide_eq_false (by decide), decide_eq_false (by omega)]
  · rename_i h
    split
    · rename_i h2; rw [decide_eq_true (by decide), decide_eq_true (by omega)]
    · rename_i h2; rw [decide_eq_false (by decide), decide_eq_false (by omega)]
theorem mxF_drop (t : Int) (m : Cd) (C : List Cd) (j : Nat) (h : j < C.length) : mxF t m (C.drop j) = mxF t (if scr m t < scr (gD C j) t then gD C j else m) (C.drop (j + 1)) := by
  rw [drop_getD C j zcd h]; rfl
set_option maxHeartbeats 8000000 in
theorem maxf_spec (C : List Cd) (k : Option Nat) (t : Int) (ht : pgk t = true) (hC : ∀ x ∈ C, cdk x = true) (h0 : 0 < C.length) (hl : C.length ≤ 1000000) : FnSpec Try.prog 57 [gr C k, .one (.fn 55 [.gptr [int t] 0])] [] (cdt (mxF t (gD C 0) (C.drop 1))) [] := by
  have hcl := cd_len C
  have hat0 : List.take 4 (Cs C) = cdc (gD C 0) := by have := cd_td C 0 h0; simpa using this
  have cz : ¬ (C.length : Int) < 1 := by omega
  have hk0 := hC _ (getD_mem C 0 zcd h0)
  obtain ⟨V, hV⟩ : ∃ V, mxF t (gD C 0) (C.drop 1) = V := ⟨_, rfl⟩
  rw [hV]
  obtain ⟨m0, hm0⟩ : ∃ m0, gD C 0 = m0 := ⟨_, rfl⟩
  rw [hm0] at hat0 hV
  have hk0 : cdk m0 = true := by rw [← hm0]; exact hk0
  have t0 : Int.toNat 0 = 0 := rfl
  have hat0' : List.take 4 (List.drop 0 (Cs C)) = cdc m0 := hat0
  obtain ⟨p, g, n, a⟩ := m0
  refine fnspec_of mixed TT_ok TT_cl ⟨fun _ => false, fun _ => [], 0, fun _ => false, fun _ => false⟩ Try.func57 rfl (by kernel_rfl) rfl 33 rfl [.cell 4 35] rfl ?_
  simp only [go_sem, zaa, zai, zaj, zak, zam, zaf, ↓reduceIte, reduceCtorEq, zab, zad, zan, zao, zap, decide_eq_false cz, hat0, hat0', t0]
  repeat' (first
 | with_reducible refine zat ?_ ?_
 | (intros; omega)
 | (intros; (try simp only [zaw, zaH, zaC, zax, zaq, zar, decide_eq_true_eq, decide_eq_false_iff_not] at *); omega))
  refine w_loop (ι := Nat × Cd) (fun s => ⟨[(0, gr C k), (1, .one (.fn 55 [.gptr [int t] 0])), (4, .one (.optr 0 0)), (5, .one (.optr 1 0)), (6, i1 s.1)], [(0, some ⟨[int 0, int 0, int 0, int 0], 4⟩), (1, some ⟨cdc s.2, 4⟩)], 2⟩) (fun s => s.1 ≤ C.length ∧ cdk s.2 = true ∧ mxF t s.2 (C.drop s.1) = V) (fun s => C.length - s.1) (1, ⟨p, g, n, a⟩) ?_ ⟨h0, hk0, hV⟩ ?_
  · (refine imp_ren _ _ _ [(0, 0, ⟨[int 0, int 0, int 0, int 0], 4⟩), (1, 7, ⟨[int p, int g, int n, int a], 4⟩)] (by simp) (by simp) (by simp) (zaI rfl) ?_ rfl (by simp only [zac, zag, false_implies, implies_true, and_true, zaT, lookR, zaa, if_true, if_false, ↓reduceIte] <;> (repeat' apply zat) <;> (first | rfl | trivial)) (by simp only [zac, zag, false_implies, implies_true, and_true, true_and, flat_cons, flat_nil, flat_ints, flat_bools, flat_app, zaO, and_self, eq_self_iff_true, zal]); simp only [zae, zah, zac, zag, false_implies, implies_true, and_true, lk, slot, zaP, zaG, toN, zaa, if_true, if_false, ↓reduceIte, reduceCtorEq])
    all_goals ((repeat' apply zat) <;> (first | rfl | trivial))
  rintro ⟨j, m⟩ ⟨hj, hmk, hI⟩
  simp only at hj hmk hI ⊢
  rcases zaY j C.length with hlt | hge
  case inr =>
    have c : ¬ (j : Int) < (C.length : Int) := by omega
    rw [List.drop_of_length_le hge] at hI
    have hI : m = V := hI
    rw [← hI]
    obtain ⟨p', g', n', a'⟩ := m
    simp only [go_sem, zaa, zai, zaj, zak, zam, zaf, ↓reduceIte, reduceCtorEq, zab, zad, zan, zao, zap, decide_eq_false c]
    repeat' (first
 | with_reducible refine zat ?_ ?_
 | (intros; omega)
 | (apply fs_nil <;> (try simp only [go_sem, resV, resS, zaP, zaS, zaG, zbb, zaT, idx, renO, zaN, evS, slot, lookR, zaa, ↓reduceIte, reduceCtorEq, if_true, if_false, zaQ, zaR, zae, zah, sLoad, readAt, readNeed, Ints_ren, Ints_length, Ints_getD, and_true, true_and, zaL, zaM]) <;> (try rfl))
 | fail)
  have c : (j : Int) < (C.length : Int) := by omega
  have hat := cd_td C j hlt
  have hxk : cdk (gD C j) = true := hC _ (getD_mem C j zcd hlt)
  have k1 := vi1_spec (gD C j) m t hxk hmk ht
  have k2 := cmpv_gt (scr (gD C j) t) (scr m t)
  rw [mxF_drop t m C j hlt] at hI
  generalize cmpv (scr (gD C j) t) (scr m t) = cv at *
  by_cases hgt : scr m t < scr (gD C j) t
  · rw [if_pos hgt] at hI
    rw [decide_eq_true hgt] at k2
    clear hgt
    generalize gD C j = x at *
    obtain ⟨p', g', n', a'⟩ := m
    obtain ⟨p2, g2, n2, a2⟩ := x
    simp only [cdc] at hat k1
    simp only [go_sem, zaa, zai, zaj, zak, zam, zaf, ↓reduceIte, reduceCtorEq, zab, zad, zan, zao, zap, decide_eq_true c, hat, k2, cdc]
    repeat' (first
 | with_reducible refine zat ?_ ?_
 | (unfold OKC; kernel_rfl)
 | (unfold EDG; kernel_rfl)
 | (apply cl_plain
    case hs => rfl
    case ha => (simp only [zae, zah, prepV, prepC, idx, hpL', lookR, zaa, if_true, if_false]; rfl)
    case h => (first | exact k1 ..))
 | ((first | refine s1_id ?_ | refine swp_id ?_ | refine sops_id ?_ | refine s2_id ?_); simp only [decide_eq_true c, hat, k2, cdc, zaD, zaF, zal, zaB, zaE, zaz, zaA, zau, zaJ, zaK, zas, zay, go_sem, zaa, zai, zaj, zak, zam, zaf, ↓reduceIte, reduceCtorEq, zab, zad, zan, zao, zap, zaP, zaS, zaG, zaN, renO, bk, back, outUpsFrom, Ints_ren])
 | (intros; omega)
 | (intros; (try simp only [zaw, zaH, zaC, zax, zaq, zar, decide_eq_true_eq, decide_eq_false_iff_not] at *); omega))
    refine le_mk (j + 1, ⟨p2, g2, n2, a2⟩) ?_ ⟨hlt, hxk, hI⟩ (by show C.length - (j + 1) < C.length - j; omega)
    (refine imp_ren _ _ _ [(0, 0, ⟨[int 0, int 0, int 0, int 0], 4⟩), (1, 1, ⟨[int p2, int g2, int n2, int a2], 4⟩)] (by simp) (by simp) (by simp) (zaI rfl) ?_ rfl (by simp only [zac, zag, false_implies, implies_true, and_true, zaT, lookR, zaa, if_true, if_false, ↓reduceIte] <;> (repeat' apply zat) <;> (first | rfl | trivial)) (by simp only [zac, zag, false_implies, implies_true, and_true, true_and, flat_cons, flat_nil, flat_ints, flat_bools, flat_app, zaO, and_self, eq_self_iff_true, zal]); simp only [zae, zah, zac, zag, false_implies, implies_true, and_true, lk, slot, zaP, zaG, toN, zaa, if_true, if_false, ↓reduceIte, reduceCtorEq])
    all_goals ((repeat' apply zat) <;> (first | rfl | trivial | (simp only [zav]; done) | (simp only [zav]; rfl) | (simp only [zav]; trivial)))
  · rw [if_neg hgt] at hI
    rw [decide_eq_false hgt] at k2
    clear hgt
    generalize gD C j = x at *
    obtain ⟨p', g', n', a'⟩ := m
    obtain ⟨p2, g2, n2, a2⟩ := x
    simp only [cdc] at hat k1
    simp only [go_sem, zaa, zai, zaj, zak, zam, zaf, ↓reduceIte, reduceCtorEq, zab, zad, zan, zao, zap, decide_eq_true c, hat, k2, cdc]
    repeat' (first
 | with_reducible refine zat ?_ ?_
 | (unfold OKC; kernel_rfl)
 | (unfold EDG; kernel_rfl)
 | (apply cl_plain
    case hs => rfl
    case ha => (simp only [zae, zah, prepV, prepC, idx, hpL', lookR, zaa, if_true, if_false]; rfl)
    case h => (first | exact k1 ..))
 | ((first | refine s1_id ?_ | refine swp_id ?_ | refine sops_id ?_ | refine s2_id ?_); simp only [decide_eq_true c, hat, k2, cdc, zaD, zaF, zal, zaB, zaE, zaz, zaA, zau, zaJ, zaK, zas, zay, go_sem, zaa, zai, zaj, zak, zam, zaf, ↓reduceIte, reduceCtorEq, zab, zad, zan, zao, zap, zaP, zaS, zaG, zaN, renO, bk, back, outUpsFrom, Ints_ren])
 | (intros; omega)
 | (intros; (try simp only [zaw, zaH, zaC, zax, zaq, zar, decide_eq_true_eq, decide_eq_false_iff_not] at *); omega))
    refine le_mk (j + 1, ⟨p', g', n', a'⟩) ?_ ⟨hlt, hmk, hI⟩ (by show C.length - (j + 1) < C.length - j; omega)
    (refine imp_ren _ _ _ [(0, 0, ⟨[int 0, int 0, int 0, int 0], 4⟩), (1, 1, ⟨[int p', int g', int n', int a'], 4⟩)] (by simp) (by simp) (by simp) (zaI rfl) ?_ rfl (by simp only [zac, zag, false_implies, implies_true, and_true, zaT, lookR, zaa, if_true, if_false, ↓reduceIte] <;> (repeat' apply zat) <;> (first | rfl | trivial)) (by simp only [zac, zag, false_implies, implies_true, and_true, true_and, flat_cons, flat_nil, flat_ints, flat_bools, flat_app, zaO, and_self, eq_self_iff_true, zal]); simp only [zae, zah, zac, zag, false_implies, implies_true, and_true, lk, slot, zaP, zaG, toN, zaa, if_true, if_false, ↓reduceIte, reduceCtorEq])
    all_goals ((repeat' apply zat) <;> (first | rfl | trivial | (simp only [zav]; done) | (simp only [zav]; rfl) | (simp only [zav]; trivial)))
end Go.Proofs.Ytlajelbiniakpaa
-- NEWGO
-- PRUNE: cl_lendx cl_use
-- ISG: Cs_isG
-- FLAT: Cs_flat
namespace Go.Proofs.Ytlajelbiniakpaa
set_option linter.unusedVariables false
set_option linter.unusedSimpArgs false
open Go.Proofs.Ytlajelbiniakpaa.Sh
set_option maxRecDepth 20000
theorem vaF_all (l : List Nd) : ∀ (C : List Cd) (last : Int), vaF l C last = true → ∀ x ∈ C, cdk x = true ∧ bsF Nd.i l x.g = true ∧ last < x.p
  | [], _, _, x, hx => by cases hx
  | y :: r, last, h, x, hx => by
    rw [vaF, zaw, zaw, zaw, decide_eq_true_eq] at h
    rcases List.mem_cons.1 hx with rfl | hx
    · exact ⟨h.2.2.1, h.2.1, h.1⟩
    · obtain ⟨h1, h2, h3⟩ := vaF_all l r y.p h.2.2.2 x hx
      exact ⟨h1, h2, by omega⟩
theorem vaM_all {l : List Nd} {n : Int} {C : List Cd} (h : vaM l n C = true) : VT l n ∧ C.length ≤ 128 ∧ ∀ x ∈ C, cdk x = true ∧ bsF Nd.i l x.g = true ∧ 0 < x.p := by
  unfold vaM at h
  rw [zaw, zaw, decide_eq_true_eq] at h
  exact ⟨(chkT_iff l n).1 h.1, h.2.1, vaF_all l C 0 h.2.2⟩
def mxW (t : Int) (W : List Cd) : Cd := mxF t (gD W 0) (W.drop 1)
def viM (l : List Nd) (n : Int) (C : List Cd) (at' t : Int) : Cd × Int :=
  if vaM l n C = true then (if bsF Nd.i l at' = true then (if pgk t = true then (if (wiM l n C at').length = 0 then (zcd, 21) else (mxW t (wiM l n C at'), 0)) else (zcd, 3)) else (zcd, 4)) else (zcd, 1)
set_option maxHeartbeats 8000000 in
theorem victim1_spec (l : List Nd) (n : Int) (C : List Cd) (k : Option Nat) (at' t : Int) (hl : l.length ≤ 1000000) (hC : C.length ≤ 1000000) (hnm : NmR l) (hct : CtR l) : FnSpec Try.prog 36 [trV l none n, gr C k, i1 at', i1 t] [] (.tup [cdt (viM l n C at' t).1, i1 (viM l n C at' t).2]) [] := by
  have h1 := kvalid_spec l n C k hl (by omega) hnm hct
  unfold viM
  cases hv : vaM l n C with
  | false =>
    rw [hv] at h1
    rw [if_neg (by decide)]
    refine fnspec_of mixed TT_ok TT_cl ⟨fun _ => false, fun _ => [], 0, fun _ => false, fun _ => false⟩ Try.func36 rfl (by kernel_rfl) rfl 38 rfl [.cell 8 35, .tmp 9] rfl ?_
    simp only [go_sem, zaa, zai, zaj, zak, zam, zaf, ↓reduceIte, reduceCtorEq, zab, zad, zan, zao, zap]
    repeat' (first
 | with_reducible refine zat ?_ ?_
 | (apply cl_plain
    case hs => rfl
    case ha => (simp only [zae, zah, prepV, prepC, idx, hpL', lookR, zaa, if_true, if_false]; rfl)
    case h => (first | exact h1 ..))
 | ((first | refine s1_id ?_ | refine swp_id ?_ | refine sops_id ?_ | refine s2_id ?_); simp only [zaD, zaF, zal, zaB, zaE, zaz, zaA, zau, zaJ, zaK, zas, zay, go_sem, zaa, zai, zaj, zak, zam, zaf, ↓reduceIte, reduceCtorEq, zab, zad, zan, zao, zap, zaP, zaS, zaG, zaN, renO, bk, back, outUpsFrom, Ints_ren])
 | (intros; omega)
 | (apply fs_nil <;> (try simp only [go_sem, resV, resS, zaP, zaS, zaG, zbb, zaT, idx, renO, zaN, evS, slot, lookR, zaa, ↓reduceIte, reduceCtorEq, if_true, if_false, zaQ, zaR, zae, zah, sLoad, readAt, readNeed, Ints_ren, Ints_length, Ints_getD, and_true, true_and, zaL, zaM]) <;> (try rfl))
 | fail)
  | true =>
  rw [hv] at h1
  rw [if_pos rfl]
  have h2 := known_spec l n at' hl
  cases hb : bsF Nd.i l at' with
  | false =>
    rw [hb] at h2
    rw [if_neg (by decide)]
    refine fnspec_of mixed TT_ok TT_cl ⟨fun _ => false, fun _ => [], 0, fun _ => false, fun _ => false⟩ Try.func36 rfl (by kernel_rfl) rfl 38 rfl [.cell 8 35, .tmp 9] rfl ?_
    simp only [go_sem, zaa, zai, zaj, zak, zam, zaf, ↓reduceIte, reduceCtorEq, zab, zad, zan, zao, zap]
    repeat' (first
 | with_reducible refine zat ?_ ?_
 | (apply cl_plain
    case hs => rfl
    case ha => (simp only [zae, zah, prepV, prepC, idx, hpL', lookR, zaa, if_true, if_false]; rfl)
    case h => (first | exact h1 .. | exact h2 ..))
 | ((first | refine s1_id ?_ | refine swp_id ?_ | refine sops_id ?_ | refine s2_id ?_); simp only [zaD, zaF, zal, zaB, zaE, zaz, zaA, zau, zaJ, zaK, zas, zay, go_sem, zaa, zai, zaj, zak, zam, zaf, ↓reduceIte, reduceCtorEq, zab, zad, zan, zao, zap, zaP, zaS, zaG, zaN, renO, bk, back, outUpsFrom, Ints_ren])
 | (intros; omega)
 | (apply fs_nil <;> (try simp only [go_sem, resV, resS, zaP, zaS, zaG, zbb, zaT, idx, renO, zaN, evS, slot, lookR, zaa, ↓reduceIte, reduceCtorEq, if_true, if_false, zaQ, zaR, zae, zah, sLoad, readAt, readNeed, Ints_ren, Ints_length, Ints_getD, and_true, true_and, zaL, zaM]) <;> (try rfl))
 | fail)
  | true =>
  rw [hb] at h2
  rw [if_pos rfl]
  have h3 := pages_spec t
  cases hp : pgk t with
  | false =>
    rw [hp] at h3
    rw [if_neg (by decide)]
    refine fnspec_of mixed TT_ok TT_cl ⟨fun _ => false, fun _ => [], 0, fun _ => false, fun _ => false⟩ Try.func36 rfl (by kernel_rfl) rfl 38 rfl [.cell 8 35, .tmp 9] rfl ?_
    simp only [go_sem, zaa, zai, zaj, zak, zam, zaf, ↓reduceIte, reduceCtorEq, zab, zad, zan, zao, zap]
    repeat' (first
 | with_reducible refine zat ?_ ?_
 | (apply cl_plain
    case hs => rfl
    case ha => (simp only [zae, zah, prepV, prepC, idx, hpL', lookR, zaa, if_true, if_false]; rfl)
    case h => (first | exact h1 .. | exact h2 .. | exact h3 ..))
 | ((first | refine s1_id ?_ | refine swp_id ?_ | refine sops_id ?_ | refine s2_id ?_); simp only [zaD, zaF, zal, zaB, zaE, zaz, zaA, zau, zaJ, zaK, zas, zay, go_sem, zaa, zai, zaj, zak, zam, zaf, ↓reduceIte, reduceCtorEq, zab, zad, zan, zao, zap, zaP, zaS, zaG, zaN, renO, bk, back, outUpsFrom, Ints_ren])
 | (intros; omega)
 | (apply fs_nil <;> (try simp only [go_sem, resV, resS, zaP, zaS, zaG, zbb, zaT, idx, renO, zaN, evS, slot, lookR, zaa, ↓reduceIte, reduceCtorEq, if_true, if_false, zaQ, zaR, zae, zah, sLoad, readAt, readNeed, Ints_ren, Ints_length, Ints_getD, and_true, true_and, zaL, zaM]) <;> (try rfl))
 | fail)
  | true =>
  rw [hp] at h3
  rw [if_pos rfl]
  have h4 := within_spec l n C k at' hl hC hnm hct
  obtain ⟨_, _, hall⟩ := vaM_all hv
  have hWk : ∀ x ∈ wiM l n C at', cdk x = true := fun x hx => (hall x (List.mem_filter.1 hx).1).1
  have hWl : (wiM l n C at').length ≤ C.length := List.length_filter_le _ _
  generalize wiM l n C at' = W at *
  by_cases h0 : W.length = 0
  · have h0' : (W.length : Int) = 0 := by omega
    rw [if_pos h0]
    refine fnspec_of mixed TT_ok TT_cl ⟨fun _ => false, fun _ => [], 0, fun _ => false, fun _ => false⟩ Try.func36 rfl (by kernel_rfl) rfl 38 rfl [.cell 8 35, .tmp 9] rfl ?_
    simp only [go_sem, zaa, zai, zaj, zak, zam, zaf, ↓reduceIte, reduceCtorEq, zab, zad, zan, zao, zap, decide_eq_true h0']
    repeat' (first
 | with_reducible refine zat ?_ ?_
 | (apply cl_plain
    case hs => rfl
    case ha => (simp only [zae, zah, prepV, prepC, idx, hpL', lookR, zaa, if_true, if_false]; rfl)
    case h => (first | exact h1 .. | exact h2 .. | exact h3 .. | exact h4 ..))
 | ((first | refine s1_id ?_ | refine swp_id ?_ | refine sops_id ?_ | refine s2_id ?_); simp only [decide_eq_true h0', zaD, zaF, zal, zaB, zaE, zaz, zaA, zau, zaJ, zaK, zas, zay, go_sem, zaa, zai, zaj, zak, zam, zaf, ↓reduceIte, reduceCtorEq, zab, zad, zan, zao, zap, zaP, zaS, zaG, zaN, renO, bk, back, outUpsFrom, Ints_ren])
 | (intros; omega)
 | (apply fs_nil <;> (try simp only [go_sem, resV, resS, zaP, zaS, zaG, zbb, zaT, idx, renO, zaN, evS, slot, lookR, zaa, ↓reduceIte, reduceCtorEq, if_true, if_false, zaQ, zaR, zae, zah, sLoad, readAt, readNeed, Ints_ren, Ints_length, Ints_getD, and_true, true_and, zaL, zaM]) <;> (try rfl))
 | fail)
  have h0' : ¬ (W.length : Int) = 0 := by omega
  rw [if_neg h0]
  have h5 := maxf_spec W none t hp hWk (by omega) (by omega)
  unfold mxW
  generalize mxF t (gD W 0) (W.drop 1) = M at *
  obtain ⟨mp, mg, mn, ma⟩ := M
  simp only [cdc] at h5 ⊢
  refine fnspec_of mixed TT_ok TT_cl ⟨fun _ => false, fun _ => [], 0 , fun _ => false, fun i => if i = 10 then true else false⟩ Try.func36 rfl (by kernel_rfl) rfl 38 rfl [.cell 8 35, .tmp 9] rfl ?_
  simp only [go_sem, zaa, zai, zaj, zak, zam, zaf, ↓reduceIte, reduceCtorEq, zab, zad, zan, zao, zap, decide_eq_false h0']
  repeat' (first
 | (apply cl_plain
    case hs => rfl
    case ha => (simp only [zae, zah, prepV, prepC, idx, hpL', lookR, zaa, if_true, if_false]; rfl)
    case h => (first | exact h1 .. | exact h2 .. | exact h3 .. | exact h4 ..))
 | ((first | refine s1_id ?_ | refine swp_id ?_ | refine sops_id ?_ | refine s2_id ?_); simp only [decide_eq_false h0', zaD, zaF, zal, zaB, zaE, zaz, zaA, zau, zaJ, zaK, zas, zay, go_sem, zaa, zai, zaj, zak, zam, zaf, ↓reduceIte, reduceCtorEq, zab, zad, zan, zao, zap, zaP, zaS, zaG, zaN, renO, bk, back, outUpsFrom, Ints_ren])
 | (intros; (try simp only [zaw, zaH, zaC, zax, zaq, zar, decide_eq_true_eq, decide_eq_false_iff_not] at *); omega))
  (refine rgf_t _ (imp_frz _ _ 1 ⟨[int t], 1⟩ (by simp only [zaT, lookR, zaa, if_true, if_false, ↓reduceIte]) (by first | exact Ints_isG _ | exact Bools_isG _ | exact Cs_isG _ | (simp [Cell.isG]; done))) ?_; simp only [frzTm, SV.frz, SV.frzL, Cell.frz, frzHp, frzO, Ints_frz, Bools_frz, zae, zah, zaa, if_true, if_false, ↓reduceIte])
  simp only [go_sem, zaa, zai, zaj, zak, zam, zaf, ↓reduceIte, reduceCtorEq, zab, zad, zan, zao, zap]
  repeat' (first
 | with_reducible refine zat ?_ ?_
 | (apply cl_plain
    case hs => rfl
    case ha => (simp only [zae, zah, prepV, prepC, idx, hpL', lookR, zaa, if_true, if_false]; rfl)
    case h => (first | exact h5 ..))
 | ((first | refine s1_id ?_ | refine swp_id ?_ | refine sops_id ?_ | refine s2_id ?_); simp only [zaD, zaF, zal, zaB, zaE, zaz, zaA, zau, zaJ, zaK, zas, zay, go_sem, zaa, zai, zaj, zak, zam, zaf, ↓reduceIte, reduceCtorEq, zab, zad, zan, zao, zap, zaP, zaS, zaG, zaN, renO, bk, back, outUpsFrom, Ints_ren])
 | (intros; omega)
 | (apply fs_nil <;> (try simp only [go_sem, resV, resS, zaP, zaS, zaG, zbb, zaT, idx, renO, zaN, evS, slot, lookR, zaa, ↓reduceIte, reduceCtorEq, if_true, if_false, zaQ, zaR, zae, zah, sLoad, readAt, readNeed, Ints_ren, Ints_length, Ints_getD, and_true, true_and, zaL, zaM]) <;> (try rfl))
 | fail)
theorem victim_spec (l : List Nd) (n : Int) (C : List Cd) (k : Option Nat) (at' t : Int) (hl : l.length ≤ 1000000) (hC : C.length ≤ 1000000) (hnm : NmR l) (hct : CtR l) : FnSpec Try.prog 18 [trV l none n, gr C k, i1 at', i1 t] [] (.tup [i1 (viM l n C at' t).1.p, i1 (viM l n C at' t).2]) [] := by
  have h1 := victim1_spec l n C k at' t hl hC hnm hct
  generalize viM l n C at' t = q at *
  obtain ⟨⟨p, g, m, a⟩, e⟩ := q
  simp only [cdc] at h1 ⊢
  refine fnspec_of mixed TT_ok TT_cl ⟨fun _ => false, fun _ => [], 0, fun _ => false, fun _ => false⟩ Try.func18 rfl (by kernel_rfl) rfl 23 rfl [.tmp 8, .tmp 9] rfl ?_
  simp only [go_sem, zaa, zai, zaj, zak, zam, zaf, ↓reduceIte, reduceCtorEq, zab, zad, zan, zao, zap]
  repeat' (first
 | (apply cl_plain
    case hs => rfl
    case ha => (simp only [zae, zah, prepV, prepC, idx, hpL', lookR, zaa, if_true, if_false]; rfl)
    case h => (first | exact h1 ..))
 | ((first | refine s1_id ?_ | refine swp_id ?_ | refine sops_id ?_ | refine s2_id ?_); simp only [zaD, zaF, zal, zaB, zaE, zaz, zaA, zau, zaJ, zaK, zas, zay, go_sem, zaa, zai, zaj, zak, zam, zaf, ↓reduceIte, reduceCtorEq, zab, zad, zan, zao, zap, zaP, zaS, zaG, zaN, renO, bk, back, outUpsFrom, Ints_ren])
 | exact fs_nil trivial rfl
 | fail)
theorem below29_spec (l : List Nd) (k : Option Nat) (n id top : Int) (hl : l.length ≤ 1000000) (hnm : NmR l) : FnSpec Try.prog 19 [trV l k n, i1 id, i1 top] [] (b1 (decide (top ∈ ancM l n id))) [] := by
  have h1 := ranc_spec l k n id hl hnm
  have h2 := ancM_len l n id
  have h3 := fun k => has_spec (ancM l n id) k top (by omega)
  generalize ancM l n id = U at *
  refine fnspec_of mixed TT_ok TT_cl ⟨fun _ => false, fun _ => [], 0, fun _ => false, fun _ => false⟩ Try.func19 rfl (by kernel_rfl) rfl 12 rfl [.tmp 6] rfl ?_
  simp only [go_sem, zaa, zai, zaj, zak, zam, zaf, ↓reduceIte, reduceCtorEq, zab, zad, zan, zao, zap]
  repeat' (first
 | (apply cl_plain
    case hs => rfl
    case ha => (simp only [zae, zah, prepV, prepC, idx, hpL', lookR, zaa, if_true, if_false]; rfl)
    case h => (first | exact h1 .. | exact h3 ..))
 | ((first | refine s1_id ?_ | refine swp_id ?_ | refine sops_id ?_ | refine s2_id ?_); simp only [zaD, zaF, zal, zaB, zaE, zaz, zaA, zau, zaJ, zaK, zas, zay, go_sem, zaa, zai, zaj, zak, zam, zaf, ↓reduceIte, reduceCtorEq, zab, zad, zan, zao, zap, zaP, zaS, zaG, zaN, renO, bk, back, outUpsFrom, Ints_ren])
 | exact fs_nil trivial rfl
 | fail)
def frM (P : List Int) (C : List Cd) : Int := C.foldl (fun s x => if x.p ∈ P then s + x.n else s) 0
set_option maxHeartbeats 4000000 in
theorem freed_spec (P : List Int) (kp : Option Nat) (C : List Cd) (k : Option Nat) (hP : P.length ≤ 9223372036854775807) (hC : C.length ≤ 1000000) (hn : ∀ x ∈ C, 0 ≤ x.n ∧ x.n ≤ 16777216) : FnSpec Try.prog 17 [gr C k, gi P kp] [] (i1 (frM P C)) [] := by
  have hcl := cd_len C
  refine fnspec_of mixed TT_ok TT_cl ⟨fun _ => false, fun _ => [], 0, fun _ => false, fun _ => false⟩ Try.func17 rfl (by kernel_rfl) rfl 24 rfl [.tmp 4] rfl ?_
  simp only [go_sem, zaa, zai, zaj, zak, zam, zaf, ↓reduceIte, reduceCtorEq, zab, zad, zan, zao, zap]
  repeat' (first
 | (intros; (try simp only [zaw, zaH, zaC, zax, zaq, zar, decide_eq_true_eq, decide_eq_false_iff_not] at *); omega))
  refine w_loop (ι := Nat) (fun m => ⟨[(1, gi P kp), (5, i1 (frM P (C.take m))), (8, gr C k), (9, i1 C.length), (10, i1 m)], [], 0⟩) (fun m => m ≤ C.length ∧ 0 ≤ frM P (C.take m) ∧ frM P (C.take m) ≤ m * 16777216) (fun m => C.length - m) 0 ?_ ⟨zaW _, zbd 0, by show (0 : Int) ≤ ((0 : Nat) : Int) * 16777216; omega⟩ ?_
  · (refine imp_sub _ _ _ [] (by simp) (by simp) (by simp) (zaW _) ?_ rfl (by simp); simp only [zac, zag, false_implies, implies_true, and_true, lk, slot, zaP, zaG, zaa, if_true, if_false, ↓reduceIte, reduceCtorEq])
    all_goals ((repeat' apply zat) <;> (first | rfl | trivial))
  rintro m ⟨hm, hs1, hs2⟩
  simp only at hm hs1 hs2 ⊢
  rcases zaY m C.length with hlt | hge
  case inr =>
    have c : ¬ (m : Int) < (C.length : Int) := by omega
    rw [zaX hge]
    simp only [go_sem, zaa, zai, zaj, zak, zam, zaf, ↓reduceIte, reduceCtorEq, zab, zad, zan, zao, zap, decide_eq_false c]
    repeat' (first
 | exact fs_nil trivial rfl
 | fail)
  have c : (m : Int) < (C.length : Int) := by omega
  have hat := cd_td C m hlt
  have hst : frM P (C.take (m + 1)) = if (gD C m).p ∈ P then frM P (C.take m) + (gD C m).n else frM P (C.take m) := by
    unfold frM; rw [take_getD C m zcd hlt, List.foldl_append]; rfl
  have hxn : 0 ≤ (gD C m).n ∧ (gD C m).n ≤ 16777216 := hn _ (getD_mem C m zcd hlt)
  have k1 := kccon_spec P kp (gD C m).p hP
  generalize frM P (C.take m) = s at *
  generalize gD C m = x at *
  obtain ⟨p, g, n', a⟩ := x
  simp only [cdc] at hat k1 hst hxn
  by_cases hp : p ∈ P
  · rw [if_pos hp] at hst
    rw [decide_eq_true hp] at k1
    simp only [go_sem, zaa, zai, zaj, zak, zam, zaf, ↓reduceIte, reduceCtorEq, zab, zad, zan, zao, zap, decide_eq_true c, hat]
    repeat' (first
 | with_reducible refine zat ?_ ?_
 | (apply cl_plain
    case hs => rfl
    case ha => (simp only [zae, zah, prepV, prepC, idx, hpL', lookR, zaa, if_true, if_false]; rfl)
    case h => (first | exact k1 ..))
 | ((first | refine s1_id ?_ | refine swp_id ?_ | refine sops_id ?_ | refine s2_id ?_); simp only [decide_eq_true c, hat, zaD, zaF, zal, zaB, zaE, zaz, zaA, zau, zaJ, zaK, zas, zay, go_sem, zaa, zai, zaj, zak, zam, zaf, ↓reduceIte, reduceCtorEq, zab, zad, zan, zao, zap, zaP, zaS, zaG, zaN, renO, bk, back, outUpsFrom, Ints_ren])
 | (intros; omega)
 | (intros; (try simp only [zaw, zaH, zaC, zax, zaq, zar, decide_eq_true_eq, decide_eq_false_iff_not] at *); omega))
    refine le_mk (m + 1) ?_ ⟨hlt, by rw [hst]; omega, by rw [hst]; omega⟩ (by omega)
    simp only [hst]
    (refine imp_sub _ _ _ [] (by simp) (by simp) (by simp) (zaW _) ?_ rfl (by simp); simp only [zac, zag, false_implies, implies_true, and_true, lk, slot, zaP, zaG, zaa, if_true, if_false, ↓reduceIte, reduceCtorEq])
    all_goals ((repeat' apply zat) <;> (first | rfl | trivial | (simp only [zav]; done) | (simp only [zav]; rfl) | (simp only [zav]; trivial)))
  · rw [if_neg hp] at hst
    rw [decide_eq_false hp] at k1
    simp only [go_sem, zaa, zai, zaj, zak, zam, zaf, ↓reduceIte, reduceCtorEq, zab, zad, zan, zao, zap, decide_eq_true c, hat]
    repeat' (first
 | with_reducible refine zat ?_ ?_
 | (apply cl_plain
    case hs => rfl
    case ha => (simp only [zae, zah, prepV, prepC, idx, hpL', lookR, zaa, if_true, if_false]; rfl)
    case h => (first | exact k1 ..))
 | ((first | refine s1_id ?_ | refine swp_id ?_ | refine sops_id ?_ | refine s2_id ?_); simp only [decide_eq_true c, hat, zaD, zaF, zal, zaB, zaE, zaz, zaA, zau, zaJ, zaK, zas, zay, go_sem, zaa, zai, zaj, zak, zam, zaf, ↓reduceIte, reduceCtorEq, zab, zad, zan, zao, zap, zaP, zaS, zaG, zaN, renO, bk, back, outUpsFrom, Ints_ren])
 | (intros; omega)
 | (intros; (try simp only [zaw, zaH, zaC, zax, zaq, zar, decide_eq_true_eq, decide_eq_false_iff_not] at *); omega))
    refine le_mk (m + 1) ?_ ⟨hlt, by rw [hst]; omega, by rw [hst]; omega⟩ (by omega)
    simp only [hst]
    (refine imp_sub _ _ _ [] (by simp) (by simp) (by simp) (zaW _) ?_ rfl (by simp); simp only [zac, zag, false_implies, implies_true, and_true, lk, slot, zaP, zaG, zaa, if_true, if_false, ↓reduceIte, reduceCtorEq])
    all_goals ((repeat' apply zat) <;> (first | rfl | trivial | (simp only [zav]; done) | (simp only [zav]; rfl) | (simp only [zav]; trivial)))
end Go.Proofs.Ytlajelbiniakpaa
-- NEWGO
-- PRUNE: cl_lendx
-- ISG: Cs_isG
-- FLAT: Cs_flat
namespace Go.Proofs.Ytlajelbiniakpaa
set_option linter.unusedVariables false
set_option linter.unusedSimpArgs false
open Go.Proofs.Ytlajelbiniakpaa.Sh
set_option maxRecDepth 20000
def pkV (l : List Int) (i : Nat) (xs : List Int) : Int := xs.getD (nxV l i xs.length).toNat 0
theorem kpick_spec (l : List Int) (i : Nat) (xs : List Int) (c : Option Nat) (h0 : 0 < xs.length) (h1 : xs.length ≤ 600) (hl : l.length ≤ 600) (hr : ∀ x ∈ l, -9223372036854775808 ≤ x ∧ x ≤ 9223372036854775807) : FnSpec Try.prog 13 [dp, gi xs c] [dice l i] (i1 (pkV l i xs)) [some (dice l (nxA l i xs.length))] := by
  have h2 := nx_rng l i xs.length (by omega)
  refine fnspec_of mixed TT_ok TT_cl ⟨fun _ => false, fun f => if f = 12 then [0] else [], 1, fun _ => false, fun _ => false⟩ Try.func13 rfl (by kernel_rfl) rfl 12 rfl [.tmp 4] rfl ?_
  simp only [go_sem, zaa, zai, zaj, zak, zam, zaf, ↓reduceIte, reduceCtorEq, zab, zad, zan, zao, zap]
  repeat' (first
 | with_reducible refine zat ?_ ?_
 | (apply cl_lend
    case hr => (simp only [zae, zah, hpL', lookR, zaa, if_true, if_false]; first | exact map1 _ | exact map2 _ _ | exact map3 _ _ _)
    case ha => (simp only [zae, zah, prepV, prepC, idx, hpL', lookR, zaa, if_true, if_false]; rfl)
    case hs => rfl
    case hn => decide
    case h => (first | exact next_spec _ _ _ hl hr (by omega))
    case hf => (simp only [zac, zag, false_implies, implies_true, and_true, true_and, flat_cons, flat_nil, flat_ints, flat_bools, flat_app, Cs_flat, zaO, and_self, eq_self_iff_true, zal])
    case hl => (simp only [zas, zay]; decide))
 | ((first | refine s1_id ?_ | refine swp_id ?_ | refine sops_id ?_ | refine s2_id ?_); simp only [go_sem, zaa, zai, zaj, zak, zam, zaf, ↓reduceIte, reduceCtorEq, zab, zad, zan, zao, zap, zaP, zaS, zaG, zaN, renO, bk, back, outUpsFrom, Ints_ren])
 | (intros; omega)
 | fail)
  (refine fs_flat [(0, dice l (nxA l i xs.length))] (by simp) (by simp only [zae, zah]; decide) (by simp only [go_sem, resV, resS, zaP, zaS, zaG, zbb, zaT, idx, renO, zaN, evS, slot, lookR, zaa, ↓reduceIte, reduceCtorEq, if_true, if_false, zaQ, zaR, zae, zah, sLoad, readAt, readNeed, Ints_ren, Ints_length, Ints_getD, and_true, true_and, zaL, zaM]; try decide) ?_ (by simp only [zac, zag, false_implies, implies_true, and_true, zaT, lookR, zaa, if_true, if_false, ↓reduceIte] <;> (repeat' apply zat) <;> (first | rfl | trivial)) (by simp only [zac, zag, false_implies, implies_true, and_true, true_and, flat_cons, flat_nil, flat_ints, flat_bools, flat_app, zaO, and_self, eq_self_iff_true, zal]) ?_ <;> (try simp only [go_sem, resV, resS, zaP, zaS, zaG, zbb, zaT, idx, renO, zaN, evS, slot, lookR, zaa, ↓reduceIte, reduceCtorEq, if_true, if_false, zaQ, zaR, zae, zah, sLoad, readAt, readNeed, Ints_ren, Ints_length, Ints_getD, and_true, true_and, zaL, zaM]) <;> (try rfl))
theorem pkV_rng (l : List Int) (i : Nat) (xs : List Int) {a b : Int} (h0 : 0 < xs.length) (h : ∀ x ∈ xs, a ≤ x ∧ x ≤ b) : a ≤ pkV l i xs ∧ pkV l i xs ≤ b := by
  have h2 := nx_rng l i xs.length (by omega)
  have h3 : (nxV l i xs.length).toNat < xs.length := by omega
  unfold pkV
  rw [List.getD_eq_getElem?_getD, List.getElem?_eq_getElem h3]
  exact h _ (List.getElem_mem _)
abbrev pgL : List Int := [0, 10, 10, 100, 700]
abbrev adL : List Int := [0, 0, 100, -50, -1000, 1000, -999]
def cn1 (D : List Int) (l : List Nd) (j : Nat) (id' : Int) : Cd × Nat :=
  (⟨id' + (1 + nxV D j 3), (gN l (nxV D (nxA D j 3) l.length).toNat).i, pkV D (nxA D (nxA D j 3) l.length) pgL, pkV D (nxA D (nxA D (nxA D j 3) l.length) 5) adL⟩, nxA D (nxA D (nxA D (nxA D j 3) l.length) 5) 7)
def cnS (D : List Int) (l : List Nd) : Nat → Nat → Int → List Cd → List Cd × Nat
  | 0, j, _, acc => (acc, j)
  | m + 1, j, id', acc => cnS D l m (cn1 D l j id').2 (cn1 D l j id').1.p (acc ++ [(cn1 D l j id').1])
def mkCd (D : List Int) (l : List Nd) (j : Nat) : List Cd × Nat := cnS D l (nxV D j 9).toNat (nxA D j 9) 0 []
theorem cn1_ok (D : List Int) {l : List Nd} {n : Int} (hV : VT l n) (j : Nat) (id' : Int) : id' < (cn1 D l j id').1.p ∧ (cn1 D l j id').1.p ≤ id' + 3 ∧ bsF Nd.i l (cn1 D l j id').1.g = true ∧ cdk (cn1 D l j id').1 = true := by
  have r1 := nx_rng D j 3 (by decide)
  have r2 := nx_rng D (nxA D j 3) l.length (by have := hV.ne; omega)
  have r3 := pkV_rng D (nxA D (nxA D j 3) l.length) pgL (a := 0) (b := 700) (by decide) (by decide)
  have r4 := pkV_rng D (nxA D (nxA D (nxA D j 3) l.length) 5) adL (a := -1000) (b := 1000) (by decide) (by decide)
  refine ⟨?_, ?_, ?_, ?_⟩
  · show id' < id' + (1 + nxV D j 3); omega
  · show id' + (1 + nxV D j 3) ≤ id' + 3; omega
  · exact (bs_found Nd.i l (fun i j hij hj => hV.asc i j hij hj) (nxV D (nxA D j 3) l.length).toNat (by omega)).2
  · exact cdk_iff.2 ⟨⟨r3.1, Int.le_trans r3.2 (by decide)⟩, r4⟩
theorem cnS_ok (D : List Int) {l : List Nd} {n : Int} (hV : VT l n) : ∀ (m j : Nat) (id' : Int) (acc : List Cd), ∃ X, (cnS D l m j id' acc).1 = acc ++ X ∧ X.length = m ∧ vaF l X id' = true ∧ ∀ x ∈ X, x.n ≤ 700 ∧ x.p ≤ id' + 3 * m
  | 0, j, id', acc => ⟨[], by rw [zal]; rfl, rfl, rfl, fun x hx => by cases hx⟩
  | m + 1, j, id', acc => by
    obtain ⟨h1, h2, h3, h4⟩ := cn1_ok D hV j id'
    obtain ⟨X, e, hl, hv, hn⟩ := cnS_ok D hV m (cn1 D l j id').2 (cn1 D l j id').1.p (acc ++ [(cn1 D l j id').1])
    refine ⟨(cn1 D l j id').1 :: X, ?_, by rw [zas, hl], ?_, fun x hx => ?_⟩
    · rw [cnS, e, List.append_assoc]; rfl
    · rw [vaF, decide_eq_true h1, h3, h4, hv]; rfl
    · rcases List.mem_cons.1 hx with rfl | hx
      · exact ⟨(pkV_rng D _ pgL (a := 0) (b := 700) (by decide) (by decide)).2, by omega⟩
      · have := hn x hx
        exact ⟨this.1, by omega⟩
theorem mkCd_ok (D : List Int) {l : List Nd} {n : Int} (hV : VT l n) (j : Nat) : vaM l n (mkCd D l j).1 = true ∧ (mkCd D l j).1.length ≤ 8 ∧ ∀ x ∈ (mkCd D l j).1, x.n ≤ 700 ∧ x.p ≤ 24 := by
  have r := nx_rng D j 9 (by decide)
  obtain ⟨X, e, hl, hv, hn⟩ := cnS_ok D hV (nxV D j 9).toNat (nxA D j 9) 0 []
  unfold mkCd
  rw [e, zaE]
  refine ⟨?_, by omega, fun x hx => ?_⟩
  · unfold vaM
    rw [(chkT_iff l n).2 hV, hv, decide_eq_true (by omega)]; rfl
  · have := hn x hx
    exact ⟨this.1, by omega⟩
def lendK : FuncId → List Nat := fun f => if f = 12 then [0] else if f = 13 then [0] else []
set_option maxHeartbeats 16000000 in
theorem cands_spec (D : List Int) (hl : D.length ≤ 600) (hr : ∀ x ∈ D, -9223372036854775808 ≤ x ∧ x ≤ 9223372036854775807) (l : List Nd) (n : Int) (hV : VT l n) (j : Nat) : FnSpec Try.prog 11 [dp, trV l none n] [dice D j] (gr (mkCd D l j).1 none) [some (dice D (mkCd D l j).2)] := by
  have hnl := nd_len l
  have hle := hV.le
  have hne := hV.ne
  have n0 := next_spec D j 9 hl hr (by decide)
  have r0 := nx_rng D j 9 (by decide)
  obtain ⟨T, hT⟩ : ∃ T, mkCd D l j = T := ⟨_, rfl⟩
  rw [hT]
  obtain ⟨R, J⟩ := T
  unfold mkCd at hT
  simp only
  generalize nxA D j 9 = j0 at *
  obtain ⟨u, hu⟩ : ∃ u : Nat, nxV D j 9 = u := ⟨(nxV D j 9).toNat, by omega⟩
  rw [hu] at n0 r0 hT
  rw [Int.toNat_natCast] at hT
  refine fnspec_of mixed TT_ok TT_cl ⟨fun _ => false, lendK, 1, fun _ => false, fun _ => false⟩ Try.func11 rfl (by kernel_rfl) rfl 41 rfl [.tmp 4] rfl ?_
  simp only [go_sem, zaa, zai, zaj, zak, zam, zaf, ↓reduceIte, reduceCtorEq, zab, zad, zan, zao, zap, lendK]
  repeat' (first
 | (apply cl_lend
    case hr => (simp only [zae, zah, hpL', lookR, zaa, if_true, if_false]; first | exact map1 _ | exact map2 _ _ | exact map3 _ _ _)
    case ha => (simp only [zae, zah, prepV, prepC, idx, hpL', lookR, zaa, if_true, if_false]; rfl)
    case hs => rfl
    case hn => decide
    case h => (first | exact n0 ..)
    case hf => (simp only [zac, zag, false_implies, implies_true, and_true, true_and, flat_cons, flat_nil, flat_ints, flat_bools, flat_app, Cs_flat, zaO, and_self, eq_self_iff_true, zal])
    case hl => (simp only [zas, zay]; decide))
 | ((first | refine s1_id ?_ | refine swp_id ?_ | refine sops_id ?_ | refine s2_id ?_); simp only [lendK, dice, go_sem, zaa, zai, zaj, zak, zam, zaf, ↓reduceIte, reduceCtorEq, zab, zad, zan, zao, zap, zaP, zaS, zaG, zaN, renO, bk, back, outUpsFrom, Ints_ren])
 | (intros; (try simp only [zaw, zaH, zaC, zax, zaq, zar, decide_eq_true_eq, decide_eq_false_iff_not] at *); omega))
  refine w_loop (ι := Nat × Nat × Int × List Cd) (fun s => ⟨[(0, dp), (3, .one (.optr 1 0)), (5, .one (.osl 2 0 s.2.2.2.length none)), (6, i1 s.2.2.1), (7, i1 s.1)], [(0, some (dice D s.2.1)), (1, some ⟨[.gsl (Cs l) 0 l.length none, int n], 2⟩), (2, some ⟨Cs s.2.2.2, 4⟩)], 3⟩) (fun s => s.1 ≤ 8 ∧ s.2.2.2.length ≤ 8 - s.1 ∧ 0 ≤ s.2.2.1 ∧ s.2.2.1 ≤ 3 * (8 - s.1) ∧ cnS D l s.1 s.2.1 s.2.2.1 s.2.2.2 = (R, J)) (fun s => s.1) (u, j0, 0, []) ?_ ⟨by show u ≤ 8; omega, zaW _, zbd 0, by show (0 : Int) ≤ 3 * (8 - (u : Int)); omega, hT⟩ ?_
  · (refine Imp.trans (imp_nilA _ _ 5 4 99 (by simp only []; omega) rfl) ?_)
    (refine imp_ren _ _ _ [(0, 0, dice D j0), (1, 1, ⟨[.gsl (Cs l) 0 l.length none, int n], 2⟩), (2, 99, ⟨[], 4⟩)] (by simp) (by simp) (by simp) (zaI rfl) ?_ rfl (by simp only [zac, zag, false_implies, implies_true, and_true, zaT, lookR, zaa, if_true, if_false, ↓reduceIte, dice] <;> (repeat' apply zat) <;> (first | rfl | trivial)) (by simp only [zac, zag, false_implies, implies_true, and_true, true_and, flat_cons, flat_nil, flat_ints, flat_bools, flat_app, zaO, and_self, eq_self_iff_true, zal, dice]); simp only [zae, zah, zac, zag, false_implies, implies_true, and_true, lk, slot, zaP, zaG, toN, zaa, if_true, if_false, ↓reduceIte, reduceCtorEq])
    all_goals ((repeat' apply zat) <;> (first | rfl | trivial))
  clear hT
  rintro ⟨m, j1, id', acc⟩ ⟨hm, ha, hi0, hi1, hI⟩
  simp only at hm ha hi0 hi1 hI ⊢
  rcases Nat.eq_zero_or_pos m with h0 | hpos
  · subst h0
    rw [cnS] at hI
    obtain ⟨rfl, rfl⟩ := Prod.mk.inj hI
    have c : ¬ (0 : Int) < ((0 : Nat) : Int) := by omega
    simp only [go_sem, zaa, zai, zaj, zak, zam, zaf, ↓reduceIte, reduceCtorEq, zab, zad, zan, zao, zap, decide_eq_false c, lendK]
    repeat' (first
 | (intros; (try simp only [zaw, zaH, zaC, zax, zaq, zar, decide_eq_true_eq, decide_eq_false_iff_not] at *); omega))
    (refine fs_frz 2 ⟨Cs acc, 4⟩ (by simp only [zaT, lookR, zaa, if_true, if_false, ↓reduceIte]) (by first | exact Ints_isG _ | exact Bools_isG _ | exact Cs_isG _ | (simp [Cell.isG]; done)) ?_; simp only [frzTm, SV.frz, SV.frzL, Cell.frz, frzHp, frzO, Ints_frz, Bools_frz, zae, zah, zaa, if_true, if_false, ↓reduceIte])
    (refine fs_flat [(0, dice D j1)] (by simp) (by simp only [zae, zah]; decide) (by simp only [go_sem, resV, resS, zaP, zaS, zaG, zbb, zaT, idx, renO, zaN, evS, slot, lookR, zaa, ↓reduceIte, reduceCtorEq, if_true, if_false, zaQ, zaR, zae, zah, sLoad, readAt, readNeed, Ints_ren, Ints_length, Ints_getD, and_true, true_and, zaL, zaM]; try decide) ?_ (by simp only [zac, zag, false_implies, implies_true, and_true, zaT, lookR, zaa, if_true, if_false, ↓reduceIte, dice] <;> (repeat' apply zat) <;> (first | rfl | trivial)) (by simp only [zac, zag, false_implies, implies_true, and_true, true_and, flat_cons, flat_nil, flat_ints, flat_bools, flat_app, zaO, and_self, eq_self_iff_true, zal, dice]) ?_ <;> (try simp only [go_sem, resV, resS, zaP, zaS, zaG, zbb, zaT, idx, renO, zaN, evS, slot, lookR, zaa, ↓reduceIte, reduceCtorEq, if_true, if_false, zaQ, zaR, zae, zah, sLoad, readAt, readNeed, Ints_ren, Ints_length, Ints_getD, and_true, true_and, zaL, zaM]) <;> (try rfl))
  obtain ⟨m, rfl⟩ : ∃ m', m = m' + 1 := ⟨m - 1, by omega⟩
  have c : (0 : Int) < ((m + 1 : Nat) : Int) := by omega
  rw [cnS] at hI
  unfold cn1 at hI
  simp only at hI
  have n1 := next_spec D j1 3 hl hr (by decide)
  have r1 := nx_rng D j1 3 (by decide)
  generalize nxV D j1 3 = v1 at *
  generalize nxA D j1 3 = j2 at *
  have n2 := next_spec D j2 l.length hl hr (by omega)
  have r2 := nx_rng D j2 l.length (by omega)
  obtain ⟨t, ht⟩ : ∃ t : Nat, nxV D j2 l.length = t := ⟨(nxV D j2 l.length).toNat, by omega⟩
  rw [ht] at n2 r2 hI
  rw [Int.toNat_natCast] at hI
  generalize nxA D j2 l.length = j3 at *
  obtain ⟨q1, _⟩ := nd_f l t (by omega) (.sc (.int .i64 0))
  generalize (gN l t).i = g at *
  have n3 : ∀ c, FnSpec Try.prog 13 [dp, gi pgL c] [dice D j3] (i1 (pkV D j3 pgL)) [some (dice D (nxA D j3 5))] := fun c => kpick_spec D j3 pgL c (by decide) (by decide) hl hr
  generalize pkV D j3 pgL = v3 at *
  generalize nxA D j3 5 = j4 at *
  have n4 : ∀ c, FnSpec Try.prog 13 [dp, gi adL c] [dice D j4] (i1 (pkV D j4 adL)) [some (dice D (nxA D j4 7))] := fun c => kpick_spec D j4 adL c (by decide) (by decide) hl hr
  generalize pkV D j4 adL = v4 at *
  generalize nxA D j4 7 = j5 at *
  have hal := cd_len acc
  have htk : List.take (acc.length * 4) (Cs acc) = Cs acc := zaX (by rw [hal]; exact Nat.le_refl _)
  have hpp : Cs acc ++ [int (id' + (1 + v1)), int g, int v3, int v4] = Cs (acc ++ [⟨id' + (1 + v1), g, v3, v4⟩]) := Cs_snoc acc ⟨id' + (1 + v1), g, v3, v4⟩
  have hla : (acc ++ [(⟨id' + (1 + v1), g, v3, v4⟩ : Cd)]).length = acc.length + 1 := by simp
  generalize acc ++ [(⟨id' + (1 + v1), g, v3, v4⟩ : Cd)] = acc2 at *
  have hm1 : ((m + 1 : Nat) : Int) - 1 = (m : Int) := by omega
  simp only [go_sem, zaa, zai, zaj, zak, zam, zaf, ↓reduceIte, reduceCtorEq, zab, zad, zan, zao, zap, decide_eq_true c, lendK, ht, q1, htk, hpp, hm1]
  repeat' (first
 | with_reducible refine zat ?_ ?_
 | (unfold OKC; kernel_rfl)
 | (unfold EDG; kernel_rfl)
 | (apply cl_lend
    case hr => (simp only [zae, zah, hpL', lookR, zaa, if_true, if_false]; first | exact map1 _ | exact map2 _ _ | exact map3 _ _ _)
    case ha => (simp only [zae, zah, prepV, prepC, idx, hpL', lookR, zaa, if_true, if_false]; rfl)
    case hs => rfl
    case hn => decide
    case h => (first | exact n1 .. | exact n2 .. | exact n3 .. | exact n4 ..)
    case hf => (simp only [zac, zag, false_implies, implies_true, and_true, true_and, flat_cons, flat_nil, flat_ints, flat_bools, flat_app, Cs_flat, zaO, and_self, eq_self_iff_true, zal])
    case hl => (simp only [zas, zay]; decide))
 | (apply cl_use
    case hr => (simp only [zae, zah, hpL', lookR, zaa, if_true, if_false]; first | exact map0 | exact map1 _ | exact map2 _ _ | exact map3 _ _ _)
    case ha => (simp only [zae, zah, prepV, prepC, idx, hpL', lookR, zaa, if_true, if_false]; rfl)
    case hs => (simp only [snaps, SV.refs, zaO, idx, zba, zbc, zaE, zaB, zal, List.filter_cons, List.filter_nil, zaa, if_true, if_false, Option.isNone_none, Option.isNone_some, Bool.false_eq_true, reduceCtorEq, ↓reduceIte]; rfl)
    case hn => decide
    case h => (first | exact n1 .. | exact n2 .. | exact n3 .. | exact n4 ..)
    case hf => (simp only [zac, zag, false_implies, implies_true, and_true, true_and, flat_cons, flat_nil, flat_ints, flat_bools, flat_app, Cs_flat, zaO, and_self, eq_self_iff_true, zal])
    case hg => ((simp [hpL', lookR, Cell.isG]) <;> (repeat' apply zat) <;> (first | exact Ints_isG _ | exact Cs_isG _))
    case hl => (simp only [zas, zay]; decide))
 | ((first | refine s1_id ?_ | refine swp_id ?_ | refine sops_id ?_ | refine s2_id ?_); simp only [decide_eq_true c, lendK, dice, ht, q1, htk, hpp, hm1, zaD, zaF, zal, zaB, zaE, zaz, zaA, zau, zaJ, zaK, zas, zay, go_sem, zaa, zai, zaj, zak, zam, zaf, ↓reduceIte, reduceCtorEq, zab, zad, zan, zao, zap, zaP, zaS, zaG, zaN, renO, bk, back, outUpsFrom, Ints_ren])
 | (intros; omega)
 | (intros; (try simp only [zaw, zaH, zaC, zax, zaq, zar, decide_eq_true_eq, decide_eq_false_iff_not] at *); omega))
  refine le_mk (m, j5, id' + (1 + v1), acc2) ?_ ⟨by show m ≤ 8; omega, by show acc2.length ≤ 8 - m; omega, by show 0 ≤ id' + (1 + v1); omega, by show id' + (1 + v1) ≤ 3 * (8 - (m : Int)); omega, hI⟩ (Nat.lt_succ_self m)
  simp only [hla]
  (refine imp_ren _ _ _ [(0, 0, dice D j5), (1, 1, ⟨[.gsl (Cs l) 0 l.length none, int n], 2⟩), (2, 31, ⟨Cs acc2, 4⟩)] (by simp) (by simp) (by simp) (zaI rfl) ?_ rfl (by simp only [zac, zag, false_implies, implies_true, and_true, zaT, lookR, zaa, if_true, if_false, ↓reduceIte, dice, Cs_flat] <;> (repeat' apply zat) <;> (first | rfl | trivial)) (by simp only [zac, zag, false_implies, implies_true, and_true, true_and, flat_cons, flat_nil, flat_ints, flat_bools, flat_app, zaO, and_self, eq_self_iff_true, zal, dice, Cs_flat]); simp only [zae, zah, zac, zag, false_implies, implies_true, and_true, lk, slot, zaP, zaG, toN, zaa, if_true, if_false, ↓reduceIte, reduceCtorEq])
  all_goals ((repeat' apply zat) <;> (first | rfl | trivial))
end Go.Proofs.Ytlajelbiniakpaa
-- NEWGO
-- PRUNE: cl_lendx cl_use
-- ISG: Cs_isG
-- FLAT: Cs_flat
namespace Go.Proofs.Ytlajelbiniakpaa
set_option linter.unusedVariables false
set_option linter.unusedSimpArgs false
open Go.Proofs.Ytlajelbiniakpaa.Sh
set_option maxRecDepth 20000
def gpF (G : List Int) (at' : Int) : List Int → Int → Int
  | [], acc => acc
  | a :: r, acc => if a = at' then (if a ∈ G then a else acc) else gpF G at' r (if a ∈ G then a else acc)
def grM (l : List Nd) (n : Int) (G : List Int) (at' : Int) (c : Cd) : Int := gpF G at' (ancM l n c.g) 0
def prM (l : List Nd) (n : Int) (C : List Cd) (g : Int) (v : Int) : List Int := if g = 0 then [v] else (wiM l n C g).map (·.p)
def deM (l : List Nd) (n : Int) (C : List Cd) (G : List Int) (at' t : Int) : (Int × List Int × Int) × Int :=
  if (viM l n C at' t).2 = 0 then (((viM l n C at' t).1.p, prM l n C (grM l n G at' (viM l n C at' t).1) (viM l n C at' t).1.p, grM l n G at' (viM l n C at' t).1), 0) else ((0, [], 0), (viM l n C at' t).2)
set_option maxHeartbeats 32000000 in
theorem decide_own (l : List Nd) (n : Int) (C : List Cd) (k : Option Nat) (G : List Int) (kg : Option Nat) (at' t : Int) (hl : l.length ≤ 1000000) (hC : C.length ≤ 1000000) (hG : G.length ≤ 9223372036854775807) (hnm : NmR l) (hct : CtR l) : FnSpec Try.prog 21 [trV l none n, gr C k, gi G kg, i1 at', i1 t] [] (.tup [.agg [int (deM l n C G at' t).1.1, .osl 0 0 (deM l n C G at' t).1.2.1.length none, int (deM l n C G at' t).1.2.2], i1 (deM l n C G at' t).2]) [some ⟨Ints (deM l n C G at' t).1.2.1, 1⟩] := by
  have h1 := victim1_spec l n C k at' t hl hC hnm hct
  unfold deM
  by_cases he : (viM l n C at' t).2 = 0
  case neg =>
    rw [if_neg he]
    generalize viM l n C at' t = q at *
    obtain ⟨⟨p, g, m, a⟩, e⟩ := q
    simp only [cdc] at h1 he ⊢
    refine fnspec_of mixed TT_ok TT_cl ⟨fun _ => false, fun _ => [], 0, fun _ => false, fun _ => false⟩ Try.func21 rfl (by kernel_rfl) rfl 78 rfl [.cell 10 52, .tmp 11] rfl ?_
    simp only [go_sem, zaa, zai, zaj, zak, zam, zaf, ↓reduceIte, reduceCtorEq, zab, zad, zan, zao, zap, decide_eq_false he]
    repeat' (first
 | (apply cl_plain
    case hs => rfl
    case ha => (simp only [zae, zah, prepV, prepC, idx, hpL', lookR, zaa, if_true, if_false]; rfl)
    case h => (first | exact h1 ..))
 | ((first | refine s1_id ?_ | refine swp_id ?_ | refine sops_id ?_ | refine s2_id ?_); simp only [decide_eq_false he, zaD, zaF, zal, zaB, zaE, zaz, zaA, zau, zaJ, zaK, zas, zay, go_sem, zaa, zai, zaj, zak, zam, zaf, ↓reduceIte, reduceCtorEq, zab, zad, zan, zao, zap, zaP, zaS, zaG, zaN, renO, bk, back, outUpsFrom, Ints_ren])
 | (intros; (try simp only [zaw, zaH, zaC, zax, zaq, zar, decide_eq_true_eq, decide_eq_false_iff_not] at *); omega))
    refine fs_imp _ (imp_nilC _ _ 1 1 1 99 (by simp only []; omega) (by simp only [zaT, lookR, zaa, if_true, if_false, ↓reduceIte]; rfl) rfl) ?_
    (refine fs_flat [(99, ⟨[], 1⟩)] (by simp) (by simp only [zae, zah]; decide) (by simp only [go_sem, resV, resS, zaP, zaS, zaG, zbb, zaT, idx, renO, zaN, evS, slot, lookR, zaa, ↓reduceIte, reduceCtorEq, if_true, if_false, zaQ, zaR, zae, zah, sLoad, readAt, readNeed, Ints_ren, Ints_length, Ints_getD, and_true, true_and, zaL, zaM]; try decide) ?_ (by simp only [zac, zag, false_implies, implies_true, and_true, zaT, lookR, zaa, if_true, if_false, ↓reduceIte] <;> (repeat' apply zat) <;> (first | rfl | trivial)) (by simp only [zac, zag, false_implies, implies_true, and_true, true_and, flat_cons, flat_nil, flat_ints, flat_bools, flat_app, zaO, and_self, eq_self_iff_true, zal]) ?_ <;> (try simp only [go_sem, resV, resS, zaP, zaS, zaG, zbb, zaT, idx, renO, zaN, evS, slot, lookR, zaa, ↓reduceIte, reduceCtorEq, if_true, if_false, zaQ, zaR, zae, zah, sLoad, readAt, readNeed, Ints_ren, Ints_length, Ints_getD, and_true, true_and, zaL, zaM]) <;> (try rfl))
  rw [if_pos he]
  have h2 := fun c : Cd => tanc_spec l n c.g hl hnm hct
  have h2l := fun c : Cd => ancM_len l n c.g
  have h3 := fun g => within_spec l n C k g hl hC hnm hct
  have h3l : ∀ g, (wiM l n C g).length ≤ C.length := fun g => List.length_filter_le _ _
  generalize hq : viM l n C at' t = q at *
  obtain ⟨c, e⟩ := q
  simp only at he
  subst he
  obtain ⟨GR, hGR⟩ : ∃ GR, grM l n G at' c = GR := ⟨_, rfl⟩
  simp only
  rw [hGR]
  unfold grM at hGR
  have h2 := h2 c
  have h2l := h2l c
  clear hq
  obtain ⟨p, g, m, a⟩ := c
  simp only [cdc] at h1 h2 h2l hGR ⊢
  generalize ancM l n g = U at *
  have h3 := h3 GR
  have h3l := h3l GR
  have hk : ∀ k x, FnSpec Try.prog 35 [gi G k, i1 x] [] (b1 (decide (x ∈ G))) [] := fun k x => kccon_spec G k x hG
  unfold prM
  generalize wiM l n C GR = W at *
  refine fnspec_of mixed TT_ok TT_cl ⟨fun _ => false, fun _ => [], 0, fun _ => false, fun _ => false⟩ Try.func21 rfl (by kernel_rfl) rfl 78 rfl [.cell 10 52, .tmp 11] rfl ?_
  simp only [go_sem, zaa, zai, zaj, zak, zam, zaf, ↓reduceIte, reduceCtorEq, zab, zad, zan, zao, zap]
  repeat' (first
 | (apply cl_plain
    case hs => rfl
    case ha => (simp only [zae, zah, prepV, prepC, idx, hpL', lookR, zaa, if_true, if_false]; rfl)
    case h => (first | exact h1 .. | exact h2 ..))
 | ((first | refine s1_id ?_ | refine swp_id ?_ | refine sops_id ?_ | refine s2_id ?_); simp only [decide_true, zaD, zaF, zal, zaB, zaE, zaz, zaA, zau, zaJ, zaK, zas, zay, go_sem, zaa, zai, zaj, zak, zam, zaf, ↓reduceIte, reduceCtorEq, zab, zad, zan, zao, zap, zaP, zaS, zaG, zaN, renO, bk, back, outUpsFrom, Ints_ren])
 | (intros; (try simp only [zaw, zaH, zaC, zax, zaq, zar, decide_eq_true_eq, decide_eq_false_iff_not] at *); omega))
  refine w_loop (ι := Nat × Int) (fun s => ⟨[(1, gr C k), (2, gi G kg), (3, i1 at'), (5, .one (.optr 0 0)), (10, .one (.optr 1 0)), (14, .one (.optr 2 0)), (40, gi U none), (41, i1 U.length), (42, i1 s.1)], [(0, some ⟨[.gsl (Cs l) 0 l.length none, int n], 2⟩), (1, some ⟨[int 0, .sc (.slice none 0 0), int 0], 3⟩), (2, some ⟨[int p, .osl 3 0 1 (some 1), int s.2], 3⟩), (3, some ⟨Ints [p], 1⟩)], 4⟩) (fun s => s.1 ≤ U.length ∧ gpF G at' (U.drop s.1) s.2 = GR) (fun s => U.length - s.1) (0, 0) ?_ ⟨zaW _, hGR⟩ ?_
  · (refine imp_sub _ _ _ [(0, 0), (1, 1), (2, 22), (3, 20)] (by simp) (by simp) (by simp) (zaI rfl) ?_ (by simp only [zae, zah, zaT, lookR, renO, zaN, zaG, toN, Ints_ren, Bools_ren, zaa, if_true, if_false, ↓reduceIte] <;> (try rfl)) (by simp only [zac, zag, false_implies, implies_true, and_true, zaT, lookR, zaa, if_true, if_false, ↓reduceIte, Option.some.injEq, forall_eq'] <;> ((repeat' with_reducible apply zat) <;> (first | with_reducible trivial | exact fun c hc q hq => absurd hq (Ints_refs0 _ _ c hc) | (simp [zaO, toN]; done)))); simp only [zae, zah, zac, zag, false_implies, implies_true, and_true, lk, slot, zaP, zaG, toN, zaa, if_true, if_false, ↓reduceIte, reduceCtorEq])
    all_goals ((repeat' apply zat) <;> (first | rfl | trivial))
  clear h1 h2 hGR
  rintro ⟨i, acc⟩ ⟨hi, hI⟩
  simp only at hi hI ⊢
  have hway : (U.length ≤ i ∧ GR = acc) ∨ (i < U.length ∧ ∃ a, U.getD i 0 = a ∧ ((a = at' ∧ ((a ∈ G ∧ GR = a) ∨ (¬ a ∈ G ∧ GR = acc))) ∨ (a ≠ at' ∧ ((a ∈ G ∧ gpF G at' (U.drop (i + 1)) a = GR) ∨ (¬ a ∈ G ∧ gpF G at' (U.drop (i + 1)) acc = GR))))) := by
    rcases zaY i U.length with hlt | hge
    · right
      refine ⟨hlt, U.getD i 0, rfl, ?_⟩
      rw [drop_getD U i 0 hlt, gpF] at hI
      generalize U.getD i 0 = a at *
      by_cases h1 : a = at'
      · rw [if_pos h1] at hI
        by_cases h2 : a ∈ G
        · rw [if_pos h2] at hI; exact .inl ⟨h1, .inl ⟨h2, hI.symm⟩⟩
        · rw [if_neg h2] at hI; exact .inl ⟨h1, .inr ⟨h2, hI.symm⟩⟩
      · rw [if_neg h1] at hI
        by_cases h2 : a ∈ G
        · rw [if_pos h2] at hI; exact .inr ⟨h1, .inl ⟨h2, hI⟩⟩
        · rw [if_neg h2] at hI; exact .inr ⟨h1, .inr ⟨h2, hI⟩⟩
    · left
      rw [List.drop_of_length_le hge, gpF] at hI
      exact ⟨hge, hI.symm⟩
  clear hI
  rcases hway with ⟨hge, hI⟩ | ⟨hlt, a', hel, ⟨hat, ⟨hin, hI⟩ | ⟨hin, hI⟩⟩ | ⟨hat, ⟨hin, hI⟩ | ⟨hin, hI⟩⟩⟩
  focus
    have c : ¬ (i : Int) < (U.length : Int) := by omega
    subst hI
    by_cases h0 : GR = 0
    focus
      rw [if_pos h0]
      simp only [go_sem, zaa, zai, zaj, zak, zam, zaf, ↓reduceIte, reduceCtorEq, zab, zad, zan, zao, zap, decide_eq_false c, decide_eq_true h0]
      repeat' (first
 | (intros; (try simp only [zaw, zaH, zaC, zax, zaq, zar, decide_eq_true_eq, decide_eq_false_iff_not] at *); omega))
      subst h0
      refine fs_res (res0 := .tup [.agg [int p, .osl 0 0 1 (some 1), int 0], i1 0]) (svw_of (by simp only [sw_tup, swl_cons, swl_nil, sw_agg, sw_one, cwl_cons, cwl_nil, cw_id, and_true, true_and]; exact cw_ocap _ _ _ _)) ?_
      (refine fs_mk [3] (by simp) (by decide) (by simp only [go_sem, resV, resS, zaP, zaS, zaG, zbb, zaT, idx, renO, zaN, evS, slot, lookR, zaa, ↓reduceIte, reduceCtorEq, if_true, if_false, zaQ, zaR, zae, zah, sLoad, readAt, readNeed, Ints_ren, Ints_length, Ints_getD, and_true, true_and, zaL, zaM]; try decide) ?_ ?_ ?_ <;> (try simp only [go_sem, resV, resS, zaP, zaS, zaG, zbb, zaT, idx, renO, zaN, evS, slot, lookR, zaa, ↓reduceIte, reduceCtorEq, if_true, if_false, zaQ, zaR, zae, zah, sLoad, readAt, readNeed, Ints_ren, Ints_length, Ints_getD, and_true, true_and, zaL, zaM, zaT, lookR, renO, zaN, zaG, idx, zae, zah, Ints_ren, zac, zag, false_implies, implies_true, Option.some.injEq, forall_eq', and_true, true_and]) <;> (try rfl) <;> (try ((repeat' apply zat) <;> (first | trivial | exact fun c hc q hq => absurd hq (Ints_refs0 _ _ c hc) | (simp [zaO]; done)))))
    focus
      rw [if_neg h0]
      simp only [go_sem, zaa, zai, zaj, zak, zam, zaf, ↓reduceIte, reduceCtorEq, zab, zad, zan, zao, zap, decide_eq_false c, decide_eq_false h0]
      repeat' (first
 | (apply cl_plain
    case hs => rfl
    case ha => (simp only [zae, zah, prepV, prepC, idx, hpL', lookR, zaa, if_true, if_false]; rfl)
    case h => (first | exact hk .. | exact h3 ..))
 | ((first | refine s1_id ?_ | refine swp_id ?_ | refine sops_id ?_ | refine s2_id ?_); simp only [decide_eq_false c, decide_eq_false h0, zaD, zaF, zal, zaB, zaE, zaz, zaA, zau, zaJ, zaK, zas, zay, go_sem, zaa, zai, zaj, zak, zam, zaf, ↓reduceIte, reduceCtorEq, zab, zad, zan, zao, zap, zaP, zaS, zaG, zaN, renO, bk, back, outUpsFrom, Ints_ren])
 | (intros; (try simp only [zaw, zaH, zaC, zax, zaq, zar, decide_eq_true_eq, decide_eq_false_iff_not] at *); omega))
      refine w_loop (ι := Nat) (fun m => ⟨[(10, .one (.optr 0 0)), (14, .one (.optr 1 0)), (63, gr W none), (64, i1 W.length), (65, i1 m)], [(0, some ⟨[int 0, .sc (.slice none 0 0), int 0], 3⟩), (1, some ⟨[int p, .osl 2 0 m none, int GR], 3⟩), (2, some ⟨Ints ((W.take m).map (·.p)), 1⟩)], 3⟩) (fun m => m ≤ W.length) (fun m => W.length - m) 0 ?_ (zaW _) ?_
      focus
        (refine Imp.trans (imp_nilC _ _ 2 1 1 99 (by simp only []; omega) (by simp only [zaT, lookR, zaa, if_true, if_false, ↓reduceIte]; rfl) rfl) ?_)
        (refine imp_sub _ _ _ [(0, 1), (1, 2), (2, 99)] (by simp) (by simp) (by simp) (zaI rfl) ?_ (by simp only [zae, zah, zaT, lookR, renO, zaN, zaG, toN, Ints_ren, Bools_ren, zaa, if_true, if_false, ↓reduceIte] <;> (try rfl)) (by simp only [zac, zag, false_implies, implies_true, and_true, zaT, lookR, zaa, if_true, if_false, ↓reduceIte, Option.some.injEq, forall_eq'] <;> ((repeat' with_reducible apply zat) <;> (first | with_reducible trivial | exact fun c hc q hq => absurd hq (Ints_refs0 _ _ c hc) | (simp [zaO, toN]; done)))); simp only [zae, zah, zac, zag, false_implies, implies_true, and_true, lk, slot, zaP, zaG, toN, zaa, if_true, if_false, ↓reduceIte, reduceCtorEq])
        all_goals ((repeat' apply zat) <;> (first | rfl | trivial))
  rotate_left
  focus
    have c : (i : Int) < (U.length : Int) := by omega
    subst hI
    by_cases h0 : GR = 0
    focus
      rw [if_pos h0]
      simp only [go_sem, zaa, zai, zaj, zak, zam, zaf, ↓reduceIte, reduceCtorEq, zab, zad, zan, zao, zap, decide_eq_true c, hel, decide_eq_true hat, decide_eq_true hin, decide_eq_true h0]
      repeat' (first
 | with_reducible refine zat ?_ ?_
 | (apply cl_plain
    case hs => rfl
    case ha => (simp only [zae, zah, prepV, prepC, idx, hpL', lookR, zaa, if_true, if_false]; rfl)
    case h => (first | exact hk ..))
 | ((first | refine s1_id ?_ | refine swp_id ?_ | refine sops_id ?_ | refine s2_id ?_); simp only [decide_eq_true c, hel, decide_eq_true hat, decide_eq_true hin, decide_eq_true h0, zaD, zaF, zal, zaB, zaE, zaz, zaA, zau, zaJ, zaK, zas, zay, go_sem, zaa, zai, zaj, zak, zam, zaf, ↓reduceIte, reduceCtorEq, zab, zad, zan, zao, zap, zaP, zaS, zaG, zaN, renO, bk, back, outUpsFrom, Ints_ren])
 | (intros; omega)
 | (intros; (try simp only [zaw, zaH, zaC, zax, zaq, zar, decide_eq_true_eq, decide_eq_false_iff_not] at *); omega))
      subst h0
      refine fs_res (res0 := .tup [.agg [int p, .osl 0 0 1 (some 1), int 0], i1 0]) (svw_of (by simp only [sw_tup, swl_cons, swl_nil, sw_agg, sw_one, cwl_cons, cwl_nil, cw_id, and_true, true_and]; exact cw_ocap _ _ _ _)) ?_
      (refine fs_mk [3] (by simp) (by decide) (by simp only [go_sem, resV, resS, zaP, zaS, zaG, zbb, zaT, idx, renO, zaN, evS, slot, lookR, zaa, ↓reduceIte, reduceCtorEq, if_true, if_false, zaQ, zaR, zae, zah, sLoad, readAt, readNeed, Ints_ren, Ints_length, Ints_getD, and_true, true_and, zaL, zaM]; try decide) ?_ ?_ ?_ <;> (try simp only [go_sem, resV, resS, zaP, zaS, zaG, zbb, zaT, idx, renO, zaN, evS, slot, lookR, zaa, ↓reduceIte, reduceCtorEq, if_true, if_false, zaQ, zaR, zae, zah, sLoad, readAt, readNeed, Ints_ren, Ints_length, Ints_getD, and_true, true_and, zaL, zaM, zaT, lookR, renO, zaN, zaG, idx, zae, zah, Ints_ren, zac, zag, false_implies, implies_true, Option.some.injEq, forall_eq', and_true, true_and]) <;> (try rfl) <;> (try ((repeat' apply zat) <;> (first | trivial | exact fun c hc q hq => absurd hq (Ints_refs0 _ _ c hc) | (simp [zaO]; done)))))
    focus
      rw [if_neg h0]
      simp only [go_sem, zaa, zai, zaj, zak, zam, zaf, ↓reduceIte, reduceCtorEq, zab, zad, zan, zao, zap, decide_eq_true c, hel, decide_eq_true hat, decide_eq_true hin, decide_eq_false h0]
      repeat' (first
 | with_reducible refine zat ?_ ?_
 | (apply cl_plain
    case hs => rfl
    case ha => (simp only [zae, zah, prepV, prepC, idx, hpL', lookR, zaa, if_true, if_false]; rfl)
    case h => (first | exact hk .. | exact h3 ..))
 | ((first | refine s1_id ?_ | refine swp_id ?_ | refine sops_id ?_ | refine s2_id ?_); simp only [decide_eq_true c, hel, decide_eq_true hat, decide_eq_true hin, decide_eq_false h0, zaD, zaF, zal, zaB, zaE, zaz, zaA, zau, zaJ, zaK, zas, zay, go_sem, zaa, zai, zaj, zak, zam, zaf, ↓reduceIte, reduceCtorEq, zab, zad, zan, zao, zap, zaP, zaS, zaG, zaN, renO, bk, back, outUpsFrom, Ints_ren])
 | (intros; omega)
 | (intros; (try simp only [zaw, zaH, zaC, zax, zaq, zar, decide_eq_true_eq, decide_eq_false_iff_not] at *); omega))
      refine w_loop (ι := Nat) (fun m => ⟨[(10, .one (.optr 0 0)), (14, .one (.optr 1 0)), (63, gr W none), (64, i1 W.length), (65, i1 m)], [(0, some ⟨[int 0, .sc (.slice none 0 0), int 0], 3⟩), (1, some ⟨[int p, .osl 2 0 m none, int GR], 3⟩), (2, some ⟨Ints ((W.take m).map (·.p)), 1⟩)], 3⟩) (fun m => m ≤ W.length) (fun m => W.length - m) 0 ?_ (zaW _) ?_
      focus
        (refine Imp.trans (imp_nilC _ _ 2 1 1 99 (by simp only []; omega) (by simp only [zaT, lookR, zaa, if_true, if_false, ↓reduceIte]; rfl) rfl) ?_)
        (refine imp_sub _ _ _ [(0, 1), (1, 2), (2, 99)] (by simp) (by simp) (by simp) (zaI rfl) ?_ (by simp only [zae, zah, zaT, lookR, renO, zaN, zaG, toN, Ints_ren, Bools_ren, zaa, if_true, if_false, ↓reduceIte] <;> (try rfl)) (by simp only [zac, zag, false_implies, implies_true, and_true, zaT, lookR, zaa, if_true, if_false, ↓reduceIte, Option.some.injEq, forall_eq'] <;> ((repeat' with_reducible apply zat) <;> (first | with_reducible trivial | exact fun c hc q hq => absurd hq (Ints_refs0 _ _ c hc) | (simp [zaO, toN]; done)))); simp only [zae, zah, zac, zag, false_implies, implies_true, and_true, lk, slot, zaP, zaG, toN, zaa, if_true, if_false, ↓reduceIte, reduceCtorEq])
        all_goals ((repeat' apply zat) <;> (first | rfl | trivial))
  rotate_left
  focus
    have c : (i : Int) < (U.length : Int) := by omega
    subst hI
    by_cases h0 : GR = 0
    focus
      rw [if_pos h0]
      simp only [go_sem, zaa, zai, zaj, zak, zam, zaf, ↓reduceIte, reduceCtorEq, zab, zad, zan, zao, zap, decide_eq_true c, hel, decide_eq_true hat, decide_eq_false hin, decide_eq_true h0]
      repeat' (first
 | with_reducible refine zat ?_ ?_
 | (apply cl_plain
    case hs => rfl
    case ha => (simp only [zae, zah, prepV, prepC, idx, hpL', lookR, zaa, if_true, if_false]; rfl)
    case h => (first | exact hk ..))
 | ((first | refine s1_id ?_ | refine swp_id ?_ | refine sops_id ?_ | refine s2_id ?_); simp only [decide_eq_true c, hel, decide_eq_true hat, decide_eq_false hin, decide_eq_true h0, zaD, zaF, zal, zaB, zaE, zaz, zaA, zau, zaJ, zaK, zas, zay, go_sem, zaa, zai, zaj, zak, zam, zaf, ↓reduceIte, reduceCtorEq, zab, zad, zan, zao, zap, zaP, zaS, zaG, zaN, renO, bk, back, outUpsFrom, Ints_ren])
 | (intros; omega)
 | (intros; (try simp only [zaw, zaH, zaC, zax, zaq, zar, decide_eq_true_eq, decide_eq_false_iff_not] at *); omega))
      subst h0
      refine fs_res (res0 := .tup [.agg [int p, .osl 0 0 1 (some 1), int 0], i1 0]) (svw_of (by simp only [sw_tup, swl_cons, swl_nil, sw_agg, sw_one, cwl_cons, cwl_nil, cw_id, and_true, true_and]; exact cw_ocap _ _ _ _)) ?_
      (refine fs_mk [3] (by simp) (by decide) (by simp only [go_sem, resV, resS, zaP, zaS, zaG, zbb, zaT, idx, renO, zaN, evS, slot, lookR, zaa, ↓reduceIte, reduceCtorEq, if_true, if_false, zaQ, zaR, zae, zah, sLoad, readAt, readNeed, Ints_ren, Ints_length, Ints_getD, and_true, true_and, zaL, zaM]; try decide) ?_ ?_ ?_ <;> (try simp only [go_sem, resV, resS, zaP, zaS, zaG, zbb, zaT, idx, renO, zaN, evS, slot, lookR, zaa, ↓reduceIte, reduceCtorEq, if_true, if_false, zaQ, zaR, zae, zah, sLoad, readAt, readNeed, Ints_ren, Ints_length, Ints_getD, and_true, true_and, zaL, zaM, zaT, lookR, renO, zaN, zaG, idx, zae, zah, Ints_ren, zac, zag, false_implies, implies_true, Option.some.injEq, forall_eq', and_true, true_and]) <;> (try rfl) <;> (try ((repeat' apply zat) <;> (first | trivial | exact fun c hc q hq => absurd hq (Ints_refs0 _ _ c hc) | (simp [zaO]; done)))))
    focus
      rw [if_neg h0]
      simp only [go_sem, zaa, zai, zaj, zak, zam, zaf, ↓reduceIte, reduceCtorEq, zab, zad, zan, zao, zap, decide_eq_true c, hel, decide_eq_true hat, decide_eq_false hin, decide_eq_false h0]
      repeat' (first
 | with_reducible refine zat ?_ ?_
 | (apply cl_plain
    case hs => rfl
    case ha => (simp only [zae, zah, prepV, prepC, idx, hpL', lookR, zaa, if_true, if_false]; rfl)
    case h => (first | exact hk .. | exact h3 ..))
 | ((first | refine s1_id ?_ | refine swp_id ?_ | refine sops_id ?_ | refine s2_id ?_); simp only [decide_eq_true c, hel, decide_eq_true hat, decide_eq_false hin, decide_eq_false h0, zaD, zaF, zal, zaB, zaE, zaz, zaA, zau, zaJ, zaK, zas, zay, go_sem, zaa, zai, zaj, zak, zam, zaf, ↓reduceIte, reduceCtorEq, zab, zad, zan, zao, zap, zaP, zaS, zaG, zaN, renO, bk, back, outUpsFrom, Ints_ren])
 | (intros; omega)
 | (intros; (try simp only [zaw, zaH, zaC, zax, zaq, zar, decide_eq_true_eq, decide_eq_false_iff_not] at *); omega))
      refine w_loop (ι := Nat) (fun m => ⟨[(10, .one (.optr 0 0)), (14, .one (.optr 1 0)), (63, gr W none), (64, i1 W.length), (65, i1 m)], [(0, some ⟨[int 0, .sc (.slice none 0 0), int 0], 3⟩), (1, some ⟨[int p, .osl 2 0 m none, int GR], 3⟩), (2, some ⟨Ints ((W.take m).map (·.p)), 1⟩)], 3⟩) (fun m => m ≤ W.length) (fun m => W.length - m) 0 ?_ (zaW _) ?_
      focus
        (refine Imp.trans (imp_nilC _ _ 2 1 1 99 (by simp only []; omega) (by simp only [zaT, lookR, zaa, if_true, if_false, ↓reduceIte]; rfl) rfl) ?_)
        (refine imp_sub _ _ _ [(0, 1), (1, 2), (2, 99)] (by simp) (by simp) (by simp) (zaI rfl) ?_ (by simp only [zae, zah, zaT, lookR, renO, zaN, zaG, toN, Ints_ren, Bools_ren, zaa, if_true, if_false, ↓reduceIte] <;> (try rfl)) (by simp only [zac, zag, false_implies, implies_true, and_true, zaT, lookR, zaa, if_true, if_false, ↓reduceIte, Option.some.injEq, forall_eq'] <;> ((repeat' with_reducible apply zat) <;> (first | with_reducible trivial | exact fun c hc q hq => absurd hq (Ints_refs0 _ _ c hc) | (simp [zaO, toN]; done)))); simp only [zae, zah, zac, zag, false_implies, implies_true, and_true, lk, slot, zaP, zaG, toN, zaa, if_true, if_false, ↓reduceIte, reduceCtorEq])
        all_goals ((repeat' apply zat) <;> (first | rfl | trivial))
  rotate_left
  focus
    have c : (i : Int) < (U.length : Int) := by omega
    simp only [go_sem, zaa, zai, zaj, zak, zam, zaf, ↓reduceIte, reduceCtorEq, zab, zad, zan, zao, zap, decide_eq_true c, hel, decide_eq_false hat, decide_eq_true hin]
    repeat' (first
 | with_reducible refine zat ?_ ?_
 | (apply cl_plain
    case hs => rfl
    case ha => (simp only [zae, zah, prepV, prepC, idx, hpL', lookR, zaa, if_true, if_false]; rfl)
    case h => (first | exact hk ..))
 | ((first | refine s1_id ?_ | refine swp_id ?_ | refine sops_id ?_ | refine s2_id ?_); simp only [decide_eq_true c, hel, decide_eq_false hat, decide_eq_true hin, zaD, zaF, zal, zaB, zaE, zaz, zaA, zau, zaJ, zaK, zas, zay, go_sem, zaa, zai, zaj, zak, zam, zaf, ↓reduceIte, reduceCtorEq, zab, zad, zan, zao, zap, zaP, zaS, zaG, zaN, renO, bk, back, outUpsFrom, Ints_ren])
 | (intros; omega)
 | (intros; (try simp only [zaw, zaH, zaC, zax, zaq, zar, decide_eq_true_eq, decide_eq_false_iff_not] at *); omega))
    refine le_mk (i + 1, a') ?_ ⟨hlt, hI⟩ (by show U.length - (i + 1) < U.length - i; omega)
    (refine imp_sub _ _ _ [(0, 0), (1, 1), (2, 2), (3, 3)] (by simp) (by simp) (by simp) (zaI rfl) ?_ (by simp only [zae, zah, zaT, lookR, renO, zaN, zaG, toN, Ints_ren, Bools_ren, zaa, if_true, if_false, ↓reduceIte] <;> (try rfl)) (by simp only [zac, zag, false_implies, implies_true, and_true, zaT, lookR, zaa, if_true, if_false, ↓reduceIte, Option.some.injEq, forall_eq'] <;> ((repeat' with_reducible apply zat) <;> (first | with_reducible trivial | exact fun c hc q hq => absurd hq (Ints_refs0 _ _ c hc) | (simp [zaO, toN]; done)))); simp only [zae, zah, zac, zag, false_implies, implies_true, and_true, lk, slot, zaP, zaG, toN, zaa, if_true, if_false, ↓reduceIte, reduceCtorEq])
    all_goals ((repeat' apply zat) <;> (first | rfl | trivial | (simp only [zav]; done) | (simp only [zav]; rfl) | (simp only [zav]; trivial)))
  focus
    have c : (i : Int) < (U.length : Int) := by omega
    simp only [go_sem, zaa, zai, zaj, zak, zam, zaf, ↓reduceIte, reduceCtorEq, zab, zad, zan, zao, zap, decide_eq_true c, hel, decide_eq_false hat, decide_eq_false hin]
    repeat' (first
 | with_reducible refine zat ?_ ?_
 | (apply cl_plain
    case hs => rfl
    case ha => (simp only [zae, zah, prepV, prepC, idx, hpL', lookR, zaa, if_true, if_false]; rfl)
    case h => (first | exact hk ..))
 | ((first | refine s1_id ?_ | refine swp_id ?_ | refine sops_id ?_ | refine s2_id ?_); simp only [decide_eq_true c, hel, decide_eq_false hat, decide_eq_false hin, zaD, zaF, zal, zaB, zaE, zaz, zaA, zau, zaJ, zaK, zas, zay, go_sem, zaa, zai, zaj, zak, zam, zaf, ↓reduceIte, reduceCtorEq, zab, zad, zan, zao, zap, zaP, zaS, zaG, zaN, renO, bk, back, outUpsFrom, Ints_ren])
 | (intros; omega)
 | (intros; (try simp only [zaw, zaH, zaC, zax, zaq, zar, decide_eq_true_eq, decide_eq_false_iff_not] at *); omega))
    refine le_mk (i + 1, acc) ?_ ⟨hlt, hI⟩ (by show U.length - (i + 1) < U.length - i; omega)
    (refine imp_sub _ _ _ [(0, 0), (1, 1), (2, 2), (3, 3)] (by simp) (by simp) (by simp) (zaI rfl) ?_ (by simp only [zae, zah, zaT, lookR, renO, zaN, zaG, toN, Ints_ren, Bools_ren, zaa, if_true, if_false, ↓reduceIte] <;> (try rfl)) (by simp only [zac, zag, false_implies, implies_true, and_true, zaT, lookR, zaa, if_true, if_false, ↓reduceIte, Option.some.injEq, forall_eq'] <;> ((repeat' with_reducible apply zat) <;> (first | with_reducible trivial | exact fun c hc q hq => absurd hq (Ints_refs0 _ _ c hc) | (simp [zaO, toN]; done)))); simp only [zae, zah, zac, zag, false_implies, implies_true, and_true, lk, slot, zaP, zaG, toN, zaa, if_true, if_false, ↓reduceIte, reduceCtorEq])
    all_goals ((repeat' apply zat) <;> (first | rfl | trivial | (simp only [zav]; done) | (simp only [zav]; rfl) | (simp only [zav]; trivial)))
  all_goals (
    intro m hm
    simp only at hm ⊢
    rcases zaY m W.length with hlt2 | hge2
    case inr =>
      have c2 : ¬ (m : Int) < (W.length : Int) := by omega
      obtain rfl : m = W.length := by omega
      rw [List.take_length]
      simp only [go_sem, zaa, zai, zaj, zak, zam, zaf, ↓reduceIte, reduceCtorEq, zab, zad, zan, zao, zap, decide_eq_false c2]
      repeat' (first
 | (intros; (try simp only [zaw, zaH, zaC, zax, zaq, zar, decide_eq_true_eq, decide_eq_false_iff_not] at *); omega))
      rw [List.length_map]
      (refine fs_mk [2] (by simp) (by decide) (by simp only [go_sem, resV, resS, zaP, zaS, zaG, zbb, zaT, idx, renO, zaN, evS, slot, lookR, zaa, ↓reduceIte, reduceCtorEq, if_true, if_false, zaQ, zaR, zae, zah, sLoad, readAt, readNeed, Ints_ren, Ints_length, Ints_getD, and_true, true_and, zaL, zaM]; try decide) ?_ ?_ ?_ <;> (try simp only [go_sem, resV, resS, zaP, zaS, zaG, zbb, zaT, idx, renO, zaN, evS, slot, lookR, zaa, ↓reduceIte, reduceCtorEq, if_true, if_false, zaQ, zaR, zae, zah, sLoad, readAt, readNeed, Ints_ren, Ints_length, Ints_getD, and_true, true_and, zaL, zaM, zaT, lookR, renO, zaN, zaG, idx, zae, zah, Ints_ren, zac, zag, false_implies, implies_true, Option.some.injEq, forall_eq', and_true, true_and]) <;> (try rfl) <;> (try ((repeat' apply zat) <;> (first | trivial | exact fun c hc q hq => absurd hq (Ints_refs0 _ _ c hc) | (simp [zaO]; done)))))
    have c2 : (m : Int) < (W.length : Int) := by omega
    have hWc := cd_len W
    have hat2 := cd_td W m hlt2
    have hA : ((W.take m).map (·.p)).length = m := by rw [List.length_map, List.length_take]; omega
    have hA2 : (W.take (m + 1)).map (·.p) = (W.take m).map (·.p) ++ [(gD W m).p] := by rw [take_getD W m zcd hlt2, List.map_append]; rfl
    generalize (W.take m).map (·.p) = A at *
    generalize gD W m = x at *
    obtain ⟨xp, xg, xn, xa⟩ := x
    simp only [cdc] at hat2 hA2
    have htk : List.take m (Ints A) = Ints A := zaX (by rw [Ints_length]; omega)
    have hpp : Ints A ++ [int xp] = Ints (A ++ [xp]) := by simp [Ints]
    have hAl : (Ints A).length = m := by rw [Ints_length]; exact hA
    simp only [go_sem, zaa, zai, zaj, zak, zam, zaf, ↓reduceIte, reduceCtorEq, zab, zad, zan, zao, zap, decide_eq_true c2, hat2, htk, hpp]
    repeat' (first
 | with_reducible refine zat ?_ ?_
 | (intros; omega)
 | (intros; (try simp only [zaw, zaH, zaC, zax, zaq, zar, decide_eq_true_eq, decide_eq_false_iff_not] at *); omega))
    refine le_mk (m + 1) ?_ hlt2 (by show W.length - (m + 1) < W.length - m; omega)
    simp only [hA2]
    (refine imp_sub _ _ _ [(0, 0), (1, 1), (2, 13)] (by simp) (by simp) (by simp) (zaI rfl) ?_ (by simp only [zae, zah, zaT, lookR, renO, zaN, zaG, toN, Ints_ren, Bools_ren, zaa, if_true, if_false, ↓reduceIte] <;> (try rfl)) (by simp only [zac, zag, false_implies, implies_true, and_true, zaT, lookR, zaa, if_true, if_false, ↓reduceIte, Option.some.injEq, forall_eq'] <;> ((repeat' with_reducible apply zat) <;> (first | with_reducible trivial | exact fun c hc q hq => absurd hq (Ints_refs0 _ _ c hc) | (simp [zaO, toN]; done)))); simp only [zae, zah, zac, zag, false_implies, implies_true, and_true, lk, slot, zaP, zaG, toN, zaa, if_true, if_false, ↓reduceIte, reduceCtorEq])
    all_goals ((repeat' apply zat) <;> (first | rfl | trivial | (simp only [zav]; done) | (simp only [zav]; rfl) | (simp only [zav]; trivial))))
end Go.Proofs.Ytlajelbiniakpaa
-- NEWGO
-- PRUNE: cl_lendx cl_use
-- ISG: scG
-- FLAT: Cs_flat
namespace Go.Proofs.Ytlajelbiniakpaa
set_option linter.unusedVariables false
set_option linter.unusedSimpArgs false
open Go.Proofs.Ytlajelbiniakpaa.Sh
set_option maxRecDepth 20000
theorem scG (v : Value) : (Cell.sc v).isG = true := rfl
theorem ksame_spec (a b : List Int) (k k2 : Option Nat) (hl : a.length ≤ 9223372036854775806) : FnSpec Try.prog 23 [gi a k, gi b k2] [] (b1 (decide (a = b))) [] := by
  by_cases hlen : a.length = b.length
  case neg =>
    have c : ¬ (a.length : Int) = (b.length : Int) := by omega
    rw [decide_eq_false (fun e => hlen (by rw [e]))]
    refine fnspec_of mixed TT_ok TT_cl ⟨fun _ => false, fun _ => [], 0, fun _ => false, fun _ => false⟩ Try.func23 rfl (by kernel_rfl) rfl 26 rfl [.tmp 4] rfl ?_
    simp only [go_sem, zaa, zai, zaj, zak, zam, zaf, ↓reduceIte, reduceCtorEq, zab, zad, zan, zao, zap, decide_eq_false c]
    repeat' (first
 | exact fs_nil trivial rfl
 | fail)
  have c : (a.length : Int) = (b.length : Int) := by omega
  refine fnspec_of mixed TT_ok TT_cl ⟨fun _ => false, fun _ => [], 0, fun _ => false, fun _ => false⟩ Try.func23 rfl (by kernel_rfl) rfl 26 rfl [.tmp 4] rfl ?_
  simp only [go_sem, zaa, zai, zaj, zak, zam, zaf, ↓reduceIte, reduceCtorEq, zab, zad, zan, zao, zap, decide_eq_true c]
  repeat' (first
 | (intros; (try simp only [zaw, zaH, zaC, zax, zaq, zar, decide_eq_true_eq, decide_eq_false_iff_not] at *); omega))
  refine w_loop (ι := Nat) (fun m => ⟨[(0, gi a k), (1, gi b k2), (5, i1 m)], [], 0⟩) (fun m => m ≤ a.length ∧ a.take m = b.take m) (fun m => a.length - m) 0 ?_ ⟨zaW _, rfl⟩ ?_
  · (refine imp_sub _ _ _ [] (by simp) (by simp) (by simp) (zaW _) ?_ rfl (by simp); simp only [zac, zag, false_implies, implies_true, and_true, lk, slot, zaP, zaG, zaa, if_true, if_false, ↓reduceIte, reduceCtorEq])
    all_goals ((repeat' apply zat) <;> (first | rfl | trivial))
  rintro m ⟨hm, he⟩
  simp only at hm he ⊢
  rcases zaY m a.length with hlt | hge
  case inr =>
    have c2 : ¬ (m : Int) < (a.length : Int) := by omega
    rw [zaX hge, zaX (by omega)] at he
    rw [decide_eq_true he]
    simp only [go_sem, zaa, zai, zaj, zak, zam, zaf, ↓reduceIte, reduceCtorEq, zab, zad, zan, zao, zap, decide_eq_false c2]
    repeat' (first
 | exact fs_nil trivial rfl
 | fail)
  have c2 : (m : Int) < (a.length : Int) := by omega
  by_cases hx : a.getD m 0 = b.getD m 0
  · simp only [go_sem, zaa, zai, zaj, zak, zam, zaf, ↓reduceIte, reduceCtorEq, zab, zad, zan, zao, zap, decide_eq_true c2, decide_eq_true hx]
    repeat' (first
 | with_reducible refine zat ?_ ?_
 | (unfold OKC; kernel_rfl)
 | (unfold EDG; kernel_rfl)
 | (intros; omega)
 | (intros; (try simp only [zaw, zaH, zaC, zax, zaq, zar, decide_eq_true_eq, decide_eq_false_iff_not] at *); omega))
    refine le_mk (m + 1) ?_ ⟨hlt, by rw [take_getD a m 0 hlt, take_getD b m 0 (by omega), he, hx]⟩ (by show a.length - (m + 1) < a.length - m; omega)
    (refine imp_sub _ _ _ [] (by simp) (by simp) (by simp) (zaW _) ?_ rfl (by simp); simp only [zac, zag, false_implies, implies_true, and_true, lk, slot, zaP, zaG, zaa, if_true, if_false, ↓reduceIte, reduceCtorEq])
    all_goals ((repeat' apply zat) <;> (first | rfl | trivial | (simp only [zav]; done) | (simp only [zav]; rfl) | (simp only [zav]; trivial)))
  · rw [decide_eq_false (fun e => hx (by rw [e]))]
    simp only [go_sem, zaa, zai, zaj, zak, zam, zaf, ↓reduceIte, reduceCtorEq, zab, zad, zan, zao, zap, decide_eq_true c2, decide_eq_false hx]
    repeat' (first
 | with_reducible refine zat ?_ ?_
 | (unfold OKC; kernel_rfl)
 | (unfold EDG; kernel_rfl)
 | (intros; omega)
 | exact fs_nil trivial rfl
 | fail)
abbrev kT : List Nd := [⟨1, 0, [], 0, 0, 0⟩, ⟨2, 1, [97], 0, 0, 0⟩]
abbrev kL0 : List Cd := [⟨7, 2, 100, 0⟩, ⟨8, 2, 80, 100⟩]
abbrev kL1 : List Cd := [⟨7, 2, 100, -1000⟩, ⟨8, 2, 80, -1000⟩]
set_option maxHeartbeats 16000000 in
theorem ksane_spec : FnSpec Try.prog 8 [] [] (b1 true) [] := by
  have hN : NmR kT := fun x hx => by simp only [List.mem_cons, zag, or_false] at hx; rcases hx with rfl | rfl <;> decide
  have hC : CtR kT := fun x hx => by simp only [List.mem_cons, zag, or_false] at hx; rcases hx with rfl | rfl <;> decide
  have a1 := kscore_spec ⟨8, 2, 80, 100⟩ 1000
  rw [show scM ⟨8, 2, 80, 100⟩ 1000 = (180, 0) from by kernel_rfl] at a1
  have a2 := fun k => decide_own kT 3 kL0 k [] none 1 1000 (by decide) (by decide) (by decide) hN hC
  rw [show deM kT 3 kL0 [] 1 1000 = ((8, [8], 0), 0) from by kernel_rfl] at a2
  have a3 := fun k kg => decide_own kT 3 kL0 k [2] kg 1 1000 (by decide) (by decide) (by decide) hN hC
  rw [show deM kT 3 kL0 [2] 1 1000 = ((8, [7, 8], 2), 0) from by kernel_rfl] at a3
  have a4 := fun k => victim_spec kT 3 kL1 k 1 1000 (by decide) (by decide) hN hC
  rw [show viM kT 3 kL1 1 1000 = (zcd, 21) from by kernel_rfl] at a4
  have a2' : ∀ k, FnSpec Try.prog 21 [.agg [.gsl (Cs kT) 0 2 (some 2), int 3], .one (.gsl (Cs kL0) 0 2 k), .one (.sc (.slice none 0 0)), i1 1, i1 1000] [] (.tup [.agg [int 8, .osl 0 0 1 none, int 0], i1 0]) [some ⟨Ints [8], 1⟩] := fun k => (a2 k).pre (by simp only [gi, gr, Ints, zah, swl_cons, swl_nil, sw_agg, sw_one, cwl_cons, cwl_nil, cw_id, cw_nil0, cw_cap0, zay, zas, Nat.zero_add, zai, and_true, true_and])
  have a3' : ∀ k kg, FnSpec Try.prog 21 [.agg [.gsl (Cs kT) 0 2 (some 2), int 3], .one (.gsl (Cs kL0) 0 2 k), .one (.gsl (Ints [2]) 0 1 kg), i1 1, i1 1000] [] (.tup [.agg [int 8, .osl 0 0 2 none, int 2], i1 0]) [some ⟨Ints [7, 8], 1⟩] := fun k kg => (a3 k kg).pre (by simp only [gi, gr, Ints, zah, swl_cons, swl_nil, sw_agg, sw_one, cwl_cons, cwl_nil, cw_id, cw_nil0, cw_cap0, zay, zas, Nat.zero_add, zai, and_true, true_and])
  have a4' : ∀ k, FnSpec Try.prog 18 [.agg [.gsl (Cs kT) 0 2 (some 2), int 3], .one (.gsl (Cs kL1) 0 2 k), i1 1, i1 1000] [] (.tup [i1 0, i1 21]) [] := fun k => (a4 k).pre (by simp only [gi, gr, Ints, zah, swl_cons, swl_nil, sw_agg, sw_one, cwl_cons, cwl_nil, cw_id, cw_nil0, cw_cap0, zay, zas, Nat.zero_add, zai, and_true, true_and])
  have s1 := fun k k2 => ksame_spec [8] [8] k k2 (by decide)
  have s2 := fun k k2 => ksame_spec [7, 8] [7, 8] k k2 (by decide)
  rw [decide_eq_true rfl] at s1 s2
  clear a2 a3 a4
  simp only [cdc] at a1
  refine fnspec_of mixed TT_ok TT_cl ⟨fun _ => false, fun _ => [], 0 , fun i => if i = 65 then true else if i = 85 then true else false, fun i => if i = 3 then true else false⟩ Try.func8 rfl (by kernel_rfl) rfl 95 rfl [.tmp 0] rfl ?_
  simp only [go_sem, zaa, zai, zaj, zak, zam, zaf, ↓reduceIte, reduceCtorEq, zab, zad, zan, zao, zap, zaD, zaF, zal, zaB, zaE, zaz, zaA, zau, zaJ, zaK, zas, zay]
  repeat' (first
 | (intros; (try simp only [zaw, zaH, zaC, zax, zaq, zar, decide_eq_true_eq, decide_eq_false_iff_not] at *); omega))
  refine rgf_t _ (imp_frz _ _ 3 ⟨Cs kT, 6⟩ rfl (Cs_isG _)) ?_
  simp only [frzTm, SV.frz, SV.frzL, Cell.frz, frzHp, frzO, Ints_frz, Cs_frz, zae, zah, zaa, if_true, if_false, ↓reduceIte]
  simp only [go_sem, zaa, zai, zaj, zak, zam, zaf, ↓reduceIte, reduceCtorEq, zab, zad, zan, zao, zap, zaD, zaF, zal, zaB, zaE, zaz, zaA, zau, zaJ, zaK, zas, zay]
  repeat' (first
 | with_reducible refine zat ?_ ?_
 | (apply cl_plain
    case hs => rfl
    case ha => (simp only [zae, zah, prepV, prepC, idx, hpL', lookR, zaa, if_true, if_false]; rfl)
    case h => (first | exact a1 .. | exact a2' .. | exact a3' .. | exact a4' .. | exact s1 .. | exact s2 ..))
 | (apply cl_show
    case ha => (simp only [zae, zah, prepV, prepC, idx, hpL', lookR, zaa, if_true, if_false]; rfl)
    case hs => ((simp [snaps, SV.refs, zaO, idx, hpL', lookR]) <;> (repeat' apply zat) <;> (first | exact Ints_isG _ | exact scG _))
    case h => (first | exact a1 .. | exact a2' .. | exact a3' .. | exact a4' .. | exact s1 .. | exact s2 ..)
    case hg => ((simp [SV.noG, SV.noGL, Cell.noG]) <;> (repeat' apply zat) <;> exact Ints_noG _))
 | ((first | refine s1_id ?_ | refine swp_id ?_ | refine sops_id ?_ | refine s2_id ?_); simp only [decide_true, zaD, zaF, zal, zaB, zaE, zaz, zaA, zau, zaJ, zaK, zas, zay, go_sem, zaa, zai, zaj, zak, zam, zaf, ↓reduceIte, reduceCtorEq, zab, zad, zan, zao, zap, zaP, zaS, zaG, zaN, renO, bk, back, outUpsFrom, Ints_ren])
 | (intros; omega)
 | exact fs_nil trivial rfl
 | fail)
end Go.Proofs.Ytlajelbiniakpaa
-- NEWGO
-- PRUNE: cl_lendx cl_use
-- ISG: Cs_isG
-- FLAT: Cs_flat
namespace Go.Proofs.Ytlajelbiniakpaa
set_option linter.unusedVariables false
set_option linter.unusedSimpArgs false
open Go.Proofs.Ytlajelbiniakpaa.Sh
set_option maxRecDepth 20000
theorem kctr {l : List Nd} {n : Int} (h : VT l n) : CtR l := fun x hx => by
  have := (h.vl.all x hx).2
  unfold rngOk at this
  simp only [zaw, decide_eq_true_eq] at this
  omega
theorem vaF_asc (l : List Nd) : ∀ (C : List Cd) (last : Int), vaF l C last = true → C.Pairwise (fun x y => x.p < y.p)
  | [], _, _ => List.Pairwise.nil
  | y :: r, last, h => by
    have h' := h
    rw [vaF, zaw, zaw, zaw] at h
    refine List.pairwise_cons.2 ⟨fun x hx => (vaF_all l r y.p h.2.2.2 x hx).2.2, vaF_asc l r y.p h.2.2.2⟩
theorem vaM_asc {l : List Nd} {n : Int} {C : List Cd} (h : vaM l n C = true) : C.Pairwise (fun x y => x.p < y.p) := by
  unfold vaM at h
  rw [zaw, zaw] at h
  exact vaF_asc l C 0 h.2.2
theorem mxF_best (t : Int) : ∀ (r : List Cd) (m : Cd), (m :: r).Pairwise (fun x y => x.p < y.p) → mxF t m r ∈ m :: r ∧ ∀ y ∈ m :: r, scr y t ≤ scr (mxF t m r) t ∧ (scr y t = scr (mxF t m r) t → (mxF t m r).p ≤ y.p)
  | [], m, _ => ⟨zaV, fun y hy => by rw [List.mem_singleton.1 hy]; exact ⟨zbd _, fun _ => zbd _⟩⟩
  | x :: r, m, h => by
    have hm := List.pairwise_cons.1 h
    have hx := List.pairwise_cons.1 hm.2
    show mxF t (if scr m t < scr x t then x else m) r ∈ _ ∧ _
    by_cases c : scr m t < scr x t
    · have e : mxF t m (x :: r) = mxF t x r := by show mxF t (if scr m t < scr x t then x else m) r = _; rw [if_pos c]
      rw [if_pos c, e]
      obtain ⟨h1, h2⟩ := mxF_best t r x hm.2
      refine ⟨zaU _ h1, fun y hy => ?_⟩
      rcases List.mem_cons.1 hy with rfl | hy
      · have := (h2 x zaV).1
        exact ⟨by omega, fun e => by omega⟩
      · exact h2 y hy
    · have e : mxF t m (x :: r) = mxF t m r := by show mxF t (if scr m t < scr x t then x else m) r = _; rw [if_neg c]
      rw [if_neg c, e]
      obtain ⟨h1, h2⟩ := mxF_best t r m (List.pairwise_cons.2 ⟨fun y hy => hm.1 y (zaU _ hy), hx.2⟩)
      refine ⟨?_, fun y hy => ?_⟩
      · rcases List.mem_cons.1 h1 with h1 | h1
        · rw [h1]; exact zaV
        · exact zaU _ (zaU _ h1)
      · rcases List.mem_cons.1 hy with rfl | hy
        · exact h2 y zaV
        rcases List.mem_cons.1 hy with rfl | hy
        · have a1 := h2 m zaV
          have a2 := hm.1 y zaV
          exact ⟨by omega, fun e => by have := a1.2 (by omega); omega⟩
        · exact h2 y (zaU _ hy)
theorem mxW_best (t : Int) (W : List Cd) (h0 : W.length ≠ 0) (h : W.Pairwise (fun x y => x.p < y.p)) : mxW t W ∈ W ∧ ∀ y ∈ W, scr y t ≤ scr (mxW t W) t ∧ (scr y t = scr (mxW t W) t → (mxW t W).p ≤ y.p) := by
  cases W with
  | nil => exact absurd rfl h0
  | cons m r => exact mxF_best t r m h
theorem sub_anc {l : List Nd} {n : Int} (h : VT l n) {s t : Nat} (hs : s < l.length) (ht : t < l.length) : (gN l s).i ∈ subM l n (gN l t).i ↔ (gN l t).i ∈ ancM l n (gN l s).i := by
  have h1 : hasM l n (gN l t).i = true := hasM_iff.2 ⟨(chkT_iff l n).2 h, gN l t, getD_mem l t zn ht, rfl⟩
  have h2 : hasM l n (gN l s).i = true := hasM_iff.2 ⟨(chkT_iff l n).2 h, gN l s, getD_mem l s zn hs, rfl⟩
  unfold subM ancM
  rw [if_pos h1, if_pos h2]
  constructor
  · intro hx
    obtain ⟨i, _, _, _, hu⟩ := subF_ge h l.length t _ ht hx
    exact hu
  · intro hx
    exact subF_up h ht (by omega) s hs hx
theorem bsF_node {l : List Nd} {n id : Int} (h : VT l n) (hb : bsF Nd.i l id = true) : ∃ s, s < l.length ∧ (gN l s).i = id := by
  obtain ⟨h1, h2⟩ := bsF_at Nd.i l id hb
  exact ⟨_, h1, h2⟩
theorem bsF_of {l : List Nd} {n : Int} (h : VT l n) {t : Nat} (ht : t < l.length) : bsF Nd.i l (gN l t).i = true := (bs_found Nd.i l (fun i j hij hj => h.asc i j hij hj) t ht).2
theorem wi_iff {l : List Nd} {n : Int} {C : List Cd} (hv : vaM l n C = true) {t : Nat} (ht : t < l.length) (x : Cd) : x ∈ wiM l n C (gN l t).i ↔ x ∈ C ∧ (gN l t).i ∈ ancM l n x.g ∧ x.a ≠ -1000 := by
  obtain ⟨hV, _, hall⟩ := vaM_all hv
  unfold wiM
  rw [List.mem_filter]
  constructor
  · rintro ⟨h1, h2⟩
    obtain ⟨s, hs, es⟩ := bsF_node hV (hall x h1).2.1
    unfold outF at h2
    rw [zaC, zar, zax, decide_eq_true_eq, decide_eq_false_iff_not] at h2
    rw [← es] at h2 ⊢
    exact ⟨h1, (sub_anc hV hs ht).1 h2.1, h2.2⟩
  · rintro ⟨h1, h2, h3⟩
    obtain ⟨s, hs, es⟩ := bsF_node hV (hall x h1).2.1
    refine ⟨h1, ?_⟩
    unfold outF
    rw [zaC, zar, zax, decide_eq_true_eq, decide_eq_false_iff_not]
    rw [← es] at h2 ⊢
    exact ⟨(sub_anc hV hs ht).2 h2, h3⟩
theorem wi_asc {l : List Nd} {n : Int} {C : List Cd} (hv : vaM l n C = true) (g : Int) : (wiM l n C g).Pairwise (fun x y => x.p < y.p) := (vaM_asc hv).sublist List.filter_sublist
structure ViP (l : List Nd) (n : Int) (C : List Cd) (at' t : Int) (M : Cd) : Prop where
  mem : M ∈ C
  anc : at' ∈ ancM l n M.g
  sp : M.a ≠ -1000
  best : ∀ y ∈ C, y.a ≠ -1000 → at' ∈ ancM l n y.g → scr y t ≤ scr M t ∧ (scr y t = scr M t → M.p ≤ y.p)
theorem vi_cases {l : List Nd} {n : Int} {C : List Cd} (hv : vaM l n C = true) {s : Nat} (hs : s < l.length) {t : Int} (ht : pgk t = true) : (viM l n C (gN l s).i t = (zcd, 21) ∧ ∀ y ∈ C, y.a ≠ -1000 → ¬ (gN l s).i ∈ ancM l n y.g) ∨ ∃ M, viM l n C (gN l s).i t = (M, 0) ∧ ViP l n C (gN l s).i t M := by
  obtain ⟨hV, _, hall⟩ := vaM_all hv
  unfold viM
  rw [hv, if_pos rfl, bsF_of hV hs, if_pos rfl, ht, if_pos rfl]
  by_cases h0 : (wiM l n C (gN l s).i).length = 0
  · left
    rw [if_pos h0]
    refine ⟨rfl, fun y hy hya hyg => ?_⟩
    have := (wi_iff hv hs y).2 ⟨hy, hyg, hya⟩
    rw [List.length_eq_zero_iff.1 h0] at this
    cases this
  · right
    rw [if_neg h0]
    obtain ⟨h1, h2⟩ := mxW_best t (wiM l n C (gN l s).i) h0 (wi_asc hv _)
    obtain ⟨m1, m2, m3⟩ := (wi_iff hv hs _).1 h1
    exact ⟨_, rfl, m1, m2, m3, fun y hy hya hyg => h2 y ((wi_iff hv hs y).2 ⟨hy, hyg, hya⟩)⟩
def bsC (v : Int) (C : List Cd) : Cd := C.foldl (fun b x => if x.p = v then x else b) zcd
theorem bsC_take (v : Int) (C : List Cd) (i : Nat) (h : i < C.length) : bsC v (C.take (i + 1)) = if (gD C i).p = v then gD C i else bsC v (C.take i) := by
  unfold bsC
  rw [take_getD C i zcd h, List.foldl_append]; rfl
theorem bsC_go (M : Cd) : ∀ (C : List Cd) (b : Cd), (∀ x ∈ C, x.p = M.p → x = M) → (M ∈ C ∨ b = M) → C.foldl (fun b x => if x.p = M.p then x else b) b = M
  | [], b, _, h => by rcases h with h | h; · cases h
                      · exact h
  | x :: r, b, h1, h2 => by
    rw [List.foldl_cons]
    refine bsC_go M r _ (fun y hy => h1 y (zaU _ hy)) ?_
    by_cases c : x.p = M.p
    · rw [if_pos c]; exact .inr (h1 x zaV c)
    · rw [if_neg c]
      rcases h2 with h2 | h2
      · rcases List.mem_cons.1 h2 with rfl | h2
        · exact absurd rfl c
        · exact .inl h2
      · exact .inr h2
theorem asc_inj {C : List Cd} (h : C.Pairwise (fun x y => x.p < y.p)) {x y : Cd} (hx : x ∈ C) (hy : y ∈ C) (e : x.p = y.p) : x = y := by
  induction h with
  | nil => cases hx
  | cons h1 _ ih =>
    rcases List.mem_cons.1 hx with rfl | hx'
    · rcases List.mem_cons.1 hy with rfl | hy'
      · rfl
      · have := h1 _ hy'; omega
    · rcases List.mem_cons.1 hy with rfl | hy'
      · have := h1 _ hx'; omega
      · exact ih hx' hy'
theorem bsC_mem {C : List Cd} (h : C.Pairwise (fun x y => x.p < y.p)) {M : Cd} (hM : M ∈ C) : bsC M.p C = M := bsC_go M C zcd (fun _ hx e => asc_inj h hx hM e) (.inl hM)
end Go.Proofs.Ytlajelbiniakpaa
-- NEWGO
-- PRUNE: cl_lendx cl_use
-- ISG: Cs_isG
-- FLAT: Cs_flat
namespace Go.Proofs.Ytlajelbiniakpaa
set_option linter.unusedVariables false
set_option linter.unusedSimpArgs false
open Go.Proofs.Ytlajelbiniakpaa.Sh
set_option maxRecDepth 20000
theorem decide_spec (l : List Nd) (n : Int) (C : List Cd) (k : Option Nat) (G : List Int) (kg : Option Nat) (at' t : Int) (hl : l.length ≤ 1000000) (hC : C.length ≤ 1000000) (hG : G.length ≤ 9223372036854775807) (hnm : NmR l) (hct : CtR l) : FnSpec Try.prog 21 [trV l none n, gr C k, gi G kg, i1 at', i1 t] [] (.tup [.agg [int (deM l n C G at' t).1.1, .gsl (Ints (deM l n C G at' t).1.2.1) 0 (deM l n C G at' t).1.2.1.length none, int (deM l n C G at' t).1.2.2], i1 (deM l n C G at' t).2]) [] := by
  have h := (decide_own l n C k G kg at' t hl hC hG hnm hct).frz1 (Ints_isG _)
  simpa only [SV.frz, SV.frzL, Cell.frz, zae, zah, if_true] using h
theorem anc_up {l : List Nd} {n : Int} (h : VT l n) {i : Nat} (hi : i < l.length) : ancM l n (gN l i).i = upL l (gN l i).i := by
  unfold ancM
  rw [if_pos (hasM_iff.2 ⟨(chkT_iff l n).2 h, gN l i, getD_mem l i zn hi, rfl⟩)]
theorem anc_le {l : List Nd} {n : Int} (h : VT l n) {i : Nat} (hi : i < l.length) {b : Int} (hb : b ∈ ancM l n (gN l i).i) : b ≤ (gN l i).i ∧ ∃ t, t < l.length ∧ (gN l t).i = b := by
  rw [anc_up h hi] at hb
  obtain ⟨t, ht, e⟩ := up_le h i hi b hb
  refine ⟨?_, t, by omega, e⟩
  rcases zaY t i with c | c
  · have := h.asc t i c hi; omega
  · have : t = i := by omega
    subst this; omega
theorem anc_self {l : List Nd} {n : Int} (h : VT l n) {i : Nat} (hi : i < l.length) : (gN l i).i ∈ ancM l n (gN l i).i := by
  rw [anc_up h hi, upL_node h.asc hi]; exact zaV
theorem anc_two {l : List Nd} {n : Int} (h : VT l n) {i : Nat} (hi : i < l.length) {a b : Int} (ha : a ∈ ancM l n (gN l i).i) (hb : b ∈ ancM l n (gN l i).i) (hle : b ≤ a) : b ∈ ancM l n a := by
  obtain ⟨_, c, hc, ec⟩ := anc_le h hi ha
  obtain ⟨_, y, hy, ey⟩ := anc_le h hi hb
  rw [anc_up h hi] at ha hb
  subst ec; subst ey
  rcases zaY y c with hyc | hyc
  · rw [anc_up h hc]
    have hc0 : c ≠ 0 := by omega
    rw [h.up hc hc0]
    exact zaU _ (up_low h i hi c y hc hy ha hb hyc)
  · rcases zaY c y with h2 | h2
    · have := h.asc c y h2 hy; omega
    · have : c = y := by omega
      subst this
      exact anc_self h hc
theorem up_desc {l : List Nd} {n : Int} (h : VT l n) : ∀ i, i < l.length → (upL l (gN l i).i).Pairwise (fun a b => b < a) := fun i => by
  induction i using Nat.strongRecOn with
  | _ i ih =>
    intro hi
    by_cases h0 : i = 0
    · subst h0
      rw [h.root.1, h.up0]; exact List.pairwise_singleton _ _
    · obtain ⟨j, hj, hp⟩ := (h.ch hi h0).par
      rw [h.up hi h0, ← hp]
      refine List.pairwise_cons.2 ⟨fun b hb => ?_, ih j hj (by omega)⟩
      have h1 := anc_le h (show j < l.length by omega) (by rw [anc_up h (by omega)]; exact hb)
      have := h.asc j i hj hi
      omega
theorem gpF_prop (G : List Int) (at' : Int) : ∀ (U : List Int) (acc : Int), U.Pairwise (fun a b => b < a) → at' ∈ U → ((∀ u ∈ U, u ∈ G → u < at') ∧ gpF G at' U acc = acc) ∨ (gpF G at' U acc ∈ U ∧ at' ≤ gpF G at' U acc ∧ gpF G at' U acc ∈ G ∧ ∀ u ∈ U, u ∈ G → at' ≤ u → gpF G at' U acc ≤ u)
  | [], _, _, h => by cases h
  | a :: r, acc, hp, hm => by
    have hpa := List.pairwise_cons.1 hp
    rw [gpF]
    by_cases c : a = at'
    · rw [if_pos c]
      have hr : ∀ u ∈ r, u < at' := fun u hu => by rw [← c]; exact hpa.1 u hu
      by_cases hG : a ∈ G
      · right
        rw [if_pos hG]
        refine ⟨zaV, by omega, hG, fun u hu _ hau => ?_⟩
        rcases List.mem_cons.1 hu with rfl | hu
        · omega
        · have := hr u hu; omega
      · left
        rw [if_neg hG]
        refine ⟨fun u hu huG => ?_, rfl⟩
        rcases List.mem_cons.1 hu with rfl | hu
        · exact absurd huG hG
        · exact hr u hu
    · rw [if_neg c]
      have hm' : at' ∈ r := (List.mem_cons.1 hm).resolve_left (fun e => c e.symm)
      have hlt : at' < a := hpa.1 at' hm'
      rcases gpF_prop G at' r (if a ∈ G then a else acc) hpa.2 hm' with ⟨h1, h2⟩ | ⟨h1, h2, h3, h4⟩
      · by_cases hG : a ∈ G
        · right
          rw [if_pos hG] at h2 ⊢
          rw [h2]
          refine ⟨zaV, by omega, hG, fun u hu huG hau => ?_⟩
          rcases List.mem_cons.1 hu with rfl | hu
          · omega
          · have := h1 u hu huG; omega
        · left
          rw [if_neg hG] at h2 ⊢
          refine ⟨fun u hu huG => ?_, h2⟩
          rcases List.mem_cons.1 hu with rfl | hu
          · exact absurd huG hG
          · exact h1 u hu huG
      · right
        refine ⟨zaU _ h1, h2, h3, fun u hu huG hau => ?_⟩
        rcases List.mem_cons.1 hu with rfl | hu
        · have := hpa.1 _ h1; omega
        · exact h4 u hu huG hau
structure DeP (l : List Nd) (n : Int) (C : List Cd) (G : List Int) (at' : Int) (M : Cd) (P : List Int) (R : Int) : Prop where
  mem : M ∈ C
  hi : ∀ s, s < l.length → (gN l s).i ∈ G → (gN l s).i ∈ ancM l n M.g → at' ∈ ancM l n (gN l s).i → R ≠ 0 ∧ R ∈ ancM l n (gN l s).i
  gr : R ≠ 0 → R ∈ G ∧ at' ∈ ancM l n R ∧ R ∈ ancM l n M.g
  ds : ∀ x ∈ C, (x.p = M.p ∨ (R ≠ 0 ∧ -1000 < x.a ∧ R ∈ ancM l n x.g)) ↔ x.p ∈ P
  fr : M.n ≤ frM P C
  len : P.length ≤ C.length + 1
theorem frM_app (P : List Int) (s : Int) : ∀ (C : List Cd), (∀ x ∈ C, 0 ≤ x.n) → s ≤ C.foldl (fun s x => if x.p ∈ P then s + x.n else s) s
  | [], _ => zbd _
  | x :: r, h => by
    rw [List.foldl_cons]
    have h1 := h x zaV
    split
    · have := frM_app P (s + x.n) r (fun y hy => h y (zaU _ hy)); omega
    · exact frM_app P s r (fun y hy => h y (zaU _ hy))
theorem frM_ge (P : List Int) {M : Cd} (hP : M.p ∈ P) : ∀ (C : List Cd) (s : Int), 0 ≤ s → M ∈ C → (∀ x ∈ C, 0 ≤ x.n) → M.n ≤ C.foldl (fun s x => if x.p ∈ P then s + x.n else s) s
  | [], _, _, h, _ => by cases h
  | x :: r, s, hs, h, hn => by
    rw [List.foldl_cons]
    have hr : ∀ y ∈ r, 0 ≤ y.n := fun y hy => hn y (zaU _ hy)
    rcases List.mem_cons.1 h with rfl | h
    · rw [if_pos hP]
      have := frM_app P (s + M.n) r hr; omega
    · have hx := hn x zaV
      split
      · exact frM_ge P hP r _ (by omega) h hr
      · exact frM_ge P hP r s hs h hr
theorem de_prop {l : List Nd} {n : Int} {C : List Cd} (hv : vaM l n C = true) (G : List Int) {s : Nat} (hs : s < l.length) {t : Int} {M : Cd} (hP : ViP l n C (gN l s).i t M) : DeP l n C G (gN l s).i M (prM l n C (grM l n G (gN l s).i M) M.p) (grM l n G (gN l s).i M) := by
  obtain ⟨hV, _, hall⟩ := vaM_all hv
  obtain ⟨i, hi, ei⟩ := bsF_node hV (hall M hP.mem).2.1
  have hanc := hP.anc
  have hcase := gpF_prop G (gN l s).i (ancM l n M.g) 0 (by rw [← ei, anc_up hV hi]; exact up_desc hV i hi) hanc
  have hR : gpF G (gN l s).i (ancM l n M.g) 0 = grM l n G (gN l s).i M := rfl
  rw [hR] at hcase
  generalize grM l n G (gN l s).i M = R at *
  have hpos : ∀ {b : Int}, b ∈ ancM l n M.g → b ≠ 0 := fun hb e => by
    rw [← ei] at hb
    obtain ⟨_, t, ht, et⟩ := anc_le hV hi hb
    have := hV.pos ht
    omega
  have hgr : R ≠ 0 → R ∈ G ∧ (gN l s).i ∈ ancM l n R ∧ R ∈ ancM l n M.g := fun h0 => by
    rcases hcase with ⟨_, h⟩ | ⟨h1, h2, h3, _⟩
    · exact absurd h h0
    · refine ⟨h3, ?_, h1⟩
      rw [← ei] at h1 hanc
      exact anc_two hV hi h1 hanc h2
  have hMP : M.p ∈ prM l n C R M.p ∧ ∀ x ∈ C, (x.p = M.p ∨ (R ≠ 0 ∧ -1000 < x.a ∧ R ∈ ancM l n x.g)) ↔ x.p ∈ prM l n C R M.p := by
    unfold prM
    by_cases h0 : R = 0
    · rw [if_pos h0]
      refine ⟨List.mem_singleton.2 rfl, fun x _ => ⟨fun h => ?_, fun h => .inl (List.mem_singleton.1 h)⟩⟩
      rcases h with h | h
      · exact List.mem_singleton.2 h
      · exact absurd h0 h.1
    · rw [if_neg h0]
      obtain ⟨_, _, hRM⟩ := hgr h0
      obtain ⟨r, hr, er⟩ : ∃ r, r < l.length ∧ (gN l r).i = R := by
        rw [← ei] at hRM
        exact (anc_le hV hi hRM).2
      have hwi := fun x => wi_iff hv hr x
      rw [er] at hwi
      have hMw : M ∈ wiM l n C R := (hwi M).2 ⟨hP.mem, hRM, hP.sp⟩
      refine ⟨List.mem_map_of_mem hMw, fun x hx => ⟨fun h => ?_, fun h => ?_⟩⟩
      · rcases h with h | ⟨_, h1, h2⟩
        · rw [h]; exact List.mem_map_of_mem hMw
        · exact List.mem_map_of_mem ((hwi x).2 ⟨hx, h2, by omega⟩)
      · obtain ⟨y, hy, ey⟩ := List.mem_map.1 h
        have hyx : y = x := asc_inj (vaM_asc hv) ((hwi y).1 hy).1 hx ey
        subst hyx
        obtain ⟨_, h2, h3⟩ := (hwi y).1 hy
        have := (cdk_iff.1 (hall y hx).1).2
        exact .inr ⟨h0, by omega, h2⟩
  refine ⟨hP.mem, fun u hu huG huM hau => ?_, hgr, hMP.2, ?_, ?_⟩
  · have hle := (anc_le hV hu hau).1
    rcases hcase with ⟨h, _⟩ | ⟨h1, h2, h3, h4⟩
    · have := h _ huM huG; omega
    · refine ⟨hpos h1, ?_⟩
      have h5 := h4 _ huM huG hle
      rw [← ei] at h1 huM
      exact anc_two hV hi huM h1 h5
  · exact frM_ge _ hMP.1 C 0 (zbd 0) hP.mem (fun x hx => (cdk_iff.1 (hall x hx).1).1.1)
  · unfold prM
    split
    · simp
    · rw [List.length_map]
      have : (wiM l n C R).length ≤ C.length := List.length_filter_le _ _
      omega
end Go.Proofs.Ytlajelbiniakpaa
-- NEWGO
-- PRUNE: cl_lendx
-- ISG: Cs_isG
-- FLAT: Cs_flat
namespace Go.Proofs.Ytlajelbiniakpaa
set_option linter.unusedVariables false
set_option linter.unusedSimpArgs false
open Go.Proofs.Ytlajelbiniakpaa.Sh
set_option maxRecDepth 20000
def lendQ : FuncId → List Nat := fun f => if f = 12 then [0] else if f = 10 then [0] else if f = 11 then [0] else if f = 15 then [0] else []
set_option maxHeartbeats 64000000 in
theorem together_spec (D : List Int) (hr : ∀ x ∈ D, -9223372036854775808 ≤ x ∧ x ≤ 9223372036854775807) : FnSpec Try.prog 5 [gi D none] [] (b1 true) [] := by
  by_cases hlen : (D.length : Int) ≤ 600
  case neg =>
    refine fnspec_of mixed TT_ok TT_cl ⟨fun _ => false, lendQ, 0, fun _ => false, fun _ => false⟩ Try.func5 rfl (by kernel_rfl) rfl 206 rfl [.tmp 2] rfl ?_
    simp only [go_sem, zaa, zai, zaj, zak, zam, zaf, ↓reduceIte, reduceCtorEq, zab, zad, zan, zao, zap, decide_eq_false hlen, lendQ]
    repeat' (first
 | (apply cl_plain
    case hs => rfl
    case ha => (simp only [zae, zah, prepV, prepC, idx, hpL', lookR, zaa, if_true, if_false]; rfl)
    case h => (first | exact light_spec .. | exact ksane_spec ..))
 | ((first | refine s1_id ?_ | refine swp_id ?_ | refine sops_id ?_ | refine s2_id ?_); simp only [decide_eq_false hlen, lendQ, go_sem, zaa, zai, zaj, zak, zam, zaf, ↓reduceIte, reduceCtorEq, zab, zad, zan, zao, zap, zaP, zaS, zaG, zaN, renO, bk, back, outUpsFrom, Ints_ren])
 | exact fs_nil trivial rfl
 | fail)
  have hl : D.length ≤ 600 := by omega
  have t1 := tree_spec D hl hr 0 6 (by decide)
  have hti := mkT_ok D 0 6
  generalize mkT D 0 6 = T at *
  obtain ⟨⟨l, n⟩, j1⟩ := T
  simp only at t1 hti
  have hV := hti.v.vt
  have hle := hti.len
  have hnl := nd_len l
  have hct : CtR l := kctr hV
  have hnr := hti.nr
  have p1 := cands_spec D hl hr l n hV j1
  obtain ⟨hv, hC8, hCn⟩ := mkCd_ok D hV j1
  generalize mkCd D l j1 = q at *
  obtain ⟨C, j2⟩ := q
  simp only at p1 hv hC8 hCn
  have n1 := next_spec D j2 l.length hl hr (by omega)
  have r1 := nx_rng D j2 l.length (by omega)
  generalize nxV D j2 l.length = v at *
  generalize nxA D j2 l.length = j3 at *
  obtain ⟨s, rfl⟩ : ∃ s : Nat, v = s := ⟨v.toNat, by omega⟩
  have hs : s < l.length := by omega
  obtain ⟨q1, _⟩ := nd_f l s hs (.sc (.int .i64 0))
  have o1 := dsome_spec D hl hr j3
  have ol := dsV_len D j3
  generalize dsV D j3 = q at *
  obtain ⟨S, j4⟩ := q
  simp only at o1 ol
  have hw : pgk 1000 = true := by decide
  have ds := decide_spec l n C none S none (gN l s).i 1000 (by omega) (by omega) (by omega) hnr hct
  obtain ⟨_, _, hall⟩ := vaM_all hv
  rcases vi_cases hv hs hw with ⟨h1, _⟩ | ⟨M, h1, h2⟩
  · have e1 : deM l n C S (gN l s).i 1000 = ((0, [], 0), 21) := by unfold deM; rw [h1, if_neg (by decide)]
    rw [e1] at ds
    generalize (gN l s).i = at' at *
    refine fnspec_of mixed TT_ok TT_cl ⟨fun _ => false, lendQ, 0, fun _ => false, fun _ => false⟩ Try.func5 rfl (by kernel_rfl) rfl 206 rfl [.tmp 2] rfl ?_
    simp only [go_sem, zaa, zai, zaj, zak, zam, zaf, ↓reduceIte, reduceCtorEq, zab, zad, zan, zao, zap, decide_eq_true hlen, lendQ]
    repeat' (first
 | with_reducible refine zat ?_ ?_
 | (unfold OKC; kernel_rfl)
 | (unfold EDG; kernel_rfl)
 | (apply cg_tp
    case hl => rfl
    case ha => (simp only [zae, zah, prepV, prepC, idx, hpL', lookR, zaa, if_true, if_false]; rfl)
    case hs => rfl
    case h => (first | exact light_spec .. | exact roll_spec .. | exact t1 .. | exact p1 .. | exact n1 .. | exact o1 .. | exact ds .. | exact ksane_spec ..))
 | (apply cl_plain
    case hs => rfl
    case ha => (simp only [zae, zah, prepV, prepC, idx, hpL', lookR, zaa, if_true, if_false]; rfl)
    case h => (first | exact light_spec .. | exact roll_spec .. | exact t1 .. | exact p1 .. | exact n1 .. | exact o1 .. | exact ds .. | exact ksane_spec ..))
 | (apply cl_lend
    case hr => (simp only [zae, zah, hpL', lookR, zaa, if_true, if_false]; first | exact map1 _ | exact map2 _ _ | exact map3 _ _ _)
    case ha => (simp only [zae, zah, prepV, prepC, idx, hpL', lookR, zaa, if_true, if_false]; rfl)
    case hs => rfl
    case hn => decide
    case h => (first | exact light_spec .. | exact roll_spec .. | exact t1 .. | exact p1 .. | exact n1 .. | exact o1 .. | exact ds .. | exact ksane_spec ..)
    case hf => (simp only [zac, zag, false_implies, implies_true, and_true, true_and, flat_cons, flat_nil, flat_ints, flat_bools, flat_app, Cs_flat, zaO, and_self, eq_self_iff_true, zal])
    case hl => (simp only [zas, zay]; decide))
 | ((first | refine s1_id ?_ | refine swp_id ?_ | refine sops_id ?_ | refine s2_id ?_); simp only [decide_eq_true hlen, lendQ, dice, q1, decide_true, zaD, zaF, zal, zaB, zaE, zaz, zaA, zau, zaJ, zaK, zas, zay, go_sem, zaa, zai, zaj, zak, zam, zaf, ↓reduceIte, reduceCtorEq, zab, zad, zan, zao, zap, zaP, zaS, zaG, zaN, renO, bk, back, outUpsFrom, Ints_ren])
 | (intros; omega)
 | exact fs_nil trivial rfl
 | fail)
  have e1 : deM l n C S (gN l s).i 1000 = ((M.p, prM l n C (grM l n S (gN l s).i M) M.p, grM l n S (gN l s).i M), 0) := by unfold deM; rw [h1, if_pos rfl]
  rw [e1] at ds
  have hP := de_prop hv S hs h2
  clear e1 h1 h2
  generalize prM l n C (grM l n S (gN l s).i M) M.p = P at *
  generalize grM l n S (gN l s).i M = R at *
  have bl := fun id top => below29_spec l none n id top (by omega) hnr
  generalize (gN l s).i = at' at *
  have hB := bsC_mem (vaM_asc hv) hP.mem
  have hhi := hP.hi
  have hgr := hP.gr
  have hds := hP.ds
  have hfr := hP.fr
  have hPl := hP.len
  have hfs := freed_spec P none C none (by omega) (by omega) (fun x hx => (cdk_iff.1 (hall x hx).1).1)
  have hS := fun k x => has_spec S k x (by omega)
  have hPs := fun k x => has_spec P k x (by omega)
  clear hP
  have hcl := cd_len C
  generalize frM P C = F at *
  obtain ⟨bp, bg, bn, ba⟩ := M
  simp only at ds hhi hgr hds hfr hB
  refine fnspec_of mixed TT_ok TT_cl ⟨fun _ => false, lendQ, 0, fun _ => false, fun _ => false⟩ Try.func5 rfl (by kernel_rfl) rfl 206 rfl [.tmp 2] rfl ?_
  simp only [go_sem, zaa, zai, zaj, zak, zam, zaf, ↓reduceIte, reduceCtorEq, zab, zad, zan, zao, zap, decide_eq_true hlen, lendQ]
  repeat' (first
 | with_reducible refine zat ?_ ?_
 | (unfold OKC; kernel_rfl)
 | (unfold EDG; kernel_rfl)
 | (apply cl_plain
    case hs => rfl
    case ha => (simp only [zae, zah, prepV, prepC, idx, hpL', lookR, zaa, if_true, if_false]; rfl)
    case h => (first | exact light_spec .. | exact roll_spec .. | exact t1 .. | exact p1 .. | exact n1 .. | exact o1 .. | exact ds ..))
 | (apply cl_lend
    case hr => (simp only [zae, zah, hpL', lookR, zaa, if_true, if_false]; first | exact map1 _ | exact map2 _ _ | exact map3 _ _ _)
    case ha => (simp only [zae, zah, prepV, prepC, idx, hpL', lookR, zaa, if_true, if_false]; rfl)
    case hs => rfl
    case hn => decide
    case h => (first | exact light_spec .. | exact roll_spec .. | exact t1 .. | exact p1 .. | exact n1 .. | exact o1 .. | exact ds ..)
    case hf => (simp only [zac, zag, false_implies, implies_true, and_true, true_and, flat_cons, flat_nil, flat_ints, flat_bools, flat_app, Cs_flat, zaO, and_self, eq_self_iff_true, zal])
    case hl => (simp only [zas, zay]; decide))
 | ((first | refine s1_id ?_ | refine swp_id ?_ | refine sops_id ?_ | refine s2_id ?_); simp only [decide_eq_true hlen, lendQ, dice, q1, decide_true, zaD, zaF, zal, zaB, zaE, zaz, zaA, zau, zaJ, zaK, zas, zay, go_sem, zaa, zai, zaj, zak, zam, zaf, ↓reduceIte, reduceCtorEq, zab, zad, zan, zao, zap, zaP, zaS, zaG, zaN, renO, bk, back, outUpsFrom, Ints_ren])
 | (intros; omega)
 | (intros; (try simp only [zaw, zaH, zaC, zax, zaq, zar, decide_eq_true_eq, decide_eq_false_iff_not] at *); omega))
  refine w_loop (ι := Nat) (fun i => ⟨[(4, .one (.optr 0 0)), (5, gr C none), (6, i1 at'), (7, gi S none), (8, .one (.optr 1 0)), (10, .one (.optr 2 0)), (11, i1 i)], [(0, some ⟨[.gsl (Cs l) 0 l.length none, int n], 2⟩), (1, some ⟨[int bp, .gsl (Ints P) 0 P.length none, int R], 3⟩), (2, some ⟨cdc (bsC bp (C.take i)), 4⟩)], 3⟩) (fun i => i ≤ C.length) (fun i => C.length - i) 0 ?_ (zaW _) ?_
  · (refine imp_ren _ _ _ [(0, 9, ⟨[.gsl (Cs l) 0 l.length none, int n], 2⟩), (1, 37, ⟨[int bp, .gsl (Ints P) 0 P.length none, int R], 3⟩), (2, 43, ⟨[int 0, int 0, int 0, int 0], 4⟩)] (by simp) (by simp) (by simp) (zaI rfl) ?_ rfl (by simp only [zac, zag, false_implies, implies_true, and_true, zaT, lookR, zaa, if_true, if_false, ↓reduceIte, dice] <;> (repeat' apply zat) <;> (first | rfl | trivial)) (by simp only [zac, zag, false_implies, implies_true, and_true, true_and, flat_cons, flat_nil, flat_ints, flat_bools, flat_app, zaO, and_self, eq_self_iff_true, zal, dice]); simp only [zae, zah, zac, zag, false_implies, implies_true, and_true, lk, slot, zaP, zaG, toN, zaa, if_true, if_false, ↓reduceIte, reduceCtorEq])
    all_goals ((repeat' apply zat) <;> (first | rfl | trivial))
  clear t1 p1 n1 o1 ds
  intro i hi
  simp only at hi ⊢
  rcases zaY i C.length with hlt | hge
  case inl =>
    have c : (i : Int) < (C.length : Int) := by omega
    have hat := cd_td C i hlt
    have q2 := cd_f C i 0 (.sc (.int .i64 0)) hlt (by decide)
    rw [Nat.add_zero] at q2
    have hst := bsC_take bp C i hlt
    generalize bsC bp (C.take i) = b at *
    generalize gD C i = x at *
    obtain ⟨xp, xg, xn, xa⟩ := x
    obtain ⟨yp, yg, yn, ya⟩ := b
    have q2 : (Cs C).getD (i * 4) (.sc (.int .i64 0)) = int xp := q2
    simp only [cdc] at hat hst
    by_cases hp : xp = bp
    · rw [if_pos hp] at hst
      simp only [go_sem, zaa, zai, zaj, zak, zam, zaf, ↓reduceIte, reduceCtorEq, zab, zad, zan, zao, zap, decide_eq_true c, q2, hat, decide_eq_true hp, lendQ]
      repeat' (first
 | with_reducible refine zat ?_ ?_
 | (unfold OKC; kernel_rfl)
 | (unfold EDG; kernel_rfl)
 | (intros; omega)
 | (intros; (try simp only [zaw, zaH, zaC, zax, zaq, zar, decide_eq_true_eq, decide_eq_false_iff_not] at *); omega))
      refine le_mk (i + 1) ?_ hlt (by show C.length - (i + 1) < C.length - i; omega)
      simp only [hst]
      (refine imp_ren _ _ _ [(0, 0, ⟨[.gsl (Cs l) 0 l.length none, int n], 2⟩), (1, 1, ⟨[int bp, .gsl (Ints P) 0 P.length none, int R], 3⟩), (2, 2, ⟨[int xp, int xg, int xn, int xa], 4⟩)] (by simp) (by simp) (by simp) (zaI rfl) ?_ rfl (by simp only [zac, zag, false_implies, implies_true, and_true, zaT, lookR, zaa, if_true, if_false, ↓reduceIte] <;> (repeat' apply zat) <;> (first | rfl | trivial)) (by simp only [zac, zag, false_implies, implies_true, and_true, true_and, flat_cons, flat_nil, flat_ints, flat_bools, flat_app, zaO, and_self, eq_self_iff_true, zal]); simp only [zae, zah, zac, zag, false_implies, implies_true, and_true, lk, slot, zaP, zaG, toN, zaa, if_true, if_false, ↓reduceIte, reduceCtorEq])
      all_goals ((repeat' apply zat) <;> (first | rfl | trivial | (simp only [zav]; done) | (simp only [zav]; rfl) | (simp only [zav]; trivial)))
    · rw [if_neg hp] at hst
      simp only [go_sem, zaa, zai, zaj, zak, zam, zaf, ↓reduceIte, reduceCtorEq, zab, zad, zan, zao, zap, decide_eq_true c, q2, hat, decide_eq_false hp, lendQ]
      repeat' (first
 | with_reducible refine zat ?_ ?_
 | (unfold OKC; kernel_rfl)
 | (unfold EDG; kernel_rfl)
 | (intros; omega)
 | (intros; (try simp only [zaw, zaH, zaC, zax, zaq, zar, decide_eq_true_eq, decide_eq_false_iff_not] at *); omega))
      refine le_mk (i + 1) ?_ hlt (by show C.length - (i + 1) < C.length - i; omega)
      simp only [hst]
      (refine imp_ren _ _ _ [(0, 0, ⟨[.gsl (Cs l) 0 l.length none, int n], 2⟩), (1, 1, ⟨[int bp, .gsl (Ints P) 0 P.length none, int R], 3⟩), (2, 2, ⟨[int yp, int yg, int yn, int ya], 4⟩)] (by simp) (by simp) (by simp) (zaI rfl) ?_ rfl (by simp only [zac, zag, false_implies, implies_true, and_true, zaT, lookR, zaa, if_true, if_false, ↓reduceIte] <;> (repeat' apply zat) <;> (first | rfl | trivial)) (by simp only [zac, zag, false_implies, implies_true, and_true, true_and, flat_cons, flat_nil, flat_ints, flat_bools, flat_app, zaO, and_self, eq_self_iff_true, zal]); simp only [zae, zah, zac, zag, false_implies, implies_true, and_true, lk, slot, zaP, zaG, toN, zaa, if_true, if_false, ↓reduceIte, reduceCtorEq])
      all_goals ((repeat' apply zat) <;> (first | rfl | trivial | (simp only [zav]; done) | (simp only [zav]; rfl) | (simp only [zav]; trivial)))
  have c : ¬ (i : Int) < (C.length : Int) := by omega
  rw [zaX hge, hB]
  clear hB
  simp only [go_sem, zaa, zai, zaj, zak, zam, zaf, ↓reduceIte, reduceCtorEq, zab, zad, zan, zao, zap, decide_eq_false c, lendQ]
  repeat' (first
 | (intros; (try simp only [zaw, zaH, zaC, zax, zaq, zar, decide_eq_true_eq, decide_eq_false_iff_not] at *); omega))
  refine w_loop (ι := Nat) (fun i => ⟨[(4, .one (.optr 0 0)), (5, gr C none), (6, i1 at'), (7, gi S none), (8, .one (.optr 1 0)), (10, .one (.optr 2 0)), (12, i1 i)], [(0, some ⟨[.gsl (Cs l) 0 l.length none, int n], 2⟩), (1, some ⟨[int bp, .gsl (Ints P) 0 P.length none, int R], 3⟩), (2, some ⟨[int bp, int bg, int bn, int ba], 4⟩)], 3⟩) (fun i => i ≤ l.length) (fun i => l.length - i) 0 ?_ (zaW _) ?_
  · (refine imp_ren _ _ _ [(0, 0, ⟨[.gsl (Cs l) 0 l.length none, int n], 2⟩), (1, 1, ⟨[int bp, .gsl (Ints P) 0 P.length none, int R], 3⟩), (2, 2, ⟨[int bp, int bg, int bn, int ba], 4⟩)] (by simp) (by simp) (by simp) (zaI rfl) ?_ rfl (by simp only [zac, zag, false_implies, implies_true, and_true, zaT, lookR, zaa, if_true, if_false, ↓reduceIte] <;> (repeat' apply zat) <;> (first | rfl | trivial)) (by simp only [zac, zag, false_implies, implies_true, and_true, true_and, flat_cons, flat_nil, flat_ints, flat_bools, flat_app, zaO, and_self, eq_self_iff_true, zal]); simp only [zae, zah, zac, zag, false_implies, implies_true, and_true, lk, slot, zaP, zaG, toN, zaa, if_true, if_false, ↓reduceIte, reduceCtorEq])
    all_goals ((repeat' apply zat) <;> (first | rfl | trivial))
  intro i hi
  simp only at hi ⊢
  rcases zaY i l.length with hlt | hge
  case inl =>
    have c : (i : Int) < (l.length : Int) := by omega
    obtain ⟨q2, _⟩ := nd_f l i hlt (.sc (.int .i64 0))
    have hh := hhi i hlt
    generalize (gN l i).i = id' at *
    have k0 := fun k => hS k id'
    have k1 := bl bg id'
    have k2 := bl id' at'
    have k3 := bl id' R
    by_cases w1 : id' ∈ S
    case neg =>
      simp only [decide_eq_false w1] at k0
      simp only [go_sem, zaa, zai, zaj, zak, zam, zaf, ↓reduceIte, reduceCtorEq, zab, zad, zan, zao, zap, decide_eq_true c, q2, lendQ]
      repeat' (first
 | with_reducible refine zat ?_ ?_
 | (apply cl_plain
    case hs => rfl
    case ha => (simp only [zae, zah, prepV, prepC, idx, hpL', lookR, zaa, if_true, if_false]; rfl)
    case h => (first | exact k0 .. | exact k1 .. | exact k2 .. | exact k3 ..))
 | ((first | refine s1_id ?_ | refine swp_id ?_ | refine sops_id ?_ | refine s2_id ?_); simp only [decide_eq_true c, q2, lendQ, decide_true, beq_self_eq_true, zaZ, zaD, zaF, zal, zaB, zaE, zaz, zaA, zau, zaJ, zaK, zas, zay, go_sem, zaa, zai, zaj, zak, zam, zaf, ↓reduceIte, reduceCtorEq, zab, zad, zan, zao, zap, zaP, zaS, zaG, zaN, renO, bk, back, outUpsFrom, Ints_ren])
 | (intros; omega)
 | (intros; (try simp only [zaw, zaH, zaC, zax, zaq, zar, decide_eq_true_eq, decide_eq_false_iff_not] at *); omega))
      refine le_mk (i + 1) ?_ hlt (by show l.length - (i + 1) < l.length - i; omega)
      (refine imp_ren _ _ _ [(0, 0, ⟨[.gsl (Cs l) 0 l.length none, int n], 2⟩), (1, 1, ⟨[int bp, .gsl (Ints P) 0 P.length none, int R], 3⟩), (2, 2, ⟨[int bp, int bg, int bn, int ba], 4⟩)] (by simp) (by simp) (by simp) (zaI rfl) ?_ rfl (by simp only [zac, zag, false_implies, implies_true, and_true, zaT, lookR, zaa, if_true, if_false, ↓reduceIte] <;> (repeat' apply zat) <;> (first | rfl | trivial)) (by simp only [zac, zag, false_implies, implies_true, and_true, true_and, flat_cons, flat_nil, flat_ints, flat_bools, flat_app, zaO, and_self, eq_self_iff_true, zal]); simp only [zae, zah, zac, zag, false_implies, implies_true, and_true, lk, slot, zaP, zaG, toN, zaa, if_true, if_false, ↓reduceIte, reduceCtorEq])
      all_goals ((repeat' apply zat) <;> (first | rfl | trivial | (simp only [zav]; done) | (simp only [zav]; rfl) | (simp only [zav]; trivial)))
    simp only [decide_eq_true w1] at k0
    by_cases w2 : id' ∈ ancM l n bg
    case neg =>
      rw [decide_eq_false w2] at k1
      simp only [go_sem, zaa, zai, zaj, zak, zam, zaf, ↓reduceIte, reduceCtorEq, zab, zad, zan, zao, zap, decide_eq_true c, q2, lendQ]
      repeat' (first
 | with_reducible refine zat ?_ ?_
 | (apply cg_tp
    case hl => rfl
    case ha => (simp only [zae, zah, prepV, prepC, idx, hpL', lookR, zaa, if_true, if_false]; rfl)
    case hs => rfl
    case h => (first | exact k0 .. | exact k1 .. | exact k2 .. | exact k3 ..))
 | (apply cl_plain
    case hs => rfl
    case ha => (simp only [zae, zah, prepV, prepC, idx, hpL', lookR, zaa, if_true, if_false]; rfl)
    case h => (first | exact k0 .. | exact k1 .. | exact k2 .. | exact k3 ..))
 | ((first | refine s1_id ?_ | refine swp_id ?_ | refine sops_id ?_ | refine s2_id ?_); simp only [decide_eq_true c, q2, lendQ, decide_true, beq_self_eq_true, zaZ, zaD, zaF, zal, zaB, zaE, zaz, zaA, zau, zaJ, zaK, zas, zay, go_sem, zaa, zai, zaj, zak, zam, zaf, ↓reduceIte, reduceCtorEq, zab, zad, zan, zao, zap, zaP, zaS, zaG, zaN, renO, bk, back, outUpsFrom, Ints_ren])
 | (intros; omega)
 | (intros; (try simp only [zaw, zaH, zaC, zax, zaq, zar, decide_eq_true_eq, decide_eq_false_iff_not] at *); omega))
      refine le_mk (i + 1) ?_ hlt (by show l.length - (i + 1) < l.length - i; omega)
      (refine imp_ren _ _ _ [(0, 0, ⟨[.gsl (Cs l) 0 l.length none, int n], 2⟩), (1, 1, ⟨[int bp, .gsl (Ints P) 0 P.length none, int R], 3⟩), (2, 2, ⟨[int bp, int bg, int bn, int ba], 4⟩)] (by simp) (by simp) (by simp) (zaI rfl) ?_ rfl (by simp only [zac, zag, false_implies, implies_true, and_true, zaT, lookR, zaa, if_true, if_false, ↓reduceIte] <;> (repeat' apply zat) <;> (first | rfl | trivial)) (by simp only [zac, zag, false_implies, implies_true, and_true, true_and, flat_cons, flat_nil, flat_ints, flat_bools, flat_app, zaO, and_self, eq_self_iff_true, zal]); simp only [zae, zah, zac, zag, false_implies, implies_true, and_true, lk, slot, zaP, zaG, toN, zaa, if_true, if_false, ↓reduceIte, reduceCtorEq])
      all_goals ((repeat' apply zat) <;> (first | rfl | trivial | (simp only [zav]; done) | (simp only [zav]; rfl) | (simp only [zav]; trivial)))
    rw [decide_eq_true w2] at k1
    by_cases w3 : at' ∈ ancM l n id'
    case neg =>
      rw [decide_eq_false w3] at k2
      simp only [go_sem, zaa, zai, zaj, zak, zam, zaf, ↓reduceIte, reduceCtorEq, zab, zad, zan, zao, zap, decide_eq_true c, q2, lendQ]
      repeat' (first
 | with_reducible refine zat ?_ ?_
 | (apply cg_tp
    case hl => rfl
    case ha => (simp only [zae, zah, prepV, prepC, idx, hpL', lookR, zaa, if_true, if_false]; rfl)
    case hs => rfl
    case h => (first | exact k0 .. | exact k1 .. | exact k2 .. | exact k3 ..))
 | (apply cl_plain
    case hs => rfl
    case ha => (simp only [zae, zah, prepV, prepC, idx, hpL', lookR, zaa, if_true, if_false]; rfl)
    case h => (first | exact k0 .. | exact k1 .. | exact k2 .. | exact k3 ..))
 | ((first | refine s1_id ?_ | refine swp_id ?_ | refine sops_id ?_ | refine s2_id ?_); simp only [decide_eq_true c, q2, lendQ, decide_true, beq_self_eq_true, zaZ, zaD, zaF, zal, zaB, zaE, zaz, zaA, zau, zaJ, zaK, zas, zay, go_sem, zaa, zai, zaj, zak, zam, zaf, ↓reduceIte, reduceCtorEq, zab, zad, zan, zao, zap, zaP, zaS, zaG, zaN, renO, bk, back, outUpsFrom, Ints_ren])
 | (intros; omega)
 | (intros; (try simp only [zaw, zaH, zaC, zax, zaq, zar, decide_eq_true_eq, decide_eq_false_iff_not] at *); omega))
      refine le_mk (i + 1) ?_ hlt (by show l.length - (i + 1) < l.length - i; omega)
      (refine imp_ren _ _ _ [(0, 0, ⟨[.gsl (Cs l) 0 l.length none, int n], 2⟩), (1, 1, ⟨[int bp, .gsl (Ints P) 0 P.length none, int R], 3⟩), (2, 2, ⟨[int bp, int bg, int bn, int ba], 4⟩)] (by simp) (by simp) (by simp) (zaI rfl) ?_ rfl (by simp only [zac, zag, false_implies, implies_true, and_true, zaT, lookR, zaa, if_true, if_false, ↓reduceIte] <;> (repeat' apply zat) <;> (first | rfl | trivial)) (by simp only [zac, zag, false_implies, implies_true, and_true, true_and, flat_cons, flat_nil, flat_ints, flat_bools, flat_app, zaO, and_self, eq_self_iff_true, zal]); simp only [zae, zah, zac, zag, false_implies, implies_true, and_true, lk, slot, zaP, zaG, toN, zaa, if_true, if_false, ↓reduceIte, reduceCtorEq])
      all_goals ((repeat' apply zat) <;> (first | rfl | trivial | (simp only [zav]; done) | (simp only [zav]; rfl) | (simp only [zav]; trivial)))
    rw [decide_eq_true w3] at k2
    obtain ⟨w4, w5⟩ := hh w1 w2 w3
    rw [decide_eq_true w5] at k3
    simp only [go_sem, zaa, zai, zaj, zak, zam, zaf, ↓reduceIte, reduceCtorEq, zab, zad, zan, zao, zap, decide_eq_true c, q2, decide_eq_false w4, lendQ]
    repeat' (first
 | with_reducible refine zat ?_ ?_
 | (apply cg_tp
    case hl => rfl
    case ha => (simp only [zae, zah, prepV, prepC, idx, hpL', lookR, zaa, if_true, if_false]; rfl)
    case hs => rfl
    case h => (first | exact k0 .. | exact k1 .. | exact k2 .. | exact k3 ..))
 | (apply cl_plain
    case hs => rfl
    case ha => (simp only [zae, zah, prepV, prepC, idx, hpL', lookR, zaa, if_true, if_false]; rfl)
    case h => (first | exact k0 .. | exact k1 .. | exact k2 .. | exact k3 ..))
 | ((first | refine s1_id ?_ | refine swp_id ?_ | refine sops_id ?_ | refine s2_id ?_); simp only [decide_eq_true c, q2, decide_eq_false w4, lendQ, decide_true, beq_self_eq_true, zaZ, zaD, zaF, zal, zaB, zaE, zaz, zaA, zau, zaJ, zaK, zas, zay, go_sem, zaa, zai, zaj, zak, zam, zaf, ↓reduceIte, reduceCtorEq, zab, zad, zan, zao, zap, zaP, zaS, zaG, zaN, renO, bk, back, outUpsFrom, Ints_ren])
 | (intros; omega)
 | (intros; (try simp only [zaw, zaH, zaC, zax, zaq, zar, decide_eq_true_eq, decide_eq_false_iff_not] at *); omega))
    refine le_mk (i + 1) ?_ hlt (by show l.length - (i + 1) < l.length - i; omega)
    (refine imp_ren _ _ _ [(0, 0, ⟨[.gsl (Cs l) 0 l.length none, int n], 2⟩), (1, 1, ⟨[int bp, .gsl (Ints P) 0 P.length none, int R], 3⟩), (2, 2, ⟨[int bp, int bg, int bn, int ba], 4⟩)] (by simp) (by simp) (by simp) (zaI rfl) ?_ rfl (by simp only [zac, zag, false_implies, implies_true, and_true, zaT, lookR, zaa, if_true, if_false, ↓reduceIte] <;> (repeat' apply zat) <;> (first | rfl | trivial)) (by simp only [zac, zag, false_implies, implies_true, and_true, true_and, flat_cons, flat_nil, flat_ints, flat_bools, flat_app, zaO, and_self, eq_self_iff_true, zal]); simp only [zae, zah, zac, zag, false_implies, implies_true, and_true, lk, slot, zaP, zaG, toN, zaa, if_true, if_false, ↓reduceIte, reduceCtorEq])
    all_goals ((repeat' apply zat) <;> (first | rfl | trivial | (simp only [zav]; done) | (simp only [zav]; rfl) | (simp only [zav]; trivial)))
  have c : ¬ (i : Int) < (l.length : Int) := by omega
  clear hhi
  by_cases h0 : R = 0
  · simp only [go_sem, zaa, zai, zaj, zak, zam, zaf, ↓reduceIte, reduceCtorEq, zab, zad, zan, zao, zap, decide_eq_false c, decide_eq_true h0, lendQ]
    repeat' (first
 | (intros; (try simp only [zaw, zaH, zaC, zax, zaq, zar, decide_eq_true_eq, decide_eq_false_iff_not] at *); omega))
    refine w_loop (ι := Nat) (fun i => ⟨[(4, .one (.optr 0 0)), (5, gr C none), (8, .one (.optr 1 0)), (10, .one (.optr 2 0)), (14, i1 i)], [(0, some ⟨[.gsl (Cs l) 0 l.length none, int n], 2⟩), (1, some ⟨[int bp, .gsl (Ints P) 0 P.length none, int R], 3⟩), (2, some ⟨[int bp, int bg, int bn, int ba], 4⟩)], 3⟩) (fun i => i ≤ C.length) (fun i => C.length - i) 0 ?_ (zaW _) ?_
    · (refine imp_ren _ _ _ [(0, 0, ⟨[.gsl (Cs l) 0 l.length none, int n], 2⟩), (1, 1, ⟨[int bp, .gsl (Ints P) 0 P.length none, int R], 3⟩), (2, 2, ⟨[int bp, int bg, int bn, int ba], 4⟩)] (by simp) (by simp) (by simp) (zaI rfl) ?_ rfl (by simp only [zac, zag, false_implies, implies_true, and_true, zaT, lookR, zaa, if_true, if_false, ↓reduceIte] <;> (repeat' apply zat) <;> (first | rfl | trivial)) (by simp only [zac, zag, false_implies, implies_true, and_true, true_and, flat_cons, flat_nil, flat_ints, flat_bools, flat_app, zaO, and_self, eq_self_iff_true, zal]); simp only [zae, zah, zac, zag, false_implies, implies_true, and_true, lk, slot, zaP, zaG, toN, zaa, if_true, if_false, ↓reduceIte, reduceCtorEq])
      all_goals ((repeat' apply zat) <;> (first | rfl | trivial))
    intro i hi
    simp only at hi ⊢
    rcases zaY i C.length with hlt | hge
    case inr =>
      have c : ¬ (i : Int) < (C.length : Int) := by omega
      simp only [go_sem, zaa, zai, zaj, zak, zam, zaf, ↓reduceIte, reduceCtorEq, zab, zad, zan, zao, zap, decide_eq_false c, decide_eq_true hfr, lendQ]
      repeat' (first
 | with_reducible refine zat ?_ ?_
 | (unfold OKC; kernel_rfl)
 | (unfold EDG; kernel_rfl)
 | (apply cg_tp
    case hl => rfl
    case ha => (simp only [zae, zah, prepV, prepC, idx, hpL', lookR, zaa, if_true, if_false]; rfl)
    case hs => rfl
    case h => (first | exact hfs .. | exact ksane_spec ..))
 | (apply cl_plain
    case hs => rfl
    case ha => (simp only [zae, zah, prepV, prepC, idx, hpL', lookR, zaa, if_true, if_false]; rfl)
    case h => (first | exact hfs .. | exact ksane_spec ..))
 | ((first | refine s1_id ?_ | refine swp_id ?_ | refine sops_id ?_ | refine s2_id ?_); simp only [decide_eq_false c, decide_eq_true hfr, ge_iff_le, lendQ, zaD, zaF, zal, zaB, zaE, zaz, zaA, zau, zaJ, zaK, zas, zay, go_sem, zaa, zai, zaj, zak, zam, zaf, ↓reduceIte, reduceCtorEq, zab, zad, zan, zao, zap, zaP, zaS, zaG, zaN, renO, bk, back, outUpsFrom, Ints_ren])
 | exact fs_nil trivial rfl
 | fail)
    have c : (i : Int) < (C.length : Int) := by omega
    have q0 := cd_f C i 0 (.sc (.int .i64 0)) hlt (by decide)
    rw [Nat.add_zero] at q0
    have q3 := cd_f C i 3 (.sc (.int .i64 0)) hlt (by decide)
    have q2 := cd_f C i 1 (.sc (.int .i64 0)) hlt (by decide)
    have hd : ((gD C i).p = bp ∨ (R ≠ 0 ∧ -1000 < (gD C i).a ∧ R ∈ ancM l n (gD C i).g)) ↔ (gD C i).p ∈ P := hds _ (getD_mem C i zcd hlt)
    generalize gD C i = x at *
    obtain ⟨xp, xg, xn, xa⟩ := x
    simp only at hd
    have q0 : (Cs C).getD (i * 4) (.sc (.int .i64 0)) = int xp := q0
    have q3 : (Cs C).getD (i * 4 + 3) (.sc (.int .i64 0)) = int xa := q3
    have q2 : (Cs C).getD (i * 4 + 1) (.sc (.int .i64 0)) = int xg := q2
    have k0 := fun k => hPs k xp
    have k1 := bl xg R
    by_cases hp : xp = bp
    · have hin : xp ∈ P := hd.1 (.inl hp)
      simp only [decide_eq_true hin] at k0
      simp only [go_sem, zaa, zai, zaj, zak, zam, zaf, ↓reduceIte, reduceCtorEq, zab, zad, zan, zao, zap, decide_eq_true c, q0, q2, q3, decide_eq_true hp, lendQ]
      repeat' (first
 | with_reducible refine zat ?_ ?_
 | (unfold OKC; kernel_rfl)
 | (unfold EDG; kernel_rfl)
 | (apply cl_plain
    case hs => rfl
    case ha => (simp only [zae, zah, prepV, prepC, idx, hpL', lookR, zaa, if_true, if_false]; rfl)
    case h => (first | exact k0 .. | exact k1 ..))
 | ((first | refine s1_id ?_ | refine swp_id ?_ | refine sops_id ?_ | refine s2_id ?_); simp only [decide_eq_true c, q0, q2, q3, decide_eq_true hp, lendQ, decide_true, beq_self_eq_true, zaZ, zaD, zaF, zal, zaB, zaE, zaz, zaA, zau, zaJ, zaK, zas, zay, go_sem, zaa, zai, zaj, zak, zam, zaf, ↓reduceIte, reduceCtorEq, zab, zad, zan, zao, zap, zaP, zaS, zaG, zaN, renO, bk, back, outUpsFrom, Ints_ren])
 | (intros; omega)
 | (intros; (try simp only [zaw, zaH, zaC, zax, zaq, zar, decide_eq_true_eq, decide_eq_false_iff_not] at *); omega))
      refine le_mk (i + 1) ?_ hlt (by show C.length - (i + 1) < C.length - i; omega)
      (refine imp_ren _ _ _ [(0, 0, ⟨[.gsl (Cs l) 0 l.length none, int n], 2⟩), (1, 1, ⟨[int bp, .gsl (Ints P) 0 P.length none, int R], 3⟩), (2, 2, ⟨[int bp, int bg, int bn, int ba], 4⟩)] (by simp) (by simp) (by simp) (zaI rfl) ?_ rfl (by simp only [zac, zag, false_implies, implies_true, and_true, zaT, lookR, zaa, if_true, if_false, ↓reduceIte] <;> (repeat' apply zat) <;> (first | rfl | trivial)) (by simp only [zac, zag, false_implies, implies_true, and_true, true_and, flat_cons, flat_nil, flat_ints, flat_bools, flat_app, zaO, and_self, eq_self_iff_true, zal]); simp only [zae, zah, zac, zag, false_implies, implies_true, and_true, lk, slot, zaP, zaG, toN, zaa, if_true, if_false, ↓reduceIte, reduceCtorEq])
      all_goals ((repeat' apply zat) <;> (first | rfl | trivial | (simp only [zav]; done) | (simp only [zav]; rfl) | (simp only [zav]; trivial)))
    have hin : ¬ xp ∈ P := fun h => by rcases hd.2 h with h | ⟨h, _⟩ <;> contradiction
    simp only [decide_eq_false hin] at k0
    simp only [go_sem, zaa, zai, zaj, zak, zam, zaf, ↓reduceIte, reduceCtorEq, zab, zad, zan, zao, zap, decide_eq_true c, q0, q2, q3, decide_eq_false hp, decide_eq_true h0, lendQ]
    repeat' (first
 | with_reducible refine zat ?_ ?_
 | (unfold OKC; kernel_rfl)
 | (unfold EDG; kernel_rfl)
 | (apply cl_plain
    case hs => rfl
    case ha => (simp only [zae, zah, prepV, prepC, idx, hpL', lookR, zaa, if_true, if_false]; rfl)
    case h => (first | exact k0 .. | exact k1 ..))
 | ((first | refine s1_id ?_ | refine swp_id ?_ | refine sops_id ?_ | refine s2_id ?_); simp only [decide_eq_true c, q0, q2, q3, decide_eq_false hp, decide_eq_true h0, lendQ, decide_true, beq_self_eq_true, zaZ, zaD, zaF, zal, zaB, zaE, zaz, zaA, zau, zaJ, zaK, zas, zay, go_sem, zaa, zai, zaj, zak, zam, zaf, ↓reduceIte, reduceCtorEq, zab, zad, zan, zao, zap, zaP, zaS, zaG, zaN, renO, bk, back, outUpsFrom, Ints_ren])
 | (intros; omega)
 | (intros; (try simp only [zaw, zaH, zaC, zax, zaq, zar, decide_eq_true_eq, decide_eq_false_iff_not] at *); omega))
    refine le_mk (i + 1) ?_ hlt (by show C.length - (i + 1) < C.length - i; omega)
    (refine imp_ren _ _ _ [(0, 0, ⟨[.gsl (Cs l) 0 l.length none, int n], 2⟩), (1, 1, ⟨[int bp, .gsl (Ints P) 0 P.length none, int R], 3⟩), (2, 2, ⟨[int bp, int bg, int bn, int ba], 4⟩)] (by simp) (by simp) (by simp) (zaI rfl) ?_ rfl (by simp only [zac, zag, false_implies, implies_true, and_true, zaT, lookR, zaa, if_true, if_false, ↓reduceIte] <;> (repeat' apply zat) <;> (first | rfl | trivial)) (by simp only [zac, zag, false_implies, implies_true, and_true, true_and, flat_cons, flat_nil, flat_ints, flat_bools, flat_app, zaO, and_self, eq_self_iff_true, zal]); simp only [zae, zah, zac, zag, false_implies, implies_true, and_true, lk, slot, zaP, zaG, toN, zaa, if_true, if_false, ↓reduceIte, reduceCtorEq])
    all_goals ((repeat' apply zat) <;> (first | rfl | trivial | (simp only [zav]; done) | (simp only [zav]; rfl) | (simp only [zav]; trivial)))
  · obtain ⟨g1, g2, g3⟩ := hgr h0
    have k0 := fun k => hS k R
    simp only [decide_eq_true g1] at k0
    have k1 := bl R at'
    rw [decide_eq_true g2] at k1
    have k2 := bl bg R
    rw [decide_eq_true g3] at k2
    simp only [go_sem, zaa, zai, zaj, zak, zam, zaf, ↓reduceIte, reduceCtorEq, zab, zad, zan, zao, zap, decide_eq_false c, decide_eq_false h0, lendQ]
    repeat' (first
 | (apply cg_tp
    case hl => rfl
    case ha => (simp only [zae, zah, prepV, prepC, idx, hpL', lookR, zaa, if_true, if_false]; rfl)
    case hs => rfl
    case h => (first | exact k0 .. | exact k1 .. | exact k2 ..))
 | ((first | refine s1_id ?_ | refine swp_id ?_ | refine sops_id ?_ | refine s2_id ?_); simp only [decide_eq_false c, decide_eq_false h0, lendQ, zaD, zaF, zal, zaB, zaE, zaz, zaA, zau, zaJ, zaK, zas, zay, go_sem, zaa, zai, zaj, zak, zam, zaf, ↓reduceIte, reduceCtorEq, zab, zad, zan, zao, zap, zaP, zaS, zaG, zaN, renO, bk, back, outUpsFrom, Ints_ren])
 | (intros; (try simp only [zaw, zaH, zaC, zax, zaq, zar, decide_eq_true_eq, decide_eq_false_iff_not] at *); omega))
    clear k0 k1 k2
    refine w_loop (ι := Nat) (fun i => ⟨[(4, .one (.optr 0 0)), (5, gr C none), (8, .one (.optr 1 0)), (10, .one (.optr 2 0)), (14, i1 i)], [(0, some ⟨[.gsl (Cs l) 0 l.length none, int n], 2⟩), (1, some ⟨[int bp, .gsl (Ints P) 0 P.length none, int R], 3⟩), (2, some ⟨[int bp, int bg, int bn, int ba], 4⟩)], 3⟩) (fun i => i ≤ C.length) (fun i => C.length - i) 0 ?_ (zaW _) ?_
    · (refine imp_ren _ _ _ [(0, 0, ⟨[.gsl (Cs l) 0 l.length none, int n], 2⟩), (1, 1, ⟨[int bp, .gsl (Ints P) 0 P.length none, int R], 3⟩), (2, 2, ⟨[int bp, int bg, int bn, int ba], 4⟩)] (by simp) (by simp) (by simp) (zaI rfl) ?_ rfl (by simp only [zac, zag, false_implies, implies_true, and_true, zaT, lookR, zaa, if_true, if_false, ↓reduceIte] <;> (repeat' apply zat) <;> (first | rfl | trivial)) (by simp only [zac, zag, false_implies, implies_true, and_true, true_and, flat_cons, flat_nil, flat_ints, flat_bools, flat_app, zaO, and_self, eq_self_iff_true, zal]); simp only [zae, zah, zac, zag, false_implies, implies_true, and_true, lk, slot, zaP, zaG, toN, zaa, if_true, if_false, ↓reduceIte, reduceCtorEq])
      all_goals ((repeat' apply zat) <;> (first | rfl | trivial))
    intro i hi
    simp only at hi ⊢
    rcases zaY i C.length with hlt | hge
    case inr =>
      have c : ¬ (i : Int) < (C.length : Int) := by omega
      simp only [go_sem, zaa, zai, zaj, zak, zam, zaf, ↓reduceIte, reduceCtorEq, zab, zad, zan, zao, zap, decide_eq_false c, decide_eq_true hfr, lendQ]
      repeat' (first
 | with_reducible refine zat ?_ ?_
 | (unfold OKC; kernel_rfl)
 | (unfold EDG; kernel_rfl)
 | (apply cg_tp
    case hl => rfl
    case ha => (simp only [zae, zah, prepV, prepC, idx, hpL', lookR, zaa, if_true, if_false]; rfl)
    case hs => rfl
    case h => (first | exact hfs .. | exact ksane_spec ..))
 | (apply cl_plain
    case hs => rfl
    case ha => (simp only [zae, zah, prepV, prepC, idx, hpL', lookR, zaa, if_true, if_false]; rfl)
    case h => (first | exact hfs .. | exact ksane_spec ..))
 | ((first | refine s1_id ?_ | refine swp_id ?_ | refine sops_id ?_ | refine s2_id ?_); simp only [decide_eq_false c, decide_eq_true hfr, ge_iff_le, lendQ, zaD, zaF, zal, zaB, zaE, zaz, zaA, zau, zaJ, zaK, zas, zay, go_sem, zaa, zai, zaj, zak, zam, zaf, ↓reduceIte, reduceCtorEq, zab, zad, zan, zao, zap, zaP, zaS, zaG, zaN, renO, bk, back, outUpsFrom, Ints_ren])
 | exact fs_nil trivial rfl
 | fail)
    have c : (i : Int) < (C.length : Int) := by omega
    have q0 := cd_f C i 0 (.sc (.int .i64 0)) hlt (by decide)
    rw [Nat.add_zero] at q0
    have q3 := cd_f C i 3 (.sc (.int .i64 0)) hlt (by decide)
    have q2 := cd_f C i 1 (.sc (.int .i64 0)) hlt (by decide)
    have hd : ((gD C i).p = bp ∨ (R ≠ 0 ∧ -1000 < (gD C i).a ∧ R ∈ ancM l n (gD C i).g)) ↔ (gD C i).p ∈ P := hds _ (getD_mem C i zcd hlt)
    generalize gD C i = x at *
    obtain ⟨xp, xg, xn, xa⟩ := x
    simp only at hd
    have q0 : (Cs C).getD (i * 4) (.sc (.int .i64 0)) = int xp := q0
    have q3 : (Cs C).getD (i * 4 + 3) (.sc (.int .i64 0)) = int xa := q3
    have q2 : (Cs C).getD (i * 4 + 1) (.sc (.int .i64 0)) = int xg := q2
    have k0 := fun k => hPs k xp
    have k1 := bl xg R
    by_cases hp : xp = bp
    · have hin : xp ∈ P := hd.1 (.inl hp)
      simp only [decide_eq_true hin] at k0
      simp only [go_sem, zaa, zai, zaj, zak, zam, zaf, ↓reduceIte, reduceCtorEq, zab, zad, zan, zao, zap, decide_eq_true c, q0, q2, q3, decide_eq_true hp, lendQ]
      repeat' (first
 | with_reducible refine zat ?_ ?_
 | (unfold OKC; kernel_rfl)
 | (unfold EDG; kernel_rfl)
 | (apply cl_plain
    case hs => rfl
    case ha => (simp only [zae, zah, prepV, prepC, idx, hpL', lookR, zaa, if_true, if_false]; rfl)
    case h => (first | exact k0 .. | exact k1 ..))
 | ((first | refine s1_id ?_ | refine swp_id ?_ | refine sops_id ?_ | refine s2_id ?_); simp only [decide_eq_true c, q0, q2, q3, decide_eq_true hp, lendQ, decide_true, beq_self_eq_true, zaZ, zaD, zaF, zal, zaB, zaE, zaz, zaA, zau, zaJ, zaK, zas, zay, go_sem, zaa, zai, zaj, zak, zam, zaf, ↓reduceIte, reduceCtorEq, zab, zad, zan, zao, zap, zaP, zaS, zaG, zaN, renO, bk, back, outUpsFrom, Ints_ren])
 | (intros; omega)
 | (intros; (try simp only [zaw, zaH, zaC, zax, zaq, zar, decide_eq_true_eq, decide_eq_false_iff_not] at *); omega))
      refine le_mk (i + 1) ?_ hlt (by show C.length - (i + 1) < C.length - i; omega)
      (refine imp_ren _ _ _ [(0, 0, ⟨[.gsl (Cs l) 0 l.length none, int n], 2⟩), (1, 1, ⟨[int bp, .gsl (Ints P) 0 P.length none, int R], 3⟩), (2, 2, ⟨[int bp, int bg, int bn, int ba], 4⟩)] (by simp) (by simp) (by simp) (zaI rfl) ?_ rfl (by simp only [zac, zag, false_implies, implies_true, and_true, zaT, lookR, zaa, if_true, if_false, ↓reduceIte] <;> (repeat' apply zat) <;> (first | rfl | trivial)) (by simp only [zac, zag, false_implies, implies_true, and_true, true_and, flat_cons, flat_nil, flat_ints, flat_bools, flat_app, zaO, and_self, eq_self_iff_true, zal]); simp only [zae, zah, zac, zag, false_implies, implies_true, and_true, lk, slot, zaP, zaG, toN, zaa, if_true, if_false, ↓reduceIte, reduceCtorEq])
      all_goals ((repeat' apply zat) <;> (first | rfl | trivial | (simp only [zav]; done) | (simp only [zav]; rfl) | (simp only [zav]; trivial)))
    by_cases ha : -1000 < xa
    case neg =>
      have hin : ¬ xp ∈ P := fun h => by rcases hd.2 h with h | ⟨_, h, _⟩ <;> contradiction
      simp only [decide_eq_false hin] at k0
      simp only [go_sem, zaa, zai, zaj, zak, zam, zaf, ↓reduceIte, reduceCtorEq, zab, zad, zan, zao, zap, decide_eq_true c, q0, q2, q3, decide_eq_false hp, decide_eq_false h0, decide_eq_false ha, lendQ]
      repeat' (first
 | with_reducible refine zat ?_ ?_
 | (unfold OKC; kernel_rfl)
 | (unfold EDG; kernel_rfl)
 | (apply cl_plain
    case hs => rfl
    case ha => (simp only [zae, zah, prepV, prepC, idx, hpL', lookR, zaa, if_true, if_false]; rfl)
    case h => (first | exact k0 .. | exact k1 ..))
 | ((first | refine s1_id ?_ | refine swp_id ?_ | refine sops_id ?_ | refine s2_id ?_); simp only [decide_eq_true c, q0, q2, q3, decide_eq_false hp, decide_eq_false h0, decide_eq_false ha, lendQ, decide_true, beq_self_eq_true, zaZ, zaD, zaF, zal, zaB, zaE, zaz, zaA, zau, zaJ, zaK, zas, zay, go_sem, zaa, zai, zaj, zak, zam, zaf, ↓reduceIte, reduceCtorEq, zab, zad, zan, zao, zap, zaP, zaS, zaG, zaN, renO, bk, back, outUpsFrom, Ints_ren])
 | (intros; omega)
 | (intros; (try simp only [zaw, zaH, zaC, zax, zaq, zar, decide_eq_true_eq, decide_eq_false_iff_not] at *); omega))
      refine le_mk (i + 1) ?_ hlt (by show C.length - (i + 1) < C.length - i; omega)
      (refine imp_ren _ _ _ [(0, 0, ⟨[.gsl (Cs l) 0 l.length none, int n], 2⟩), (1, 1, ⟨[int bp, .gsl (Ints P) 0 P.length none, int R], 3⟩), (2, 2, ⟨[int bp, int bg, int bn, int ba], 4⟩)] (by simp) (by simp) (by simp) (zaI rfl) ?_ rfl (by simp only [zac, zag, false_implies, implies_true, and_true, zaT, lookR, zaa, if_true, if_false, ↓reduceIte] <;> (repeat' apply zat) <;> (first | rfl | trivial)) (by simp only [zac, zag, false_implies, implies_true, and_true, true_and, flat_cons, flat_nil, flat_ints, flat_bools, flat_app, zaO, and_self, eq_self_iff_true, zal]); simp only [zae, zah, zac, zag, false_implies, implies_true, and_true, lk, slot, zaP, zaG, toN, zaa, if_true, if_false, ↓reduceIte, reduceCtorEq])
      all_goals ((repeat' apply zat) <;> (first | rfl | trivial | (simp only [zav]; done) | (simp only [zav]; rfl) | (simp only [zav]; trivial)))
    by_cases hu : R ∈ ancM l n xg
    case neg =>
      have hin : ¬ xp ∈ P := fun h => by rcases hd.2 h with h | ⟨_, _, h⟩ <;> contradiction
      simp only [decide_eq_false hin] at k0
      rw [decide_eq_false hu] at k1
      simp only [go_sem, zaa, zai, zaj, zak, zam, zaf, ↓reduceIte, reduceCtorEq, zab, zad, zan, zao, zap, decide_eq_true c, q0, q2, q3, decide_eq_false hp, decide_eq_false h0, decide_eq_true ha, lendQ]
      repeat' (first
 | with_reducible refine zat ?_ ?_
 | (unfold OKC; kernel_rfl)
 | (unfold EDG; kernel_rfl)
 | (apply cg_tp
    case hl => rfl
    case ha => (simp only [zae, zah, prepV, prepC, idx, hpL', lookR, zaa, if_true, if_false]; rfl)
    case hs => rfl
    case h => (first | exact k0 .. | exact k1 ..))
 | (apply cl_plain
    case hs => rfl
    case ha => (simp only [zae, zah, prepV, prepC, idx, hpL', lookR, zaa, if_true, if_false]; rfl)
    case h => (first | exact k0 .. | exact k1 ..))
 | ((first | refine s1_id ?_ | refine swp_id ?_ | refine sops_id ?_ | refine s2_id ?_); simp only [decide_eq_true c, q0, q2, q3, decide_eq_false hp, decide_eq_false h0, decide_eq_true ha, lendQ, decide_true, beq_self_eq_true, zaZ, zaD, zaF, zal, zaB, zaE, zaz, zaA, zau, zaJ, zaK, zas, zay, go_sem, zaa, zai, zaj, zak, zam, zaf, ↓reduceIte, reduceCtorEq, zab, zad, zan, zao, zap, zaP, zaS, zaG, zaN, renO, bk, back, outUpsFrom, Ints_ren])
 | (intros; omega)
 | (intros; (try simp only [zaw, zaH, zaC, zax, zaq, zar, decide_eq_true_eq, decide_eq_false_iff_not] at *); omega))
      refine le_mk (i + 1) ?_ hlt (by show C.length - (i + 1) < C.length - i; omega)
      (refine imp_ren _ _ _ [(0, 0, ⟨[.gsl (Cs l) 0 l.length none, int n], 2⟩), (1, 1, ⟨[int bp, .gsl (Ints P) 0 P.length none, int R], 3⟩), (2, 2, ⟨[int bp, int bg, int bn, int ba], 4⟩)] (by simp) (by simp) (by simp) (zaI rfl) ?_ rfl (by simp only [zac, zag, false_implies, implies_true, and_true, zaT, lookR, zaa, if_true, if_false, ↓reduceIte] <;> (repeat' apply zat) <;> (first | rfl | trivial)) (by simp only [zac, zag, false_implies, implies_true, and_true, true_and, flat_cons, flat_nil, flat_ints, flat_bools, flat_app, zaO, and_self, eq_self_iff_true, zal]); simp only [zae, zah, zac, zag, false_implies, implies_true, and_true, lk, slot, zaP, zaG, toN, zaa, if_true, if_false, ↓reduceIte, reduceCtorEq])
      all_goals ((repeat' apply zat) <;> (first | rfl | trivial | (simp only [zav]; done) | (simp only [zav]; rfl) | (simp only [zav]; trivial)))
    have hin : xp ∈ P := hd.1 (.inr ⟨h0, ha, hu⟩)
    simp only [decide_eq_true hin] at k0
    rw [decide_eq_true hu] at k1
    simp only [go_sem, zaa, zai, zaj, zak, zam, zaf, ↓reduceIte, reduceCtorEq, zab, zad, zan, zao, zap, decide_eq_true c, q0, q2, q3, decide_eq_false hp, decide_eq_false h0, decide_eq_true ha, lendQ]
    repeat' (first
 | with_reducible refine zat ?_ ?_
 | (unfold OKC; kernel_rfl)
 | (unfold EDG; kernel_rfl)
 | (apply cg_tp
    case hl => rfl
    case ha => (simp only [zae, zah, prepV, prepC, idx, hpL', lookR, zaa, if_true, if_false]; rfl)
    case hs => rfl
    case h => (first | exact k0 .. | exact k1 ..))
 | (apply cl_plain
    case hs => rfl
    case ha => (simp only [zae, zah, prepV, prepC, idx, hpL', lookR, zaa, if_true, if_false]; rfl)
    case h => (first | exact k0 .. | exact k1 ..))
 | ((first | refine s1_id ?_ | refine swp_id ?_ | refine sops_id ?_ | refine s2_id ?_); simp only [decide_eq_true c, q0, q2, q3, decide_eq_false hp, decide_eq_false h0, decide_eq_true ha, lendQ, decide_true, beq_self_eq_true, zaZ, zaD, zaF, zal, zaB, zaE, zaz, zaA, zau, zaJ, zaK, zas, zay, go_sem, zaa, zai, zaj, zak, zam, zaf, ↓reduceIte, reduceCtorEq, zab, zad, zan, zao, zap, zaP, zaS, zaG, zaN, renO, bk, back, outUpsFrom, Ints_ren])
 | (intros; omega)
 | (intros; (try simp only [zaw, zaH, zaC, zax, zaq, zar, decide_eq_true_eq, decide_eq_false_iff_not] at *); omega))
    refine le_mk (i + 1) ?_ hlt (by show C.length - (i + 1) < C.length - i; omega)
    (refine imp_ren _ _ _ [(0, 0, ⟨[.gsl (Cs l) 0 l.length none, int n], 2⟩), (1, 1, ⟨[int bp, .gsl (Ints P) 0 P.length none, int R], 3⟩), (2, 2, ⟨[int bp, int bg, int bn, int ba], 4⟩)] (by simp) (by simp) (by simp) (zaI rfl) ?_ rfl (by simp only [zac, zag, false_implies, implies_true, and_true, zaT, lookR, zaa, if_true, if_false, ↓reduceIte] <;> (repeat' apply zat) <;> (first | rfl | trivial)) (by simp only [zac, zag, false_implies, implies_true, and_true, true_and, flat_cons, flat_nil, flat_ints, flat_bools, flat_app, zaO, and_self, eq_self_iff_true, zal]); simp only [zae, zah, zac, zag, false_implies, implies_true, and_true, lk, slot, zaP, zaG, toN, zaa, if_true, if_false, ↓reduceIte, reduceCtorEq])
    all_goals ((repeat' apply zat) <;> (first | rfl | trivial | (simp only [zav]; done) | (simp only [zav]; rfl) | (simp only [zav]; trivial)))
theorem together_main (g0 : List Cell) (s0 : GTy Try.prog 12 22 g0) : FnSpec Try.prog 5 [svOf Try.prog 22 g0] [] (b1 true) [] := by
  obtain ⟨l, rfl, hl, hr⟩ := gty_ints (n := 10) Try.underlying22 Try.underlying3 s0
  simp only [svOf, Try.underlying22, List.headD_cons]
  exact together_spec l hr
end Go.Proofs.Ytlajelbiniakpaa
