/- Contracts of functions, told of values, on the way to KillExact (part 8). -/
import Derived.Test.YtlajelbiniakpaaKillExactM3
import Derived.Test.YtlajelbiniakpaaKillExactM7
-- short names of the library's lemmas
open Nat renaming reduceEqDiff → zaa, reduceLeDiff → zae, reduceAdd → zah, reduceSub → zai, reduceMul → zaj, reduceLT → zam, le_of_ble_eq_true → zaD, lt_or_ge → zaT, zero_le → zaV, add_zero → zbi
open List renaming reduceReplicate → zab, forall_mem_cons → zac, not_mem_nil → zaf, map_cons → zag, map_nil → zak, append_nil → zal, length_cons → zar, take_succ_cons → zas, set_cons_zero → zat, set_cons_succ → zau, length_nil → zav, flatten_cons → zax, cons_append → zaz, nil_append → zaB, flatten_nil → zaC, take_zero → zaH, take_nil → zaJ, mem_cons_of_mem → zaP, mem_cons_self → zaQ, filter_cons → zaS, getD_cons_zero → zaW, getD_cons_succ → zaX, drop_of_length_le → zaY, filter_nil → zbc, take_of_length_le → zbg, flatMap_cons → zbh, flatMap_nil → zbj
open Int renaming cast_ofNat_Int → zad, reduceEq → zan, reduceLT → zao, reduceLE → zap, natCast_add → zaq
open Option renaming getD_some → zba, getD_none → zbb, isNone_none → zbd, isNone_some → zbe
open Bool renaming and_eq_false_iff → zaw, or_eq_false_iff → zaA, not_eq_false' → zaE, not_eq_true' → zaF, and_eq_true → zaG, or_eq_true → zaK, false_and → zaU, true_and → zaZ, false_eq_true → zbf, not_true → zbk
open And renaming intro → zay
open Go.Proofs.Ytlajelbiniakpaa.Sh.Cell renaming ren → zaI, refs → zaL
open Go.Proofs.Ytlajelbiniakpaa.Sh.SV renaming ren → zaM, renL → zaO
open Go.Proofs.Ytlajelbiniakpaa.Sh.Row renaming ren → zaN
open Go.Proofs.Ytlajelbiniakpaa.Sh.St renaming hpF → zaR
-- NEWGO
-- PRUNE: cl_lendx cl_use
-- ISG: Cs_isG
-- FLAT: Cs_flat
namespace Go.Proofs.Ytlajelbiniakpaa
set_option linter.unusedVariables false
set_option linter.unusedSimpArgs false
open Go.Proofs.Ytlajelbiniakpaa.Sh
set_option maxRecDepth 20000
theorem decide_spec (l : List Nd) (n : Int) (C : List Cd) (k : Option Nat) (G : List Int) (kg : Option Nat) (at' t : Int) (hl : l.length ≤ 1000000) (hC : C.length ≤ 1000000) (hG : G.length ≤ 9223372036854775807) (hnm : NmR l) (hct : CtR l) : FnSpec Try.prog 21 [trV l none n, gr C k, gi G kg, i1 at', i1 t] [] (.tup [.agg [int (deM l n C G at' t).1.1, .gsl (Ints (deM l n C G at' t).1.2.1) 0 (deM l n C G at' t).1.2.1.length none, int (deM l n C G at' t).1.2.2], i1 (deM l n C G at' t).2]) [] := by
  have h := (decide_own l n C k G kg at' t hl hC hG hnm hct).frz1 (Ints_isG _)
  simpa only [SV.frz, SV.frzL, Cell.frz, zag, zak, if_true] using h
theorem anc_up {l : List Nd} {n : Int} (h : VT l n) {i : Nat} (hi : i < l.length) : ancM l n (gN l i).i = upL l (gN l i).i := by
  unfold ancM
  rw [if_pos (hasM_iff.2 ⟨(chkT_iff l n).2 h, gN l i, getD_mem l i zn hi, rfl⟩)]
theorem anc_le {l : List Nd} {n : Int} (h : VT l n) {i : Nat} (hi : i < l.length) {b : Int} (hb : b ∈ ancM l n (gN l i).i) : b ≤ (gN l i).i ∧ ∃ t, t < l.length ∧ (gN l t).i = b := by
  rw [anc_up h hi] at hb
  obtain ⟨t, ht, e⟩ := up_le h i hi b hb
  refine ⟨?_, t, by omega, e⟩
  rcases zaT t i with c | c
  · have := h.asc t i c hi; omega
  · have : t = i := by omega
    subst this; omega
theorem anc_self {l : List Nd} {n : Int} (h : VT l n) {i : Nat} (hi : i < l.length) : (gN l i).i ∈ ancM l n (gN l i).i := by
  rw [anc_up h hi, upL_node h.asc hi]; exact zaQ
theorem anc_two {l : List Nd} {n : Int} (h : VT l n) {i : Nat} (hi : i < l.length) {a b : Int} (ha : a ∈ ancM l n (gN l i).i) (hb : b ∈ ancM l n (gN l i).i) (hle : b ≤ a) : b ∈ ancM l n a := by
  obtain ⟨_, c, hc, ec⟩ := anc_le h hi ha
  obtain ⟨_, y, hy, ey⟩ := anc_le h hi hb
  rw [anc_up h hi] at ha hb
  subst ec; subst ey
  rcases zaT y c with hyc | hyc
  · rw [anc_up h hc]
    have hc0 : c ≠ 0 := by omega
    rw [h.up hc hc0]
    exact zaP _ (up_low h i hi c y hc hy ha hb hyc)
  · rcases zaT c y with h2 | h2
    · have := h.asc c y h2 hy; omega
    · have : c = y := by omega
      subst this
      exact anc_self h hc
theorem up_desc {l : List Nd} {n : Int} (h : VT l n) : ∀ i, i < l.length → (upL l (gN l i).i).Pairwise (fun a b => b < a) := fun i => by
  induction i using Nat.strongRecOn with
  | _ i ih =>
    intro hi
    by_cases h0 : i = 0
    · subst h0
      rw [h.root.1, h.up0]; exact List.pairwise_singleton _ _
    · obtain ⟨j, hj, hp⟩ := (h.ch hi h0).par
      rw [h.up hi h0, ← hp]
      refine List.pairwise_cons.2 ⟨fun b hb => ?_, ih j hj (by omega)⟩
      have h1 := anc_le h (show j < l.length by omega) (by rw [anc_up h (by omega)]; exact hb)
      have := h.asc j i hj hi
      omega
theorem gpF_prop (G : List Int) (at' : Int) : ∀ (U : List Int) (acc : Int), U.Pairwise (fun a b => b < a) → at' ∈ U → ((∀ u ∈ U, u ∈ G → u < at') ∧ gpF G at' U acc = acc) ∨ (gpF G at' U acc ∈ U ∧ at' ≤ gpF G at' U acc ∧ gpF G at' U acc ∈ G ∧ ∀ u ∈ U, u ∈ G → at' ≤ u → gpF G at' U acc ≤ u)
  | [], _, _, h => by cases h
  | a :: r, acc, hp, hm => by
    have hpa := List.pairwise_cons.1 hp
    rw [gpF]
    by_cases c : a = at'
    · rw [if_pos c]
      have hr : ∀ u ∈ r, u < at' := fun u hu => by rw [← c]; exact hpa.1 u hu
      by_cases hG : a ∈ G
      · right
        rw [if_pos hG]
        refine ⟨zaQ, by omega, hG, fun u hu _ hau => ?_⟩
        rcases List.mem_cons.1 hu with rfl | hu
        · omega
        · have := hr u hu; omega
      · left
        rw [if_neg hG]
        refine ⟨fun u hu huG => ?_, rfl⟩
        rcases List.mem_cons.1 hu with rfl | hu
        · exact absurd huG hG
        · exact hr u hu
    · rw [if_neg c]
      have hm' : at' ∈ r := (List.mem_cons.1 hm).resolve_left (fun e => c e.symm)
      have hlt : at' < a := hpa.1 at' hm'
      rcases gpF_prop G at' r (if a ∈ G then a else acc) hpa.2 hm' with ⟨h1, h2⟩ | ⟨h1, h2, h3, h4⟩
      · by_cases hG : a ∈ G
        · right
          rw [if_pos hG] at h2 ⊢
          rw [h2]
          refine ⟨zaQ, by omega, hG, fun u hu huG hau => ?_⟩
          rcases List.mem_cons.1 hu with rfl | hu
          · omega
          · have := h1 u hu huG; omega
        · left
          rw [if_neg hG] at h2 ⊢
          refine ⟨fun u hu huG => ?_, h2⟩
          rcases List.mem_cons.1 hu with rfl | hu
          · exact absurd huG hG
          · exact h1 u hu huG
      · right
        refine ⟨zaP _ h1, h2, h3, fun u hu huG hau => ?_⟩
        rcases List.mem_cons.1 hu with rfl | hu
        · have := hpa.1 _ h1; omega
        · exact h4 u hu huG hau
structure DeP (l : List Nd) (n : Int) (C : List Cd) (G : List Int) (at' : Int) (M : Cd) (P : List Int) (R : Int) : Prop where
  mem : M ∈ C
  hi : ∀ s, s < l.length → (gN l s).i ∈ G → (gN l s).i ∈ ancM l n M.g → at' ∈ ancM l n (gN l s).i → R ≠ 0 ∧ R ∈ ancM l n (gN l s).i
  gr : R ≠ 0 → R ∈ G ∧ at' ∈ ancM l n R ∧ R ∈ ancM l n M.g
  ds : ∀ x ∈ C, (x.p = M.p ∨ (R ≠ 0 ∧ -1000 < x.a ∧ R ∈ ancM l n x.g)) ↔ x.p ∈ P
  fr : M.n ≤ frM P C
  len : P.length ≤ C.length + 1
theorem frM_app (P : List Int) (s : Int) : ∀ (C : List Cd), (∀ x ∈ C, 0 ≤ x.n) → s ≤ C.foldl (fun s x => if x.p ∈ P then s + x.n else s) s
  | [], _ => Int.le_refl _
  | x :: r, h => by
    rw [List.foldl_cons]
    have h1 := h x zaQ
    split
    · have := frM_app P (s + x.n) r (fun y hy => h y (zaP _ hy)); omega
    · exact frM_app P s r (fun y hy => h y (zaP _ hy))
theorem frM_ge (P : List Int) {M : Cd} (hP : M.p ∈ P) : ∀ (C : List Cd) (s : Int), 0 ≤ s → M ∈ C → (∀ x ∈ C, 0 ≤ x.n) → M.n ≤ C.foldl (fun s x => if x.p ∈ P then s + x.n else s) s
  | [], _, _, h, _ => by cases h
  | x :: r, s, hs, h, hn => by
    rw [List.foldl_cons]
    have hr : ∀ y ∈ r, 0 ≤ y.n := fun y hy => hn y (zaP _ hy)
    rcases List.mem_cons.1 h with rfl | h
    · rw [if_pos hP]
      have := frM_app P (s + M.n) r hr; omega
    · have hx := hn x zaQ
      split
      · exact frM_ge P hP r _ (by omega) h hr
      · exact frM_ge P hP r s hs h hr
theorem de_prop {l : List Nd} {n : Int} {C : List Cd} (hv : vaM l n C = true) (G : List Int) {s : Nat} (hs : s < l.length) {t : Int} {M : Cd} (hP : ViP l n C (gN l s).i t M) : DeP l n C G (gN l s).i M (prM l n C (grM l n G (gN l s).i M) M.p) (grM l n G (gN l s).i M) := by
  obtain ⟨hV, _, hall⟩ := vaM_all hv
  obtain ⟨i, hi, ei⟩ := bsF_node hV (hall M hP.mem).2.1
  have hanc := hP.anc
  have hcase := gpF_prop G (gN l s).i (ancM l n M.g) 0 (by rw [← ei, anc_up hV hi]; exact up_desc hV i hi) hanc
  have hR : gpF G (gN l s).i (ancM l n M.g) 0 = grM l n G (gN l s).i M := rfl
  rw [hR] at hcase
  generalize grM l n G (gN l s).i M = R at *
  have hpos : ∀ {b : Int}, b ∈ ancM l n M.g → b ≠ 0 := fun hb e => by
    rw [← ei] at hb
    obtain ⟨_, t, ht, et⟩ := anc_le hV hi hb
    have := hV.pos ht
    omega
  have hgr : R ≠ 0 → R ∈ G ∧ (gN l s).i ∈ ancM l n R ∧ R ∈ ancM l n M.g := fun h0 => by
    rcases hcase with ⟨_, h⟩ | ⟨h1, h2, h3, _⟩
    · exact absurd h h0
    · refine ⟨h3, ?_, h1⟩
      rw [← ei] at h1 hanc
      exact anc_two hV hi h1 hanc h2
  have hMP : M.p ∈ prM l n C R M.p ∧ ∀ x ∈ C, (x.p = M.p ∨ (R ≠ 0 ∧ -1000 < x.a ∧ R ∈ ancM l n x.g)) ↔ x.p ∈ prM l n C R M.p := by
    unfold prM
    by_cases h0 : R = 0
    · rw [if_pos h0]
      refine ⟨List.mem_singleton.2 rfl, fun x _ => ⟨fun h => ?_, fun h => .inl (List.mem_singleton.1 h)⟩⟩
      rcases h with h | h
      · exact List.mem_singleton.2 h
      · exact absurd h0 h.1
    · rw [if_neg h0]
      obtain ⟨_, _, hRM⟩ := hgr h0
      obtain ⟨r, hr, er⟩ : ∃ r, r < l.length ∧ (gN l r).i = R := by
        rw [← ei] at hRM
        exact (anc_le hV hi hRM).2
      have hwi := fun x => wi_iff hv hr x
      rw [er] at hwi
      have hMw : M ∈ wiM l n C R := (hwi M).2 ⟨hP.mem, hRM, hP.sp⟩
      refine ⟨List.mem_map_of_mem hMw, fun x hx => ⟨fun h => ?_, fun h => ?_⟩⟩
      · rcases h with h | ⟨_, h1, h2⟩
        · rw [h]; exact List.mem_map_of_mem hMw
        · exact List.mem_map_of_mem ((hwi x).2 ⟨hx, h2, by omega⟩)
      · obtain ⟨y, hy, ey⟩ := List.mem_map.1 h
        have hyx : y = x := asc_inj (vaM_asc hv) ((hwi y).1 hy).1 hx ey
        subst hyx
        obtain ⟨_, h2, h3⟩ := (hwi y).1 hy
        have := (cdk_iff.1 (hall y hx).1).2
        exact .inr ⟨h0, by omega, h2⟩
  refine ⟨hP.mem, fun u hu huG huM hau => ?_, hgr, hMP.2, ?_, ?_⟩
  · have hle := (anc_le hV hu hau).1
    rcases hcase with ⟨h, _⟩ | ⟨h1, h2, h3, h4⟩
    · have := h _ huM huG; omega
    · refine ⟨hpos h1, ?_⟩
      have h5 := h4 _ huM huG hle
      rw [← ei] at h1 huM
      exact anc_two hV hi huM h1 h5
  · exact frM_ge _ hMP.1 C 0 (Int.le_refl 0) hP.mem (fun x hx => (cdk_iff.1 (hall x hx).1).1.1)
  · unfold prM
    split
    · simp
    · rw [List.length_map]
      have : (wiM l n C R).length ≤ C.length := List.length_filter_le _ _
      omega
end Go.Proofs.Ytlajelbiniakpaa
-- NEWGO
-- PRUNE: cl_lendx cl_use
-- ISG: Cs_isG
-- FLAT: Cs_flat
namespace Go.Proofs.Ytlajelbiniakpaa
set_option linter.unusedVariables false
set_option linter.unusedSimpArgs false
open Go.Proofs.Ytlajelbiniakpaa.Sh
set_option maxRecDepth 20000
end Go.Proofs.Ytlajelbiniakpaa
-- NEWGO
-- PRUNE: cl_lendx
-- ISG: Cs_isG
-- FLAT: Cs_flat
namespace Go.Proofs.Ytlajelbiniakpaa
set_option linter.unusedVariables false
set_option linter.unusedSimpArgs false
open Go.Proofs.Ytlajelbiniakpaa.Sh
set_option maxRecDepth 20000
end Go.Proofs.Ytlajelbiniakpaa
-- NEWGO
-- PRUNE: cl_lendx cl_use
-- ISG: Cs_isG
-- FLAT: Cs_flat
namespace Go.Proofs.Ytlajelbiniakpaa
set_option linter.unusedVariables false
set_option linter.unusedSimpArgs false
open Go.Proofs.Ytlajelbiniakpaa.Sh
set_option maxRecDepth 20000
theorem has_bs {l : List Nd} {n : Int} (h : chkT l n = true) (id : Int) : hasM l n id = bsF Nd.i l id := by
  have hV := (chkT_iff l n).1 h
  cases hb : bsF Nd.i l id with
  | true =>
    obtain ⟨s, hs, e⟩ := bsF_node hV hb
    exact hasM_iff.2 ⟨h, gN l s, getD_mem l s zn hs, e⟩
  | false =>
    refine Bool.eq_false_iff.2 (fun e => ?_)
    obtain ⟨_, y, hy, ey⟩ := hasM_iff.1 e
    obtain ⟨s, hs, es⟩ := List.getElem_of_mem hy
    have := bsF_of hV (t := s) hs
    rw [show gN l s = y from by rw [← es]; show l.getD s zn = _; rw [List.getD_eq_getElem?_getD, List.getElem?_eq_getElem hs]; rfl, ey] at this
    rw [this] at hb
    cases hb
set_option maxHeartbeats 8000000 in
theorem rvalid29_spec (l : List Nd) (n : Int) (C : List Cd) (k : Option Nat) (hl : l.length ≤ 1000000) (hC : C.length ≤ 9223372036854775806) (hnm : NmR l) : FnSpec Try.prog 33 [trV l none n, gr C k] [] (b1 (vaM l n C)) [] := by
  have h1 := trcheck_spec l none n hl hnm
  have hcl := cd_len C
  unfold vaM
  cases hc : chkT l n with
  | false =>
    rw [hc] at h1
    rw [zaU]
    refine fnspec_of mixed TT_ok TT_cl ⟨fun _ => false, fun _ => [], 0, fun _ => false, fun _ => false⟩ Try.func33 rfl (by kernel_rfl) rfl 62 rfl [.tmp 4] rfl ?_
    simp only [go_sem, zaa, zah, zai, zaj, zam, zae, ↓reduceIte, reduceCtorEq, zab, zad, zan, zao, zap]
    repeat' (first
 | (apply cl_plain
    case hs => rfl
    case ha => (simp only [zag, zak, prepV, prepC, idx, hpL', lookR, zaa, if_true, if_false]; rfl)
    case h => (first | exact h1 ..))
 | ((first | refine s1_id ?_ | refine swp_id ?_ | refine sops_id ?_ | refine s2_id ?_); simp only [zax, zaC, zal, zaz, zaB, zat, zau, zas, zaH, zaJ, zar, zav, go_sem, zaa, zah, zai, zaj, zam, zae, ↓reduceIte, reduceCtorEq, zab, zad, zan, zao, zap, zaM, zaO, zaI, zaN, renO, bk, back, outUpsFrom, Ints_ren])
 | exact fs_nil trivial rfl
 | fail)
  | true =>
  rw [hc] at h1
  rw [zaZ]
  by_cases c128 : 128 < (C.length : Int)
  · rw [decide_eq_false (by omega : ¬ C.length ≤ 128), zaU]
    refine fnspec_of mixed TT_ok TT_cl ⟨fun _ => false, fun _ => [], 0, fun _ => false, fun _ => false⟩ Try.func33 rfl (by kernel_rfl) rfl 62 rfl [.tmp 4] rfl ?_
    simp only [go_sem, zaa, zah, zai, zaj, zam, zae, ↓reduceIte, reduceCtorEq, zab, zad, zan, zao, zap, decide_eq_true c128]
    repeat' (first
 | (apply cl_plain
    case hs => rfl
    case ha => (simp only [zag, zak, prepV, prepC, idx, hpL', lookR, zaa, if_true, if_false]; rfl)
    case h => (first | exact h1 ..))
 | ((first | refine s1_id ?_ | refine swp_id ?_ | refine sops_id ?_ | refine s2_id ?_); simp only [decide_eq_true c128, zax, zaC, zal, zaz, zaB, zat, zau, zas, zaH, zaJ, zar, zav, go_sem, zaa, zah, zai, zaj, zam, zae, ↓reduceIte, reduceCtorEq, zab, zad, zan, zao, zap, zaM, zaO, zaI, zaN, renO, bk, back, outUpsFrom, Ints_ren])
 | exact fs_nil trivial rfl
 | fail)
  rw [decide_eq_true (by omega : C.length ≤ 128), zaZ]
  obtain ⟨B, hB⟩ : ∃ B, vaF l C 0 = B := ⟨_, rfl⟩
  rw [hB]
  refine fnspec_of mixed TT_ok TT_cl ⟨fun _ => false, fun _ => [], 0, fun _ => false, fun _ => false⟩ Try.func33 rfl (by kernel_rfl) rfl 62 rfl [.tmp 4] rfl ?_
  simp only [go_sem, zaa, zah, zai, zaj, zam, zae, ↓reduceIte, reduceCtorEq, zab, zad, zan, zao, zap, decide_eq_false c128]
  repeat' (first
 | (apply cl_plain
    case hs => rfl
    case ha => (simp only [zag, zak, prepV, prepC, idx, hpL', lookR, zaa, if_true, if_false]; rfl)
    case h => (first | exact h1 ..))
 | ((first | refine s1_id ?_ | refine swp_id ?_ | refine sops_id ?_ | refine s2_id ?_); simp only [decide_eq_false c128, zax, zaC, zal, zaz, zaB, zat, zau, zas, zaH, zaJ, zar, zav, go_sem, zaa, zah, zai, zaj, zam, zae, ↓reduceIte, reduceCtorEq, zab, zad, zan, zao, zap, zaM, zaO, zaI, zaN, renO, bk, back, outUpsFrom, Ints_ren])
 | (intros; (try simp only [zaG, zaK, zaF, zaE, zaw, zaA, decide_eq_true_eq, decide_eq_false_iff_not] at *); omega))
  refine w_loop (ι := Nat × Int) (fun s => ⟨[(1, gr C k), (2, .one (.optr 0 0)), (5, i1 s.1)], [(0, some ⟨[.gsl (Cs l) 0 l.length none, int n], 2⟩)], 1⟩) (fun s => s.1 ≤ C.length ∧ (s.1 = 0 → s.2 = 0) ∧ (s.1 ≠ 0 → s.2 = (gD C (s.1 - 1)).p ∧ 1 ≤ s.2) ∧ vaF l (C.drop s.1) s.2 = B) (fun s => C.length - s.1) (0, 0) ?_ ⟨zaV _, fun _ => rfl, fun h => absurd rfl h, hB⟩ ?_
  · (refine imp_ren _ _ _ [(0, 0, ⟨[.gsl (Cs l) 0 l.length none, int n], 2⟩)] (by simp) (by simp) (by simp) (zaD rfl) ?_ rfl (by simp only [zac, zaf, false_implies, implies_true, and_true, zaR, lookR, zaa, if_true, if_false, ↓reduceIte] <;> (repeat' apply zay) <;> (first | rfl | trivial)) (by simp only [zac, zaf, false_implies, implies_true, and_true, true_and, flat_cons, flat_nil, flat_ints, flat_bools, flat_app, zaL, and_self, eq_self_iff_true, zal]); simp only [zag, zak, zac, zaf, false_implies, implies_true, and_true, lk, slot, zaM, zaI, toN, zaa, if_true, if_false, ↓reduceIte, reduceCtorEq])
    all_goals ((repeat' apply zay) <;> (first | rfl | trivial))
  clear h1 hB
  rintro ⟨m, last⟩ ⟨hm, hz, hnz, hI⟩
  simp only at hm hz hnz hI ⊢
  rcases zaT m C.length with hlt | hge
  case inr =>
    have c : ¬ (m : Int) < (C.length : Int) := by omega
    rw [zaY hge, vaF] at hI
    rw [← hI]
    simp only [go_sem, zaa, zah, zai, zaj, zam, zae, ↓reduceIte, reduceCtorEq, zab, zad, zan, zao, zap, decide_eq_false c]
    repeat' (first
 | exact fs_nil trivial rfl
 | fail)
  have c : (m : Int) < (C.length : Int) := by omega
  have hat := cd_td C m hlt
  have q0 := cd_f C m 0 (.sc (.int .i64 0)) hlt (by decide)
  rw [zbi] at q0
  have q1 := cd_f C m 1 (.sc (.int .i64 0)) hlt (by decide)
  rw [drop_getD C m zcd hlt, vaF] at hI
  have k1 := rhas_spec l none n (gD C m).g hl hnm
  rw [has_bs hc] at k1
  have k2 := sound_spec (gD C m)
  have hI : (decide (last < (gD C m).p) && (bsF Nd.i l (gD C m).g && (cdk (gD C m) && vaF l (C.drop (m + 1)) (gD C m).p))) = B := hI
  have hgx : gD C (m + 1 - 1) = gD C m := rfl
  generalize cdk (gD C m) = ck at *
  generalize bsF Nd.i l (gD C m).g = bk at *
  generalize gD C m = x at *
  obtain ⟨p, g, n', a⟩ := x
  simp only [cdc] at hat k1 k2 hI
  have q0 : (Cs C).getD (m * 4) (.sc (.int .i64 0)) = int p := q0
  have q1 : (Cs C).getD (m * 4 + 1) (.sc (.int .i64 0)) = int g := q1
  by_cases cp : p < 1
  · have hl0 : ¬ last < p := by
      by_cases h0 : m = 0
      · have := hz h0; omega
      · have := (hnz h0).2; omega
    rw [decide_eq_false hl0, zaU] at hI
    rw [← hI]
    simp only [go_sem, zaa, zah, zai, zaj, zam, zae, ↓reduceIte, reduceCtorEq, zab, zad, zan, zao, zap, decide_eq_true c, q0, decide_eq_true cp]
    repeat' (first
 | with_reducible refine zay ?_ ?_
 | (unfold OKC; kernel_rfl)
 | (unfold EDG; kernel_rfl)
 | (intros; omega)
 | exact fs_nil trivial rfl
 | fail)
  rcases Nat.eq_zero_or_pos m with h0 | hpos
  · have hl0 := hz h0
    subst hl0
    have c0 : ¬ (0 : Int) < (m : Int) := by omega
    rw [decide_eq_true (by omega : 0 < p), zaZ] at hI
    cases bk with
    | false =>
      rw [zaU] at hI
      rw [← hI]
      simp only [go_sem, zaa, zah, zai, zaj, zam, zae, ↓reduceIte, reduceCtorEq, zab, zad, zan, zao, zap, decide_eq_true c, decide_eq_false c0, q0, q1, hat, decide_eq_false cp]
      repeat' (first
 | with_reducible refine zay ?_ ?_
 | (unfold OKC; kernel_rfl)
 | (unfold EDG; kernel_rfl)
 | (apply cg_tp
    case hl => rfl
    case ha => (simp only [zag, zak, prepV, prepC, idx, hpL', lookR, zaa, if_true, if_false]; rfl)
    case hs => rfl
    case h => (first | exact k1 ..))
 | ((first | refine s1_id ?_ | refine swp_id ?_ | refine sops_id ?_ | refine s2_id ?_); simp only [decide_eq_true c, decide_eq_false c0, q0, q1, hat, decide_eq_false cp, zax, zaC, zal, zaz, zaB, zat, zau, zas, zaH, zaJ, zar, zav, go_sem, zaa, zah, zai, zaj, zam, zae, ↓reduceIte, reduceCtorEq, zab, zad, zan, zao, zap, zaM, zaO, zaI, zaN, renO, bk, back, outUpsFrom, Ints_ren])
 | (intros; omega)
 | exact fs_nil trivial rfl
 | fail)
    | true =>
    rw [zaZ] at hI
    cases ck with
    | false =>
      rw [zaU] at hI
      rw [← hI]
      simp only [go_sem, zaa, zah, zai, zaj, zam, zae, ↓reduceIte, reduceCtorEq, zab, zad, zan, zao, zap, decide_eq_true c, decide_eq_false c0, q0, q1, hat, decide_eq_false cp]
      repeat' (first
 | with_reducible refine zay ?_ ?_
 | (unfold OKC; kernel_rfl)
 | (unfold EDG; kernel_rfl)
 | (apply cg_tp
    case hl => rfl
    case ha => (simp only [zag, zak, prepV, prepC, idx, hpL', lookR, zaa, if_true, if_false]; rfl)
    case hs => rfl
    case h => (first | exact k1 .. | exact k2 ..))
 | ((first | refine s1_id ?_ | refine swp_id ?_ | refine sops_id ?_ | refine s2_id ?_); simp only [decide_eq_true c, decide_eq_false c0, q0, q1, hat, decide_eq_false cp, zax, zaC, zal, zaz, zaB, zat, zau, zas, zaH, zaJ, zar, zav, go_sem, zaa, zah, zai, zaj, zam, zae, ↓reduceIte, reduceCtorEq, zab, zad, zan, zao, zap, zaM, zaO, zaI, zaN, renO, bk, back, outUpsFrom, Ints_ren])
 | (intros; omega)
 | exact fs_nil trivial rfl
 | fail)
    | true =>
    rw [zaZ] at hI
    simp only [go_sem, zaa, zah, zai, zaj, zam, zae, ↓reduceIte, reduceCtorEq, zab, zad, zan, zao, zap, decide_eq_true c, decide_eq_false c0, q0, q1, hat, decide_eq_false cp]
    repeat' (first
 | with_reducible refine zay ?_ ?_
 | (unfold OKC; kernel_rfl)
 | (unfold EDG; kernel_rfl)
 | (apply cg_tp
    case hl => rfl
    case ha => (simp only [zag, zak, prepV, prepC, idx, hpL', lookR, zaa, if_true, if_false]; rfl)
    case hs => rfl
    case h => (first | exact k1 .. | exact k2 ..))
 | ((first | refine s1_id ?_ | refine swp_id ?_ | refine sops_id ?_ | refine s2_id ?_); simp only [decide_eq_true c, decide_eq_false c0, q0, q1, hat, decide_eq_false cp, zax, zaC, zal, zaz, zaB, zat, zau, zas, zaH, zaJ, zar, zav, go_sem, zaa, zah, zai, zaj, zam, zae, ↓reduceIte, reduceCtorEq, zab, zad, zan, zao, zap, zaM, zaO, zaI, zaN, renO, bk, back, outUpsFrom, Ints_ren])
 | (intros; omega)
 | (intros; (try simp only [zaG, zaK, zaF, zaE, zaw, zaA, decide_eq_true_eq, decide_eq_false_iff_not] at *); omega))
    refine le_mk (m + 1, p) ?_ ⟨hlt, fun h => absurd h (Nat.succ_ne_zero _), fun _ => ⟨by simp only [hgx], by show 1 ≤ p; omega⟩, hI⟩ (by show C.length - (m + 1) < C.length - (m); omega)
    (refine imp_ren _ _ _ [(0, 0, ⟨[.gsl (Cs l) 0 l.length none, int n], 2⟩)] (by simp) (by simp) (by simp) (zaD rfl) ?_ rfl (by simp only [zac, zaf, false_implies, implies_true, and_true, zaR, lookR, zaa, if_true, if_false, ↓reduceIte] <;> (repeat' apply zay) <;> (first | rfl | trivial)) (by simp only [zac, zaf, false_implies, implies_true, and_true, true_and, flat_cons, flat_nil, flat_ints, flat_bools, flat_app, zaL, and_self, eq_self_iff_true, zal]); simp only [zag, zak, zac, zaf, false_implies, implies_true, and_true, lk, slot, zaM, zaI, toN, zaa, if_true, if_false, ↓reduceIte, reduceCtorEq])
    all_goals ((repeat' apply zay) <;> (first | rfl | trivial | (simp only [zaq]; done) | (simp only [zaq]; rfl) | (simp only [zaq]; trivial)))
  obtain ⟨m, rfl⟩ : ∃ m', m = m' + 1 := ⟨m - 1, by omega⟩
  obtain ⟨e1, e2⟩ := hnz (Nat.succ_ne_zero m)
  have e1 : last = (gD C m).p := e1
  have q9 := cd_f C m 0 (.sc (.int .i64 0)) (by omega) (by decide)
  rw [zbi] at q9
  have q9 : (Cs C).getD (m * 4) (.sc (.int .i64 0)) = int (gD C m).p := q9
  rw [← e1] at q9
  have hm1 : ((m + 1 : Nat) : Int) - 1 = (m : Int) := by omega
  have c0 : (0 : Int) < ((m + 1 : Nat) : Int) := by omega
  by_cases cl : p ≤ last
  · rw [decide_eq_false (by omega : ¬ last < p), zaU] at hI
    rw [← hI]
    simp only [go_sem, zaa, zah, zai, zaj, zam, zae, ↓reduceIte, reduceCtorEq, zab, zad, zan, zao, zap, decide_eq_true c, decide_eq_true c0, q0, q9, hm1, decide_eq_false cp, decide_eq_true cl]
    repeat' (first
 | with_reducible refine zay ?_ ?_
 | (unfold OKC; kernel_rfl)
 | (unfold EDG; kernel_rfl)
 | (intros; omega)
 | exact fs_nil trivial rfl
 | fail)
  rw [decide_eq_true (by omega : last < p), zaZ] at hI
  cases bk with
  | false =>
    rw [zaU] at hI
    rw [← hI]
    simp only [go_sem, zaa, zah, zai, zaj, zam, zae, ↓reduceIte, reduceCtorEq, zab, zad, zan, zao, zap, decide_eq_true c, decide_eq_true c0, q0, q1, q9, hat, hm1, decide_eq_false cp, decide_eq_false cl]
    repeat' (first
 | with_reducible refine zay ?_ ?_
 | (unfold OKC; kernel_rfl)
 | (unfold EDG; kernel_rfl)
 | (apply cg_tp
    case hl => rfl
    case ha => (simp only [zag, zak, prepV, prepC, idx, hpL', lookR, zaa, if_true, if_false]; rfl)
    case hs => rfl
    case h => (first | exact k1 ..))
 | ((first | refine s1_id ?_ | refine swp_id ?_ | refine sops_id ?_ | refine s2_id ?_); simp only [decide_eq_true c, decide_eq_true c0, q0, q1, q9, hat, hm1, decide_eq_false cp, decide_eq_false cl, zax, zaC, zal, zaz, zaB, zat, zau, zas, zaH, zaJ, zar, zav, go_sem, zaa, zah, zai, zaj, zam, zae, ↓reduceIte, reduceCtorEq, zab, zad, zan, zao, zap, zaM, zaO, zaI, zaN, renO, bk, back, outUpsFrom, Ints_ren])
 | (intros; omega)
 | exact fs_nil trivial rfl
 | fail)
  | true =>
  rw [zaZ] at hI
  cases ck with
  | false =>
    rw [zaU] at hI
    rw [← hI]
    simp only [go_sem, zaa, zah, zai, zaj, zam, zae, ↓reduceIte, reduceCtorEq, zab, zad, zan, zao, zap, decide_eq_true c, decide_eq_true c0, q0, q1, q9, hat, hm1, decide_eq_false cp, decide_eq_false cl]
    repeat' (first
 | with_reducible refine zay ?_ ?_
 | (unfold OKC; kernel_rfl)
 | (unfold EDG; kernel_rfl)
 | (apply cg_tp
    case hl => rfl
    case ha => (simp only [zag, zak, prepV, prepC, idx, hpL', lookR, zaa, if_true, if_false]; rfl)
    case hs => rfl
    case h => (first | exact k1 .. | exact k2 ..))
 | ((first | refine s1_id ?_ | refine swp_id ?_ | refine sops_id ?_ | refine s2_id ?_); simp only [decide_eq_true c, decide_eq_true c0, q0, q1, q9, hat, hm1, decide_eq_false cp, decide_eq_false cl, zax, zaC, zal, zaz, zaB, zat, zau, zas, zaH, zaJ, zar, zav, go_sem, zaa, zah, zai, zaj, zam, zae, ↓reduceIte, reduceCtorEq, zab, zad, zan, zao, zap, zaM, zaO, zaI, zaN, renO, bk, back, outUpsFrom, Ints_ren])
 | (intros; omega)
 | exact fs_nil trivial rfl
 | fail)
  | true =>
  rw [zaZ] at hI
  simp only [go_sem, zaa, zah, zai, zaj, zam, zae, ↓reduceIte, reduceCtorEq, zab, zad, zan, zao, zap, decide_eq_true c, decide_eq_true c0, q0, q1, q9, hat, hm1, decide_eq_false cp, decide_eq_false cl]
  repeat' (first
 | with_reducible refine zay ?_ ?_
 | (unfold OKC; kernel_rfl)
 | (unfold EDG; kernel_rfl)
 | (apply cg_tp
    case hl => rfl
    case ha => (simp only [zag, zak, prepV, prepC, idx, hpL', lookR, zaa, if_true, if_false]; rfl)
    case hs => rfl
    case h => (first | exact k1 .. | exact k2 ..))
 | ((first | refine s1_id ?_ | refine swp_id ?_ | refine sops_id ?_ | refine s2_id ?_); simp only [decide_eq_true c, decide_eq_true c0, q0, q1, q9, hat, hm1, decide_eq_false cp, decide_eq_false cl, zax, zaC, zal, zaz, zaB, zat, zau, zas, zaH, zaJ, zar, zav, go_sem, zaa, zah, zai, zaj, zam, zae, ↓reduceIte, reduceCtorEq, zab, zad, zan, zao, zap, zaM, zaO, zaI, zaN, renO, bk, back, outUpsFrom, Ints_ren])
 | (intros; omega)
 | (intros; (try simp only [zaG, zaK, zaF, zaE, zaw, zaA, decide_eq_true_eq, decide_eq_false_iff_not] at *); omega))
  refine le_mk (m + 1 + 1, p) ?_ ⟨hlt, fun h => absurd h (Nat.succ_ne_zero _), fun _ => ⟨by simp only [hgx], by show 1 ≤ p; omega⟩, hI⟩ (by show C.length - (m + 1 + 1) < C.length - (m + 1); omega)
  (refine imp_ren _ _ _ [(0, 0, ⟨[.gsl (Cs l) 0 l.length none, int n], 2⟩)] (by simp) (by simp) (by simp) (zaD rfl) ?_ rfl (by simp only [zac, zaf, false_implies, implies_true, and_true, zaR, lookR, zaa, if_true, if_false, ↓reduceIte] <;> (repeat' apply zay) <;> (first | rfl | trivial)) (by simp only [zac, zaf, false_implies, implies_true, and_true, true_and, flat_cons, flat_nil, flat_ints, flat_bools, flat_app, zaL, and_self, eq_self_iff_true, zal]); simp only [zag, zak, zac, zaf, false_implies, implies_true, and_true, lk, slot, zaM, zaI, toN, zaa, if_true, if_false, ↓reduceIte, reduceCtorEq])
  all_goals ((repeat' apply zay) <;> (first | rfl | trivial | (simp only [zaq]; done) | (simp only [zaq]; rfl) | (simp only [zaq]; trivial)))
end Go.Proofs.Ytlajelbiniakpaa
-- NEWGO
-- PRUNE: cl_lendx cl_use
-- ISG: Cs_isG
-- FLAT: Cs_flat
namespace Go.Proofs.Ytlajelbiniakpaa
set_option linter.unusedVariables false
set_option linter.unusedSimpArgs false
open Go.Proofs.Ytlajelbiniakpaa.Sh
set_option maxRecDepth 20000
def mxO (t : Int) : Option Cd → List Cd → Option Cd
  | o, [] => o
  | none, x :: r => mxO t (some x) r
  | some m, x :: r => mxO t (some (if scr m t < scr x t then x else m)) r
theorem mxO_some (t : Int) : ∀ (r : List Cd) (m : Cd), mxO t (some m) r = some (mxF t m r)
  | [], _ => rfl
  | x :: r, m => mxO_some t r (if scr m t < scr x t then x else m)
theorem mxO_none (t : Int) (W : List Cd) : mxO t none W = if W.length = 0 then none else some (mxW t W) := by
  cases W with
  | nil => rfl
  | cons x r => exact mxO_some t r x
def mayF (l : List Nd) (n at' : Int) (x : Cd) : Bool := decide (-1000 < x.a) && decide (at' ∈ ancM l n x.g)
theorem may_spec (l : List Nd) (n at' : Int) (x : Cd) (hl : l.length ≤ 1000000) (hnm : NmR l) : FnSpec Try.prog 49 [trV l none n, cdt x, i1 at'] [] (b1 (mayF l n at' x)) [] := by
  have h1 := below29_spec l none n x.g at' hl hnm
  unfold mayF
  generalize decide (at' ∈ ancM l n x.g) = b at *
  obtain ⟨p, g, m, a⟩ := x
  simp only [cdc] at h1 ⊢
  by_cases c : -1000 < a
  · rw [decide_eq_true c, zaZ]
    refine fnspec_of mixed TT_ok TT_cl ⟨fun _ => false, fun _ => [], 0, fun _ => false, fun _ => false⟩ Try.func49 rfl (by kernel_rfl) rfl 17 rfl [.tmp 6] rfl ?_
    simp only [go_sem, zaa, zah, zai, zaj, zam, zae, ↓reduceIte, reduceCtorEq, zab, zad, zan, zao, zap, decide_eq_true c]
    repeat' (first
 | (apply cg_tp
    case hl => rfl
    case ha => (simp only [zag, zak, prepV, prepC, idx, hpL', lookR, zaa, if_true, if_false]; rfl)
    case hs => rfl
    case h => (first | exact h1 ..))
 | ((first | refine s1_id ?_ | refine swp_id ?_ | refine sops_id ?_ | refine s2_id ?_); simp only [decide_eq_true c, zax, zaC, zal, zaz, zaB, zat, zau, zas, zaH, zaJ, zar, zav, go_sem, zaa, zah, zai, zaj, zam, zae, ↓reduceIte, reduceCtorEq, zab, zad, zan, zao, zap, zaM, zaO, zaI, zaN, renO, bk, back, outUpsFrom, Ints_ren])
 | exact fs_nil trivial rfl
 | fail)
  · rw [decide_eq_false c, zaU]
    refine fnspec_of mixed TT_ok TT_cl ⟨fun _ => false, fun _ => [], 0, fun _ => false, fun _ => false⟩ Try.func49 rfl (by kernel_rfl) rfl 17 rfl [.tmp 6] rfl ?_
    simp only [go_sem, zaa, zah, zai, zaj, zam, zae, ↓reduceIte, reduceCtorEq, zab, zad, zan, zao, zap, decide_eq_false c]
    repeat' (first
 | exact fs_nil trivial rfl
 | fail)
theorem wi_may {l : List Nd} {n : Int} {C : List Cd} (hv : vaM l n C = true) {t : Nat} (ht : t < l.length) : wiM l n C (gN l t).i = C.filter (mayF l n (gN l t).i) := by
  obtain ⟨_, _, hall⟩ := vaM_all hv
  have h1 := wi_iff hv ht
  have e : ∀ x, x ∈ wiM l n C (gN l t).i ↔ x ∈ C ∧ (!outF (subM l n (gN l t).i) x) = true := fun x => List.mem_filter
  refine List.filter_congr (fun x hx => ?_)
  have h2 := (e x).symm.trans (h1 x)
  have h3 := (cdk_iff.1 (hall x hx).1).2
  rw [Bool.eq_iff_iff]
  unfold mayF
  rw [zaG, decide_eq_true_eq, decide_eq_true_eq]
  constructor
  · intro h
    obtain ⟨_, h4, h5⟩ := h2.1 ⟨hx, h⟩
    exact ⟨by omega, h4⟩
  · rintro ⟨h4, h5⟩
    exact (h2.2 ⟨hx, h5, by omega⟩).2
def ofQ : Option Cd → Cd × Int
  | none => (zcd, 21)
  | some m => (m, 0)
def obI : Option Nat → Int
  | none => -1
  | some b => b
set_option maxHeartbeats 16000000 in
theorem rvictim_spec (l : List Nd) (n : Int) (C : List Cd) (k : Option Nat) (at' t : Int) (hl : l.length ≤ 1000000) (hC : C.length ≤ 1000000) (hnm : NmR l) : FnSpec Try.prog 29 [trV l none n, gr C k, i1 at', i1 t] [] (.tup [i1 (viM l n C at' t).1.p, i1 (viM l n C at' t).2]) [] := by
  have h1 := rvalid29_spec l n C k hl (by omega) hnm
  have hcl := cd_len C
  unfold viM
  cases hv : vaM l n C with
  | false =>
    rw [hv] at h1
    rw [if_neg (by decide)]
    refine fnspec_of mixed TT_ok TT_cl ⟨fun _ => false, fun _ => [], 0, fun _ => false, fun _ => false⟩ Try.func29 rfl (by kernel_rfl) rfl 69 rfl [.tmp 8, .tmp 9] rfl ?_
    simp only [go_sem, zaa, zah, zai, zaj, zam, zae, ↓reduceIte, reduceCtorEq, zab, zad, zan, zao, zap]
    repeat' (first
 | (apply cl_plain
    case hs => rfl
    case ha => (simp only [zag, zak, prepV, prepC, idx, hpL', lookR, zaa, if_true, if_false]; rfl)
    case h => (first | exact h1 ..))
 | ((first | refine s1_id ?_ | refine swp_id ?_ | refine sops_id ?_ | refine s2_id ?_); simp only [zax, zaC, zal, zaz, zaB, zat, zau, zas, zaH, zaJ, zar, zav, go_sem, zaa, zah, zai, zaj, zam, zae, ↓reduceIte, reduceCtorEq, zab, zad, zan, zao, zap, zaM, zaO, zaI, zaN, renO, bk, back, outUpsFrom, Ints_ren])
 | exact fs_nil trivial rfl
 | fail)
  | true =>
  rw [hv] at h1
  rw [if_pos rfl]
  obtain ⟨hV, _, hall⟩ := vaM_all hv
  have h2 := rhas_spec l none n at' hl hnm
  rw [has_bs ((chkT_iff l n).2 hV)] at h2
  cases hb : bsF Nd.i l at' with
  | false =>
    rw [hb] at h2
    rw [if_neg (by decide)]
    refine fnspec_of mixed TT_ok TT_cl ⟨fun _ => false, fun _ => [], 0, fun _ => false, fun _ => false⟩ Try.func29 rfl (by kernel_rfl) rfl 69 rfl [.tmp 8, .tmp 9] rfl ?_
    simp only [go_sem, zaa, zah, zai, zaj, zam, zae, ↓reduceIte, reduceCtorEq, zab, zad, zan, zao, zap]
    repeat' (first
 | (apply cl_plain
    case hs => rfl
    case ha => (simp only [zag, zak, prepV, prepC, idx, hpL', lookR, zaa, if_true, if_false]; rfl)
    case h => (first | exact h1 .. | exact h2 ..))
 | ((first | refine s1_id ?_ | refine swp_id ?_ | refine sops_id ?_ | refine s2_id ?_); simp only [zax, zaC, zal, zaz, zaB, zat, zau, zas, zaH, zaJ, zar, zav, go_sem, zaa, zah, zai, zaj, zam, zae, ↓reduceIte, reduceCtorEq, zab, zad, zan, zao, zap, zaM, zaO, zaI, zaN, renO, bk, back, outUpsFrom, Ints_ren])
 | exact fs_nil trivial rfl
 | fail)
  | true =>
  rw [hb] at h2
  rw [if_pos rfl]
  by_cases ht : pgk t = true
  case neg =>
    have ht' : (t < 0) ∨ (¬ t < 0 ∧ 16777216 < t) := by
      rcases Int.lt_or_le t 0 with c | c
      · exact .inl c
      · rcases Int.lt_or_le 16777216 t with c2 | c2
        · exact .inr ⟨by omega, c2⟩
        · exact absurd (pgk_iff.2 ⟨c, c2⟩) ht
    rw [if_neg ht]
    rcases ht' with c | ⟨c, c2⟩
    · refine fnspec_of mixed TT_ok TT_cl ⟨fun _ => false, fun _ => [], 0, fun _ => false, fun _ => false⟩ Try.func29 rfl (by kernel_rfl) rfl 69 rfl [.tmp 8, .tmp 9] rfl ?_
      simp only [go_sem, zaa, zah, zai, zaj, zam, zae, ↓reduceIte, reduceCtorEq, zab, zad, zan, zao, zap, decide_eq_true c]
      repeat' (first
 | (apply cl_plain
    case hs => rfl
    case ha => (simp only [zag, zak, prepV, prepC, idx, hpL', lookR, zaa, if_true, if_false]; rfl)
    case h => (first | exact h1 .. | exact h2 ..))
 | ((first | refine s1_id ?_ | refine swp_id ?_ | refine sops_id ?_ | refine s2_id ?_); simp only [decide_eq_true c, zax, zaC, zal, zaz, zaB, zat, zau, zas, zaH, zaJ, zar, zav, go_sem, zaa, zah, zai, zaj, zam, zae, ↓reduceIte, reduceCtorEq, zab, zad, zan, zao, zap, zaM, zaO, zaI, zaN, renO, bk, back, outUpsFrom, Ints_ren])
 | exact fs_nil trivial rfl
 | fail)
    · refine fnspec_of mixed TT_ok TT_cl ⟨fun _ => false, fun _ => [], 0, fun _ => false, fun _ => false⟩ Try.func29 rfl (by kernel_rfl) rfl 69 rfl [.tmp 8, .tmp 9] rfl ?_
      simp only [go_sem, zaa, zah, zai, zaj, zam, zae, ↓reduceIte, reduceCtorEq, zab, zad, zan, zao, zap, decide_eq_false c, decide_eq_true c2]
      repeat' (first
 | (apply cl_plain
    case hs => rfl
    case ha => (simp only [zag, zak, prepV, prepC, idx, hpL', lookR, zaa, if_true, if_false]; rfl)
    case h => (first | exact h1 .. | exact h2 ..))
 | ((first | refine s1_id ?_ | refine swp_id ?_ | refine sops_id ?_ | refine s2_id ?_); simp only [decide_eq_false c, decide_eq_true c2, zax, zaC, zal, zaz, zaB, zat, zau, zas, zaH, zaJ, zar, zav, go_sem, zaa, zah, zai, zaj, zam, zae, ↓reduceIte, reduceCtorEq, zab, zad, zan, zao, zap, zaM, zaO, zaI, zaN, renO, bk, back, outUpsFrom, Ints_ren])
 | exact fs_nil trivial rfl
 | fail)
  rw [if_pos ht]
  have h4 := pgk_iff.1 ht
  have c : ¬ t < 0 := by omega
  have c2 : ¬ 16777216 < t := by omega
  obtain ⟨s, hs, es⟩ := bsF_node hV hb
  have hwm := wi_may hv hs
  rw [es] at hwm
  rw [hwm]
  have hmay := fun x => may_spec l n at' x hl hnm
  obtain ⟨Q, hQ⟩ : ∃ Q, mxO t none (C.filter (mayF l n at')) = Q := ⟨_, rfl⟩
  have hres : (if (C.filter (mayF l n at')).length = 0 then ((zcd, 21) : Cd × Int) else (mxW t (C.filter (mayF l n at')), 0)) = ofQ Q := by
    rw [← hQ, mxO_none]
    by_cases c : (C.filter (mayF l n at')).length = 0
    · rw [if_pos c, if_pos c]; rfl
    · rw [if_neg c, if_neg c]; rfl
  rw [hres]
  clear hres hwm es hb
  generalize mayF l n at' = f at *
  refine fnspec_of mixed TT_ok TT_cl ⟨fun _ => false, fun _ => [], 0, fun _ => false, fun _ => false⟩ Try.func29 rfl (by kernel_rfl) rfl 69 rfl [.tmp 8, .tmp 9] rfl ?_
  simp only [go_sem, zaa, zah, zai, zaj, zam, zae, ↓reduceIte, reduceCtorEq, zab, zad, zan, zao, zap, decide_eq_false c, decide_eq_false c2]
  repeat' (first
 | (apply cl_plain
    case hs => rfl
    case ha => (simp only [zag, zak, prepV, prepC, idx, hpL', lookR, zaa, if_true, if_false]; rfl)
    case h => (first | exact h1 .. | exact h2 ..))
 | ((first | refine s1_id ?_ | refine swp_id ?_ | refine sops_id ?_ | refine s2_id ?_); simp only [decide_eq_false c, decide_eq_false c2, zax, zaC, zal, zaz, zaB, zat, zau, zas, zaH, zaJ, zar, zav, go_sem, zaa, zah, zai, zaj, zam, zae, ↓reduceIte, reduceCtorEq, zab, zad, zan, zao, zap, zaM, zaO, zaI, zaN, renO, bk, back, outUpsFrom, Ints_ren])
 | (intros; (try simp only [zaG, zaK, zaF, zaE, zaw, zaA, decide_eq_true_eq, decide_eq_false_iff_not] at *); omega))
  refine w_loop (ι := Nat × Option Nat) (fun s => ⟨[(1, gr C k), (2, i1 at'), (3, i1 t), (4, .one (.optr 0 0)), (10, i1 (obI s.2)), (11, i1 s.1)], [(0, some ⟨[.gsl (Cs l) 0 l.length none, int n], 2⟩)], 1⟩) (fun s => s.1 ≤ C.length ∧ (∀ b, s.2 = some b → b < C.length) ∧ mxO t (s.2.map (gD C)) ((C.drop s.1).filter f) = Q) (fun s => C.length - s.1) (0, none) ?_ ⟨zaV _, (fun _ h => by cases h), hQ⟩ ?_
  · (refine imp_ren _ _ _ [(0, 0, ⟨[.gsl (Cs l) 0 l.length none, int n], 2⟩)] (by simp) (by simp) (by simp) (zaD rfl) ?_ rfl (by simp only [zac, zaf, false_implies, implies_true, and_true, zaR, lookR, zaa, if_true, if_false, ↓reduceIte, obI] <;> (repeat' apply zay) <;> (first | rfl | trivial)) (by simp only [zac, zaf, false_implies, implies_true, and_true, true_and, flat_cons, flat_nil, flat_ints, flat_bools, flat_app, zaL, and_self, eq_self_iff_true, zal, obI]); simp only [zag, zak, zac, zaf, false_implies, implies_true, and_true, lk, slot, zaM, zaI, toN, zaa, if_true, if_false, ↓reduceIte, reduceCtorEq])
    all_goals ((repeat' apply zay) <;> (first | rfl | trivial))
  clear h1 h2 c c2 hQ
  rintro ⟨i, o⟩ ⟨hi, ho, hI⟩
  simp only at hi ho hI ⊢
  rcases zaT i C.length with hlt | hge
  case inr =>
    have c : ¬ (i : Int) < (C.length : Int) := by omega
    rw [zaY hge, zbc] at hI
    cases o with
    | none =>
      have hI : (none : Option Cd) = Q := hI
      subst hI
      have c3 : (obI none) < 0 := by decide
      simp only [go_sem, zaa, zah, zai, zaj, zam, zae, ↓reduceIte, reduceCtorEq, zab, zad, zan, zao, zap, ofQ, decide_eq_false c, decide_eq_true c3]
      repeat' (first
 | exact fs_nil trivial rfl
 | fail)
    | some b =>
      have hI : some (gD C b) = Q := hI
      subst hI
      have hbl := ho b rfl
      have q0 := cd_f C b 0 (.sc (.int .i64 0)) hbl (by decide)
      rw [zbi] at q0
      have q0 : (Cs C).getD (b * 4) (.sc (.int .i64 0)) = int (gD C b).p := q0
      have c3 : ¬ (b : Int) < 0 := by omega
      simp only [go_sem, zaa, zah, zai, zaj, zam, zae, ↓reduceIte, reduceCtorEq, zab, zad, zan, zao, zap, obI, ofQ, decide_eq_false c, decide_eq_false c3, q0]
      repeat' (first
 | with_reducible refine zay ?_ ?_
 | (intros; omega)
 | exact fs_nil trivial rfl
 | fail)
  have c : (i : Int) < (C.length : Int) := by omega
  have hat := cd_td C i hlt
  rw [drop_getD C i zcd hlt, zaS] at hI
  have hI : mxO t (o.map (gD C)) (if f (gD C i) = true then gD C i :: (C.drop (i + 1)).filter f else (C.drop (i + 1)).filter f) = Q := hI
  have hxk : cdk (gD C i) = true := (hall _ (getD_mem C i zcd hlt)).1
  have k1 := hmay (gD C i)
  have k2 := rscore_spec (gD C i) t hxk ht
  by_cases hf : f (gD C i) = true
  case neg =>
    rw [if_neg hf] at hI
    rw [Bool.eq_false_iff.2 hf] at k1
    clear k2 hxk
    generalize gD C i = x at *
    obtain ⟨p, g, m, a⟩ := x
    simp only [cdc] at hat k1
    simp only [go_sem, zaa, zah, zai, zaj, zam, zae, ↓reduceIte, reduceCtorEq, zab, zad, zan, zao, zap, decide_eq_true c, hat]
    repeat' (first
 | with_reducible refine zay ?_ ?_
 | (unfold OKC; kernel_rfl)
 | (unfold EDG; kernel_rfl)
 | (apply cl_plain
    case hs => rfl
    case ha => (simp only [zag, zak, prepV, prepC, idx, hpL', lookR, zaa, if_true, if_false]; rfl)
    case h => (first | exact k1 ..))
 | ((first | refine s1_id ?_ | refine swp_id ?_ | refine sops_id ?_ | refine s2_id ?_); simp only [decide_eq_true c, hat, zax, zaC, zal, zaz, zaB, zat, zau, zas, zaH, zaJ, zar, zav, go_sem, zaa, zah, zai, zaj, zam, zae, ↓reduceIte, reduceCtorEq, zab, zad, zan, zao, zap, zaM, zaO, zaI, zaN, renO, bk, back, outUpsFrom, Ints_ren])
 | (intros; omega)
 | (intros; (try simp only [zaG, zaK, zaF, zaE, zaw, zaA, decide_eq_true_eq, decide_eq_false_iff_not] at *); omega))
    refine le_mk (i + 1, o) ?_ ⟨hlt, ho, hI⟩ (by show C.length - (i + 1) < C.length - i; omega)
    (refine imp_ren _ _ _ [(0, 0, ⟨[.gsl (Cs l) 0 l.length none, int n], 2⟩)] (by simp) (by simp) (by simp) (zaD rfl) ?_ rfl (by simp only [zac, zaf, false_implies, implies_true, and_true, zaR, lookR, zaa, if_true, if_false, ↓reduceIte] <;> (repeat' apply zay) <;> (first | rfl | trivial)) (by simp only [zac, zaf, false_implies, implies_true, and_true, true_and, flat_cons, flat_nil, flat_ints, flat_bools, flat_app, zaL, and_self, eq_self_iff_true, zal]); simp only [zag, zak, zac, zaf, false_implies, implies_true, and_true, lk, slot, zaM, zaI, toN, zaa, if_true, if_false, ↓reduceIte, reduceCtorEq])
    all_goals ((repeat' apply zay) <;> (first | rfl | trivial | (simp only [zaq]; done) | (simp only [zaq]; rfl) | (simp only [zaq]; trivial)))
  rw [if_pos hf] at hI
  rw [hf] at k1
  cases o with
  | none =>
    have c3 : (obI none) < 0 := by decide
    have hI : mxO t ((some i).map (gD C)) ((C.drop (i + 1)).filter f) = Q := hI
    clear k2 hxk
    generalize hx : gD C i = x at *
    obtain ⟨p, g, m, a⟩ := x
    simp only [cdc] at hat k1
    simp only [go_sem, zaa, zah, zai, zaj, zam, zae, ↓reduceIte, reduceCtorEq, zab, zad, zan, zao, zap, decide_eq_true c, hat, decide_eq_true c3]
    repeat' (first
 | with_reducible refine zay ?_ ?_
 | (unfold OKC; kernel_rfl)
 | (unfold EDG; kernel_rfl)
 | (apply cl_plain
    case hs => rfl
    case ha => (simp only [zag, zak, prepV, prepC, idx, hpL', lookR, zaa, if_true, if_false]; rfl)
    case h => (first | exact k1 ..))
 | ((first | refine s1_id ?_ | refine swp_id ?_ | refine sops_id ?_ | refine s2_id ?_); simp only [decide_eq_true c, hat, decide_eq_true c3, zax, zaC, zal, zaz, zaB, zat, zau, zas, zaH, zaJ, zar, zav, go_sem, zaa, zah, zai, zaj, zam, zae, ↓reduceIte, reduceCtorEq, zab, zad, zan, zao, zap, zaM, zaO, zaI, zaN, renO, bk, back, outUpsFrom, Ints_ren])
 | (intros; omega)
 | (intros; (try simp only [zaG, zaK, zaF, zaE, zaw, zaA, decide_eq_true_eq, decide_eq_false_iff_not] at *); omega))
    refine le_mk (i + 1, some i) ?_ ⟨hlt, (fun b h => by cases h; exact hlt), by show mxO t (some (gD C i)) _ = Q; rw [hx]; exact hI⟩ (by show C.length - (i + 1) < C.length - i; omega)
    (refine imp_ren _ _ _ [(0, 0, ⟨[.gsl (Cs l) 0 l.length none, int n], 2⟩)] (by simp) (by simp) (by simp) (zaD rfl) ?_ rfl (by simp only [zac, zaf, false_implies, implies_true, and_true, zaR, lookR, zaa, if_true, if_false, ↓reduceIte, obI] <;> (repeat' apply zay) <;> (first | rfl | trivial)) (by simp only [zac, zaf, false_implies, implies_true, and_true, true_and, flat_cons, flat_nil, flat_ints, flat_bools, flat_app, zaL, and_self, eq_self_iff_true, zal, obI]); simp only [zag, zak, zac, zaf, false_implies, implies_true, and_true, lk, slot, zaM, zaI, toN, zaa, if_true, if_false, ↓reduceIte, reduceCtorEq])
    all_goals ((repeat' apply zay) <;> (first | rfl | trivial | (simp only [zaq]; done) | (simp only [zaq]; rfl) | (simp only [zaq]; trivial)))
  | some b =>
  have hbl := ho b rfl
  have c3 : ¬ (b : Int) < 0 := by omega
  have hat2 := cd_td C b hbl
  have k3 := rscore_spec (gD C b) t (hall _ (getD_mem C b zcd hbl)).1 ht
  have hI : mxO t (some (if scr (gD C b) t < scr (gD C i) t then gD C i else gD C b)) ((C.drop (i + 1)).filter f) = Q := hI
  by_cases c4 : scr (gD C b) t < scr (gD C i) t
  · rw [if_pos c4] at hI
    have hI : mxO t ((some i).map (gD C)) ((C.drop (i + 1)).filter f) = Q := hI
    clear hxk
    generalize scr (gD C b) t = sb at *
    generalize scr (gD C i) t = sx at *
    generalize hx : gD C i = x at *
    generalize hy : gD C b = y at *
    obtain ⟨p, g, m, a⟩ := x
    obtain ⟨p', g', m', a'⟩ := y
    simp only [cdc] at hat hat2 k1 k2 k3
    simp only [go_sem, zaa, zah, zai, zaj, zam, zae, ↓reduceIte, reduceCtorEq, zab, zad, zan, zao, zap, obI, decide_eq_true c, hat, hat2, decide_eq_false c3, decide_eq_true c4]
    repeat' (first
 | with_reducible refine zay ?_ ?_
 | (unfold OKC; kernel_rfl)
 | (unfold EDG; kernel_rfl)
 | (apply cg_tp
    case hl => rfl
    case ha => (simp only [zag, zak, prepV, prepC, idx, hpL', lookR, zaa, if_true, if_false]; rfl)
    case hs => rfl
    case h => (first | exact k1 .. | exact k2 .. | exact k3 ..))
 | (apply cl_plain
    case hs => rfl
    case ha => (simp only [zag, zak, prepV, prepC, idx, hpL', lookR, zaa, if_true, if_false]; rfl)
    case h => (first | exact k1 .. | exact k2 .. | exact k3 ..))
 | ((first | refine s1_id ?_ | refine swp_id ?_ | refine sops_id ?_ | refine s2_id ?_); simp only [obI, decide_eq_true c, hat, hat2, decide_eq_false c3, decide_eq_true c4, zax, zaC, zal, zaz, zaB, zat, zau, zas, zaH, zaJ, zar, zav, go_sem, zaa, zah, zai, zaj, zam, zae, ↓reduceIte, reduceCtorEq, zab, zad, zan, zao, zap, zaM, zaO, zaI, zaN, renO, bk, back, outUpsFrom, Ints_ren])
 | (intros; omega)
 | (intros; (try simp only [zaG, zaK, zaF, zaE, zaw, zaA, decide_eq_true_eq, decide_eq_false_iff_not] at *); omega))
    refine le_mk (i + 1, some i) ?_ ⟨hlt, (fun b h => by cases h; exact hlt), by show mxO t (some (gD C i)) _ = Q; rw [hx]; exact hI⟩ (by show C.length - (i + 1) < C.length - i; omega)
    (refine imp_ren _ _ _ [(0, 0, ⟨[.gsl (Cs l) 0 l.length none, int n], 2⟩)] (by simp) (by simp) (by simp) (zaD rfl) ?_ rfl (by simp only [zac, zaf, false_implies, implies_true, and_true, zaR, lookR, zaa, if_true, if_false, ↓reduceIte, obI] <;> (repeat' apply zay) <;> (first | rfl | trivial)) (by simp only [zac, zaf, false_implies, implies_true, and_true, true_and, flat_cons, flat_nil, flat_ints, flat_bools, flat_app, zaL, and_self, eq_self_iff_true, zal, obI]); simp only [zag, zak, zac, zaf, false_implies, implies_true, and_true, lk, slot, zaM, zaI, toN, zaa, if_true, if_false, ↓reduceIte, reduceCtorEq])
    all_goals ((repeat' apply zay) <;> (first | rfl | trivial | (simp only [zaq]; done) | (simp only [zaq]; rfl) | (simp only [zaq]; trivial)))
  · rw [if_neg c4] at hI
    have hI : mxO t ((some b).map (gD C)) ((C.drop (i + 1)).filter f) = Q := hI
    clear hxk
    generalize scr (gD C b) t = sb at *
    generalize scr (gD C i) t = sx at *
    generalize hx : gD C i = x at *
    generalize hy : gD C b = y at *
    obtain ⟨p, g, m, a⟩ := x
    obtain ⟨p', g', m', a'⟩ := y
    simp only [cdc] at hat hat2 k1 k2 k3
    simp only [go_sem, zaa, zah, zai, zaj, zam, zae, ↓reduceIte, reduceCtorEq, zab, zad, zan, zao, zap, obI, decide_eq_true c, hat, hat2, decide_eq_false c3, decide_eq_false c4]
    repeat' (first
 | with_reducible refine zay ?_ ?_
 | (unfold OKC; kernel_rfl)
 | (unfold EDG; kernel_rfl)
 | (apply cg_tp
    case hl => rfl
    case ha => (simp only [zag, zak, prepV, prepC, idx, hpL', lookR, zaa, if_true, if_false]; rfl)
    case hs => rfl
    case h => (first | exact k1 .. | exact k2 .. | exact k3 ..))
 | (apply cl_plain
    case hs => rfl
    case ha => (simp only [zag, zak, prepV, prepC, idx, hpL', lookR, zaa, if_true, if_false]; rfl)
    case h => (first | exact k1 .. | exact k2 .. | exact k3 ..))
 | ((first | refine s1_id ?_ | refine swp_id ?_ | refine sops_id ?_ | refine s2_id ?_); simp only [obI, decide_eq_true c, hat, hat2, decide_eq_false c3, decide_eq_false c4, zax, zaC, zal, zaz, zaB, zat, zau, zas, zaH, zaJ, zar, zav, go_sem, zaa, zah, zai, zaj, zam, zae, ↓reduceIte, reduceCtorEq, zab, zad, zan, zao, zap, zaM, zaO, zaI, zaN, renO, bk, back, outUpsFrom, Ints_ren])
 | (intros; omega)
 | (intros; (try simp only [zaG, zaK, zaF, zaE, zaw, zaA, decide_eq_true_eq, decide_eq_false_iff_not] at *); omega))
    refine le_mk (i + 1, some b) ?_ ⟨hlt, ho, by show mxO t (some (gD C b)) _ = Q; rw [hy]; exact hI⟩ (by show C.length - (i + 1) < C.length - i; omega)
    (refine imp_ren _ _ _ [(0, 0, ⟨[.gsl (Cs l) 0 l.length none, int n], 2⟩)] (by simp) (by simp) (by simp) (zaD rfl) ?_ rfl (by simp only [zac, zaf, false_implies, implies_true, and_true, zaR, lookR, zaa, if_true, if_false, ↓reduceIte, obI] <;> (repeat' apply zay) <;> (first | rfl | trivial)) (by simp only [zac, zaf, false_implies, implies_true, and_true, true_and, flat_cons, flat_nil, flat_ints, flat_bools, flat_app, zaL, and_self, eq_self_iff_true, zal, obI]); simp only [zag, zak, zac, zaf, false_implies, implies_true, and_true, lk, slot, zaM, zaI, toN, zaa, if_true, if_false, ↓reduceIte, reduceCtorEq])
    all_goals ((repeat' apply zay) <;> (first | rfl | trivial | (simp only [zaq]; done) | (simp only [zaq]; rfl) | (simp only [zaq]; trivial)))
end Go.Proofs.Ytlajelbiniakpaa
-- NEWGO
-- PRUNE: cl_lendx cl_use
-- ISG: Cs_isG
-- FLAT: Cs_flat
namespace Go.Proofs.Ytlajelbiniakpaa
set_option linter.unusedVariables false
set_option linter.unusedSimpArgs false
open Go.Proofs.Ytlajelbiniakpaa.Sh
set_option maxRecDepth 20000
theorem hasB_spec (a : List Int) (k : Option Nat) (x : Int) (hl : a.length ≤ 9223372036854775807) : FnSpec Try.prog 22 [gi a k, i1 x] [] (b1 (decide (x ∈ a))) [] := by
  refine fnspec_of mixed TT_ok TT_cl ⟨fun _ => false, fun _ => [], 0, fun _ => false, fun _ => false⟩ Try.func22 rfl (by kernel_rfl) rfl 18 rfl [.tmp 4] rfl ?_
  simp only [go_sem, zaa, zah, zai, zaj, zam, zae, ↓reduceIte, reduceCtorEq, zab, zad, zan, zao, zap]
  repeat' (first
 | (intros; (try simp only [zaG, zaK, zaF, zaE, zaw, zaA, decide_eq_true_eq, decide_eq_false_iff_not] at *); omega))
  refine w_loop (ι := Nat) (fun i => ⟨[(0, gi a k), (1, i1 x), (5, i1 i)], [], 0⟩) (fun i => i ≤ a.length ∧ (x ∈ a ↔ x ∈ a.drop i)) (fun i => a.length - i) 0 ?_ ⟨zaV _, Iff.rfl⟩ ?_
  · (refine imp_sub _ _ _ [] (by simp) (by simp) (by simp) (zaV _) ?_ rfl (by simp); simp only [zac, zaf, false_implies, implies_true, and_true, lk, slot, zaM, zaI, zaa, if_true, if_false, ↓reduceIte, reduceCtorEq])
    all_goals ((repeat' apply zay) <;> (first | rfl | trivial))
  rintro i ⟨hi, he⟩
  simp only at hi he ⊢
  rcases zaT i a.length with hlt | hge
  case inr =>
    have c : ¬ (i : Int) < (a.length : Int) := by omega
    rw [zaY hge] at he
    rw [decide_eq_false (fun h => absurd (he.1 h) zaf)]
    simp only [go_sem, zaa, zah, zai, zaj, zam, zae, ↓reduceIte, reduceCtorEq, zab, zad, zan, zao, zap, decide_eq_false c]
    repeat' (first
 | exact fs_nil trivial rfl
 | fail)
  have c : (i : Int) < (a.length : Int) := by omega
  rw [drop_getD a i 0 hlt, List.mem_cons] at he
  by_cases hx : a.getD i 0 = x
  · rw [decide_eq_true (he.2 (Or.inl hx.symm))]
    simp only [go_sem, zaa, zah, zai, zaj, zam, zae, ↓reduceIte, reduceCtorEq, zab, zad, zan, zao, zap, decide_eq_true c, decide_eq_true hx]
    repeat' (first
 | with_reducible refine zay ?_ ?_
 | (intros; omega)
 | exact fs_nil trivial rfl
 | fail)
  · have he2 : x ∈ a ↔ x ∈ a.drop (i + 1) := he.trans ⟨fun h => h.resolve_left (fun e => hx e.symm), Or.inr⟩
    simp only [go_sem, zaa, zah, zai, zaj, zam, zae, ↓reduceIte, reduceCtorEq, zab, zad, zan, zao, zap, decide_eq_true c, decide_eq_false hx]
    repeat' (first
 | with_reducible refine zay ?_ ?_
 | (intros; omega)
 | (intros; (try simp only [zaG, zaK, zaF, zaE, zaw, zaA, decide_eq_true_eq, decide_eq_false_iff_not] at *); omega))
    refine le_mk (i + 1) ?_ ⟨hlt, he2⟩ (by omega)
    (refine imp_sub _ _ _ [] (by simp) (by simp) (by simp) (zaV _) ?_ rfl (by simp); simp only [zac, zaf, false_implies, implies_true, and_true, lk, slot, zaM, zaI, zaa, if_true, if_false, ↓reduceIte, reduceCtorEq])
    all_goals ((repeat' apply zay) <;> (first | rfl | trivial | (simp only [zaq]; done) | (simp only [zaq]; rfl) | (simp only [zaq]; trivial)))
def fgF (l : List Nd) (n : Int) (G : List Int) (at' : Int) (U : List Int) (acc : Int) : Int := U.foldl (fun acc a => if a ∈ G ∧ at' ∈ ancM l n a then a else acc) acc
theorem fgF_none (l : List Nd) (n : Int) (G : List Int) (at' : Int) : ∀ (U : List Int) (acc : Int), (∀ u ∈ U, ¬ at' ∈ ancM l n u) → fgF l n G at' U acc = acc
  | [], _, _ => rfl
  | a :: r, acc, h => by
    show fgF l n G at' r (if a ∈ G ∧ at' ∈ ancM l n a then a else acc) = acc
    rw [if_neg (fun e => h a zaQ e.2)]
    exact fgF_none l n G at' r acc (fun u hu => h u (zaP _ hu))
theorem fgF_gp (l : List Nd) (n : Int) (G : List Int) (at' : Int) : ∀ (U : List Int) (acc : Int), U.Pairwise (fun a b => b < a) → (∀ u ∈ U, at' ∈ ancM l n u ↔ at' ≤ u) → at' ∈ U → fgF l n G at' U acc = gpF G at' U acc
  | [], _, _, _, h => by cases h
  | a :: r, acc, hp, hu, hm => by
    have hpa := List.pairwise_cons.1 hp
    show fgF l n G at' r (if a ∈ G ∧ at' ∈ ancM l n a then a else acc) = gpF G at' (a :: r) acc
    rw [gpF]
    have ha := hu a zaQ
    by_cases c : a = at'
    · rw [if_pos c, fgF_none l n G at' r _ (fun u hu' e => by
        have h1 := (hu u (zaP _ hu')).1 e
        have h2 := hpa.1 u hu'
        omega)]
      have h3 : at' ∈ ancM l n a := ha.2 (by omega)
      by_cases hG : a ∈ G
      · rw [if_pos ⟨hG, h3⟩, if_pos hG]
      · rw [if_neg (fun e => hG e.1), if_neg hG]
    · rw [if_neg c]
      have hm' : at' ∈ r := (List.mem_cons.1 hm).resolve_left (fun e => c e.symm)
      have h3 : at' ∈ ancM l n a := ha.2 (by have := hpa.1 at' hm'; omega)
      have e1 : (if a ∈ G ∧ at' ∈ ancM l n a then a else acc) = if a ∈ G then a else acc := by
        by_cases hG : a ∈ G
        · rw [if_pos ⟨hG, h3⟩, if_pos hG]
        · rw [if_neg (fun e => hG e.1), if_neg hG]
      rw [e1]
      exact fgF_gp l n G at' r _ hpa.2 (fun u hu' => hu u (zaP _ hu')) hm'
theorem gr_fg {l : List Nd} {n : Int} {C : List Cd} (hv : vaM l n C = true) (G : List Int) {s : Nat} (hs : s < l.length) {t : Int} {M : Cd} (hP : ViP l n C (gN l s).i t M) : fgF l n G (gN l s).i (ancM l n M.g) 0 = grM l n G (gN l s).i M := by
  obtain ⟨hV, _, hall⟩ := vaM_all hv
  obtain ⟨i, hi, ei⟩ := bsF_node hV (hall M hP.mem).2.1
  have hanc := hP.anc
  unfold grM
  rw [← ei] at hanc ⊢
  refine fgF_gp l n G _ _ 0 (by rw [anc_up hV hi]; exact up_desc hV i hi) (fun u hu => ⟨fun h => ?_, fun h => anc_two hV hi hu hanc h⟩) hanc
  obtain ⟨_, j, hj, ej⟩ := anc_le hV hi hu
  rw [← ej] at h ⊢
  exact (anc_le hV hj h).1
theorem fil_one {M : Cd} : ∀ (C : List Cd), C.Pairwise (fun x y => x.p < y.p) → M ∈ C → (C.filter (fun x => decide (x.p = M.p))).map (·.p) = [M.p]
  | [], _, h => by cases h
  | x :: r, hp, h => by
    have hpa := List.pairwise_cons.1 hp
    rcases List.mem_cons.1 h with rfl | h
    · have : r.filter (fun x => decide (x.p = M.p)) = [] := List.filter_eq_nil_iff.2 (fun y hy e => by have := hpa.1 y hy; have := of_decide_eq_true e; omega)
      rw [zaS, if_pos (decide_eq_true rfl), this]; rfl
    · have h1 := hpa.1 M h
      rw [zaS, if_neg (fun e => by have := of_decide_eq_true e; omega)]
      exact fil_one r hpa.2 h
def fsF (l : List Nd) (n R v : Int) (x : Cd) : Bool := if R = 0 then decide (x.p = v) else mayF l n R x
theorem pr_fs {l : List Nd} {n : Int} {C : List Cd} (hv : vaM l n C = true) {M : Cd} {R : Int} (hM : M ∈ C) (hR : R ≠ 0 → R ∈ ancM l n M.g) : (C.filter (fsF l n R M.p)).map (·.p) = prM l n C R M.p := by
  obtain ⟨hV, _, hall⟩ := vaM_all hv
  obtain ⟨i, hi, ei⟩ := bsF_node hV (hall M hM).2.1
  unfold prM fsF
  by_cases h0 : R = 0
  · simp only [if_pos h0]
    exact fil_one C (vaM_asc hv) hM
  · simp only [if_neg h0]
    have h1 := hR h0
    rw [← ei] at h1
    obtain ⟨_, j, hj, ej⟩ := anc_le hV hi h1
    rw [← ej, wi_may hv hj]
def plS (f : Cd → Bool) (C : List Cd) (i : Nat) : List Int := ((C.take i).filter f).map (·.p)
theorem plS_succ (f : Cd → Bool) (C : List Cd) (i : Nat) (h : i < C.length) : plS f C (i + 1) = if f (gD C i) = true then plS f C i ++ [(gD C i).p] else plS f C i := by
  unfold plS
  rw [take_getD C i zcd h, List.filter_append, List.map_append]
  show _ ++ (List.filter f [gD C i]).map (·.p) = _
  by_cases c : f (gD C i) = true
  · rw [if_pos c, zaS, if_pos c]; rfl
  · rw [if_neg c, zaS, if_neg c]; exact zal _
theorem plS_all (f : Cd → Bool) (C : List Cd) (i : Nat) (h : C.length ≤ i) : plS f C i = (C.filter f).map (·.p) := by
  unfold plS
  rw [zbg h]
theorem plS_len (f : Cd → Bool) (C : List Cd) (i : Nat) (h : i ≤ C.length) : (plS f C i).length ≤ i := by
  unfold plS
  rw [List.length_map]
  have h1 : ((C.take i).filter f).length ≤ (C.take i).length := List.length_filter_le _ _
  rw [List.length_take] at h1
  omega
set_option maxHeartbeats 32000000 in
theorem rdecide_own (l : List Nd) (n : Int) (C : List Cd) (k : Option Nat) (G : List Int) (kg : Option Nat) (at' t : Int) (hl : l.length ≤ 1000000) (hC : C.length ≤ 1000000) (hG : G.length ≤ 9223372036854775807) (hnm : NmR l) : FnSpec Try.prog 30 [trV l none n, gr C k, gi G kg, i1 at', i1 t] [] (.tup [.agg [int (deM l n C G at' t).1.1, .osl 0 0 (deM l n C G at' t).1.2.1.length none, int (deM l n C G at' t).1.2.2], i1 (deM l n C G at' t).2]) [some ⟨Ints (deM l n C G at' t).1.2.1, 1⟩] := by
  have h1 := rvictim_spec l n C k at' t hl hC hnm
  have hcl := cd_len C
  by_cases he : (viM l n C at' t).2 = 0
  case neg =>
    unfold deM
    rw [if_neg he]
    generalize viM l n C at' t = q at *
    obtain ⟨⟨p, g, m, a⟩, e⟩ := q
    simp only at h1 he ⊢
    refine fnspec_of mixed TT_ok TT_cl ⟨fun _ => false, fun _ => [], 0, fun _ => false, fun _ => false⟩ Try.func30 rfl (by kernel_rfl) rfl 123 rfl [.cell 10 52, .tmp 11] rfl ?_
    simp only [go_sem, zaa, zah, zai, zaj, zam, zae, ↓reduceIte, reduceCtorEq, zab, zad, zan, zao, zap, decide_eq_false he]
    repeat' (first
 | (apply cl_plain
    case hs => rfl
    case ha => (simp only [zag, zak, prepV, prepC, idx, hpL', lookR, zaa, if_true, if_false]; rfl)
    case h => (first | exact h1 ..))
 | ((first | refine s1_id ?_ | refine swp_id ?_ | refine sops_id ?_ | refine s2_id ?_); simp only [decide_eq_false he, zax, zaC, zal, zaz, zaB, zat, zau, zas, zaH, zaJ, zar, zav, go_sem, zaa, zah, zai, zaj, zam, zae, ↓reduceIte, reduceCtorEq, zab, zad, zan, zao, zap, zaM, zaO, zaI, zaN, renO, bk, back, outUpsFrom, Ints_ren])
 | (intros; (try simp only [zaG, zaK, zaF, zaE, zaw, zaA, decide_eq_true_eq, decide_eq_false_iff_not] at *); omega))
    refine fs_imp _ (imp_nilC _ _ 1 1 1 99 (by simp only []; omega) (by simp only [zaR, lookR, zaa, if_true, if_false, ↓reduceIte]; rfl) rfl) ?_
    (refine fs_flat [(99, ⟨[], 1⟩)] (by simp) (by simp only [zag, zak]; decide) (by simp only [go_sem, resV, resS, zaM, zaO, zaI, St.tmF, zaR, idx, renO, zaN, evS, slot, lookR, zaa, ↓reduceIte, reduceCtorEq, if_true, if_false, zba, zbb, zag, zak, sLoad, readAt, readNeed, Ints_ren, Ints_length, Ints_getD, and_true, true_and, zaW, zaX]; try decide) ?_ (by simp only [zac, zaf, false_implies, implies_true, and_true, zaR, lookR, zaa, if_true, if_false, ↓reduceIte] <;> (repeat' apply zay) <;> (first | rfl | trivial)) (by simp only [zac, zaf, false_implies, implies_true, and_true, true_and, flat_cons, flat_nil, flat_ints, flat_bools, flat_app, zaL, and_self, eq_self_iff_true, zal]) ?_ <;> (try simp only [go_sem, resV, resS, zaM, zaO, zaI, St.tmF, zaR, idx, renO, zaN, evS, slot, lookR, zaa, ↓reduceIte, reduceCtorEq, if_true, if_false, zba, zbb, zag, zak, sLoad, readAt, readNeed, Ints_ren, Ints_length, Ints_getD, and_true, true_and, zaW, zaX]) <;> (try rfl))
  have hv : vaM l n C = true := by
    cases hv : vaM l n C with
    | true => rfl
    | false => unfold viM at he; rw [hv, if_neg (by decide)] at he; exact absurd he (by decide)
  obtain ⟨hV, _, hall⟩ := vaM_all hv
  have hb : bsF Nd.i l at' = true := by
    cases hb : bsF Nd.i l at' with
    | true => rfl
    | false => unfold viM at he; rw [hv, if_pos rfl, hb, if_neg (by decide)] at he; exact absurd he (by decide)
  have ht : pgk t = true := by
    cases ht : pgk t with
    | true => rfl
    | false => unfold viM at he; rw [hv, if_pos rfl, hb, if_pos rfl, ht, if_neg (by decide)] at he; exact absurd he (by decide)
  obtain ⟨s, hs, es⟩ := bsF_node hV hb
  have hvc := vi_cases hv hs ht
  have hde : ∀ M, viM l n C at' t = (M, 0) → deM l n C G at' t = ((M.p, prM l n C (grM l n G at' M) M.p, grM l n G at' M), 0) := fun M e => by unfold deM; rw [e, if_pos rfl]
  rw [es] at hvc
  rcases hvc with ⟨e1, _⟩ | ⟨M, e1, hP⟩
  · rw [e1] at he; exact absurd he (by decide)
  rw [hde M e1]
  rw [e1] at h1
  rw [← es] at hP
  have hgf := gr_fg hv G hs hP
  have hgr := (de_prop hv G hs hP).gr
  rw [es] at hgf hgr
  clear hde e1 he ht hb
  have hpr := pr_fs hv (R := grM l n G at' M) hP.mem (fun h => (hgr h).2.2)
  have hMm := hP.mem
  have hasc := vaM_asc hv
  have hinj : ∀ x ∈ C, x.p = M.p → x = M := fun x hx e => asc_inj hasc hx hMm e
  clear hP hgr
  have hanc := ranc_spec l none n M.g hl hnm
  have hal := ancM_len l n M.g
  have bl := fun id => below29_spec l none n id at' hl hnm
  have hGs := fun k x => hasB_spec G k x hG
  have hmay := fun x => may_spec l n (grM l n G at' M) x hl hnm
  generalize grM l n G at' M = R at *
  simp only
  rw [← hpr]
  clear hpr
  obtain ⟨U, hU⟩ : ∃ U, ancM l n M.g = U := ⟨_, rfl⟩
  rw [hU] at hanc hal hgf
  clear hU
  obtain ⟨v, mg, mn, ma⟩ := M
  simp only at h1 hinj hanc ⊢
  refine fnspec_of mixed TT_ok TT_cl ⟨fun _ => false, fun _ => [], 0, fun _ => false, fun _ => false⟩ Try.func30 rfl (by kernel_rfl) rfl 123 rfl [.cell 10 52, .tmp 11] rfl ?_
  simp only [go_sem, zaa, zah, zai, zaj, zam, zae, ↓reduceIte, reduceCtorEq, zab, zad, zan, zao, zap]
  repeat' (first
 | (apply cl_plain
    case hs => rfl
    case ha => (simp only [zag, zak, prepV, prepC, idx, hpL', lookR, zaa, if_true, if_false]; rfl)
    case h => (first | exact h1 ..))
 | ((first | refine s1_id ?_ | refine swp_id ?_ | refine sops_id ?_ | refine s2_id ?_); simp only [decide_true, zax, zaC, zal, zaz, zaB, zat, zau, zas, zaH, zaJ, zar, zav, go_sem, zaa, zah, zai, zaj, zam, zae, ↓reduceIte, reduceCtorEq, zab, zad, zan, zao, zap, zaM, zaO, zaI, zaN, renO, bk, back, outUpsFrom, Ints_ren])
 | (intros; (try simp only [zaG, zaK, zaF, zaE, zaw, zaA, decide_eq_true_eq, decide_eq_false_iff_not] at *); omega))
  refine w_loop (ι := Nat × Int) (fun s => ⟨[(1, gr C k), (2, gi G kg), (3, i1 at'), (5, .one (.optr 0 0)), (10, .one (.optr 1 0)), (12, i1 v), (14, .one (.optr 2 0)), (15, i1 s.1)], [(0, some ⟨[.gsl (Cs l) 0 l.length none, int n], 2⟩), (1, some ⟨[int 0, .sc (.slice none 0 0), int 0], 3⟩), (2, some ⟨[int v, .sc (.slice none 0 0), int s.2], 3⟩)], 3⟩) (fun s => s.1 ≤ C.length ∧ (((⟨v, mg, mn, ma⟩ : Cd) ∈ C.drop s.1 ∧ s.2 = 0) ∨ (¬ (⟨v, mg, mn, ma⟩ : Cd) ∈ C.drop s.1 ∧ s.2 = R))) (fun s => C.length - s.1) (0, 0) ?_ ⟨zaV _, .inl ⟨hMm, rfl⟩⟩ ?_
  · (refine imp_ren _ _ _ [(0, 0, ⟨[.gsl (Cs l) 0 l.length none, int n], 2⟩), (1, 1, ⟨[int 0, .sc (.slice none 0 0), int 0], 3⟩), (2, 17, ⟨[int v, .sc (.slice none 0 0), int 0], 3⟩)] (by simp) (by simp) (by simp) (zaD rfl) ?_ rfl (by simp only [zac, zaf, false_implies, implies_true, and_true, zaR, lookR, zaa, if_true, if_false, ↓reduceIte] <;> (repeat' apply zay) <;> (first | rfl | trivial)) (by simp only [zac, zaf, false_implies, implies_true, and_true, true_and, flat_cons, flat_nil, flat_ints, flat_bools, flat_app, zaL, and_self, eq_self_iff_true, zal]); simp only [zag, zak, zac, zaf, false_implies, implies_true, and_true, lk, slot, zaM, zaI, toN, zaa, if_true, if_false, ↓reduceIte, reduceCtorEq])
    all_goals ((repeat' apply zay) <;> (first | rfl | trivial))
  clear h1
  rintro ⟨i, acc⟩ ⟨hi, hI⟩
  simp only at hi hI ⊢
  rcases zaT i C.length with hlt | hge
  case inl =>
    have c : (i : Int) < (C.length : Int) := by omega
    have q0 := cd_f C i 0 (.sc (.int .i64 0)) hlt (by decide)
    rw [zbi] at q0
    have q0 : (Cs C).getD (i * 4) (.sc (.int .i64 0)) = int (gD C i).p := q0
    have q1 := cd_f C i 1 (.sc (.int .i64 0)) hlt (by decide)
    have q1 : (Cs C).getD (i * 4 + 1) (.sc (.int .i64 0)) = int (gD C i).g := q1
    have hmem := getD_mem C i zcd hlt
    have hpw := hasc.sublist (List.drop_sublist i C)
    rw [drop_getD C i zcd hlt] at hI hpw
    have hpw := (List.pairwise_cons.1 hpw).1
    by_cases hp : (gD C i).p = v
    case neg =>
      have hne : ¬ (⟨v, mg, mn, ma⟩ : Cd) = C.getD i zcd := fun e => hp (by show (C.getD i zcd).p = v; rw [← e])
      simp only [go_sem, zaa, zah, zai, zaj, zam, zae, ↓reduceIte, reduceCtorEq, zab, zad, zan, zao, zap, decide_eq_true c, q0, decide_eq_false hp]
      repeat' (first
 | with_reducible refine zay ?_ ?_
 | (intros; omega)
 | (intros; (try simp only [zaG, zaK, zaF, zaE, zaw, zaA, decide_eq_true_eq, decide_eq_false_iff_not] at *); omega))
      refine le_mk (i + 1, acc) ?_ ⟨hlt, ?_⟩ (by show C.length - (i + 1) < C.length - i; omega)
      · (refine imp_ren _ _ _ [(0, 0, ⟨[.gsl (Cs l) 0 l.length none, int n], 2⟩), (1, 1, ⟨[int 0, .sc (.slice none 0 0), int 0], 3⟩), (2, 2, ⟨[int v, .sc (.slice none 0 0), int acc], 3⟩)] (by simp) (by simp) (by simp) (zaD rfl) ?_ rfl (by simp only [zac, zaf, false_implies, implies_true, and_true, zaR, lookR, zaa, if_true, if_false, ↓reduceIte] <;> (repeat' apply zay) <;> (first | rfl | trivial)) (by simp only [zac, zaf, false_implies, implies_true, and_true, true_and, flat_cons, flat_nil, flat_ints, flat_bools, flat_app, zaL, and_self, eq_self_iff_true, zal]); simp only [zag, zak, zac, zaf, false_implies, implies_true, and_true, lk, slot, zaM, zaI, toN, zaa, if_true, if_false, ↓reduceIte, reduceCtorEq])
        all_goals ((repeat' apply zay) <;> (first | rfl | trivial | (simp only [zaq]; done) | (simp only [zaq]; rfl) | (simp only [zaq]; trivial)))
      · rcases hI with ⟨h, e⟩ | ⟨h, e⟩
        · exact .inl ⟨(List.mem_cons.1 h).resolve_left hne, e⟩
        · exact .inr ⟨fun h' => h (zaP _ h'), e⟩
    have hx : gD C i = ⟨v, mg, mn, ma⟩ := hinj _ hmem hp
    have hx' : C.getD i zcd = ⟨v, mg, mn, ma⟩ := hx
    have hacc : acc = 0 := by
      rcases hI with ⟨_, e⟩ | ⟨h, _⟩
      · exact e
      · exact absurd (by rw [hx']; exact zaQ) h
    have hno : ¬ (⟨v, mg, mn, ma⟩ : Cd) ∈ C.drop (i + 1) := fun h => by
      have := hpw _ h
      rw [hx'] at this; simp only at this; omega
    subst hacc
    rw [hx] at q0 q1
    have q0 : (Cs C).getD (i * 4) (.sc (.int .i64 0)) = int v := q0
    have q1 : (Cs C).getD (i * 4 + 1) (.sc (.int .i64 0)) = int mg := q1
    clear hI hpw hp hx hx'
    simp only [go_sem, zaa, zah, zai, zaj, zam, zae, ↓reduceIte, reduceCtorEq, zab, zad, zan, zao, zap, decide_eq_true c, q0, q1, decide_true]
    repeat' (first
 | with_reducible refine zay ?_ ?_
 | (unfold OKC; kernel_rfl)
 | (unfold EDG; kernel_rfl)
 | (apply cl_plain
    case hs => rfl
    case ha => (simp only [zag, zak, prepV, prepC, idx, hpL', lookR, zaa, if_true, if_false]; rfl)
    case h => (first | exact hanc ..))
 | ((first | refine s1_id ?_ | refine swp_id ?_ | refine sops_id ?_ | refine s2_id ?_); simp only [decide_eq_true c, q0, q1, decide_true, zax, zaC, zal, zaz, zaB, zat, zau, zas, zaH, zaJ, zar, zav, go_sem, zaa, zah, zai, zaj, zam, zae, ↓reduceIte, reduceCtorEq, zab, zad, zan, zao, zap, zaM, zaO, zaI, zaN, renO, bk, back, outUpsFrom, Ints_ren])
 | (intros; omega)
 | (intros; (try simp only [zaG, zaK, zaF, zaE, zaw, zaA, decide_eq_true_eq, decide_eq_false_iff_not] at *); omega))
    refine w_loop (ι := Nat × Int) (fun s => ⟨[(1, gr C k), (2, gi G kg), (3, i1 at'), (5, .one (.optr 0 0)), (10, .one (.optr 1 0)), (12, i1 v), (14, .one (.optr 2 0)), (15, i1 i), (16, gi U none), (17, i1 s.1)], [(0, some ⟨[.gsl (Cs l) 0 l.length none, int n], 2⟩), (1, some ⟨[int 0, .sc (.slice none 0 0), int 0], 3⟩), (2, some ⟨[int v, .sc (.slice none 0 0), int s.2], 3⟩)], 3⟩) (fun s => s.1 ≤ U.length ∧ fgF l n G at' (U.drop s.1) s.2 = R) (fun s => U.length - s.1) (0, 0) ?_ ⟨zaV _, hgf⟩ ?_
    · (refine imp_ren _ _ _ [(0, 0, ⟨[.gsl (Cs l) 0 l.length none, int n], 2⟩), (1, 1, ⟨[int 0, .sc (.slice none 0 0), int 0], 3⟩), (2, 2, ⟨[int v, .sc (.slice none 0 0), int 0], 3⟩)] (by simp) (by simp) (by simp) (zaD rfl) ?_ rfl (by simp only [zac, zaf, false_implies, implies_true, and_true, zaR, lookR, zaa, if_true, if_false, ↓reduceIte] <;> (repeat' apply zay) <;> (first | rfl | trivial)) (by simp only [zac, zaf, false_implies, implies_true, and_true, true_and, flat_cons, flat_nil, flat_ints, flat_bools, flat_app, zaL, and_self, eq_self_iff_true, zal]); simp only [zag, zak, zac, zaf, false_implies, implies_true, and_true, lk, slot, zaM, zaI, toN, zaa, if_true, if_false, ↓reduceIte, reduceCtorEq])
      all_goals ((repeat' apply zay) <;> (first | rfl | trivial))
    clear hanc hgf
    rintro ⟨m, acc⟩ ⟨hm, hI⟩
    simp only at hm hI ⊢
    rcases zaT m U.length with hml | hmg
    case inr =>
      have c2 : ¬ (m : Int) < (U.length : Int) := by omega
      rw [zaY hmg] at hI
      have hI : acc = R := hI
      simp only [go_sem, zaa, zah, zai, zaj, zam, zae, ↓reduceIte, reduceCtorEq, zab, zad, zan, zao, zap, decide_eq_false c2]
      repeat' (first
 | with_reducible refine zay ?_ ?_
 | (intros; omega)
 | (intros; (try simp only [zaG, zaK, zaF, zaE, zaw, zaA, decide_eq_true_eq, decide_eq_false_iff_not] at *); omega))
      refine le_mk (i + 1, acc) ?_ ⟨hlt, .inr ⟨hno, hI⟩⟩ (by show C.length - (i + 1) < C.length - i; omega)
      (refine imp_ren _ _ _ [(0, 0, ⟨[.gsl (Cs l) 0 l.length none, int n], 2⟩), (1, 1, ⟨[int 0, .sc (.slice none 0 0), int 0], 3⟩), (2, 2, ⟨[int v, .sc (.slice none 0 0), int acc], 3⟩)] (by simp) (by simp) (by simp) (zaD rfl) ?_ rfl (by simp only [zac, zaf, false_implies, implies_true, and_true, zaR, lookR, zaa, if_true, if_false, ↓reduceIte] <;> (repeat' apply zay) <;> (first | rfl | trivial)) (by simp only [zac, zaf, false_implies, implies_true, and_true, true_and, flat_cons, flat_nil, flat_ints, flat_bools, flat_app, zaL, and_self, eq_self_iff_true, zal]); simp only [zag, zak, zac, zaf, false_implies, implies_true, and_true, lk, slot, zaM, zaI, toN, zaa, if_true, if_false, ↓reduceIte, reduceCtorEq])
      all_goals ((repeat' apply zay) <;> (first | rfl | trivial | (simp only [zaq]; done) | (simp only [zaq]; rfl) | (simp only [zaq]; trivial)))
    have c2 : (m : Int) < (U.length : Int) := by omega
    rw [drop_getD U m 0 hml] at hI
    have hel : ∃ a, U.getD m 0 = a := ⟨_, rfl⟩
    obtain ⟨a, hel⟩ := hel
    rw [hel] at hI
    have hI : fgF l n G at' (U.drop (m + 1)) (if a ∈ G ∧ at' ∈ ancM l n a then a else acc) = R := hI
    have k0 := fun k => hGs k a
    have k1 := bl a
    by_cases w1 : a ∈ G
    case neg =>
      rw [if_neg (fun e => w1 e.1)] at hI
      simp only [decide_eq_false w1] at k0
      simp only [go_sem, zaa, zah, zai, zaj, zam, zae, ↓reduceIte, reduceCtorEq, zab, zad, zan, zao, zap, decide_eq_true c2, hel]
      repeat' (first
 | with_reducible refine zay ?_ ?_
 | (unfold OKC; kernel_rfl)
 | (unfold EDG; kernel_rfl)
 | (apply cl_plain
    case hs => rfl
    case ha => (simp only [zag, zak, prepV, prepC, idx, hpL', lookR, zaa, if_true, if_false]; rfl)
    case h => (first | exact k0 .. | exact k1 ..))
 | ((first | refine s1_id ?_ | refine swp_id ?_ | refine sops_id ?_ | refine s2_id ?_); simp only [decide_eq_true c2, hel, zax, zaC, zal, zaz, zaB, zat, zau, zas, zaH, zaJ, zar, zav, go_sem, zaa, zah, zai, zaj, zam, zae, ↓reduceIte, reduceCtorEq, zab, zad, zan, zao, zap, zaM, zaO, zaI, zaN, renO, bk, back, outUpsFrom, Ints_ren])
 | (intros; omega)
 | (intros; (try simp only [zaG, zaK, zaF, zaE, zaw, zaA, decide_eq_true_eq, decide_eq_false_iff_not] at *); omega))
      refine le_mk (m + 1, acc) ?_ ⟨hml, hI⟩ (by show U.length - (m + 1) < U.length - m; omega)
      (refine imp_ren _ _ _ [(0, 0, ⟨[.gsl (Cs l) 0 l.length none, int n], 2⟩), (1, 1, ⟨[int 0, .sc (.slice none 0 0), int 0], 3⟩), (2, 2, ⟨[int v, .sc (.slice none 0 0), int acc], 3⟩)] (by simp) (by simp) (by simp) (zaD rfl) ?_ rfl (by simp only [zac, zaf, false_implies, implies_true, and_true, zaR, lookR, zaa, if_true, if_false, ↓reduceIte] <;> (repeat' apply zay) <;> (first | rfl | trivial)) (by simp only [zac, zaf, false_implies, implies_true, and_true, true_and, flat_cons, flat_nil, flat_ints, flat_bools, flat_app, zaL, and_self, eq_self_iff_true, zal]); simp only [zag, zak, zac, zaf, false_implies, implies_true, and_true, lk, slot, zaM, zaI, toN, zaa, if_true, if_false, ↓reduceIte, reduceCtorEq])
      all_goals ((repeat' apply zay) <;> (first | rfl | trivial | (simp only [zaq]; done) | (simp only [zaq]; rfl) | (simp only [zaq]; trivial)))
    simp only [decide_eq_true w1] at k0
    by_cases w2 : at' ∈ ancM l n a
    case neg =>
      rw [if_neg (fun e => w2 e.2)] at hI
      rw [decide_eq_false w2] at k1
      simp only [go_sem, zaa, zah, zai, zaj, zam, zae, ↓reduceIte, reduceCtorEq, zab, zad, zan, zao, zap, decide_eq_true c2, hel]
      repeat' (first
 | with_reducible refine zay ?_ ?_
 | (unfold OKC; kernel_rfl)
 | (unfold EDG; kernel_rfl)
 | (apply cg_tp
    case hl => rfl
    case ha => (simp only [zag, zak, prepV, prepC, idx, hpL', lookR, zaa, if_true, if_false]; rfl)
    case hs => rfl
    case h => (first | exact k0 .. | exact k1 ..))
 | (apply cl_plain
    case hs => rfl
    case ha => (simp only [zag, zak, prepV, prepC, idx, hpL', lookR, zaa, if_true, if_false]; rfl)
    case h => (first | exact k0 .. | exact k1 ..))
 | ((first | refine s1_id ?_ | refine swp_id ?_ | refine sops_id ?_ | refine s2_id ?_); simp only [decide_eq_true c2, hel, zax, zaC, zal, zaz, zaB, zat, zau, zas, zaH, zaJ, zar, zav, go_sem, zaa, zah, zai, zaj, zam, zae, ↓reduceIte, reduceCtorEq, zab, zad, zan, zao, zap, zaM, zaO, zaI, zaN, renO, bk, back, outUpsFrom, Ints_ren])
 | (intros; omega)
 | (intros; (try simp only [zaG, zaK, zaF, zaE, zaw, zaA, decide_eq_true_eq, decide_eq_false_iff_not] at *); omega))
      refine le_mk (m + 1, acc) ?_ ⟨hml, hI⟩ (by show U.length - (m + 1) < U.length - m; omega)
      (refine imp_ren _ _ _ [(0, 0, ⟨[.gsl (Cs l) 0 l.length none, int n], 2⟩), (1, 1, ⟨[int 0, .sc (.slice none 0 0), int 0], 3⟩), (2, 2, ⟨[int v, .sc (.slice none 0 0), int acc], 3⟩)] (by simp) (by simp) (by simp) (zaD rfl) ?_ rfl (by simp only [zac, zaf, false_implies, implies_true, and_true, zaR, lookR, zaa, if_true, if_false, ↓reduceIte] <;> (repeat' apply zay) <;> (first | rfl | trivial)) (by simp only [zac, zaf, false_implies, implies_true, and_true, true_and, flat_cons, flat_nil, flat_ints, flat_bools, flat_app, zaL, and_self, eq_self_iff_true, zal]); simp only [zag, zak, zac, zaf, false_implies, implies_true, and_true, lk, slot, zaM, zaI, toN, zaa, if_true, if_false, ↓reduceIte, reduceCtorEq])
      all_goals ((repeat' apply zay) <;> (first | rfl | trivial | (simp only [zaq]; done) | (simp only [zaq]; rfl) | (simp only [zaq]; trivial)))
    rw [if_pos ⟨w1, w2⟩] at hI
    rw [decide_eq_true w2] at k1
    simp only [go_sem, zaa, zah, zai, zaj, zam, zae, ↓reduceIte, reduceCtorEq, zab, zad, zan, zao, zap, decide_eq_true c2, hel]
    repeat' (first
 | with_reducible refine zay ?_ ?_
 | (unfold OKC; kernel_rfl)
 | (unfold EDG; kernel_rfl)
 | (apply cg_tp
    case hl => rfl
    case ha => (simp only [zag, zak, prepV, prepC, idx, hpL', lookR, zaa, if_true, if_false]; rfl)
    case hs => rfl
    case h => (first | exact k0 .. | exact k1 ..))
 | (apply cl_plain
    case hs => rfl
    case ha => (simp only [zag, zak, prepV, prepC, idx, hpL', lookR, zaa, if_true, if_false]; rfl)
    case h => (first | exact k0 .. | exact k1 ..))
 | ((first | refine s1_id ?_ | refine swp_id ?_ | refine sops_id ?_ | refine s2_id ?_); simp only [decide_eq_true c2, hel, zax, zaC, zal, zaz, zaB, zat, zau, zas, zaH, zaJ, zar, zav, go_sem, zaa, zah, zai, zaj, zam, zae, ↓reduceIte, reduceCtorEq, zab, zad, zan, zao, zap, zaM, zaO, zaI, zaN, renO, bk, back, outUpsFrom, Ints_ren])
 | (intros; omega)
 | (intros; (try simp only [zaG, zaK, zaF, zaE, zaw, zaA, decide_eq_true_eq, decide_eq_false_iff_not] at *); omega))
    refine le_mk (m + 1, a) ?_ ⟨hml, hI⟩ (by show U.length - (m + 1) < U.length - m; omega)
    (refine imp_ren _ _ _ [(0, 0, ⟨[.gsl (Cs l) 0 l.length none, int n], 2⟩), (1, 1, ⟨[int 0, .sc (.slice none 0 0), int 0], 3⟩), (2, 2, ⟨[int v, .sc (.slice none 0 0), int a], 3⟩)] (by simp) (by simp) (by simp) (zaD rfl) ?_ rfl (by simp only [zac, zaf, false_implies, implies_true, and_true, zaR, lookR, zaa, if_true, if_false, ↓reduceIte] <;> (repeat' apply zay) <;> (first | rfl | trivial)) (by simp only [zac, zaf, false_implies, implies_true, and_true, true_and, flat_cons, flat_nil, flat_ints, flat_bools, flat_app, zaL, and_self, eq_self_iff_true, zal]); simp only [zag, zak, zac, zaf, false_implies, implies_true, and_true, lk, slot, zaM, zaI, toN, zaa, if_true, if_false, ↓reduceIte, reduceCtorEq])
    all_goals ((repeat' apply zay) <;> (first | rfl | trivial | (simp only [zaq]; done) | (simp only [zaq]; rfl) | (simp only [zaq]; trivial)))
  have c : ¬ (i : Int) < (C.length : Int) := by omega
  rw [zaY hge] at hI
  have hI : acc = R := by
    rcases hI with ⟨h, _⟩ | ⟨_, e⟩
    · cases h
    · exact e
  subst hI
  clear hanc hgf bl hGs
  simp only [go_sem, zaa, zah, zai, zaj, zam, zae, ↓reduceIte, reduceCtorEq, zab, zad, zan, zao, zap, decide_eq_false c]
  repeat' (first
 | (intros; (try simp only [zaG, zaK, zaF, zaE, zaw, zaA, decide_eq_true_eq, decide_eq_false_iff_not] at *); omega))
  refine w_loop (ι := Nat) (fun m => ⟨[(1, gr C k), (5, .one (.optr 0 0)), (10, .one (.optr 1 0)), (12, i1 v), (14, .one (.optr 2 0)), (18, i1 m)], [(0, some ⟨[.gsl (Cs l) 0 l.length none, int n], 2⟩), (1, some ⟨[int 0, .sc (.slice none 0 0), int 0], 3⟩), (2, some ⟨[int v, .osl 3 0 (plS (fsF l n acc v) C m).length none, int acc], 3⟩), (3, some ⟨Ints (plS (fsF l n acc v) C m), 1⟩)], 4⟩) (fun m => m ≤ C.length) (fun m => C.length - m) 0 ?_ (zaV _) ?_
  · (refine Imp.trans (imp_nilC _ _ 2 1 1 99 (by simp only []; omega) (by simp only [zaR, lookR, zaa, if_true, if_false, ↓reduceIte]; rfl) rfl) ?_)
    (refine imp_sub _ _ _ [(0, 0), (1, 1), (2, 2), (3, 99)] (by simp) (by simp) (by simp) (zaD rfl) ?_ (by simp only [zag, zak, zaR, lookR, renO, zaN, zaI, toN, Ints_ren, Bools_ren, zaa, if_true, if_false, ↓reduceIte] <;> (try rfl)) (by simp only [zac, zaf, false_implies, implies_true, and_true, zaR, lookR, zaa, if_true, if_false, ↓reduceIte, Option.some.injEq, forall_eq'] <;> ((repeat' with_reducible apply zay) <;> (first | with_reducible trivial | exact fun c hc q hq => absurd hq (Ints_refs0 _ _ c hc) | (simp [zaL, toN]; done)))); simp only [zag, zak, zac, zaf, false_implies, implies_true, and_true, lk, slot, zaM, zaI, toN, zaa, if_true, if_false, ↓reduceIte, reduceCtorEq])
    all_goals ((repeat' apply zay) <;> (first | rfl | trivial))
  clear hi hge c i hinj
  intro m hm
  simp only at hm ⊢
  rcases zaT m C.length with hlt | hge
  case inr =>
    have c : ¬ (m : Int) < (C.length : Int) := by omega
    rw [plS_all _ _ m hge]
    simp only [go_sem, zaa, zah, zai, zaj, zam, zae, ↓reduceIte, reduceCtorEq, zab, zad, zan, zao, zap, decide_eq_false c]
    repeat' (first
 | (intros; (try simp only [zaG, zaK, zaF, zaE, zaw, zaA, decide_eq_true_eq, decide_eq_false_iff_not] at *); omega))
    (refine fs_mk [3] (by simp) (by decide) (by simp only [go_sem, resV, resS, zaM, zaO, zaI, St.tmF, zaR, idx, renO, zaN, evS, slot, lookR, zaa, ↓reduceIte, reduceCtorEq, if_true, if_false, zba, zbb, zag, zak, sLoad, readAt, readNeed, Ints_ren, Ints_length, Ints_getD, and_true, true_and, zaW, zaX]; try decide) ?_ ?_ ?_ <;> (try simp only [go_sem, resV, resS, zaM, zaO, zaI, St.tmF, zaR, idx, renO, zaN, evS, slot, lookR, zaa, ↓reduceIte, reduceCtorEq, if_true, if_false, zba, zbb, zag, zak, sLoad, readAt, readNeed, Ints_ren, Ints_length, Ints_getD, and_true, true_and, zaW, zaX, zaR, lookR, renO, zaN, zaI, idx, zag, zak, Ints_ren, zac, zaf, false_implies, implies_true, Option.some.injEq, forall_eq', and_true, true_and]) <;> (try rfl) <;> (try ((repeat' apply zay) <;> (first | trivial | exact fun c hc q hq => absurd hq (Ints_refs0 _ _ c hc) | (simp [zaL]; done)))))
  have c : (m : Int) < (C.length : Int) := by omega
  have hat := cd_td C m hlt
  have q0 := cd_f C m 0 (.sc (.int .i64 0)) hlt (by decide)
  rw [zbi] at q0
  have q0 : (Cs C).getD (m * 4) (.sc (.int .i64 0)) = int (gD C m).p := q0
  have hsu := plS_succ (fsF l n acc v) C m hlt
  have hpl := plS_len (fsF l n acc v) C m hm
  have k1 := hmay (gD C m)
  have hfe : fsF l n acc v (gD C m) = if acc = 0 then decide ((gD C m).p = v) else mayF l n acc (gD C m) := rfl
  rw [hfe] at hsu
  generalize mayF l n acc (gD C m) = bm at *
  generalize plS (fsF l n acc v) C m = A at *
  clear hmay hfe
  generalize gD C m = x at *
  obtain ⟨p, g, n', a⟩ := x
  simp only [cdc] at hat k1 q0 hsu
  have htk : List.take A.length (Ints A) = Ints A := zbg (by rw [Ints_length]; exact Nat.le_refl _)
  have hpp : Ints A ++ [int p] = Ints (A ++ [p]) := by simp [Ints]
  have hAl : (A ++ [p]).length = A.length + 1 := by simp
  by_cases h0 : acc = 0
  · rw [if_pos h0] at hsu
    by_cases hp : p = v
    · rw [if_pos (decide_eq_true hp)] at hsu
      simp only [go_sem, zaa, zah, zai, zaj, zam, zae, ↓reduceIte, reduceCtorEq, zab, zad, zan, zao, zap, decide_eq_true c, decide_eq_true h0, decide_eq_true hp, q0, htk, hpp]
      repeat' (first
 | with_reducible refine zay ?_ ?_
 | (unfold OKC; kernel_rfl)
 | (unfold EDG; kernel_rfl)
 | (intros; omega)
 | (intros; (try simp only [zaG, zaK, zaF, zaE, zaw, zaA, decide_eq_true_eq, decide_eq_false_iff_not] at *); omega))
      refine le_mk (m + 1) ?_ hlt (by show C.length - (m + 1) < C.length - m; omega)
      simp only [hsu, hAl]
      (refine imp_sub _ _ _ [(0, 0), (1, 1), (2, 2), (3, 43)] (by simp) (by simp) (by simp) (zaD rfl) ?_ (by simp only [zag, zak, zaR, lookR, renO, zaN, zaI, toN, Ints_ren, Bools_ren, zaa, if_true, if_false, ↓reduceIte] <;> (try rfl)) (by simp only [zac, zaf, false_implies, implies_true, and_true, zaR, lookR, zaa, if_true, if_false, ↓reduceIte, Option.some.injEq, forall_eq'] <;> ((repeat' with_reducible apply zay) <;> (first | with_reducible trivial | exact fun c hc q hq => absurd hq (Ints_refs0 _ _ c hc) | (simp [zaL, toN]; done)))); simp only [zag, zak, zac, zaf, false_implies, implies_true, and_true, lk, slot, zaM, zaI, toN, zaa, if_true, if_false, ↓reduceIte, reduceCtorEq])
      all_goals ((repeat' apply zay) <;> (first | rfl | trivial | (simp only [zaq]; done) | (simp only [zaq]; rfl) | (simp only [zaq]; trivial)))
    · rw [if_neg (fun e => hp (of_decide_eq_true e))] at hsu
      simp only [go_sem, zaa, zah, zai, zaj, zam, zae, ↓reduceIte, reduceCtorEq, zab, zad, zan, zao, zap, decide_eq_true c, decide_eq_true h0, decide_eq_false hp, q0]
      repeat' (first
 | with_reducible refine zay ?_ ?_
 | (unfold OKC; kernel_rfl)
 | (unfold EDG; kernel_rfl)
 | (intros; omega)
 | (intros; (try simp only [zaG, zaK, zaF, zaE, zaw, zaA, decide_eq_true_eq, decide_eq_false_iff_not] at *); omega))
      refine le_mk (m + 1) ?_ hlt (by show C.length - (m + 1) < C.length - m; omega)
      simp only [hsu]
      (refine imp_sub _ _ _ [(0, 0), (1, 1), (2, 2), (3, 3)] (by simp) (by simp) (by simp) (zaD rfl) ?_ (by simp only [zag, zak, zaR, lookR, renO, zaN, zaI, toN, Ints_ren, Bools_ren, zaa, if_true, if_false, ↓reduceIte] <;> (try rfl)) (by simp only [zac, zaf, false_implies, implies_true, and_true, zaR, lookR, zaa, if_true, if_false, ↓reduceIte, Option.some.injEq, forall_eq'] <;> ((repeat' with_reducible apply zay) <;> (first | with_reducible trivial | exact fun c hc q hq => absurd hq (Ints_refs0 _ _ c hc) | (simp [zaL, toN]; done)))); simp only [zag, zak, zac, zaf, false_implies, implies_true, and_true, lk, slot, zaM, zaI, toN, zaa, if_true, if_false, ↓reduceIte, reduceCtorEq])
      all_goals ((repeat' apply zay) <;> (first | rfl | trivial | (simp only [zaq]; done) | (simp only [zaq]; rfl) | (simp only [zaq]; trivial)))
  · rw [if_neg h0] at hsu
    cases bm with
    | true =>
      rw [if_pos rfl] at hsu
      simp only [go_sem, zaa, zah, zai, zaj, zam, zae, ↓reduceIte, reduceCtorEq, zab, zad, zan, zao, zap, decide_eq_true c, decide_eq_false h0, q0, hat, htk, hpp]
      repeat' (first
 | with_reducible refine zay ?_ ?_
 | (unfold OKC; kernel_rfl)
 | (unfold EDG; kernel_rfl)
 | (apply cg_tp
    case hl => rfl
    case ha => (simp only [zag, zak, prepV, prepC, idx, hpL', lookR, zaa, if_true, if_false]; rfl)
    case hs => rfl
    case h => (first | exact k1 ..))
 | ((first | refine s1_id ?_ | refine swp_id ?_ | refine sops_id ?_ | refine s2_id ?_); simp only [decide_eq_true c, decide_eq_false h0, q0, hat, htk, hpp, zax, zaC, zal, zaz, zaB, zat, zau, zas, zaH, zaJ, zar, zav, go_sem, zaa, zah, zai, zaj, zam, zae, ↓reduceIte, reduceCtorEq, zab, zad, zan, zao, zap, zaM, zaO, zaI, zaN, renO, bk, back, outUpsFrom, Ints_ren])
 | (intros; omega)
 | (intros; (try simp only [zaG, zaK, zaF, zaE, zaw, zaA, decide_eq_true_eq, decide_eq_false_iff_not] at *); omega))
      refine le_mk (m + 1) ?_ hlt (by show C.length - (m + 1) < C.length - m; omega)
      simp only [hsu, hAl]
      (refine imp_sub _ _ _ [(0, 0), (1, 1), (2, 2), (3, 43)] (by simp) (by simp) (by simp) (zaD rfl) ?_ (by simp only [zag, zak, zaR, lookR, renO, zaN, zaI, toN, Ints_ren, Bools_ren, zaa, if_true, if_false, ↓reduceIte] <;> (try rfl)) (by simp only [zac, zaf, false_implies, implies_true, and_true, zaR, lookR, zaa, if_true, if_false, ↓reduceIte, Option.some.injEq, forall_eq'] <;> ((repeat' with_reducible apply zay) <;> (first | with_reducible trivial | exact fun c hc q hq => absurd hq (Ints_refs0 _ _ c hc) | (simp [zaL, toN]; done)))); simp only [zag, zak, zac, zaf, false_implies, implies_true, and_true, lk, slot, zaM, zaI, toN, zaa, if_true, if_false, ↓reduceIte, reduceCtorEq])
      all_goals ((repeat' apply zay) <;> (first | rfl | trivial | (simp only [zaq]; done) | (simp only [zaq]; rfl) | (simp only [zaq]; trivial)))
    | false =>
      rw [if_neg (by decide)] at hsu
      simp only [go_sem, zaa, zah, zai, zaj, zam, zae, ↓reduceIte, reduceCtorEq, zab, zad, zan, zao, zap, decide_eq_true c, decide_eq_false h0, q0, hat]
      repeat' (first
 | with_reducible refine zay ?_ ?_
 | (unfold OKC; kernel_rfl)
 | (unfold EDG; kernel_rfl)
 | (apply cg_tp
    case hl => rfl
    case ha => (simp only [zag, zak, prepV, prepC, idx, hpL', lookR, zaa, if_true, if_false]; rfl)
    case hs => rfl
    case h => (first | exact k1 ..))
 | ((first | refine s1_id ?_ | refine swp_id ?_ | refine sops_id ?_ | refine s2_id ?_); simp only [decide_eq_true c, decide_eq_false h0, q0, hat, zax, zaC, zal, zaz, zaB, zat, zau, zas, zaH, zaJ, zar, zav, go_sem, zaa, zah, zai, zaj, zam, zae, ↓reduceIte, reduceCtorEq, zab, zad, zan, zao, zap, zaM, zaO, zaI, zaN, renO, bk, back, outUpsFrom, Ints_ren])
 | (intros; omega)
 | (intros; (try simp only [zaG, zaK, zaF, zaE, zaw, zaA, decide_eq_true_eq, decide_eq_false_iff_not] at *); omega))
      refine le_mk (m + 1) ?_ hlt (by show C.length - (m + 1) < C.length - m; omega)
      simp only [hsu]
      (refine imp_sub _ _ _ [(0, 0), (1, 1), (2, 2), (3, 3)] (by simp) (by simp) (by simp) (zaD rfl) ?_ (by simp only [zag, zak, zaR, lookR, renO, zaN, zaI, toN, Ints_ren, Bools_ren, zaa, if_true, if_false, ↓reduceIte] <;> (try rfl)) (by simp only [zac, zaf, false_implies, implies_true, and_true, zaR, lookR, zaa, if_true, if_false, ↓reduceIte, Option.some.injEq, forall_eq'] <;> ((repeat' with_reducible apply zay) <;> (first | with_reducible trivial | exact fun c hc q hq => absurd hq (Ints_refs0 _ _ c hc) | (simp [zaL, toN]; done)))); simp only [zag, zak, zac, zaf, false_implies, implies_true, and_true, lk, slot, zaM, zaI, toN, zaa, if_true, if_false, ↓reduceIte, reduceCtorEq])
      all_goals ((repeat' apply zay) <;> (first | rfl | trivial | (simp only [zaq]; done) | (simp only [zaq]; rfl) | (simp only [zaq]; trivial)))
theorem rdecide_spec (l : List Nd) (n : Int) (C : List Cd) (k : Option Nat) (G : List Int) (kg : Option Nat) (at' t : Int) (hl : l.length ≤ 1000000) (hC : C.length ≤ 1000000) (hG : G.length ≤ 9223372036854775807) (hnm : NmR l) : FnSpec Try.prog 30 [trV l none n, gr C k, gi G kg, i1 at', i1 t] [] (.tup [.agg [int (deM l n C G at' t).1.1, .gsl (Ints (deM l n C G at' t).1.2.1) 0 (deM l n C G at' t).1.2.1.length none, int (deM l n C G at' t).1.2.2], i1 (deM l n C G at' t).2]) [] := by
  have h := (rdecide_own l n C k G kg at' t hl hC hG hnm).frz1 (Ints_isG _)
  simpa only [SV.frz, SV.frzL, Cell.frz, zag, zak, if_true] using h
end Go.Proofs.Ytlajelbiniakpaa
-- NEWGO
-- PRUNE: cl_lendx cl_use
-- ISG: Cs_isG
-- FLAT: Cs_flat
namespace Go.Proofs.Ytlajelbiniakpaa
set_option linter.unusedVariables false
set_option linter.unusedSimpArgs false
open Go.Proofs.Ytlajelbiniakpaa.Sh
set_option maxRecDepth 20000
theorem skill_spec (v g : Int) (P : List Int) (hl : P.length ≤ 9223372036854775806) : FnSpec Try.prog 34 [.agg [int v, .gsl (Ints P) 0 P.length none, int g], .agg [int v, .gsl (Ints P) 0 P.length none, int g]] [] (b1 true) [] := by
  have h1 := ksame_spec P P none none hl
  rw [decide_eq_true rfl] at h1
  refine fnspec_of mixed TT_ok TT_cl ⟨fun _ => false, fun _ => [], 0, fun _ => false, fun _ => false⟩ Try.func34 rfl (by kernel_rfl) rfl 24 rfl [.tmp 4] rfl ?_
  simp only [go_sem, zaa, zah, zai, zaj, zam, zae, ↓reduceIte, reduceCtorEq, zab, zad, zan, zao, zap]
  repeat' (first
 | (apply cg_tp
    case hl => rfl
    case ha => (simp only [zag, zak, prepV, prepC, idx, hpL', lookR, zaa, if_true, if_false]; rfl)
    case hs => rfl
    case h => (first | exact h1 ..))
 | ((first | refine s1_id ?_ | refine swp_id ?_ | refine sops_id ?_ | refine s2_id ?_); simp only [decide_true, zax, zaC, zal, zaz, zaB, zat, zau, zas, zaH, zaJ, zar, zav, go_sem, zaa, zah, zai, zaj, zam, zae, ↓reduceIte, reduceCtorEq, zab, zad, zan, zao, zap, zaM, zaO, zaI, zaN, renO, bk, back, outUpsFrom, Ints_ren])
 | exact fs_nil trivial rfl
 | fail)
theorem prM_len (l : List Nd) (n : Int) (C : List Cd) (g v : Int) : (prM l n C g v).length ≤ C.length + 1 := by
  unfold prM
  split
  · simp
  · rw [List.length_map]
    have : (wiM l n C g).length ≤ C.length := List.length_filter_le _ _
    omega
theorem deM_len (l : List Nd) (n : Int) (C : List Cd) (G : List Int) (at' t : Int) : (deM l n C G at' t).1.2.1.length ≤ C.length + 1 := by
  unfold deM
  split
  · exact prM_len ..
  · exact zaV _
set_option maxHeartbeats 16000000 in
theorem exact29_spec (l : List Nd) (n : Int) (C : List Cd) (G : List Int) (at' t : Int) (hl : l.length ≤ 1000000) (hC : C.length ≤ 1000000) (hG : G.length ≤ 9223372036854775807) (hnm : NmR l) (hct : CtR l) : FnSpec Try.prog 14 [trV l none n, gr C none, gi G none, i1 at', i1 t] [] (b1 true) [] := by
  have v1 := victim_spec l n C none at' t hl hC hnm hct
  have v2 := rvictim_spec l n C none at' t hl hC hnm
  have d1 := decide_spec l n C none G none at' t hl hC (by omega) hnm hct
  have d2 := rdecide_spec l n C none G none at' t hl hC hG hnm
  have a1 := kvalid_spec l n C none hl (by omega) hnm hct
  have a2 := rvalid29_spec l n C none hl (by omega) hnm
  have hdl := deM_len l n C G at' t
  have hcl := cd_len C
  generalize vaM l n C = vb at *
  generalize (viM l n C at' t).1.p = va at *
  generalize (viM l n C at' t).2 = ve at *
  generalize deM l n C G at' t = q at *
  obtain ⟨⟨dv, P, dg⟩, de⟩ := q
  simp only at d1 d2 hdl
  have s1 := skill_spec dv dg P (by omega)
  refine fnspec_of mixed TT_ok TT_cl ⟨fun _ => false, fun _ => [], 0, fun _ => false, fun _ => false⟩ Try.func14 rfl (by kernel_rfl) rfl 117 rfl [.tmp 10] rfl ?_
  simp only [go_sem, zaa, zah, zai, zaj, zam, zae, ↓reduceIte, reduceCtorEq, zab, zad, zan, zao, zap]
  repeat' (first
 | (apply cl_plain
    case hs => rfl
    case ha => (simp only [zag, zak, prepV, prepC, idx, hpL', lookR, zaa, if_true, if_false]; rfl)
    case h => (first | exact v1 .. | exact v2 .. | exact d1 .. | exact d2 ..))
 | ((first | refine s1_id ?_ | refine swp_id ?_ | refine sops_id ?_ | refine s2_id ?_); simp only [zax, zaC, zal, zaz, zaB, zat, zau, zas, zaH, zaJ, zar, zav, go_sem, zaa, zah, zai, zaj, zam, zae, ↓reduceIte, reduceCtorEq, zab, zad, zan, zao, zap, zaM, zaO, zaI, zaN, renO, bk, back, outUpsFrom, Ints_ren])
 | (intros; (try simp only [zaG, zaK, zaF, zaE, zaw, zaA, decide_eq_true_eq, decide_eq_false_iff_not] at *); omega))
  refine w_loop (ι := Nat) (fun i => ⟨[(1, gr C none), (4, i1 t), (5, .one (.optr 0 0)), (11, i1 va), (12, i1 ve), (13, i1 va), (14, i1 ve), (15, .one (.optr 1 0)), (16, i1 de), (17, .one (.optr 2 0)), (18, i1 de), (19, i1 i)], [(0, some ⟨[.gsl (Cs l) 0 l.length none, int n], 2⟩), (1, some ⟨[int dv, .gsl (Ints P) 0 P.length none, int dg], 3⟩), (2, some ⟨[int dv, .gsl (Ints P) 0 P.length none, int dg], 3⟩)], 3⟩) (fun i => i ≤ C.length) (fun i => C.length - i) 0 ?_ (zaV _) ?_
  · (refine imp_ren _ _ _ [(0, 0, ⟨[.gsl (Cs l) 0 l.length none, int n], 2⟩), (1, 31, ⟨[int dv, .gsl (Ints P) 0 P.length none, int dg], 3⟩), (2, 43, ⟨[int dv, .gsl (Ints P) 0 P.length none, int dg], 3⟩)] (by simp) (by simp) (by simp) (zaD rfl) ?_ rfl (by simp only [zac, zaf, false_implies, implies_true, and_true, zaR, lookR, zaa, if_true, if_false, ↓reduceIte] <;> (repeat' apply zay) <;> (first | rfl | trivial)) (by simp only [zac, zaf, false_implies, implies_true, and_true, true_and, flat_cons, flat_nil, flat_ints, flat_bools, flat_app, zaL, and_self, eq_self_iff_true, zal]); simp only [zag, zak, zac, zaf, false_implies, implies_true, and_true, lk, slot, zaM, zaI, toN, zaa, if_true, if_false, ↓reduceIte, reduceCtorEq])
    all_goals ((repeat' apply zay) <;> (first | rfl | trivial))
  clear v1 v2 d1 d2
  intro i hi
  simp only at hi ⊢
  rcases zaT i C.length with hlt | hge
  case inr =>
    have c : ¬ (i : Int) < (C.length : Int) := by omega
    simp only [go_sem, zaa, zah, zai, zaj, zam, zae, ↓reduceIte, reduceCtorEq, zab, zad, zan, zao, zap, decide_eq_false c]
    repeat' (first
 | with_reducible refine zay ?_ ?_
 | (unfold OKC; kernel_rfl)
 | (unfold EDG; kernel_rfl)
 | (apply cg_tp
    case hl => rfl
    case ha => (simp only [zag, zak, prepV, prepC, idx, hpL', lookR, zaa, if_true, if_false]; rfl)
    case hs => rfl
    case h => (first | exact a1 .. | exact a2 .. | exact s1 ..))
 | (apply cl_plain
    case hs => rfl
    case ha => (simp only [zag, zak, prepV, prepC, idx, hpL', lookR, zaa, if_true, if_false]; rfl)
    case h => (first | exact a1 .. | exact a2 .. | exact s1 ..))
 | ((first | refine s1_id ?_ | refine swp_id ?_ | refine sops_id ?_ | refine s2_id ?_); simp only [decide_eq_false c, decide_true, beq_self_eq_true, zbk, zax, zaC, zal, zaz, zaB, zat, zau, zas, zaH, zaJ, zar, zav, go_sem, zaa, zah, zai, zaj, zam, zae, ↓reduceIte, reduceCtorEq, zab, zad, zan, zao, zap, zaM, zaO, zaI, zaN, renO, bk, back, outUpsFrom, Ints_ren])
 | exact fs_nil trivial rfl
 | fail)
  have c : (i : Int) < (C.length : Int) := by omega
  have hat := cd_td C i hlt
  have k1 := kscore_spec (gD C i) t
  have k2 := rkscore_spec (gD C i) t
  generalize scM (gD C i) t = sm at *
  obtain ⟨sv, se⟩ := sm
  generalize gD C i = x at *
  obtain ⟨p, g, m, a⟩ := x
  simp only [cdc] at hat k1 k2
  simp only [go_sem, zaa, zah, zai, zaj, zam, zae, ↓reduceIte, reduceCtorEq, zab, zad, zan, zao, zap, decide_eq_true c, hat]
  repeat' (first
 | with_reducible refine zay ?_ ?_
 | (apply cl_plain
    case hs => rfl
    case ha => (simp only [zag, zak, prepV, prepC, idx, hpL', lookR, zaa, if_true, if_false]; rfl)
    case h => (first | exact k1 .. | exact k2 ..))
 | ((first | refine s1_id ?_ | refine swp_id ?_ | refine sops_id ?_ | refine s2_id ?_); simp only [decide_eq_true c, hat, decide_true, beq_self_eq_true, zbk, zax, zaC, zal, zaz, zaB, zat, zau, zas, zaH, zaJ, zar, zav, go_sem, zaa, zah, zai, zaj, zam, zae, ↓reduceIte, reduceCtorEq, zab, zad, zan, zao, zap, zaM, zaO, zaI, zaN, renO, bk, back, outUpsFrom, Ints_ren])
 | (intros; omega)
 | (intros; (try simp only [zaG, zaK, zaF, zaE, zaw, zaA, decide_eq_true_eq, decide_eq_false_iff_not] at *); omega))
  refine le_mk (i + 1) ?_ hlt (by show C.length - (i + 1) < C.length - i; omega)
  (refine imp_ren _ _ _ [(0, 0, ⟨[.gsl (Cs l) 0 l.length none, int n], 2⟩), (1, 1, ⟨[int dv, .gsl (Ints P) 0 P.length none, int dg], 3⟩), (2, 2, ⟨[int dv, .gsl (Ints P) 0 P.length none, int dg], 3⟩)] (by simp) (by simp) (by simp) (zaD rfl) ?_ rfl (by simp only [zac, zaf, false_implies, implies_true, and_true, zaR, lookR, zaa, if_true, if_false, ↓reduceIte] <;> (repeat' apply zay) <;> (first | rfl | trivial)) (by simp only [zac, zaf, false_implies, implies_true, and_true, true_and, flat_cons, flat_nil, flat_ints, flat_bools, flat_app, zaL, and_self, eq_self_iff_true, zal]); simp only [zag, zak, zac, zaf, false_implies, implies_true, and_true, lk, slot, zaM, zaI, toN, zaa, if_true, if_false, ↓reduceIte, reduceCtorEq])
  all_goals ((repeat' apply zay) <;> (first | rfl | trivial | (simp only [zaq]; done) | (simp only [zaq]; rfl) | (simp only [zaq]; trivial)))
end Go.Proofs.Ytlajelbiniakpaa
-- NEWGO
-- PRUNE: cl_lendx
-- ISG: Cs_isG
-- FLAT: Cs_flat
namespace Go.Proofs.Ytlajelbiniakpaa
set_option linter.unusedVariables false
set_option linter.unusedSimpArgs false
open Go.Proofs.Ytlajelbiniakpaa.Sh
set_option maxRecDepth 20000
def lendKO : FuncId → List Nat := fun f => if f = 12 then [0] else if f = 13 then [0] else []
set_option maxHeartbeats 16000000 in
theorem cands_own (D : List Int) (hl : D.length ≤ 600) (hr : ∀ x ∈ D, -9223372036854775808 ≤ x ∧ x ≤ 9223372036854775807) (l : List Nd) (n : Int) (hV : VT l n) (j : Nat) : FnSpec Try.prog 11 [dp, trV l none n] [dice D j] (.one (.osl 1 0 (mkCd D l j).1.length none)) [some (dice D (mkCd D l j).2), some ⟨Cs (mkCd D l j).1, 4⟩] := by
  have hnl := nd_len l
  have hle := hV.le
  have hne := hV.ne
  have n0 := next_spec D j 9 hl hr (by decide)
  have r0 := nx_rng D j 9 (by decide)
  obtain ⟨T, hT⟩ : ∃ T, mkCd D l j = T := ⟨_, rfl⟩
  rw [hT]
  obtain ⟨R, J⟩ := T
  unfold mkCd at hT
  simp only
  generalize nxA D j 9 = j0 at *
  obtain ⟨u, hu⟩ : ∃ u : Nat, nxV D j 9 = u := ⟨(nxV D j 9).toNat, by omega⟩
  rw [hu] at n0 r0 hT
  rw [Int.toNat_natCast] at hT
  refine fnspec_of mixed TT_ok TT_cl ⟨fun _ => false, lendKO, 1, fun _ => false, fun _ => false⟩ Try.func11 rfl (by kernel_rfl) rfl 41 rfl [.tmp 4] rfl ?_
  simp only [go_sem, zaa, zah, zai, zaj, zam, zae, ↓reduceIte, reduceCtorEq, zab, zad, zan, zao, zap, lendKO]
  repeat' (first
 | (apply cl_lend
    case hr => (simp only [zag, zak, hpL', lookR, zaa, if_true, if_false]; first | exact map1 _ | exact map2 _ _ | exact map3 _ _ _)
    case ha => (simp only [zag, zak, prepV, prepC, idx, hpL', lookR, zaa, if_true, if_false]; rfl)
    case hs => rfl
    case hn => decide
    case h => (first | exact n0 ..)
    case hf => (simp only [zac, zaf, false_implies, implies_true, and_true, true_and, flat_cons, flat_nil, flat_ints, flat_bools, flat_app, Cs_flat, zaL, and_self, eq_self_iff_true, zal])
    case hl => (simp only [zar, zav]; decide))
 | ((first | refine s1_id ?_ | refine swp_id ?_ | refine sops_id ?_ | refine s2_id ?_); simp only [lendKO, dice, go_sem, zaa, zah, zai, zaj, zam, zae, ↓reduceIte, reduceCtorEq, zab, zad, zan, zao, zap, zaM, zaO, zaI, zaN, renO, bk, back, outUpsFrom, Ints_ren])
 | (intros; (try simp only [zaG, zaK, zaF, zaE, zaw, zaA, decide_eq_true_eq, decide_eq_false_iff_not] at *); omega))
  refine w_loop (ι := Nat × Nat × Int × List Cd) (fun s => ⟨[(0, dp), (3, .one (.optr 1 0)), (5, .one (.osl 2 0 s.2.2.2.length none)), (6, i1 s.2.2.1), (7, i1 s.1)], [(0, some (dice D s.2.1)), (1, some ⟨[.gsl (Cs l) 0 l.length none, int n], 2⟩), (2, some ⟨Cs s.2.2.2, 4⟩)], 3⟩) (fun s => s.1 ≤ 8 ∧ s.2.2.2.length ≤ 8 - s.1 ∧ 0 ≤ s.2.2.1 ∧ s.2.2.1 ≤ 3 * (8 - s.1) ∧ cnS D l s.1 s.2.1 s.2.2.1 s.2.2.2 = (R, J)) (fun s => s.1) (u, j0, 0, []) ?_ ⟨by show u ≤ 8; omega, zaV _, Int.le_refl 0, by show (0 : Int) ≤ 3 * (8 - (u : Int)); omega, hT⟩ ?_
  · (refine Imp.trans (imp_nilA _ _ 5 4 99 (by simp only []; omega) rfl) ?_)
    (refine imp_ren _ _ _ [(0, 0, dice D j0), (1, 1, ⟨[.gsl (Cs l) 0 l.length none, int n], 2⟩), (2, 99, ⟨[], 4⟩)] (by simp) (by simp) (by simp) (zaD rfl) ?_ rfl (by simp only [zac, zaf, false_implies, implies_true, and_true, zaR, lookR, zaa, if_true, if_false, ↓reduceIte, dice] <;> (repeat' apply zay) <;> (first | rfl | trivial)) (by simp only [zac, zaf, false_implies, implies_true, and_true, true_and, flat_cons, flat_nil, flat_ints, flat_bools, flat_app, zaL, and_self, eq_self_iff_true, zal, dice]); simp only [zag, zak, zac, zaf, false_implies, implies_true, and_true, lk, slot, zaM, zaI, toN, zaa, if_true, if_false, ↓reduceIte, reduceCtorEq])
    all_goals ((repeat' apply zay) <;> (first | rfl | trivial))
  clear hT
  rintro ⟨m, j1, id', acc⟩ ⟨hm, ha, hi0, hi1, hI⟩
  simp only at hm ha hi0 hi1 hI ⊢
  rcases Nat.eq_zero_or_pos m with h0 | hpos
  · subst h0
    rw [cnS] at hI
    obtain ⟨rfl, rfl⟩ := Prod.mk.inj hI
    have c : ¬ (0 : Int) < ((0 : Nat) : Int) := by omega
    simp only [go_sem, zaa, zah, zai, zaj, zam, zae, ↓reduceIte, reduceCtorEq, zab, zad, zan, zao, zap, decide_eq_false c, lendKO]
    repeat' (first
 | (intros; (try simp only [zaG, zaK, zaF, zaE, zaw, zaA, decide_eq_true_eq, decide_eq_false_iff_not] at *); omega))
    (refine fs_flat [(0, dice D j1), (2, ⟨Cs acc, 4⟩)] (by simp) (by simp only [zag, zak]; decide) (by simp only [go_sem, resV, resS, zaM, zaO, zaI, St.tmF, zaR, idx, renO, zaN, evS, slot, lookR, zaa, ↓reduceIte, reduceCtorEq, if_true, if_false, zba, zbb, zag, zak, sLoad, readAt, readNeed, Ints_ren, Ints_length, Ints_getD, and_true, true_and, zaW, zaX]; try decide) ?_ (by simp only [zac, zaf, false_implies, implies_true, and_true, zaR, lookR, zaa, if_true, if_false, ↓reduceIte, dice, Cs_flat] <;> (repeat' apply zay) <;> (first | rfl | trivial)) (by simp only [zac, zaf, false_implies, implies_true, and_true, true_and, flat_cons, flat_nil, flat_ints, flat_bools, flat_app, zaL, and_self, eq_self_iff_true, zal, dice, Cs_flat]) ?_ <;> (try simp only [go_sem, resV, resS, zaM, zaO, zaI, St.tmF, zaR, idx, renO, zaN, evS, slot, lookR, zaa, ↓reduceIte, reduceCtorEq, if_true, if_false, zba, zbb, zag, zak, sLoad, readAt, readNeed, Ints_ren, Ints_length, Ints_getD, and_true, true_and, zaW, zaX]) <;> (try rfl))
  obtain ⟨m, rfl⟩ : ∃ m', m = m' + 1 := ⟨m - 1, by omega⟩
  have c : (0 : Int) < ((m + 1 : Nat) : Int) := by omega
  rw [cnS] at hI
  unfold cn1 at hI
  simp only at hI
  have n1 := next_spec D j1 3 hl hr (by decide)
  have r1 := nx_rng D j1 3 (by decide)
  generalize nxV D j1 3 = v1 at *
  generalize nxA D j1 3 = j2 at *
  have n2 := next_spec D j2 l.length hl hr (by omega)
  have r2 := nx_rng D j2 l.length (by omega)
  obtain ⟨t, ht⟩ : ∃ t : Nat, nxV D j2 l.length = t := ⟨(nxV D j2 l.length).toNat, by omega⟩
  rw [ht] at n2 r2 hI
  rw [Int.toNat_natCast] at hI
  generalize nxA D j2 l.length = j3 at *
  obtain ⟨q1, _⟩ := nd_f l t (by omega) (.sc (.int .i64 0))
  generalize (gN l t).i = g at *
  have n3 : ∀ c, FnSpec Try.prog 13 [dp, gi pgL c] [dice D j3] (i1 (pkV D j3 pgL)) [some (dice D (nxA D j3 5))] := fun c => kpick_spec D j3 pgL c (by decide) (by decide) hl hr
  generalize pkV D j3 pgL = v3 at *
  generalize nxA D j3 5 = j4 at *
  have n4 : ∀ c, FnSpec Try.prog 13 [dp, gi adL c] [dice D j4] (i1 (pkV D j4 adL)) [some (dice D (nxA D j4 7))] := fun c => kpick_spec D j4 adL c (by decide) (by decide) hl hr
  generalize pkV D j4 adL = v4 at *
  generalize nxA D j4 7 = j5 at *
  have hal := cd_len acc
  have htk : List.take (acc.length * 4) (Cs acc) = Cs acc := zbg (by rw [hal]; exact Nat.le_refl _)
  have hpp : Cs acc ++ [int (id' + (1 + v1)), int g, int v3, int v4] = Cs (acc ++ [⟨id' + (1 + v1), g, v3, v4⟩]) := Cs_snoc acc ⟨id' + (1 + v1), g, v3, v4⟩
  have hla : (acc ++ [(⟨id' + (1 + v1), g, v3, v4⟩ : Cd)]).length = acc.length + 1 := by simp
  generalize acc ++ [(⟨id' + (1 + v1), g, v3, v4⟩ : Cd)] = acc2 at *
  have hm1 : ((m + 1 : Nat) : Int) - 1 = (m : Int) := by omega
  simp only [go_sem, zaa, zah, zai, zaj, zam, zae, ↓reduceIte, reduceCtorEq, zab, zad, zan, zao, zap, decide_eq_true c, lendKO, ht, q1, htk, hpp, hm1]
  repeat' (first
 | with_reducible refine zay ?_ ?_
 | (unfold OKC; kernel_rfl)
 | (unfold EDG; kernel_rfl)
 | (apply cl_lend
    case hr => (simp only [zag, zak, hpL', lookR, zaa, if_true, if_false]; first | exact map1 _ | exact map2 _ _ | exact map3 _ _ _)
    case ha => (simp only [zag, zak, prepV, prepC, idx, hpL', lookR, zaa, if_true, if_false]; rfl)
    case hs => rfl
    case hn => decide
    case h => (first | exact n1 .. | exact n2 .. | exact n3 .. | exact n4 ..)
    case hf => (simp only [zac, zaf, false_implies, implies_true, and_true, true_and, flat_cons, flat_nil, flat_ints, flat_bools, flat_app, Cs_flat, zaL, and_self, eq_self_iff_true, zal])
    case hl => (simp only [zar, zav]; decide))
 | (apply cl_use
    case hr => (simp only [zag, zak, hpL', lookR, zaa, if_true, if_false]; first | exact map0 | exact map1 _ | exact map2 _ _ | exact map3 _ _ _)
    case ha => (simp only [zag, zak, prepV, prepC, idx, hpL', lookR, zaa, if_true, if_false]; rfl)
    case hs => (simp only [snaps, SV.refs, zaL, idx, zbh, zbj, zaB, zaz, zal, zaS, zbc, zaa, if_true, if_false, zbd, zbe, zbf, reduceCtorEq, ↓reduceIte]; rfl)
    case hn => decide
    case h => (first | exact n1 .. | exact n2 .. | exact n3 .. | exact n4 ..)
    case hf => (simp only [zac, zaf, false_implies, implies_true, and_true, true_and, flat_cons, flat_nil, flat_ints, flat_bools, flat_app, Cs_flat, zaL, and_self, eq_self_iff_true, zal])
    case hg => ((simp [hpL', lookR, Cell.isG]) <;> (repeat' apply zay) <;> (first | exact Ints_isG _ | exact Cs_isG _))
    case hl => (simp only [zar, zav]; decide))
 | ((first | refine s1_id ?_ | refine swp_id ?_ | refine sops_id ?_ | refine s2_id ?_); simp only [decide_eq_true c, lendKO, dice, ht, q1, htk, hpp, hm1, zax, zaC, zal, zaz, zaB, zat, zau, zas, zaH, zaJ, zar, zav, go_sem, zaa, zah, zai, zaj, zam, zae, ↓reduceIte, reduceCtorEq, zab, zad, zan, zao, zap, zaM, zaO, zaI, zaN, renO, bk, back, outUpsFrom, Ints_ren])
 | (intros; omega)
 | (intros; (try simp only [zaG, zaK, zaF, zaE, zaw, zaA, decide_eq_true_eq, decide_eq_false_iff_not] at *); omega))
  refine le_mk (m, j5, id' + (1 + v1), acc2) ?_ ⟨by show m ≤ 8; omega, by show acc2.length ≤ 8 - m; omega, by show 0 ≤ id' + (1 + v1); omega, by show id' + (1 + v1) ≤ 3 * (8 - (m : Int)); omega, hI⟩ (Nat.lt_succ_self m)
  simp only [hla]
  (refine imp_ren _ _ _ [(0, 0, dice D j5), (1, 1, ⟨[.gsl (Cs l) 0 l.length none, int n], 2⟩), (2, 31, ⟨Cs acc2, 4⟩)] (by simp) (by simp) (by simp) (zaD rfl) ?_ rfl (by simp only [zac, zaf, false_implies, implies_true, and_true, zaR, lookR, zaa, if_true, if_false, ↓reduceIte, dice, Cs_flat] <;> (repeat' apply zay) <;> (first | rfl | trivial)) (by simp only [zac, zaf, false_implies, implies_true, and_true, true_and, flat_cons, flat_nil, flat_ints, flat_bools, flat_app, zaL, and_self, eq_self_iff_true, zal, dice, Cs_flat]); simp only [zag, zak, zac, zaf, false_implies, implies_true, and_true, lk, slot, zaM, zaI, toN, zaa, if_true, if_false, ↓reduceIte, reduceCtorEq])
  all_goals ((repeat' apply zay) <;> (first | rfl | trivial))
def lendX : FuncId → List Nat := fun f => if f = 12 then [0] else if f = 10 then [0] else if f = 11 then [0] else if f = 15 then [0] else if f = 16 then [0] else if f = 13 then [0] else []
def ttL : List Int := [0, 1, 999, 1000, 1001, 16777216, 16777217, -1]
set_option maxHeartbeats 64000000 in
theorem kex_spec (D : List Int) (l0 : List Nd) (n0 : Int) (C0 : List Cd) (G0 : List Int) (at0 tot : Int) (hr : ∀ x ∈ D, -9223372036854775808 ≤ x ∧ x ≤ 9223372036854775807) (hl0 : l0.length ≤ 9223372036854775807) (hN0 : NmR l0) (hc0 : CtR l0) (hC0 : C0.length ≤ 9223372036854775807) (hG0 : G0.length ≤ 9223372036854775807) : FnSpec Try.prog 3 [gi D none, trV l0 none n0, gr C0 none, gi G0 none, i1 at0, i1 tot] [] (b1 true) [] := by
  by_cases hlen : (D.length : Int) ≤ 600
  case neg =>
    refine fnspec_of mixed TT_ok TT_cl ⟨fun _ => false, lendX, 0, fun _ => false, fun _ => false⟩ Try.func3 rfl (by kernel_rfl) rfl 142 rfl [.tmp 12] rfl ?_
    simp only [go_sem, zaa, zah, zai, zaj, zam, zae, ↓reduceIte, reduceCtorEq, zab, zad, zan, zao, zap, decide_eq_false hlen, lendX]
    repeat' (first
 | (apply cl_plain
    case hs => rfl
    case ha => (simp only [zag, zak, prepV, prepC, idx, hpL', lookR, zaa, if_true, if_false]; rfl)
    case h => (first | exact light_spec .. | exact ksane_spec ..))
 | ((first | refine s1_id ?_ | refine swp_id ?_ | refine sops_id ?_ | refine s2_id ?_); simp only [decide_eq_false hlen, lendX, go_sem, zaa, zah, zai, zaj, zam, zae, ↓reduceIte, reduceCtorEq, zab, zad, zan, zao, zap, zaM, zaO, zaI, zaN, renO, bk, back, outUpsFrom, Ints_ren])
 | exact fs_nil trivial rfl
 | fail)
  have hl : D.length ≤ 600 := by omega
  refine fnspec_of mixed TT_ok TT_cl ⟨fun _ => false, lendX, 0 , fun i => if i = 98 then true else if i = 130 then true else false, fun _ => false⟩ Try.func3 rfl (by kernel_rfl) rfl 142 rfl [.tmp 12] rfl ?_
  simp only [go_sem, zaa, zah, zai, zaj, zam, zae, ↓reduceIte, reduceCtorEq, zab, zad, zan, zao, zap, decide_eq_true hlen, lendX]
  repeat' (first
 | (apply cl_plain
    case hs => rfl
    case ha => (simp only [zag, zak, prepV, prepC, idx, hpL', lookR, zaa, if_true, if_false]; rfl)
    case h => (first | exact light_spec .. | exact roll_spec ..))
 | ((first | refine s1_id ?_ | refine swp_id ?_ | refine sops_id ?_ | refine s2_id ?_); simp only [decide_eq_true hlen, lendX, dice, decide_true, zax, zaC, zal, zaz, zaB, zat, zau, zas, zaH, zaJ, zar, zav, go_sem, zaa, zah, zai, zaj, zam, zae, ↓reduceIte, reduceCtorEq, zab, zad, zan, zao, zap, zaM, zaO, zaI, zaN, renO, bk, back, outUpsFrom, Ints_ren])
 | (intros; (try simp only [zaG, zaK, zaF, zaE, zaw, zaA, decide_eq_true_eq, decide_eq_false_iff_not] at *); omega))
  refine w_loop (ι := Nat × Nat) (fun s => ⟨[(2, gr C0 none), (3, gi G0 none), (4, i1 at0), (5, i1 tot), (7, .one (.optr 0 0)), (13, .one (.optr 1 0)), (14, i1 s.1)], [(0, some ⟨[.gsl (Cs l0) 0 l0.length none, int n0], 2⟩), (1, some (dice D s.2))], 2⟩) (fun s => s.1 ≤ 3) (fun s => 3 - s.1) (0, 0) ?_ (zaV _) ?_
  · (refine imp_ren _ _ _ [(0, 0, ⟨[.gsl (Cs l0) 0 l0.length none, int n0], 2⟩), (1, 6, dice D 0)] (by simp) (by simp) (by simp) (zaD rfl) ?_ rfl (by simp only [zac, zaf, false_implies, implies_true, and_true, zaR, lookR, zaa, if_true, if_false, ↓reduceIte, dice] <;> (repeat' apply zay) <;> (first | rfl | trivial)) (by simp only [zac, zaf, false_implies, implies_true, and_true, true_and, flat_cons, flat_nil, flat_ints, flat_bools, flat_app, zaL, and_self, eq_self_iff_true, zal, dice]); simp only [zag, zak, zac, zaf, false_implies, implies_true, and_true, lk, slot, zaM, zaI, toN, zaa, if_true, if_false, ↓reduceIte, reduceCtorEq])
    all_goals ((repeat' apply zay) <;> (first | rfl | trivial))
  rintro ⟨i, j⟩ hi
  simp only at hi ⊢
  rcases zaT i 3 with hlt | hge
  case inl =>
    have c : (i : Int) < 3 := by omega
    have t1 := tree_spec D hl hr j 6 (by decide)
    have hti := mkT_ok D j 6
    generalize mkT D j 6 = T at *
    obtain ⟨⟨l, n⟩, j1⟩ := T
    simp only at t1 hti
    have hV := hti.v.vt
    have hle := hti.len
    have hnl := nd_len l
    have hct : CtR l := kctr hV
    have hnr := hti.nr
    have p1 := cands_spec D hl hr l n hV j1
    have p2 := cands_own D hl hr l n hV j1
    obtain ⟨hv, hC8, hCn⟩ := mkCd_ok D hV j1
    generalize mkCd D l j1 = q at *
    obtain ⟨C, j2⟩ := q
    simp only at p1 p2 hv hC8 hCn
    have hcl := cd_len C
    have hex := fun (C : List Cd) (hC : C.length ≤ 1000000) (G : List Int) (hG : G.length ≤ 9223372036854775807) (a t : Int) => exact29_spec l n C G a t (by omega) hC hG hnr hct
    have hgrp := fun j => dgroup_spec D hl hr j l n (by omega) (by omega)
    have hpk : ∀ (j : Nat) (c : Option Nat), FnSpec Try.prog 13 [dp, gi ttL c] [dice D j] (i1 (pkV D j ttL)) [some (dice D (nxA D j 8))] := fun j c => kpick_spec D j ttL c (by decide) (by decide) hl hr
    by_cases hbr : (i : Int) = 2 ∧ 0 < (C.length : Int)
    case neg =>
      clear p2
      have o1 := dsome_spec D hl hr j2
      have ol := dsV_len D j2
      generalize dsV D j2 = qs at *
      obtain ⟨S, e1⟩ := qs
      simp only at o1 ol
      have g1 := hgrp e1
      generalize dgV D l e1 = gv at *
      generalize dgA D l e1 = e2 at *
      have k1 := hpk e2
      generalize pkV D e2 ttL = tv at *
      generalize nxA D e2 8 = e3 at *
      have g2 := hgrp e3
      generalize dgV D l e3 = gv2 at *
      generalize dgA D l e3 = e4 at *
      have ex1 := hex C (by omega) S (by omega) gv tv
      have ex2 := hex C (by omega) G0 hG0 gv2 tot
      clear hex hgrp hpk
      rcases (show ¬ (i : Int) = 2 ∨ ((i : Int) = 2 ∧ ¬ 0 < (C.length : Int)) by omega) with c2 | ⟨c2, c3⟩
      · simp only [go_sem, zaa, zah, zai, zaj, zam, zae, ↓reduceIte, reduceCtorEq, zab, zad, zan, zao, zap, decide_eq_true c, decide_eq_false c2, lendX]
        repeat' (first
 | with_reducible refine zay ?_ ?_
 | (unfold OKC; kernel_rfl)
 | (unfold EDG; kernel_rfl)
 | (apply cl_plain
    case hs => rfl
    case ha => (simp only [zag, zak, prepV, prepC, idx, hpL', lookR, zaa, if_true, if_false]; rfl)
    case h => (first | exact t1 .. | exact p1 .. | exact o1 .. | exact g1 .. | exact k1 .. | exact g2 .. | exact ex1 .. | exact ex2 ..))
 | (apply cl_lend
    case hr => (simp only [zag, zak, hpL', lookR, zaa, if_true, if_false]; first | exact map1 _ | exact map2 _ _ | exact map3 _ _ _)
    case ha => (simp only [zag, zak, prepV, prepC, idx, hpL', lookR, zaa, if_true, if_false]; rfl)
    case hs => rfl
    case hn => decide
    case h => (first | exact t1 .. | exact p1 .. | exact o1 .. | exact g1 .. | exact k1 .. | exact g2 .. | exact ex1 .. | exact ex2 ..)
    case hf => (simp only [zac, zaf, false_implies, implies_true, and_true, true_and, flat_cons, flat_nil, flat_ints, flat_bools, flat_app, Cs_flat, zaL, and_self, eq_self_iff_true, zal])
    case hl => (simp only [zar, zav]; decide))
 | (apply cl_use
    case hr => (simp only [zag, zak, hpL', lookR, zaa, if_true, if_false]; first | exact map0 | exact map1 _ | exact map2 _ _ | exact map3 _ _ _)
    case ha => (simp only [zag, zak, prepV, prepC, idx, hpL', lookR, zaa, if_true, if_false]; rfl)
    case hs => (simp only [snaps, SV.refs, zaL, idx, zbh, zbj, zaB, zaz, zal, zaS, zbc, zaa, if_true, if_false, zbd, zbe, zbf, reduceCtorEq, ↓reduceIte]; rfl)
    case hn => decide
    case h => (first | exact t1 .. | exact p1 .. | exact o1 .. | exact g1 .. | exact k1 .. | exact g2 .. | exact ex1 .. | exact ex2 ..)
    case hf => (simp only [zac, zaf, false_implies, implies_true, and_true, true_and, flat_cons, flat_nil, flat_ints, flat_bools, flat_app, Cs_flat, zaL, and_self, eq_self_iff_true, zal])
    case hg => ((simp [hpL', lookR, Cell.isG]) <;> (repeat' apply zay) <;> (first | exact Ints_isG _ | exact Cs_isG _))
    case hl => (simp only [zar, zav]; decide))
 | ((first | refine s1_id ?_ | refine swp_id ?_ | refine sops_id ?_ | refine s2_id ?_); simp only [decide_eq_true c, decide_eq_false c2, lendX, dice, decide_true, zbk, zax, zaC, zal, zaz, zaB, zat, zau, zas, zaH, zaJ, zar, zav, go_sem, zaa, zah, zai, zaj, zam, zae, ↓reduceIte, reduceCtorEq, zab, zad, zan, zao, zap, zaM, zaO, zaI, zaN, renO, bk, back, outUpsFrom, Ints_ren])
 | (intros; omega)
 | (intros; (try simp only [zaG, zaK, zaF, zaE, zaw, zaA, decide_eq_true_eq, decide_eq_false_iff_not] at *); omega))
        refine le_mk (i + 1, e4) ?_ hlt (by show 3 - (i + 1) < 3 - i; omega)
        (refine imp_ren _ _ _ [(0, 0, ⟨[.gsl (Cs l0) 0 l0.length none, int n0], 2⟩), (1, 1, dice D e4)] (by simp) (by simp) (by simp) (zaD rfl) ?_ rfl (by simp only [zac, zaf, false_implies, implies_true, and_true, zaR, lookR, zaa, if_true, if_false, ↓reduceIte, dice] <;> (repeat' apply zay) <;> (first | rfl | trivial)) (by simp only [zac, zaf, false_implies, implies_true, and_true, true_and, flat_cons, flat_nil, flat_ints, flat_bools, flat_app, zaL, and_self, eq_self_iff_true, zal, dice]); simp only [zag, zak, zac, zaf, false_implies, implies_true, and_true, lk, slot, zaM, zaI, toN, zaa, if_true, if_false, ↓reduceIte, reduceCtorEq])
        all_goals ((repeat' apply zay) <;> (first | rfl | trivial | (simp only [zaq]; done) | (simp only [zaq]; rfl) | (simp only [zaq]; trivial)))
      · simp only [go_sem, zaa, zah, zai, zaj, zam, zae, ↓reduceIte, reduceCtorEq, zab, zad, zan, zao, zap, decide_eq_true c, decide_eq_true c2, decide_eq_false c3, lendX]
        repeat' (first
 | with_reducible refine zay ?_ ?_
 | (unfold OKC; kernel_rfl)
 | (unfold EDG; kernel_rfl)
 | (apply cl_plain
    case hs => rfl
    case ha => (simp only [zag, zak, prepV, prepC, idx, hpL', lookR, zaa, if_true, if_false]; rfl)
    case h => (first | exact t1 .. | exact p1 .. | exact o1 .. | exact g1 .. | exact k1 .. | exact g2 .. | exact ex1 .. | exact ex2 ..))
 | (apply cl_lend
    case hr => (simp only [zag, zak, hpL', lookR, zaa, if_true, if_false]; first | exact map1 _ | exact map2 _ _ | exact map3 _ _ _)
    case ha => (simp only [zag, zak, prepV, prepC, idx, hpL', lookR, zaa, if_true, if_false]; rfl)
    case hs => rfl
    case hn => decide
    case h => (first | exact t1 .. | exact p1 .. | exact o1 .. | exact g1 .. | exact k1 .. | exact g2 .. | exact ex1 .. | exact ex2 ..)
    case hf => (simp only [zac, zaf, false_implies, implies_true, and_true, true_and, flat_cons, flat_nil, flat_ints, flat_bools, flat_app, Cs_flat, zaL, and_self, eq_self_iff_true, zal])
    case hl => (simp only [zar, zav]; decide))
 | (apply cl_use
    case hr => (simp only [zag, zak, hpL', lookR, zaa, if_true, if_false]; first | exact map0 | exact map1 _ | exact map2 _ _ | exact map3 _ _ _)
    case ha => (simp only [zag, zak, prepV, prepC, idx, hpL', lookR, zaa, if_true, if_false]; rfl)
    case hs => (simp only [snaps, SV.refs, zaL, idx, zbh, zbj, zaB, zaz, zal, zaS, zbc, zaa, if_true, if_false, zbd, zbe, zbf, reduceCtorEq, ↓reduceIte]; rfl)
    case hn => decide
    case h => (first | exact t1 .. | exact p1 .. | exact o1 .. | exact g1 .. | exact k1 .. | exact g2 .. | exact ex1 .. | exact ex2 ..)
    case hf => (simp only [zac, zaf, false_implies, implies_true, and_true, true_and, flat_cons, flat_nil, flat_ints, flat_bools, flat_app, Cs_flat, zaL, and_self, eq_self_iff_true, zal])
    case hg => ((simp [hpL', lookR, Cell.isG]) <;> (repeat' apply zay) <;> (first | exact Ints_isG _ | exact Cs_isG _))
    case hl => (simp only [zar, zav]; decide))
 | ((first | refine s1_id ?_ | refine swp_id ?_ | refine sops_id ?_ | refine s2_id ?_); simp only [decide_eq_true c, decide_eq_true c2, decide_eq_false c3, lendX, dice, decide_true, zbk, zax, zaC, zal, zaz, zaB, zat, zau, zas, zaH, zaJ, zar, zav, go_sem, zaa, zah, zai, zaj, zam, zae, ↓reduceIte, reduceCtorEq, zab, zad, zan, zao, zap, zaM, zaO, zaI, zaN, renO, bk, back, outUpsFrom, Ints_ren])
 | (intros; omega)
 | (intros; (try simp only [zaG, zaK, zaF, zaE, zaw, zaA, decide_eq_true_eq, decide_eq_false_iff_not] at *); omega))
        refine le_mk (i + 1, e4) ?_ hlt (by show 3 - (i + 1) < 3 - i; omega)
        (refine imp_ren _ _ _ [(0, 0, ⟨[.gsl (Cs l0) 0 l0.length none, int n0], 2⟩), (1, 1, dice D e4)] (by simp) (by simp) (by simp) (zaD rfl) ?_ rfl (by simp only [zac, zaf, false_implies, implies_true, and_true, zaR, lookR, zaa, if_true, if_false, ↓reduceIte, dice] <;> (repeat' apply zay) <;> (first | rfl | trivial)) (by simp only [zac, zaf, false_implies, implies_true, and_true, true_and, flat_cons, flat_nil, flat_ints, flat_bools, flat_app, zaL, and_self, eq_self_iff_true, zal, dice]); simp only [zag, zak, zac, zaf, false_implies, implies_true, and_true, lk, slot, zaM, zaI, toN, zaa, if_true, if_false, ↓reduceIte, reduceCtorEq])
        all_goals ((repeat' apply zay) <;> (first | rfl | trivial | (simp only [zaq]; done) | (simp only [zaq]; rfl) | (simp only [zaq]; trivial)))
    obtain ⟨c2, c3⟩ := hbr
    clear p1
    have n1 := next_spec D j2 C.length hl hr (by omega)
    have r1 := nx_rng D j2 C.length (by omega)
    generalize nxV D j2 C.length = v at *
    generalize nxA D j2 C.length = j3 at *
    obtain ⟨s, rfl⟩ : ∃ s : Nat, v = s := ⟨v.toNat, by omega⟩
    have hs : s < C.length := by omega
    have q0 := cd_f C s 0 (.sc (.int .i64 0)) hs (by decide)
    rw [zbi] at q0
    have q1 := cd_f C s 1 (.sc (.int .i64 0)) hs (by decide)
    have q2 := cd_f C s 2 (.sc (.int .i64 0)) hs (by decide)
    have q3 := cd_f C s 3 (.sc (.int .i64 0)) hs (by decide)
    obtain ⟨xp, xg, xn, xa, hx⟩ : ∃ p g m a, gD C s = ⟨p, g, m, a⟩ := ⟨_, _, _, _, rfl⟩
    rw [hx] at q0 q1 q2 q3
    have q0 : (Cs C).getD (s * 4) (.sc (.int .i64 0)) = int xp := q0
    have q1 : (Cs C).getD (s * 4 + 1) (.sc (.int .i64 0)) = int xg := q1
    have q2 : (Cs C).getD (s * 4 + 2) (.sc (.int .i64 0)) = int xn := q2
    have q3 : (Cs C).getD (s * 4 + 3) (.sc (.int .i64 0)) = int xa := q3
    have u1 : ∀ c, FnSpec Try.prog 13 [dp, gi [xp, 0, 3] c] [dice D j3] (i1 (pkV D j3 [xp, 0, 3])) [some (dice D (nxA D j3 3))] := fun c => kpick_spec D j3 [xp, 0, 3] c (by show 0 < 3; decide) (by show 3 ≤ 600; decide) hl hr
    generalize pkV D j3 [xp, 0, 3] = w0 at *
    generalize nxA D j3 3 = m1 at *
    have u2 : ∀ c, FnSpec Try.prog 13 [dp, gi [xg, 9] c] [dice D m1] (i1 (pkV D m1 [xg, 9])) [some (dice D (nxA D m1 2))] := fun c => kpick_spec D m1 [xg, 9] c (by show 0 < 2; decide) (by show 2 ≤ 600; decide) hl hr
    generalize pkV D m1 [xg, 9] = w1 at *
    generalize nxA D m1 2 = m2 at *
    have u3 : ∀ c, FnSpec Try.prog 13 [dp, gi [xn, -1, 16777217] c] [dice D m2] (i1 (pkV D m2 [xn, -1, 16777217])) [some (dice D (nxA D m2 3))] := fun c => kpick_spec D m2 [xn, -1, 16777217] c (by show 0 < 3; decide) (by show 3 ≤ 600; decide) hl hr
    generalize pkV D m2 [xn, -1, 16777217] = w2 at *
    generalize nxA D m2 3 = m3 at *
    have u4 : ∀ c, FnSpec Try.prog 13 [dp, gi [xa, -1001, 1001] c] [dice D m3] (i1 (pkV D m3 [xa, -1001, 1001])) [some (dice D (nxA D m3 3))] := fun c => kpick_spec D m3 [xa, -1001, 1001] c (by show 0 < 3; decide) (by show 3 ≤ 600; decide) hl hr
    generalize pkV D m3 [xa, -1001, 1001] = w3 at *
    generalize nxA D m3 3 = m4 at *
    have hset : ∀ (B : List Cd) (x y : Cd), B.length = C.length → gD B s = x → ∃ B', B' = B.set s y ∧ B'.length = C.length ∧ gD B' s = y := fun B x y hB _ => ⟨_, rfl, by rw [List.length_set]; exact hB, by
      show (B.set s y).getD s zcd = y
      rw [List.getD_eq_getElem?_getD, List.getElem?_set_self (by omega)]; rfl⟩
    obtain ⟨B1, b1e, b1l, b1g⟩ := hset C _ ⟨w0, xg, xn, xa⟩ rfl hx
    have s1 : (Cs C).set (s * 4) (int w0) = Cs B1 := by rw [b1e]; exact Cs_setf C s 0 ⟨w0, xg, xn, xa⟩ _ (by omega) (by decide) (by show _ = (cdc (gD C s)).set 0 _; rw [hx]; rfl)
    obtain ⟨B2, b2e, b2l, b2g⟩ := hset B1 _ ⟨w0, w1, xn, xa⟩ b1l b1g
    have s2 : (Cs B1).set (s * 4 + 1) (int w1) = Cs B2 := by rw [b2e]; exact Cs_setf B1 s 1 ⟨w0, w1, xn, xa⟩ _ (by omega) (by decide) (by show _ = (cdc (gD B1 s)).set 1 _; rw [b1g]; rfl)
    obtain ⟨B3, b3e, b3l, b3g⟩ := hset B2 _ ⟨w0, w1, w2, xa⟩ b2l b2g
    have s3 : (Cs B2).set (s * 4 + 2) (int w2) = Cs B3 := by rw [b3e]; exact Cs_setf B2 s 2 ⟨w0, w1, w2, xa⟩ _ (by omega) (by decide) (by show _ = (cdc (gD B2 s)).set 2 _; rw [b2g]; rfl)
    obtain ⟨B4, b4e, b4l, b4g⟩ := hset B3 _ ⟨w0, w1, w2, w3⟩ b3l b3g
    have s4 : (Cs B3).set (s * 4 + 3) (int w3) = Cs B4 := by rw [b4e]; exact Cs_setf B3 s 3 ⟨w0, w1, w2, w3⟩ _ (by omega) (by decide) (by show _ = (cdc (gD B3 s)).set 3 _; rw [b3g]; rfl)
    clear hset b1e b2e b3e b4e b1g b2g b3g b4g hx hv hCn
    have h1l := cd_len B1
    rw [b1l] at h1l
    have h2l := cd_len B2
    rw [b2l] at h2l
    have h3l := cd_len B3
    rw [b3l] at h3l
    have h4l := cd_len B4
    rw [b4l] at h4l
    have o1 := dsome_spec D hl hr m4
    have ol := dsV_len D m4
    generalize dsV D m4 = qs at *
    obtain ⟨S, e1⟩ := qs
    simp only at o1 ol
    have g1 := hgrp e1
    generalize dgV D l e1 = gv at *
    generalize dgA D l e1 = e2 at *
    have k1 := hpk e2
    generalize pkV D e2 ttL = tv at *
    generalize nxA D e2 8 = e3 at *
    have g2 := hgrp e3
    generalize dgV D l e3 = gv2 at *
    generalize dgA D l e3 = e4 at *
    have ex1 : FnSpec Try.prog 14 [trV l none n, .one (.gsl (Cs B4) 0 C.length none), gi S none, i1 gv, i1 tv] [] (b1 true) [] := by
      have := hex B4 (by omega) S (by omega) gv tv
      rw [← b4l]
      exact this
    have ex2 : FnSpec Try.prog 14 [trV l none n, .one (.gsl (Cs B4) 0 C.length none), gi G0 none, i1 gv2, i1 tot] [] (b1 true) [] := by
      have := hex B4 (by omega) G0 hG0 gv2 tot
      rw [← b4l]
      exact this
    clear hex hgrp hpk
    simp only [go_sem, zaa, zah, zai, zaj, zam, zae, ↓reduceIte, reduceCtorEq, zab, zad, zan, zao, zap, decide_eq_true c, decide_eq_true c2, decide_eq_true c3, q0, q1, q2, q3, s1, s2, s3, s4, lendX]
    repeat' (first
 | with_reducible refine zay ?_ ?_
 | (unfold OKC; kernel_rfl)
 | (unfold EDG; kernel_rfl)
 | (apply cl_lend
    case hr => (simp only [zag, zak, hpL', lookR, zaa, if_true, if_false]; first | exact map1 _ | exact map2 _ _ | exact map3 _ _ _)
    case ha => (simp only [zag, zak, prepV, prepC, idx, hpL', lookR, zaa, if_true, if_false]; rfl)
    case hs => rfl
    case hn => decide
    case h => (first | exact t1 .. | exact p2 .. | exact n1 .. | exact u1 .. | exact u2 .. | exact u3 .. | exact u4 .. | exact o1 .. | exact g1 .. | exact k1 .. | exact g2 .. | exact ex1 .. | exact ex2 ..)
    case hf => (simp only [zac, zaf, false_implies, implies_true, and_true, true_and, flat_cons, flat_nil, flat_ints, flat_bools, flat_app, Cs_flat, zaL, and_self, eq_self_iff_true, zal])
    case hl => (simp only [zar, zav]; decide))
 | (apply cl_show
    case ha => (simp only [zag, zak, prepV, prepC, idx, hpL', lookR, zaa, if_true, if_false]; rfl)
    case hs => ((simp [snaps, SV.refs, zaL, idx, hpL', lookR]) <;> (repeat' apply zay) <;> (first | exact Ints_isG _ | exact Cs_isG _))
    case h => (first | exact t1 .. | exact p2 .. | exact n1 .. | exact u1 .. | exact u2 .. | exact u3 .. | exact u4 .. | exact o1 .. | exact g1 .. | exact k1 .. | exact g2 .. | exact ex1 .. | exact ex2 ..)
    case hg => ((simp [SV.noG, SV.noGL, Cell.noG]) <;> (repeat' apply zay) <;> exact Ints_noG _))
 | (apply cl_use
    case hr => (simp only [zag, zak, hpL', lookR, zaa, if_true, if_false]; first | exact map0 | exact map1 _ | exact map2 _ _ | exact map3 _ _ _)
    case ha => (simp only [zag, zak, prepV, prepC, idx, hpL', lookR, zaa, if_true, if_false]; rfl)
    case hs => (simp only [snaps, SV.refs, zaL, idx, zbh, zbj, zaB, zaz, zal, zaS, zbc, zaa, if_true, if_false, zbd, zbe, zbf, reduceCtorEq, ↓reduceIte]; rfl)
    case hn => decide
    case h => (first | exact t1 .. | exact p2 .. | exact n1 .. | exact u1 .. | exact u2 .. | exact u3 .. | exact u4 .. | exact o1 .. | exact g1 .. | exact k1 .. | exact g2 .. | exact ex1 .. | exact ex2 ..)
    case hf => (simp only [zac, zaf, false_implies, implies_true, and_true, true_and, flat_cons, flat_nil, flat_ints, flat_bools, flat_app, Cs_flat, zaL, and_self, eq_self_iff_true, zal])
    case hg => ((simp [hpL', lookR, Cell.isG]) <;> (repeat' apply zay) <;> (first | exact Ints_isG _ | exact Cs_isG _))
    case hl => (simp only [zar, zav]; decide))
 | ((first | refine s1_id ?_ | refine swp_id ?_ | refine sops_id ?_ | refine s2_id ?_); simp only [decide_eq_true c, decide_eq_true c2, decide_eq_true c3, q0, q1, q2, q3, s1, s2, s3, s4, lendX, dice, decide_true, zbk, zax, zaC, zal, zaz, zaB, zat, zau, zas, zaH, zaJ, zar, zav, go_sem, zaa, zah, zai, zaj, zam, zae, ↓reduceIte, reduceCtorEq, zab, zad, zan, zao, zap, zaM, zaO, zaI, zaN, renO, bk, back, outUpsFrom, Ints_ren])
 | (intros; omega)
 | (intros; (try simp only [zaG, zaK, zaF, zaE, zaw, zaA, decide_eq_true_eq, decide_eq_false_iff_not] at *); omega))
    refine le_mk (i + 1, e4) ?_ hlt (by show 3 - (i + 1) < 3 - i; omega)
    (refine imp_ren _ _ _ [(0, 0, ⟨[.gsl (Cs l0) 0 l0.length none, int n0], 2⟩), (1, 1, dice D e4)] (by simp) (by simp) (by simp) (zaD rfl) ?_ rfl (by simp only [zac, zaf, false_implies, implies_true, and_true, zaR, lookR, zaa, if_true, if_false, ↓reduceIte, dice] <;> (repeat' apply zay) <;> (first | rfl | trivial)) (by simp only [zac, zaf, false_implies, implies_true, and_true, true_and, flat_cons, flat_nil, flat_ints, flat_bools, flat_app, zaL, and_self, eq_self_iff_true, zal, dice]); simp only [zag, zak, zac, zaf, false_implies, implies_true, and_true, lk, slot, zaM, zaI, toN, zaa, if_true, if_false, ↓reduceIte, reduceCtorEq])
    all_goals ((repeat' apply zay) <;> (first | rfl | trivial | (simp only [zaq]; done) | (simp only [zaq]; rfl) | (simp only [zaq]; trivial)))
  have c : ¬ (i : Int) < 3 := by omega
  by_cases a1 : 40 < (l0.length : Int)
  · simp only [go_sem, zaa, zah, zai, zaj, zam, zae, ↓reduceIte, reduceCtorEq, zab, zad, zan, zao, zap, decide_eq_false c, decide_eq_true a1, lendX]
    repeat' (first
 | (apply cl_plain
    case hs => rfl
    case ha => (simp only [zag, zak, prepV, prepC, idx, hpL', lookR, zaa, if_true, if_false]; rfl)
    case h => (first | exact ksane_spec ..))
 | ((first | refine s1_id ?_ | refine swp_id ?_ | refine sops_id ?_ | refine s2_id ?_); simp only [decide_eq_false c, decide_eq_true a1, lendX, zax, zaC, zal, zaz, zaB, zat, zau, zas, zaH, zaJ, zar, zav, go_sem, zaa, zah, zai, zaj, zam, zae, ↓reduceIte, reduceCtorEq, zab, zad, zan, zao, zap, zaM, zaO, zaI, zaN, renO, bk, back, outUpsFrom, Ints_ren])
 | exact fs_nil trivial rfl
 | fail)
  by_cases a2 : 140 < (C0.length : Int)
  · simp only [go_sem, zaa, zah, zai, zaj, zam, zae, ↓reduceIte, reduceCtorEq, zab, zad, zan, zao, zap, decide_eq_false c, decide_eq_false a1, decide_eq_true a2, lendX]
    repeat' (first
 | (apply cl_plain
    case hs => rfl
    case ha => (simp only [zag, zak, prepV, prepC, idx, hpL', lookR, zaa, if_true, if_false]; rfl)
    case h => (first | exact ksane_spec ..))
 | ((first | refine s1_id ?_ | refine swp_id ?_ | refine sops_id ?_ | refine s2_id ?_); simp only [decide_eq_false c, decide_eq_false a1, decide_eq_true a2, lendX, zax, zaC, zal, zaz, zaB, zat, zau, zas, zaH, zaJ, zar, zav, go_sem, zaa, zah, zai, zaj, zam, zae, ↓reduceIte, reduceCtorEq, zab, zad, zan, zao, zap, zaM, zaO, zaI, zaN, renO, bk, back, outUpsFrom, Ints_ren])
 | exact fs_nil trivial rfl
 | fail)
  by_cases a3 : 200 < (G0.length : Int)
  · simp only [go_sem, zaa, zah, zai, zaj, zam, zae, ↓reduceIte, reduceCtorEq, zab, zad, zan, zao, zap, decide_eq_false c, decide_eq_false a1, decide_eq_false a2, decide_eq_true a3, lendX]
    repeat' (first
 | (apply cl_plain
    case hs => rfl
    case ha => (simp only [zag, zak, prepV, prepC, idx, hpL', lookR, zaa, if_true, if_false]; rfl)
    case h => (first | exact ksane_spec ..))
 | ((first | refine s1_id ?_ | refine swp_id ?_ | refine sops_id ?_ | refine s2_id ?_); simp only [decide_eq_false c, decide_eq_false a1, decide_eq_false a2, decide_eq_true a3, lendX, zax, zaC, zal, zaz, zaB, zat, zau, zas, zaH, zaJ, zar, zav, go_sem, zaa, zah, zai, zaj, zam, zae, ↓reduceIte, reduceCtorEq, zab, zad, zan, zao, zap, zaM, zaO, zaI, zaN, renO, bk, back, outUpsFrom, Ints_ren])
 | exact fs_nil trivial rfl
 | fail)
  have ex := exact29_spec l0 n0 C0 G0 at0 tot (by omega) (by omega) hG0 hN0 hc0
  have t1 := tree_spec D hl hr j 2 (by decide)
  have hti := mkT_ok D j 2
  generalize mkT D j 2 = T at *
  obtain ⟨⟨l, n⟩, j1⟩ := T
  simp only at t1 hti
  have hV := hti.v.vt
  have p1 := cands_spec D hl hr l n hV j1
  obtain ⟨hv, hC8, hCn⟩ := mkCd_ok D hV j1
  generalize mkCd D l j1 = q at *
  obtain ⟨C, j2⟩ := q
  simp only at p1 hv hC8 hCn
  obtain ⟨_, _, hall⟩ := vaM_all hv
  have hn0 : ∀ x ∈ C, 0 ≤ x.n ∧ x.n ≤ 16777216 := fun x hx => (cdk_iff.1 (hall x hx).1).1
  have fr := freed_spec G0 none C none hG0 (by omega) hn0
  have hfr : 0 ≤ frM G0 C := frM_app G0 0 C (fun x hx => (hn0 x hx).1)
  generalize frM G0 C = F at *
  simp only [go_sem, zaa, zah, zai, zaj, zam, zae, ↓reduceIte, reduceCtorEq, zab, zad, zan, zao, zap, decide_eq_false c, decide_eq_false a1, decide_eq_false a2, decide_eq_false a3, decide_eq_true hfr, lendX]
  repeat' (first
 | (apply cg_tp
    case hl => rfl
    case ha => (simp only [zag, zak, prepV, prepC, idx, hpL', lookR, zaa, if_true, if_false]; rfl)
    case hs => rfl
    case h => (first | exact ex .. | exact t1 .. | exact p1 .. | exact fr .. | exact ksane_spec ..))
 | (apply cl_plain
    case hs => rfl
    case ha => (simp only [zag, zak, prepV, prepC, idx, hpL', lookR, zaa, if_true, if_false]; rfl)
    case h => (first | exact ex .. | exact t1 .. | exact p1 .. | exact fr .. | exact ksane_spec ..))
 | (apply cl_lend
    case hr => (simp only [zag, zak, hpL', lookR, zaa, if_true, if_false]; first | exact map1 _ | exact map2 _ _ | exact map3 _ _ _)
    case ha => (simp only [zag, zak, prepV, prepC, idx, hpL', lookR, zaa, if_true, if_false]; rfl)
    case hs => rfl
    case hn => decide
    case h => (first | exact ex .. | exact t1 .. | exact p1 .. | exact fr .. | exact ksane_spec ..)
    case hf => (simp only [zac, zaf, false_implies, implies_true, and_true, true_and, flat_cons, flat_nil, flat_ints, flat_bools, flat_app, Cs_flat, zaL, and_self, eq_self_iff_true, zal])
    case hl => (simp only [zar, zav]; decide))
 | ((first | refine s1_id ?_ | refine swp_id ?_ | refine sops_id ?_ | refine s2_id ?_); simp only [decide_eq_false c, decide_eq_false a1, decide_eq_false a2, decide_eq_false a3, decide_eq_true hfr, ge_iff_le, lendX, dice, zax, zaC, zal, zaz, zaB, zat, zau, zas, zaH, zaJ, zar, zav, go_sem, zaa, zah, zai, zaj, zam, zae, ↓reduceIte, reduceCtorEq, zab, zad, zan, zao, zap, zaM, zaO, zaI, zaN, renO, bk, back, outUpsFrom, Ints_ren])
 | exact fs_nil trivial rfl
 | fail)
end Go.Proofs.Ytlajelbiniakpaa
-- NEWGO
-- PRUNE: cl_lendx
-- ISG: Cs_isG
-- FLAT: Cs_flat
namespace Go.Proofs.Ytlajelbiniakpaa
set_option linter.unusedVariables false
set_option linter.unusedSimpArgs false
open Go.Proofs.Ytlajelbiniakpaa.Sh
set_option maxRecDepth 20000
theorem node_of {g : List Cell} (h : GTy Try.prog 10 44 g) : ∃ x : Nd, g = ndc x ∧ x.nm.length ≤ 9223372036854775807 ∧ (-9223372036854775808 ≤ x.c ∧ x.c ≤ 9223372036854775807) := by
  have h := gty_struct (n := 9) Try.underlying44 h
  obtain ⟨a0, b0, rfl, h0, a1, b1, rfl, h1, a2, b2, rfl, h2, a3, b3, rfl, h3, a4, b4, rfl, h4, a5, b5, rfl, h5, rfl⟩ := h
  obtain ⟨m0, rfl, _⟩ := gty_int (n := 8) Try.underlying3 h0
  obtain ⟨m1, rfl, _⟩ := gty_int (n := 8) Try.underlying3 h1
  obtain ⟨s, rfl, hs⟩ := gty_str (n := 8) Try.underlying9 h2
  obtain ⟨m3, rfl, w3⟩ := gty_int (n := 8) Try.underlying3 h3
  obtain ⟨m4, rfl, _⟩ := gty_int (n := 8) Try.underlying3 h4
  obtain ⟨m5, rfl, _⟩ := gty_int (n := 8) Try.underlying3 h5
  refine ⟨⟨m0, m1, s.data.toList, m3, m4, m5⟩, ?_, ?_, wf_i64 w3⟩
  · show _ = [int m0, int m1, .sc (.string (bs s.data.toList)), int m3, int m4, int m5]
    rw [← bs_of]; rfl
  · show s.data.toList.length ≤ _
    have := bs_size s.data.toList
    rw [← bs_of] at this
    rw [← this]; exact hs
theorem nodes_of : ∀ (ess : List (List Cell)), (∀ es ∈ ess, GTy Try.prog 10 44 es) → ∃ l : List Nd, ess.flatten = Cs l ∧ ess.length = l.length ∧ NmR l ∧ CtR l
  | [], _ => ⟨[], rfl, rfl, (fun _ h => by cases h), (fun _ h => by cases h)⟩
  | e :: r, h => by
    obtain ⟨x, rfl, h1, h2⟩ := node_of (h e zaQ)
    obtain ⟨l, e1, e2, h3, h4⟩ := nodes_of r (fun y hy => h y (zaP _ hy))
    refine ⟨x :: l, ?_, by rw [zar, zar, e2], fun y hy => ?_, fun y hy => ?_⟩
    · rw [zax, e1]; rfl
    · rcases List.mem_cons.1 hy with rfl | hy
      · exact h1
      · exact h3 y hy
    · rcases List.mem_cons.1 hy with rfl | hy
      · exact h2
      · exact h4 y hy
theorem tree_of {g : List Cell} (h : GTy Try.prog 12 25 g) : ∃ (l : List Nd) (n : Int), g = [.gsl (Cs l) 0 l.length none, int n] ∧ l.length ≤ 9223372036854775807 ∧ NmR l ∧ CtR l := by
  have h := gty_struct (n := 11) Try.underlying25 h
  obtain ⟨a0, b0, rfl, h0, a1, b1, rfl, h1, rfl⟩ := h
  obtain ⟨m1, rfl, _⟩ := gty_int (n := 10) Try.underlying3 h1
  obtain ⟨ess, rfl, hl, he⟩ := gty_slice (n := 10) Try.underlying23 h0
  obtain ⟨l, e1, e2, h3, h4⟩ := nodes_of ess he
  exact ⟨l, m1, by rw [e1, e2]; rfl, by rw [← e2]; exact hl, h3, h4⟩
theorem cand_of {g : List Cell} (h : GTy Try.prog 11 35 g) : ∃ x : Cd, g = cdc x := by
  have h := gty_struct (n := 10) Try.underlying35 h
  obtain ⟨a0, b0, rfl, h0, a1, b1, rfl, h1, a2, b2, rfl, h2, a3, b3, rfl, h3, rfl⟩ := h
  obtain ⟨m0, rfl, _⟩ := gty_int (n := 9) Try.underlying3 h0
  obtain ⟨m1, rfl, _⟩ := gty_int (n := 9) Try.underlying3 h1
  obtain ⟨m2, rfl, _⟩ := gty_int (n := 9) Try.underlying3 h2
  obtain ⟨m3, rfl, _⟩ := gty_int (n := 9) Try.underlying3 h3
  exact ⟨⟨m0, m1, m2, m3⟩, rfl⟩
theorem cands_of : ∀ (ess : List (List Cell)), (∀ es ∈ ess, GTy Try.prog 11 35 es) → ∃ l : List Cd, ess.flatten = Cs l ∧ ess.length = l.length
  | [], _ => ⟨[], rfl, rfl⟩
  | e :: r, h => by
    obtain ⟨x, rfl⟩ := cand_of (h e zaQ)
    obtain ⟨l, e1, e2⟩ := cands_of r (fun y hy => h y (zaP _ hy))
    exact ⟨x :: l, by rw [zax, e1]; rfl, by rw [zar, zar, e2]⟩
theorem kex_main (g0 : List Cell) (s0 : GTy Try.prog 12 22 g0) (g1 : List Cell) (s1 : GTy Try.prog 12 25 g1) (g2 : List Cell) (s2 : GTy Try.prog 12 26 g2) (g3 : List Cell) (s3 : GTy Try.prog 12 22 g3) (g4 : List Cell) (s4 : GTy Try.prog 12 3 g4) (g5 : List Cell) (s5 : GTy Try.prog 12 3 g5) : FnSpec Try.prog 3 [svOf Try.prog 22 g0, svOf Try.prog 25 g1, svOf Try.prog 26 g2, svOf Try.prog 22 g3, svOf Try.prog 3 g4, svOf Try.prog 3 g5] [] (b1 true) [] := by
  obtain ⟨l, rfl, hl, hr⟩ := gty_ints (n := 10) Try.underlying22 Try.underlying3 s0
  obtain ⟨l0, n0, rfl, hl0, hn0, hc0⟩ := tree_of s1
  obtain ⟨ess, rfl, he, hes⟩ := gty_slice (n := 11) Try.underlying26 s2
  obtain ⟨C0, e1, e2⟩ := cands_of ess hes
  rw [e1, e2]
  rw [e2] at he
  obtain ⟨G0, rfl, hg0, _⟩ := gty_ints (n := 10) Try.underlying22 Try.underlying3 s3
  obtain ⟨m4, rfl, _⟩ := gty_int (n := 11) Try.underlying3 s4
  obtain ⟨m5, rfl, _⟩ := gty_int (n := 11) Try.underlying3 s5
  simp only [svOf, Try.underlying22, Try.underlying25, Try.underlying26, Try.underlying3, List.headD_cons]
  exact kex_spec l l0 n0 C0 G0 m4 m5 hr hl0 hn0 hc0 he hg0
end Go.Proofs.Ytlajelbiniakpaa
