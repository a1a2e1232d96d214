/- Contracts of functions, told of values, on the way to MemberMoves (part 8). -/
import Derived.Test.YtnahpejlhfeleabMemberMovesM3
import Derived.Test.YtnahpejlhfeleabMemberMovesM7
import Derived.Test.YtnahpejlhfeleabMemberMovesM4
import Derived.Test.YtnahpejlhfeleabMemberMovesM5
import Derived.Test.YtnahpejlhfeleabMemberMovesM6
-- short names of the library's lemmas
open Nat renaming reduceEqDiff → zaa, reduceLeDiff → zah, reduceAdd → zar, reduceSub → zas, reduceMul → zat, reduceLT → zaw, le_of_ble_eq_true → zaI, zero_le → zaV, le_refl → zbc, lt_or_ge → zbf
open List renaming forall_mem_cons → zab, reduceReplicate → zac, append_nil → zad, not_mem_nil → zae, length_cons → zag, take_succ_cons → zai, length_nil → zaj, set_cons_zero → zak, set_cons_succ → zal, map_cons → zam, flatten_cons → zan, flatten_nil → zao, cons_append → zap, map_nil → zaq, nil_append → zau, take_zero → zaA, take_nil → zaC, mem_cons_self → zaL, mem_cons_of_mem → zaM, length_append → zaN, range' → zaP, length_range' → zaU, nodup_cons → zaW, mem_cons → zaX, getD_cons_zero → zaY, getD_cons_succ → zaZ, take_of_length_le → zba, length_singleton → zbb, length_map → zbg, mem_flatMap → zbi
open Int renaming cast_ofNat_Int → zaf, reduceEq → zax, reduceLT → zay, reduceLE → zaz, natCast_add → zaK
open Option renaming getD_some → zbd, getD_none → zbe
open Bool renaming and_eq_false_iff → zav, or_eq_false_iff → zaB, not_eq_false' → zaD, not_eq_true' → zaE, and_eq_true → zaF, or_eq_true → zaH
open And renaming intro → zaG
open Go.Proofs.Ytnahpejlhfeleab.Sh.Cell renaming ren → zaJ, refs → zaO, frz → zbh
open Go.Proofs.Ytnahpejlhfeleab.Sh.SV renaming ren → zaQ, renL → zaS
open Go.Proofs.Ytnahpejlhfeleab.Sh.Row renaming ren → zaR
open Go.Proofs.Ytnahpejlhfeleab.Sh.St renaming hpF → zaT
-- NEWGO
-- PRUNE: cl_lendx cl_use
-- ISG: Cs_isG
-- FLAT: Cs_flat
namespace Go.Proofs.Ytnahpejlhfeleab
set_option linter.unusedVariables false
set_option linter.unusedSimpArgs false
open Go.Proofs.Ytnahpejlhfeleab.Sh
set_option maxRecDepth 20000
def sp1 (L : List Int) (s : Hy × Nat) (g : Int) : Hy × Nat :=
  (if (spR s.1.1 s.1.2.1 s.1.2.2.1 s.1.2.2.2 g (nxV L s.2 3)).2.2 = 0 then (spR s.1.1 s.1.2.1 s.1.2.2.1 s.1.2.2.2 g (nxV L s.2 3)).1 else s.1, nxA L s.2 3)
def sp2 (L : List Int) (s : Hy × Nat) : Hy × Nat :=
  if nxV L s.2 3 = 2 then (if (clR s.1.1 s.1.2.1 s.1.2.2.1 s.1.2.2.2 (dtV L s.1.2.2.1 (nxA L s.2 3))).2.2 = 0 then (clR s.1.1 s.1.2.1 s.1.2.2.1 s.1.2.2.2 (dtV L s.1.2.2.1 (nxA L s.2 3))).1 else s.1, dtA L s.1.2.2.1 (nxA L s.2 3)) else (s.1, nxA L s.2 3)
def sp3 (L : List Int) (s : Hy × Nat) : Hy × Nat :=
  if nxV L s.2 4 = 3 then (if (atM s.1.1 s.1.2.1 s.1.2.2.1 s.1.2.2.2 (dtV L s.1.2.2.1 (nxA L s.2 4)) (dgV L s.1.1 (dtA L s.1.2.2.1 (nxA L s.2 4)))).2 = 0 then (atM s.1.1 s.1.2.1 s.1.2.2.1 s.1.2.2.2 (dtV L s.1.2.2.1 (nxA L s.2 4)) (dgV L s.1.1 (dtA L s.1.2.2.1 (nxA L s.2 4)))).1 else s.1, dgA L s.1.1 (dtA L s.1.2.2.1 (nxA L s.2 4))) else (s.1, nxA L s.2 4)
def sp4 (L : List Int) (s : Hy × Nat) : Hy × Nat :=
  if nxV L s.2 8 = 7 then (if (exR s.1.1 s.1.2.1 s.1.2.2.1 s.1.2.2.2 (dtV L s.1.2.2.1 (nxA L s.2 8))).2 = 0 then (exR s.1.1 s.1.2.1 s.1.2.2.1 s.1.2.2.2 (dtV L s.1.2.2.1 (nxA L s.2 8))).1 else s.1, dtA L s.1.2.2.1 (nxA L s.2 8)) else (s.1, nxA L s.2 8)
def spM (L : List Int) (s : Hy × Nat) : Hy × Nat :=
  if amM s.1.1 s.1.2.1 s.1.2.2.1 s.1.2.2.2 (dgV L s.1.1 s.2) = 0 then sp4 L (sp3 L (sp2 L (sp1 L (s.1, dgA L s.1.1 s.2) (dgV L s.1.1 s.2)))) else (s.1, dgA L s.1.1 s.2)
theorem atM_ok {l : List Nd} {n : Int} {T : List Tk} {h t g : Int} (he : (atM l n T h t g).2 = 0) : atM l n T h t g = plR l n T h t g ∧ amM l n T h g = 0 ∧ (dmM l n g).1 = (dmM l n (fiR l n T h t).1.g).1 ∧ (fiR l n T h t).2 = true ∧ ftM l n T h = true := by
  unfold atM at *
  by_cases a : ftM l n T h = true
  · rw [if_pos a] at he ⊢
    by_cases b : (!(fiR l n T h t).2 || !hasM l n g) = true
    · rw [if_pos b] at he; cases he
    rw [if_neg b] at he ⊢
    by_cases c : amM l n T h g = 0
    · rw [if_pos c] at he ⊢
      by_cases d : (dmM l n g).1 = (dmM l n (fiR l n T h t).1.g).1
      · rw [if_pos d]
        simp only [zaH, zaE, not_or, Bool.not_eq_false] at b
        exact ⟨rfl, c, d, b.1, a⟩
      · rw [if_neg d] at he; cases he
    · rw [if_neg c] at he; exact absurd he c
  · rw [if_neg a] at he; cases he
theorem sp1_ok (L : List Int) (s : Hy × Nat) (g : Int) (hs : HI s.1) : HI (sp1 L s g).1 := by
  unfold sp1
  by_cases e : (spR s.1.1 s.1.2.1 s.1.2.2.1 s.1.2.2.2 g (nxV L s.2 3)).2.2 = 0
  · obtain ⟨e1, e2⟩ := hs.p.spawn e
    rw [if_pos e, e1]
    exact ⟨e2, hs.nm⟩
  · rw [if_neg e]; exact hs
theorem sp2_ok (L : List Int) (s : Hy × Nat) (hs : HI s.1) : HI (sp2 L s).1 := by
  unfold sp2
  split
  · by_cases e : (clR s.1.1 s.1.2.1 s.1.2.2.1 s.1.2.2.2 (dtV L s.1.2.2.1 (nxA L s.2 3))).2.2 = 0
    · obtain ⟨x, _, _, e1, e2⟩ := hs.p.clone e
      simp only
      rw [if_pos e, e1]
      exact ⟨e2, hs.nm⟩
    · simp only
      rw [if_neg e]; exact hs
  · exact hs
theorem sp3_ok (L : List Int) (s : Hy × Nat) (hs : HI s.1) : HI (sp3 L s).1 := by
  unfold sp3
  split
  · by_cases e : (atM s.1.1 s.1.2.1 s.1.2.2.1 s.1.2.2.2 (dtV L s.1.2.2.1 (nxA L s.2 4)) (dgV L s.1.1 (dtA L s.1.2.2.1 (nxA L s.2 4)))).2 = 0
    · simp only
      rw [if_pos e]
      obtain ⟨e0, _⟩ := atM_ok e
      rw [e0] at e ⊢
      obtain ⟨e1, _, _, e2⟩ := hs.p.place e
      rw [e1]
      exact ⟨e2, hs.nm⟩
    · simp only
      rw [if_neg e]; exact hs
  · exact hs
theorem sp4_ok (L : List Int) (s : Hy × Nat) (hs : HI s.1) : HI (sp4 L s).1 := by
  unfold sp4
  split
  · by_cases e : (exR s.1.1 s.1.2.1 s.1.2.2.1 s.1.2.2.2 (dtV L s.1.2.2.1 (nxA L s.2 8))).2 = 0
    · simp only
      rw [if_pos e]
      obtain ⟨e1, _, e2⟩ := hs.p.exit e
      rw [e1]
      exact ⟨e2, hs.nm⟩
    · simp only
      rw [if_neg e]; exact hs
  · exact hs
theorem spM_ok (L : List Int) (s : Hy × Nat) (hs : HI s.1) : HI (spM L s).1 := by
  unfold spM
  split
  · exact sp4_ok L _ (sp3_ok L _ (sp2_ok L _ (sp1_ok L _ _ hs)))
  · exact hs
def hL1 (L : List Int) : Nat → Hy × Nat → Hy × Nat
  | 0, s => s
  | m + 1, s => hL1 L m (stM L s)
def hL2 (L : List Int) : Nat → Hy × Nat → Hy × Nat
  | 0, s => s
  | m + 1, s => hL2 L m (spM L s)
theorem hL1_ok (L : List Int) : ∀ (m : Nat) (s : Hy × Nat), HI s.1 → HI (hL1 L m s).1
  | 0, _, h => h
  | m + 1, s, h => hL1_ok L m _ (stM_ok L s h)
theorem hL2_ok (L : List Int) : ∀ (m : Nat) (s : Hy × Nat), HI s.1 → HI (hL2 L m s).1
  | 0, _, h => h
  | m + 1, s, h => hL2_ok L m _ (spM_ok L s h)
def mkH1 (L : List Int) (j G : Nat) : Hy × Nat := hL1 L (nxV L (mkT L j G).2 ((G : Int) + 3)).toNat (((mkT L j G).1.1, (mkT L j G).1.2, [], 1), nxA L (mkT L j G).2 ((G : Int) + 3))
def mkH (L : List Int) (j G K : Nat) : Hy × Nat := hL2 L (nxV L (mkH1 L j G).2 ((K : Int) + 1)).toNat ((mkH1 L j G).1, nxA L (mkH1 L j G).2 ((K : Int) + 1))
theorem HI_tree {l : List Nd} {n : Int} {B : Nat} (h : TI l n B) : HI (l, n, [], 1) where
  p := ⟨h.v.vt, zaV _, List.Pairwise.nil, (fun x hx => by cases hx), (fun x hx => by cases hx), Int.le_refl 1, (by show (1 : Int) ≤ 2147483648; decide), (fun x hx => by cases hx), (fun x hx => by cases hx), (fun x hx => by cases hx)⟩
  nm := h.nm
theorem mkH_ok (L : List Int) (j G K : Nat) : HI (mkH L j G K).1 := hL2_ok L _ _ (hL1_ok L _ _ (HI_tree (mkT_ok L j G)))
def lendY : FuncId → List Nat := fun f => if f = 10 then [0] else if f = 26 then [0] else if f = 29 then [0] else if f = 17 then [0] else if f = 25 then [0] else if f = 24 then [0] else []
theorem rnew6z_spec : FnSpec Try.prog 23 [] [] (hyV kR none 2 [] none 1) [] := rnew6_spec
set_option maxHeartbeats 16000000 in
theorem hier_spec (L : List Int) (hl : L.length ≤ 600) (hr : ∀ x ∈ L, -9223372036854775808 ≤ x ∧ x ≤ 9223372036854775807) (j G K : Nat) (hG : G ≤ 40) (hK : K ≤ 100) :
    FnSpec Try.prog 9 [dp, i1 G, i1 K] [dice L j] (hyQ (mkH L j G K).1) [some (dice L (mkH L j G K).2)] := by
  have h1 := tree_spec L hl hr j G (by omega)
  have hT := mkT_ok L j G
  have n1 := next_spec L (mkT L j G).2 ((G : Int) + 3) hl hr (by omega)
  have r1 := nx_rng L (mkT L j G).2 ((G : Int) + 3) (by omega)
  obtain ⟨H, hH⟩ : ∃ H, mkH L j G K = H := ⟨_, rfl⟩
  obtain ⟨H1, hH1⟩ : ∃ H1, mkH1 L j G = H1 := ⟨_, rfl⟩
  rw [hH]
  unfold mkH at hH
  rw [hH1] at hH
  unfold mkH1 at hH1
  generalize mkT L j G = t at *
  obtain ⟨⟨tl, tn⟩, j1⟩ := t
  simp only at h1 n1 r1 hT hH1
  obtain ⟨c1, hc1, hc2⟩ : ∃ c : Nat, nxV L j1 ((G : Int) + 3) = c ∧ c ≤ G + 2 := ⟨(nxV L j1 ((G : Int) + 3)).toNat, by omega, by omega⟩
  rw [hc1, Int.toNat_natCast] at hH1
  rw [hc1] at n1
  generalize nxA L j1 ((G : Int) + 3) = j2 at *
  have hh0 := HI_tree hT
  refine fnspec_of mixed TT_ok TT_cl ⟨fun i => if i = 63 then true else if i = 66 then true else if i = 80 then true else if i = 97 then true else false, lendY, 1, fun _ => false, fun _ => false⟩ Try.func9 rfl (by kernel_rfl) rfl 110 rfl [.cell 6 32] rfl ?_
  simp only [go_sem, zaa, zar, zas, zat, zaw, zah, ↓reduceIte, reduceCtorEq, zac, zaf, zax, zay, zaz, lendY, dice, zan, zao, zad, zap, zau, zak, zal, zai, zaA, zaC, zag, zaj]
  repeat' (first
 | with_reducible refine zaG ?_ ?_
 | (apply cl_plain
    case hs => rfl
    case ha => (simp only [zam, zaq, prepV, prepC, idx, hpL', lookR, zaa, if_true, if_false]; rfl)
    case h => (first | exact rnew6z_spec .. | exact h1 .. | exact n1 ..))
 | (apply cl_lend
    case hr => (simp only [zam, zaq, hpL', lookR, zaa, if_true, if_false]; first | exact map1 _ | exact map2 _ _ | exact map3 _ _ _)
    case ha => (simp only [zam, zaq, prepV, prepC, idx, hpL', lookR, zaa, if_true, if_false]; rfl)
    case hs => rfl
    case hn => decide
    case h => (first | exact rnew6z_spec .. | exact h1 .. | exact n1 ..)
    case hf => (simp only [zab, zae, false_implies, implies_true, and_true, true_and, flat_cons, flat_nil, flat_ints, flat_bools, flat_app, Cs_flat, zaO, and_self, eq_self_iff_true, zad])
    case hl => (simp only [zag, zaj]; decide))
 | ((first | refine s1_id ?_ | refine swp_id ?_ | refine sops_id ?_ | refine s2_id ?_); simp only [lendY, dice, zan, zao, zad, zap, zau, zak, zal, zai, zaA, zaC, zag, zaj, go_sem, zaa, zar, zas, zat, zaw, zah, ↓reduceIte, reduceCtorEq, zac, zaf, zax, zay, zaz, zaQ, zaS, zaJ, zaR, renO, bk, back, outUpsFrom, Ints_ren])
 | (intros; omega)
 | (intros; (try simp only [zaF, zaH, zaE, zaD, zav, zaB, decide_eq_true_eq, decide_eq_false_iff_not] at *); omega))
  refine w_loop (ι := Nat × Hy × Nat) (fun s => ⟨[(0, dp), (2, i1 K), (6, .one (.optr 1 0)), (7, .one (.optr 2 0)), (8, i1 s.1)], [(0, some (dice L s.2.2)), (1, some ⟨[.sc (.slice none 0 0), int 0, .sc (.slice none 0 0), int 0], 4⟩), (2, some ⟨hyc s.2.1.1 none s.2.1.2.1 s.2.1.2.2.1 none s.2.1.2.2.2, 4⟩)], 3⟩) (fun s => hL1 L s.1 s.2 = H1 ∧ HI s.2.1 ∧ s.1 ≤ G + 2) (fun s => s.1) (c1, ((tl, tn, [], 1), j2)) ?_ ⟨hH1, hh0, hc2⟩ ?_
  · (refine imp_ren _ _ _ [(0, 0, dice L j2), (1, 1, ⟨[.sc (.slice none 0 0), int 0, .sc (.slice none 0 0), int 0], 4⟩), (2, 3, ⟨[.gsl (Cs tl) 0 tl.length none, int tn, .gsl (Cs []) 0 0 none, int 1], 4⟩)] (by simp) (by simp) (by simp) (zaI rfl) ?_ rfl (by simp only [zab, zae, false_implies, implies_true, and_true, zaT, lookR, zaa, if_true, if_false, ↓reduceIte, dice] <;> (repeat' apply zaG) <;> (first | rfl | trivial)) (by simp only [zab, zae, false_implies, implies_true, and_true, true_and, flat_cons, flat_nil, flat_ints, flat_bools, flat_app, zaO, and_self, eq_self_iff_true, zad, dice]); simp only [zam, zaq, zab, zae, false_implies, implies_true, and_true, lk, slot, zaQ, zaJ, toN, zaa, if_true, if_false, ↓reduceIte, reduceCtorEq])
    all_goals ((repeat' apply zaG) <;> (first | rfl | trivial))
  clear n1 r1 hT h1 hH1 hc1 hh0
  rintro ⟨m, ⟨⟨l, n, T, h⟩, j⟩⟩ ⟨hI, hq, hm⟩
  simp only at hI hq hm ⊢
  cases m with
  | succ m =>
    have c : (0 : Int) < ((m + 1 : Nat) : Int) := by omega
    have e2 : ((m + 1 : Nat) : Int) - 1 = (m : Int) := by omega
    have h2 := hstep_spec L hl hr j (l, n, T, h) hq
    have hq2 := stM_ok L ((l, n, T, h), j) hq
    rw [hL1] at hI
    generalize stM L ((l, n, T, h), j) = S at *
    obtain ⟨⟨l', n', T', h'⟩, j'⟩ := S
    simp only at h2 hq2
    simp only [go_sem, zaa, zar, zas, zat, zaw, zah, ↓reduceIte, reduceCtorEq, zac, zaf, zax, zay, zaz, decide_eq_true c, e2, lendY, dice, zan, zao, zad, zap, zau, zak, zal, zai, zaA, zaC, zag, zaj]
    repeat' (first
 | with_reducible refine zaG ?_ ?_
 | (apply cl_lend
    case hr => (simp only [zam, zaq, hpL', lookR, zaa, if_true, if_false]; first | exact map1 _ | exact map2 _ _ | exact map3 _ _ _)
    case ha => (simp only [zam, zaq, prepV, prepC, idx, hpL', lookR, zaa, if_true, if_false]; rfl)
    case hs => rfl
    case hn => decide
    case h => (first | exact h2 ..)
    case hf => (simp only [zab, zae, false_implies, implies_true, and_true, true_and, flat_cons, flat_nil, flat_ints, flat_bools, flat_app, Cs_flat, zaO, and_self, eq_self_iff_true, zad])
    case hl => (simp only [zag, zaj]; decide))
 | ((first | refine s1_id ?_ | refine swp_id ?_ | refine sops_id ?_ | refine s2_id ?_); simp only [decide_eq_true c, e2, lendY, dice, zan, zao, zad, zap, zau, zak, zal, zai, zaA, zaC, zag, zaj, go_sem, zaa, zar, zas, zat, zaw, zah, ↓reduceIte, reduceCtorEq, zac, zaf, zax, zay, zaz, zaQ, zaS, zaJ, zaR, renO, bk, back, outUpsFrom, Ints_ren])
 | (intros; omega)
 | (intros; (try simp only [zaF, zaH, zaE, zaD, zav, zaB, decide_eq_true_eq, decide_eq_false_iff_not] at *); omega))
    refine le_mk (m, ((l', n', T', h'), j')) ?_ ⟨hI, hq2, by omega⟩ (by show m < m + 1; omega)
    (refine imp_ren _ _ _ [(0, 0, dice L j'), (1, 1, ⟨[.sc (.slice none 0 0), int 0, .sc (.slice none 0 0), int 0], 4⟩), (2, 2, ⟨[.gsl (Cs l') 0 l'.length none, int n', .gsl (Cs T') 0 T'.length none, int h'], 4⟩)] (by simp) (by simp) (by simp) (zaI rfl) ?_ rfl (by simp only [zab, zae, false_implies, implies_true, and_true, zaT, lookR, zaa, if_true, if_false, ↓reduceIte, dice] <;> (repeat' apply zaG) <;> (first | rfl | trivial)) (by simp only [zab, zae, false_implies, implies_true, and_true, true_and, flat_cons, flat_nil, flat_ints, flat_bools, flat_app, zaO, and_self, eq_self_iff_true, zad, dice]); simp only [zam, zaq, zab, zae, false_implies, implies_true, and_true, lk, slot, zaQ, zaJ, toN, zaa, if_true, if_false, ↓reduceIte, reduceCtorEq])
    all_goals ((repeat' apply zaG) <;> (first | rfl | trivial))
  | zero =>
  rw [hL1] at hI
  subst hI
  simp only at hH
  have n1 := next_spec L j ((K : Int) + 1) hl hr (by omega)
  have r1 := nx_rng L j ((K : Int) + 1) (by omega)
  obtain ⟨c2, hc3, hc4⟩ : ∃ c : Nat, nxV L j ((K : Int) + 1) = c ∧ c ≤ K := ⟨(nxV L j ((K : Int) + 1)).toNat, by omega, by omega⟩
  rw [hc3, Int.toNat_natCast] at hH
  rw [hc3] at n1
  generalize nxA L j ((K : Int) + 1) = j3 at *
  simp only [go_sem, zaa, zar, zas, zat, zaw, zah, ↓reduceIte, reduceCtorEq, zac, zaf, zax, zay, zaz, (show decide ((0 : Int) < ((0 : Nat) : Int)) = false from rfl), lendY, dice, zan, zao, zad, zap, zau, zak, zal, zai, zaA, zaC, zag, zaj]
  repeat' (first
 | with_reducible refine zaG ?_ ?_
 | (apply cl_lend
    case hr => (simp only [zam, zaq, hpL', lookR, zaa, if_true, if_false]; first | exact map1 _ | exact map2 _ _ | exact map3 _ _ _)
    case ha => (simp only [zam, zaq, prepV, prepC, idx, hpL', lookR, zaa, if_true, if_false]; rfl)
    case hs => rfl
    case hn => decide
    case h => (first | exact n1 ..)
    case hf => (simp only [zab, zae, false_implies, implies_true, and_true, true_and, flat_cons, flat_nil, flat_ints, flat_bools, flat_app, Cs_flat, zaO, and_self, eq_self_iff_true, zad])
    case hl => (simp only [zag, zaj]; decide))
 | ((first | refine s1_id ?_ | refine swp_id ?_ | refine sops_id ?_ | refine s2_id ?_); simp only [(show decide ((0 : Int) < ((0 : Nat) : Int)) = false from rfl), lendY, dice, zan, zao, zad, zap, zau, zak, zal, zai, zaA, zaC, zag, zaj, go_sem, zaa, zar, zas, zat, zaw, zah, ↓reduceIte, reduceCtorEq, zac, zaf, zax, zay, zaz, zaQ, zaS, zaJ, zaR, renO, bk, back, outUpsFrom, Ints_ren])
 | (intros; omega)
 | (intros; (try simp only [zaF, zaH, zaE, zaD, zav, zaB, decide_eq_true_eq, decide_eq_false_iff_not] at *); omega))
  refine w_loop (ι := Nat × Hy × Nat) (fun s => ⟨[(0, dp), (6, .one (.optr 1 0)), (7, .one (.optr 2 0)), (9, i1 s.1)], [(0, some (dice L s.2.2)), (1, some ⟨[.sc (.slice none 0 0), int 0, .sc (.slice none 0 0), int 0], 4⟩), (2, some ⟨hyc s.2.1.1 none s.2.1.2.1 s.2.1.2.2.1 none s.2.1.2.2.2, 4⟩)], 3⟩) (fun s => hL2 L s.1 s.2 = H ∧ HI s.2.1 ∧ s.1 ≤ K) (fun s => s.1) (c2, ((l, n, T, h), j3)) ?_ ⟨hH, hq, hc4⟩ ?_
  · (refine imp_ren _ _ _ [(0, 0, dice L j3), (1, 1, ⟨[.sc (.slice none 0 0), int 0, .sc (.slice none 0 0), int 0], 4⟩), (2, 2, ⟨[.gsl (Cs l) 0 l.length none, int n, .gsl (Cs T) 0 T.length none, int h], 4⟩)] (by simp) (by simp) (by simp) (zaI rfl) ?_ rfl (by simp only [zab, zae, false_implies, implies_true, and_true, zaT, lookR, zaa, if_true, if_false, ↓reduceIte, dice] <;> (repeat' apply zaG) <;> (first | rfl | trivial)) (by simp only [zab, zae, false_implies, implies_true, and_true, true_and, flat_cons, flat_nil, flat_ints, flat_bools, flat_app, zaO, and_self, eq_self_iff_true, zad, dice]); simp only [zam, zaq, zab, zae, false_implies, implies_true, and_true, lk, slot, zaQ, zaJ, toN, zaa, if_true, if_false, ↓reduceIte, reduceCtorEq])
    all_goals ((repeat' apply zaG) <;> (first | rfl | trivial))
  clear n1 r1 hH hq hm hc3
  rintro ⟨m, ⟨⟨l, n, T, h⟩, j⟩⟩ ⟨hI, hq, hmK⟩
  simp only at hI hq hmK ⊢
  cases m with
  | zero =>
    rw [hL2] at hI
    subst hI
    simp only [go_sem, zaa, zar, zas, zat, zaw, zah, ↓reduceIte, reduceCtorEq, zac, zaf, zax, zay, zaz, (show decide ((0 : Int) < ((0 : Nat) : Int)) = false from rfl), lendY, dice, zan, zao, zad, zap, zau, zak, zal, zai, zaA, zaC, zag, zaj]
    repeat' (first
 | (intros; (try simp only [zaF, zaH, zaE, zaD, zav, zaB, decide_eq_true_eq, decide_eq_false_iff_not] at *); omega))
    (refine fs_flat [(0, dice L j)] (by simp) (by simp only [zam, zaq]; decide) (by simp only [go_sem, resV, resS, zaQ, zaS, zaJ, St.tmF, zaT, idx, renO, zaR, evS, slot, lookR, zaa, ↓reduceIte, reduceCtorEq, if_true, if_false, zbd, zbe, zam, zaq, sLoad, readAt, readNeed, Ints_ren, Ints_length, Ints_getD, and_true, true_and, zaY, zaZ]; try decide) ?_ (by simp only [zab, zae, false_implies, implies_true, and_true, zaT, lookR, zaa, if_true, if_false, ↓reduceIte, dice] <;> (repeat' apply zaG) <;> (first | rfl | trivial)) (by simp only [zab, zae, false_implies, implies_true, and_true, true_and, flat_cons, flat_nil, flat_ints, flat_bools, flat_app, zaO, and_self, eq_self_iff_true, zad, dice]) ?_ <;> (try simp only [go_sem, resV, resS, zaQ, zaS, zaJ, St.tmF, zaT, idx, renO, zaR, evS, slot, lookR, zaa, ↓reduceIte, reduceCtorEq, if_true, if_false, zbd, zbe, zam, zaq, sLoad, readAt, readNeed, Ints_ren, Ints_length, Ints_getD, and_true, true_and, zaY, zaZ]) <;> (try rfl))
  | succ m =>
  have c : (0 : Int) < ((m + 1 : Nat) : Int) := by omega
  have e2 : ((m + 1 : Nat) : Int) - 1 = (m : Int) := by omega
  have h1 := dgroup_spec L hl hr j l n hq.len.1 hq.len.2
  have h2 := r8admits_spec l n T h (dgV L l j) hq.b
  rw [hL2] at hI
  have hq5 := spM_ok L ((l, n, T, h), j) hq
  unfold spM at hI hq5
  simp only at hI hq5
  generalize dgV L l j = g at *
  generalize dgA L l j = ja at *
  by_cases am : amM l n T h g = 0
  case neg =>
    rw [if_neg am] at hI hq5
    simp only [go_sem, zaa, zar, zas, zat, zaw, zah, ↓reduceIte, reduceCtorEq, zac, zaf, zax, zay, zaz, decide_eq_true c, e2, decide_eq_false am, lendY, dice, zan, zao, zad, zap, zau, zak, zal, zai, zaA, zaC, zag, zaj]
    repeat' (first
 | with_reducible refine zaG ?_ ?_
 | (apply cl_plain
    case hs => rfl
    case ha => (simp only [zam, zaq, prepV, prepC, idx, hpL', lookR, zaa, if_true, if_false]; rfl)
    case h => (first | exact h1 .. | exact h2 ..))
 | (apply cl_lend
    case hr => (simp only [zam, zaq, hpL', lookR, zaa, if_true, if_false]; first | exact map1 _ | exact map2 _ _ | exact map3 _ _ _)
    case ha => (simp only [zam, zaq, prepV, prepC, idx, hpL', lookR, zaa, if_true, if_false]; rfl)
    case hs => rfl
    case hn => decide
    case h => (first | exact h1 .. | exact h2 ..)
    case hf => (simp only [zab, zae, false_implies, implies_true, and_true, true_and, flat_cons, flat_nil, flat_ints, flat_bools, flat_app, Cs_flat, zaO, and_self, eq_self_iff_true, zad])
    case hl => (simp only [zag, zaj]; decide))
 | ((first | refine s1_id ?_ | refine swp_id ?_ | refine sops_id ?_ | refine s2_id ?_); simp only [decide_eq_true c, e2, decide_eq_false am, lendY, dice, zan, zao, zad, zap, zau, zak, zal, zai, zaA, zaC, zag, zaj, go_sem, zaa, zar, zas, zat, zaw, zah, ↓reduceIte, reduceCtorEq, zac, zaf, zax, zay, zaz, zaQ, zaS, zaJ, zaR, renO, bk, back, outUpsFrom, Ints_ren])
 | (intros; omega)
 | (intros; (try simp only [zaF, zaH, zaE, zaD, zav, zaB, decide_eq_true_eq, decide_eq_false_iff_not] at *); omega))
    refine le_mk (m, ((l, n, T, h), ja)) ?_ ⟨hI, hq, by omega⟩ (by show m < m + 1; omega)
    (refine imp_ren _ _ _ [(0, 0, dice L ja), (1, 1, ⟨[.sc (.slice none 0 0), int 0, .sc (.slice none 0 0), int 0], 4⟩), (2, 2, ⟨[.gsl (Cs l) 0 l.length none, int n, .gsl (Cs T) 0 T.length none, int h], 4⟩)] (by simp) (by simp) (by simp) (zaI rfl) ?_ rfl (by simp only [zab, zae, false_implies, implies_true, and_true, zaT, lookR, zaa, if_true, if_false, ↓reduceIte, dice] <;> (repeat' apply zaG) <;> (first | rfl | trivial)) (by simp only [zab, zae, false_implies, implies_true, and_true, true_and, flat_cons, flat_nil, flat_ints, flat_bools, flat_app, zaO, and_self, eq_self_iff_true, zad, dice]); simp only [zam, zaq, zab, zae, false_implies, implies_true, and_true, lk, slot, zaQ, zaJ, toN, zaa, if_true, if_false, ↓reduceIte, reduceCtorEq])
    all_goals ((repeat' apply zaG) <;> (first | rfl | trivial))
  rw [if_pos am] at hI hq5
  have n3 := next_spec L ja 3 hl hr (by decide)
  have a3 := rspawn6_spec l n T h g (nxV L ja 3) hq.b.l hq.b.t hq.b.nm
  have hq1 := sp1_ok L ((l, n, T, h), ja) g hq
  obtain ⟨S1, hS1⟩ : ∃ S, sp1 L ((l, n, T, h), ja) g = S := ⟨_, rfl⟩
  rw [hS1] at hI hq1 hq5
  unfold sp1 at hS1
  simp only at hS1
  generalize spR l n T h g (nxV L ja 3) = E at *
  obtain ⟨⟨l1, n1, T1, h1'⟩, i1', e1⟩ := E
  generalize nxA L ja 3 = jb at *
  generalize nxV L ja 3 = us at *
  obtain ⟨⟨l2, n2, T2, h2'⟩, jb'⟩ := S1
  simp only [Prod.mk.injEq] at hS1 hq1 a3
  obtain ⟨hS1, rfl⟩ := hS1
  simp only [go_sem, zaa, zar, zas, zat, zaw, zah, ↓reduceIte, reduceCtorEq, zac, zaf, zax, zay, zaz, decide_eq_true c, decide_eq_true am, lendY, dice, zan, zao, zad, zap, zau, zak, zal, zai, zaA, zaC, zag, zaj]
  repeat' (first
 | with_reducible refine zaG ?_ ?_
 | (unfold OKC; kernel_rfl)
 | (unfold EDG; kernel_rfl)
 | (apply cl_plain
    case hs => rfl
    case ha => (simp only [zam, zaq, prepV, prepC, idx, hpL', lookR, zaa, if_true, if_false]; rfl)
    case h => (first | exact h1 .. | exact h2 .. | exact n3 .. | exact a3 ..))
 | (apply cl_lend
    case hr => (simp only [zam, zaq, hpL', lookR, zaa, if_true, if_false]; first | exact map1 _ | exact map2 _ _ | exact map3 _ _ _)
    case ha => (simp only [zam, zaq, prepV, prepC, idx, hpL', lookR, zaa, if_true, if_false]; rfl)
    case hs => rfl
    case hn => decide
    case h => (first | exact h1 .. | exact h2 .. | exact n3 .. | exact a3 ..)
    case hf => (simp only [zab, zae, false_implies, implies_true, and_true, true_and, flat_cons, flat_nil, flat_ints, flat_bools, flat_app, Cs_flat, zaO, and_self, eq_self_iff_true, zad])
    case hl => (simp only [zag, zaj]; decide))
 | ((first | refine s1_id ?_ | refine swp_id ?_ | refine sops_id ?_ | refine s2_id ?_); simp only [decide_eq_true c, decide_eq_true am, lendY, dice, zan, zao, zad, zap, zau, zak, zal, zai, zaA, zaC, zag, zaj, go_sem, zaa, zar, zas, zat, zaw, zah, ↓reduceIte, reduceCtorEq, zac, zaf, zax, zay, zaz, zaQ, zaS, zaJ, zaR, renO, bk, back, outUpsFrom, Ints_ren])
 | (intros; (try simp only [zaF, zaH, zaE, zaD, zav, zaB, decide_eq_true_eq, decide_eq_false_iff_not] at *); omega))
  refine cd_cut1 ⟨[(0, dp), (6, .one (.optr 1 0)), (7, .one (.optr 2 0)), (9, i1 (m + 1 : Nat))], [(0, some (dice L jb)), (1, some ⟨[.sc (.slice none 0 0), int 0, .sc (.slice none 0 0), int 0], 4⟩), (2, some ⟨[.gsl (Cs l2) 0 l2.length none, int n2, .gsl (Cs T2) 0 T2.length none, int h2'], 4⟩)], 3⟩ (fun hc => ?_) (fun hc => ?_) ?_
  · have hc := of_decide_eq_true hc
    rw [if_pos hc] at hS1
    simp only [Prod.mk.injEq] at hS1
    obtain ⟨rfl, rfl, rfl, rfl⟩ := hS1
    simp only [go_sem, zaa, zar, zas, zat, zaw, zah, ↓reduceIte, reduceCtorEq, zac, zaf, zax, zay, zaz, decide_eq_true hc, lendY, dice, zan, zao, zad, zap, zau, zak, zal, zai, zaA, zaC, zag, zaj]
    repeat' (first
 | (intros; (try simp only [zaF, zaH, zaE, zaD, zav, zaB, decide_eq_true_eq, decide_eq_false_iff_not] at *); omega))
    refine ⟨_, ?_, rfl⟩
    (refine imp_ren _ _ _ [(0, 0, dice L jb), (1, 1, ⟨[.sc (.slice none 0 0), int 0, .sc (.slice none 0 0), int 0], 4⟩), (2, 2, ⟨[.gsl (Cs l1) 0 l1.length none, int n1, .gsl (Cs T1) 0 T1.length none, int h1'], 4⟩)] (by simp) (by simp) (by simp) (zaI rfl) ?_ rfl (by simp only [zab, zae, false_implies, implies_true, and_true, zaT, lookR, zaa, if_true, if_false, ↓reduceIte, dice] <;> (repeat' apply zaG) <;> (first | rfl | trivial)) (by simp only [zab, zae, false_implies, implies_true, and_true, true_and, flat_cons, flat_nil, flat_ints, flat_bools, flat_app, zaO, and_self, eq_self_iff_true, zad, dice]); simp only [zam, zaq, zab, zae, false_implies, implies_true, and_true, lk, slot, zaQ, zaJ, toN, zaa, if_true, if_false, ↓reduceIte, reduceCtorEq])
    all_goals ((repeat' apply zaG) <;> (first | rfl | trivial))
  · have hc := of_decide_eq_false hc
    rw [if_neg hc] at hS1
    simp only [Prod.mk.injEq] at hS1
    obtain ⟨rfl, rfl, rfl, rfl⟩ := hS1
    simp only [go_sem, zaa, zar, zas, zat, zaw, zah, ↓reduceIte, reduceCtorEq, zac, zaf, zax, zay, zaz, decide_eq_false hc, lendY, dice, zan, zao, zad, zap, zau, zak, zal, zai, zaA, zaC, zag, zaj]
    repeat' (first
 | (intros; (try simp only [zaF, zaH, zaE, zaD, zav, zaB, decide_eq_true_eq, decide_eq_false_iff_not] at *); omega))
    refine ⟨_, ?_, rfl⟩
    (refine imp_ren _ _ _ [(0, 0, dice L jb), (1, 1, ⟨[.sc (.slice none 0 0), int 0, .sc (.slice none 0 0), int 0], 4⟩), (2, 2, ⟨[.gsl (Cs l) 0 l.length none, int n, .gsl (Cs T) 0 T.length none, int h], 4⟩)] (by simp) (by simp) (by simp) (zaI rfl) ?_ rfl (by simp only [zab, zae, false_implies, implies_true, and_true, zaT, lookR, zaa, if_true, if_false, ↓reduceIte, dice] <;> (repeat' apply zaG) <;> (first | rfl | trivial)) (by simp only [zab, zae, false_implies, implies_true, and_true, true_and, flat_cons, flat_nil, flat_ints, flat_bools, flat_app, zaO, and_self, eq_self_iff_true, zad, dice]); simp only [zam, zaq, zab, zae, false_implies, implies_true, and_true, lk, slot, zaQ, zaJ, toN, zaa, if_true, if_false, ↓reduceIte, reduceCtorEq])
    all_goals ((repeat' apply zaG) <;> (first | rfl | trivial))
  clear hS1 h1 h2 n3 a3 hq am
  have hq1 : HI (l2, n2, T2, h2') := hq1
  have hq2 := sp2_ok L ((l2, n2, T2, h2'), jb) hq1
  obtain ⟨S2, hS2⟩ : ∃ S, sp2 L ((l2, n2, T2, h2'), jb) = S := ⟨_, rfl⟩
  rw [hS2] at hI hq2 hq5
  unfold sp2 at hS2
  simp only at hS2
  have nb := bool_spec L jb 3 hl hr (by decide)
  rw [show (3 : Int) - 1 = 2 from rfl] at nb
  generalize nxA L jb 3 = ja at *
  generalize nxV L jb 3 = v at *
  have tk := dtask_spec L hl hr ja l2 n2 T2 h2' hq1.b.t
  generalize dtV L T2 ja = tt at *
  generalize dtA L T2 ja = jt at *
  have cc := rclone6_spec l2 n2 T2 h2' tt hq1.b.l hq1.b.t hq1.b.nm
  generalize clR l2 n2 T2 h2' tt = E at *
  obtain ⟨⟨el, en, eT, eh⟩, ei, ee⟩ := E
  simp only at cc hS2
  obtain ⟨⟨l3, n3', T3, h3'⟩, jc⟩ := S2
  simp only at hq2
  simp only [go_sem, zaa, zar, zas, zat, zaw, zah, ↓reduceIte, reduceCtorEq, zac, zaf, zax, zay, zaz, lendY, dice, zan, zao, zad, zap, zau, zak, zal, zai, zaA, zaC, zag, zaj]
  repeat' (first
 | (apply cl_lend
    case hr => (simp only [zam, zaq, hpL', lookR, zaa, if_true, if_false]; first | exact map1 _ | exact map2 _ _ | exact map3 _ _ _)
    case ha => (simp only [zam, zaq, prepV, prepC, idx, hpL', lookR, zaa, if_true, if_false]; rfl)
    case hs => rfl
    case hn => decide
    case h => (first | exact nb ..)
    case hf => (simp only [zab, zae, false_implies, implies_true, and_true, true_and, flat_cons, flat_nil, flat_ints, flat_bools, flat_app, Cs_flat, zaO, and_self, eq_self_iff_true, zad])
    case hl => (simp only [zag, zaj]; decide))
 | ((first | refine s1_id ?_ | refine swp_id ?_ | refine sops_id ?_ | refine s2_id ?_); simp only [lendY, dice, zan, zao, zad, zap, zau, zak, zal, zai, zaA, zaC, zag, zaj, go_sem, zaa, zar, zas, zat, zaw, zah, ↓reduceIte, reduceCtorEq, zac, zaf, zax, zay, zaz, zaQ, zaS, zaJ, zaR, renO, bk, back, outUpsFrom, Ints_ren])
 | (intros; (try simp only [zaF, zaH, zaE, zaD, zav, zaB, decide_eq_true_eq, decide_eq_false_iff_not] at *); omega))
  refine cd_cut1 ⟨[(0, dp), (6, .one (.optr 1 0)), (7, .one (.optr 2 0)), (9, i1 (m + 1 : Nat))], [(0, some (dice L jc)), (1, some ⟨[.sc (.slice none 0 0), int 0, .sc (.slice none 0 0), int 0], 4⟩), (2, some ⟨[.gsl (Cs l3) 0 l3.length none, int n3', .gsl (Cs T3) 0 T3.length none, int h3'], 4⟩)], 3⟩ (fun hc => ?_) (fun hc => ?_) ?_
  · have hc := of_decide_eq_true hc
    rw [if_pos hc] at hS2
    by_cases d : ee = 0
    · rw [if_pos d] at hS2
      simp only [Prod.mk.injEq] at hS2
      obtain ⟨⟨rfl, rfl, rfl, rfl⟩, rfl⟩ := hS2
      simp only [go_sem, zaa, zar, zas, zat, zaw, zah, ↓reduceIte, reduceCtorEq, zac, zaf, zax, zay, zaz, decide_eq_true hc, decide_eq_true d, lendY, dice, zan, zao, zad, zap, zau, zak, zal, zai, zaA, zaC, zag, zaj]
      repeat' (first
 | with_reducible refine zaG ?_ ?_
 | (unfold OKC; kernel_rfl)
 | (unfold EDG; kernel_rfl)
 | (apply cl_plain
    case hs => rfl
    case ha => (simp only [zam, zaq, prepV, prepC, idx, hpL', lookR, zaa, if_true, if_false]; rfl)
    case h => (first | exact tk .. | exact cc ..))
 | (apply cl_lend
    case hr => (simp only [zam, zaq, hpL', lookR, zaa, if_true, if_false]; first | exact map1 _ | exact map2 _ _ | exact map3 _ _ _)
    case ha => (simp only [zam, zaq, prepV, prepC, idx, hpL', lookR, zaa, if_true, if_false]; rfl)
    case hs => rfl
    case hn => decide
    case h => (first | exact tk .. | exact cc ..)
    case hf => (simp only [zab, zae, false_implies, implies_true, and_true, true_and, flat_cons, flat_nil, flat_ints, flat_bools, flat_app, Cs_flat, zaO, and_self, eq_self_iff_true, zad])
    case hl => (simp only [zag, zaj]; decide))
 | ((first | refine s1_id ?_ | refine swp_id ?_ | refine sops_id ?_ | refine s2_id ?_); simp only [decide_eq_true hc, decide_eq_true d, lendY, dice, zan, zao, zad, zap, zau, zak, zal, zai, zaA, zaC, zag, zaj, go_sem, zaa, zar, zas, zat, zaw, zah, ↓reduceIte, reduceCtorEq, zac, zaf, zax, zay, zaz, zaQ, zaS, zaJ, zaR, renO, bk, back, outUpsFrom, Ints_ren])
 | (intros; (try simp only [zaF, zaH, zaE, zaD, zav, zaB, decide_eq_true_eq, decide_eq_false_iff_not] at *); omega))
      refine ⟨_, ?_, rfl⟩
      (refine imp_ren _ _ _ [(0, 0, dice L jt), (1, 1, ⟨[.sc (.slice none 0 0), int 0, .sc (.slice none 0 0), int 0], 4⟩), (2, 2, ⟨[.gsl (Cs el) 0 el.length none, int en, .gsl (Cs eT) 0 eT.length none, int eh], 4⟩)] (by simp) (by simp) (by simp) (zaI rfl) ?_ rfl (by simp only [zab, zae, false_implies, implies_true, and_true, zaT, lookR, zaa, if_true, if_false, ↓reduceIte, dice] <;> (repeat' apply zaG) <;> (first | rfl | trivial)) (by simp only [zab, zae, false_implies, implies_true, and_true, true_and, flat_cons, flat_nil, flat_ints, flat_bools, flat_app, zaO, and_self, eq_self_iff_true, zad, dice]); simp only [zam, zaq, zab, zae, false_implies, implies_true, and_true, lk, slot, zaQ, zaJ, toN, zaa, if_true, if_false, ↓reduceIte, reduceCtorEq])
      all_goals ((repeat' apply zaG) <;> (first | rfl | trivial))
    rw [if_neg d] at hS2
    simp only [Prod.mk.injEq] at hS2
    obtain ⟨⟨rfl, rfl, rfl, rfl⟩, rfl⟩ := hS2
    simp only [go_sem, zaa, zar, zas, zat, zaw, zah, ↓reduceIte, reduceCtorEq, zac, zaf, zax, zay, zaz, decide_eq_true hc, decide_eq_false d, lendY, dice, zan, zao, zad, zap, zau, zak, zal, zai, zaA, zaC, zag, zaj]
    repeat' (first
 | with_reducible refine zaG ?_ ?_
 | (unfold OKC; kernel_rfl)
 | (unfold EDG; kernel_rfl)
 | (apply cl_plain
    case hs => rfl
    case ha => (simp only [zam, zaq, prepV, prepC, idx, hpL', lookR, zaa, if_true, if_false]; rfl)
    case h => (first | exact tk .. | exact cc ..))
 | (apply cl_lend
    case hr => (simp only [zam, zaq, hpL', lookR, zaa, if_true, if_false]; first | exact map1 _ | exact map2 _ _ | exact map3 _ _ _)
    case ha => (simp only [zam, zaq, prepV, prepC, idx, hpL', lookR, zaa, if_true, if_false]; rfl)
    case hs => rfl
    case hn => decide
    case h => (first | exact tk .. | exact cc ..)
    case hf => (simp only [zab, zae, false_implies, implies_true, and_true, true_and, flat_cons, flat_nil, flat_ints, flat_bools, flat_app, Cs_flat, zaO, and_self, eq_self_iff_true, zad])
    case hl => (simp only [zag, zaj]; decide))
 | ((first | refine s1_id ?_ | refine swp_id ?_ | refine sops_id ?_ | refine s2_id ?_); simp only [decide_eq_true hc, decide_eq_false d, lendY, dice, zan, zao, zad, zap, zau, zak, zal, zai, zaA, zaC, zag, zaj, go_sem, zaa, zar, zas, zat, zaw, zah, ↓reduceIte, reduceCtorEq, zac, zaf, zax, zay, zaz, zaQ, zaS, zaJ, zaR, renO, bk, back, outUpsFrom, Ints_ren])
 | (intros; (try simp only [zaF, zaH, zaE, zaD, zav, zaB, decide_eq_true_eq, decide_eq_false_iff_not] at *); omega))
    refine ⟨_, ?_, rfl⟩
    (refine imp_ren _ _ _ [(0, 0, dice L jt), (1, 1, ⟨[.sc (.slice none 0 0), int 0, .sc (.slice none 0 0), int 0], 4⟩), (2, 2, ⟨[.gsl (Cs l2) 0 l2.length none, int n2, .gsl (Cs T2) 0 T2.length none, int h2'], 4⟩)] (by simp) (by simp) (by simp) (zaI rfl) ?_ rfl (by simp only [zab, zae, false_implies, implies_true, and_true, zaT, lookR, zaa, if_true, if_false, ↓reduceIte, dice] <;> (repeat' apply zaG) <;> (first | rfl | trivial)) (by simp only [zab, zae, false_implies, implies_true, and_true, true_and, flat_cons, flat_nil, flat_ints, flat_bools, flat_app, zaO, and_self, eq_self_iff_true, zad, dice]); simp only [zam, zaq, zab, zae, false_implies, implies_true, and_true, lk, slot, zaQ, zaJ, toN, zaa, if_true, if_false, ↓reduceIte, reduceCtorEq])
    all_goals ((repeat' apply zaG) <;> (first | rfl | trivial))
  · have hc := of_decide_eq_false hc
    rw [if_neg hc] at hS2
    simp only [Prod.mk.injEq] at hS2
    obtain ⟨⟨rfl, rfl, rfl, rfl⟩, rfl⟩ := hS2
    simp only [go_sem, zaa, zar, zas, zat, zaw, zah, ↓reduceIte, reduceCtorEq, zac, zaf, zax, zay, zaz, decide_eq_false hc, lendY, dice, zan, zao, zad, zap, zau, zak, zal, zai, zaA, zaC, zag, zaj]
    repeat' (first
 | (intros; (try simp only [zaF, zaH, zaE, zaD, zav, zaB, decide_eq_true_eq, decide_eq_false_iff_not] at *); omega))
    refine ⟨_, ?_, rfl⟩
    (refine imp_ren _ _ _ [(0, 0, dice L ja), (1, 1, ⟨[.sc (.slice none 0 0), int 0, .sc (.slice none 0 0), int 0], 4⟩), (2, 2, ⟨[.gsl (Cs l2) 0 l2.length none, int n2, .gsl (Cs T2) 0 T2.length none, int h2'], 4⟩)] (by simp) (by simp) (by simp) (zaI rfl) ?_ rfl (by simp only [zab, zae, false_implies, implies_true, and_true, zaT, lookR, zaa, if_true, if_false, ↓reduceIte, dice] <;> (repeat' apply zaG) <;> (first | rfl | trivial)) (by simp only [zab, zae, false_implies, implies_true, and_true, true_and, flat_cons, flat_nil, flat_ints, flat_bools, flat_app, zaO, and_self, eq_self_iff_true, zad, dice]); simp only [zam, zaq, zab, zae, false_implies, implies_true, and_true, lk, slot, zaQ, zaJ, toN, zaa, if_true, if_false, ↓reduceIte, reduceCtorEq])
    all_goals ((repeat' apply zaG) <;> (first | rfl | trivial))
  clear hS2 nb tk cc hq1
  have hq2 : HI (l3, n3', T3, h3') := hq2
  have hq3 := sp3_ok L ((l3, n3', T3, h3'), jc) hq2
  obtain ⟨S3, hS3⟩ : ∃ S, sp3 L ((l3, n3', T3, h3'), jc) = S := ⟨_, rfl⟩
  rw [hS3] at hI hq3 hq5
  unfold sp3 at hS3
  simp only at hS3
  have nb := bool_spec L jc 4 hl hr (by decide)
  rw [show (4 : Int) - 1 = 3 from rfl] at nb
  generalize nxA L jc 4 = ja at *
  generalize nxV L jc 4 = v at *
  have tk := dtask_spec L hl hr ja l3 n3' T3 h3' hq2.b.t
  generalize dtV L T3 ja = tt at *
  generalize dtA L T3 ja = jt at *
  have gg := dgroup_spec L hl hr jt l3 n3' hq2.len.1 hq2.len.2
  generalize dgV L l3 jt = g3 at *
  generalize dgA L l3 jt = jg at *
  have cc := r8at_spec l3 n3' T3 h3' tt g3 hq2.b
  generalize atM l3 n3' T3 h3' tt g3 = E at *
  obtain ⟨⟨el, en, eT, eh⟩, ee⟩ := E
  simp only at cc hS3
  obtain ⟨⟨l4, n4, T4, h4'⟩, jd⟩ := S3
  simp only at hq3
  simp only [go_sem, zaa, zar, zas, zat, zaw, zah, ↓reduceIte, reduceCtorEq, zac, zaf, zax, zay, zaz, lendY, dice, zan, zao, zad, zap, zau, zak, zal, zai, zaA, zaC, zag, zaj]
  repeat' (first
 | (apply cl_lend
    case hr => (simp only [zam, zaq, hpL', lookR, zaa, if_true, if_false]; first | exact map1 _ | exact map2 _ _ | exact map3 _ _ _)
    case ha => (simp only [zam, zaq, prepV, prepC, idx, hpL', lookR, zaa, if_true, if_false]; rfl)
    case hs => rfl
    case hn => decide
    case h => (first | exact nb ..)
    case hf => (simp only [zab, zae, false_implies, implies_true, and_true, true_and, flat_cons, flat_nil, flat_ints, flat_bools, flat_app, Cs_flat, zaO, and_self, eq_self_iff_true, zad])
    case hl => (simp only [zag, zaj]; decide))
 | ((first | refine s1_id ?_ | refine swp_id ?_ | refine sops_id ?_ | refine s2_id ?_); simp only [lendY, dice, zan, zao, zad, zap, zau, zak, zal, zai, zaA, zaC, zag, zaj, go_sem, zaa, zar, zas, zat, zaw, zah, ↓reduceIte, reduceCtorEq, zac, zaf, zax, zay, zaz, zaQ, zaS, zaJ, zaR, renO, bk, back, outUpsFrom, Ints_ren])
 | (intros; (try simp only [zaF, zaH, zaE, zaD, zav, zaB, decide_eq_true_eq, decide_eq_false_iff_not] at *); omega))
  refine cd_cut1 ⟨[(0, dp), (6, .one (.optr 1 0)), (7, .one (.optr 2 0)), (9, i1 (m + 1 : Nat))], [(0, some (dice L jd)), (1, some ⟨[.sc (.slice none 0 0), int 0, .sc (.slice none 0 0), int 0], 4⟩), (2, some ⟨[.gsl (Cs l4) 0 l4.length none, int n4, .gsl (Cs T4) 0 T4.length none, int h4'], 4⟩)], 3⟩ (fun hc => ?_) (fun hc => ?_) ?_
  · have hc := of_decide_eq_true hc
    rw [if_pos hc] at hS3
    by_cases d : ee = 0
    · rw [if_pos d] at hS3
      simp only [Prod.mk.injEq] at hS3
      obtain ⟨⟨rfl, rfl, rfl, rfl⟩, rfl⟩ := hS3
      simp only [go_sem, zaa, zar, zas, zat, zaw, zah, ↓reduceIte, reduceCtorEq, zac, zaf, zax, zay, zaz, decide_eq_true hc, decide_eq_true d, lendY, dice, zan, zao, zad, zap, zau, zak, zal, zai, zaA, zaC, zag, zaj]
      repeat' (first
 | with_reducible refine zaG ?_ ?_
 | (unfold OKC; kernel_rfl)
 | (unfold EDG; kernel_rfl)
 | (apply cl_plain
    case hs => rfl
    case ha => (simp only [zam, zaq, prepV, prepC, idx, hpL', lookR, zaa, if_true, if_false]; rfl)
    case h => (first | exact tk .. | exact gg .. | exact cc ..))
 | (apply cl_lend
    case hr => (simp only [zam, zaq, hpL', lookR, zaa, if_true, if_false]; first | exact map1 _ | exact map2 _ _ | exact map3 _ _ _)
    case ha => (simp only [zam, zaq, prepV, prepC, idx, hpL', lookR, zaa, if_true, if_false]; rfl)
    case hs => rfl
    case hn => decide
    case h => (first | exact tk .. | exact gg .. | exact cc ..)
    case hf => (simp only [zab, zae, false_implies, implies_true, and_true, true_and, flat_cons, flat_nil, flat_ints, flat_bools, flat_app, Cs_flat, zaO, and_self, eq_self_iff_true, zad])
    case hl => (simp only [zag, zaj]; decide))
 | ((first | refine s1_id ?_ | refine swp_id ?_ | refine sops_id ?_ | refine s2_id ?_); simp only [decide_eq_true hc, decide_eq_true d, lendY, dice, zan, zao, zad, zap, zau, zak, zal, zai, zaA, zaC, zag, zaj, go_sem, zaa, zar, zas, zat, zaw, zah, ↓reduceIte, reduceCtorEq, zac, zaf, zax, zay, zaz, zaQ, zaS, zaJ, zaR, renO, bk, back, outUpsFrom, Ints_ren])
 | (intros; (try simp only [zaF, zaH, zaE, zaD, zav, zaB, decide_eq_true_eq, decide_eq_false_iff_not] at *); omega))
      refine ⟨_, ?_, rfl⟩
      (refine imp_ren _ _ _ [(0, 0, dice L jg), (1, 1, ⟨[.sc (.slice none 0 0), int 0, .sc (.slice none 0 0), int 0], 4⟩), (2, 2, ⟨[.gsl (Cs el) 0 el.length none, int en, .gsl (Cs eT) 0 eT.length none, int eh], 4⟩)] (by simp) (by simp) (by simp) (zaI rfl) ?_ rfl (by simp only [zab, zae, false_implies, implies_true, and_true, zaT, lookR, zaa, if_true, if_false, ↓reduceIte, dice] <;> (repeat' apply zaG) <;> (first | rfl | trivial)) (by simp only [zab, zae, false_implies, implies_true, and_true, true_and, flat_cons, flat_nil, flat_ints, flat_bools, flat_app, zaO, and_self, eq_self_iff_true, zad, dice]); simp only [zam, zaq, zab, zae, false_implies, implies_true, and_true, lk, slot, zaQ, zaJ, toN, zaa, if_true, if_false, ↓reduceIte, reduceCtorEq])
      all_goals ((repeat' apply zaG) <;> (first | rfl | trivial))
    rw [if_neg d] at hS3
    simp only [Prod.mk.injEq] at hS3
    obtain ⟨⟨rfl, rfl, rfl, rfl⟩, rfl⟩ := hS3
    simp only [go_sem, zaa, zar, zas, zat, zaw, zah, ↓reduceIte, reduceCtorEq, zac, zaf, zax, zay, zaz, decide_eq_true hc, decide_eq_false d, lendY, dice, zan, zao, zad, zap, zau, zak, zal, zai, zaA, zaC, zag, zaj]
    repeat' (first
 | with_reducible refine zaG ?_ ?_
 | (unfold OKC; kernel_rfl)
 | (unfold EDG; kernel_rfl)
 | (apply cl_plain
    case hs => rfl
    case ha => (simp only [zam, zaq, prepV, prepC, idx, hpL', lookR, zaa, if_true, if_false]; rfl)
    case h => (first | exact tk .. | exact gg .. | exact cc ..))
 | (apply cl_lend
    case hr => (simp only [zam, zaq, hpL', lookR, zaa, if_true, if_false]; first | exact map1 _ | exact map2 _ _ | exact map3 _ _ _)
    case ha => (simp only [zam, zaq, prepV, prepC, idx, hpL', lookR, zaa, if_true, if_false]; rfl)
    case hs => rfl
    case hn => decide
    case h => (first | exact tk .. | exact gg .. | exact cc ..)
    case hf => (simp only [zab, zae, false_implies, implies_true, and_true, true_and, flat_cons, flat_nil, flat_ints, flat_bools, flat_app, Cs_flat, zaO, and_self, eq_self_iff_true, zad])
    case hl => (simp only [zag, zaj]; decide))
 | ((first | refine s1_id ?_ | refine swp_id ?_ | refine sops_id ?_ | refine s2_id ?_); simp only [decide_eq_true hc, decide_eq_false d, lendY, dice, zan, zao, zad, zap, zau, zak, zal, zai, zaA, zaC, zag, zaj, go_sem, zaa, zar, zas, zat, zaw, zah, ↓reduceIte, reduceCtorEq, zac, zaf, zax, zay, zaz, zaQ, zaS, zaJ, zaR, renO, bk, back, outUpsFrom, Ints_ren])
 | (intros; (try simp only [zaF, zaH, zaE, zaD, zav, zaB, decide_eq_true_eq, decide_eq_false_iff_not] at *); omega))
    refine ⟨_, ?_, rfl⟩
    (refine imp_ren _ _ _ [(0, 0, dice L jg), (1, 1, ⟨[.sc (.slice none 0 0), int 0, .sc (.slice none 0 0), int 0], 4⟩), (2, 2, ⟨[.gsl (Cs l3) 0 l3.length none, int n3', .gsl (Cs T3) 0 T3.length none, int h3'], 4⟩)] (by simp) (by simp) (by simp) (zaI rfl) ?_ rfl (by simp only [zab, zae, false_implies, implies_true, and_true, zaT, lookR, zaa, if_true, if_false, ↓reduceIte, dice] <;> (repeat' apply zaG) <;> (first | rfl | trivial)) (by simp only [zab, zae, false_implies, implies_true, and_true, true_and, flat_cons, flat_nil, flat_ints, flat_bools, flat_app, zaO, and_self, eq_self_iff_true, zad, dice]); simp only [zam, zaq, zab, zae, false_implies, implies_true, and_true, lk, slot, zaQ, zaJ, toN, zaa, if_true, if_false, ↓reduceIte, reduceCtorEq])
    all_goals ((repeat' apply zaG) <;> (first | rfl | trivial))
  · have hc := of_decide_eq_false hc
    rw [if_neg hc] at hS3
    simp only [Prod.mk.injEq] at hS3
    obtain ⟨⟨rfl, rfl, rfl, rfl⟩, rfl⟩ := hS3
    simp only [go_sem, zaa, zar, zas, zat, zaw, zah, ↓reduceIte, reduceCtorEq, zac, zaf, zax, zay, zaz, decide_eq_false hc, lendY, dice, zan, zao, zad, zap, zau, zak, zal, zai, zaA, zaC, zag, zaj]
    repeat' (first
 | (intros; (try simp only [zaF, zaH, zaE, zaD, zav, zaB, decide_eq_true_eq, decide_eq_false_iff_not] at *); omega))
    refine ⟨_, ?_, rfl⟩
    (refine imp_ren _ _ _ [(0, 0, dice L ja), (1, 1, ⟨[.sc (.slice none 0 0), int 0, .sc (.slice none 0 0), int 0], 4⟩), (2, 2, ⟨[.gsl (Cs l3) 0 l3.length none, int n3', .gsl (Cs T3) 0 T3.length none, int h3'], 4⟩)] (by simp) (by simp) (by simp) (zaI rfl) ?_ rfl (by simp only [zab, zae, false_implies, implies_true, and_true, zaT, lookR, zaa, if_true, if_false, ↓reduceIte, dice] <;> (repeat' apply zaG) <;> (first | rfl | trivial)) (by simp only [zab, zae, false_implies, implies_true, and_true, true_and, flat_cons, flat_nil, flat_ints, flat_bools, flat_app, zaO, and_self, eq_self_iff_true, zad, dice]); simp only [zam, zaq, zab, zae, false_implies, implies_true, and_true, lk, slot, zaQ, zaJ, toN, zaa, if_true, if_false, ↓reduceIte, reduceCtorEq])
    all_goals ((repeat' apply zaG) <;> (first | rfl | trivial))
  clear hS3 nb tk cc gg hq2
  have hq3 : HI (l4, n4, T4, h4') := hq3
  have hq4 := sp4_ok L ((l4, n4, T4, h4'), jd) hq3
  obtain ⟨S4, hS4⟩ : ∃ S, sp4 L ((l4, n4, T4, h4'), jd) = S := ⟨_, rfl⟩
  rw [hS4] at hI hq4 hq5
  unfold sp4 at hS4
  simp only at hS4
  have nb := bool_spec L jd 8 hl hr (by decide)
  rw [show (8 : Int) - 1 = 7 from rfl] at nb
  generalize nxA L jd 8 = ja at *
  generalize nxV L jd 8 = v at *
  have tk := dtask_spec L hl hr ja l4 n4 T4 h4' hq3.b.t
  generalize dtV L T4 ja = tt at *
  generalize dtA L T4 ja = jt at *
  have cc := rexit6_spec l4 n4 T4 h4' tt hq3.b.l hq3.b.t hq3.b.nm
  generalize exR l4 n4 T4 h4' tt = E at *
  obtain ⟨⟨el, en, eT, eh⟩, ee⟩ := E
  simp only at cc hS4
  obtain ⟨⟨l5, n5, T5, h5'⟩, je⟩ := S4
  simp only at hq4
  simp only [go_sem, zaa, zar, zas, zat, zaw, zah, ↓reduceIte, reduceCtorEq, zac, zaf, zax, zay, zaz, lendY, dice, zan, zao, zad, zap, zau, zak, zal, zai, zaA, zaC, zag, zaj]
  repeat' (first
 | (apply cl_lend
    case hr => (simp only [zam, zaq, hpL', lookR, zaa, if_true, if_false]; first | exact map1 _ | exact map2 _ _ | exact map3 _ _ _)
    case ha => (simp only [zam, zaq, prepV, prepC, idx, hpL', lookR, zaa, if_true, if_false]; rfl)
    case hs => rfl
    case hn => decide
    case h => (first | exact nb ..)
    case hf => (simp only [zab, zae, false_implies, implies_true, and_true, true_and, flat_cons, flat_nil, flat_ints, flat_bools, flat_app, Cs_flat, zaO, and_self, eq_self_iff_true, zad])
    case hl => (simp only [zag, zaj]; decide))
 | ((first | refine s1_id ?_ | refine swp_id ?_ | refine sops_id ?_ | refine s2_id ?_); simp only [lendY, dice, zan, zao, zad, zap, zau, zak, zal, zai, zaA, zaC, zag, zaj, go_sem, zaa, zar, zas, zat, zaw, zah, ↓reduceIte, reduceCtorEq, zac, zaf, zax, zay, zaz, zaQ, zaS, zaJ, zaR, renO, bk, back, outUpsFrom, Ints_ren])
 | (intros; (try simp only [zaF, zaH, zaE, zaD, zav, zaB, decide_eq_true_eq, decide_eq_false_iff_not] at *); omega))
  refine cd_cut1 ⟨[(0, dp), (6, .one (.optr 1 0)), (7, .one (.optr 2 0)), (9, i1 (m + 1 : Nat))], [(0, some (dice L je)), (1, some ⟨[.sc (.slice none 0 0), int 0, .sc (.slice none 0 0), int 0], 4⟩), (2, some ⟨[.gsl (Cs l5) 0 l5.length none, int n5, .gsl (Cs T5) 0 T5.length none, int h5'], 4⟩)], 3⟩ (fun hc => ?_) (fun hc => ?_) ?_
  · have hc := of_decide_eq_true hc
    rw [if_pos hc] at hS4
    by_cases d : ee = 0
    · rw [if_pos d] at hS4
      simp only [Prod.mk.injEq] at hS4
      obtain ⟨⟨rfl, rfl, rfl, rfl⟩, rfl⟩ := hS4
      simp only [go_sem, zaa, zar, zas, zat, zaw, zah, ↓reduceIte, reduceCtorEq, zac, zaf, zax, zay, zaz, decide_eq_true hc, decide_eq_true d, lendY, dice, zan, zao, zad, zap, zau, zak, zal, zai, zaA, zaC, zag, zaj]
      repeat' (first
 | with_reducible refine zaG ?_ ?_
 | (unfold OKC; kernel_rfl)
 | (unfold EDG; kernel_rfl)
 | (apply cl_plain
    case hs => rfl
    case ha => (simp only [zam, zaq, prepV, prepC, idx, hpL', lookR, zaa, if_true, if_false]; rfl)
    case h => (first | exact tk .. | exact cc ..))
 | (apply cl_lend
    case hr => (simp only [zam, zaq, hpL', lookR, zaa, if_true, if_false]; first | exact map1 _ | exact map2 _ _ | exact map3 _ _ _)
    case ha => (simp only [zam, zaq, prepV, prepC, idx, hpL', lookR, zaa, if_true, if_false]; rfl)
    case hs => rfl
    case hn => decide
    case h => (first | exact tk .. | exact cc ..)
    case hf => (simp only [zab, zae, false_implies, implies_true, and_true, true_and, flat_cons, flat_nil, flat_ints, flat_bools, flat_app, Cs_flat, zaO, and_self, eq_self_iff_true, zad])
    case hl => (simp only [zag, zaj]; decide))
 | ((first | refine s1_id ?_ | refine swp_id ?_ | refine sops_id ?_ | refine s2_id ?_); simp only [decide_eq_true hc, decide_eq_true d, lendY, dice, zan, zao, zad, zap, zau, zak, zal, zai, zaA, zaC, zag, zaj, go_sem, zaa, zar, zas, zat, zaw, zah, ↓reduceIte, reduceCtorEq, zac, zaf, zax, zay, zaz, zaQ, zaS, zaJ, zaR, renO, bk, back, outUpsFrom, Ints_ren])
 | (intros; (try simp only [zaF, zaH, zaE, zaD, zav, zaB, decide_eq_true_eq, decide_eq_false_iff_not] at *); omega))
      refine ⟨_, ?_, rfl⟩
      (refine imp_ren _ _ _ [(0, 0, dice L jt), (1, 1, ⟨[.sc (.slice none 0 0), int 0, .sc (.slice none 0 0), int 0], 4⟩), (2, 2, ⟨[.gsl (Cs el) 0 el.length none, int en, .gsl (Cs eT) 0 eT.length none, int eh], 4⟩)] (by simp) (by simp) (by simp) (zaI rfl) ?_ rfl (by simp only [zab, zae, false_implies, implies_true, and_true, zaT, lookR, zaa, if_true, if_false, ↓reduceIte, dice] <;> (repeat' apply zaG) <;> (first | rfl | trivial)) (by simp only [zab, zae, false_implies, implies_true, and_true, true_and, flat_cons, flat_nil, flat_ints, flat_bools, flat_app, zaO, and_self, eq_self_iff_true, zad, dice]); simp only [zam, zaq, zab, zae, false_implies, implies_true, and_true, lk, slot, zaQ, zaJ, toN, zaa, if_true, if_false, ↓reduceIte, reduceCtorEq])
      all_goals ((repeat' apply zaG) <;> (first | rfl | trivial))
    rw [if_neg d] at hS4
    simp only [Prod.mk.injEq] at hS4
    obtain ⟨⟨rfl, rfl, rfl, rfl⟩, rfl⟩ := hS4
    simp only [go_sem, zaa, zar, zas, zat, zaw, zah, ↓reduceIte, reduceCtorEq, zac, zaf, zax, zay, zaz, decide_eq_true hc, decide_eq_false d, lendY, dice, zan, zao, zad, zap, zau, zak, zal, zai, zaA, zaC, zag, zaj]
    repeat' (first
 | with_reducible refine zaG ?_ ?_
 | (unfold OKC; kernel_rfl)
 | (unfold EDG; kernel_rfl)
 | (apply cl_plain
    case hs => rfl
    case ha => (simp only [zam, zaq, prepV, prepC, idx, hpL', lookR, zaa, if_true, if_false]; rfl)
    case h => (first | exact tk .. | exact cc ..))
 | (apply cl_lend
    case hr => (simp only [zam, zaq, hpL', lookR, zaa, if_true, if_false]; first | exact map1 _ | exact map2 _ _ | exact map3 _ _ _)
    case ha => (simp only [zam, zaq, prepV, prepC, idx, hpL', lookR, zaa, if_true, if_false]; rfl)
    case hs => rfl
    case hn => decide
    case h => (first | exact tk .. | exact cc ..)
    case hf => (simp only [zab, zae, false_implies, implies_true, and_true, true_and, flat_cons, flat_nil, flat_ints, flat_bools, flat_app, Cs_flat, zaO, and_self, eq_self_iff_true, zad])
    case hl => (simp only [zag, zaj]; decide))
 | ((first | refine s1_id ?_ | refine swp_id ?_ | refine sops_id ?_ | refine s2_id ?_); simp only [decide_eq_true hc, decide_eq_false d, lendY, dice, zan, zao, zad, zap, zau, zak, zal, zai, zaA, zaC, zag, zaj, go_sem, zaa, zar, zas, zat, zaw, zah, ↓reduceIte, reduceCtorEq, zac, zaf, zax, zay, zaz, zaQ, zaS, zaJ, zaR, renO, bk, back, outUpsFrom, Ints_ren])
 | (intros; (try simp only [zaF, zaH, zaE, zaD, zav, zaB, decide_eq_true_eq, decide_eq_false_iff_not] at *); omega))
    refine ⟨_, ?_, rfl⟩
    (refine imp_ren _ _ _ [(0, 0, dice L jt), (1, 1, ⟨[.sc (.slice none 0 0), int 0, .sc (.slice none 0 0), int 0], 4⟩), (2, 2, ⟨[.gsl (Cs l4) 0 l4.length none, int n4, .gsl (Cs T4) 0 T4.length none, int h4'], 4⟩)] (by simp) (by simp) (by simp) (zaI rfl) ?_ rfl (by simp only [zab, zae, false_implies, implies_true, and_true, zaT, lookR, zaa, if_true, if_false, ↓reduceIte, dice] <;> (repeat' apply zaG) <;> (first | rfl | trivial)) (by simp only [zab, zae, false_implies, implies_true, and_true, true_and, flat_cons, flat_nil, flat_ints, flat_bools, flat_app, zaO, and_self, eq_self_iff_true, zad, dice]); simp only [zam, zaq, zab, zae, false_implies, implies_true, and_true, lk, slot, zaQ, zaJ, toN, zaa, if_true, if_false, ↓reduceIte, reduceCtorEq])
    all_goals ((repeat' apply zaG) <;> (first | rfl | trivial))
  · have hc := of_decide_eq_false hc
    rw [if_neg hc] at hS4
    simp only [Prod.mk.injEq] at hS4
    obtain ⟨⟨rfl, rfl, rfl, rfl⟩, rfl⟩ := hS4
    simp only [go_sem, zaa, zar, zas, zat, zaw, zah, ↓reduceIte, reduceCtorEq, zac, zaf, zax, zay, zaz, decide_eq_false hc, lendY, dice, zan, zao, zad, zap, zau, zak, zal, zai, zaA, zaC, zag, zaj]
    repeat' (first
 | (intros; (try simp only [zaF, zaH, zaE, zaD, zav, zaB, decide_eq_true_eq, decide_eq_false_iff_not] at *); omega))
    refine ⟨_, ?_, rfl⟩
    (refine imp_ren _ _ _ [(0, 0, dice L ja), (1, 1, ⟨[.sc (.slice none 0 0), int 0, .sc (.slice none 0 0), int 0], 4⟩), (2, 2, ⟨[.gsl (Cs l4) 0 l4.length none, int n4, .gsl (Cs T4) 0 T4.length none, int h4'], 4⟩)] (by simp) (by simp) (by simp) (zaI rfl) ?_ rfl (by simp only [zab, zae, false_implies, implies_true, and_true, zaT, lookR, zaa, if_true, if_false, ↓reduceIte, dice] <;> (repeat' apply zaG) <;> (first | rfl | trivial)) (by simp only [zab, zae, false_implies, implies_true, and_true, true_and, flat_cons, flat_nil, flat_ints, flat_bools, flat_app, zaO, and_self, eq_self_iff_true, zad, dice]); simp only [zam, zaq, zab, zae, false_implies, implies_true, and_true, lk, slot, zaQ, zaJ, toN, zaa, if_true, if_false, ↓reduceIte, reduceCtorEq])
    all_goals ((repeat' apply zaG) <;> (first | rfl | trivial))
  clear hS4 nb tk cc hq3
  simp only [go_sem, zaa, zar, zas, zat, zaw, zah, ↓reduceIte, reduceCtorEq, zac, zaf, zax, zay, zaz, e2, lendY, dice, zan, zao, zad, zap, zau, zak, zal, zai, zaA, zaC, zag, zaj]
  repeat' (first
 | with_reducible refine zaG ?_ ?_
 | (intros; omega)
 | (intros; (try simp only [zaF, zaH, zaE, zaD, zav, zaB, decide_eq_true_eq, decide_eq_false_iff_not] at *); omega))
  refine le_mk (m, ((l5, n5, T5, h5'), je)) ?_ ⟨hI, hq4, by omega⟩ (by show m < m + 1; omega)
  (refine imp_ren _ _ _ [(0, 0, dice L je), (1, 1, ⟨[.sc (.slice none 0 0), int 0, .sc (.slice none 0 0), int 0], 4⟩), (2, 2, ⟨[.gsl (Cs l5) 0 l5.length none, int n5, .gsl (Cs T5) 0 T5.length none, int h5'], 4⟩)] (by simp) (by simp) (by simp) (zaI rfl) ?_ rfl (by simp only [zab, zae, false_implies, implies_true, and_true, zaT, lookR, zaa, if_true, if_false, ↓reduceIte, dice] <;> (repeat' apply zaG) <;> (first | rfl | trivial)) (by simp only [zab, zae, false_implies, implies_true, and_true, true_and, flat_cons, flat_nil, flat_ints, flat_bools, flat_app, zaO, and_self, eq_self_iff_true, zad, dice]); simp only [zam, zaq, zab, zae, false_implies, implies_true, and_true, lk, slot, zaQ, zaJ, toN, zaa, if_true, if_false, ↓reduceIte, reduceCtorEq])
  all_goals ((repeat' apply zaG) <;> (first | rfl | trivial))
end Go.Proofs.Ytnahpejlhfeleab
-- NEWGO
-- PRUNE: cl_lendx cl_use
-- ISG: Cs_isG
-- FLAT: Cs_flat
namespace Go.Proofs.Ytnahpejlhfeleab
set_option linter.unusedVariables false
set_option linter.unusedSimpArgs false
open Go.Proofs.Ytnahpejlhfeleab.Sh
set_option maxRecDepth 20000
theorem has_spec (a : List Int) (k : Option Nat) (x : Int) (hl : a.length ≤ 1000000) : FnSpec Try.prog 13 [gi a k, i1 x] [] (b1 (decide (x ∈ a))) [] := by
  refine fnspec_of mixed TT_ok TT_cl ⟨fun _ => false, fun _ => [], 0, fun _ => false, fun _ => false⟩ Try.func13 rfl (by kernel_rfl) rfl 18 rfl [.tmp 4] rfl ?_
  simp only [go_sem, zaa, zar, zas, zat, zaw, zah, ↓reduceIte, reduceCtorEq, zac, zaf, zax, zay, zaz]
  repeat' (first
 | (intros; (try simp only [zaF, zaH, zaE, zaD, zav, zaB, decide_eq_true_eq, decide_eq_false_iff_not] at *); omega))
  refine w_loop (ι := Nat) (fun i => ⟨[(0, gi a k), (1, i1 x), (5, i1 i)], [], 0⟩) (fun i => i ≤ a.length ∧ (x ∈ a ↔ x ∈ a.drop i)) (fun i => a.length - i) 0 ?_ ⟨zaV _, Iff.rfl⟩ ?_
  · (refine imp_sub _ _ _ [] (by simp) (by simp) (by simp) (zaV _) ?_ rfl (by simp); simp only [zab, zae, false_implies, implies_true, and_true, lk, slot, zaQ, zaJ, zaa, if_true, if_false, ↓reduceIte, reduceCtorEq])
    all_goals ((repeat' apply zaG) <;> (first | rfl | trivial))
  rintro i ⟨hi, he⟩
  simp only at hi he ⊢
  rcases zbf i a.length with hlt | hge
  case inr =>
    have c : ¬ (i : Int) < (a.length : Int) := by omega
    rw [List.drop_of_length_le hge] at he
    rw [decide_eq_false (fun h => absurd (he.1 h) zae)]
    simp only [go_sem, zaa, zar, zas, zat, zaw, zah, ↓reduceIte, reduceCtorEq, zac, zaf, zax, zay, zaz, decide_eq_false c]
    repeat' (first
 | exact fs_nil trivial rfl
 | fail)
  have c : (i : Int) < (a.length : Int) := by omega
  rw [drop_getD a i 0 hlt, zaX] at he
  by_cases hx : a.getD i 0 = x
  · rw [decide_eq_true (he.2 (Or.inl hx.symm))]
    simp only [go_sem, zaa, zar, zas, zat, zaw, zah, ↓reduceIte, reduceCtorEq, zac, zaf, zax, zay, zaz, decide_eq_true c, decide_eq_true hx]
    repeat' (first
 | with_reducible refine zaG ?_ ?_
 | (intros; omega)
 | exact fs_nil trivial rfl
 | fail)
  · have he2 : x ∈ a ↔ x ∈ a.drop (i + 1) := he.trans ⟨fun h => h.resolve_left (fun e => hx e.symm), Or.inr⟩
    simp only [go_sem, zaa, zar, zas, zat, zaw, zah, ↓reduceIte, reduceCtorEq, zac, zaf, zax, zay, zaz, decide_eq_true c, decide_eq_false hx]
    repeat' (first
 | with_reducible refine zaG ?_ ?_
 | (intros; omega)
 | (intros; (try simp only [zaF, zaH, zaE, zaD, zav, zaB, decide_eq_true_eq, decide_eq_false_iff_not] at *); omega))
    refine le_mk (i + 1) ?_ ⟨hlt, he2⟩ (by omega)
    (refine imp_sub _ _ _ [] (by simp) (by simp) (by simp) (zaV _) ?_ rfl (by simp); simp only [zab, zae, false_implies, implies_true, and_true, lk, slot, zaQ, zaJ, zaa, if_true, if_false, ↓reduceIte, reduceCtorEq])
    all_goals ((repeat' apply zaG) <;> (first | rfl | trivial | (simp only [zaK]; done) | (simp only [zaK]; rfl) | (simp only [zaK]; trivial)))
def subF (l : List Nd) : Nat → Int → List Int
  | 0, _ => []
  | f + 1, id => id :: (kidsL l id).flatMap (subF l f)
theorem kidsL_mem {l : List Nd} {id x : Int} : x ∈ kidsL l id ↔ ∃ j, j < l.length ∧ (gN l j).p = id ∧ (gN l j).i = x := by
  unfold kidsL
  rw [List.mem_map]
  constructor
  · rintro ⟨y, hy, rfl⟩
    rw [List.mem_filter] at hy
    obtain ⟨j, hj, rfl⟩ := gN_mem l y hy.1
    exact ⟨j, hj, of_decide_eq_true hy.2, rfl⟩
  · rintro ⟨j, hj, hp, rfl⟩
    exact ⟨gN l j, List.mem_filter.2 ⟨getD_mem l j zn hj, decide_eq_true hp⟩, rfl⟩
theorem VT.kid {l : List Nd} {n : Int} (h : VT l n) {i j : Nat} (hi : i < l.length) (hj : j < l.length) (hp : (gN l j).p = (gN l i).i) : i < j ∧ j ≠ 0 := by
  have h0 : j ≠ 0 := by
    rintro rfl
    have := h.pos hi
    rw [h.root.2.1] at hp
    omega
  obtain ⟨q, hq, he⟩ := (h.ch hj h0).par
  have := h.asc.inj (i := q) (j := i) (by omega) hi (by rw [he, hp])
  omega
theorem subF_self {l : List Nd} {f : Nat} {id : Int} (h : 0 < f) : id ∈ subF l f id := by
  cases f with
  | zero => omega
  | succ f => exact zaL
theorem subF_kid {l : List Nd} {n : Int} (h : VT l n) : ∀ (f k j i : Nat), k < l.length → j < l.length → i < l.length → l.length - k ≤ f → (gN l i).p = (gN l j).i → (gN l j).i ∈ subF l f (gN l k).i → (gN l i).i ∈ subF l f (gN l k).i
  | 0, k, _, _, hk, _, _, hf, _, _ => by omega
  | f + 1, k, j, i, hk, hj, hi, hf, hp, hm => by
    rw [subF, zaX] at hm ⊢
    right
    rw [zbi]
    rcases hm with he | hm
    · have := h.asc.inj hj hk he
      subst this
      have hlt := h.kid hj hi hp
      exact ⟨(gN l i).i, kidsL_mem.2 ⟨i, hi, hp, rfl⟩, subF_self (by omega)⟩
    · rw [zbi] at hm
      obtain ⟨c, hc, hcm⟩ := hm
      obtain ⟨q, hq, hqp, rfl⟩ := kidsL_mem.1 hc
      have hlt := h.kid hk hq hqp
      exact ⟨(gN l q).i, hc, subF_kid h f q j i hq hj hi (by omega) hp hcm⟩
theorem subF_up {l : List Nd} {n : Int} (h : VT l n) {k f : Nat} (hk : k < l.length) (hf : l.length - k ≤ f) : ∀ i, i < l.length → (gN l k).i ∈ upL l (gN l i).i → (gN l i).i ∈ subF l f (gN l k).i := fun i => by
  induction i using Nat.strongRecOn with
  | _ i ih =>
    intro hi hm
    by_cases h0 : i = 0
    · subst h0
      have hr := h.root.1
      rw [hr, h.up0, List.mem_singleton] at hm
      have := h.asc.inj hk hi (by rw [hm, hr])
      subst this
      exact subF_self (by omega)
    · rw [h.up hi h0, zaX] at hm
      rcases hm with he | hm
      · have := h.asc.inj hk hi he
        subst this
        exact subF_self (by omega)
      · obtain ⟨j, hj, hp⟩ := (h.ch hi h0).par
        rw [← hp] at hm
        exact subF_kid h f k j i hk (by omega) hi hf hp.symm (ih j hj (by omega) hm)
theorem up_le {l : List Nd} {n : Int} (h : VT l n) : ∀ i, i < l.length → ∀ x ∈ upL l (gN l i).i, ∃ t, t ≤ i ∧ (gN l t).i = x := fun i => by
  induction i using Nat.strongRecOn with
  | _ i ih =>
    intro hi x hx
    by_cases h0 : i = 0
    · subst h0
      have hr := h.root.1
      rw [hr, h.up0, List.mem_singleton] at hx
      exact ⟨0, zbc _, by rw [hr, hx]⟩
    · rw [h.up hi h0, zaX] at hx
      rcases hx with rfl | hx
      · exact ⟨i, zbc _, rfl⟩
      · obtain ⟨j, hj, hp⟩ := (h.ch hi h0).par
        rw [← hp] at hx
        obtain ⟨t, ht, e⟩ := ih j hj (by omega) x hx
        exact ⟨t, by omega, e⟩
theorem up_low {l : List Nd} {n : Int} (h : VT l n) : ∀ i, i < l.length → ∀ c y, c < l.length → y < l.length → (gN l c).i ∈ upL l (gN l i).i → (gN l y).i ∈ upL l (gN l i).i → y < c → (gN l y).i ∈ upL l (gN l c).p := fun i => by
  induction i using Nat.strongRecOn with
  | _ i ih =>
    intro hi c y hc hy hcm hym hyc
    by_cases h0 : i = 0
    · subst h0
      obtain ⟨t, ht, e⟩ := up_le h 0 hi _ hcm
      have := h.asc.inj (i := t) (j := c) (by omega) hc e
      omega
    · rw [h.up hi h0, zaX] at hcm hym
      obtain ⟨j, hj, hp⟩ := (h.ch hi h0).par
      rcases hcm with e | hcm
      · have := h.asc.inj hc hi e
        subst this
        rcases hym with e | hym
        · have := h.asc.inj hy hc e
          omega
        · exact hym
      · rw [← hp] at hcm hym
        obtain ⟨t, ht, e⟩ := up_le h j (by omega) _ hcm
        have := h.asc.inj (i := t) (j := c) (by omega) hc e
        rcases hym with e | hym
        · have := h.asc.inj hy hi e
          omega
        · exact ih j hj (by omega) c y hc hy hcm hym hyc
theorem up_trans {l : List Nd} {n : Int} (h : VT l n) {q k : Nat} (hq : q < l.length) (hk : k < l.length) (hp : (gN l q).p = (gN l k).i) : ∀ i, i < l.length → ∀ {x : Int}, (gN l i).i = x → (gN l q).i ∈ upL l x → (gN l k).i ∈ upL l x := fun i => by
  induction i using Nat.strongRecOn with
  | _ i ih =>
    intro hi x hx hm
    subst hx
    by_cases h0 : i = 0
    · subst h0
      obtain ⟨t, ht, e⟩ := up_le h 0 hi _ hm
      have := h.asc.inj (i := t) (j := q) (by omega) hq e
      have := (h.kid hk hq hp).1
      omega
    · rw [h.up hi h0, zaX] at hm ⊢
      obtain ⟨j, hj, hpj⟩ := (h.ch hi h0).par
      right
      rcases hm with e | hm
      · have := h.asc.inj hq hi e
        subst this
        rw [hp, upL_node h.asc hk]
        exact zaL
      · rw [← hpj] at hm ⊢
        exact ih j hj (by omega) rfl hm
theorem subF_ge {l : List Nd} {n : Int} (h : VT l n) : ∀ (f k : Nat) (x : Int), k < l.length → x ∈ subF l f (gN l k).i → ∃ i, k ≤ i ∧ i < l.length ∧ (gN l i).i = x ∧ (gN l k).i ∈ upL l x
  | 0, _, _, _, hx => by cases hx
  | f + 1, k, x, hk, hx => by
    rw [subF, zaX] at hx
    rcases hx with rfl | hx
    · exact ⟨k, zbc _, hk, rfl, by rw [upL_node h.asc hk]; exact zaL⟩
    · rw [zbi] at hx
      obtain ⟨c, hc, hcm⟩ := hx
      obtain ⟨q, hq, hqp, rfl⟩ := kidsL_mem.1 hc
      have hlt := h.kid hk hq hqp
      obtain ⟨i, hi1, hi2, hi3, hi4⟩ := subF_ge h f q x hq hcm
      refine ⟨i, by omega, hi2, hi3, ?_⟩
      exact up_trans h hq hk hqp i hi2 hi3 hi4
theorem nodup_le : ∀ (A B : List Int), A.Nodup → (∀ x ∈ A, x ∈ B) → A.length ≤ B.length
  | [], _, _, _ => zaV _
  | a :: A, B, h, hs => by
    have ha := hs a zaL
    have h1 := nodup_le A (B.erase a) (List.nodup_cons.1 h).2 (fun x hx => by
      have : x ≠ a := fun e => (List.nodup_cons.1 h).1 (by rw [← e]; exact hx)
      exact (List.mem_erase_of_ne this).2 (hs x (zaM _ hx)))
    rw [List.length_erase_of_mem ha] at h1
    have := List.length_pos_of_mem ha
    rw [zag]; omega
theorem kidsL_asc {l : List Nd} {n : Int} (h : VT l n) (id : Int) : (kidsL l id).Pairwise (· < ·) := by
  unfold kidsL
  rw [List.pairwise_map]
  exact ((h.vl.asc).filter _).imp fun h => h
theorem subF_nodup {l : List Nd} {n : Int} (h : VT l n) : ∀ (f k : Nat), k < l.length → (subF l f (gN l k).i).Nodup
  | 0, _, _ => List.nodup_nil
  | f + 1, k, hk => by
    rw [subF, zaW]
    refine ⟨fun hm => ?_, ?_⟩
    · rw [zbi] at hm
      obtain ⟨c, hc, hcm⟩ := hm
      obtain ⟨q, hq, hqp, rfl⟩ := kidsL_mem.1 hc
      have hlt := h.kid hk hq hqp
      obtain ⟨i, hi1, hi2, hi3, _⟩ := subF_ge h f q _ hq hcm
      have := h.asc.inj hi2 hk hi3
      omega
    · unfold List.Nodup
      rw [List.pairwise_flatMap]
      refine ⟨fun c hc => ?_, ?_⟩
      · obtain ⟨q, hq, hqp, rfl⟩ := kidsL_mem.1 hc
        exact subF_nodup h f q hq
      · refine (kidsL_asc h (gN l k).i).imp_of_mem fun {a b} ha hb hab x hx y hy hxy => ?_
        subst hxy
        obtain ⟨q, hq, hqp, rfl⟩ := kidsL_mem.1 ha
        obtain ⟨r, hr, hrp, rfl⟩ := kidsL_mem.1 hb
        obtain ⟨i, hi1, hi2, hi3, hi4⟩ := subF_ge h f q _ hq hx
        obtain ⟨j, hj1, hj2, hj3, hj4⟩ := subF_ge h f r _ hr hy
        have hqr : q < r := by
          rcases zbf q r with c | c
          · exact c
          · rcases zbf r q with d | d
            · have := h.asc r q d hq; omega
            · have : q = r := by omega
              subst this; omega
        rw [← hi3] at hi4 hj4
        have h3 := up_low h i hi2 r q hr hq hj4 hi4 hqr
        rw [hrp] at h3
        obtain ⟨t, ht, hte⟩ := up_le h k hk _ h3
        have := h.asc.inj (i := q) (j := t) hq (by omega) hte.symm
        have := (h.kid hk hq hqp).1
        omega
theorem subF_len {l : List Nd} {n : Int} (h : VT l n) (f k : Nat) (hk : k < l.length) : (subF l f (gN l k).i).length ≤ l.length := by
  have := nodup_le _ (l.map (·.i)) (subF_nodup h f k hk) (fun x hx => by
    obtain ⟨i, _, hi, e, _⟩ := subF_ge h f k x hk hx
    exact List.mem_map.2 ⟨gN l i, getD_mem l i zn hi, e⟩)
  rwa [zbg] at this
end Go.Proofs.Ytnahpejlhfeleab
-- NEWGO
-- PRUNE: cl_lendx cl_use
-- ISG: Cs_isG
-- FLAT: Cs_flat
namespace Go.Proofs.Ytnahpejlhfeleab
set_option linter.unusedVariables false
set_option linter.unusedSimpArgs false
open Go.Proofs.Ytnahpejlhfeleab.Sh
set_option maxRecDepth 20000
abbrev KL := List (Int × List Int)
def mcN : List Nat → KL → List Cell
  | n :: ns, x :: r => int x.1 :: .osl n 0 x.2.length none :: mcN ns r
  | _, _ => []
def mrN : List Nat → KL → List (Nat × Option Row)
  | n :: ns, x :: r => (n, some ⟨Ints x.2, 1⟩) :: mrN ns r
  | _, _ => []
def gcN : KL → List Cell
  | [] => []
  | x :: r => int x.1 :: .gsl (Ints x.2) 0 x.2.length none :: gcN r
theorem mcN_app : ∀ {ns : List Nat} {ks : KL}, ns.length = ks.length → ∀ (ns' : List Nat) (ks' : KL), mcN (ns ++ ns') (ks ++ ks') = mcN ns ks ++ mcN ns' ks'
  | [], [], _, _, _ => rfl
  | n :: ns, x :: r, h, ns', ks' => by
    show int x.1 :: .osl n 0 x.2.length none :: mcN (ns ++ ns') (r ++ ks') = _
    rw [mcN_app (by simpa using h) ns' ks']; rfl
theorem mrN_app : ∀ {ns : List Nat} {ks : KL}, ns.length = ks.length → ∀ (ns' : List Nat) (ks' : KL), mrN (ns ++ ns') (ks ++ ks') = mrN ns ks ++ mrN ns' ks'
  | [], [], _, _, _ => rfl
  | n :: ns, x :: r, h, ns', ks' => by
    show (n, _) :: mrN (ns ++ ns') (r ++ ks') = _
    rw [mrN_app (by simpa using h) ns' ks']; rfl
theorem keyEq_i (a b : Int) : keyEq (.int .i64 a) (.int .i64 b) = (a == b) := rfl
theorem mkeys_mcN : ∀ (ns : List Nat) (ks : KL), mkeys (.int .i64) (mcN ns ks) = true
  | [], ks => by cases ks <;> rfl
  | _ :: _, [] => rfl
  | n :: ns, x :: r => by
    show (keyB (.int .i64) (.int .i64 x.1) && mkeys (.int .i64) (mcN ns r)) = true
    rw [mkeys_mcN ns r]; rfl
theorem mget_none {p : Int} : ∀ (ns : List Nat) (ks : KL), (∀ x ∈ ks, x.1 ≠ p) → mget (.int .i64 p) (mcN ns ks) = none
  | [], ks, _ => by cases ks <;> rfl
  | _ :: _, [], _ => rfl
  | n :: ns, x :: r, h => by
    show (if keyEq (.int .i64 p) (.int .i64 x.1) = true then _ else mget (.int .i64 p) (mcN ns r)) = none
    rw [keyEq_i, if_neg (by simpa using fun e => h x zaL e.symm)]
    exact mget_none ns r (fun y hy => h y (zaM _ hy))
theorem mget_at {p : Int} (c : Cell) (D : List Cell) : ∀ (ns : List Nat) (ks : KL), (∀ x ∈ ks, x.1 ≠ p) → mget (.int .i64 p) (mcN ns ks ++ int p :: c :: D) = some c
  | [], ks, _ => by
    have : mcN [] ks = [] := by cases ks <;> rfl
    rw [this]
    show (if keyEq (.int .i64 p) (.int .i64 p) = true then _ else _) = _
    rw [keyEq_i, if_pos (by simp)]
  | _ :: _, [], _ => by
    show (if keyEq (.int .i64 p) (.int .i64 p) = true then _ else _) = _
    rw [keyEq_i, if_pos (by simp)]
  | n :: ns, x :: r, h => by
    show (if keyEq (.int .i64 p) (.int .i64 x.1) = true then _ else mget (.int .i64 p) (mcN ns r ++ int p :: c :: D)) = some c
    rw [keyEq_i, if_neg (by simpa using fun e => h x zaL e.symm)]
    exact mget_at c D ns r (fun y hy => h y (zaM _ hy))
theorem mset_new {p : Int} (c : Cell) : ∀ (ns : List Nat) (ks : KL), ns.length = ks.length → (∀ x ∈ ks, x.1 ≠ p) → mset (.int .i64 p) c (mcN ns ks) = mcN ns ks ++ [int p, c]
  | [], [], _, _ => rfl
  | n :: ns, x :: r, hl, h => by
    show (if keyEq (.int .i64 p) (.int .i64 x.1) = true then _ else int x.1 :: .osl n 0 x.2.length none :: mset (.int .i64 p) c (mcN ns r)) = _
    rw [keyEq_i, if_neg (by simpa using fun e => h x zaL e.symm), mset_new c ns r (by simpa using hl) (fun y hy => h y (zaM _ hy))]
    rfl
theorem mset_at {p : Int} (c d : Cell) (D : List Cell) : ∀ (ns : List Nat) (ks : KL), ns.length = ks.length → (∀ x ∈ ks, x.1 ≠ p) → mset (.int .i64 p) c (mcN ns ks ++ int p :: d :: D) = mcN ns ks ++ int p :: c :: D
  | [], [], _, _ => by
    show (if keyEq (.int .i64 p) (.int .i64 p) = true then _ else _) = _
    rw [keyEq_i, if_pos (by simp)]; rfl
  | n :: ns, x :: r, hl, h => by
    show (if keyEq (.int .i64 p) (.int .i64 x.1) = true then _ else int x.1 :: .osl n 0 x.2.length none :: mset (.int .i64 p) c (mcN ns r ++ int p :: d :: D)) = _
    rw [keyEq_i, if_neg (by simpa using fun e => h x zaL e.symm), mset_at c d D ns r (by simpa using hl) (fun y hy => h y (zaM _ hy))]
    rfl
theorem lookR_mrN_out {r : Nat} : ∀ {ns : List Nat} {ks : KL}, ¬ r ∈ ns → lookR r (mrN ns ks) = none
  | [], ks, _ => by cases ks <;> rfl
  | _ :: _, [], _ => rfl
  | n :: ns, x :: ks, h => by
    show (if n = r then _ else lookR r (mrN ns ks)) = none
    rw [if_neg (fun e => h (by rw [e]; exact zaL))]
    exact lookR_mrN_out (fun hm => h (zaM _ hm))
theorem lookR_app {r : Nat} : ∀ (A B : List (Nat × Option Row)), (∀ p ∈ A, p.1 ≠ r) → lookR r (A ++ B) = lookR r B
  | [], B, _ => rfl
  | (j, x) :: A, B, h => by
    show (if j = r then x else lookR r (A ++ B)) = _
    rw [if_neg (h _ zaL)]
    exact lookR_app A B (fun p hp => h p (zaM _ hp))
theorem mrN_fst : ∀ {ns : List Nat} {ks : KL}, ∀ p ∈ mrN ns ks, p.1 ∈ ns
  | [], ks, p, hp => by cases ks <;> cases hp
  | _ :: _, [], p, hp => by cases hp
  | n :: ns, x :: ks, p, hp => by
    rcases List.mem_cons.1 hp with rfl | hp
    · exact zaL
    · exact zaM _ (mrN_fst p hp)
theorem mrN_at {r : Nat} {L : List Int} {p : Int} {B : KL} {nb : List Nat} : ∀ {ns : List Nat} {ks : KL}, ns.length = ks.length → ¬ r ∈ ns → lookR r (mrN (ns ++ r :: nb) (ks ++ (p, L) :: B)) = some ⟨Ints L, 1⟩ := fun {ns ks} hl h => by
  rw [mrN_app hl, lookR_app (mrN ns ks) _ (fun q hq e => h (by rw [← e]; exact mrN_fst q hq))]
  show (if r = r then _ else _) = _
  rw [if_pos rfl]
def RowsAt (f : Nat → Option Row) : List Nat → KL → Prop
  | n :: ns, x :: r => f n = some ⟨Ints x.2, 1⟩ ∧ RowsAt f ns r
  | [], [] => True
  | _, _ => False
theorem RowsAt.app {f : Nat → Option Row} {ms : List Nat} {B : KL} (h2 : RowsAt f ms B) : ∀ {ns : List Nat} {A : KL}, RowsAt f ns A → RowsAt f (ns ++ ms) (A ++ B)
  | [], [], _ => h2
  | _ :: _, _ :: _, h => ⟨h.1, RowsAt.app h2 h.2⟩
theorem RowsAt.mono {f g : Nat → Option Row} : ∀ {ns : List Nat} {A : KL}, (∀ n ∈ ns, g n = f n) → RowsAt f ns A → RowsAt g ns A
  | [], [], _, _ => trivial
  | n :: ns, _ :: _, h, hr => ⟨by rw [h n zaL]; exact hr.1, RowsAt.mono (fun m hm => h m (zaM _ hm)) hr.2⟩
theorem RowsAt.of {ns : List Nat} {ks : KL} (hl : ns.length = ks.length) (hn : ns.Nodup) : RowsAt (fun r => lookR r (mrN ns ks)) ns ks := by
  induction ns generalizing ks with
  | nil => cases ks with
    | nil => trivial
    | cons x r => cases hl
  | cons n ns ih => cases ks with
    | nil => cases hl
    | cons x r =>
      rw [zaW] at hn
      refine ⟨if_pos rfl, RowsAt.mono (fun m hm => ?_) (ih (ks := r) (by simpa using hl) hn.2)⟩
      show (if n = m then _ else lookR m (mrN ns r)) = _
      rw [if_neg (fun e => hn.1 (by rw [e]; exact hm))]
theorem imp_hp (k : Nat) (tm : List (Nat × SV)) (h1 h2 : List (Nat × Option Row)) (nx : Nat) (h : ∀ r, lookR r h1 = lookR r h2) : Imp k ⟨tm, h1, nx⟩ ⟨tm, h2, nx⟩ := by
  intro P w0 A N a w m π hk hr
  refine ⟨m, π, ?_⟩
  have e : zaT ⟨tm, h2, nx⟩ = zaT ⟨tm, h1, nx⟩ := by funext r; exact (h r).symm
  rw [e]
  exact hr
theorem imp_kl {k : Nat} {s : St} (hk : k = 0) (tm : List (Nat × SV)) (ms ns : List Nat) (ks : KL) (N : Nat) (hl : ns.length = ks.length) (hl2 : ms.length = ks.length) (hn : (0 :: ns).Nodup) (hm : (0 :: ms).Nodup) (hlt : ∀ m ∈ ms, m < N)
    (h0 : s.hpF 0 = some ⟨mcN ns ks, 0⟩) (hr : RowsAt s.hpF ns ks) (ht : ∀ x ∈ tm, lk s ((0, 0) :: ms.zip ns) x.1 = some x.2) (hN : 0 < N) : Imp k s ⟨tm, (0, some ⟨mcN ms ks, 0⟩) :: mrN ms ks, N⟩ := by
  subst hk
  have hz1 : (ms.zip ns).map (·.1) = ms := List.map_fst_zip (by omega)
  have hz2 : (ms.zip ns).map (·.2) = ns := List.map_snd_zip (by omega)
  have htn : ∀ p ∈ ms.zip ns, toN ((0, 0) :: ms.zip ns) p.2 = some p.1 := fun p hp => toN_of (by rw [zam, hz2]; exact hn) (zaM _ hp)
  refine imp_sub 0 s _ ((0, 0) :: ms.zip ns) (by rw [zam, hz1]; exact hm) (by rw [zam, hz2]; exact hn) ?_ (zaV _) ht ?_ ?_
  · intro p hp
    refine ⟨?_, fun h => absurd h (Nat.not_lt_zero _)⟩
    rcases List.mem_cons.1 hp with rfl | hp
    · exact hN
    · exact hlt _ (by rw [← hz1]; exact List.mem_map_of_mem hp)
  · have hc : ∀ (ms' ns' : List Nat) (ks' : KL), ms'.length = ks'.length → ns'.length = ks'.length → (∀ p ∈ ms'.zip ns', toN ((0, 0) :: ms.zip ns) p.2 = some p.1) → (mcN ns' ks').map (zaJ (toN ((0, 0) :: ms.zip ns))) = mcN ms' ks' := by
      intro ms' ns' ks'
      induction ks' generalizing ms' ns' with
      | nil =>
        intro a b _
        rw [List.length_eq_zero_iff.1 a, List.length_eq_zero_iff.1 b]; rfl
      | cons x r ih =>
        intro a b c
        cases ms' with
        | nil => cases a
        | cons m ms' => cases ns' with
          | nil => cases b
          | cons n ns' =>
            show (int x.1).ren _ :: (Cell.osl n 0 x.2.length none).ren _ :: (mcN ns' r).map _ = _
            rw [ih ms' ns' (by simpa using a) (by simpa using b) (fun p hp => c p (zaM _ hp))]
            have := c (m, n) zaL
            simp only at this
            simp only [zaJ, this]
            rfl
    have hrr : ∀ (ms' ns' : List Nat) (ks' : KL), ms'.length = ks'.length → RowsAt s.hpF ns' ks' → mrN ms' ks' = (ms'.zip ns').map fun p => (p.1, renO (toN ((0, 0) :: ms.zip ns)) (s.hpF p.2)) := by
      intro ms' ns' ks'
      induction ks' generalizing ms' ns' with
      | nil =>
        intro a _
        rw [List.length_eq_zero_iff.1 a]; rfl
      | cons x r ih =>
        intro a b
        cases ms' with
        | nil => cases a
        | cons m ms' => cases ns' with
          | nil => exact b.elim
          | cons n ns' =>
            show (m, some ⟨Ints x.2, 1⟩) :: mrN ms' r = (m, renO _ (s.hpF n)) :: _
            rw [ih ms' ns' (by simpa using a) b.2, b.1]
            simp only [renO, zaR, Ints_ren]
            rfl
    show (0, some ⟨mcN ms ks, 0⟩) :: mrN ms ks = (0, renO _ (s.hpF 0)) :: _
    rw [hrr ms ns ks hl2 hr, h0]
    simp only [renO, zaR, hc ms ns ks hl2 hl htn]
  · intro p hp row hrow c hc q hq
    have hin : ∀ n, n ∈ 0 :: ns → (toN ((0, 0) :: ms.zip ns) n).isSome = true := by
      intro n hn'
      rcases List.mem_cons.1 hn' with rfl | hn'
      · rfl
      · rw [← hz2] at hn'
        obtain ⟨p, hp, rfl⟩ := List.mem_map.1 hn'
        rw [htn p hp]; rfl
    have hcells : ∀ (ns' : List Nat) (ks' : KL), (∀ n ∈ ns', n ∈ ns) → ∀ c ∈ mcN ns' ks', ∀ q ∈ c.refs, q ∈ ns := by
      intro ns' ks'
      induction ks' generalizing ns' with
      | nil => intro _ c hc; cases ns' <;> cases hc
      | cons x r ih =>
        cases ns' with
        | nil => intro _ c hc; cases hc
        | cons n ns' =>
          intro h c hc q hq
          rcases List.mem_cons.1 hc with rfl | hc
          · cases hq
          rcases List.mem_cons.1 hc with rfl | hc
          · rw [List.mem_singleton.1 hq]; exact h n zaL
          · exact ih ns' (fun m hm => h m (zaM _ hm)) c hc q hq
    have hrows : ∀ (ns' : List Nat) (ks' : KL), RowsAt s.hpF ns' ks' → ∀ n ∈ ns', ∃ L, s.hpF n = some ⟨Ints L, 1⟩ := by
      intro ns' ks'
      induction ks' generalizing ns' with
      | nil => intro h n hn; cases ns' with
        | nil => cases hn
        | cons _ _ => exact h.elim
      | cons x r ih =>
        cases ns' with
        | nil => intro h; exact h.elim
        | cons m ns' =>
          intro h n hn
          rcases List.mem_cons.1 hn with rfl | hn
          · exact ⟨_, h.1⟩
          · exact ih ns' h.2 n hn
    rcases List.mem_cons.1 hp with rfl | hp
    · rw [h0] at hrow
      cases hrow
      exact hin q (zaM _ (hcells ns ks (fun _ h => h) c hc q hq))
    · obtain ⟨L, hL⟩ := hrows ns ks hr p.2 (by rw [← hz2]; exact List.mem_map_of_mem hp)
      rw [hL] at hrow
      cases hrow
      exact absurd hq (by intro hq; exact Ints_refs _ c hc (fun _ => False) q hq)
theorem gcN_g : ∀ (ks : KL), ∀ c ∈ gcN ks, c.isG = true
  | [], c, h => by cases h
  | x :: r, c, h => by
    rcases List.mem_cons.1 h with rfl | h
    · rfl
    rcases List.mem_cons.1 h with rfl | h
    · rfl
    exact gcN_g r c h
theorem gcN_app (a b : KL) : gcN (a ++ b) = gcN a ++ gcN b := by
  induction a with
  | nil => rfl
  | cons x r ih => show _ :: _ :: gcN (r ++ b) = _; rw [ih]; rfl
theorem mcN_frz {r : Nat} {cs : List Cell} : ∀ (ns : List Nat) (ks : KL), ¬ r ∈ ns → (mcN ns ks).map (zbh r cs) = mcN ns ks
  | [], ks, _ => by cases ks <;> rfl
  | _ :: _, [], _ => rfl
  | n :: ns, x :: ks, h => by
    show (int x.1).frz r cs :: (Cell.osl n 0 x.2.length none).frz r cs :: (mcN ns ks).map _ = _
    rw [mcN_frz ns ks (fun hm => h (zaM _ hm))]
    simp only [zbh]
    rw [if_neg (fun e => h (by rw [← e]; exact zaL))]
    rfl
theorem mrN_frz {r : Nat} {cs : List Cell} : ∀ (ns : List Nat) (ks : KL), frzHp r cs (mrN ns ks) = mrN ns ks
  | [], ks => by cases ks <;> rfl
  | _ :: _, [] => rfl
  | n :: ns, x :: ks => by
    show (n, some (⟨(Ints x.2).map (zbh r cs), 1⟩ : Row)) :: frzHp r cs (mrN ns ks) = _
    rw [mrN_frz ns ks, Ints_frz]
    rfl
theorem imp_gc (k : Nat) (tm : List (Nat × SV)) (N : Nat) (ht : ∀ r cs, r ≠ 0 → frzTm r cs tm = tm) : ∀ (ns : List Nat) (ks pre : KL), ns.length = ks.length → (0 :: ns).Nodup → Imp k ⟨tm, (0, some ⟨gcN pre ++ mcN ns ks, 0⟩) :: mrN ns ks, N⟩ ⟨tm, [(0, some ⟨gcN (pre ++ ks), 0⟩)], N⟩
  | [], [], pre, _, _ => by
    rw [zad]
    show Imp k ⟨tm, [(0, some ⟨gcN pre ++ [], 0⟩)], N⟩ _
    rw [zad]
    exact Imp.refl _ _
  | n :: ns, x :: ks, pre, hl, hn => by
    have hn' := hn
    rw [zaW, zaW] at hn
    have hn0 : n ≠ 0 := fun e => hn.1 (by rw [e]; exact zaL)
    refine Imp.trans (imp_frz k _ n ⟨Ints x.2, 1⟩ ?_ (Ints_isG _)) ?_
    · show (if 0 = n then _ else if n = n then _ else _) = _
      rw [if_neg (fun e => hn0 e.symm), if_pos rfl]
    have h1 : (gcN pre ++ mcN (n :: ns) (x :: ks)).map (zbh n (Ints x.2)) = gcN (pre ++ [x]) ++ mcN ns ks := by
      rw [List.map_append, map_id_of (fun c hc => isG_frz (gcN_g pre c hc) _ _), gcN_app, List.append_assoc]
      congr 1
      show (int x.1).frz _ _ :: (Cell.osl n 0 x.2.length none).frz _ _ :: (mcN ns ks).map _ = _
      rw [mcN_frz ns ks hn.2.1]
      simp only [zbh, if_true]
      rfl
    have h2 : frzTm n (Ints x.2) tm = tm := ht _ _ hn0
    refine Imp.trans (imp_hp k _ _ ((0, some ⟨gcN (pre ++ [x]) ++ mcN ns ks, 0⟩) :: mrN ns ks) _ ?_) ?_
    · intro r
      show (if n = r then none else if 0 = r then some (⟨_, 0⟩ : Row) else if n = r then _ else lookR r (frzHp n _ (mrN ns ks))) = if 0 = r then _ else lookR r (mrN ns ks)
      rw [mrN_frz, h1]
      by_cases e : n = r
      · subst e
        rw [if_pos rfl, if_neg (fun e => hn0 e.symm), lookR_mrN_out hn.2.1]
      · rw [if_neg e]
        simp only [if_neg e]
    show Imp k ⟨frzTm n (Ints x.2) tm, _, N⟩ _
    rw [h2]
    have := imp_gc k tm N ht ns ks (pre ++ [x]) (by simpa using hl) (List.nodup_cons.2 ⟨fun h => hn.1 (zaM _ h), hn.2.2⟩)
    rw [List.append_assoc] at this
    exact this
end Go.Proofs.Ytnahpejlhfeleab
-- NEWGO
-- PRUNE: cl_lendx cl_use
-- ISG: Cs_isG
-- FLAT: Cs_flat
-- OKC: refine okc_rng (r := r) (f := fun r => [([0], [0]), ([r, 114], [r, 115]), ([], [114]), ([103], []), ([103], []), ([0], []), ([103], []), ([103], []), ([], []), ([103], []), ([103], []), ([], [])]) ?_ hr1 hr2; kernel_rfl
namespace Go.Proofs.Ytnahpejlhfeleab
set_option linter.unusedVariables false
set_option linter.unusedSimpArgs false
open Go.Proofs.Ytnahpejlhfeleab.Sh
set_option maxRecDepth 20000
def kput : KL → Int → Int → KL
  | [], p, d => [(p, [d])]
  | x :: r, p, d => if x.1 = p then (p, x.2 ++ [d]) :: r else x :: kput r p d
def belowM (l : List Nd) : KL := l.foldl (fun ks x => kput ks x.p x.i) []
def kg : KL → Int → List Int
  | [], _ => []
  | x :: r, p => if x.1 = p then x.2 else kg r p
theorem kput_new {p : Int} (d : Int) : ∀ {ks : KL}, (∀ x ∈ ks, x.1 ≠ p) → kput ks p d = ks ++ [(p, [d])]
  | [], _ => rfl
  | x :: r, h => by
    rw [kput, if_neg (h x zaL), kput_new d (fun y hy => h y (zaM _ hy))]; rfl
theorem kput_at {p : Int} (d : Int) (L : List Int) (B : KL) : ∀ {A : KL}, (∀ x ∈ A, x.1 ≠ p) → kput (A ++ (p, L) :: B) p d = A ++ (p, L ++ [d]) :: B
  | [], _ => by show (if p = p then _ else _) = _; rw [if_pos rfl]; rfl
  | x :: r, h => by
    show (if x.1 = p then _ else x :: kput (r ++ (p, L) :: B) p d) = _
    rw [if_neg (h x zaL), kput_at d L B (fun y hy => h y (zaM _ hy))]; rfl
theorem k_split (p : Int) : ∀ (ks : KL), (∀ x ∈ ks, x.1 ≠ p) ∨ ∃ A L B, ks = A ++ (p, L) :: B ∧ ∀ x ∈ A, x.1 ≠ p
  | [] => .inl (fun x hx => by cases hx)
  | x :: r => by
    by_cases c : x.1 = p
    · right; exact ⟨[], x.2, r, by rw [← c]; rfl, fun y hy => by cases hy⟩
    · rcases k_split p r with h | ⟨A, L, B, e, h⟩
      · left; intro y hy
        rcases List.mem_cons.1 hy with rfl | hy
        · exact c
        · exact h y hy
      · right
        refine ⟨x :: A, L, B, by rw [e]; rfl, fun y hy => ?_⟩
        rcases List.mem_cons.1 hy with rfl | hy
        · exact c
        · exact h y hy
theorem kg_put (p d q : Int) : ∀ (ks : KL), kg (kput ks p d) q = if q = p then kg ks p ++ [d] else kg ks q
  | [] => by
    show (if p = q then [d] else []) = _
    by_cases c : q = p
    · rw [if_pos c, if_pos c.symm]; rfl
    · rw [if_neg c, if_neg (fun e => c e.symm)]; rfl
  | x :: r => by
    rw [kput]
    by_cases c : x.1 = p
    · rw [if_pos c]
      show (if p = q then _ else kg r q) = if q = p then (if x.1 = p then x.2 else kg r p) ++ [d] else (if x.1 = q then x.2 else kg r q)
      rw [c]
      by_cases e : q = p
      · rw [if_pos e, if_pos e.symm, if_pos rfl]
      · rw [if_neg e, if_neg (fun h => e h.symm), if_neg (fun h => e h.symm)]
    · rw [if_neg c]
      show (if x.1 = q then x.2 else kg (kput r p d) q) = if q = p then (if x.1 = p then x.2 else kg r p) ++ [d] else (if x.1 = q then x.2 else kg r q)
      rw [kg_put p d q r, if_neg c]
      by_cases e : q = p
      · rw [if_pos e, if_pos e, if_neg (fun h => c (h.trans e))]
      · rw [if_neg e, if_neg e]
theorem kidsL_snoc (l : List Nd) (x : Nd) (q : Int) : kidsL (l ++ [x]) q = if x.p = q then kidsL l q ++ [x.i] else kidsL l q := by
  unfold kidsL
  rw [List.filter_append, List.map_append]
  by_cases c : x.p = q
  · rw [if_pos c, List.filter_cons_of_pos (by simpa using c)]; rfl
  · rw [if_neg c, List.filter_cons_of_neg (by simpa using c)]; simp
theorem belowM_snoc (l : List Nd) (x : Nd) : belowM (l ++ [x]) = kput (belowM l) x.p x.i := by
  unfold belowM; rw [List.foldl_append]; rfl
theorem belowM_kg (l : List Nd) (q : Int) : kg (belowM l) q = kidsL l q := by
  rw [← List.reverse_reverse l]
  induction l.reverse with
  | nil => rfl
  | cons x r ih =>
    rw [List.reverse_cons, belowM_snoc, kg_put, kidsL_snoc]
    by_cases c : q = x.p
    · rw [if_pos c, if_pos c.symm, ← c, ih]
    · rw [if_neg c, if_neg (fun e => c e.symm), ih]
theorem belowM_len (l : List Nd) : (belowM l).length ≤ l.length ∧ ∀ x ∈ belowM l, x.2.length ≤ l.length := by
  rw [← List.reverse_reverse l]
  induction l.reverse with
  | nil => exact ⟨zbc _, fun x hx => by cases hx⟩
  | cons x r ih =>
    rw [List.reverse_cons, belowM_snoc]
    obtain ⟨h1, h2⟩ := ih
    rcases k_split x.p (belowM r.reverse) with h | ⟨A, L, B, e, h⟩
    · rw [kput_new _ h]
      refine ⟨by simp only [zaN, zbb] at h1 ⊢; omega, fun y hy => ?_⟩
      rcases List.mem_append.1 hy with hy | hy
      · have := h2 y hy; rw [zaN]; omega
      · rw [List.mem_singleton.1 hy, zaN]; simp
    · rw [e] at h1 h2 ⊢
      rw [kput_at _ _ _ h]
      refine ⟨by simp only [zaN, zag, zbb] at h1 ⊢; omega, fun y hy => ?_⟩
      rcases List.mem_append.1 hy with hy | hy
      · have := h2 y (List.mem_append.2 (.inl hy)); rw [zaN]; omega
      rcases List.mem_cons.1 hy with rfl | hy
      · have := h2 (x.p, L) (List.mem_append.2 (.inr zaL))
        simp only [zaN, zbb] at this ⊢; omega
      · have := h2 y (List.mem_append.2 (.inr (zaM _ hy))); rw [zaN]; omega
theorem mget_gc (p : Int) : ∀ (ks : KL), (mget (.int .i64 p) (gcN ks) = none ∧ kg ks p = []) ∨ mget (.int .i64 p) (gcN ks) = some (.gsl (Ints (kg ks p)) 0 (kg ks p).length none)
  | [] => .inl ⟨rfl, rfl⟩
  | x :: r => by
    have hu : mget (.int .i64 p) (gcN (x :: r)) = if keyEq (.int .i64 p) (.int .i64 x.1) = true then some (.gsl (Ints x.2) 0 x.2.length none) else mget (.int .i64 p) (gcN r) := rfl
    rw [hu, keyEq_i]
    by_cases c : x.1 = p
    · right
      rw [if_pos (by rw [c]; simp)]
      show _ = some (Cell.gsl (Ints (if x.1 = p then x.2 else kg r p)) 0 (if x.1 = p then x.2 else kg r p).length none)
      rw [if_pos c]
    · rw [if_neg (by simpa using fun e => c e.symm)]
      show (_ ∧ (if x.1 = p then x.2 else kg r p) = []) ∨ mget _ _ = some (Cell.gsl (Ints (if x.1 = p then x.2 else kg r p)) 0 (if x.1 = p then x.2 else kg r p).length none)
      rw [if_neg c]
      exact mget_gc p r
theorem mkeys_gc : ∀ (ks : KL), mkeys (.int .i64) (gcN ks) = true
  | [] => rfl
  | x :: r => by
    show (keyB (.int .i64) (.int .i64 x.1) && mkeys (.int .i64) (gcN r)) = true
    rw [mkeys_gc r]; rfl
theorem range_nd (n : Nat) : (0 :: zaP 1 n).Nodup := by
  rw [zaW]
  exact ⟨fun h => by have := List.mem_range'.1 h; omega, List.nodup_range'⟩
theorem gcN_flat (ks : KL) : flat (gcN ks) := fun c hc => isG_refs (gcN_g ks c hc)
theorem RowsAt.mid {f : Nat → Option Row} {r : Nat} {x : Int × List Int} {rb : List Nat} {B : KL} : ∀ {ra : List Nat} {A : KL}, ra.length = A.length → RowsAt f (ra ++ r :: rb) (A ++ x :: B) → RowsAt f ra A ∧ RowsAt f rb B
  | [], [], _, h => ⟨trivial, h.2⟩
  | n :: ra, y :: A, hl, h => by
    obtain ⟨h1, h2⟩ := RowsAt.mid (ra := ra) (A := A) (by simpa using hl) h.2
    exact ⟨⟨h.1, h1⟩, h2⟩
theorem okc_rng {all : Array Oper} {f : Nat → List (List Nat × List Nat)} {r : Nat} (h : (List.range 99).all (fun q => okc all (f (q + 1)).reverse) = true) (h1 : 1 ≤ r) (h2 : r < 100) : OKC all (f r) := by
  have := List.all_eq_true.1 h (r - 1) (List.mem_range.2 (by omega))
  rw [show r - 1 + 1 = r by omega] at this
  exact this
set_option maxHeartbeats 16000000 in
theorem below_spec (l : List Nd) (n : Int) (hl : l.length ≤ 64) : FnSpec Try.prog 78 [trV l none n] [] (.one (.mp 0 false)) [some ⟨gcN (belowM l), 0⟩] := by
  have hnl := nd_len l
  refine fnspec_of mixed TT_ok TT_cl ⟨fun _ => false, fun _ => [], 0, fun _ => false, fun _ => false⟩ Try.func78 rfl (by kernel_rfl) rfl 27 rfl [.tmp 2] rfl ?_
  simp only [go_sem, zaa, zar, zas, zat, zaw, zah, ↓reduceIte, reduceCtorEq, zac, zaf, zax, zay, zaz]
  repeat' (first
 | (intros; (try simp only [zaF, zaH, zaE, zaD, zav, zaB, decide_eq_true_eq, decide_eq_false_iff_not] at *); omega))
  refine w_loop (ι := Nat) (fun m => ⟨[(3, .one (.mp 0 false)), (8, gr l none), (9, i1 l.length), (10, i1 m)], (0, some ⟨mcN (zaP 1 (belowM (l.take m)).length) (belowM (l.take m)), 0⟩) :: mrN (zaP 1 (belowM (l.take m)).length) (belowM (l.take m)), 100⟩) (fun m => m ≤ l.length) (fun m => l.length - m) 0 ?_ (zaV _) ?_
  · (refine imp_ren _ _ _ [(0, 2, ⟨[], 0⟩)] (by simp) (by simp) (by simp) (zaI rfl) ?_ rfl (by simp only [zab, zae, false_implies, implies_true, and_true, zaT, lookR, zaa, if_true, if_false, ↓reduceIte] <;> (repeat' apply zaG) <;> (first | rfl | trivial)) (by simp only [zab, zae, false_implies, implies_true, and_true, true_and, flat_cons, flat_nil, flat_ints, flat_bools, flat_app, zaO, and_self, eq_self_iff_true, zad]); simp only [zam, zaq, zab, zae, false_implies, implies_true, and_true, lk, slot, zaQ, zaJ, toN, zaa, if_true, if_false, ↓reduceIte, reduceCtorEq])
    all_goals ((repeat' apply zaG) <;> (first | rfl | trivial))
  intro m hm
  simp only at hm ⊢
  rcases zbf m l.length with hlt | hge
  case inr =>
    have c : ¬ (m : Int) < (l.length : Int) := by omega
    rw [zba hge]
    simp only [go_sem, zaa, zar, zas, zat, zaw, zah, ↓reduceIte, reduceCtorEq, zac, zaf, zax, zay, zaz, decide_eq_false c]
    repeat' (first
 | (intros; (try simp only [zaF, zaH, zaE, zaD, zav, zaB, decide_eq_true_eq, decide_eq_false_iff_not] at *); omega))
    refine fs_imp ⟨[(2, .one (.mp 0 false))], [(0, some ⟨gcN ([] ++ belowM l), 0⟩)], 103⟩ ?_ ?_
    · refine Imp.trans (t := ⟨[(2, .one (.mp 0 false))], (0, some ⟨gcN [] ++ mcN (zaP 1 (belowM l).length) (belowM l), 0⟩) :: mrN (zaP 1 (belowM l).length) (belowM l), 103⟩) (imp_tm _ _ _ (fun x hx => by cases List.mem_singleton.1 hx; rfl) rfl (zbc _)) ?_
      exact imp_gc 0 _ 103 (fun r cs hr => rfl) _ _ [] zaU (range_nd _)
    · rw [zau]
      refine fs_flat [(0, ⟨gcN (belowM l), 0⟩)] (by simp) (fun j hj => absurd hj (Nat.not_lt_zero _)) ?_ ?_ ?_ ?_ rfl
      · simp only [go_sem, resV, resS, zaQ, zaS, zaJ, St.tmF, zaT, idx, renO, zaR, evS, slot, lookR, zaa, ↓reduceIte, reduceCtorEq, if_true, if_false, zbd, zbe, zam, zaq, sLoad, readAt, readNeed, Ints_ren, Ints_length, Ints_getD, and_true, true_and, zaY, zaZ]
      · simp only [go_sem, resV, resS, zaQ, zaS, zaJ, St.tmF, zaT, idx, renO, zaR, evS, slot, lookR, zaa, ↓reduceIte, reduceCtorEq, if_true, if_false, zbd, zbe, zam, zaq, sLoad, readAt, readNeed, Ints_ren, Ints_length, Ints_getD, and_true, true_and, zaY, zaZ]
      · intro p hp; rw [List.mem_singleton.1 hp]; rfl
      · intro p hp; rw [List.mem_singleton.1 hp]; exact gcN_flat _
  have c : (m : Int) < (l.length : Int) := by omega
  have hat : List.take 6 (List.drop (m * 6) (Cs l)) = ndc (gN l m) := Cs_td l m hlt
  have hst : belowM (l.take (m + 1)) = kput (belowM (l.take m)) (gN l m).p (gN l m).i := by rw [take_getD l m zn hlt, belowM_snoc]
  obtain ⟨hb1, hb2⟩ := belowM_len (l.take m)
  rw [List.length_take] at hb1 hb2
  generalize belowM (l.take m) = ks at *
  have hmk := mkeys_mcN (zaP 1 ks.length) ks
  rcases k_split (gN l m).p ks with hA | ⟨A, L, B, rfl, hA⟩
  · have hgt := mget_none (zaP 1 ks.length) ks hA
    rw [kput_new _ hA] at hst
    generalize gN l m = x at *
    obtain ⟨xi, xp, xn, xc, xk, xo⟩ := x
    simp only at hA hst hgt
    simp only [go_sem, zaa, zar, zas, zat, zaw, zah, ↓reduceIte, reduceCtorEq, zac, zaf, zax, zay, zaz, decide_eq_true c, hat, hmk, hgt, mval_none]
    repeat' (first
 | with_reducible refine zaG ?_ ?_
 | (unfold OKC; kernel_rfl)
 | (unfold EDG; kernel_rfl)
 | (intros; omega)
 | (intros; (try simp only [zaF, zaH, zaE, zaD, zav, zaB, decide_eq_true_eq, decide_eq_false_iff_not] at *); omega))
    · rfl
    refine le_mk (m + 1) ?_ hlt (by show l.length - (m + 1) < l.length - m; omega)
    simp only [hst]
    refine imp_kl rfl _ (zaP 1 (ks ++ [(xp, [xi])]).length) (zaP 1 ks.length ++ [115]) (ks ++ [(xp, [xi])]) 100 ?_ zaU ?_ (range_nd _) ?_ ?_ ?_ ?_ (by decide)
    · rw [zaN, zaN, zaU]; rfl
    · rw [zaW, List.nodup_append]
      refine ⟨fun h => ?_, List.nodup_range', by simp, fun a ha b hb e => ?_⟩
      · rcases List.mem_append.1 h with h | h
        · have := List.mem_range'.1 h; omega
        · have := List.mem_singleton.1 h; omega
      · have := List.mem_range'.1 ha
        have := List.mem_singleton.1 hb
        omega
    · intro q hq
      rw [zaN, zbb] at hq
      have := List.mem_range'.1 hq
      omega
    · show some (⟨mset _ _ _, 0⟩ : Row) = _
      rw [mset_new _ _ _ zaU hA, mcN_app zaU]
      rfl
    · refine RowsAt.app (ms := [115]) (B := [(xp, [xi])]) ⟨rfl, trivial⟩ (RowsAt.mono (fun q hq => ?_) (RowsAt.of (zaU (s := 1) (step := 1)) List.nodup_range'))
      have := List.mem_range'.1 hq
      simp only [zaT, lookR]
      repeat rw [if_neg (by omega)]
    · intro x hx
      simp only [zaX, zae, or_false] at hx
      rcases hx with rfl | rfl | rfl | rfl <;> first | rfl | (simp only [zaK]; rfl)
  · have hB : (A ++ ((gN l m).p, L) :: B).length = A.length + (1 + B.length) := by rw [zaN, zag]; omega
    have hrg : zaP 1 (A ++ ((gN l m).p, L) :: B).length = zaP 1 A.length ++ (1 + A.length) :: zaP (1 + A.length + 1) B.length := by
      rw [hB, ← List.range'_append_1, Nat.add_comm 1 B.length, List.range'_succ]
    have hra : (zaP 1 A.length).length = A.length := zaU
    have hrb : (zaP (1 + A.length + 1) B.length).length = B.length := zaU
    have hLl := hb2 ((gN l m).p, L) (List.mem_append.2 (.inr zaL))
    rw [kput_at _ _ _ hA] at hst
    rw [hB] at hb1
    clear hB
    have hnd := range_nd (A ++ ((gN l m).p, L) :: B).length
    rw [hrg] at hmk hnd ⊢
    have hma : ∀ q ∈ zaP 1 A.length, 1 ≤ q ∧ q < 1 + A.length := fun q hq => by have := List.mem_range'.1 hq; omega
    have hmb : ∀ q ∈ zaP (1 + A.length + 1) B.length, 1 + A.length < q ∧ q < 2 + A.length + B.length := fun q hq => by have := List.mem_range'.1 hq; omega
    have hro := RowsAt.of (ns := zaP 1 A.length ++ (1 + A.length) :: zaP (1 + A.length + 1) B.length) (ks := A ++ ((gN l m).p, L) :: B) (by rw [zaN, zaN, zag, zag, hra, hrb]) (List.nodup_cons.1 hnd).2
    have hlr : lookR (1 + A.length) (mrN (zaP 1 A.length ++ (1 + A.length) :: zaP (1 + A.length + 1) B.length) (A ++ ((gN l m).p, L) :: B)) = some ⟨Ints L, 1⟩ := mrN_at hra (fun h => by have := hma _ h; omega)
    have hmc : mcN (zaP 1 A.length ++ (1 + A.length) :: zaP (1 + A.length + 1) B.length) (A ++ ((gN l m).p, L) :: B) = mcN (zaP 1 A.length) A ++ int (gN l m).p :: .osl (1 + A.length) 0 L.length none :: mcN (zaP (1 + A.length + 1) B.length) B := mcN_app hra _ _
    have hgt := mget_at (p := (gN l m).p) (.osl (1 + A.length) 0 L.length none) (mcN (zaP (1 + A.length + 1) B.length) B) (zaP 1 A.length) A hA
    rw [← hmc] at hgt
    generalize zaP 1 A.length = ra at *
    generalize zaP (1 + A.length + 1) B.length = rb at *
    generalize hr : 1 + A.length = r at *
    have hr1 : 1 ≤ r := by omega
    have hr2 : r < 100 := by omega
    have g0 : (0 = r) = False := eq_false (by omega)
    have g9 : (r = 0) = False := eq_false (by omega)
    have g1 : (103 = r) = False := eq_false (by omega)
    have g2 : (114 = r) = False := eq_false (by omega)
    have g3 : (115 = r) = False := eq_false (by omega)
    have htk : List.take L.length (Ints L) = Ints L := zba (by rw [Ints_length]; exact zbc _)
    generalize gN l m = x at *
    obtain ⟨xi, xp, xn, xc, xk, xo⟩ := x
    simp only at hA hst hgt hlr hmc hro hLl
    have hpp : Ints L ++ [int xi] = Ints (L ++ [xi]) := by simp [Ints]
    simp only [go_sem, zaa, zar, zas, zat, zaw, zah, ↓reduceIte, reduceCtorEq, zac, zaf, zax, zay, zaz, decide_eq_true c, hat, hmk, hgt, mval_some, g0, g9, g1, g2, g3, hlr, htk, hpp]
    repeat' (first
 | with_reducible refine zaG ?_ ?_
 | (refine okc_rng (r := r) (f := fun r => [([0], [0]), ([r, 114], [r, 115]), ([], [114]), ([103], []), ([103], []), ([0], []), ([103], []), ([103], []), ([], []), ([103], []), ([103], []), ([], [])]) ?_ hr1 hr2; kernel_rfl)
 | (unfold EDG; kernel_rfl)
 | (intros; omega)
 | (intros; (try simp only [zaF, zaH, zaE, zaD, zav, zaB, decide_eq_true_eq, decide_eq_false_iff_not] at *); omega))
    all_goals try rfl
    refine le_mk (m + 1) ?_ hlt (by show l.length - (m + 1) < l.length - m; omega)
    simp only [hst]
    have hlen : (A ++ (xp, L ++ [xi]) :: B).length = A.length + (1 + B.length) := by rw [zaN, zag]; omega
    have hnd2 := hnd
    rw [zaW, List.nodup_append, zaW] at hnd2
    obtain ⟨z0, z1, ⟨z2, z3⟩, z4⟩ := hnd2
    have hsep : ∀ q ∈ ra ++ r :: rb, 1 ≤ q ∧ q < 100 := fun q hq => by
      rcases List.mem_append.1 hq with h | h
      · have := hma q h; omega
      rcases List.mem_cons.1 h with rfl | h
      · omega
      · have := hmb q h; omega
    refine imp_kl rfl _ (zaP 1 (A ++ (xp, L ++ [xi]) :: B).length) (ra ++ 115 :: rb) (A ++ (xp, L ++ [xi]) :: B) 100 ?_ zaU ?_ (range_nd _) ?_ ?_ ?_ ?_ (by decide)
    · rw [zaN, zaN, zag, zag, hra, hrb]
    · rw [zaW, List.nodup_append, zaW]
      refine ⟨fun h => ?_, z1, ⟨fun h => ?_, z3⟩, fun a ha b hb e => ?_⟩
      · rcases List.mem_append.1 h with h | h
        · have := hma _ h; omega
        rcases List.mem_cons.1 h with h | h
        · omega
        · have := hmb _ h; omega
      · have := hmb _ h; omega
      · rcases List.mem_cons.1 hb with h | h
        · have := hma _ ha; omega
        · exact z4 a ha b (zaM _ h) e
    · intro q hq
      rw [hlen] at hq
      have := List.mem_range'.1 hq
      omega
    · show some (⟨mset _ _ _, 0⟩ : Row) = _
      rw [hmc, mset_at _ _ _ _ _ hra hA, mcN_app hra]
      show _ = some (⟨mcN ra A ++ int xp :: .osl _ 0 (L ++ [xi]).length none :: mcN rb B, 0⟩ : Row)
      rw [zaN, zbb]
    · have hro1 : RowsAt (fun r_1 => lookR r_1 (mrN (ra ++ r :: rb) (A ++ (xp, L) :: B))) ra A ∧ RowsAt (fun r_1 => lookR r_1 (mrN (ra ++ r :: rb) (A ++ (xp, L) :: B))) rb B := RowsAt.mid hra hro
      have hne : ∀ q, q ∈ ra ++ rb → q ≠ r ∧ 1 ≤ q ∧ q < 100 := fun q hq => by
        rcases List.mem_append.1 hq with h | h
        · have := hma q h; omega
        · have := hmb q h; omega
      refine RowsAt.app (ms := 115 :: rb) (B := (xp, L ++ [xi]) :: B) ⟨?_, RowsAt.mono (fun q hq => ?_) hro1.2⟩ (RowsAt.mono (fun q hq => ?_) hro1.1)
      · rfl
      · obtain ⟨w1, w2, w3⟩ := hne q (List.mem_append.2 (.inr hq))
        simp only [zaT, lookR]
        repeat rw [if_neg (by omega)]
      · obtain ⟨w1, w2, w3⟩ := hne q (List.mem_append.2 (.inl hq))
        simp only [zaT, lookR]
        repeat rw [if_neg (by omega)]
    · intro x hx
      simp only [zaX, zae, or_false] at hx
      rcases hx with rfl | rfl | rfl | rfl <;> first | rfl | (simp only [zaK]; rfl)
end Go.Proofs.Ytnahpejlhfeleab
-- NEWGO
-- PRUNE: cl_lendx cl_use
-- ISG: Cs_isG
-- FLAT: Cs_flat
namespace Go.Proofs.Ytnahpejlhfeleab
set_option linter.unusedVariables false
set_option linter.unusedSimpArgs false
open Go.Proofs.Ytnahpejlhfeleab.Sh
set_option maxRecDepth 20000
theorem agg_sl (e : Nat) : (TK.slice e).isAgg = false := rfl
theorem bel_kids (l : List Nd) (g : Int) : (mget (.int .i64 g) (gcN (belowM l)) = none ∧ kidsL l g = []) ∨ mget (.int .i64 g) (gcN (belowM l)) = some (.gsl (Ints (kidsL l g)) 0 (kidsL l g).length none) := by
  have := mget_gc g (belowM l)
  rw [belowM_kg] at this
  exact this
end Go.Proofs.Ytnahpejlhfeleab
-- NEWGO
-- PRUNE: cl_lendx cl_use
-- ISG: Cs_isG
-- FLAT: hfl
namespace Go.Proofs.Ytnahpejlhfeleab
set_option linter.unusedVariables false
set_option linter.unusedSimpArgs false
open Go.Proofs.Ytnahpejlhfeleab.Sh
set_option maxRecDepth 20000
set_option maxHeartbeats 16000000 in
theorem walk_spec (l : List Nd) (n : Int) (h : VT l n) : ∀ (f i : Nat), i < l.length → l.length - i ≤ f → FnSpec Try.prog 77 [.one (.mp 0 false), i1 (gN l i).i] [⟨gcN (belowM l), 0⟩] (gi (subF l f (gN l i).i) none) [some ⟨gcN (belowM l), 0⟩]
  | 0, i, hi, hf => absurd hf (by omega)
  | f + 1, i, hi, hf => by
    have ih : ∀ x ∈ kidsL l (gN l i).i, FnSpec Try.prog 77 [.one (.mp 0 false), i1 x] [⟨gcN (belowM l), 0⟩] (gi (subF l f x) none) [some ⟨gcN (belowM l), 0⟩] := fun x hx => by
      obtain ⟨j, hj, hp, rfl⟩ := kidsL_mem.1 hx
      exact walk_spec l n h f j hj (by have := h.kid hi hj hp; omega)
    have hlen := subF_len h (f + 1) i hi
    have hun : subF l (f + 1) (gN l i).i = (gN l i).i :: (kidsL l (gN l i).i).flatMap (subF l f) := rfl
    rw [hun] at hlen ⊢
    have hle := h.le
    have hmk := mkeys_gc (belowM l)
    have hk := bel_kids l (gN l i).i
    have hfl := gcN_flat (belowM l)
    have hren : ∀ ρ, (gcN (belowM l)).map (zaJ ρ) = gcN (belowM l) := fun ρ => flat_ren (gcN_flat _) ρ
    have hfrz : ∀ r cs, (gcN (belowM l)).map (zbh r cs) = gcN (belowM l) := fun r cs => map_id_of (fun c hc => isG_frz (gcN_g _ c hc) r cs)
    have hkl := kidsL_len l (gN l i).i
    generalize (gN l i).i = id' at *
    generalize kidsL l id' = K at *
    generalize gcN (belowM l) = M at *
    have hun2 : ∀ m, m < K.length → (id' :: (K.take (m + 1)).flatMap (subF l f)) = (id' :: (K.take m).flatMap (subF l f)) ++ subF l f (K.getD m 0) := fun m hm => by
      rw [take_getD K m 0 hm, List.flatMap_append, List.flatMap_singleton]; rfl
    have hlm : ∀ m, (id' :: (K.take m).flatMap (subF l f)).length ≤ l.length := fun m => by
      refine Nat.le_trans ?_ hlen
      rw [zag, zag]
      have e : K = K.take m ++ K.drop m := (List.take_append_drop m K).symm
      rw [show (K.flatMap (subF l f)) = (K.take m).flatMap (subF l f) ++ (K.drop m).flatMap (subF l f) by rw [← List.flatMap_append, ← e], zaN]
      omega
    clear hun hlen
    rcases hk with ⟨e1, hK⟩ | e1
    focus
      refine fnspec_of mixed TT_ok TT_cl ⟨fun _ => false, fun f => if f = 77 then [0] else [], 1, fun _ => false, fun _ => false⟩ Try.func77 rfl (by kernel_rfl) rfl 25 rfl [.tmp 4] rfl ?_
      simp only [go_sem, zaa, zar, zas, zat, zaw, zah, ↓reduceIte, reduceCtorEq, zac, zaf, zax, zay, zaz, e1, hmk, hren, agg_sl, mval_none]
      repeat' (first
 | (intros; (try simp only [zaF, zaH, zaE, zaD, zav, zaB, decide_eq_true_eq, decide_eq_false_iff_not] at *); omega))
      refine w_loop (ι := Nat) (fun m => ⟨[(0, .one (.mp 0 false)), (5, .one (.osl 1 0 (id' :: (K.take m).flatMap (subF l f)).length none)), (12, gi K none), (13, i1 K.length), (14, i1 m)], [(0, some ⟨M, 0⟩), (1, some ⟨Ints (id' :: (K.take m).flatMap (subF l f)), 1⟩)], 2⟩) (fun m => m ≤ K.length) (fun m => K.length - m) 0 ?_ (zaV _) ?_
      focus
        refine Imp.trans (t := ⟨[(0, .one (.mp 0 false)), (5, .one (.osl 1 0 1 (some 1))), (12, .one (.sc (.slice none 0 0))), (13, i1 (0 : Nat)), (14, i1 (0 : Nat))], [(0, some ⟨M, 0⟩), (1, some ⟨Ints [id'], 1⟩)], 2⟩) ?_ (imp_w _ _ _ ?_ rfl (zbc _))
        · skip
          (refine imp_ren _ _ _ [(0, 0, ⟨M, 0⟩), (1, 3, ⟨Ints [id'], 1⟩)] (by simp) (by simp) (by simp) (zaI rfl) ?_ rfl (by simp only [zab, zae, false_implies, implies_true, and_true, zaT, lookR, zaa, if_true, if_false, ↓reduceIte, hfl] <;> (repeat' apply zaG) <;> (first | rfl | trivial)) (by simp only [zab, zae, false_implies, implies_true, and_true, true_and, flat_cons, flat_nil, flat_ints, flat_bools, flat_app, zaO, and_self, eq_self_iff_true, zad, hfl]); simp only [zam, zaq, zab, zae, false_implies, implies_true, and_true, lk, slot, zaQ, zaJ, toN, zaa, if_true, if_false, ↓reduceIte, reduceCtorEq])
          all_goals ((repeat' apply zaG) <;> (first | rfl | trivial))
        · rw [hK]
          intro x hx
          simp only [zaX, zae, or_false] at hx
          rcases hx with rfl | rfl | rfl | rfl | rfl <;> first | exact ⟨_, rfl, SVW.refl _⟩ | exact ⟨_, rfl, svw_of (cw_ocap _ _ _ _)⟩ | exact ⟨_, rfl, svw_of cw_gnil⟩
    rotate_left
    focus
      refine fnspec_of mixed TT_ok TT_cl ⟨fun _ => false, fun f => if f = 77 then [0] else [], 1, fun _ => false, fun _ => false⟩ Try.func77 rfl (by kernel_rfl) rfl 25 rfl [.tmp 4] rfl ?_
      simp only [go_sem, zaa, zar, zas, zat, zaw, zah, ↓reduceIte, reduceCtorEq, zac, zaf, zax, zay, zaz, e1, hmk, hren, agg_sl, mval_some]
      repeat' (first
 | (intros; (try simp only [zaF, zaH, zaE, zaD, zav, zaB, decide_eq_true_eq, decide_eq_false_iff_not] at *); omega))
      refine w_loop (ι := Nat) (fun m => ⟨[(0, .one (.mp 0 false)), (5, .one (.osl 1 0 (id' :: (K.take m).flatMap (subF l f)).length none)), (12, gi K none), (13, i1 K.length), (14, i1 m)], [(0, some ⟨M, 0⟩), (1, some ⟨Ints (id' :: (K.take m).flatMap (subF l f)), 1⟩)], 2⟩) (fun m => m ≤ K.length) (fun m => K.length - m) 0 ?_ (zaV _) ?_
      focus
        refine Imp.trans (t := ⟨[(0, .one (.mp 0 false)), (5, .one (.osl 1 0 1 (some 1))), (12, gi K none), (13, i1 K.length), (14, i1 (0 : Nat))], [(0, some ⟨M, 0⟩), (1, some ⟨Ints [id'], 1⟩)], 2⟩) ?_ (imp_w _ _ _ ?_ rfl (zbc _))
        · skip
          (refine imp_ren _ _ _ [(0, 0, ⟨M, 0⟩), (1, 3, ⟨Ints [id'], 1⟩)] (by simp) (by simp) (by simp) (zaI rfl) ?_ rfl (by simp only [zab, zae, false_implies, implies_true, and_true, zaT, lookR, zaa, if_true, if_false, ↓reduceIte, hfl] <;> (repeat' apply zaG) <;> (first | rfl | trivial)) (by simp only [zab, zae, false_implies, implies_true, and_true, true_and, flat_cons, flat_nil, flat_ints, flat_bools, flat_app, zaO, and_self, eq_self_iff_true, zad, hfl]); simp only [zam, zaq, zab, zae, false_implies, implies_true, and_true, lk, slot, zaQ, zaJ, toN, zaa, if_true, if_false, ↓reduceIte, reduceCtorEq])
          all_goals ((repeat' apply zaG) <;> (first | rfl | trivial))
        · intro x hx
          simp only [zaX, zae, or_false] at hx
          rcases hx with rfl | rfl | rfl | rfl | rfl <;> first | exact ⟨_, rfl, SVW.refl _⟩ | exact ⟨_, rfl, svw_of (cw_ocap _ _ _ _)⟩
    rotate_left
    all_goals (
      intro m hm
      simp only at hm ⊢
      rcases zbf m K.length with hlt | hge
      case inr =>
        have c : ¬ (m : Int) < (K.length : Int) := by omega
        rw [zba hge]
        simp only [go_sem, zaa, zar, zas, zat, zaw, zah, ↓reduceIte, reduceCtorEq, zac, zaf, zax, zay, zaz, decide_eq_false c]
        repeat' (first
 | (intros; (try simp only [zaF, zaH, zaE, zaD, zav, zaB, decide_eq_true_eq, decide_eq_false_iff_not] at *); omega))
        (refine fs_frz 1 ⟨Ints (id' :: K.flatMap (subF l f)), 1⟩ (by simp only [zaT, lookR, zaa, if_true, if_false, ↓reduceIte]) (by first | exact Ints_isG _ | exact Bools_isG _ | exact Cs_isG _ | (simp [Cell.isG]; done)) ?_; simp only [frzTm, SV.frz, SV.frzL, zbh, frzHp, frzO, Ints_frz, Bools_frz, zam, zaq, zaa, if_true, if_false, ↓reduceIte])
        (refine fs_flat [(0, ⟨M, 0⟩)] (by simp) (by simp only [zam, zaq]; decide) (by simp only [go_sem, resV, resS, zaQ, zaS, zaJ, St.tmF, zaT, idx, renO, zaR, evS, slot, lookR, zaa, ↓reduceIte, reduceCtorEq, if_true, if_false, zbd, zbe, zam, zaq, sLoad, readAt, readNeed, Ints_ren, Ints_length, Ints_getD, and_true, true_and, zaY, zaZ]; try decide) ?_ (by simp only [zab, zae, false_implies, implies_true, and_true, zaT, lookR, zaa, if_true, if_false, ↓reduceIte, hfl, hfrz] <;> (repeat' apply zaG) <;> (first | rfl | trivial)) (by simp only [zab, zae, false_implies, implies_true, and_true, true_and, flat_cons, flat_nil, flat_ints, flat_bools, flat_app, zaO, and_self, eq_self_iff_true, zad, hfl, hfrz]) ?_ <;> (try simp only [go_sem, resV, resS, zaQ, zaS, zaJ, St.tmF, zaT, idx, renO, zaR, evS, slot, lookR, zaa, ↓reduceIte, reduceCtorEq, if_true, if_false, zbd, zbe, zam, zaq, sLoad, readAt, readNeed, Ints_ren, Ints_length, Ints_getD, and_true, true_and, zaY, zaZ]) <;> (try rfl))
      have c : (m : Int) < (K.length : Int) := by omega
      have h3 := ih _ (getD_mem K m 0 hlt)
      have h4 := hun2 m hlt
      have h4l : (List.flatMap (subF l f) (List.take (m + 1) K)).length + 1 = (id' :: (K.take m).flatMap (subF l f)).length + (subF l f (K.getD m 0)).length := by rw [← zaN, ← h4, zag]
      have h5 := hlm m
      have h6 := hlm (m + 1)
      rw [h4] at h6
      generalize (id' :: (K.take m).flatMap (subF l f)) = A at *
      generalize subF l f (K.getD m 0) = B at *
      have htk : List.take A.length (Ints A) = Ints A := zba (by rw [Ints_length]; exact zbc _)
      have htb : List.take B.length (Ints B) = Ints B := zba (by rw [Ints_length]; exact zbc _)
      have hpp : Ints A ++ Ints B = Ints (A ++ B) := by simp [Ints]
      rw [zaN] at h6
      have hla : (A ++ B).length = A.length + B.length := zaN
      clear ih hun2 hlm
      simp only [go_sem, zaa, zar, zas, zat, zaw, zah, ↓reduceIte, reduceCtorEq, zac, zaf, zax, zay, zaz, decide_eq_true c]
      repeat' (first
 | with_reducible refine zaG ?_ ?_
 | (apply cl_lend
    case hr => (simp only [zam, zaq, hpL', lookR, zaa, if_true, if_false]; first | exact map1 _ | exact map2 _ _ | exact map3 _ _ _)
    case ha => (simp only [zam, zaq, prepV, prepC, idx, hpL', lookR, zaa, if_true, if_false]; rfl)
    case hs => rfl
    case hn => decide
    case h => (first | exact h3 ..)
    case hf => (simp only [zab, zae, false_implies, implies_true, and_true, true_and, flat_cons, flat_nil, flat_ints, flat_bools, flat_app, hfl, zaO, and_self, eq_self_iff_true, zad])
    case hl => (simp only [zag, zaj]; decide))
 | ((first | refine s1_id ?_ | refine swp_id ?_ | refine sops_id ?_ | refine s2_id ?_); simp only [decide_eq_true c, hren, htk, htb, hpp, hfl, zan, zao, zad, zap, zau, zak, zal, zai, zaA, zaC, zag, zaj, go_sem, zaa, zar, zas, zat, zaw, zah, ↓reduceIte, reduceCtorEq, zac, zaf, zax, zay, zaz, zaQ, zaS, zaJ, zaR, renO, bk, back, outUpsFrom, Ints_ren])
 | (intros; omega)
 | (intros; (try simp only [zaF, zaH, zaE, zaD, zav, zaB, decide_eq_true_eq, decide_eq_false_iff_not] at *); omega))
      refine le_mk (m + 1) ?_ hlt (by show K.length - (m + 1) < K.length - m; omega)
      simp only [h4, h4l, hla]
      (refine imp_ren _ _ _ [(0, 0, ⟨M, 0⟩), (1, 10, ⟨Ints (A ++ B), 1⟩)] (by simp) (by simp) (by simp) (zaI rfl) ?_ rfl (by simp only [zab, zae, false_implies, implies_true, and_true, zaT, lookR, zaa, if_true, if_false, ↓reduceIte, hfl] <;> (repeat' apply zaG) <;> (first | rfl | trivial)) (by simp only [zab, zae, false_implies, implies_true, and_true, true_and, flat_cons, flat_nil, flat_ints, flat_bools, flat_app, zaO, and_self, eq_self_iff_true, zad, hfl]); simp only [zam, zaq, zab, zae, false_implies, implies_true, and_true, lk, slot, zaQ, zaJ, toN, zaa, if_true, if_false, ↓reduceIte, reduceCtorEq])
      all_goals ((repeat' apply zaG) <;> (first | rfl | trivial | (simp only [zaK]; done) | (simp only [zaK]; rfl) | (simp only [zaK]; trivial))))
end Go.Proofs.Ytnahpejlhfeleab
-- NEWGO
-- PRUNE: cl_lendx cl_use
-- ISG: Cs_isG
-- FLAT: hfl
namespace Go.Proofs.Ytnahpejlhfeleab
set_option linter.unusedVariables false
set_option linter.unusedSimpArgs false
open Go.Proofs.Ytnahpejlhfeleab.Sh
set_option maxRecDepth 20000
def subM (l : List Nd) (n g : Int) : List Int := if hasM l n g = true then subF l l.length g else []
theorem subM_len (l : List Nd) (n g : Int) : (subM l n g).length ≤ l.length := by
  unfold subM
  split
  · rename_i h
    obtain ⟨hk, y, hy, rfl⟩ := hasM_iff.1 h
    obtain ⟨i, hi, rfl⟩ := gN_mem l y hy
    exact subF_len ((chkT_iff l n).1 hk) _ i hi
  · exact zaV _
set_option maxHeartbeats 8000000 in
theorem tsub_spec (l : List Nd) (n g : Int) (hl : l.length ≤ 1000000) (hnm : NmR l) (hct : CtR l) : FnSpec Try.prog 39 [trV l none n, i1 g] [] (gi (subM l n g) none) [] := by
  have hfl := gcN_flat (belowM l)
  have h1 := tfind_spec l n g hl hnm hct
  rw [fdM_2] at h1
  generalize (fdM l n g).1 = nd at *
  obtain ⟨xi, xp, xn, xc, xk, xo⟩ := nd
  simp only [ndc] at h1
  unfold subM
  cases hh : hasM l n g with
  | false =>
    rw [hh] at h1
    rw [if_neg (by decide)]
    refine fnspec_of mixed TT_ok TT_cl ⟨fun _ => false, fun _ => [], 0, fun _ => false, fun _ => false⟩ Try.func39 rfl (by kernel_rfl) rfl 19 rfl [.tmp 4] rfl ?_
    simp only [go_sem, zaa, zar, zas, zat, zaw, zah, ↓reduceIte, reduceCtorEq, zac, zaf, zax, zay, zaz]
    repeat' (first
 | (apply cl_plain
    case hs => rfl
    case ha => (simp only [zam, zaq, prepV, prepC, idx, hpL', lookR, zaa, if_true, if_false]; rfl)
    case h => (first | exact h1 ..))
 | ((first | refine s1_id ?_ | refine swp_id ?_ | refine sops_id ?_ | refine s2_id ?_); simp only [zan, zao, zad, zap, zau, zak, zal, zai, zaA, zaC, zag, zaj, go_sem, zaa, zar, zas, zat, zaw, zah, ↓reduceIte, reduceCtorEq, zac, zaf, zax, zay, zaz, zaQ, zaS, zaJ, zaR, renO, bk, back, outUpsFrom, Ints_ren])
 | (intros; (try simp only [zaF, zaH, zaE, zaD, zav, zaB, decide_eq_true_eq, decide_eq_false_iff_not] at *); omega))
    repeat' (first
 | exact fs_w trivial (svw_of cw_gnil)
 | fail)
  | true =>
  rw [hh] at h1
  rw [if_pos rfl]
  have hV := (chkT_iff l n).1 (hasM_iff.1 hh).1
  have h2 := below_spec l n hV.le
  obtain ⟨_, y, hy, rfl⟩ := hasM_iff.1 hh
  obtain ⟨i, hi, rfl⟩ := gN_mem l y hy
  have h3 := walk_spec l n hV l.length i hi (by omega)
  have hren : ∀ ρ, (gcN (belowM l)).map (zaJ ρ) = gcN (belowM l) := fun ρ => flat_ren (gcN_flat _) ρ
  generalize subF l l.length (gN l i).i = S at *
  generalize (gN l i).i = g at *
  generalize gcN (belowM l) = M at *
  refine fnspec_of mixed TT_ok TT_cl ⟨fun _ => false, fun f => if f = 77 then [0] else [], 0, fun _ => false, fun _ => false⟩ Try.func39 rfl (by kernel_rfl) rfl 19 rfl [.tmp 4] rfl ?_
  simp only [go_sem, zaa, zar, zas, zat, zaw, zah, ↓reduceIte, reduceCtorEq, zac, zaf, zax, zay, zaz, hren]
  repeat' (first
 | (apply cl_plain
    case hs => rfl
    case ha => (simp only [zam, zaq, prepV, prepC, idx, hpL', lookR, zaa, if_true, if_false]; rfl)
    case h => (first | exact h1 .. | exact h2 .. | exact h3 ..))
 | (apply cl_lend
    case hr => (simp only [zam, zaq, hpL', lookR, zaa, if_true, if_false]; first | exact map1 _ | exact map2 _ _ | exact map3 _ _ _)
    case ha => (simp only [zam, zaq, prepV, prepC, idx, hpL', lookR, zaa, if_true, if_false]; rfl)
    case hs => rfl
    case hn => decide
    case h => (first | exact h1 .. | exact h2 .. | exact h3 ..)
    case hf => (simp only [zab, zae, false_implies, implies_true, and_true, true_and, flat_cons, flat_nil, flat_ints, flat_bools, flat_app, hfl, zaO, and_self, eq_self_iff_true, zad])
    case hl => (simp only [zag, zaj]; decide))
 | ((first | refine s1_id ?_ | refine swp_id ?_ | refine sops_id ?_ | refine s2_id ?_); simp only [hren, hfl, zan, zao, zad, zap, zau, zak, zal, zai, zaA, zaC, zag, zaj, go_sem, zaa, zar, zas, zat, zaw, zah, ↓reduceIte, reduceCtorEq, zac, zaf, zax, zay, zaz, zaQ, zaS, zaJ, zaR, renO, bk, back, outUpsFrom, Ints_ren])
 | exact fs_nil trivial rfl
 | fail)
end Go.Proofs.Ytnahpejlhfeleab
-- NEWGO
-- PRUNE: cl_lendx cl_use
-- ISG: Cs_isG
-- FLAT: Cs_flat
namespace Go.Proofs.Ytnahpejlhfeleab
set_option linter.unusedVariables false
set_option linter.unusedSimpArgs false
open Go.Proofs.Ytnahpejlhfeleab.Sh
set_option maxRecDepth 20000
def ixI (id : Int) : List Int → Nat → Int
  | [], _ => -1
  | y :: ys, i => if id = y then (i : Int) else ixI id ys (i + 1)
theorem ixI_mem (id : Int) : ∀ (ys : List Int) (i : Nat), decide (0 ≤ ixI id ys i) = decide (id ∈ ys)
  | [], i => by simp [ixI]
  | y :: ys, i => by
    rw [ixI]
    by_cases h : id = y
    · rw [if_pos h]; simp [h]
    · rw [if_neg h, ixI_mem id ys]; simp [h]
theorem kcix_spec (xs : List Int) (c : Option Nat) (id : Int) (hl : xs.length ≤ 9223372036854775807) : FnSpec Try.prog 79 [gi xs c, i1 id] [] (i1 (ixI id xs 0)) [] := by
  refine fnspec_of mixed TT_ok TT_cl ⟨fun _ => false, fun _ => [], 0, fun _ => false, fun _ => false⟩ Try.func79 rfl (by kernel_rfl) rfl 19 rfl [.tmp 4] rfl ?_
  simp only [go_sem, zaa, zar, zas, zat, zaw, zah, ↓reduceIte, reduceCtorEq, zac, zaf, zax, zay, zaz]
  repeat' (first
 | (intros; (try simp only [zaF, zaH, zaE, zaD, zav, zaB, decide_eq_true_eq, decide_eq_false_iff_not] at *); omega))
  refine w_loop (ι := Nat) (fun m => ⟨[(0, gi xs c), (1, i1 id), (7, i1 xs.length), (8, i1 m)], [], 0⟩) (fun m => m ≤ xs.length ∧ ixI id xs 0 = ixI id (xs.drop m) m) (fun m => xs.length - m) 0 ?_ ⟨zaV _, rfl⟩ ?_
  · (refine imp_sub _ _ _ [] (by simp) (by simp) (by simp) (zaV _) ?_ rfl (by simp); simp only [zab, zae, false_implies, implies_true, and_true, lk, slot, zaQ, zaJ, zaa, if_true, if_false, ↓reduceIte, reduceCtorEq])
    all_goals ((repeat' apply zaG) <;> (first | rfl | trivial))
  rintro m ⟨hm, hI⟩
  simp only at hm hI ⊢
  rcases zbf m xs.length with hlt | hge
  case inr =>
    have c2 : ¬ (m : Int) < (xs.length : Int) := by omega
    rw [List.drop_of_length_le hge] at hI
    rw [hI]
    simp only [go_sem, zaa, zar, zas, zat, zaw, zah, ↓reduceIte, reduceCtorEq, zac, zaf, zax, zay, zaz, decide_eq_false c2, ixI]
    repeat' (first
 | exact fs_nil trivial rfl
 | fail)
  have c2 : (m : Int) < (xs.length : Int) := by omega
  rw [drop_getD xs m 0 hlt, ixI] at hI
  by_cases h : id = xs.getD m 0
  · rw [if_pos h] at hI
    rw [hI]
    simp only [go_sem, zaa, zar, zas, zat, zaw, zah, ↓reduceIte, reduceCtorEq, zac, zaf, zax, zay, zaz, decide_eq_true c2, decide_eq_true h]
    repeat' (first
 | with_reducible refine zaG ?_ ?_
 | (intros; omega)
 | exact fs_nil trivial rfl
 | fail)
  · rw [if_neg h] at hI
    simp only [go_sem, zaa, zar, zas, zat, zaw, zah, ↓reduceIte, reduceCtorEq, zac, zaf, zax, zay, zaz, decide_eq_true c2, decide_eq_false h]
    repeat' (first
 | with_reducible refine zaG ?_ ?_
 | (intros; omega)
 | (intros; (try simp only [zaF, zaH, zaE, zaD, zav, zaB, decide_eq_true_eq, decide_eq_false_iff_not] at *); omega))
    refine le_mk (m + 1) ?_ ⟨hlt, hI⟩ (by omega)
    (refine imp_sub _ _ _ [] (by simp) (by simp) (by simp) (zaV _) ?_ rfl (by simp); simp only [zab, zae, false_implies, implies_true, and_true, lk, slot, zaQ, zaJ, zaa, if_true, if_false, ↓reduceIte, reduceCtorEq])
    all_goals ((repeat' apply zaG) <;> (first | rfl | trivial | (simp only [zaK]; done) | (simp only [zaK]; rfl) | (simp only [zaK]; trivial)))
theorem kccon_spec (xs : List Int) (c : Option Nat) (id : Int) (hl : xs.length ≤ 9223372036854775807) : FnSpec Try.prog 42 [gi xs c, i1 id] [] (b1 (decide (id ∈ xs))) [] := by
  have h1 := kcix_spec xs c id hl
  rw [← ixI_mem id xs 0]
  refine fnspec_of mixed TT_ok TT_cl ⟨fun _ => false, fun _ => [], 0, fun _ => false, fun _ => false⟩ Try.func42 rfl (by kernel_rfl) rfl 9 rfl [.tmp 4] rfl ?_
  simp only [go_sem, zaa, zar, zas, zat, zaw, zah, ↓reduceIte, reduceCtorEq, zac, zaf, zax, zay, zaz]
  repeat' (first
 | (apply cl_plain
    case hs => rfl
    case ha => (simp only [zam, zaq, prepV, prepC, idx, hpL', lookR, zaa, if_true, if_false]; rfl)
    case h => (first | exact h1 ..))
 | ((first | refine s1_id ?_ | refine swp_id ?_ | refine sops_id ?_ | refine s2_id ?_); simp only [go_sem, zaa, zar, zas, zat, zaw, zah, ↓reduceIte, reduceCtorEq, zac, zaf, zax, zay, zaz, zaQ, zaS, zaJ, zaR, renO, bk, back, outUpsFrom, Ints_ren])
 | exact fs_nil trivial rfl
 | fail)
end Go.Proofs.Ytnahpejlhfeleab
-- NEWGO
-- PRUNE: cl_lendx cl_use
-- ISG: Cs_isG
-- FLAT: Cs_flat
namespace Go.Proofs.Ytnahpejlhfeleab
set_option linter.unusedVariables false
set_option linter.unusedSimpArgs false
open Go.Proofs.Ytnahpejlhfeleab.Sh
set_option maxRecDepth 20000
def chsM (q : Tk → Bool) (l : List Nd) (n : Int) (T : List Tk) (h : Int) : List Int := if hyM l n T h = true then (T.filter q).map Tk.i else []
set_option maxHeartbeats 8000000 in
theorem mchoose_spec (g : FuncId) (c0 : List Cell) (q : Tk → Bool) (l : List Nd) (n : Int) (T : List Tk) (h : Int) (hg : ∀ x ∈ T, FnSpec Try.prog g [.agg (tkc x), .one (.gptr c0 0)] [] (b1 (q x)) []) (hl : l.length ≤ 1000000) (hT : T.length ≤ 1000000) (hnm : NmR l) (hct : CtR l) : FnSpec Try.prog 40 [hyV l none n T none h, .one (.fn g [.gptr c0 0])] [] (gi (chsM q l n T h) none) [] := by
  have h1 := mcheck_spec l n T h hl (by omega) hnm hct
  have hcl := tk_len T
  unfold chsM
  cases hv : hyM l n T h with
  | false =>
    (try rw [hv] at h1)
    (try rw [if_neg (by decide)])
    refine fnspec_of mixed TT_ok TT_cl ⟨fun _ => false, fun _ => [], 0, fun _ => false, fun _ => false⟩ Try.func40 rfl (by kernel_rfl) rfl 29 rfl [.tmp 4] rfl ?_
    simp only [go_sem, zaa, zar, zas, zat, zaw, zah, ↓reduceIte, reduceCtorEq, zac, zaf, zax, zay, zaz, zan, zao, zad, zap, zau, zak, zal, zai, zaA, zaC, zag, zaj]
    repeat' (first
 | (apply cl_plain
    case hs => rfl
    case ha => (simp only [zam, zaq, prepV, prepC, idx, hpL', lookR, zaa, if_true, if_false]; rfl)
    case h => (first | exact h1 ..))
 | ((first | refine s1_id ?_ | refine swp_id ?_ | refine sops_id ?_ | refine s2_id ?_); simp only [zan, zao, zad, zap, zau, zak, zal, zai, zaA, zaC, zag, zaj, go_sem, zaa, zar, zas, zat, zaw, zah, ↓reduceIte, reduceCtorEq, zac, zaf, zax, zay, zaz, zaQ, zaS, zaJ, zaR, renO, bk, back, outUpsFrom, Ints_ren])
 | (intros; (try simp only [zaF, zaH, zaE, zaD, zav, zaB, decide_eq_true_eq, decide_eq_false_iff_not] at *); omega))
    repeat' (first
 | exact fs_w trivial (svw_of cw_gnil)
 | fail)
  | true =>
  (try rw [hv] at h1)
  (try rw [if_pos rfl])
  obtain ⟨_, hTl, _⟩ := hy_all hv
  obtain ⟨K, hK0, hKe, hKl, hKs⟩ := fmG_pack ztk q Tk.i T
  generalize (T.filter q).map Tk.i = W at *
  refine fnspec_of mixed TT_ok TT_cl ⟨fun _ => false, fun _ => [], 0, fun _ => false, fun _ => false⟩ Try.func40 rfl (by kernel_rfl) rfl 29 rfl [.tmp 4] rfl ?_
  simp only [go_sem, zaa, zar, zas, zat, zaw, zah, ↓reduceIte, reduceCtorEq, zac, zaf, zax, zay, zaz, zan, zao, zad, zap, zau, zak, zal, zai, zaA, zaC, zag, zaj]
  repeat' (first
 | (apply cl_plain
    case hs => rfl
    case ha => (simp only [zam, zaq, prepV, prepC, idx, hpL', lookR, zaa, if_true, if_false]; rfl)
    case h => (first | exact h1 ..))
 | ((first | refine s1_id ?_ | refine swp_id ?_ | refine sops_id ?_ | refine s2_id ?_); simp only [zan, zao, zad, zap, zau, zak, zal, zai, zaA, zaC, zag, zaj, go_sem, zaa, zar, zas, zat, zaw, zah, ↓reduceIte, reduceCtorEq, zac, zaf, zax, zay, zaz, zaQ, zaS, zaJ, zaR, renO, bk, back, outUpsFrom, Ints_ren])
 | (intros; (try simp only [zaF, zaH, zaE, zaD, zav, zaB, decide_eq_true_eq, decide_eq_false_iff_not] at *); omega))
  refine w_loop (ι := Nat) (fun m => ⟨[(1, .one (.fn g [.gptr c0 0])), (5, .one (.osl 0 0 (K m).length none)), (13, gr T none), (14, i1 T.length), (15, i1 m)], [(0, some ⟨Ints (K m), 1⟩)], 1⟩) (fun m => m ≤ T.length) (fun m => T.length - m) 0 ?_ (zaV _) ?_
  · simp only [hK0]; (refine Imp.trans (imp_nilA _ _ 5 1 99 (by simp only []; omega) rfl) ?_)
    (refine imp_ren _ _ _ [(0, 99, ⟨[], 1⟩)] (by simp) (by simp) (by simp) (zaI rfl) ?_ rfl (by simp only [zab, zae, false_implies, implies_true, and_true, zaT, lookR, zaa, if_true, if_false, ↓reduceIte] <;> (repeat' apply zaG) <;> (first | rfl | trivial)) (by simp only [zab, zae, false_implies, implies_true, and_true, true_and, flat_cons, flat_nil, flat_ints, flat_bools, flat_app, zaO, and_self, eq_self_iff_true, zad]); simp only [zam, zaq, zab, zae, false_implies, implies_true, and_true, lk, slot, zaQ, zaJ, toN, zaa, if_true, if_false, ↓reduceIte, reduceCtorEq])
    all_goals ((repeat' apply zaG) <;> (first | rfl | trivial))
  clear h1
  rintro m hm
  simp only at hm ⊢
  rcases zbf m T.length with hlt | hge
  case inr =>
    have c : ¬ (m : Int) < (T.length : Int) := by omega
    obtain rfl : m = T.length := by omega
    rw [hKe]
    simp only [go_sem, zaa, zar, zas, zat, zaw, zah, ↓reduceIte, reduceCtorEq, zac, zaf, zax, zay, zaz, decide_eq_false c, zan, zao, zad, zap, zau, zak, zal, zai, zaA, zaC, zag, zaj]
    repeat' (first
 | (intros; (try simp only [zaF, zaH, zaE, zaD, zav, zaB, decide_eq_true_eq, decide_eq_false_iff_not] at *); omega))
    (refine fs_frz 0 ⟨Ints W, 1⟩ (by simp only [zaT, lookR, zaa, if_true, if_false, ↓reduceIte]) (by first | exact Ints_isG _ | exact Bools_isG _ | exact Cs_isG _ | (simp [Cell.isG]; done)) ?_; simp only [frzTm, SV.frz, SV.frzL, zbh, frzHp, frzO, Ints_frz, Bools_frz, zam, zaq, zaa, if_true, if_false, ↓reduceIte])
    repeat' (first
 | (refine fs_w ?h1 (svw_of ?h2); (case h1 => repeat' (first | exact trivial | exact rfl | exact zaI rfl | apply zaG)); (case h2 => repeat' (first | ((with_reducible refine (?_ : CW _ _)); first | exact cw_gnil | exact cw_rfl _ | exact cw_niln _ _ | exact cw_cap _ _ _ _) | exact trivial | (show _ ∧ SWL _ _; apply zaG) | (show _ ∧ CWL _ _; apply zaG) | show CW _ _)))
 | fail)
  have c : (m : Int) < (T.length : Int) := by omega
  have hat := tk_td T m hlt
  obtain ⟨s1, s2⟩ := hKs m hlt
  have hk := hKl m
  have ha := Ints_all (K m)
  have hla := snoc_len (K m) (gT T m).i
  have hgx := hg (gT T m) (getD_mem T m ztk hlt)
  rw [show T.getD m ztk = gT T m from rfl] at s1 s2
  generalize gT T m = x at *
  obtain ⟨xi, xp, xg, xu⟩ := x
  simp only [tkc] at hat s1 s2 hla hgx
  cases hq : q ⟨xi, xp, xg, xu⟩ with
  | true =>
    (try rw [hq] at hgx)
    (try rw [if_pos rfl])
    have s1 := s1 hq
    rw [← s1] at hla
    simp only [go_sem, zaa, zar, zas, zat, zaw, zah, ↓reduceIte, reduceCtorEq, zac, zaf, zax, zay, zaz, decide_eq_true c, hat, ha, ← s1, zan, zao, zad, zap, zau, zak, zal, zai, zaA, zaC, zag, zaj]
    repeat' (first
 | with_reducible refine zaG ?_ ?_
 | (apply cl_plain
    case hs => rfl
    case ha => (simp only [zam, zaq, prepV, prepC, idx, hpL', lookR, zaa, if_true, if_false]; rfl)
    case h => (first | exact hgx ..))
 | ((first | refine s1_id ?_ | refine swp_id ?_ | refine sops_id ?_ | refine s2_id ?_); simp only [decide_eq_true c, hat, ha, ← s1, zan, zao, zad, zap, zau, zak, zal, zai, zaA, zaC, zag, zaj, go_sem, zaa, zar, zas, zat, zaw, zah, ↓reduceIte, reduceCtorEq, zac, zaf, zax, zay, zaz, zaQ, zaS, zaJ, zaR, renO, bk, back, outUpsFrom, Ints_ren])
 | (intros; omega)
 | (intros; (try simp only [zaF, zaH, zaE, zaD, zav, zaB, decide_eq_true_eq, decide_eq_false_iff_not] at *); omega))
    refine le_mk (m + 1) ?_ hlt (by show T.length - (m + 1) < T.length - m; omega)
    (refine imp_ren _ _ _ [(0, 13, ⟨Ints (K (m + 1)), 1⟩)] (by simp) (by simp) (by simp) (zaI rfl) ?_ rfl (by simp only [zab, zae, false_implies, implies_true, and_true, zaT, lookR, zaa, if_true, if_false, ↓reduceIte] <;> (repeat' apply zaG) <;> (first | rfl | trivial)) (by simp only [zab, zae, false_implies, implies_true, and_true, true_and, flat_cons, flat_nil, flat_ints, flat_bools, flat_app, zaO, and_self, eq_self_iff_true, zad]); simp only [zam, zaq, zab, zae, false_implies, implies_true, and_true, lk, slot, zaQ, zaJ, toN, zaa, if_true, if_false, ↓reduceIte, reduceCtorEq])
    all_goals ((repeat' apply zaG) <;> (first | rfl | trivial | (simp only [zaK, hla]; done) | (simp only [zaK, hla]; rfl) | (simp only [zaK, hla]; trivial)))
  | false =>
  (try rw [hq] at hgx)
  (try rw [if_neg (by decide)])
  have s2 := s2 hq
  simp only [go_sem, zaa, zar, zas, zat, zaw, zah, ↓reduceIte, reduceCtorEq, zac, zaf, zax, zay, zaz, decide_eq_true c, hat, zan, zao, zad, zap, zau, zak, zal, zai, zaA, zaC, zag, zaj]
  repeat' (first
 | with_reducible refine zaG ?_ ?_
 | (apply cl_plain
    case hs => rfl
    case ha => (simp only [zam, zaq, prepV, prepC, idx, hpL', lookR, zaa, if_true, if_false]; rfl)
    case h => (first | exact hgx ..))
 | ((first | refine s1_id ?_ | refine swp_id ?_ | refine sops_id ?_ | refine s2_id ?_); simp only [decide_eq_true c, hat, zan, zao, zad, zap, zau, zak, zal, zai, zaA, zaC, zag, zaj, go_sem, zaa, zar, zas, zat, zaw, zah, ↓reduceIte, reduceCtorEq, zac, zaf, zax, zay, zaz, zaQ, zaS, zaJ, zaR, renO, bk, back, outUpsFrom, Ints_ren])
 | (intros; omega)
 | (intros; (try simp only [zaF, zaH, zaE, zaD, zav, zaB, decide_eq_true_eq, decide_eq_false_iff_not] at *); omega))
  rw [← s2]
  refine le_mk (m + 1) ?_ hlt (by show T.length - (m + 1) < T.length - m; omega)
  (refine imp_ren _ _ _ [(0, 0, ⟨Ints (K (m + 1)), 1⟩)] (by simp) (by simp) (by simp) (zaI rfl) ?_ rfl (by simp only [zab, zae, false_implies, implies_true, and_true, zaT, lookR, zaa, if_true, if_false, ↓reduceIte] <;> (repeat' apply zaG) <;> (first | rfl | trivial)) (by simp only [zab, zae, false_implies, implies_true, and_true, true_and, flat_cons, flat_nil, flat_ints, flat_bools, flat_app, zaO, and_self, eq_self_iff_true, zad]); simp only [zam, zaq, zab, zae, false_implies, implies_true, and_true, lk, slot, zaQ, zaJ, toN, zaa, if_true, if_false, ↓reduceIte, reduceCtorEq])
  all_goals ((repeat' apply zaG) <;> (first | rfl | trivial | (simp only [zaK]; done) | (simp only [zaK]; rfl) | (simp only [zaK]; trivial)))
theorem vt_ct {l : List Nd} {n : Int} (h : VT l n) : CtR l := fun x hx => by
  have := (h.vl.all x hx).2
  unfold rngOk at this
  simp only [zaF, decide_eq_true_eq] at this
  omega
theorem HI.ct {q : Hy} (h : HI q) : CtR q.1 := vt_ct h.p.v
def inC (S : List Int) (x : Tk) : Bool := decide (x.g ∈ S)
def coM (l : List Nd) (n : Int) (T : List Tk) (h g : Int) : Nat := (chsM (inC (subM l n g)) l n T h).length
theorem inC1_spec (S : List Int) (x : Tk) (hS : S.length ≤ 1000000) : FnSpec Try.prog 41 [.agg (tkc x), .one (.gptr [.gsl (Ints S) 0 S.length none] 0)] [] (b1 (inC S x)) [] := by
  obtain ⟨i, p, gg, u⟩ := x
  have h1 := kccon_spec S none gg (by omega)
  unfold inC
  simp only [tkc]
  generalize decide (gg ∈ S) = b at *
  refine fnspec_of mixed TT_ok TT_cl ⟨fun _ => false, fun _ => [], 0, fun _ => false, fun _ => false⟩ Try.func41 rfl (by kernel_rfl) rfl 8 rfl [.tmp 3] rfl ?_
  simp only [go_sem, zaa, zar, zas, zat, zaw, zah, ↓reduceIte, reduceCtorEq, zac, zaf, zax, zay, zaz, zan, zao, zad, zap, zau, zak, zal, zai, zaA, zaC, zag, zaj]
  repeat' (first
 | (apply cl_plain
    case hs => rfl
    case ha => (simp only [zam, zaq, prepV, prepC, idx, hpL', lookR, zaa, if_true, if_false]; rfl)
    case h => (first | exact h1 ..))
 | ((first | refine s1_id ?_ | refine swp_id ?_ | refine sops_id ?_ | refine s2_id ?_); simp only [zan, zao, zad, zap, zau, zak, zal, zai, zaA, zaC, zag, zaj, go_sem, zaa, zar, zas, zat, zaw, zah, ↓reduceIte, reduceCtorEq, zac, zaf, zax, zay, zaz, zaQ, zaS, zaJ, zaR, renO, bk, back, outUpsFrom, Ints_ren])
 | exact fs_nil trivial rfl
 | fail)
set_option maxHeartbeats 8000000 in
theorem mcount_spec (l : List Nd) (n : Int) (T : List Tk) (h g : Int) (hl : l.length ≤ 1000000) (hT : T.length ≤ 1000000) (hnm : NmR l) (hct : CtR l) : FnSpec Try.prog 14 [hyV l none n T none h, i1 g] [] (i1 (coM l n T h g)) [] := by
  have h0 := tsub_spec l n g hl hnm hct
  have hsl := subM_len l n g
  unfold coM
  generalize subM l n g = S at *
  have h1 := mchoose_spec 41 [.gsl (Ints S) 0 S.length none] (inC S) l n T h (fun x _ => inC1_spec S x (by omega)) hl hT hnm hct
  generalize chsM (inC S) l n T h = W at *
  refine fnspec_of mixed TT_ok TT_cl ⟨fun _ => false, fun _ => [], 0 , fun _ => false, fun i => if i = 2 then true else false⟩ Try.func14 rfl (by kernel_rfl) rfl 14 rfl [.tmp 4] rfl ?_
  simp only [go_sem, zaa, zar, zas, zat, zaw, zah, ↓reduceIte, reduceCtorEq, zac, zaf, zax, zay, zaz, zan, zao, zad, zap, zau, zak, zal, zai, zaA, zaC, zag, zaj]
  repeat' (first
 | (apply cl_plain
    case hs => rfl
    case ha => (simp only [zam, zaq, prepV, prepC, idx, hpL', lookR, zaa, if_true, if_false]; rfl)
    case h => (first | exact h0 .. | exact h1 ..))
 | ((first | refine s1_id ?_ | refine swp_id ?_ | refine sops_id ?_ | refine s2_id ?_); simp only [zan, zao, zad, zap, zau, zak, zal, zai, zaA, zaC, zag, zaj, go_sem, zaa, zar, zas, zat, zaw, zah, ↓reduceIte, reduceCtorEq, zac, zaf, zax, zay, zaz, zaQ, zaS, zaJ, zaR, renO, bk, back, outUpsFrom, Ints_ren])
 | (intros; (try simp only [zaF, zaH, zaE, zaD, zav, zaB, decide_eq_true_eq, decide_eq_false_iff_not] at *); omega))
  (refine rgf_t _ (imp_frz _ _ 6 ⟨[.gsl (Ints S) 0 S.length none], 1⟩ (by simp only [zaT, lookR, zaa, if_true, if_false, ↓reduceIte]) (by first | exact Ints_isG _ | exact Bools_isG _ | exact Cs_isG _ | (simp [Cell.isG]; done))) ?_; simp only [frzTm, SV.frz, SV.frzL, zbh, frzHp, frzO, Ints_frz, Bools_frz, zam, zaq, zaa, if_true, if_false, ↓reduceIte])
  simp only [go_sem, zaa, zar, zas, zat, zaw, zah, ↓reduceIte, reduceCtorEq, zac, zaf, zax, zay, zaz, zan, zao, zad, zap, zau, zak, zal, zai, zaA, zaC, zag, zaj]
  repeat' (first
 | (apply cl_plain
    case hs => rfl
    case ha => (simp only [zam, zaq, prepV, prepC, idx, hpL', lookR, zaa, if_true, if_false]; rfl)
    case h => (first | exact h1 ..))
 | ((first | refine s1_id ?_ | refine swp_id ?_ | refine sops_id ?_ | refine s2_id ?_); simp only [zan, zao, zad, zap, zau, zak, zal, zai, zaA, zaC, zag, zaj, go_sem, zaa, zar, zas, zat, zaw, zah, ↓reduceIte, reduceCtorEq, zac, zaf, zax, zay, zaz, zaQ, zaS, zaJ, zaR, renO, bk, back, outUpsFrom, Ints_ren])
 | exact fs_nil trivial rfl
 | fail)
set_option maxHeartbeats 8000000 in
theorem mplace_spec (l : List Nd) (n : Int) (T : List Tk) (h t g : Int) (hl : l.length ≤ 1000000) (hT : T.length ≤ 1000000) (hnm : NmR l) (hct : CtR l) : FnSpec Try.prog 11 [hyV l none n T none h, i1 t, i1 g] [] (.tup [hyQ (plR l n T h t g).1, i1 (plR l n T h t g).2]) [] := by
  have h1 := mcheck_spec l n T h hl (by omega) hnm hct
  have h2 := mindex_spec l none n T none h t (by omega)
  unfold plR
  cases hv : hyM l n T h with
  | false =>
    (try rw [hv] at h1)
    (try rw [if_neg (by decide)])
    simp only [Cs_nil, zaj]
    refine fnspec_of mixed TT_ok TT_cl ⟨fun _ => false, fun _ => [], 0, fun _ => false, fun _ => false⟩ Try.func11 rfl (by kernel_rfl) rfl 45 rfl [.cell 6 32, .tmp 7] rfl ?_
    simp only [go_sem, zaa, zar, zas, zat, zaw, zah, ↓reduceIte, reduceCtorEq, zac, zaf, zax, zay, zaz, zan, zao, zad, zap, zau, zak, zal, zai, zaA, zaC, zag, zaj]
    repeat' (first
 | (apply cl_plain
    case hs => rfl
    case ha => (simp only [zam, zaq, prepV, prepC, idx, hpL', lookR, zaa, if_true, if_false]; rfl)
    case h => (first | exact h1 ..))
 | ((first | refine s1_id ?_ | refine swp_id ?_ | refine sops_id ?_ | refine s2_id ?_); simp only [zan, zao, zad, zap, zau, zak, zal, zai, zaA, zaC, zag, zaj, go_sem, zaa, zar, zas, zat, zaw, zah, ↓reduceIte, reduceCtorEq, zac, zaf, zax, zay, zaz, zaQ, zaS, zaJ, zaR, renO, bk, back, outUpsFrom, Ints_ren])
 | (intros; (try simp only [zaF, zaH, zaE, zaD, zav, zaB, decide_eq_true_eq, decide_eq_false_iff_not] at *); omega))
    repeat' (first
 | (refine fs_w ?h1 (svw_of ?h2); (case h1 => repeat' (first | exact trivial | exact rfl | exact zaI rfl | apply zaG)); (case h2 => repeat' (first | ((with_reducible refine (?_ : CW _ _)); first | exact cw_gnil | exact cw_rfl _ | exact cw_niln _ _ | exact cw_cap _ _ _ _) | exact trivial | (show _ ∧ SWL _ _; apply zaG) | (show _ ∧ CWL _ _; apply zaG) | show CW _ _)))
 | fail)
  | true =>
  (try rw [hv] at h1)
  (try rw [if_pos rfl])
  obtain ⟨hV, hTl, hh1, hh2, hpw⟩ := hy_all hv
  cases hb : bsF Tk.i T t with
  | false =>
    (try rw [hb] at h2)
    (try rw [if_neg (by decide)])
    simp only [Cs_nil, zaj]
    refine fnspec_of mixed TT_ok TT_cl ⟨fun _ => false, fun _ => [], 0, fun _ => false, fun _ => false⟩ Try.func11 rfl (by kernel_rfl) rfl 45 rfl [.cell 6 32, .tmp 7] rfl ?_
    simp only [go_sem, zaa, zar, zas, zat, zaw, zah, ↓reduceIte, reduceCtorEq, zac, zaf, zax, zay, zaz, zan, zao, zad, zap, zau, zak, zal, zai, zaA, zaC, zag, zaj]
    repeat' (first
 | (apply cl_plain
    case hs => rfl
    case ha => (simp only [zam, zaq, prepV, prepC, idx, hpL', lookR, zaa, if_true, if_false]; rfl)
    case h => (first | exact h1 .. | exact h2 ..))
 | ((first | refine s1_id ?_ | refine swp_id ?_ | refine sops_id ?_ | refine s2_id ?_); simp only [zan, zao, zad, zap, zau, zak, zal, zai, zaA, zaC, zag, zaj, go_sem, zaa, zar, zas, zat, zaw, zah, ↓reduceIte, reduceCtorEq, zac, zaf, zax, zay, zaz, zaQ, zaS, zaJ, zaR, renO, bk, back, outUpsFrom, Ints_ren])
 | (intros; (try simp only [zaF, zaH, zaE, zaD, zav, zaB, decide_eq_true_eq, decide_eq_false_iff_not] at *); omega))
    repeat' (first
 | (refine fs_w ?h1 (svw_of ?h2); (case h1 => repeat' (first | exact trivial | exact rfl | exact zaI rfl | apply zaG)); (case h2 => repeat' (first | ((with_reducible refine (?_ : CW _ _)); first | exact cw_gnil | exact cw_rfl _ | exact cw_niln _ _ | exact cw_cap _ _ _ _) | exact trivial | (show _ ∧ SWL _ _; apply zaG) | (show _ ∧ CWL _ _; apply zaG) | show CW _ _)))
 | fail)
  | true =>
  (try rw [hb] at h2)
  (try rw [if_pos rfl])
  have h3 := tfind_spec l n g hl hnm hct
  rw [fdM_bs ((chkT_iff l n).2 hV)] at h3
  generalize (fdM l n g).1 = fx at *
  obtain ⟨f0, f1, f2, f3, f4, f5⟩ := fx
  simp only [ndc] at h3
  cases hc : bsF Nd.i l g with
  | false =>
    (try rw [hc] at h3)
    (try rw [if_neg (by decide)])
    simp only [Cs_nil, zaj]
    refine fnspec_of mixed TT_ok TT_cl ⟨fun _ => false, fun _ => [], 0, fun _ => false, fun _ => false⟩ Try.func11 rfl (by kernel_rfl) rfl 45 rfl [.cell 6 32, .tmp 7] rfl ?_
    simp only [go_sem, zaa, zar, zas, zat, zaw, zah, ↓reduceIte, reduceCtorEq, zac, zaf, zax, zay, zaz, zan, zao, zad, zap, zau, zak, zal, zai, zaA, zaC, zag, zaj]
    repeat' (first
 | (apply cl_plain
    case hs => rfl
    case ha => (simp only [zam, zaq, prepV, prepC, idx, hpL', lookR, zaa, if_true, if_false]; rfl)
    case h => (first | exact h1 .. | exact h2 .. | exact h3 ..))
 | ((first | refine s1_id ?_ | refine swp_id ?_ | refine sops_id ?_ | refine s2_id ?_); simp only [zan, zao, zad, zap, zau, zak, zal, zai, zaA, zaC, zag, zaj, go_sem, zaa, zar, zas, zat, zaw, zah, ↓reduceIte, reduceCtorEq, zac, zaf, zax, zay, zaz, zaQ, zaS, zaJ, zaR, renO, bk, back, outUpsFrom, Ints_ren])
 | (intros; (try simp only [zaF, zaH, zaE, zaD, zav, zaB, decide_eq_true_eq, decide_eq_false_iff_not] at *); omega))
    repeat' (first
 | (refine fs_w ?h1 (svw_of ?h2); (case h1 => repeat' (first | exact trivial | exact rfl | exact zaI rfl | apply zaG)); (case h2 => repeat' (first | ((with_reducible refine (?_ : CW _ _)); first | exact cw_gnil | exact cw_rfl _ | exact cw_niln _ _ | exact cw_cap _ _ _ _) | exact trivial | (show _ ∧ SWL _ _; apply zaG) | (show _ ∧ CWL _ _; apply zaG) | show CW _ _)))
 | fail)
  | true =>
  (try rw [hc] at h3)
  (try rw [if_pos rfl])
  have h4 := chier_spec l n T h hl hT
  obtain ⟨hlt, hki⟩ := bsF_at Tk.i T t hb
  have hW : T.map (ptF t g) = T.set (bsV Tk.i T t) ⟨(gT T (bsV Tk.i T t)).i, (gT T (bsV Tk.i T t)).p, g, (gT T (bsV Tk.i T t)).u⟩ := by
    apply List.ext_getElem (by rw [zbg, List.length_set])
    intro i h1 h2
    rw [zbg] at h1
    rw [List.getElem_map, List.getElem_set]
    unfold ptF
    have e0 : T.getD i Rec.z = T[i] := getD_at T i _ h1
    by_cases c : bsV Tk.i T t = i
    · rw [if_pos c]
      subst c
      rw [e0] at hki
      rw [if_pos hki, show gT T (bsV Tk.i T t) = T[bsV Tk.i T t] from getD_at T _ ztk h1]
    · rw [if_neg c]
      rw [if_neg]
      intro e
      apply c
      have := (bs_found Tk.i T (pw_ix hpw) i h1).1
      rw [e0, e] at this
      exact this
  have hle : (T.map (ptF t g)).length = T.length := zbg _
  rw [hW] at hle ⊢
  generalize bsV Tk.i T t = m at *
  have hpt := Cs_setf T m 2 (⟨(gT T m).i, (gT T m).p, g, (gT T m).u⟩ : Tk) (int g) (by omega) (by decide) rfl
  have hpt : (Cs T).set (m * 4 + 2) (int g) = Cs (T.set m ⟨(gT T m).i, (gT T m).p, g, (gT T m).u⟩) := hpt
  have hcl := tk_len T
  have hlt' : (m : Int) < (T.length : Int) := by omega
  generalize T.set m ⟨(gT T m).i, (gT T m).p, g, (gT T m).u⟩ = W at *
  show FnSpec Try.prog _ _ _ (.tup [.agg [.gsl (Cs l) 0 l.length none, int n, .gsl (Cs W) 0 W.length none, int h], i1 0]) _
  rw [hle]
  refine fnspec_of mixed TT_ok TT_cl ⟨fun _ => false, fun _ => [], 0, fun _ => false, fun _ => false⟩ Try.func11 rfl (by kernel_rfl) rfl 45 rfl [.cell 6 32, .tmp 7] rfl ?_
  simp only [go_sem, zaa, zar, zas, zat, zaw, zah, ↓reduceIte, reduceCtorEq, zac, zaf, zax, zay, zaz, hpt, zan, zao, zad, zap, zau, zak, zal, zai, zaA, zaC, zag, zaj]
  repeat' (first
 | with_reducible refine zaG ?_ ?_
 | (apply cl_plain
    case hs => rfl
    case ha => (simp only [zam, zaq, prepV, prepC, idx, hpL', lookR, zaa, if_true, if_false]; rfl)
    case h => (first | exact h1 .. | exact h2 .. | exact h3 .. | exact h4 ..))
 | ((first | refine s1_id ?_ | refine swp_id ?_ | refine sops_id ?_ | refine s2_id ?_); simp only [hpt, zan, zao, zad, zap, zau, zak, zal, zai, zaA, zaC, zag, zaj, go_sem, zaa, zar, zas, zat, zaw, zah, ↓reduceIte, reduceCtorEq, zac, zaf, zax, zay, zaz, zaQ, zaS, zaJ, zaR, renO, bk, back, outUpsFrom, Ints_ren])
 | (intros; omega)
 | (intros; (try simp only [zaF, zaH, zaE, zaD, zav, zaB, decide_eq_true_eq, decide_eq_false_iff_not] at *); omega))
  (refine fs_frz 29 ⟨Cs l, 6⟩ (by simp only [zaT, lookR, zaa, if_true, if_false, ↓reduceIte]) (by first | exact Ints_isG _ | exact Bools_isG _ | exact Cs_isG _ | (simp [Cell.isG]; done)) ?_; simp only [frzTm, SV.frz, SV.frzL, zbh, frzHp, frzO, Ints_frz, Bools_frz, zam, zaq, zaa, if_true, if_false, ↓reduceIte])
  simp only [frzHp, frzO, Cs_frz, zam, zaq]
  (refine fs_frz 30 ⟨Cs W, 4⟩ (by simp only [zaT, lookR, zaa, if_true, if_false, ↓reduceIte]) (by first | exact Ints_isG _ | exact Bools_isG _ | exact Cs_isG _ | (simp [Cell.isG]; done)) ?_; simp only [frzTm, SV.frz, SV.frzL, zbh, frzHp, frzO, Ints_frz, Bools_frz, zam, zaq, zaa, if_true, if_false, ↓reduceIte])
  repeat' (first
 | (refine fs_w ?h1 (svw_of ?h2); (case h1 => repeat' (first | exact trivial | exact rfl | exact zaI rfl | apply zaG)); (case h2 => repeat' (first | ((with_reducible refine (?_ : CW _ _)); first | exact cw_gnil | exact cw_rfl _ | exact cw_niln _ _ | exact cw_cap _ _ _ _) | exact trivial | (show _ ∧ SWL _ _; apply zaG) | (show _ ∧ CWL _ _; apply zaG) | show CW _ _)))
 | fail)
end Go.Proofs.Ytnahpejlhfeleab
-- NEWGO
-- PRUNE: cl_lendx cl_use
-- ISG: Cs_isG
-- FLAT: Cs_flat
namespace Go.Proofs.Ytnahpejlhfeleab
set_option linter.unusedVariables false
set_option linter.unusedSimpArgs false
open Go.Proofs.Ytnahpejlhfeleab.Sh
set_option maxRecDepth 20000
structure HJ (q : Hy) (B : Int) : Prop where
  i : HI q
  n : q.2.2.2 ≤ B
theorem HyP.cnt {l : List Nd} {n : Int} {T : List Tk} {h : Int} (P : HyP l n T h) : (T.length : Int) < h := by
  have : ∀ (T : List Tk) (a : Int), T.Pairwise (fun x y => x.i < y.i) → (∀ x ∈ T, a ≤ x.i) → (∀ x ∈ T, x.i < h) → a ≤ h → a + T.length ≤ h := by
    intro T
    induction T with
    | nil => intro a _ _ _ h; simpa using h
    | cons x r ih =>
      intro a hp h1 h2 h3
      have hd := List.pairwise_cons.1 hp
      have hx := h1 x zaL
      have hy := h2 x zaL
      have := ih (x.i + 1) hd.2 (fun y hy => by have := hd.1 y hy; omega) (fun y hy => h2 y (zaM _ hy)) (by omega)
      rw [zag]; omega
  have := this T 1 P.asc P.pos P.nx P.h1
  omega
theorem chs_len (q : Tk → Bool) {l : List Nd} {n : Int} {T : List Tk} {h : Int} (P : HyP l n T h) : (chsM q l n T h).length = T.countP q := by
  unfold chsM
  rw [if_pos ((hyM_iff l n T h).2 P), zbg, List.countP_eq_length_filter]
def lendW : FuncId → List Nat := fun f => if f = 10 then [0] else if f = 17 then [0] else if f = 26 then [0] else if f = 9 then [0] else []
end Go.Proofs.Ytnahpejlhfeleab
-- NEWGO
-- PRUNE: cl_lendx cl_use
-- ISG: Cs_isG
-- FLAT: Cs_flat
namespace Go.Proofs.Ytnahpejlhfeleab
set_option linter.unusedVariables false
set_option linter.unusedSimpArgs false
open Go.Proofs.Ytnahpejlhfeleab.Sh
set_option maxRecDepth 20000
theorem sub_anc {l : List Nd} {n : Int} (h : VT l n) {k a : Nat} (hk : k < l.length) (ha : a < l.length) : (gN l a).i ∈ subM l n (gN l k).i ↔ (gN l k).i ∈ ancM l n (gN l a).i := by
  unfold subM ancM
  rw [has_at h hk, has_at h ha, if_pos rfl, if_pos rfl]
  constructor
  · intro e
    obtain ⟨_, _, _, _, e2⟩ := subF_ge h l.length k _ hk e
    exact e2
  · intro e
    exact subF_up h hk (by omega) a ha e
theorem move_cnt {x : Tk} (g : Int) (q : Tk → Bool) : ∀ {T : List Tk}, T.Pairwise (fun a b => a.i < b.i) → x ∈ T → (T.map (ptF x.i g)).countP q + (if q x = true then 1 else 0) = T.countP q + (if q ⟨x.i, x.p, g, x.u⟩ = true then 1 else 0)
  | [], _, h => by cases h
  | y :: r, hp, h => by
    have hd := List.pairwise_cons.1 hp
    rw [zam, List.countP_cons, List.countP_cons]
    by_cases e : y.i = x.i
    · have hy : y = x := tk_inj hp zaL h e
      subst hy
      have hr : r.map (ptF y.i g) = r := by
        rw [List.map_congr_left (g := id) (fun z hz => ?_), List.map_id]
        unfold ptF
        rw [if_neg (by have := hd.1 z hz; omega)]
        rfl
      rw [hr, show ptF y.i g y = ⟨y.i, y.p, g, y.u⟩ from if_pos rfl]
      omega
    · rcases List.mem_cons.1 h with e2 | e2
      · exact absurd (by rw [e2]) e
      · have ih := move_cnt g q hd.2 e2
        rw [show ptF x.i g y = y from if_neg e]
        omega
theorem co_move {l : List Nd} {n : Int} {T : List Tk} {h : Int} (P : HyP l n T h) {x : Tk} (hx : x ∈ T) {g : Int} (P2 : HyP l n (T.map (ptF x.i g)) h) (k : Int) :
    coM l n (T.map (ptF x.i g)) h k + (if x.g ∈ subM l n k then 1 else 0) = coM l n T h k + (if g ∈ subM l n k then 1 else 0) := by
  unfold coM
  rw [chs_len _ P, chs_len _ P2]
  have := move_cnt g (inC (subM l n k)) P.asc hx
  unfold inC at *
  simp only [decide_eq_true_eq] at this
  exact this
set_option maxHeartbeats 8000000 in
theorem moves6_spec (D : List Int) (hr : ∀ x ∈ D, -9223372036854775808 ≤ x ∧ x ≤ 9223372036854775807) : FnSpec Try.prog 3 [gi D none] [] (b1 true) [] := by
  by_cases hlen : (D.length : Int) ≤ 600
  case neg =>
    (try rw [if_neg hlen])
    refine fnspec_of mixed TT_ok TT_cl ⟨fun _ => false, lendW, 0, fun _ => false, fun _ => false⟩ Try.func3 rfl (by kernel_rfl) rfl 102 rfl [.tmp 2] rfl ?_
    simp only [go_sem, zaa, zar, zas, zat, zaw, zah, ↓reduceIte, reduceCtorEq, zac, zaf, zax, zay, zaz, lendW, dice, decide_eq_false hlen, zan, zao, zad, zap, zau, zak, zal, zai, zaA, zaC, zag, zaj]
    repeat' (first
 | (apply cl_plain
    case hs => rfl
    case ha => (simp only [zam, zaq, prepV, prepC, idx, hpL', lookR, zaa, if_true, if_false]; rfl)
    case h => (first | exact light_spec .. | exact sane6_spec ..))
 | ((first | refine s1_id ?_ | refine swp_id ?_ | refine sops_id ?_ | refine s2_id ?_); simp only [lendW, dice, decide_eq_false hlen, zan, zao, zad, zap, zau, zak, zal, zai, zaA, zaC, zag, zaj, go_sem, zaa, zar, zas, zat, zaw, zah, ↓reduceIte, reduceCtorEq, zac, zaf, zax, zay, zaz, zaQ, zaS, zaJ, zaR, renO, bk, back, outUpsFrom, Ints_ren])
 | exact fs_nil trivial rfl
 | fail)
  (try rw [if_pos hlen])
  have hl : D.length ≤ 600 := by omega
  have hs := hier_spec D hl hr 0 7 8 (by decide) (by decide)
  have hq := mkH_ok D 0 7 8
  generalize mkH D 0 7 8 = H at *
  obtain ⟨⟨l, n, T, h⟩, j⟩ := H
  simp only at hs hq
  have hb := hq.b
  have hct : CtR l := hq.ct
  have hnm : NmR l := hb.nm
  have hbl : l.length ≤ 64 := hq.p.v.le
  have hl1 : 1 ≤ l.length := hq.p.v.ne
  have hbT : T.length ≤ 128 := hq.p.le
  have hP : HyP l n T h := hq.p
  have hcl := tk_len T
  have hnl := nd_len l
  by_cases h0 : (T.length : Int) = 0
  · (try rw [if_pos h0])
    refine fnspec_of mixed TT_ok TT_cl ⟨fun _ => false, lendW, 0, fun _ => false, fun _ => false⟩ Try.func3 rfl (by kernel_rfl) rfl 102 rfl [.tmp 2] rfl ?_
    simp only [go_sem, zaa, zar, zas, zat, zaw, zah, ↓reduceIte, reduceCtorEq, zac, zaf, zax, zay, zaz, lendW, dice, decide_eq_true hlen, decide_eq_true h0, zan, zao, zad, zap, zau, zak, zal, zai, zaA, zaC, zag, zaj]
    repeat' (first
 | (apply cl_plain
    case hs => rfl
    case ha => (simp only [zam, zaq, prepV, prepC, idx, hpL', lookR, zaa, if_true, if_false]; rfl)
    case h => (first | exact light_spec .. | exact roll_spec .. | exact hs .. | exact sane6_spec ..))
 | (apply cl_lend
    case hr => (simp only [zam, zaq, hpL', lookR, zaa, if_true, if_false]; first | exact map1 _ | exact map2 _ _ | exact map3 _ _ _)
    case ha => (simp only [zam, zaq, prepV, prepC, idx, hpL', lookR, zaa, if_true, if_false]; rfl)
    case hs => rfl
    case hn => decide
    case h => (first | exact light_spec .. | exact roll_spec .. | exact hs .. | exact sane6_spec ..)
    case hf => (simp only [zab, zae, false_implies, implies_true, and_true, true_and, flat_cons, flat_nil, flat_ints, flat_bools, flat_app, Cs_flat, zaO, and_self, eq_self_iff_true, zad])
    case hl => (simp only [zag, zaj]; decide))
 | ((first | refine s1_id ?_ | refine swp_id ?_ | refine sops_id ?_ | refine s2_id ?_); simp only [lendW, dice, decide_eq_true hlen, decide_eq_true h0, zan, zao, zad, zap, zau, zak, zal, zai, zaA, zaC, zag, zaj, go_sem, zaa, zar, zas, zat, zaw, zah, ↓reduceIte, reduceCtorEq, zac, zaf, zax, zay, zaz, zaQ, zaS, zaJ, zaR, renO, bk, back, outUpsFrom, Ints_ren])
 | exact fs_nil trivial rfl
 | fail)
  (try rw [if_neg h0])
  have n1 := next_spec D j T.length hl hr (by omega)
  have r1 := nx_rng D j T.length (by omega)
  obtain ⟨a, ha, hal⟩ : ∃ a : Nat, nxV D j T.length = a ∧ a < T.length := ⟨(nxV D j T.length).toNat, by omega, by omega⟩
  rw [ha] at n1
  generalize nxA D j T.length = j1 at *
  have n2 := next_spec D j1 l.length hl hr (by omega)
  have r2 := nx_rng D j1 l.length (by omega)
  obtain ⟨b, hbb, hbb2⟩ : ∃ b : Nat, nxV D j1 l.length = b ∧ b < l.length := ⟨(nxV D j1 l.length).toNat, by omega, by omega⟩
  rw [hbb] at n2
  generalize nxA D j1 l.length = j2 at *
  clear r1 r2 ha hbb
  have hat := tk_td T a hal
  have hx := getD_mem T a ztk hal
  rw [show T.getD a ztk = gT T a from rfl] at hx
  obtain ⟨p0, _⟩ := nd_f l b hbb2 (.sc (.int .i64 0))
  have hpl := mplace_spec l n T h (gT T a).i (gN l b).i (by omega) (by omega) hnm hct
  have he : (plR l n T h (gT T a).i (gN l b).i).2 = 0 := by
    unfold plR
    rw [if_pos ((hyM_iff l n T h).2 hP), (tk_at hP.asc hx).1, if_pos rfl, (bs_nd hP.v _).2 ⟨_, getD_mem l b zn hbb2, rfl⟩, if_pos rfl]
  obtain ⟨e1, _, _, P2⟩ := hP.place he
  rw [e1] at hpl
  have h3 := ranc_spec l none n (gT T a).g (by omega) hnm
  have h4 := ranc_spec l none n (gN l b).i (by omega) hnm
  have hlen2 : (T.map (ptF (gT T a).i (gN l b).i)).length = T.length := zbg _
  obtain ⟨t, ht, hte⟩ : ∃ t, t < l.length ∧ (gN l t).i = (gT T a).g := by
    obtain ⟨y, hy, e⟩ := hP.g _ hx
    obtain ⟨i, hi, e2⟩ := gN_mem l y hy
    exact ⟨i, hi, by rw [e2, e]⟩
  have hmv := fun k => co_move hP hx P2 k
  have hs1 := fun k (hk : k < l.length) => sub_anc hP.v hk ht
  have hs2 := fun k (hk : k < l.length) => sub_anc hP.v hk hbb2
  rw [hte] at hs1
  have ha1 := ancM_len l n (gT T a).g
  have ha2 := ancM_len l n (gN l b).i
  generalize ancM l n (gT T a).g = A1 at *
  generalize ancM l n (gN l b).i = A2 at *
  generalize T.map (ptF (gT T a).i (gN l b).i) = T2 at *
  generalize gT T a = x at *
  obtain ⟨xi, xp, xg, xu⟩ := x
  simp only [tkc] at hat hpl h3 hmv hs1
  refine fnspec_of mixed TT_ok TT_cl ⟨fun _ => false, lendW, 0, fun _ => false, fun _ => false⟩ Try.func3 rfl (by kernel_rfl) rfl 102 rfl [.tmp 2] rfl ?_
  simp only [go_sem, zaa, zar, zas, zat, zaw, zah, ↓reduceIte, reduceCtorEq, zac, zaf, zax, zay, zaz, lendW, dice, decide_eq_true hlen, decide_eq_false h0, hat, p0, zan, zao, zad, zap, zau, zak, zal, zai, zaA, zaC, zag, zaj]
  repeat' (first
 | with_reducible refine zaG ?_ ?_
 | (unfold OKC; kernel_rfl)
 | (unfold EDG; kernel_rfl)
 | (apply cl_plain
    case hs => rfl
    case ha => (simp only [zam, zaq, prepV, prepC, idx, hpL', lookR, zaa, if_true, if_false]; rfl)
    case h => (first | exact light_spec .. | exact roll_spec .. | exact hs .. | exact n1 .. | exact n2 .. | exact hpl .. | exact h3 .. | exact h4 ..))
 | (apply cl_lend
    case hr => (simp only [zam, zaq, hpL', lookR, zaa, if_true, if_false]; first | exact map1 _ | exact map2 _ _ | exact map3 _ _ _)
    case ha => (simp only [zam, zaq, prepV, prepC, idx, hpL', lookR, zaa, if_true, if_false]; rfl)
    case hs => rfl
    case hn => decide
    case h => (first | exact light_spec .. | exact roll_spec .. | exact hs .. | exact n1 .. | exact n2 .. | exact hpl .. | exact h3 .. | exact h4 ..)
    case hf => (simp only [zab, zae, false_implies, implies_true, and_true, true_and, flat_cons, flat_nil, flat_ints, flat_bools, flat_app, Cs_flat, zaO, and_self, eq_self_iff_true, zad])
    case hl => (simp only [zag, zaj]; decide))
 | ((first | refine s1_id ?_ | refine swp_id ?_ | refine sops_id ?_ | refine s2_id ?_); simp only [lendW, dice, decide_eq_true hlen, decide_eq_false h0, hat, p0, zan, zao, zad, zap, zau, zak, zal, zai, zaA, zaC, zag, zaj, go_sem, zaa, zar, zas, zat, zaw, zah, ↓reduceIte, reduceCtorEq, zac, zaf, zax, zay, zaz, zaQ, zaS, zaJ, zaR, renO, bk, back, outUpsFrom, Ints_ren])
 | (intros; omega)
 | (intros; (try simp only [zaF, zaH, zaE, zaD, zav, zaB, decide_eq_true_eq, decide_eq_false_iff_not] at *); omega))
  refine w_loop (ι := Nat) (fun m => ⟨[(4, .one (.optr 0 0)), (7, .one (.optr 1 0)), (9, gi A1 none), (10, gi A2 none), (70, i1 l.length), (71, i1 m)], [(0, some ⟨hyc l none n T none h, 4⟩), (1, some ⟨[.gsl (Cs l) 0 l.length none, int n, .gsl (Cs T2) 0 T2.length none, int h], 4⟩)], 2⟩) (fun m => m ≤ l.length) (fun m => l.length - m) 0 ?_ (zaV _) ?_
  · (refine imp_ren _ _ _ [(0, 9, ⟨hyc l none n T none h, 4⟩), (1, 47, ⟨[.gsl (Cs l) 0 l.length none, int n, .gsl (Cs T2) 0 T2.length none, int h], 4⟩)] (by simp) (by simp) (by simp) (zaI rfl) ?_ rfl (by simp only [zab, zae, false_implies, implies_true, and_true, zaT, lookR, zaa, if_true, if_false, ↓reduceIte] <;> (repeat' apply zaG) <;> (first | rfl | trivial)) (by simp only [zab, zae, false_implies, implies_true, and_true, true_and, flat_cons, flat_nil, flat_ints, flat_bools, flat_app, zaO, and_self, eq_self_iff_true, zad]); simp only [zam, zaq, zab, zae, false_implies, implies_true, and_true, lk, slot, zaQ, zaJ, toN, zaa, if_true, if_false, ↓reduceIte, reduceCtorEq])
    all_goals ((repeat' apply zaG) <;> (first | rfl | trivial))
  clear hs n1 n2 hpl h3 h4
  rintro m hm
  simp only at hm ⊢
  rcases zbf m l.length with hlt | hge
  case inr =>
    have c : ¬ (m : Int) < (l.length : Int) := by omega
    simp only [go_sem, zaa, zar, zas, zat, zaw, zah, ↓reduceIte, reduceCtorEq, zac, zaf, zax, zay, zaz, lendW, dice, decide_eq_true hlen, decide_eq_false h0, hat, p0, decide_eq_false c, zan, zao, zad, zap, zau, zak, zal, zai, zaA, zaC, zag, zaj]
    repeat' (first
 | (apply cl_plain
    case hs => rfl
    case ha => (simp only [zam, zaq, prepV, prepC, idx, hpL', lookR, zaa, if_true, if_false]; rfl)
    case h => (first | exact sane6_spec ..))
 | ((first | refine s1_id ?_ | refine swp_id ?_ | refine sops_id ?_ | refine s2_id ?_); simp only [lendW, dice, decide_eq_true hlen, decide_eq_false h0, hat, p0, decide_eq_false c, zan, zao, zad, zap, zau, zak, zal, zai, zaA, zaC, zag, zaj, go_sem, zaa, zar, zas, zat, zaw, zah, ↓reduceIte, reduceCtorEq, zac, zaf, zax, zay, zaz, zaQ, zaS, zaJ, zaR, renO, bk, back, outUpsFrom, Ints_ren])
 | exact fs_nil trivial rfl
 | fail)
  have c : (m : Int) < (l.length : Int) := by omega
  obtain ⟨p1, _⟩ := nd_f l m hlt (.sc (.int .i64 0))
  have q1 := hs1 m hlt
  have q2 := hs2 m hlt
  have mv := hmv (gN l m).i
  have c1 := mcount_spec l n T h (gN l m).i (by omega) (by omega) hnm hct
  have c2 := mcount_spec l n T2 h (gN l m).i (by omega) (by omega) hnm hct
  have f1 := has_spec A1 none (gN l m).i (by omega)
  have f2 := has_spec A2 none (gN l m).i (by omega)
  generalize coM l n T h (gN l m).i = C1 at *
  generalize coM l n T2 h (gN l m).i = C2 at *
  by_cases e1 : (gN l m).i ∈ A1
  · (try rw [if_pos e1])
    rw [if_pos (q1.2 e1)] at mv
    rw [decide_eq_true e1] at f1
    by_cases e2 : (gN l m).i ∈ A2
    · (try rw [if_pos e2])
      rw [if_pos (q2.2 e2)] at mv
      rw [decide_eq_true e2] at f2
      simp only [go_sem, zaa, zar, zas, zat, zaw, zah, ↓reduceIte, reduceCtorEq, zac, zaf, zax, zay, zaz, lendW, dice, decide_eq_true hlen, decide_eq_false h0, hat, p0, decide_eq_true c, p1, decide_eq_true e1, decide_eq_true e2, decide_eq_true (by omega : (C2 : Int) - C1 = 0 - 1 + 1), zan, zao, zad, zap, zau, zak, zal, zai, zaA, zaC, zag, zaj]
      repeat' (first
 | with_reducible refine zaG ?_ ?_
 | (unfold OKC; kernel_rfl)
 | (unfold EDG; kernel_rfl)
 | (apply cl_plain
    case hs => rfl
    case ha => (simp only [zam, zaq, prepV, prepC, idx, hpL', lookR, zaa, if_true, if_false]; rfl)
    case h => (first | exact f1 .. | exact f2 .. | exact c1 .. | exact c2 ..))
 | ((first | refine s1_id ?_ | refine swp_id ?_ | refine sops_id ?_ | refine s2_id ?_); simp only [lendW, dice, decide_eq_true hlen, decide_eq_false h0, hat, p0, decide_eq_true c, p1, decide_eq_true e1, decide_eq_true e2, decide_eq_true (by omega : (C2 : Int) - C1 = 0 - 1 + 1), zan, zao, zad, zap, zau, zak, zal, zai, zaA, zaC, zag, zaj, go_sem, zaa, zar, zas, zat, zaw, zah, ↓reduceIte, reduceCtorEq, zac, zaf, zax, zay, zaz, zaQ, zaS, zaJ, zaR, renO, bk, back, outUpsFrom, Ints_ren])
 | (intros; omega)
 | (intros; (try simp only [zaF, zaH, zaE, zaD, zav, zaB, decide_eq_true_eq, decide_eq_false_iff_not] at *); omega))
      refine le_mk (m + 1) ?_ hlt (by show l.length - (m + 1) < l.length - m; omega)
      (refine imp_ren _ _ _ [(0, 0, ⟨hyc l none n T none h, 4⟩), (1, 1, ⟨[.gsl (Cs l) 0 l.length none, int n, .gsl (Cs T2) 0 T2.length none, int h], 4⟩)] (by simp) (by simp) (by simp) (zaI rfl) ?_ rfl (by simp only [zab, zae, false_implies, implies_true, and_true, zaT, lookR, zaa, if_true, if_false, ↓reduceIte] <;> (repeat' apply zaG) <;> (first | rfl | trivial)) (by simp only [zab, zae, false_implies, implies_true, and_true, true_and, flat_cons, flat_nil, flat_ints, flat_bools, flat_app, zaO, and_self, eq_self_iff_true, zad]); simp only [zam, zaq, zab, zae, false_implies, implies_true, and_true, lk, slot, zaQ, zaJ, toN, zaa, if_true, if_false, ↓reduceIte, reduceCtorEq])
      all_goals ((repeat' apply zaG) <;> (first | rfl | trivial | (simp only [zaK]; done) | (simp only [zaK]; rfl) | (simp only [zaK]; trivial)))
    (try rw [if_neg e2])
    rw [if_neg (fun e => e2 (q2.1 e))] at mv
    rw [decide_eq_false e2] at f2
    simp only [go_sem, zaa, zar, zas, zat, zaw, zah, ↓reduceIte, reduceCtorEq, zac, zaf, zax, zay, zaz, lendW, dice, decide_eq_true hlen, decide_eq_false h0, hat, p0, decide_eq_true c, p1, decide_eq_true e1, decide_eq_false e2, decide_eq_true (by omega : (C2 : Int) - C1 = 0 - 1), zan, zao, zad, zap, zau, zak, zal, zai, zaA, zaC, zag, zaj]
    repeat' (first
 | with_reducible refine zaG ?_ ?_
 | (unfold OKC; kernel_rfl)
 | (unfold EDG; kernel_rfl)
 | (apply cl_plain
    case hs => rfl
    case ha => (simp only [zam, zaq, prepV, prepC, idx, hpL', lookR, zaa, if_true, if_false]; rfl)
    case h => (first | exact f1 .. | exact f2 .. | exact c1 .. | exact c2 ..))
 | ((first | refine s1_id ?_ | refine swp_id ?_ | refine sops_id ?_ | refine s2_id ?_); simp only [lendW, dice, decide_eq_true hlen, decide_eq_false h0, hat, p0, decide_eq_true c, p1, decide_eq_true e1, decide_eq_false e2, decide_eq_true (by omega : (C2 : Int) - C1 = 0 - 1), zan, zao, zad, zap, zau, zak, zal, zai, zaA, zaC, zag, zaj, go_sem, zaa, zar, zas, zat, zaw, zah, ↓reduceIte, reduceCtorEq, zac, zaf, zax, zay, zaz, zaQ, zaS, zaJ, zaR, renO, bk, back, outUpsFrom, Ints_ren])
 | (intros; omega)
 | (intros; (try simp only [zaF, zaH, zaE, zaD, zav, zaB, decide_eq_true_eq, decide_eq_false_iff_not] at *); omega))
    refine le_mk (m + 1) ?_ hlt (by show l.length - (m + 1) < l.length - m; omega)
    (refine imp_ren _ _ _ [(0, 0, ⟨hyc l none n T none h, 4⟩), (1, 1, ⟨[.gsl (Cs l) 0 l.length none, int n, .gsl (Cs T2) 0 T2.length none, int h], 4⟩)] (by simp) (by simp) (by simp) (zaI rfl) ?_ rfl (by simp only [zab, zae, false_implies, implies_true, and_true, zaT, lookR, zaa, if_true, if_false, ↓reduceIte] <;> (repeat' apply zaG) <;> (first | rfl | trivial)) (by simp only [zab, zae, false_implies, implies_true, and_true, true_and, flat_cons, flat_nil, flat_ints, flat_bools, flat_app, zaO, and_self, eq_self_iff_true, zad]); simp only [zam, zaq, zab, zae, false_implies, implies_true, and_true, lk, slot, zaQ, zaJ, toN, zaa, if_true, if_false, ↓reduceIte, reduceCtorEq])
    all_goals ((repeat' apply zaG) <;> (first | rfl | trivial | (simp only [zaK]; done) | (simp only [zaK]; rfl) | (simp only [zaK]; trivial)))
  (try rw [if_neg e1])
  rw [if_neg (fun e => e1 (q1.1 e))] at mv
  rw [decide_eq_false e1] at f1
  by_cases e2 : (gN l m).i ∈ A2
  · (try rw [if_pos e2])
    rw [if_pos (q2.2 e2)] at mv
    rw [decide_eq_true e2] at f2
    simp only [go_sem, zaa, zar, zas, zat, zaw, zah, ↓reduceIte, reduceCtorEq, zac, zaf, zax, zay, zaz, lendW, dice, decide_eq_true hlen, decide_eq_false h0, hat, p0, decide_eq_true c, p1, decide_eq_false e1, decide_eq_true e2, decide_eq_true (by omega : (C2 : Int) - C1 = 0 + 1), zan, zao, zad, zap, zau, zak, zal, zai, zaA, zaC, zag, zaj]
    repeat' (first
 | with_reducible refine zaG ?_ ?_
 | (unfold OKC; kernel_rfl)
 | (unfold EDG; kernel_rfl)
 | (apply cl_plain
    case hs => rfl
    case ha => (simp only [zam, zaq, prepV, prepC, idx, hpL', lookR, zaa, if_true, if_false]; rfl)
    case h => (first | exact f1 .. | exact f2 .. | exact c1 .. | exact c2 ..))
 | ((first | refine s1_id ?_ | refine swp_id ?_ | refine sops_id ?_ | refine s2_id ?_); simp only [lendW, dice, decide_eq_true hlen, decide_eq_false h0, hat, p0, decide_eq_true c, p1, decide_eq_false e1, decide_eq_true e2, decide_eq_true (by omega : (C2 : Int) - C1 = 0 + 1), zan, zao, zad, zap, zau, zak, zal, zai, zaA, zaC, zag, zaj, go_sem, zaa, zar, zas, zat, zaw, zah, ↓reduceIte, reduceCtorEq, zac, zaf, zax, zay, zaz, zaQ, zaS, zaJ, zaR, renO, bk, back, outUpsFrom, Ints_ren])
 | (intros; omega)
 | (intros; (try simp only [zaF, zaH, zaE, zaD, zav, zaB, decide_eq_true_eq, decide_eq_false_iff_not] at *); omega))
    refine le_mk (m + 1) ?_ hlt (by show l.length - (m + 1) < l.length - m; omega)
    (refine imp_ren _ _ _ [(0, 0, ⟨hyc l none n T none h, 4⟩), (1, 1, ⟨[.gsl (Cs l) 0 l.length none, int n, .gsl (Cs T2) 0 T2.length none, int h], 4⟩)] (by simp) (by simp) (by simp) (zaI rfl) ?_ rfl (by simp only [zab, zae, false_implies, implies_true, and_true, zaT, lookR, zaa, if_true, if_false, ↓reduceIte] <;> (repeat' apply zaG) <;> (first | rfl | trivial)) (by simp only [zab, zae, false_implies, implies_true, and_true, true_and, flat_cons, flat_nil, flat_ints, flat_bools, flat_app, zaO, and_self, eq_self_iff_true, zad]); simp only [zam, zaq, zab, zae, false_implies, implies_true, and_true, lk, slot, zaQ, zaJ, toN, zaa, if_true, if_false, ↓reduceIte, reduceCtorEq])
    all_goals ((repeat' apply zaG) <;> (first | rfl | trivial | (simp only [zaK]; done) | (simp only [zaK]; rfl) | (simp only [zaK]; trivial)))
  (try rw [if_neg e2])
  rw [if_neg (fun e => e2 (q2.1 e))] at mv
  rw [decide_eq_false e2] at f2
  simp only [go_sem, zaa, zar, zas, zat, zaw, zah, ↓reduceIte, reduceCtorEq, zac, zaf, zax, zay, zaz, lendW, dice, decide_eq_true hlen, decide_eq_false h0, hat, p0, decide_eq_true c, p1, decide_eq_false e1, decide_eq_false e2, decide_eq_true (by omega : (C2 : Int) - C1 = 0), zan, zao, zad, zap, zau, zak, zal, zai, zaA, zaC, zag, zaj]
  repeat' (first
 | with_reducible refine zaG ?_ ?_
 | (unfold OKC; kernel_rfl)
 | (unfold EDG; kernel_rfl)
 | (apply cl_plain
    case hs => rfl
    case ha => (simp only [zam, zaq, prepV, prepC, idx, hpL', lookR, zaa, if_true, if_false]; rfl)
    case h => (first | exact f1 .. | exact f2 .. | exact c1 .. | exact c2 ..))
 | ((first | refine s1_id ?_ | refine swp_id ?_ | refine sops_id ?_ | refine s2_id ?_); simp only [lendW, dice, decide_eq_true hlen, decide_eq_false h0, hat, p0, decide_eq_true c, p1, decide_eq_false e1, decide_eq_false e2, decide_eq_true (by omega : (C2 : Int) - C1 = 0), zan, zao, zad, zap, zau, zak, zal, zai, zaA, zaC, zag, zaj, go_sem, zaa, zar, zas, zat, zaw, zah, ↓reduceIte, reduceCtorEq, zac, zaf, zax, zay, zaz, zaQ, zaS, zaJ, zaR, renO, bk, back, outUpsFrom, Ints_ren])
 | (intros; omega)
 | (intros; (try simp only [zaF, zaH, zaE, zaD, zav, zaB, decide_eq_true_eq, decide_eq_false_iff_not] at *); omega))
  refine le_mk (m + 1) ?_ hlt (by show l.length - (m + 1) < l.length - m; omega)
  (refine imp_ren _ _ _ [(0, 0, ⟨hyc l none n T none h, 4⟩), (1, 1, ⟨[.gsl (Cs l) 0 l.length none, int n, .gsl (Cs T2) 0 T2.length none, int h], 4⟩)] (by simp) (by simp) (by simp) (zaI rfl) ?_ rfl (by simp only [zab, zae, false_implies, implies_true, and_true, zaT, lookR, zaa, if_true, if_false, ↓reduceIte] <;> (repeat' apply zaG) <;> (first | rfl | trivial)) (by simp only [zab, zae, false_implies, implies_true, and_true, true_and, flat_cons, flat_nil, flat_ints, flat_bools, flat_app, zaO, and_self, eq_self_iff_true, zad]); simp only [zam, zaq, zab, zae, false_implies, implies_true, and_true, lk, slot, zaQ, zaJ, toN, zaa, if_true, if_false, ↓reduceIte, reduceCtorEq])
  all_goals ((repeat' apply zaG) <;> (first | rfl | trivial | (simp only [zaK]; done) | (simp only [zaK]; rfl) | (simp only [zaK]; trivial)))
theorem moves6_main (g0 : List Cell) (s0 : GTy Try.prog 12 22 g0) : FnSpec Try.prog 3 [svOf Try.prog 22 g0] [] (b1 true) [] := by
  obtain ⟨l0, rfl, hl0, hr0⟩ := gty_ints (n := 10) Try.underlying22 Try.underlying3 s0
  simp only [svOf, Try.underlying22, List.headD_cons]
  exact moves6_spec l0 hr0
end Go.Proofs.Ytnahpejlhfeleab
