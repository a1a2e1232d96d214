/- Contracts of functions, told of values, on the way to MemberLeaders (part 8). -/
import Derived.Test.YtnahpejlhfeleabMemberLeadersM3
import Derived.Test.YtnahpejlhfeleabMemberLeadersM7
import Derived.Test.YtnahpejlhfeleabMemberLeadersM4
import Derived.Test.YtnahpejlhfeleabMemberLeadersM5
import Derived.Test.YtnahpejlhfeleabMemberLeadersM6
-- short names of the library's lemmas
open Nat renaming reduceEqDiff → zaa, reduceLeDiff → zan, reduceAdd → zat, reduceSub → zau, reduceMul → zav, reduceLT → zax, le_of_ble_eq_true → zaF
open List renaming forall_mem_cons → zab, append_nil → zac, not_mem_nil → zad, reduceReplicate → zae, length_cons → zaf, take_succ_cons → zag, length_nil → zah, set_cons_zero → zaj, set_cons_succ → zak, flatten_cons → zal, map_cons → zam, flatten_nil → zao, cons_append → zap, map_nil → zaq, nil_append → zar, take_zero → zas, take_nil → zaw, countP_eq_length_filter → zaP
open Int renaming cast_ofNat_Int → zai, reduceEq → zay, reduceLT → zaz, reduceLE → zaA, natCast_add → zaM
open Bool renaming and_eq_false_iff → zaB, or_eq_false_iff → zaC, not_eq_false' → zaD, not_eq_true' → zaE, and_eq_true → zaG, or_eq_true → zaH
open And renaming intro → zaI
open Go.Proofs.Ytnahpejlhfeleab.Sh.Cell renaming ren → zaJ, refs → zaK
open Go.Proofs.Ytnahpejlhfeleab.Sh.SV renaming ren → zaL, renL → zaN
open Go.Proofs.Ytnahpejlhfeleab.Sh.Row renaming ren → zaO
open Go.Proofs.Ytnahpejlhfeleab.Sh.St renaming hpF → zaQ
-- NEWGO
-- PRUNE: cl_lendx cl_use
-- ISG: Cs_isG
-- FLAT: Cs_flat
namespace Go.Proofs.Ytnahpejlhfeleab
set_option linter.unusedVariables false
set_option linter.unusedSimpArgs false
open Go.Proofs.Ytnahpejlhfeleab.Sh
set_option maxRecDepth 20000
def sp1 (L : List Int) (s : Hy × Nat) (g : Int) : Hy × Nat :=
  (if (spR s.1.1 s.1.2.1 s.1.2.2.1 s.1.2.2.2 g (nxV L s.2 3)).2.2 = 0 then (spR s.1.1 s.1.2.1 s.1.2.2.1 s.1.2.2.2 g (nxV L s.2 3)).1 else s.1, nxA L s.2 3)
def sp2 (L : List Int) (s : Hy × Nat) : Hy × Nat :=
  if nxV L s.2 3 = 2 then (if (clR s.1.1 s.1.2.1 s.1.2.2.1 s.1.2.2.2 (dtV L s.1.2.2.1 (nxA L s.2 3))).2.2 = 0 then (clR s.1.1 s.1.2.1 s.1.2.2.1 s.1.2.2.2 (dtV L s.1.2.2.1 (nxA L s.2 3))).1 else s.1, dtA L s.1.2.2.1 (nxA L s.2 3)) else (s.1, nxA L s.2 3)
def sp3 (L : List Int) (s : Hy × Nat) : Hy × Nat :=
  if nxV L s.2 4 = 3 then (if (atM s.1.1 s.1.2.1 s.1.2.2.1 s.1.2.2.2 (dtV L s.1.2.2.1 (nxA L s.2 4)) (dgV L s.1.1 (dtA L s.1.2.2.1 (nxA L s.2 4)))).2 = 0 then (atM s.1.1 s.1.2.1 s.1.2.2.1 s.1.2.2.2 (dtV L s.1.2.2.1 (nxA L s.2 4)) (dgV L s.1.1 (dtA L s.1.2.2.1 (nxA L s.2 4)))).1 else s.1, dgA L s.1.1 (dtA L s.1.2.2.1 (nxA L s.2 4))) else (s.1, nxA L s.2 4)
def sp4 (L : List Int) (s : Hy × Nat) : Hy × Nat :=
  if nxV L s.2 8 = 7 then (if (exR s.1.1 s.1.2.1 s.1.2.2.1 s.1.2.2.2 (dtV L s.1.2.2.1 (nxA L s.2 8))).2 = 0 then (exR s.1.1 s.1.2.1 s.1.2.2.1 s.1.2.2.2 (dtV L s.1.2.2.1 (nxA L s.2 8))).1 else s.1, dtA L s.1.2.2.1 (nxA L s.2 8)) else (s.1, nxA L s.2 8)
def spM (L : List Int) (s : Hy × Nat) : Hy × Nat :=
  if amM s.1.1 s.1.2.1 s.1.2.2.1 s.1.2.2.2 (dgV L s.1.1 s.2) = 0 then sp4 L (sp3 L (sp2 L (sp1 L (s.1, dgA L s.1.1 s.2) (dgV L s.1.1 s.2)))) else (s.1, dgA L s.1.1 s.2)
theorem atM_ok {l : List Nd} {n : Int} {T : List Tk} {h t g : Int} (he : (atM l n T h t g).2 = 0) : atM l n T h t g = plR l n T h t g ∧ amM l n T h g = 0 ∧ (dmM l n g).1 = (dmM l n (fiR l n T h t).1.g).1 ∧ (fiR l n T h t).2 = true ∧ ftM l n T h = true := by
  unfold atM at *
  by_cases a : ftM l n T h = true
  · rw [if_pos a] at he ⊢
    by_cases b : (!(fiR l n T h t).2 || !hasM l n g) = true
    · rw [if_pos b] at he; cases he
    rw [if_neg b] at he ⊢
    by_cases c : amM l n T h g = 0
    · rw [if_pos c] at he ⊢
      by_cases d : (dmM l n g).1 = (dmM l n (fiR l n T h t).1.g).1
      · rw [if_pos d]
        simp only [zaH, zaE, not_or, Bool.not_eq_false] at b
        exact ⟨rfl, c, d, b.1, a⟩
      · rw [if_neg d] at he; cases he
    · rw [if_neg c] at he; exact absurd he c
  · rw [if_neg a] at he; cases he
theorem sp1_ok (L : List Int) (s : Hy × Nat) (g : Int) (hs : HI s.1) : HI (sp1 L s g).1 := by
  unfold sp1
  by_cases e : (spR s.1.1 s.1.2.1 s.1.2.2.1 s.1.2.2.2 g (nxV L s.2 3)).2.2 = 0
  · obtain ⟨e1, e2⟩ := hs.p.spawn e
    rw [if_pos e, e1]
    exact ⟨e2, hs.nm⟩
  · rw [if_neg e]; exact hs
theorem sp2_ok (L : List Int) (s : Hy × Nat) (hs : HI s.1) : HI (sp2 L s).1 := by
  unfold sp2
  split
  · by_cases e : (clR s.1.1 s.1.2.1 s.1.2.2.1 s.1.2.2.2 (dtV L s.1.2.2.1 (nxA L s.2 3))).2.2 = 0
    · obtain ⟨x, _, _, e1, e2⟩ := hs.p.clone e
      simp only
      rw [if_pos e, e1]
      exact ⟨e2, hs.nm⟩
    · simp only
      rw [if_neg e]; exact hs
  · exact hs
theorem sp3_ok (L : List Int) (s : Hy × Nat) (hs : HI s.1) : HI (sp3 L s).1 := by
  unfold sp3
  split
  · by_cases e : (atM s.1.1 s.1.2.1 s.1.2.2.1 s.1.2.2.2 (dtV L s.1.2.2.1 (nxA L s.2 4)) (dgV L s.1.1 (dtA L s.1.2.2.1 (nxA L s.2 4)))).2 = 0
    · simp only
      rw [if_pos e]
      obtain ⟨e0, _⟩ := atM_ok e
      rw [e0] at e ⊢
      obtain ⟨e1, _, _, e2⟩ := hs.p.place e
      rw [e1]
      exact ⟨e2, hs.nm⟩
    · simp only
      rw [if_neg e]; exact hs
  · exact hs
theorem sp4_ok (L : List Int) (s : Hy × Nat) (hs : HI s.1) : HI (sp4 L s).1 := by
  unfold sp4
  split
  · by_cases e : (exR s.1.1 s.1.2.1 s.1.2.2.1 s.1.2.2.2 (dtV L s.1.2.2.1 (nxA L s.2 8))).2 = 0
    · simp only
      rw [if_pos e]
      obtain ⟨e1, _, e2⟩ := hs.p.exit e
      rw [e1]
      exact ⟨e2, hs.nm⟩
    · simp only
      rw [if_neg e]; exact hs
  · exact hs
theorem spM_ok (L : List Int) (s : Hy × Nat) (hs : HI s.1) : HI (spM L s).1 := by
  unfold spM
  split
  · exact sp4_ok L _ (sp3_ok L _ (sp2_ok L _ (sp1_ok L _ _ hs)))
  · exact hs
def hL1 (L : List Int) : Nat → Hy × Nat → Hy × Nat
  | 0, s => s
  | m + 1, s => hL1 L m (stM L s)
def hL2 (L : List Int) : Nat → Hy × Nat → Hy × Nat
  | 0, s => s
  | m + 1, s => hL2 L m (spM L s)
theorem hL1_ok (L : List Int) : ∀ (m : Nat) (s : Hy × Nat), HI s.1 → HI (hL1 L m s).1
  | 0, _, h => h
  | m + 1, s, h => hL1_ok L m _ (stM_ok L s h)
theorem hL2_ok (L : List Int) : ∀ (m : Nat) (s : Hy × Nat), HI s.1 → HI (hL2 L m s).1
  | 0, _, h => h
  | m + 1, s, h => hL2_ok L m _ (spM_ok L s h)
def mkH1 (L : List Int) (j G : Nat) : Hy × Nat := hL1 L (nxV L (mkT L j G).2 ((G : Int) + 3)).toNat (((mkT L j G).1.1, (mkT L j G).1.2, [], 1), nxA L (mkT L j G).2 ((G : Int) + 3))
def mkH (L : List Int) (j G K : Nat) : Hy × Nat := hL2 L (nxV L (mkH1 L j G).2 ((K : Int) + 1)).toNat ((mkH1 L j G).1, nxA L (mkH1 L j G).2 ((K : Int) + 1))
theorem HI_tree {l : List Nd} {n : Int} {B : Nat} (h : TI l n B) : HI (l, n, [], 1) where
  p := ⟨h.v.vt, Nat.zero_le _, List.Pairwise.nil, (fun x hx => by cases hx), (fun x hx => by cases hx), Int.le_refl 1, (by show (1 : Int) ≤ 2147483648; decide), (fun x hx => by cases hx), (fun x hx => by cases hx), (fun x hx => by cases hx)⟩
  nm := h.nm
theorem mkH_ok (L : List Int) (j G K : Nat) : HI (mkH L j G K).1 := hL2_ok L _ _ (hL1_ok L _ _ (HI_tree (mkT_ok L j G)))
def lendY : FuncId → List Nat := fun f => if f = 10 then [0] else if f = 26 then [0] else if f = 29 then [0] else if f = 17 then [0] else if f = 25 then [0] else if f = 24 then [0] else []
theorem rnew6z_spec : FnSpec Try.prog 23 [] [] (hyV kR none 2 [] none 1) [] := rnew6_spec
set_option maxHeartbeats 16000000 in
theorem hier_spec (L : List Int) (hl : L.length ≤ 600) (hr : ∀ x ∈ L, -9223372036854775808 ≤ x ∧ x ≤ 9223372036854775807) (j G K : Nat) (hG : G ≤ 40) (hK : K ≤ 100) :
    FnSpec Try.prog 9 [dp, i1 G, i1 K] [dice L j] (hyQ (mkH L j G K).1) [some (dice L (mkH L j G K).2)] := by
  have h1 := tree_spec L hl hr j G (by omega)
  have hT := mkT_ok L j G
  have n1 := next_spec L (mkT L j G).2 ((G : Int) + 3) hl hr (by omega)
  have r1 := nx_rng L (mkT L j G).2 ((G : Int) + 3) (by omega)
  obtain ⟨H, hH⟩ : ∃ H, mkH L j G K = H := ⟨_, rfl⟩
  obtain ⟨H1, hH1⟩ : ∃ H1, mkH1 L j G = H1 := ⟨_, rfl⟩
  rw [hH]
  unfold mkH at hH
  rw [hH1] at hH
  unfold mkH1 at hH1
  generalize mkT L j G = t at *
  obtain ⟨⟨tl, tn⟩, j1⟩ := t
  simp only at h1 n1 r1 hT hH1
  obtain ⟨c1, hc1, hc2⟩ : ∃ c : Nat, nxV L j1 ((G : Int) + 3) = c ∧ c ≤ G + 2 := ⟨(nxV L j1 ((G : Int) + 3)).toNat, by omega, by omega⟩
  rw [hc1, Int.toNat_natCast] at hH1
  rw [hc1] at n1
  generalize nxA L j1 ((G : Int) + 3) = j2 at *
  have hh0 := HI_tree hT
  refine fnspec_of mixed TT_ok TT_cl ⟨fun i => if i = 63 then true else if i = 66 then true else if i = 80 then true else if i = 97 then true else false, lendY, 1, fun _ => false, fun _ => false⟩ Try.func9 rfl (by kernel_rfl) rfl 110 rfl [.cell 6 32] rfl ?_
  simp only [go_sem, zaa, zat, zau, zav, zax, zan, ↓reduceIte, reduceCtorEq, zae, zai, zay, zaz, zaA, lendY, dice, zal, zao, zac, zap, zar, zaj, zak, zag, zas, zaw, zaf, zah]
  repeat' (first
 | with_reducible refine zaI ?_ ?_
 | (apply cl_plain
    case hs => rfl
    case ha => (simp only [zam, zaq, prepV, prepC, idx, hpL', lookR, zaa, if_true, if_false]; rfl)
    case h => (first | exact rnew6z_spec .. | exact h1 .. | exact n1 ..))
 | (apply cl_lend
    case hr => (simp only [zam, zaq, hpL', lookR, zaa, if_true, if_false]; first | exact map1 _ | exact map2 _ _ | exact map3 _ _ _)
    case ha => (simp only [zam, zaq, prepV, prepC, idx, hpL', lookR, zaa, if_true, if_false]; rfl)
    case hs => rfl
    case hn => decide
    case h => (first | exact rnew6z_spec .. | exact h1 .. | exact n1 ..)
    case hf => (simp only [zab, zad, false_implies, implies_true, and_true, true_and, flat_cons, flat_nil, flat_ints, flat_bools, flat_app, Cs_flat, zaK, and_self, eq_self_iff_true, zac])
    case hl => (simp only [zaf, zah]; decide))
 | ((first | refine s1_id ?_ | refine swp_id ?_ | refine sops_id ?_ | refine s2_id ?_); simp only [lendY, dice, zal, zao, zac, zap, zar, zaj, zak, zag, zas, zaw, zaf, zah, go_sem, zaa, zat, zau, zav, zax, zan, ↓reduceIte, reduceCtorEq, zae, zai, zay, zaz, zaA, zaL, zaN, zaJ, zaO, renO, bk, back, outUpsFrom, Ints_ren])
 | (intros; omega)
 | (intros; (try simp only [zaG, zaH, zaE, zaD, zaB, zaC, decide_eq_true_eq, decide_eq_false_iff_not] at *); omega))
  refine w_loop (ι := Nat × Hy × Nat) (fun s => ⟨[(0, dp), (2, i1 K), (6, .one (.optr 1 0)), (7, .one (.optr 2 0)), (8, i1 s.1)], [(0, some (dice L s.2.2)), (1, some ⟨[.sc (.slice none 0 0), int 0, .sc (.slice none 0 0), int 0], 4⟩), (2, some ⟨hyc s.2.1.1 none s.2.1.2.1 s.2.1.2.2.1 none s.2.1.2.2.2, 4⟩)], 3⟩) (fun s => hL1 L s.1 s.2 = H1 ∧ HI s.2.1 ∧ s.1 ≤ G + 2) (fun s => s.1) (c1, ((tl, tn, [], 1), j2)) ?_ ⟨hH1, hh0, hc2⟩ ?_
  · (refine imp_ren _ _ _ [(0, 0, dice L j2), (1, 1, ⟨[.sc (.slice none 0 0), int 0, .sc (.slice none 0 0), int 0], 4⟩), (2, 3, ⟨[.gsl (Cs tl) 0 tl.length none, int tn, .gsl (Cs []) 0 0 none, int 1], 4⟩)] (by simp) (by simp) (by simp) (zaF rfl) ?_ rfl (by simp only [zab, zad, false_implies, implies_true, and_true, zaQ, lookR, zaa, if_true, if_false, ↓reduceIte, dice] <;> (repeat' apply zaI) <;> (first | rfl | trivial)) (by simp only [zab, zad, false_implies, implies_true, and_true, true_and, flat_cons, flat_nil, flat_ints, flat_bools, flat_app, zaK, and_self, eq_self_iff_true, zac, dice]); simp only [zam, zaq, zab, zad, false_implies, implies_true, and_true, lk, slot, zaL, zaJ, toN, zaa, if_true, if_false, ↓reduceIte, reduceCtorEq])
    all_goals ((repeat' apply zaI) <;> (first | rfl | trivial))
  clear n1 r1 hT h1 hH1 hc1 hh0
  rintro ⟨m, ⟨⟨l, n, T, h⟩, j⟩⟩ ⟨hI, hq, hm⟩
  simp only at hI hq hm ⊢
  cases m with
  | succ m =>
    have c : (0 : Int) < ((m + 1 : Nat) : Int) := by omega
    have e2 : ((m + 1 : Nat) : Int) - 1 = (m : Int) := by omega
    have h2 := hstep_spec L hl hr j (l, n, T, h) hq
    have hq2 := stM_ok L ((l, n, T, h), j) hq
    rw [hL1] at hI
    generalize stM L ((l, n, T, h), j) = S at *
    obtain ⟨⟨l', n', T', h'⟩, j'⟩ := S
    simp only at h2 hq2
    simp only [go_sem, zaa, zat, zau, zav, zax, zan, ↓reduceIte, reduceCtorEq, zae, zai, zay, zaz, zaA, decide_eq_true c, e2, lendY, dice, zal, zao, zac, zap, zar, zaj, zak, zag, zas, zaw, zaf, zah]
    repeat' (first
 | with_reducible refine zaI ?_ ?_
 | (apply cl_lend
    case hr => (simp only [zam, zaq, hpL', lookR, zaa, if_true, if_false]; first | exact map1 _ | exact map2 _ _ | exact map3 _ _ _)
    case ha => (simp only [zam, zaq, prepV, prepC, idx, hpL', lookR, zaa, if_true, if_false]; rfl)
    case hs => rfl
    case hn => decide
    case h => (first | exact h2 ..)
    case hf => (simp only [zab, zad, false_implies, implies_true, and_true, true_and, flat_cons, flat_nil, flat_ints, flat_bools, flat_app, Cs_flat, zaK, and_self, eq_self_iff_true, zac])
    case hl => (simp only [zaf, zah]; decide))
 | ((first | refine s1_id ?_ | refine swp_id ?_ | refine sops_id ?_ | refine s2_id ?_); simp only [decide_eq_true c, e2, lendY, dice, zal, zao, zac, zap, zar, zaj, zak, zag, zas, zaw, zaf, zah, go_sem, zaa, zat, zau, zav, zax, zan, ↓reduceIte, reduceCtorEq, zae, zai, zay, zaz, zaA, zaL, zaN, zaJ, zaO, renO, bk, back, outUpsFrom, Ints_ren])
 | (intros; omega)
 | (intros; (try simp only [zaG, zaH, zaE, zaD, zaB, zaC, decide_eq_true_eq, decide_eq_false_iff_not] at *); omega))
    refine le_mk (m, ((l', n', T', h'), j')) ?_ ⟨hI, hq2, by omega⟩ (by show m < m + 1; omega)
    (refine imp_ren _ _ _ [(0, 0, dice L j'), (1, 1, ⟨[.sc (.slice none 0 0), int 0, .sc (.slice none 0 0), int 0], 4⟩), (2, 2, ⟨[.gsl (Cs l') 0 l'.length none, int n', .gsl (Cs T') 0 T'.length none, int h'], 4⟩)] (by simp) (by simp) (by simp) (zaF rfl) ?_ rfl (by simp only [zab, zad, false_implies, implies_true, and_true, zaQ, lookR, zaa, if_true, if_false, ↓reduceIte, dice] <;> (repeat' apply zaI) <;> (first | rfl | trivial)) (by simp only [zab, zad, false_implies, implies_true, and_true, true_and, flat_cons, flat_nil, flat_ints, flat_bools, flat_app, zaK, and_self, eq_self_iff_true, zac, dice]); simp only [zam, zaq, zab, zad, false_implies, implies_true, and_true, lk, slot, zaL, zaJ, toN, zaa, if_true, if_false, ↓reduceIte, reduceCtorEq])
    all_goals ((repeat' apply zaI) <;> (first | rfl | trivial))
  | zero =>
  rw [hL1] at hI
  subst hI
  simp only at hH
  have n1 := next_spec L j ((K : Int) + 1) hl hr (by omega)
  have r1 := nx_rng L j ((K : Int) + 1) (by omega)
  obtain ⟨c2, hc3, hc4⟩ : ∃ c : Nat, nxV L j ((K : Int) + 1) = c ∧ c ≤ K := ⟨(nxV L j ((K : Int) + 1)).toNat, by omega, by omega⟩
  rw [hc3, Int.toNat_natCast] at hH
  rw [hc3] at n1
  generalize nxA L j ((K : Int) + 1) = j3 at *
  simp only [go_sem, zaa, zat, zau, zav, zax, zan, ↓reduceIte, reduceCtorEq, zae, zai, zay, zaz, zaA, (show decide ((0 : Int) < ((0 : Nat) : Int)) = false from rfl), lendY, dice, zal, zao, zac, zap, zar, zaj, zak, zag, zas, zaw, zaf, zah]
  repeat' (first
 | with_reducible refine zaI ?_ ?_
 | (apply cl_lend
    case hr => (simp only [zam, zaq, hpL', lookR, zaa, if_true, if_false]; first | exact map1 _ | exact map2 _ _ | exact map3 _ _ _)
    case ha => (simp only [zam, zaq, prepV, prepC, idx, hpL', lookR, zaa, if_true, if_false]; rfl)
    case hs => rfl
    case hn => decide
    case h => (first | exact n1 ..)
    case hf => (simp only [zab, zad, false_implies, implies_true, and_true, true_and, flat_cons, flat_nil, flat_ints, flat_bools, flat_app, Cs_flat, zaK, and_self, eq_self_iff_true, zac])
    case hl => (simp only [zaf, zah]; decide))
 | ((first | refine s1_id ?_ | refine swp_id ?_ | refine sops_id ?_ | refine s2_id ?_); simp only [(show decide ((0 : Int) < ((0 : Nat) : Int)) = false from rfl), lendY, dice, zal, zao, zac, zap, zar, zaj, zak, zag, zas, zaw, zaf, zah, go_sem, zaa, zat, zau, zav, zax, zan, ↓reduceIte, reduceCtorEq, zae, zai, zay, zaz, zaA, zaL, zaN, zaJ, zaO, renO, bk, back, outUpsFrom, Ints_ren])
 | (intros; omega)
 | (intros; (try simp only [zaG, zaH, zaE, zaD, zaB, zaC, decide_eq_true_eq, decide_eq_false_iff_not] at *); omega))
  refine w_loop (ι := Nat × Hy × Nat) (fun s => ⟨[(0, dp), (6, .one (.optr 1 0)), (7, .one (.optr 2 0)), (9, i1 s.1)], [(0, some (dice L s.2.2)), (1, some ⟨[.sc (.slice none 0 0), int 0, .sc (.slice none 0 0), int 0], 4⟩), (2, some ⟨hyc s.2.1.1 none s.2.1.2.1 s.2.1.2.2.1 none s.2.1.2.2.2, 4⟩)], 3⟩) (fun s => hL2 L s.1 s.2 = H ∧ HI s.2.1 ∧ s.1 ≤ K) (fun s => s.1) (c2, ((l, n, T, h), j3)) ?_ ⟨hH, hq, hc4⟩ ?_
  · (refine imp_ren _ _ _ [(0, 0, dice L j3), (1, 1, ⟨[.sc (.slice none 0 0), int 0, .sc (.slice none 0 0), int 0], 4⟩), (2, 2, ⟨[.gsl (Cs l) 0 l.length none, int n, .gsl (Cs T) 0 T.length none, int h], 4⟩)] (by simp) (by simp) (by simp) (zaF rfl) ?_ rfl (by simp only [zab, zad, false_implies, implies_true, and_true, zaQ, lookR, zaa, if_true, if_false, ↓reduceIte, dice] <;> (repeat' apply zaI) <;> (first | rfl | trivial)) (by simp only [zab, zad, false_implies, implies_true, and_true, true_and, flat_cons, flat_nil, flat_ints, flat_bools, flat_app, zaK, and_self, eq_self_iff_true, zac, dice]); simp only [zam, zaq, zab, zad, false_implies, implies_true, and_true, lk, slot, zaL, zaJ, toN, zaa, if_true, if_false, ↓reduceIte, reduceCtorEq])
    all_goals ((repeat' apply zaI) <;> (first | rfl | trivial))
  clear n1 r1 hH hq hm hc3
  rintro ⟨m, ⟨⟨l, n, T, h⟩, j⟩⟩ ⟨hI, hq, hmK⟩
  simp only at hI hq hmK ⊢
  cases m with
  | zero =>
    rw [hL2] at hI
    subst hI
    simp only [go_sem, zaa, zat, zau, zav, zax, zan, ↓reduceIte, reduceCtorEq, zae, zai, zay, zaz, zaA, (show decide ((0 : Int) < ((0 : Nat) : Int)) = false from rfl), lendY, dice, zal, zao, zac, zap, zar, zaj, zak, zag, zas, zaw, zaf, zah]
    repeat' (first
 | (intros; (try simp only [zaG, zaH, zaE, zaD, zaB, zaC, decide_eq_true_eq, decide_eq_false_iff_not] at *); omega))
    (refine fs_flat [(0, dice L j)] (by simp) (by simp only [zam, zaq]; decide) (by simp only [go_sem, resV, resS, zaL, zaN, zaJ, St.tmF, zaQ, idx, renO, zaO, evS, slot, lookR, zaa, ↓reduceIte, reduceCtorEq, if_true, if_false, Option.getD_some, Option.getD_none, zam, zaq, sLoad, readAt, readNeed, Ints_ren, Ints_length, Ints_getD, and_true, true_and, List.getD_cons_zero, List.getD_cons_succ]; try decide) ?_ (by simp only [zab, zad, false_implies, implies_true, and_true, zaQ, lookR, zaa, if_true, if_false, ↓reduceIte, dice] <;> (repeat' apply zaI) <;> (first | rfl | trivial)) (by simp only [zab, zad, false_implies, implies_true, and_true, true_and, flat_cons, flat_nil, flat_ints, flat_bools, flat_app, zaK, and_self, eq_self_iff_true, zac, dice]) ?_ <;> (try simp only [go_sem, resV, resS, zaL, zaN, zaJ, St.tmF, zaQ, idx, renO, zaO, evS, slot, lookR, zaa, ↓reduceIte, reduceCtorEq, if_true, if_false, Option.getD_some, Option.getD_none, zam, zaq, sLoad, readAt, readNeed, Ints_ren, Ints_length, Ints_getD, and_true, true_and, List.getD_cons_zero, List.getD_cons_succ]) <;> (try rfl))
  | succ m =>
  have c : (0 : Int) < ((m + 1 : Nat) : Int) := by omega
  have e2 : ((m + 1 : Nat) : Int) - 1 = (m : Int) := by omega
  have h1 := dgroup_spec L hl hr j l n hq.len.1 hq.len.2
  have h2 := r8admits_spec l n T h (dgV L l j) hq.b
  rw [hL2] at hI
  have hq5 := spM_ok L ((l, n, T, h), j) hq
  unfold spM at hI hq5
  simp only at hI hq5
  generalize dgV L l j = g at *
  generalize dgA L l j = ja at *
  by_cases am : amM l n T h g = 0
  case neg =>
    rw [if_neg am] at hI hq5
    simp only [go_sem, zaa, zat, zau, zav, zax, zan, ↓reduceIte, reduceCtorEq, zae, zai, zay, zaz, zaA, decide_eq_true c, e2, decide_eq_false am, lendY, dice, zal, zao, zac, zap, zar, zaj, zak, zag, zas, zaw, zaf, zah]
    repeat' (first
 | with_reducible refine zaI ?_ ?_
 | (apply cl_plain
    case hs => rfl
    case ha => (simp only [zam, zaq, prepV, prepC, idx, hpL', lookR, zaa, if_true, if_false]; rfl)
    case h => (first | exact h1 .. | exact h2 ..))
 | (apply cl_lend
    case hr => (simp only [zam, zaq, hpL', lookR, zaa, if_true, if_false]; first | exact map1 _ | exact map2 _ _ | exact map3 _ _ _)
    case ha => (simp only [zam, zaq, prepV, prepC, idx, hpL', lookR, zaa, if_true, if_false]; rfl)
    case hs => rfl
    case hn => decide
    case h => (first | exact h1 .. | exact h2 ..)
    case hf => (simp only [zab, zad, false_implies, implies_true, and_true, true_and, flat_cons, flat_nil, flat_ints, flat_bools, flat_app, Cs_flat, zaK, and_self, eq_self_iff_true, zac])
    case hl => (simp only [zaf, zah]; decide))
 | ((first | refine s1_id ?_ | refine swp_id ?_ | refine sops_id ?_ | refine s2_id ?_); simp only [decide_eq_true c, e2, decide_eq_false am, lendY, dice, zal, zao, zac, zap, zar, zaj, zak, zag, zas, zaw, zaf, zah, go_sem, zaa, zat, zau, zav, zax, zan, ↓reduceIte, reduceCtorEq, zae, zai, zay, zaz, zaA, zaL, zaN, zaJ, zaO, renO, bk, back, outUpsFrom, Ints_ren])
 | (intros; omega)
 | (intros; (try simp only [zaG, zaH, zaE, zaD, zaB, zaC, decide_eq_true_eq, decide_eq_false_iff_not] at *); omega))
    refine le_mk (m, ((l, n, T, h), ja)) ?_ ⟨hI, hq, by omega⟩ (by show m < m + 1; omega)
    (refine imp_ren _ _ _ [(0, 0, dice L ja), (1, 1, ⟨[.sc (.slice none 0 0), int 0, .sc (.slice none 0 0), int 0], 4⟩), (2, 2, ⟨[.gsl (Cs l) 0 l.length none, int n, .gsl (Cs T) 0 T.length none, int h], 4⟩)] (by simp) (by simp) (by simp) (zaF rfl) ?_ rfl (by simp only [zab, zad, false_implies, implies_true, and_true, zaQ, lookR, zaa, if_true, if_false, ↓reduceIte, dice] <;> (repeat' apply zaI) <;> (first | rfl | trivial)) (by simp only [zab, zad, false_implies, implies_true, and_true, true_and, flat_cons, flat_nil, flat_ints, flat_bools, flat_app, zaK, and_self, eq_self_iff_true, zac, dice]); simp only [zam, zaq, zab, zad, false_implies, implies_true, and_true, lk, slot, zaL, zaJ, toN, zaa, if_true, if_false, ↓reduceIte, reduceCtorEq])
    all_goals ((repeat' apply zaI) <;> (first | rfl | trivial))
  rw [if_pos am] at hI hq5
  have n3 := next_spec L ja 3 hl hr (by decide)
  have a3 := rspawn6_spec l n T h g (nxV L ja 3) hq.b.l hq.b.t hq.b.nm
  have hq1 := sp1_ok L ((l, n, T, h), ja) g hq
  obtain ⟨S1, hS1⟩ : ∃ S, sp1 L ((l, n, T, h), ja) g = S := ⟨_, rfl⟩
  rw [hS1] at hI hq1 hq5
  unfold sp1 at hS1
  simp only at hS1
  generalize spR l n T h g (nxV L ja 3) = E at *
  obtain ⟨⟨l1, n1, T1, h1'⟩, i1', e1⟩ := E
  generalize nxA L ja 3 = jb at *
  generalize nxV L ja 3 = us at *
  obtain ⟨⟨l2, n2, T2, h2'⟩, jb'⟩ := S1
  simp only [Prod.mk.injEq] at hS1 hq1 a3
  obtain ⟨hS1, rfl⟩ := hS1
  simp only [go_sem, zaa, zat, zau, zav, zax, zan, ↓reduceIte, reduceCtorEq, zae, zai, zay, zaz, zaA, decide_eq_true c, decide_eq_true am, lendY, dice, zal, zao, zac, zap, zar, zaj, zak, zag, zas, zaw, zaf, zah]
  repeat' (first
 | with_reducible refine zaI ?_ ?_
 | (unfold OKC; kernel_rfl)
 | (unfold EDG; kernel_rfl)
 | (apply cl_plain
    case hs => rfl
    case ha => (simp only [zam, zaq, prepV, prepC, idx, hpL', lookR, zaa, if_true, if_false]; rfl)
    case h => (first | exact h1 .. | exact h2 .. | exact n3 .. | exact a3 ..))
 | (apply cl_lend
    case hr => (simp only [zam, zaq, hpL', lookR, zaa, if_true, if_false]; first | exact map1 _ | exact map2 _ _ | exact map3 _ _ _)
    case ha => (simp only [zam, zaq, prepV, prepC, idx, hpL', lookR, zaa, if_true, if_false]; rfl)
    case hs => rfl
    case hn => decide
    case h => (first | exact h1 .. | exact h2 .. | exact n3 .. | exact a3 ..)
    case hf => (simp only [zab, zad, false_implies, implies_true, and_true, true_and, flat_cons, flat_nil, flat_ints, flat_bools, flat_app, Cs_flat, zaK, and_self, eq_self_iff_true, zac])
    case hl => (simp only [zaf, zah]; decide))
 | ((first | refine s1_id ?_ | refine swp_id ?_ | refine sops_id ?_ | refine s2_id ?_); simp only [decide_eq_true c, decide_eq_true am, lendY, dice, zal, zao, zac, zap, zar, zaj, zak, zag, zas, zaw, zaf, zah, go_sem, zaa, zat, zau, zav, zax, zan, ↓reduceIte, reduceCtorEq, zae, zai, zay, zaz, zaA, zaL, zaN, zaJ, zaO, renO, bk, back, outUpsFrom, Ints_ren])
 | (intros; (try simp only [zaG, zaH, zaE, zaD, zaB, zaC, decide_eq_true_eq, decide_eq_false_iff_not] at *); omega))
  refine cd_cut1 ⟨[(0, dp), (6, .one (.optr 1 0)), (7, .one (.optr 2 0)), (9, i1 (m + 1 : Nat))], [(0, some (dice L jb)), (1, some ⟨[.sc (.slice none 0 0), int 0, .sc (.slice none 0 0), int 0], 4⟩), (2, some ⟨[.gsl (Cs l2) 0 l2.length none, int n2, .gsl (Cs T2) 0 T2.length none, int h2'], 4⟩)], 3⟩ (fun hc => ?_) (fun hc => ?_) ?_
  · have hc := of_decide_eq_true hc
    rw [if_pos hc] at hS1
    simp only [Prod.mk.injEq] at hS1
    obtain ⟨rfl, rfl, rfl, rfl⟩ := hS1
    simp only [go_sem, zaa, zat, zau, zav, zax, zan, ↓reduceIte, reduceCtorEq, zae, zai, zay, zaz, zaA, decide_eq_true hc, lendY, dice, zal, zao, zac, zap, zar, zaj, zak, zag, zas, zaw, zaf, zah]
    repeat' (first
 | (intros; (try simp only [zaG, zaH, zaE, zaD, zaB, zaC, decide_eq_true_eq, decide_eq_false_iff_not] at *); omega))
    refine ⟨_, ?_, rfl⟩
    (refine imp_ren _ _ _ [(0, 0, dice L jb), (1, 1, ⟨[.sc (.slice none 0 0), int 0, .sc (.slice none 0 0), int 0], 4⟩), (2, 2, ⟨[.gsl (Cs l1) 0 l1.length none, int n1, .gsl (Cs T1) 0 T1.length none, int h1'], 4⟩)] (by simp) (by simp) (by simp) (zaF rfl) ?_ rfl (by simp only [zab, zad, false_implies, implies_true, and_true, zaQ, lookR, zaa, if_true, if_false, ↓reduceIte, dice] <;> (repeat' apply zaI) <;> (first | rfl | trivial)) (by simp only [zab, zad, false_implies, implies_true, and_true, true_and, flat_cons, flat_nil, flat_ints, flat_bools, flat_app, zaK, and_self, eq_self_iff_true, zac, dice]); simp only [zam, zaq, zab, zad, false_implies, implies_true, and_true, lk, slot, zaL, zaJ, toN, zaa, if_true, if_false, ↓reduceIte, reduceCtorEq])
    all_goals ((repeat' apply zaI) <;> (first | rfl | trivial))
  · have hc := of_decide_eq_false hc
    rw [if_neg hc] at hS1
    simp only [Prod.mk.injEq] at hS1
    obtain ⟨rfl, rfl, rfl, rfl⟩ := hS1
    simp only [go_sem, zaa, zat, zau, zav, zax, zan, ↓reduceIte, reduceCtorEq, zae, zai, zay, zaz, zaA, decide_eq_false hc, lendY, dice, zal, zao, zac, zap, zar, zaj, zak, zag, zas, zaw, zaf, zah]
    repeat' (first
 | (intros; (try simp only [zaG, zaH, zaE, zaD, zaB, zaC, decide_eq_true_eq, decide_eq_false_iff_not] at *); omega))
    refine ⟨_, ?_, rfl⟩
    (refine imp_ren _ _ _ [(0, 0, dice L jb), (1, 1, ⟨[.sc (.slice none 0 0), int 0, .sc (.slice none 0 0), int 0], 4⟩), (2, 2, ⟨[.gsl (Cs l) 0 l.length none, int n, .gsl (Cs T) 0 T.length none, int h], 4⟩)] (by simp) (by simp) (by simp) (zaF rfl) ?_ rfl (by simp only [zab, zad, false_implies, implies_true, and_true, zaQ, lookR, zaa, if_true, if_false, ↓reduceIte, dice] <;> (repeat' apply zaI) <;> (first | rfl | trivial)) (by simp only [zab, zad, false_implies, implies_true, and_true, true_and, flat_cons, flat_nil, flat_ints, flat_bools, flat_app, zaK, and_self, eq_self_iff_true, zac, dice]); simp only [zam, zaq, zab, zad, false_implies, implies_true, and_true, lk, slot, zaL, zaJ, toN, zaa, if_true, if_false, ↓reduceIte, reduceCtorEq])
    all_goals ((repeat' apply zaI) <;> (first | rfl | trivial))
  clear hS1 h1 h2 n3 a3 hq am
  have hq1 : HI (l2, n2, T2, h2') := hq1
  have hq2 := sp2_ok L ((l2, n2, T2, h2'), jb) hq1
  obtain ⟨S2, hS2⟩ : ∃ S, sp2 L ((l2, n2, T2, h2'), jb) = S := ⟨_, rfl⟩
  rw [hS2] at hI hq2 hq5
  unfold sp2 at hS2
  simp only at hS2
  have nb := bool_spec L jb 3 hl hr (by decide)
  rw [show (3 : Int) - 1 = 2 from rfl] at nb
  generalize nxA L jb 3 = ja at *
  generalize nxV L jb 3 = v at *
  have tk := dtask_spec L hl hr ja l2 n2 T2 h2' hq1.b.t
  generalize dtV L T2 ja = tt at *
  generalize dtA L T2 ja = jt at *
  have cc := rclone6_spec l2 n2 T2 h2' tt hq1.b.l hq1.b.t hq1.b.nm
  generalize clR l2 n2 T2 h2' tt = E at *
  obtain ⟨⟨el, en, eT, eh⟩, ei, ee⟩ := E
  simp only at cc hS2
  obtain ⟨⟨l3, n3', T3, h3'⟩, jc⟩ := S2
  simp only at hq2
  simp only [go_sem, zaa, zat, zau, zav, zax, zan, ↓reduceIte, reduceCtorEq, zae, zai, zay, zaz, zaA, lendY, dice, zal, zao, zac, zap, zar, zaj, zak, zag, zas, zaw, zaf, zah]
  repeat' (first
 | (apply cl_lend
    case hr => (simp only [zam, zaq, hpL', lookR, zaa, if_true, if_false]; first | exact map1 _ | exact map2 _ _ | exact map3 _ _ _)
    case ha => (simp only [zam, zaq, prepV, prepC, idx, hpL', lookR, zaa, if_true, if_false]; rfl)
    case hs => rfl
    case hn => decide
    case h => (first | exact nb ..)
    case hf => (simp only [zab, zad, false_implies, implies_true, and_true, true_and, flat_cons, flat_nil, flat_ints, flat_bools, flat_app, Cs_flat, zaK, and_self, eq_self_iff_true, zac])
    case hl => (simp only [zaf, zah]; decide))
 | ((first | refine s1_id ?_ | refine swp_id ?_ | refine sops_id ?_ | refine s2_id ?_); simp only [lendY, dice, zal, zao, zac, zap, zar, zaj, zak, zag, zas, zaw, zaf, zah, go_sem, zaa, zat, zau, zav, zax, zan, ↓reduceIte, reduceCtorEq, zae, zai, zay, zaz, zaA, zaL, zaN, zaJ, zaO, renO, bk, back, outUpsFrom, Ints_ren])
 | (intros; (try simp only [zaG, zaH, zaE, zaD, zaB, zaC, decide_eq_true_eq, decide_eq_false_iff_not] at *); omega))
  refine cd_cut1 ⟨[(0, dp), (6, .one (.optr 1 0)), (7, .one (.optr 2 0)), (9, i1 (m + 1 : Nat))], [(0, some (dice L jc)), (1, some ⟨[.sc (.slice none 0 0), int 0, .sc (.slice none 0 0), int 0], 4⟩), (2, some ⟨[.gsl (Cs l3) 0 l3.length none, int n3', .gsl (Cs T3) 0 T3.length none, int h3'], 4⟩)], 3⟩ (fun hc => ?_) (fun hc => ?_) ?_
  · have hc := of_decide_eq_true hc
    rw [if_pos hc] at hS2
    by_cases d : ee = 0
    · rw [if_pos d] at hS2
      simp only [Prod.mk.injEq] at hS2
      obtain ⟨⟨rfl, rfl, rfl, rfl⟩, rfl⟩ := hS2
      simp only [go_sem, zaa, zat, zau, zav, zax, zan, ↓reduceIte, reduceCtorEq, zae, zai, zay, zaz, zaA, decide_eq_true hc, decide_eq_true d, lendY, dice, zal, zao, zac, zap, zar, zaj, zak, zag, zas, zaw, zaf, zah]
      repeat' (first
 | with_reducible refine zaI ?_ ?_
 | (unfold OKC; kernel_rfl)
 | (unfold EDG; kernel_rfl)
 | (apply cl_plain
    case hs => rfl
    case ha => (simp only [zam, zaq, prepV, prepC, idx, hpL', lookR, zaa, if_true, if_false]; rfl)
    case h => (first | exact tk .. | exact cc ..))
 | (apply cl_lend
    case hr => (simp only [zam, zaq, hpL', lookR, zaa, if_true, if_false]; first | exact map1 _ | exact map2 _ _ | exact map3 _ _ _)
    case ha => (simp only [zam, zaq, prepV, prepC, idx, hpL', lookR, zaa, if_true, if_false]; rfl)
    case hs => rfl
    case hn => decide
    case h => (first | exact tk .. | exact cc ..)
    case hf => (simp only [zab, zad, false_implies, implies_true, and_true, true_and, flat_cons, flat_nil, flat_ints, flat_bools, flat_app, Cs_flat, zaK, and_self, eq_self_iff_true, zac])
    case hl => (simp only [zaf, zah]; decide))
 | ((first | refine s1_id ?_ | refine swp_id ?_ | refine sops_id ?_ | refine s2_id ?_); simp only [decide_eq_true hc, decide_eq_true d, lendY, dice, zal, zao, zac, zap, zar, zaj, zak, zag, zas, zaw, zaf, zah, go_sem, zaa, zat, zau, zav, zax, zan, ↓reduceIte, reduceCtorEq, zae, zai, zay, zaz, zaA, zaL, zaN, zaJ, zaO, renO, bk, back, outUpsFrom, Ints_ren])
 | (intros; (try simp only [zaG, zaH, zaE, zaD, zaB, zaC, decide_eq_true_eq, decide_eq_false_iff_not] at *); omega))
      refine ⟨_, ?_, rfl⟩
      (refine imp_ren _ _ _ [(0, 0, dice L jt), (1, 1, ⟨[.sc (.slice none 0 0), int 0, .sc (.slice none 0 0), int 0], 4⟩), (2, 2, ⟨[.gsl (Cs el) 0 el.length none, int en, .gsl (Cs eT) 0 eT.length none, int eh], 4⟩)] (by simp) (by simp) (by simp) (zaF rfl) ?_ rfl (by simp only [zab, zad, false_implies, implies_true, and_true, zaQ, lookR, zaa, if_true, if_false, ↓reduceIte, dice] <;> (repeat' apply zaI) <;> (first | rfl | trivial)) (by simp only [zab, zad, false_implies, implies_true, and_true, true_and, flat_cons, flat_nil, flat_ints, flat_bools, flat_app, zaK, and_self, eq_self_iff_true, zac, dice]); simp only [zam, zaq, zab, zad, false_implies, implies_true, and_true, lk, slot, zaL, zaJ, toN, zaa, if_true, if_false, ↓reduceIte, reduceCtorEq])
      all_goals ((repeat' apply zaI) <;> (first | rfl | trivial))
    rw [if_neg d] at hS2
    simp only [Prod.mk.injEq] at hS2
    obtain ⟨⟨rfl, rfl, rfl, rfl⟩, rfl⟩ := hS2
    simp only [go_sem, zaa, zat, zau, zav, zax, zan, ↓reduceIte, reduceCtorEq, zae, zai, zay, zaz, zaA, decide_eq_true hc, decide_eq_false d, lendY, dice, zal, zao, zac, zap, zar, zaj, zak, zag, zas, zaw, zaf, zah]
    repeat' (first
 | with_reducible refine zaI ?_ ?_
 | (unfold OKC; kernel_rfl)
 | (unfold EDG; kernel_rfl)
 | (apply cl_plain
    case hs => rfl
    case ha => (simp only [zam, zaq, prepV, prepC, idx, hpL', lookR, zaa, if_true, if_false]; rfl)
    case h => (first | exact tk .. | exact cc ..))
 | (apply cl_lend
    case hr => (simp only [zam, zaq, hpL', lookR, zaa, if_true, if_false]; first | exact map1 _ | exact map2 _ _ | exact map3 _ _ _)
    case ha => (simp only [zam, zaq, prepV, prepC, idx, hpL', lookR, zaa, if_true, if_false]; rfl)
    case hs => rfl
    case hn => decide
    case h => (first | exact tk .. | exact cc ..)
    case hf => (simp only [zab, zad, false_implies, implies_true, and_true, true_and, flat_cons, flat_nil, flat_ints, flat_bools, flat_app, Cs_flat, zaK, and_self, eq_self_iff_true, zac])
    case hl => (simp only [zaf, zah]; decide))
 | ((first | refine s1_id ?_ | refine swp_id ?_ | refine sops_id ?_ | refine s2_id ?_); simp only [decide_eq_true hc, decide_eq_false d, lendY, dice, zal, zao, zac, zap, zar, zaj, zak, zag, zas, zaw, zaf, zah, go_sem, zaa, zat, zau, zav, zax, zan, ↓reduceIte, reduceCtorEq, zae, zai, zay, zaz, zaA, zaL, zaN, zaJ, zaO, renO, bk, back, outUpsFrom, Ints_ren])
 | (intros; (try simp only [zaG, zaH, zaE, zaD, zaB, zaC, decide_eq_true_eq, decide_eq_false_iff_not] at *); omega))
    refine ⟨_, ?_, rfl⟩
    (refine imp_ren _ _ _ [(0, 0, dice L jt), (1, 1, ⟨[.sc (.slice none 0 0), int 0, .sc (.slice none 0 0), int 0], 4⟩), (2, 2, ⟨[.gsl (Cs l2) 0 l2.length none, int n2, .gsl (Cs T2) 0 T2.length none, int h2'], 4⟩)] (by simp) (by simp) (by simp) (zaF rfl) ?_ rfl (by simp only [zab, zad, false_implies, implies_true, and_true, zaQ, lookR, zaa, if_true, if_false, ↓reduceIte, dice] <;> (repeat' apply zaI) <;> (first | rfl | trivial)) (by simp only [zab, zad, false_implies, implies_true, and_true, true_and, flat_cons, flat_nil, flat_ints, flat_bools, flat_app, zaK, and_self, eq_self_iff_true, zac, dice]); simp only [zam, zaq, zab, zad, false_implies, implies_true, and_true, lk, slot, zaL, zaJ, toN, zaa, if_true, if_false, ↓reduceIte, reduceCtorEq])
    all_goals ((repeat' apply zaI) <;> (first | rfl | trivial))
  · have hc := of_decide_eq_false hc
    rw [if_neg hc] at hS2
    simp only [Prod.mk.injEq] at hS2
    obtain ⟨⟨rfl, rfl, rfl, rfl⟩, rfl⟩ := hS2
    simp only [go_sem, zaa, zat, zau, zav, zax, zan, ↓reduceIte, reduceCtorEq, zae, zai, zay, zaz, zaA, decide_eq_false hc, lendY, dice, zal, zao, zac, zap, zar, zaj, zak, zag, zas, zaw, zaf, zah]
    repeat' (first
 | (intros; (try simp only [zaG, zaH, zaE, zaD, zaB, zaC, decide_eq_true_eq, decide_eq_false_iff_not] at *); omega))
    refine ⟨_, ?_, rfl⟩
    (refine imp_ren _ _ _ [(0, 0, dice L ja), (1, 1, ⟨[.sc (.slice none 0 0), int 0, .sc (.slice none 0 0), int 0], 4⟩), (2, 2, ⟨[.gsl (Cs l2) 0 l2.length none, int n2, .gsl (Cs T2) 0 T2.length none, int h2'], 4⟩)] (by simp) (by simp) (by simp) (zaF rfl) ?_ rfl (by simp only [zab, zad, false_implies, implies_true, and_true, zaQ, lookR, zaa, if_true, if_false, ↓reduceIte, dice] <;> (repeat' apply zaI) <;> (first | rfl | trivial)) (by simp only [zab, zad, false_implies, implies_true, and_true, true_and, flat_cons, flat_nil, flat_ints, flat_bools, flat_app, zaK, and_self, eq_self_iff_true, zac, dice]); simp only [zam, zaq, zab, zad, false_implies, implies_true, and_true, lk, slot, zaL, zaJ, toN, zaa, if_true, if_false, ↓reduceIte, reduceCtorEq])
    all_goals ((repeat' apply zaI) <;> (first | rfl | trivial))
  clear hS2 nb tk cc hq1
  have hq2 : HI (l3, n3', T3, h3') := hq2
  have hq3 := sp3_ok L ((l3, n3', T3, h3'), jc) hq2
  obtain ⟨S3, hS3⟩ : ∃ S, sp3 L ((l3, n3', T3, h3'), jc) = S := ⟨_, rfl⟩
  rw [hS3] at hI hq3 hq5
  unfold sp3 at hS3
  simp only at hS3
  have nb := bool_spec L jc 4 hl hr (by decide)
  rw [show (4 : Int) - 1 = 3 from rfl] at nb
  generalize nxA L jc 4 = ja at *
  generalize nxV L jc 4 = v at *
  have tk := dtask_spec L hl hr ja l3 n3' T3 h3' hq2.b.t
  generalize dtV L T3 ja = tt at *
  generalize dtA L T3 ja = jt at *
  have gg := dgroup_spec L hl hr jt l3 n3' hq2.len.1 hq2.len.2
  generalize dgV L l3 jt = g3 at *
  generalize dgA L l3 jt = jg at *
  have cc := r8at_spec l3 n3' T3 h3' tt g3 hq2.b
  generalize atM l3 n3' T3 h3' tt g3 = E at *
  obtain ⟨⟨el, en, eT, eh⟩, ee⟩ := E
  simp only at cc hS3
  obtain ⟨⟨l4, n4, T4, h4'⟩, jd⟩ := S3
  simp only at hq3
  simp only [go_sem, zaa, zat, zau, zav, zax, zan, ↓reduceIte, reduceCtorEq, zae, zai, zay, zaz, zaA, lendY, dice, zal, zao, zac, zap, zar, zaj, zak, zag, zas, zaw, zaf, zah]
  repeat' (first
 | (apply cl_lend
    case hr => (simp only [zam, zaq, hpL', lookR, zaa, if_true, if_false]; first | exact map1 _ | exact map2 _ _ | exact map3 _ _ _)
    case ha => (simp only [zam, zaq, prepV, prepC, idx, hpL', lookR, zaa, if_true, if_false]; rfl)
    case hs => rfl
    case hn => decide
    case h => (first | exact nb ..)
    case hf => (simp only [zab, zad, false_implies, implies_true, and_true, true_and, flat_cons, flat_nil, flat_ints, flat_bools, flat_app, Cs_flat, zaK, and_self, eq_self_iff_true, zac])
    case hl => (simp only [zaf, zah]; decide))
 | ((first | refine s1_id ?_ | refine swp_id ?_ | refine sops_id ?_ | refine s2_id ?_); simp only [lendY, dice, zal, zao, zac, zap, zar, zaj, zak, zag, zas, zaw, zaf, zah, go_sem, zaa, zat, zau, zav, zax, zan, ↓reduceIte, reduceCtorEq, zae, zai, zay, zaz, zaA, zaL, zaN, zaJ, zaO, renO, bk, back, outUpsFrom, Ints_ren])
 | (intros; (try simp only [zaG, zaH, zaE, zaD, zaB, zaC, decide_eq_true_eq, decide_eq_false_iff_not] at *); omega))
  refine cd_cut1 ⟨[(0, dp), (6, .one (.optr 1 0)), (7, .one (.optr 2 0)), (9, i1 (m + 1 : Nat))], [(0, some (dice L jd)), (1, some ⟨[.sc (.slice none 0 0), int 0, .sc (.slice none 0 0), int 0], 4⟩), (2, some ⟨[.gsl (Cs l4) 0 l4.length none, int n4, .gsl (Cs T4) 0 T4.length none, int h4'], 4⟩)], 3⟩ (fun hc => ?_) (fun hc => ?_) ?_
  · have hc := of_decide_eq_true hc
    rw [if_pos hc] at hS3
    by_cases d : ee = 0
    · rw [if_pos d] at hS3
      simp only [Prod.mk.injEq] at hS3
      obtain ⟨⟨rfl, rfl, rfl, rfl⟩, rfl⟩ := hS3
      simp only [go_sem, zaa, zat, zau, zav, zax, zan, ↓reduceIte, reduceCtorEq, zae, zai, zay, zaz, zaA, decide_eq_true hc, decide_eq_true d, lendY, dice, zal, zao, zac, zap, zar, zaj, zak, zag, zas, zaw, zaf, zah]
      repeat' (first
 | with_reducible refine zaI ?_ ?_
 | (unfold OKC; kernel_rfl)
 | (unfold EDG; kernel_rfl)
 | (apply cl_plain
    case hs => rfl
    case ha => (simp only [zam, zaq, prepV, prepC, idx, hpL', lookR, zaa, if_true, if_false]; rfl)
    case h => (first | exact tk .. | exact gg .. | exact cc ..))
 | (apply cl_lend
    case hr => (simp only [zam, zaq, hpL', lookR, zaa, if_true, if_false]; first | exact map1 _ | exact map2 _ _ | exact map3 _ _ _)
    case ha => (simp only [zam, zaq, prepV, prepC, idx, hpL', lookR, zaa, if_true, if_false]; rfl)
    case hs => rfl
    case hn => decide
    case h => (first | exact tk .. | exact gg .. | exact cc ..)
    case hf => (simp only [zab, zad, false_implies, implies_true, and_true, true_and, flat_cons, flat_nil, flat_ints, flat_bools, flat_app, Cs_flat, zaK, and_self, eq_self_iff_true, zac])
    case hl => (simp only [zaf, zah]; decide))
 | ((first | refine s1_id ?_ | refine swp_id ?_ | refine sops_id ?_ | refine s2_id ?_); simp only [decide_eq_true hc, decide_eq_true d, lendY, dice, zal, zao, zac, zap, zar, zaj, zak, zag, zas, zaw, zaf, zah, go_sem, zaa, zat, zau, zav, zax, zan, ↓reduceIte, reduceCtorEq, zae, zai, zay, zaz, zaA, zaL, zaN, zaJ, zaO, renO, bk, back, outUpsFrom, Ints_ren])
 | (intros; (try simp only [zaG, zaH, zaE, zaD, zaB, zaC, decide_eq_true_eq, decide_eq_false_iff_not] at *); omega))
      refine ⟨_, ?_, rfl⟩
      (refine imp_ren _ _ _ [(0, 0, dice L jg), (1, 1, ⟨[.sc (.slice none 0 0), int 0, .sc (.slice none 0 0), int 0], 4⟩), (2, 2, ⟨[.gsl (Cs el) 0 el.length none, int en, .gsl (Cs eT) 0 eT.length none, int eh], 4⟩)] (by simp) (by simp) (by simp) (zaF rfl) ?_ rfl (by simp only [zab, zad, false_implies, implies_true, and_true, zaQ, lookR, zaa, if_true, if_false, ↓reduceIte, dice] <;> (repeat' apply zaI) <;> (first | rfl | trivial)) (by simp only [zab, zad, false_implies, implies_true, and_true, true_and, flat_cons, flat_nil, flat_ints, flat_bools, flat_app, zaK, and_self, eq_self_iff_true, zac, dice]); simp only [zam, zaq, zab, zad, false_implies, implies_true, and_true, lk, slot, zaL, zaJ, toN, zaa, if_true, if_false, ↓reduceIte, reduceCtorEq])
      all_goals ((repeat' apply zaI) <;> (first | rfl | trivial))
    rw [if_neg d] at hS3
    simp only [Prod.mk.injEq] at hS3
    obtain ⟨⟨rfl, rfl, rfl, rfl⟩, rfl⟩ := hS3
    simp only [go_sem, zaa, zat, zau, zav, zax, zan, ↓reduceIte, reduceCtorEq, zae, zai, zay, zaz, zaA, decide_eq_true hc, decide_eq_false d, lendY, dice, zal, zao, zac, zap, zar, zaj, zak, zag, zas, zaw, zaf, zah]
    repeat' (first
 | with_reducible refine zaI ?_ ?_
 | (unfold OKC; kernel_rfl)
 | (unfold EDG; kernel_rfl)
 | (apply cl_plain
    case hs => rfl
    case ha => (simp only [zam, zaq, prepV, prepC, idx, hpL', lookR, zaa, if_true, if_false]; rfl)
    case h => (first | exact tk .. | exact gg .. | exact cc ..))
 | (apply cl_lend
    case hr => (simp only [zam, zaq, hpL', lookR, zaa, if_true, if_false]; first | exact map1 _ | exact map2 _ _ | exact map3 _ _ _)
    case ha => (simp only [zam, zaq, prepV, prepC, idx, hpL', lookR, zaa, if_true, if_false]; rfl)
    case hs => rfl
    case hn => decide
    case h => (first | exact tk .. | exact gg .. | exact cc ..)
    case hf => (simp only [zab, zad, false_implies, implies_true, and_true, true_and, flat_cons, flat_nil, flat_ints, flat_bools, flat_app, Cs_flat, zaK, and_self, eq_self_iff_true, zac])
    case hl => (simp only [zaf, zah]; decide))
 | ((first | refine s1_id ?_ | refine swp_id ?_ | refine sops_id ?_ | refine s2_id ?_); simp only [decide_eq_true hc, decide_eq_false d, lendY, dice, zal, zao, zac, zap, zar, zaj, zak, zag, zas, zaw, zaf, zah, go_sem, zaa, zat, zau, zav, zax, zan, ↓reduceIte, reduceCtorEq, zae, zai, zay, zaz, zaA, zaL, zaN, zaJ, zaO, renO, bk, back, outUpsFrom, Ints_ren])
 | (intros; (try simp only [zaG, zaH, zaE, zaD, zaB, zaC, decide_eq_true_eq, decide_eq_false_iff_not] at *); omega))
    refine ⟨_, ?_, rfl⟩
    (refine imp_ren _ _ _ [(0, 0, dice L jg), (1, 1, ⟨[.sc (.slice none 0 0), int 0, .sc (.slice none 0 0), int 0], 4⟩), (2, 2, ⟨[.gsl (Cs l3) 0 l3.length none, int n3', .gsl (Cs T3) 0 T3.length none, int h3'], 4⟩)] (by simp) (by simp) (by simp) (zaF rfl) ?_ rfl (by simp only [zab, zad, false_implies, implies_true, and_true, zaQ, lookR, zaa, if_true, if_false, ↓reduceIte, dice] <;> (repeat' apply zaI) <;> (first | rfl | trivial)) (by simp only [zab, zad, false_implies, implies_true, and_true, true_and, flat_cons, flat_nil, flat_ints, flat_bools, flat_app, zaK, and_self, eq_self_iff_true, zac, dice]); simp only [zam, zaq, zab, zad, false_implies, implies_true, and_true, lk, slot, zaL, zaJ, toN, zaa, if_true, if_false, ↓reduceIte, reduceCtorEq])
    all_goals ((repeat' apply zaI) <;> (first | rfl | trivial))
  · have hc := of_decide_eq_false hc
    rw [if_neg hc] at hS3
    simp only [Prod.mk.injEq] at hS3
    obtain ⟨⟨rfl, rfl, rfl, rfl⟩, rfl⟩ := hS3
    simp only [go_sem, zaa, zat, zau, zav, zax, zan, ↓reduceIte, reduceCtorEq, zae, zai, zay, zaz, zaA, decide_eq_false hc, lendY, dice, zal, zao, zac, zap, zar, zaj, zak, zag, zas, zaw, zaf, zah]
    repeat' (first
 | (intros; (try simp only [zaG, zaH, zaE, zaD, zaB, zaC, decide_eq_true_eq, decide_eq_false_iff_not] at *); omega))
    refine ⟨_, ?_, rfl⟩
    (refine imp_ren _ _ _ [(0, 0, dice L ja), (1, 1, ⟨[.sc (.slice none 0 0), int 0, .sc (.slice none 0 0), int 0], 4⟩), (2, 2, ⟨[.gsl (Cs l3) 0 l3.length none, int n3', .gsl (Cs T3) 0 T3.length none, int h3'], 4⟩)] (by simp) (by simp) (by simp) (zaF rfl) ?_ rfl (by simp only [zab, zad, false_implies, implies_true, and_true, zaQ, lookR, zaa, if_true, if_false, ↓reduceIte, dice] <;> (repeat' apply zaI) <;> (first | rfl | trivial)) (by simp only [zab, zad, false_implies, implies_true, and_true, true_and, flat_cons, flat_nil, flat_ints, flat_bools, flat_app, zaK, and_self, eq_self_iff_true, zac, dice]); simp only [zam, zaq, zab, zad, false_implies, implies_true, and_true, lk, slot, zaL, zaJ, toN, zaa, if_true, if_false, ↓reduceIte, reduceCtorEq])
    all_goals ((repeat' apply zaI) <;> (first | rfl | trivial))
  clear hS3 nb tk cc gg hq2
  have hq3 : HI (l4, n4, T4, h4') := hq3
  have hq4 := sp4_ok L ((l4, n4, T4, h4'), jd) hq3
  obtain ⟨S4, hS4⟩ : ∃ S, sp4 L ((l4, n4, T4, h4'), jd) = S := ⟨_, rfl⟩
  rw [hS4] at hI hq4 hq5
  unfold sp4 at hS4
  simp only at hS4
  have nb := bool_spec L jd 8 hl hr (by decide)
  rw [show (8 : Int) - 1 = 7 from rfl] at nb
  generalize nxA L jd 8 = ja at *
  generalize nxV L jd 8 = v at *
  have tk := dtask_spec L hl hr ja l4 n4 T4 h4' hq3.b.t
  generalize dtV L T4 ja = tt at *
  generalize dtA L T4 ja = jt at *
  have cc := rexit6_spec l4 n4 T4 h4' tt hq3.b.l hq3.b.t hq3.b.nm
  generalize exR l4 n4 T4 h4' tt = E at *
  obtain ⟨⟨el, en, eT, eh⟩, ee⟩ := E
  simp only at cc hS4
  obtain ⟨⟨l5, n5, T5, h5'⟩, je⟩ := S4
  simp only at hq4
  simp only [go_sem, zaa, zat, zau, zav, zax, zan, ↓reduceIte, reduceCtorEq, zae, zai, zay, zaz, zaA, lendY, dice, zal, zao, zac, zap, zar, zaj, zak, zag, zas, zaw, zaf, zah]
  repeat' (first
 | (apply cl_lend
    case hr => (simp only [zam, zaq, hpL', lookR, zaa, if_true, if_false]; first | exact map1 _ | exact map2 _ _ | exact map3 _ _ _)
    case ha => (simp only [zam, zaq, prepV, prepC, idx, hpL', lookR, zaa, if_true, if_false]; rfl)
    case hs => rfl
    case hn => decide
    case h => (first | exact nb ..)
    case hf => (simp only [zab, zad, false_implies, implies_true, and_true, true_and, flat_cons, flat_nil, flat_ints, flat_bools, flat_app, Cs_flat, zaK, and_self, eq_self_iff_true, zac])
    case hl => (simp only [zaf, zah]; decide))
 | ((first | refine s1_id ?_ | refine swp_id ?_ | refine sops_id ?_ | refine s2_id ?_); simp only [lendY, dice, zal, zao, zac, zap, zar, zaj, zak, zag, zas, zaw, zaf, zah, go_sem, zaa, zat, zau, zav, zax, zan, ↓reduceIte, reduceCtorEq, zae, zai, zay, zaz, zaA, zaL, zaN, zaJ, zaO, renO, bk, back, outUpsFrom, Ints_ren])
 | (intros; (try simp only [zaG, zaH, zaE, zaD, zaB, zaC, decide_eq_true_eq, decide_eq_false_iff_not] at *); omega))
  refine cd_cut1 ⟨[(0, dp), (6, .one (.optr 1 0)), (7, .one (.optr 2 0)), (9, i1 (m + 1 : Nat))], [(0, some (dice L je)), (1, some ⟨[.sc (.slice none 0 0), int 0, .sc (.slice none 0 0), int 0], 4⟩), (2, some ⟨[.gsl (Cs l5) 0 l5.length none, int n5, .gsl (Cs T5) 0 T5.length none, int h5'], 4⟩)], 3⟩ (fun hc => ?_) (fun hc => ?_) ?_
  · have hc := of_decide_eq_true hc
    rw [if_pos hc] at hS4
    by_cases d : ee = 0
    · rw [if_pos d] at hS4
      simp only [Prod.mk.injEq] at hS4
      obtain ⟨⟨rfl, rfl, rfl, rfl⟩, rfl⟩ := hS4
      simp only [go_sem, zaa, zat, zau, zav, zax, zan, ↓reduceIte, reduceCtorEq, zae, zai, zay, zaz, zaA, decide_eq_true hc, decide_eq_true d, lendY, dice, zal, zao, zac, zap, zar, zaj, zak, zag, zas, zaw, zaf, zah]
      repeat' (first
 | with_reducible refine zaI ?_ ?_
 | (unfold OKC; kernel_rfl)
 | (unfold EDG; kernel_rfl)
 | (apply cl_plain
    case hs => rfl
    case ha => (simp only [zam, zaq, prepV, prepC, idx, hpL', lookR, zaa, if_true, if_false]; rfl)
    case h => (first | exact tk .. | exact cc ..))
 | (apply cl_lend
    case hr => (simp only [zam, zaq, hpL', lookR, zaa, if_true, if_false]; first | exact map1 _ | exact map2 _ _ | exact map3 _ _ _)
    case ha => (simp only [zam, zaq, prepV, prepC, idx, hpL', lookR, zaa, if_true, if_false]; rfl)
    case hs => rfl
    case hn => decide
    case h => (first | exact tk .. | exact cc ..)
    case hf => (simp only [zab, zad, false_implies, implies_true, and_true, true_and, flat_cons, flat_nil, flat_ints, flat_bools, flat_app, Cs_flat, zaK, and_self, eq_self_iff_true, zac])
    case hl => (simp only [zaf, zah]; decide))
 | ((first | refine s1_id ?_ | refine swp_id ?_ | refine sops_id ?_ | refine s2_id ?_); simp only [decide_eq_true hc, decide_eq_true d, lendY, dice, zal, zao, zac, zap, zar, zaj, zak, zag, zas, zaw, zaf, zah, go_sem, zaa, zat, zau, zav, zax, zan, ↓reduceIte, reduceCtorEq, zae, zai, zay, zaz, zaA, zaL, zaN, zaJ, zaO, renO, bk, back, outUpsFrom, Ints_ren])
 | (intros; (try simp only [zaG, zaH, zaE, zaD, zaB, zaC, decide_eq_true_eq, decide_eq_false_iff_not] at *); omega))
      refine ⟨_, ?_, rfl⟩
      (refine imp_ren _ _ _ [(0, 0, dice L jt), (1, 1, ⟨[.sc (.slice none 0 0), int 0, .sc (.slice none 0 0), int 0], 4⟩), (2, 2, ⟨[.gsl (Cs el) 0 el.length none, int en, .gsl (Cs eT) 0 eT.length none, int eh], 4⟩)] (by simp) (by simp) (by simp) (zaF rfl) ?_ rfl (by simp only [zab, zad, false_implies, implies_true, and_true, zaQ, lookR, zaa, if_true, if_false, ↓reduceIte, dice] <;> (repeat' apply zaI) <;> (first | rfl | trivial)) (by simp only [zab, zad, false_implies, implies_true, and_true, true_and, flat_cons, flat_nil, flat_ints, flat_bools, flat_app, zaK, and_self, eq_self_iff_true, zac, dice]); simp only [zam, zaq, zab, zad, false_implies, implies_true, and_true, lk, slot, zaL, zaJ, toN, zaa, if_true, if_false, ↓reduceIte, reduceCtorEq])
      all_goals ((repeat' apply zaI) <;> (first | rfl | trivial))
    rw [if_neg d] at hS4
    simp only [Prod.mk.injEq] at hS4
    obtain ⟨⟨rfl, rfl, rfl, rfl⟩, rfl⟩ := hS4
    simp only [go_sem, zaa, zat, zau, zav, zax, zan, ↓reduceIte, reduceCtorEq, zae, zai, zay, zaz, zaA, decide_eq_true hc, decide_eq_false d, lendY, dice, zal, zao, zac, zap, zar, zaj, zak, zag, zas, zaw, zaf, zah]
    repeat' (first
 | with_reducible refine zaI ?_ ?_
 | (unfold OKC; kernel_rfl)
 | (unfold EDG; kernel_rfl)
 | (apply cl_plain
    case hs => rfl
    case ha => (simp only [zam, zaq, prepV, prepC, idx, hpL', lookR, zaa, if_true, if_false]; rfl)
    case h => (first | exact tk .. | exact cc ..))
 | (apply cl_lend
    case hr => (simp only [zam, zaq, hpL', lookR, zaa, if_true, if_false]; first | exact map1 _ | exact map2 _ _ | exact map3 _ _ _)
    case ha => (simp only [zam, zaq, prepV, prepC, idx, hpL', lookR, zaa, if_true, if_false]; rfl)
    case hs => rfl
    case hn => decide
    case h => (first | exact tk .. | exact cc ..)
    case hf => (simp only [zab, zad, false_implies, implies_true, and_true, true_and, flat_cons, flat_nil, flat_ints, flat_bools, flat_app, Cs_flat, zaK, and_self, eq_self_iff_true, zac])
    case hl => (simp only [zaf, zah]; decide))
 | ((first | refine s1_id ?_ | refine swp_id ?_ | refine sops_id ?_ | refine s2_id ?_); simp only [decide_eq_true hc, decide_eq_false d, lendY, dice, zal, zao, zac, zap, zar, zaj, zak, zag, zas, zaw, zaf, zah, go_sem, zaa, zat, zau, zav, zax, zan, ↓reduceIte, reduceCtorEq, zae, zai, zay, zaz, zaA, zaL, zaN, zaJ, zaO, renO, bk, back, outUpsFrom, Ints_ren])
 | (intros; (try simp only [zaG, zaH, zaE, zaD, zaB, zaC, decide_eq_true_eq, decide_eq_false_iff_not] at *); omega))
    refine ⟨_, ?_, rfl⟩
    (refine imp_ren _ _ _ [(0, 0, dice L jt), (1, 1, ⟨[.sc (.slice none 0 0), int 0, .sc (.slice none 0 0), int 0], 4⟩), (2, 2, ⟨[.gsl (Cs l4) 0 l4.length none, int n4, .gsl (Cs T4) 0 T4.length none, int h4'], 4⟩)] (by simp) (by simp) (by simp) (zaF rfl) ?_ rfl (by simp only [zab, zad, false_implies, implies_true, and_true, zaQ, lookR, zaa, if_true, if_false, ↓reduceIte, dice] <;> (repeat' apply zaI) <;> (first | rfl | trivial)) (by simp only [zab, zad, false_implies, implies_true, and_true, true_and, flat_cons, flat_nil, flat_ints, flat_bools, flat_app, zaK, and_self, eq_self_iff_true, zac, dice]); simp only [zam, zaq, zab, zad, false_implies, implies_true, and_true, lk, slot, zaL, zaJ, toN, zaa, if_true, if_false, ↓reduceIte, reduceCtorEq])
    all_goals ((repeat' apply zaI) <;> (first | rfl | trivial))
  · have hc := of_decide_eq_false hc
    rw [if_neg hc] at hS4
    simp only [Prod.mk.injEq] at hS4
    obtain ⟨⟨rfl, rfl, rfl, rfl⟩, rfl⟩ := hS4
    simp only [go_sem, zaa, zat, zau, zav, zax, zan, ↓reduceIte, reduceCtorEq, zae, zai, zay, zaz, zaA, decide_eq_false hc, lendY, dice, zal, zao, zac, zap, zar, zaj, zak, zag, zas, zaw, zaf, zah]
    repeat' (first
 | (intros; (try simp only [zaG, zaH, zaE, zaD, zaB, zaC, decide_eq_true_eq, decide_eq_false_iff_not] at *); omega))
    refine ⟨_, ?_, rfl⟩
    (refine imp_ren _ _ _ [(0, 0, dice L ja), (1, 1, ⟨[.sc (.slice none 0 0), int 0, .sc (.slice none 0 0), int 0], 4⟩), (2, 2, ⟨[.gsl (Cs l4) 0 l4.length none, int n4, .gsl (Cs T4) 0 T4.length none, int h4'], 4⟩)] (by simp) (by simp) (by simp) (zaF rfl) ?_ rfl (by simp only [zab, zad, false_implies, implies_true, and_true, zaQ, lookR, zaa, if_true, if_false, ↓reduceIte, dice] <;> (repeat' apply zaI) <;> (first | rfl | trivial)) (by simp only [zab, zad, false_implies, implies_true, and_true, true_and, flat_cons, flat_nil, flat_ints, flat_bools, flat_app, zaK, and_self, eq_self_iff_true, zac, dice]); simp only [zam, zaq, zab, zad, false_implies, implies_true, and_true, lk, slot, zaL, zaJ, toN, zaa, if_true, if_false, ↓reduceIte, reduceCtorEq])
    all_goals ((repeat' apply zaI) <;> (first | rfl | trivial))
  clear hS4 nb tk cc hq3
  simp only [go_sem, zaa, zat, zau, zav, zax, zan, ↓reduceIte, reduceCtorEq, zae, zai, zay, zaz, zaA, e2, lendY, dice, zal, zao, zac, zap, zar, zaj, zak, zag, zas, zaw, zaf, zah]
  repeat' (first
 | with_reducible refine zaI ?_ ?_
 | (intros; omega)
 | (intros; (try simp only [zaG, zaH, zaE, zaD, zaB, zaC, decide_eq_true_eq, decide_eq_false_iff_not] at *); omega))
  refine le_mk (m, ((l5, n5, T5, h5'), je)) ?_ ⟨hI, hq4, by omega⟩ (by show m < m + 1; omega)
  (refine imp_ren _ _ _ [(0, 0, dice L je), (1, 1, ⟨[.sc (.slice none 0 0), int 0, .sc (.slice none 0 0), int 0], 4⟩), (2, 2, ⟨[.gsl (Cs l5) 0 l5.length none, int n5, .gsl (Cs T5) 0 T5.length none, int h5'], 4⟩)] (by simp) (by simp) (by simp) (zaF rfl) ?_ rfl (by simp only [zab, zad, false_implies, implies_true, and_true, zaQ, lookR, zaa, if_true, if_false, ↓reduceIte, dice] <;> (repeat' apply zaI) <;> (first | rfl | trivial)) (by simp only [zab, zad, false_implies, implies_true, and_true, true_and, flat_cons, flat_nil, flat_ints, flat_bools, flat_app, zaK, and_self, eq_self_iff_true, zac, dice]); simp only [zam, zaq, zab, zad, false_implies, implies_true, and_true, lk, slot, zaL, zaJ, toN, zaa, if_true, if_false, ↓reduceIte, reduceCtorEq])
  all_goals ((repeat' apply zaI) <;> (first | rfl | trivial))
end Go.Proofs.Ytnahpejlhfeleab
-- NEWGO
-- PRUNE: cl_lendx cl_use
-- ISG: Cs_isG
-- FLAT: Cs_flat
namespace Go.Proofs.Ytnahpejlhfeleab
set_option linter.unusedVariables false
set_option linter.unusedSimpArgs false
open Go.Proofs.Ytnahpejlhfeleab.Sh
set_option maxRecDepth 20000
end Go.Proofs.Ytnahpejlhfeleab
-- NEWGO
-- PRUNE: cl_lendx cl_use
-- ISG: Cs_isG
-- FLAT: Cs_flat
namespace Go.Proofs.Ytnahpejlhfeleab
set_option linter.unusedVariables false
set_option linter.unusedSimpArgs false
open Go.Proofs.Ytnahpejlhfeleab.Sh
set_option maxRecDepth 20000
abbrev KL := List (Int × List Int)
def mrN : List Nat → KL → List (Nat × Option Row)
  | n :: ns, x :: r => (n, some ⟨Ints x.2, 1⟩) :: mrN ns r
  | _, _ => []
def RowsAt (f : Nat → Option Row) : List Nat → KL → Prop
  | n :: ns, x :: r => f n = some ⟨Ints x.2, 1⟩ ∧ RowsAt f ns r
  | [], [] => True
  | _, _ => False
theorem RowsAt.app {f : Nat → Option Row} {ms : List Nat} {B : KL} (h2 : RowsAt f ms B) : ∀ {ns : List Nat} {A : KL}, RowsAt f ns A → RowsAt f (ns ++ ms) (A ++ B)
  | [], [], _ => h2
  | _ :: _, _ :: _, h => ⟨h.1, RowsAt.app h2 h.2⟩
theorem RowsAt.mono {f g : Nat → Option Row} : ∀ {ns : List Nat} {A : KL}, (∀ n ∈ ns, g n = f n) → RowsAt f ns A → RowsAt g ns A
  | [], [], _, _ => trivial
  | n :: ns, _ :: _, h, hr => ⟨by rw [h n List.mem_cons_self]; exact hr.1, RowsAt.mono (fun m hm => h m (List.mem_cons_of_mem _ hm)) hr.2⟩
theorem RowsAt.of {ns : List Nat} {ks : KL} (hl : ns.length = ks.length) (hn : ns.Nodup) : RowsAt (fun r => lookR r (mrN ns ks)) ns ks := by
  induction ns generalizing ks with
  | nil => cases ks with
    | nil => trivial
    | cons x r => cases hl
  | cons n ns ih => cases ks with
    | nil => cases hl
    | cons x r =>
      rw [List.nodup_cons] at hn
      refine ⟨if_pos rfl, RowsAt.mono (fun m hm => ?_) (ih (ks := r) (by simpa using hl) hn.2)⟩
      show (if n = m then _ else lookR m (mrN ns r)) = _
      rw [if_neg (fun e => hn.1 (by rw [e]; exact hm))]
end Go.Proofs.Ytnahpejlhfeleab
-- NEWGO
-- PRUNE: cl_lendx cl_use
-- ISG: Cs_isG
-- FLAT: Cs_flat
-- OKC: refine okc_rng (r := r) (f := fun r => [([0], [0]), ([r, 114], [r, 115]), ([], [114]), ([103], []), ([103], []), ([0], []), ([103], []), ([103], []), ([], []), ([103], []), ([103], []), ([], [])]) ?_ hr1 hr2; kernel_rfl
namespace Go.Proofs.Ytnahpejlhfeleab
set_option linter.unusedVariables false
set_option linter.unusedSimpArgs false
open Go.Proofs.Ytnahpejlhfeleab.Sh
set_option maxRecDepth 20000
def kg : KL → Int → List Int
  | [], _ => []
  | x :: r, p => if x.1 = p then x.2 else kg r p
theorem okc_rng {all : Array Oper} {f : Nat → List (List Nat × List Nat)} {r : Nat} (h : (List.range 99).all (fun q => okc all (f (q + 1)).reverse) = true) (h1 : 1 ≤ r) (h2 : r < 100) : OKC all (f r) := by
  have := List.all_eq_true.1 h (r - 1) (List.mem_range.2 (by omega))
  rw [show r - 1 + 1 = r by omega] at this
  exact this
end Go.Proofs.Ytnahpejlhfeleab
-- NEWGO
-- PRUNE: cl_lendx cl_use
-- ISG: Cs_isG
-- FLAT: Cs_flat
namespace Go.Proofs.Ytnahpejlhfeleab
set_option linter.unusedVariables false
set_option linter.unusedSimpArgs false
open Go.Proofs.Ytnahpejlhfeleab.Sh
set_option maxRecDepth 20000
end Go.Proofs.Ytnahpejlhfeleab
-- NEWGO
-- PRUNE: cl_lendx cl_use
-- ISG: Cs_isG
-- FLAT: hfl
namespace Go.Proofs.Ytnahpejlhfeleab
set_option linter.unusedVariables false
set_option linter.unusedSimpArgs false
open Go.Proofs.Ytnahpejlhfeleab.Sh
set_option maxRecDepth 20000
end Go.Proofs.Ytnahpejlhfeleab
-- NEWGO
-- PRUNE: cl_lendx cl_use
-- ISG: Cs_isG
-- FLAT: hfl
namespace Go.Proofs.Ytnahpejlhfeleab
set_option linter.unusedVariables false
set_option linter.unusedSimpArgs false
open Go.Proofs.Ytnahpejlhfeleab.Sh
set_option maxRecDepth 20000
end Go.Proofs.Ytnahpejlhfeleab
-- NEWGO
-- PRUNE: cl_lendx cl_use
-- ISG: Cs_isG
-- FLAT: Cs_flat
namespace Go.Proofs.Ytnahpejlhfeleab
set_option linter.unusedVariables false
set_option linter.unusedSimpArgs false
open Go.Proofs.Ytnahpejlhfeleab.Sh
set_option maxRecDepth 20000
end Go.Proofs.Ytnahpejlhfeleab
-- NEWGO
-- PRUNE: cl_lendx cl_use
-- ISG: Cs_isG
-- FLAT: Cs_flat
namespace Go.Proofs.Ytnahpejlhfeleab
set_option linter.unusedVariables false
set_option linter.unusedSimpArgs false
open Go.Proofs.Ytnahpejlhfeleab.Sh
set_option maxRecDepth 20000
def chsM (q : Tk → Bool) (l : List Nd) (n : Int) (T : List Tk) (h : Int) : List Int := if hyM l n T h = true then (T.filter q).map Tk.i else []
set_option maxHeartbeats 8000000 in
theorem mchoose_spec (g : FuncId) (c0 : List Cell) (q : Tk → Bool) (l : List Nd) (n : Int) (T : List Tk) (h : Int) (hg : ∀ x ∈ T, FnSpec Try.prog g [.agg (tkc x), .one (.gptr c0 0)] [] (b1 (q x)) []) (hl : l.length ≤ 1000000) (hT : T.length ≤ 1000000) (hnm : NmR l) (hct : CtR l) : FnSpec Try.prog 40 [hyV l none n T none h, .one (.fn g [.gptr c0 0])] [] (gi (chsM q l n T h) none) [] := by
  have h1 := mcheck_spec l n T h hl (by omega) hnm hct
  have hcl := tk_len T
  unfold chsM
  cases hv : hyM l n T h with
  | false =>
    (try rw [hv] at h1)
    (try rw [if_neg (by decide)])
    refine fnspec_of mixed TT_ok TT_cl ⟨fun _ => false, fun _ => [], 0, fun _ => false, fun _ => false⟩ Try.func40 rfl (by kernel_rfl) rfl 29 rfl [.tmp 4] rfl ?_
    simp only [go_sem, zaa, zat, zau, zav, zax, zan, ↓reduceIte, reduceCtorEq, zae, zai, zay, zaz, zaA, zal, zao, zac, zap, zar, zaj, zak, zag, zas, zaw, zaf, zah]
    repeat' (first
 | (apply cl_plain
    case hs => rfl
    case ha => (simp only [zam, zaq, prepV, prepC, idx, hpL', lookR, zaa, if_true, if_false]; rfl)
    case h => (first | exact h1 ..))
 | ((first | refine s1_id ?_ | refine swp_id ?_ | refine sops_id ?_ | refine s2_id ?_); simp only [zal, zao, zac, zap, zar, zaj, zak, zag, zas, zaw, zaf, zah, go_sem, zaa, zat, zau, zav, zax, zan, ↓reduceIte, reduceCtorEq, zae, zai, zay, zaz, zaA, zaL, zaN, zaJ, zaO, renO, bk, back, outUpsFrom, Ints_ren])
 | (intros; (try simp only [zaG, zaH, zaE, zaD, zaB, zaC, decide_eq_true_eq, decide_eq_false_iff_not] at *); omega))
    repeat' (first
 | exact fs_w trivial (svw_of cw_gnil)
 | fail)
  | true =>
  (try rw [hv] at h1)
  (try rw [if_pos rfl])
  obtain ⟨_, hTl, _⟩ := hy_all hv
  obtain ⟨K, hK0, hKe, hKl, hKs⟩ := fmG_pack ztk q Tk.i T
  generalize (T.filter q).map Tk.i = W at *
  refine fnspec_of mixed TT_ok TT_cl ⟨fun _ => false, fun _ => [], 0, fun _ => false, fun _ => false⟩ Try.func40 rfl (by kernel_rfl) rfl 29 rfl [.tmp 4] rfl ?_
  simp only [go_sem, zaa, zat, zau, zav, zax, zan, ↓reduceIte, reduceCtorEq, zae, zai, zay, zaz, zaA, zal, zao, zac, zap, zar, zaj, zak, zag, zas, zaw, zaf, zah]
  repeat' (first
 | (apply cl_plain
    case hs => rfl
    case ha => (simp only [zam, zaq, prepV, prepC, idx, hpL', lookR, zaa, if_true, if_false]; rfl)
    case h => (first | exact h1 ..))
 | ((first | refine s1_id ?_ | refine swp_id ?_ | refine sops_id ?_ | refine s2_id ?_); simp only [zal, zao, zac, zap, zar, zaj, zak, zag, zas, zaw, zaf, zah, go_sem, zaa, zat, zau, zav, zax, zan, ↓reduceIte, reduceCtorEq, zae, zai, zay, zaz, zaA, zaL, zaN, zaJ, zaO, renO, bk, back, outUpsFrom, Ints_ren])
 | (intros; (try simp only [zaG, zaH, zaE, zaD, zaB, zaC, decide_eq_true_eq, decide_eq_false_iff_not] at *); omega))
  refine w_loop (ι := Nat) (fun m => ⟨[(1, .one (.fn g [.gptr c0 0])), (5, .one (.osl 0 0 (K m).length none)), (13, gr T none), (14, i1 T.length), (15, i1 m)], [(0, some ⟨Ints (K m), 1⟩)], 1⟩) (fun m => m ≤ T.length) (fun m => T.length - m) 0 ?_ (Nat.zero_le _) ?_
  · simp only [hK0]; (refine Imp.trans (imp_nilA _ _ 5 1 99 (by simp only []; omega) rfl) ?_)
    (refine imp_ren _ _ _ [(0, 99, ⟨[], 1⟩)] (by simp) (by simp) (by simp) (zaF rfl) ?_ rfl (by simp only [zab, zad, false_implies, implies_true, and_true, zaQ, lookR, zaa, if_true, if_false, ↓reduceIte] <;> (repeat' apply zaI) <;> (first | rfl | trivial)) (by simp only [zab, zad, false_implies, implies_true, and_true, true_and, flat_cons, flat_nil, flat_ints, flat_bools, flat_app, zaK, and_self, eq_self_iff_true, zac]); simp only [zam, zaq, zab, zad, false_implies, implies_true, and_true, lk, slot, zaL, zaJ, toN, zaa, if_true, if_false, ↓reduceIte, reduceCtorEq])
    all_goals ((repeat' apply zaI) <;> (first | rfl | trivial))
  clear h1
  rintro m hm
  simp only at hm ⊢
  rcases Nat.lt_or_ge m T.length with hlt | hge
  case inr =>
    have c : ¬ (m : Int) < (T.length : Int) := by omega
    obtain rfl : m = T.length := by omega
    rw [hKe]
    simp only [go_sem, zaa, zat, zau, zav, zax, zan, ↓reduceIte, reduceCtorEq, zae, zai, zay, zaz, zaA, decide_eq_false c, zal, zao, zac, zap, zar, zaj, zak, zag, zas, zaw, zaf, zah]
    repeat' (first
 | (intros; (try simp only [zaG, zaH, zaE, zaD, zaB, zaC, decide_eq_true_eq, decide_eq_false_iff_not] at *); omega))
    (refine fs_frz 0 ⟨Ints W, 1⟩ (by simp only [zaQ, lookR, zaa, if_true, if_false, ↓reduceIte]) (by first | exact Ints_isG _ | exact Bools_isG _ | exact Cs_isG _ | (simp [Cell.isG]; done)) ?_; simp only [frzTm, SV.frz, SV.frzL, Cell.frz, frzHp, frzO, Ints_frz, Bools_frz, zam, zaq, zaa, if_true, if_false, ↓reduceIte])
    repeat' (first
 | (refine fs_w ?h1 (svw_of ?h2); (case h1 => repeat' (first | exact trivial | exact rfl | exact zaF rfl | apply zaI)); (case h2 => repeat' (first | ((with_reducible refine (?_ : CW _ _)); first | exact cw_gnil | exact cw_rfl _ | exact cw_niln _ _ | exact cw_cap _ _ _ _) | exact trivial | (show _ ∧ SWL _ _; apply zaI) | (show _ ∧ CWL _ _; apply zaI) | show CW _ _)))
 | fail)
  have c : (m : Int) < (T.length : Int) := by omega
  have hat := tk_td T m hlt
  obtain ⟨s1, s2⟩ := hKs m hlt
  have hk := hKl m
  have ha := Ints_all (K m)
  have hla := snoc_len (K m) (gT T m).i
  have hgx := hg (gT T m) (getD_mem T m ztk hlt)
  rw [show T.getD m ztk = gT T m from rfl] at s1 s2
  generalize gT T m = x at *
  obtain ⟨xi, xp, xg, xu⟩ := x
  simp only [tkc] at hat s1 s2 hla hgx
  cases hq : q ⟨xi, xp, xg, xu⟩ with
  | true =>
    (try rw [hq] at hgx)
    (try rw [if_pos rfl])
    have s1 := s1 hq
    rw [← s1] at hla
    simp only [go_sem, zaa, zat, zau, zav, zax, zan, ↓reduceIte, reduceCtorEq, zae, zai, zay, zaz, zaA, decide_eq_true c, hat, ha, ← s1, zal, zao, zac, zap, zar, zaj, zak, zag, zas, zaw, zaf, zah]
    repeat' (first
 | with_reducible refine zaI ?_ ?_
 | (apply cl_plain
    case hs => rfl
    case ha => (simp only [zam, zaq, prepV, prepC, idx, hpL', lookR, zaa, if_true, if_false]; rfl)
    case h => (first | exact hgx ..))
 | ((first | refine s1_id ?_ | refine swp_id ?_ | refine sops_id ?_ | refine s2_id ?_); simp only [decide_eq_true c, hat, ha, ← s1, zal, zao, zac, zap, zar, zaj, zak, zag, zas, zaw, zaf, zah, go_sem, zaa, zat, zau, zav, zax, zan, ↓reduceIte, reduceCtorEq, zae, zai, zay, zaz, zaA, zaL, zaN, zaJ, zaO, renO, bk, back, outUpsFrom, Ints_ren])
 | (intros; omega)
 | (intros; (try simp only [zaG, zaH, zaE, zaD, zaB, zaC, decide_eq_true_eq, decide_eq_false_iff_not] at *); omega))
    refine le_mk (m + 1) ?_ hlt (by show T.length - (m + 1) < T.length - m; omega)
    (refine imp_ren _ _ _ [(0, 13, ⟨Ints (K (m + 1)), 1⟩)] (by simp) (by simp) (by simp) (zaF rfl) ?_ rfl (by simp only [zab, zad, false_implies, implies_true, and_true, zaQ, lookR, zaa, if_true, if_false, ↓reduceIte] <;> (repeat' apply zaI) <;> (first | rfl | trivial)) (by simp only [zab, zad, false_implies, implies_true, and_true, true_and, flat_cons, flat_nil, flat_ints, flat_bools, flat_app, zaK, and_self, eq_self_iff_true, zac]); simp only [zam, zaq, zab, zad, false_implies, implies_true, and_true, lk, slot, zaL, zaJ, toN, zaa, if_true, if_false, ↓reduceIte, reduceCtorEq])
    all_goals ((repeat' apply zaI) <;> (first | rfl | trivial | (simp only [zaM, hla]; done) | (simp only [zaM, hla]; rfl) | (simp only [zaM, hla]; trivial)))
  | false =>
  (try rw [hq] at hgx)
  (try rw [if_neg (by decide)])
  have s2 := s2 hq
  simp only [go_sem, zaa, zat, zau, zav, zax, zan, ↓reduceIte, reduceCtorEq, zae, zai, zay, zaz, zaA, decide_eq_true c, hat, zal, zao, zac, zap, zar, zaj, zak, zag, zas, zaw, zaf, zah]
  repeat' (first
 | with_reducible refine zaI ?_ ?_
 | (apply cl_plain
    case hs => rfl
    case ha => (simp only [zam, zaq, prepV, prepC, idx, hpL', lookR, zaa, if_true, if_false]; rfl)
    case h => (first | exact hgx ..))
 | ((first | refine s1_id ?_ | refine swp_id ?_ | refine sops_id ?_ | refine s2_id ?_); simp only [decide_eq_true c, hat, zal, zao, zac, zap, zar, zaj, zak, zag, zas, zaw, zaf, zah, go_sem, zaa, zat, zau, zav, zax, zan, ↓reduceIte, reduceCtorEq, zae, zai, zay, zaz, zaA, zaL, zaN, zaJ, zaO, renO, bk, back, outUpsFrom, Ints_ren])
 | (intros; omega)
 | (intros; (try simp only [zaG, zaH, zaE, zaD, zaB, zaC, decide_eq_true_eq, decide_eq_false_iff_not] at *); omega))
  rw [← s2]
  refine le_mk (m + 1) ?_ hlt (by show T.length - (m + 1) < T.length - m; omega)
  (refine imp_ren _ _ _ [(0, 0, ⟨Ints (K (m + 1)), 1⟩)] (by simp) (by simp) (by simp) (zaF rfl) ?_ rfl (by simp only [zab, zad, false_implies, implies_true, and_true, zaQ, lookR, zaa, if_true, if_false, ↓reduceIte] <;> (repeat' apply zaI) <;> (first | rfl | trivial)) (by simp only [zab, zad, false_implies, implies_true, and_true, true_and, flat_cons, flat_nil, flat_ints, flat_bools, flat_app, zaK, and_self, eq_self_iff_true, zac]); simp only [zam, zaq, zab, zad, false_implies, implies_true, and_true, lk, slot, zaL, zaJ, toN, zaa, if_true, if_false, ↓reduceIte, reduceCtorEq])
  all_goals ((repeat' apply zaI) <;> (first | rfl | trivial | (simp only [zaM]; done) | (simp only [zaM]; rfl) | (simp only [zaM]; trivial)))
theorem vt_ct {l : List Nd} {n : Int} (h : VT l n) : CtR l := fun x hx => by
  have := (h.vl.all x hx).2
  unfold rngOk at this
  simp only [zaG, decide_eq_true_eq] at this
  omega
theorem HI.ct {q : Hy} (h : HI q) : CtR q.1 := vt_ct h.p.v
def inP (p : Int) (x : Tk) : Bool := decide (x.p = p)
def thM6 (l : List Nd) (n : Int) (T : List Tk) (h p : Int) : List Int := chsM (inP p) l n T h
theorem inP1_spec (g : Int) (x : Tk) : FnSpec Try.prog 43 [.agg (tkc x), .one (.gptr [int g] 0)] [] (b1 (inP g x)) [] := by
  obtain ⟨i, p, gg, u⟩ := x
  unfold inP
  simp only [tkc]
  refine fnspec_of mixed TT_ok TT_cl ⟨fun _ => false, fun _ => [], 0, fun _ => false, fun _ => false⟩ Try.func43 rfl (by kernel_rfl) rfl 8 rfl [.tmp 3] rfl ?_
  simp only [go_sem, zaa, zat, zau, zav, zax, zan, ↓reduceIte, reduceCtorEq, zae, zai, zay, zaz, zaA, zal, zao, zac, zap, zar, zaj, zak, zag, zas, zaw, zaf, zah]
  repeat' (first
 | exact fs_nil trivial rfl
 | fail)
set_option maxHeartbeats 8000000 in
theorem mthreads_spec (l : List Nd) (n : Int) (T : List Tk) (h g : Int) (hl : l.length ≤ 1000000) (hT : T.length ≤ 1000000) (hnm : NmR l) (hct : CtR l) : FnSpec Try.prog 15 [hyV l none n T none h, i1 g] [] (gi (thM6 l n T h g) none) [] := by
  have h1 := mchoose_spec 43 [int g] (inP g) l n T h (fun x _ => inP1_spec g x) hl hT hnm hct
  rw [show chsM (inP g) l n T h = thM6 l n T h g from rfl] at h1
  generalize thM6 l n T h g = W at *
  refine fnspec_of mixed TT_ok TT_cl ⟨fun _ => false, fun _ => [], 0 , fun _ => false, fun i => if i = 1 then true else false⟩ Try.func15 rfl (by kernel_rfl) rfl 8 rfl [.tmp 4] rfl ?_
  simp only [go_sem, zaa, zat, zau, zav, zax, zan, ↓reduceIte, reduceCtorEq, zae, zai, zay, zaz, zaA, zal, zao, zac, zap, zar, zaj, zak, zag, zas, zaw, zaf, zah]
  repeat' (first
 | (intros; (try simp only [zaG, zaH, zaE, zaD, zaB, zaC, decide_eq_true_eq, decide_eq_false_iff_not] at *); omega))
  (refine rgf_t _ (imp_frz _ _ 1 ⟨[int g], 1⟩ (by simp only [zaQ, lookR, zaa, if_true, if_false, ↓reduceIte]) (by first | exact Ints_isG _ | exact Bools_isG _ | exact Cs_isG _ | (simp [Cell.isG]; done))) ?_; simp only [frzTm, SV.frz, SV.frzL, Cell.frz, frzHp, frzO, Ints_frz, Bools_frz, zam, zaq, zaa, if_true, if_false, ↓reduceIte])
  simp only [go_sem, zaa, zat, zau, zav, zax, zan, ↓reduceIte, reduceCtorEq, zae, zai, zay, zaz, zaA, zal, zao, zac, zap, zar, zaj, zak, zag, zas, zaw, zaf, zah]
  repeat' (first
 | (apply cl_plain
    case hs => rfl
    case ha => (simp only [zam, zaq, prepV, prepC, idx, hpL', lookR, zaa, if_true, if_false]; rfl)
    case h => (first | exact h1 ..))
 | ((first | refine s1_id ?_ | refine swp_id ?_ | refine sops_id ?_ | refine s2_id ?_); simp only [zal, zao, zac, zap, zar, zaj, zak, zag, zas, zaw, zaf, zah, go_sem, zaa, zat, zau, zav, zax, zan, ↓reduceIte, reduceCtorEq, zae, zai, zay, zaz, zaA, zaL, zaN, zaJ, zaO, renO, bk, back, outUpsFrom, Ints_ren])
 | exact fs_nil trivial rfl
 | fail)
end Go.Proofs.Ytnahpejlhfeleab
-- NEWGO
-- PRUNE: cl_lendx cl_use
-- ISG: Cs_isG
-- FLAT: Cs_flat
namespace Go.Proofs.Ytnahpejlhfeleab
set_option linter.unusedVariables false
set_option linter.unusedSimpArgs false
open Go.Proofs.Ytnahpejlhfeleab.Sh
set_option maxRecDepth 20000
structure HJ (q : Hy) (B : Int) : Prop where
  i : HI q
  n : q.2.2.2 ≤ B
theorem sp_n (L : List Int) (s : Hy × Nat) (hs : HI s.1) : (spM L s).1.2.2.2 ≤ s.1.2.2.2 + 2 := by
  unfold spM
  split
  · have h1 := sp1_ok L (s.1, dgA L s.1.1 s.2) (dgV L s.1.1 s.2) hs
    have e1 : (sp1 L (s.1, dgA L s.1.1 s.2) (dgV L s.1.1 s.2)).1.2.2.2 ≤ s.1.2.2.2 + 1 := by
      unfold sp1
      simp only
      split
      · rw [(hs.p.spawn (by assumption)).1]; simp
      · omega
    generalize sp1 L (s.1, dgA L s.1.1 s.2) (dgV L s.1.1 s.2) = a at *
    have h2 := sp2_ok L a h1
    have e2 : (sp2 L a).1.2.2.2 ≤ a.1.2.2.2 + 1 := by
      unfold sp2
      split
      · simp only
        split
        · obtain ⟨x, _, _, e, _⟩ := h1.p.clone (by assumption)
          rw [e]; simp
        · omega
      · simp only; omega
    generalize sp2 L a = b at *
    have h3 := sp3_ok L b h2
    have e3 : (sp3 L b).1.2.2.2 ≤ b.1.2.2.2 := by
      unfold sp3
      split
      · simp only
        split
        · rename_i e
          have e0 := (atM_ok e).1
          rw [e0] at e ⊢
          rw [(h2.p.place e).1]; simp
        · omega
      · simp only; omega
    generalize sp3 L b = c at *
    have e4 : (sp4 L c).1.2.2.2 ≤ c.1.2.2.2 := by
      unfold sp4
      split
      · simp only
        split
        · rw [(h3.p.exit (by assumption)).1]; simp
        · omega
      · simp only; omega
    omega
  · simp only; omega
theorem hL2_n (L : List Int) : ∀ (m : Nat) (s : Hy × Nat), HI s.1 → (hL2 L m s).1.2.2.2 ≤ s.1.2.2.2 + 2 * m
  | 0, _, _ => by rw [hL2]; omega
  | m + 1, s, h => by
    have h1 := hL2_n L m _ (spM_ok L s h)
    have h2 := sp_n L s h
    rw [hL2]; omega
theorem st_n (L : List Int) (s : Hy × Nat) : (stM L s).1.2.2 = s.1.2.2 := by
  obtain ⟨⟨l, n, T, h⟩, j⟩ := s
  unfold stM
  simp only
  split
  · simp only
    split
    · obtain ⟨_, e1, e2, _⟩ := enM_ok (by assumption)
      rw [e2, wrM_ok e1]
    · rfl
  · split
    · simp only
      split
      · rw [(cvM_ok (by assumption)).2.2.1]
      · rfl
    · split
      · split <;> rfl
      · rfl
theorem hL1_n (L : List Int) : ∀ (m : Nat) (s : Hy × Nat), (hL1 L m s).1.2.2 = s.1.2.2
  | 0, _ => rfl
  | m + 1, s => by rw [hL1, hL1_n L m, st_n]
theorem mkH_n (L : List Int) (j G K : Nat) : (mkH L j G K).1.2.2.2 ≤ 1 + 2 * (K : Int) := by
  unfold mkH
  have h0 : HI (mkH1 L j G).1 := hL1_ok L _ _ (HI_tree (mkT_ok L j G))
  have h1 := hL2_n L (nxV L (mkH1 L j G).2 ((K : Int) + 1)).toNat ((mkH1 L j G).1, nxA L (mkH1 L j G).2 ((K : Int) + 1)) h0
  have h2 := nx_rng L (mkH1 L j G).2 ((K : Int) + 1) (by omega)
  have h3 : (mkH1 L j G).1.2.2.2 = 1 := by unfold mkH1; rw [hL1_n]
  simp only at h1
  omega
theorem HyP.cnt {l : List Nd} {n : Int} {T : List Tk} {h : Int} (P : HyP l n T h) : (T.length : Int) < h := by
  have : ∀ (T : List Tk) (a : Int), T.Pairwise (fun x y => x.i < y.i) → (∀ x ∈ T, a ≤ x.i) → (∀ x ∈ T, x.i < h) → a ≤ h → a + T.length ≤ h := by
    intro T
    induction T with
    | nil => intro a _ _ _ h; simpa using h
    | cons x r ih =>
      intro a hp h1 h2 h3
      have hd := List.pairwise_cons.1 hp
      have hx := h1 x List.mem_cons_self
      have hy := h2 x List.mem_cons_self
      have := ih (x.i + 1) hd.2 (fun y hy => by have := hd.1 y hy; omega) (fun y hy => h2 y (List.mem_cons_of_mem _ hy)) (by omega)
      rw [zaf]; omega
  have := this T 1 P.asc P.pos P.nx P.h1
  omega
theorem chs_len (q : Tk → Bool) {l : List Nd} {n : Int} {T : List Tk} {h : Int} (P : HyP l n T h) : (chsM q l n T h).length = T.countP q := by
  unfold chsM
  rw [if_pos ((hyM_iff l n T h).2 P), List.length_map, zaP]
def lendW : FuncId → List Nat := fun f => if f = 10 then [0] else if f = 17 then [0] else if f = 26 then [0] else if f = 9 then [0] else []
end Go.Proofs.Ytnahpejlhfeleab
-- NEWGO
-- PRUNE: cl_lendx cl_use
-- ISG: Cs_isG
-- FLAT: Cs_flat
namespace Go.Proofs.Ytnahpejlhfeleab
set_option linter.unusedVariables false
set_option linter.unusedSimpArgs false
open Go.Proofs.Ytnahpejlhfeleab.Sh
set_option maxRecDepth 20000
theorem count_one {x : Tk} : ∀ {T : List Tk}, T.Pairwise (fun a b => a.i < b.i) → x ∈ T → T.countP (fun y => decide (y.i = x.i)) = 1
  | [], _, h => by cases h
  | y :: r, hp, h => by
    have hd := List.pairwise_cons.1 hp
    rw [List.countP_cons]
    by_cases e : y.i = x.i
    · rw [if_pos (decide_eq_true e), List.countP_eq_zero.2 (fun z hz => by have := hd.1 z hz; simp only [decide_eq_true_eq]; omega)]
    · rcases List.mem_cons.1 h with e2 | e2
      · exact absurd (by rw [e2]) e
      · rw [if_neg (by rw [decide_eq_false e]; decide), count_one hd.2 e2]
theorem gone_cnt {l : List Nd} {n : Int} {T : List Tk} {h : Int} (P : HyP l n T h) {x : Tk} (hx : x ∈ T) :
    (T.filter (fun y => !goB x.i y)).length + (if x.i = x.p then (thM6 l n T h x.p).length else 1) = T.length := by
  have h1 : (T.filter (fun y => !goB x.i y)).length + T.countP (goB x.i) = T.length := by
    rw [zaP]
    have := List.length_eq_countP_add_countP (goB x.i) (l := T)
    rw [zaP, zaP] at this
    have e : (fun a => decide ¬goB x.i a = true) = (fun y => !goB x.i y) := by funext y; cases goB x.i y <;> rfl
    rw [e] at this
    omega
  have h2 : T.countP (goB x.i) = if x.i = x.p then (thM6 l n T h x.p).length else 1 := by
    by_cases e : x.i = x.p
    · rw [if_pos e, show (thM6 l n T h x.p).length = T.countP (inP x.p) from chs_len _ P]
      apply List.countP_congr
      intro y hy
      unfold goB inP
      simp only [zaH, decide_eq_true_eq]
      constructor
      · rintro (c | c)
        · rw [tk_inj P.asc hy hx c]
        · omega
      · intro c; exact Or.inr (by omega)
    · rw [if_neg e, ← count_one P.asc hx]
      apply List.countP_congr
      intro y hy
      unfold goB
      simp only [zaH, decide_eq_true_eq]
      constructor
      · rintro (c | c)
        · exact c
        · exfalso
          obtain ⟨z, hz, z1, z2, _⟩ := P.p y hy
          have : z = x := tk_inj P.asc hz hx (by omega)
          subst this
          omega
      · intro c; exact Or.inl c
  omega
theorem gone_thr {l : List Nd} {n : Int} {T : List Tk} {h t : Int} (P : HyP l n (T.filter (fun y => !goB t y)) h) : (thM6 l n (T.filter (fun y => !goB t y)) h t).length = 0 := by
  rw [show (thM6 l n (T.filter (fun y => !goB t y)) h t).length = (T.filter (fun y => !goB t y)).countP (inP t) from chs_len _ P, List.countP_eq_zero]
  intro y hy
  have := (List.mem_filter.1 hy).2
  unfold goB at this
  unfold inP
  simp only [zaE, zaC] at this
  rw [this.2]; decide
set_option maxHeartbeats 8000000 in
theorem leaders6_spec (D : List Int) (hr : ∀ x ∈ D, -9223372036854775808 ≤ x ∧ x ≤ 9223372036854775807) : FnSpec Try.prog 5 [gi D none] [] (b1 true) [] := by
  by_cases hlen : (D.length : Int) ≤ 600
  case neg =>
    (try rw [if_neg hlen])
    refine fnspec_of mixed TT_ok TT_cl ⟨fun _ => false, lendW, 0, fun _ => false, fun _ => false⟩ Try.func5 rfl (by kernel_rfl) rfl 115 rfl [.tmp 2] rfl ?_
    simp only [go_sem, zaa, zat, zau, zav, zax, zan, ↓reduceIte, reduceCtorEq, zae, zai, zay, zaz, zaA, lendW, dice, decide_eq_false hlen, zal, zao, zac, zap, zar, zaj, zak, zag, zas, zaw, zaf, zah]
    repeat' (first
 | (apply cl_plain
    case hs => rfl
    case ha => (simp only [zam, zaq, prepV, prepC, idx, hpL', lookR, zaa, if_true, if_false]; rfl)
    case h => (first | exact light_spec .. | exact sane6_spec ..))
 | ((first | refine s1_id ?_ | refine swp_id ?_ | refine sops_id ?_ | refine s2_id ?_); simp only [lendW, dice, decide_eq_false hlen, zal, zao, zac, zap, zar, zaj, zak, zag, zas, zaw, zaf, zah, go_sem, zaa, zat, zau, zav, zax, zan, ↓reduceIte, reduceCtorEq, zae, zai, zay, zaz, zaA, zaL, zaN, zaJ, zaO, renO, bk, back, outUpsFrom, Ints_ren])
 | exact fs_nil trivial rfl
 | fail)
  (try rw [if_pos hlen])
  have hl : D.length ≤ 600 := by omega
  have hs := hier_spec D hl hr 0 4 9 (by decide) (by decide)
  have hq := mkH_ok D 0 4 9
  have hn := mkH_n D 0 4 9
  generalize mkH D 0 4 9 = H at *
  obtain ⟨⟨l, n, T, h⟩, j⟩ := H
  simp only at hs hq hn
  have hb := hq.b
  have hct : CtR l := hq.ct
  have hnm : NmR l := hb.nm
  have hbl : l.length ≤ 64 := hq.p.v.le
  have hbT : T.length ≤ 128 := hq.p.le
  have hP : HyP l n T h := hq.p
  have hcnt := hP.cnt
  have hcl := tk_len T
  by_cases h0 : (T.length : Int) = 0
  · (try rw [if_pos h0])
    refine fnspec_of mixed TT_ok TT_cl ⟨fun _ => false, lendW, 0, fun _ => false, fun _ => false⟩ Try.func5 rfl (by kernel_rfl) rfl 115 rfl [.tmp 2] rfl ?_
    simp only [go_sem, zaa, zat, zau, zav, zax, zan, ↓reduceIte, reduceCtorEq, zae, zai, zay, zaz, zaA, lendW, dice, decide_eq_true hlen, decide_eq_true h0, zal, zao, zac, zap, zar, zaj, zak, zag, zas, zaw, zaf, zah]
    repeat' (first
 | (apply cl_plain
    case hs => rfl
    case ha => (simp only [zam, zaq, prepV, prepC, idx, hpL', lookR, zaa, if_true, if_false]; rfl)
    case h => (first | exact light_spec .. | exact roll_spec .. | exact hs .. | exact sane6_spec ..))
 | (apply cl_lend
    case hr => (simp only [zam, zaq, hpL', lookR, zaa, if_true, if_false]; first | exact map1 _ | exact map2 _ _ | exact map3 _ _ _)
    case ha => (simp only [zam, zaq, prepV, prepC, idx, hpL', lookR, zaa, if_true, if_false]; rfl)
    case hs => rfl
    case hn => decide
    case h => (first | exact light_spec .. | exact roll_spec .. | exact hs .. | exact sane6_spec ..)
    case hf => (simp only [zab, zad, false_implies, implies_true, and_true, true_and, flat_cons, flat_nil, flat_ints, flat_bools, flat_app, Cs_flat, zaK, and_self, eq_self_iff_true, zac])
    case hl => (simp only [zaf, zah]; decide))
 | ((first | refine s1_id ?_ | refine swp_id ?_ | refine sops_id ?_ | refine s2_id ?_); simp only [lendW, dice, decide_eq_true hlen, decide_eq_true h0, zal, zao, zac, zap, zar, zaj, zak, zag, zas, zaw, zaf, zah, go_sem, zaa, zat, zau, zav, zax, zan, ↓reduceIte, reduceCtorEq, zae, zai, zay, zaz, zaA, zaL, zaN, zaJ, zaO, renO, bk, back, outUpsFrom, Ints_ren])
 | exact fs_nil trivial rfl
 | fail)
  (try rw [if_neg h0])
  have n1 := next_spec D j T.length hl hr (by omega)
  have r1 := nx_rng D j T.length (by omega)
  obtain ⟨a, ha, hal⟩ : ∃ a : Nat, nxV D j T.length = a ∧ a < T.length := ⟨(nxV D j T.length).toNat, by omega, by omega⟩
  rw [ha] at n1
  generalize nxA D j T.length = j1 at *
  clear r1 ha
  have hat := tk_td T a hal
  have hx := getD_mem T a ztk hal
  rw [show T.getD a ztk = gT T a from rfl] at hx
  have hex := mexit_spec l n T h (gT T a).i (by omega) (by omega) hnm hct
  have he : (exR l n T h (gT T a).i).2 = 0 := by
    unfold exR
    rw [if_pos ((hyM_iff l n T h).2 hP), (tk_at hP.asc hx).1, if_pos rfl]
  obtain ⟨e1, _, P2⟩ := hP.exit he
  rw [e1] at hex
  have hgc := gone_cnt hP hx
  have hg0 := gone_thr P2
  have ht1 := mthreads_spec l n T h (gT T a).p (by omega) (by omega) hnm hct
  generalize thM6 l n T h (gT T a).p = W1 at *
  generalize T.filter (fun y => !goB (gT T a).i y) = T2 at *
  have hT2 : T2.length ≤ 128 := P2.le
  have ht2 := mthreads_spec l n T2 h (gT T a).i (by omega) (by omega) hnm hct
  generalize thM6 l n T2 h (gT T a).i = W2 at *
  have hsp := mspawn_spec l n T2 h 1 0 (by omega) (by omega) hnm hct
  have he2 : (spR l n T2 h 1 0).2.2 = 0 := by
    have h1 : bsF Nd.i l 1 = true := (bs_nd P2.v 1).2 ⟨_, getD_mem l 0 zn P2.v.ne, P2.v.root.1⟩
    have h2 : T2.length ≠ 128 := by split at hgc <;> omega
    unfold spR adR
    rw [if_pos ((hyM_iff l n T2 h).2 P2), if_pos (by omega), if_pos h1, if_neg h2, if_neg (by omega)]
  obtain ⟨e3, P3⟩ := P2.spawn he2
  rw [e3] at hsp
  have hl3 : (T2 ++ [(⟨h, h, 1, 0⟩ : Tk)]).length = T2.length + 1 := snoc_len _ _
  generalize T2 ++ [(⟨h, h, 1, 0⟩ : Tk)] = T3 at *
  generalize gT T a = x at *
  obtain ⟨xi, xp, xg, xu⟩ := x
  simp only [tkc] at hat hex ht1 ht2 hgc
  have hl3' : (T3.length : Int) = (T2.length : Int) + 1 := by omega
  have hg0' : (W2.length : Int) = 0 := by omega
  by_cases ep : xi = xp
  · (try rw [if_pos ep])
    rw [if_pos ep] at hgc
    refine fnspec_of mixed TT_ok TT_cl ⟨fun _ => false, lendW, 0, fun _ => false, fun _ => false⟩ Try.func5 rfl (by kernel_rfl) rfl 115 rfl [.tmp 2] rfl ?_
    simp only [go_sem, zaa, zat, zau, zav, zax, zan, ↓reduceIte, reduceCtorEq, zae, zai, zay, zaz, zaA, lendW, dice, decide_eq_true hlen, decide_eq_false h0, hat, eq_self, decide_true, decide_eq_true hl3', decide_eq_true hg0', decide_eq_true ep, decide_eq_true (by omega : (T2.length : Int) = (T.length : Int) - (W1.length : Int)), zal, zao, zac, zap, zar, zaj, zak, zag, zas, zaw, zaf, zah]
    repeat' (first
 | with_reducible refine zaI ?_ ?_
 | (unfold OKC; kernel_rfl)
 | (unfold EDG; kernel_rfl)
 | (apply cg_tp
    case hl => rfl
    case ha => (simp only [zam, zaq, prepV, prepC, idx, hpL', lookR, zaa, if_true, if_false]; rfl)
    case hs => rfl
    case h => (first | exact light_spec .. | exact roll_spec .. | exact hs .. | exact n1 .. | exact hex .. | exact ht1 .. | exact ht2 .. | exact hsp ..))
 | (apply cl_plain
    case hs => rfl
    case ha => (simp only [zam, zaq, prepV, prepC, idx, hpL', lookR, zaa, if_true, if_false]; rfl)
    case h => (first | exact light_spec .. | exact roll_spec .. | exact hs .. | exact n1 .. | exact hex .. | exact ht1 .. | exact ht2 .. | exact hsp ..))
 | (apply cl_lend
    case hr => (simp only [zam, zaq, hpL', lookR, zaa, if_true, if_false]; first | exact map1 _ | exact map2 _ _ | exact map3 _ _ _)
    case ha => (simp only [zam, zaq, prepV, prepC, idx, hpL', lookR, zaa, if_true, if_false]; rfl)
    case hs => rfl
    case hn => decide
    case h => (first | exact light_spec .. | exact roll_spec .. | exact hs .. | exact n1 .. | exact hex .. | exact ht1 .. | exact ht2 .. | exact hsp ..)
    case hf => (simp only [zab, zad, false_implies, implies_true, and_true, true_and, flat_cons, flat_nil, flat_ints, flat_bools, flat_app, Cs_flat, zaK, and_self, eq_self_iff_true, zac])
    case hl => (simp only [zaf, zah]; decide))
 | ((first | refine s1_id ?_ | refine swp_id ?_ | refine sops_id ?_ | refine s2_id ?_); simp only [lendW, dice, decide_eq_true hlen, decide_eq_false h0, hat, eq_self, decide_true, decide_eq_true hl3', decide_eq_true hg0', decide_eq_true ep, decide_eq_true (by omega : (T2.length : Int) = (T.length : Int) - (W1.length : Int)), zal, zao, zac, zap, zar, zaj, zak, zag, zas, zaw, zaf, zah, go_sem, zaa, zat, zau, zav, zax, zan, ↓reduceIte, reduceCtorEq, zae, zai, zay, zaz, zaA, zaL, zaN, zaJ, zaO, renO, bk, back, outUpsFrom, Ints_ren])
 | (intros; omega)
 | (intros; (try simp only [zaG, zaH, zaE, zaD, zaB, zaC, decide_eq_true_eq, decide_eq_false_iff_not] at *); omega))
    refine w_loop (ι := Nat) (fun m => ⟨[(4, .one (.optr 0 0)), (10, i1 h), (101, i1 T.length), (102, i1 m)], [(0, some ⟨hyc l none n T none h, 4⟩)], 1⟩) (fun m => m ≤ T.length) (fun m => T.length - m) 0 ?_ (Nat.zero_le _) ?_
    · (refine imp_ren _ _ _ [(0, 9, ⟨hyc l none n T none h, 4⟩)] (by simp) (by simp) (by simp) (zaF rfl) ?_ rfl (by simp only [zab, zad, false_implies, implies_true, and_true, zaQ, lookR, zaa, if_true, if_false, ↓reduceIte] <;> (repeat' apply zaI) <;> (first | rfl | trivial)) (by simp only [zab, zad, false_implies, implies_true, and_true, true_and, flat_cons, flat_nil, flat_ints, flat_bools, flat_app, zaK, and_self, eq_self_iff_true, zac]); simp only [zam, zaq, zab, zad, false_implies, implies_true, and_true, lk, slot, zaL, zaJ, toN, zaa, if_true, if_false, ↓reduceIte, reduceCtorEq])
      all_goals ((repeat' apply zaI) <;> (first | rfl | trivial))
    clear hs n1 hex ht1 ht2 hsp
    rintro m hm
    simp only at hm ⊢
    rcases Nat.lt_or_ge m T.length with hlt | hge
    case inr =>
      have c : ¬ (m : Int) < (T.length : Int) := by omega
      simp only [go_sem, zaa, zat, zau, zav, zax, zan, ↓reduceIte, reduceCtorEq, zae, zai, zay, zaz, zaA, lendW, dice, decide_eq_true hlen, decide_eq_false h0, hat, eq_self, decide_true, decide_eq_true hl3', decide_eq_true hg0', decide_eq_true ep, decide_eq_true (by omega : (T2.length : Int) = (T.length : Int) - (W1.length : Int)), decide_eq_false c, zal, zao, zac, zap, zar, zaj, zak, zag, zas, zaw, zaf, zah]
      repeat' (first
 | (apply cl_plain
    case hs => rfl
    case ha => (simp only [zam, zaq, prepV, prepC, idx, hpL', lookR, zaa, if_true, if_false]; rfl)
    case h => (first | exact sane6_spec ..))
 | ((first | refine s1_id ?_ | refine swp_id ?_ | refine sops_id ?_ | refine s2_id ?_); simp only [lendW, dice, decide_eq_true hlen, decide_eq_false h0, hat, eq_self, decide_true, decide_eq_true hl3', decide_eq_true hg0', decide_eq_true ep, decide_eq_true (by omega : (T2.length : Int) = (T.length : Int) - (W1.length : Int)), decide_eq_false c, zal, zao, zac, zap, zar, zaj, zak, zag, zas, zaw, zaf, zah, go_sem, zaa, zat, zau, zav, zax, zan, ↓reduceIte, reduceCtorEq, zae, zai, zay, zaz, zaA, zaL, zaN, zaJ, zaO, renO, bk, back, outUpsFrom, Ints_ren])
 | exact fs_nil trivial rfl
 | fail)
    have c : (m : Int) < (T.length : Int) := by omega
    obtain ⟨q0, _⟩ := tk_q T m hlt (.sc (.int .i64 0))
    have hne : ¬ (gT T m).i = h := by have := hP.nx (gT T m) (getD_mem T m ztk hlt); omega
    simp only [go_sem, zaa, zat, zau, zav, zax, zan, ↓reduceIte, reduceCtorEq, zae, zai, zay, zaz, zaA, lendW, dice, decide_eq_true hlen, decide_eq_false h0, hat, eq_self, decide_true, decide_eq_true hl3', decide_eq_true hg0', decide_eq_true ep, decide_eq_true (by omega : (T2.length : Int) = (T.length : Int) - (W1.length : Int)), decide_eq_true c, q0, decide_eq_false hne, zal, zao, zac, zap, zar, zaj, zak, zag, zas, zaw, zaf, zah]
    repeat' (first
 | with_reducible refine zaI ?_ ?_
 | (intros; omega)
 | (intros; (try simp only [zaG, zaH, zaE, zaD, zaB, zaC, decide_eq_true_eq, decide_eq_false_iff_not] at *); omega))
    refine le_mk (m + 1) ?_ hlt (by show T.length - (m + 1) < T.length - m; omega)
    (refine imp_ren _ _ _ [(0, 0, ⟨hyc l none n T none h, 4⟩)] (by simp) (by simp) (by simp) (zaF rfl) ?_ rfl (by simp only [zab, zad, false_implies, implies_true, and_true, zaQ, lookR, zaa, if_true, if_false, ↓reduceIte] <;> (repeat' apply zaI) <;> (first | rfl | trivial)) (by simp only [zab, zad, false_implies, implies_true, and_true, true_and, flat_cons, flat_nil, flat_ints, flat_bools, flat_app, zaK, and_self, eq_self_iff_true, zac]); simp only [zam, zaq, zab, zad, false_implies, implies_true, and_true, lk, slot, zaL, zaJ, toN, zaa, if_true, if_false, ↓reduceIte, reduceCtorEq])
    all_goals ((repeat' apply zaI) <;> (first | rfl | trivial | (simp only [zaM]; done) | (simp only [zaM]; rfl) | (simp only [zaM]; trivial)))
  (try rw [if_neg ep])
  rw [if_neg ep] at hgc
  refine fnspec_of mixed TT_ok TT_cl ⟨fun _ => false, lendW, 0, fun _ => false, fun _ => false⟩ Try.func5 rfl (by kernel_rfl) rfl 115 rfl [.tmp 2] rfl ?_
  simp only [go_sem, zaa, zat, zau, zav, zax, zan, ↓reduceIte, reduceCtorEq, zae, zai, zay, zaz, zaA, lendW, dice, decide_eq_true hlen, decide_eq_false h0, hat, eq_self, decide_true, decide_eq_true hl3', decide_eq_true hg0', decide_eq_false ep, decide_eq_true (by omega : (T2.length : Int) = (T.length : Int) - 1), zal, zao, zac, zap, zar, zaj, zak, zag, zas, zaw, zaf, zah]
  repeat' (first
 | with_reducible refine zaI ?_ ?_
 | (unfold OKC; kernel_rfl)
 | (unfold EDG; kernel_rfl)
 | (apply cg_tp
    case hl => rfl
    case ha => (simp only [zam, zaq, prepV, prepC, idx, hpL', lookR, zaa, if_true, if_false]; rfl)
    case hs => rfl
    case h => (first | exact light_spec .. | exact roll_spec .. | exact hs .. | exact n1 .. | exact hex .. | exact ht1 .. | exact ht2 .. | exact hsp ..))
 | (apply cl_plain
    case hs => rfl
    case ha => (simp only [zam, zaq, prepV, prepC, idx, hpL', lookR, zaa, if_true, if_false]; rfl)
    case h => (first | exact light_spec .. | exact roll_spec .. | exact hs .. | exact n1 .. | exact hex .. | exact ht1 .. | exact ht2 .. | exact hsp ..))
 | (apply cl_lend
    case hr => (simp only [zam, zaq, hpL', lookR, zaa, if_true, if_false]; first | exact map1 _ | exact map2 _ _ | exact map3 _ _ _)
    case ha => (simp only [zam, zaq, prepV, prepC, idx, hpL', lookR, zaa, if_true, if_false]; rfl)
    case hs => rfl
    case hn => decide
    case h => (first | exact light_spec .. | exact roll_spec .. | exact hs .. | exact n1 .. | exact hex .. | exact ht1 .. | exact ht2 .. | exact hsp ..)
    case hf => (simp only [zab, zad, false_implies, implies_true, and_true, true_and, flat_cons, flat_nil, flat_ints, flat_bools, flat_app, Cs_flat, zaK, and_self, eq_self_iff_true, zac])
    case hl => (simp only [zaf, zah]; decide))
 | ((first | refine s1_id ?_ | refine swp_id ?_ | refine sops_id ?_ | refine s2_id ?_); simp only [lendW, dice, decide_eq_true hlen, decide_eq_false h0, hat, eq_self, decide_true, decide_eq_true hl3', decide_eq_true hg0', decide_eq_false ep, decide_eq_true (by omega : (T2.length : Int) = (T.length : Int) - 1), zal, zao, zac, zap, zar, zaj, zak, zag, zas, zaw, zaf, zah, go_sem, zaa, zat, zau, zav, zax, zan, ↓reduceIte, reduceCtorEq, zae, zai, zay, zaz, zaA, zaL, zaN, zaJ, zaO, renO, bk, back, outUpsFrom, Ints_ren])
 | (intros; omega)
 | (intros; (try simp only [zaG, zaH, zaE, zaD, zaB, zaC, decide_eq_true_eq, decide_eq_false_iff_not] at *); omega))
  refine w_loop (ι := Nat) (fun m => ⟨[(4, .one (.optr 0 0)), (10, i1 h), (101, i1 T.length), (102, i1 m)], [(0, some ⟨hyc l none n T none h, 4⟩)], 1⟩) (fun m => m ≤ T.length) (fun m => T.length - m) 0 ?_ (Nat.zero_le _) ?_
  · (refine imp_ren _ _ _ [(0, 9, ⟨hyc l none n T none h, 4⟩)] (by simp) (by simp) (by simp) (zaF rfl) ?_ rfl (by simp only [zab, zad, false_implies, implies_true, and_true, zaQ, lookR, zaa, if_true, if_false, ↓reduceIte] <;> (repeat' apply zaI) <;> (first | rfl | trivial)) (by simp only [zab, zad, false_implies, implies_true, and_true, true_and, flat_cons, flat_nil, flat_ints, flat_bools, flat_app, zaK, and_self, eq_self_iff_true, zac]); simp only [zam, zaq, zab, zad, false_implies, implies_true, and_true, lk, slot, zaL, zaJ, toN, zaa, if_true, if_false, ↓reduceIte, reduceCtorEq])
    all_goals ((repeat' apply zaI) <;> (first | rfl | trivial))
  clear hs n1 hex ht1 ht2 hsp
  rintro m hm
  simp only at hm ⊢
  rcases Nat.lt_or_ge m T.length with hlt | hge
  case inr =>
    have c : ¬ (m : Int) < (T.length : Int) := by omega
    simp only [go_sem, zaa, zat, zau, zav, zax, zan, ↓reduceIte, reduceCtorEq, zae, zai, zay, zaz, zaA, lendW, dice, decide_eq_true hlen, decide_eq_false h0, hat, eq_self, decide_true, decide_eq_true hl3', decide_eq_true hg0', decide_eq_false ep, decide_eq_true (by omega : (T2.length : Int) = (T.length : Int) - 1), decide_eq_false c, zal, zao, zac, zap, zar, zaj, zak, zag, zas, zaw, zaf, zah]
    repeat' (first
 | (apply cl_plain
    case hs => rfl
    case ha => (simp only [zam, zaq, prepV, prepC, idx, hpL', lookR, zaa, if_true, if_false]; rfl)
    case h => (first | exact sane6_spec ..))
 | ((first | refine s1_id ?_ | refine swp_id ?_ | refine sops_id ?_ | refine s2_id ?_); simp only [lendW, dice, decide_eq_true hlen, decide_eq_false h0, hat, eq_self, decide_true, decide_eq_true hl3', decide_eq_true hg0', decide_eq_false ep, decide_eq_true (by omega : (T2.length : Int) = (T.length : Int) - 1), decide_eq_false c, zal, zao, zac, zap, zar, zaj, zak, zag, zas, zaw, zaf, zah, go_sem, zaa, zat, zau, zav, zax, zan, ↓reduceIte, reduceCtorEq, zae, zai, zay, zaz, zaA, zaL, zaN, zaJ, zaO, renO, bk, back, outUpsFrom, Ints_ren])
 | exact fs_nil trivial rfl
 | fail)
  have c : (m : Int) < (T.length : Int) := by omega
  obtain ⟨q0, _⟩ := tk_q T m hlt (.sc (.int .i64 0))
  have hne : ¬ (gT T m).i = h := by have := hP.nx (gT T m) (getD_mem T m ztk hlt); omega
  simp only [go_sem, zaa, zat, zau, zav, zax, zan, ↓reduceIte, reduceCtorEq, zae, zai, zay, zaz, zaA, lendW, dice, decide_eq_true hlen, decide_eq_false h0, hat, eq_self, decide_true, decide_eq_true hl3', decide_eq_true hg0', decide_eq_false ep, decide_eq_true (by omega : (T2.length : Int) = (T.length : Int) - 1), decide_eq_true c, q0, decide_eq_false hne, zal, zao, zac, zap, zar, zaj, zak, zag, zas, zaw, zaf, zah]
  repeat' (first
 | with_reducible refine zaI ?_ ?_
 | (intros; omega)
 | (intros; (try simp only [zaG, zaH, zaE, zaD, zaB, zaC, decide_eq_true_eq, decide_eq_false_iff_not] at *); omega))
  refine le_mk (m + 1) ?_ hlt (by show T.length - (m + 1) < T.length - m; omega)
  (refine imp_ren _ _ _ [(0, 0, ⟨hyc l none n T none h, 4⟩)] (by simp) (by simp) (by simp) (zaF rfl) ?_ rfl (by simp only [zab, zad, false_implies, implies_true, and_true, zaQ, lookR, zaa, if_true, if_false, ↓reduceIte] <;> (repeat' apply zaI) <;> (first | rfl | trivial)) (by simp only [zab, zad, false_implies, implies_true, and_true, true_and, flat_cons, flat_nil, flat_ints, flat_bools, flat_app, zaK, and_self, eq_self_iff_true, zac]); simp only [zam, zaq, zab, zad, false_implies, implies_true, and_true, lk, slot, zaL, zaJ, toN, zaa, if_true, if_false, ↓reduceIte, reduceCtorEq])
  all_goals ((repeat' apply zaI) <;> (first | rfl | trivial | (simp only [zaM]; done) | (simp only [zaM]; rfl) | (simp only [zaM]; trivial)))
theorem leaders6_main (g0 : List Cell) (s0 : GTy Try.prog 12 22 g0) : FnSpec Try.prog 5 [svOf Try.prog 22 g0] [] (b1 true) [] := by
  obtain ⟨l0, rfl, hl0, hr0⟩ := gty_ints (n := 10) Try.underlying22 Try.underlying3 s0
  simp only [svOf, Try.underlying22, List.headD_cons]
  exact leaders6_spec l0 hr0
end Go.Proofs.Ytnahpejlhfeleab
