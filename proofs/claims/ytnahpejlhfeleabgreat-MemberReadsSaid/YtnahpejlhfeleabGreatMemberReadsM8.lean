/- Contracts of functions, told of values, on the way to MemberReads (part 8). -/
import Derived.Test.YtnahpejlhfeleabGreatMemberReadsM3
import Derived.Test.YtnahpejlhfeleabGreatMemberReadsM7
import Derived.Test.YtnahpejlhfeleabGreatMemberReadsM4
import Derived.Test.YtnahpejlhfeleabGreatMemberReadsM5
import Derived.Test.YtnahpejlhfeleabGreatMemberReadsM6
namespace Go.Proofs.YtnahpejlhfeleabGreat
theorem yha {p : Prop} (h : p := by first | (intros; (try simp only [zaF, zaG, zaE, zaD, zaz, zaA, decide_eq_true_eq, decide_eq_false_iff_not] at *); omega) | fail) : p := h
theorem yhb {p : Prop} (h : p := by first | (simp only [zaj, zar, prepV, prepC, idx, hpL', lookR, zaa, if_true, if_false]; rfl) | fail) : p := h
theorem yhc {p : Prop} (h : p := by first | (simp only [zab, zaf, false_implies, implies_true, and_true, true_and, flat_cons, flat_nil, flat_ints, flat_bools, flat_app, Cs_flat, zaN, and_self, eq_self_iff_true, zae]) | fail) : p := h
theorem yhd {p : Prop} (h : p := by first | (simp only [zaj, zar, hpL', lookR, zaa, if_true, if_false]; first | exact map1 _ | exact map2 _ _ | exact map3 _ _ _) | fail) : p := h
theorem yhe {p : Prop} (h : p := by first | (simp only [zag, zam]; decide) | fail) : p := h
theorem yhf {p : Prop} (h : p := by first | (simp only [zab, zaf, false_implies, implies_true, and_true, true_and, flat_cons, flat_nil, flat_ints, flat_bools, flat_app, hfl, zaN, and_self, eq_self_iff_true, zae]) | fail) : p := h
theorem yhg {p : Prop} (h : p := by first | (first | exact h1 .. | exact h2 ..) | fail) : p := h
theorem yhh {p : Prop} (h : p := by first | (first | exact tk .. | exact cc ..) | fail) : p := h
theorem yhi {p : Prop} (h : p := by first | (intros; omega) | fail) : p := h
theorem yhj {p : Prop} (h : p := by first | (first | exact tk .. | exact gg .. | exact cc ..) | fail) : p := h
theorem yhk {p : Prop} (h : p := by first | (first | exact h1 ..) | fail) : p := h
end Go.Proofs.YtnahpejlhfeleabGreat
-- short names of the library's lemmas
open Nat renaming reduceEqDiff → zaa, reduceLeDiff → zah, reduceAdd → zao, reduceSub → zap, reduceMul → zaq, reduceLT → zau, le_of_ble_eq_true → zaI, zero_le → zba, le_refl → zbc, lt_or_ge → zbf
open List renaming forall_mem_cons → zab, reduceReplicate → zac, append_nil → zae, not_mem_nil → zaf, length_cons → zag, take_succ_cons → zai, map_cons → zaj, set_cons_zero → zak, set_cons_succ → zal, length_nil → zam, flatten_cons → zan, map_nil → zar, flatten_nil → zas, cons_append → zat, nil_append → zay, take_zero → zaB, take_nil → zaC, length_append → zaK, mem_cons_of_mem → zaL, mem_cons_self → zaM, range' → zaP, getD_cons_zero → zaT, getD_cons_succ → zaU, take_of_length_le → zaV, length_range' → zaX, nodup_cons → zbb, mem_cons → zbd, length_singleton → zbe, flatMap_append → zbg, take → zbi
open Int renaming cast_ofNat_Int → zad, reduceEq → zav, reduceLT → zaw, reduceLE → zax, natCast_add → zaO
open Option renaming getD_some → zaY, getD_none → zaZ
open Bool renaming and_eq_false_iff → zaz, or_eq_false_iff → zaA, not_eq_false' → zaD, not_eq_true' → zaE, and_eq_true → zaF, or_eq_true → zaG
open And renaming intro → zaH
open Go.Proofs.YtnahpejlhfeleabGreat.Sh.Cell renaming ren → zaJ, refs → zaN, frz → zbh
open Go.Proofs.YtnahpejlhfeleabGreat.Sh.SV renaming ren → zaQ, renL → zaS
open Go.Proofs.YtnahpejlhfeleabGreat.Sh.Row renaming ren → zaR
open Go.Proofs.YtnahpejlhfeleabGreat.Sh.St renaming hpF → zaW
set_option linter.unusedSimpArgs false
set_option linter.unusedVariables false
namespace Go.Proofs.YtnahpejlhfeleabGreat
open Go.Proofs.YtnahpejlhfeleabGreat.Sh
set_option maxRecDepth 20000
def sp1 (L : List Int) (s : Hy × Nat) (g : Int) : Hy × Nat :=
  (if (spR s.1.1 s.1.2.1 s.1.2.2.1 s.1.2.2.2 g (nxV L s.2 3)).2.2 = 0 then (spR s.1.1 s.1.2.1 s.1.2.2.1 s.1.2.2.2 g (nxV L s.2 3)).1 else s.1, nxA L s.2 3)
def sp2 (L : List Int) (s : Hy × Nat) : Hy × Nat :=
  if nxV L s.2 3 = 2 then (if (clR s.1.1 s.1.2.1 s.1.2.2.1 s.1.2.2.2 (dtV L s.1.2.2.1 (nxA L s.2 3))).2.2 = 0 then (clR s.1.1 s.1.2.1 s.1.2.2.1 s.1.2.2.2 (dtV L s.1.2.2.1 (nxA L s.2 3))).1 else s.1, dtA L s.1.2.2.1 (nxA L s.2 3)) else (s.1, nxA L s.2 3)
def sp3 (L : List Int) (s : Hy × Nat) : Hy × Nat :=
  if nxV L s.2 4 = 3 then (if (atM s.1.1 s.1.2.1 s.1.2.2.1 s.1.2.2.2 (dtV L s.1.2.2.1 (nxA L s.2 4)) (dgV L s.1.1 (dtA L s.1.2.2.1 (nxA L s.2 4)))).2 = 0 then (atM s.1.1 s.1.2.1 s.1.2.2.1 s.1.2.2.2 (dtV L s.1.2.2.1 (nxA L s.2 4)) (dgV L s.1.1 (dtA L s.1.2.2.1 (nxA L s.2 4)))).1 else s.1, dgA L s.1.1 (dtA L s.1.2.2.1 (nxA L s.2 4))) else (s.1, nxA L s.2 4)
def sp4 (L : List Int) (s : Hy × Nat) : Hy × Nat :=
  if nxV L s.2 8 = 7 then (if (exR s.1.1 s.1.2.1 s.1.2.2.1 s.1.2.2.2 (dtV L s.1.2.2.1 (nxA L s.2 8))).2 = 0 then (exR s.1.1 s.1.2.1 s.1.2.2.1 s.1.2.2.2 (dtV L s.1.2.2.1 (nxA L s.2 8))).1 else s.1, dtA L s.1.2.2.1 (nxA L s.2 8)) else (s.1, nxA L s.2 8)
def spM (L : List Int) (s : Hy × Nat) : Hy × Nat :=
  if amM s.1.1 s.1.2.1 s.1.2.2.1 s.1.2.2.2 (dgV L s.1.1 s.2) = 0 then sp4 L (sp3 L (sp2 L (sp1 L (s.1, dgA L s.1.1 s.2) (dgV L s.1.1 s.2)))) else (s.1, dgA L s.1.1 s.2)
theorem atM_ok {l : List Nd} {n : Int} {T : List Tk} {h t g : Int} (he : (atM l n T h t g).2 = 0) : atM l n T h t g = plR l n T h t g ∧ amM l n T h g = 0 ∧ (dmM l n g).1 = (dmM l n (fiR l n T h t).1.g).1 ∧ (fiR l n T h t).2 = true ∧ ftM l n T h = true := by
 unfold atM at *
 by_cases a : ftM l n T h = true
 · rw [if_pos a] at he ⊢
   by_cases b : (!(fiR l n T h t).2 || !hasM l n g) = true
   · rw [if_pos b] at he; cases he
   rw [if_neg b] at he ⊢
   by_cases c : amM l n T h g = 0
   · rw [if_pos c] at he ⊢
     by_cases d : (dmM l n g).1 = (dmM l n (fiR l n T h t).1.g).1
     · rw [if_pos d]
       simp only [zaG, zaE, not_or, Bool.not_eq_false] at b
       exact ⟨rfl, c, d, b.1, a⟩
     · rw [if_neg d] at he; cases he
   · rw [if_neg c] at he; exact absurd he c
 · rw [if_neg a] at he; cases he
theorem sp1_ok (L : List Int) (s : Hy × Nat) (g : Int) (hs : HI s.1) : HI (sp1 L s g).1 := by
 unfold sp1
 by_cases e : (spR s.1.1 s.1.2.1 s.1.2.2.1 s.1.2.2.2 g (nxV L s.2 3)).2.2 = 0
 · obtain ⟨e1, e2⟩ := hs.p.spawn e
   rw [if_pos e, e1]
   exact ⟨e2, hs.nm⟩
 · rw [if_neg e]; exact hs
theorem sp2_ok (L : List Int) (s : Hy × Nat) (hs : HI s.1) : HI (sp2 L s).1 := by
 unfold sp2
 split
 · by_cases e : (clR s.1.1 s.1.2.1 s.1.2.2.1 s.1.2.2.2 (dtV L s.1.2.2.1 (nxA L s.2 3))).2.2 = 0
   · obtain ⟨x, _, _, e1, e2⟩ := hs.p.clone e
     simp only
     rw [if_pos e, e1]
     exact ⟨e2, hs.nm⟩
   · simp only
     rw [if_neg e]; exact hs
 · exact hs
theorem sp3_ok (L : List Int) (s : Hy × Nat) (hs : HI s.1) : HI (sp3 L s).1 := by
 unfold sp3
 split
 · by_cases e : (atM s.1.1 s.1.2.1 s.1.2.2.1 s.1.2.2.2 (dtV L s.1.2.2.1 (nxA L s.2 4)) (dgV L s.1.1 (dtA L s.1.2.2.1 (nxA L s.2 4)))).2 = 0
   · simp only
     rw [if_pos e]
     obtain ⟨e0, _⟩ := atM_ok e
     rw [e0] at e ⊢
     obtain ⟨e1, _, _, e2⟩ := hs.p.place e
     rw [e1]
     exact ⟨e2, hs.nm⟩
   · simp only
     rw [if_neg e]; exact hs
 · exact hs
theorem sp4_ok (L : List Int) (s : Hy × Nat) (hs : HI s.1) : HI (sp4 L s).1 := by
 unfold sp4
 split
 · by_cases e : (exR s.1.1 s.1.2.1 s.1.2.2.1 s.1.2.2.2 (dtV L s.1.2.2.1 (nxA L s.2 8))).2 = 0
   · simp only
     rw [if_pos e]
     obtain ⟨e1, _, e2⟩ := hs.p.exit e
     rw [e1]
     exact ⟨e2, hs.nm⟩
   · simp only
     rw [if_neg e]; exact hs
 · exact hs
theorem spM_ok (L : List Int) (s : Hy × Nat) (hs : HI s.1) : HI (spM L s).1 := by
 unfold spM
 split
 · exact sp4_ok L _ (sp3_ok L _ (sp2_ok L _ (sp1_ok L _ _ hs)))
 · exact hs
def hL1 (L : List Int) : Nat → Hy × Nat → Hy × Nat
  | 0, s => s
  | m + 1, s => hL1 L m (stM L s)
def hL2 (L : List Int) : Nat → Hy × Nat → Hy × Nat
  | 0, s => s
  | m + 1, s => hL2 L m (spM L s)
theorem hL1_ok (L : List Int) : ∀ (m : Nat) (s : Hy × Nat), HI s.1 → HI (hL1 L m s).1
  | 0, _, h => h
  | m + 1, s, h => hL1_ok L m _ (stM_ok L s h)
theorem hL2_ok (L : List Int) : ∀ (m : Nat) (s : Hy × Nat), HI s.1 → HI (hL2 L m s).1
  | 0, _, h => h
  | m + 1, s, h => hL2_ok L m _ (spM_ok L s h)
def mkH1 (L : List Int) (j G : Nat) : Hy × Nat := hL1 L (nxV L (mkT L j G).2 ((G : Int) + 3)).toNat (((mkT L j G).1.1, (mkT L j G).1.2, [], 1), nxA L (mkT L j G).2 ((G : Int) + 3))
def mkH (L : List Int) (j G K : Nat) : Hy × Nat := hL2 L (nxV L (mkH1 L j G).2 ((K : Int) + 1)).toNat ((mkH1 L j G).1, nxA L (mkH1 L j G).2 ((K : Int) + 1))
theorem HI_tree {l : List Nd} {n : Int} {B : Nat} (h : TI l n B) : HI (l, n, [], 1) where
  p := ⟨h.v.vt, zba _, List.Pairwise.nil, (fun x hx => by cases hx), (fun x hx => by cases hx), Int.le_refl 1, (by show (1 : Int) ≤ 2147483648; decide), (fun x hx => by cases hx), (fun x hx => by cases hx), (fun x hx => by cases hx)⟩
  nm := h.nm
theorem mkH_ok (L : List Int) (j G K : Nat) : HI (mkH L j G K).1 := hL2_ok L _ _ (hL1_ok L _ _ (HI_tree (mkT_ok L j G)))
def lendY : FuncId → List Nat := fun f => if f = 42 then [0] else if f = 13 then [0] else if f = 47 then [0] else if f = 14 then [0] else if f = 45 then [0] else if f = 44 then [0] else []
theorem rnew6z_spec : FnSpec Tryz.prog 30 [] [] (hyV kR none 2 [] none 1) [] := rnew6_spec
set_option maxHeartbeats 16000000 in
theorem hier_spec (L : List Int) (hl : L.length ≤ 600) (hr : ∀ x ∈ L, -9223372036854775808 ≤ x ∧ x ≤ 9223372036854775807) (j G K : Nat) (hG : G ≤ 40) (hK : K ≤ 100) : FnSpec Tryz.prog 9 [dp, i1 G, i1 K] [dice L j] (hyQ (mkH L j G K).1) [some (dice L (mkH L j G K).2)] := by
 have h1 := tree_spec L hl hr j G (by omega)
 have hT := mkT_ok L j G
 have n1 := next_spec L (mkT L j G).2 ((G : Int) + 3) hl hr (by omega)
 have r1 := nx_rng L (mkT L j G).2 ((G : Int) + 3) (by omega)
 obtain ⟨H, hH⟩ : ∃ H, mkH L j G K = H := ⟨_, rfl⟩
 obtain ⟨H1, hH1⟩ : ∃ H1, mkH1 L j G = H1 := ⟨_, rfl⟩
 rw [hH]
 unfold mkH at hH
 rw [hH1] at hH
 unfold mkH1 at hH1
 generalize mkT L j G = t at *
 obtain ⟨⟨tl, tn⟩, j1⟩ := t
 simp only at h1 n1 r1 hT hH1
 obtain ⟨c1, hc1, hc2⟩ : ∃ c : Nat, nxV L j1 ((G : Int) + 3) = c ∧ c ≤ G + 2 := ⟨(nxV L j1 ((G : Int) + 3)).toNat, by omega, by omega⟩
 rw [hc1, Int.toNat_natCast] at hH1
 rw [hc1] at n1
 generalize nxA L j1 ((G : Int) + 3) = j2 at *
 have hh0 := HI_tree hT
 refine fnspec_of mixed TT_ok TT_cl ⟨fun i => if i = 63 then true else if i = 66 then true else if i = 80 then true else if i = 97 then true else false, lendY, 1, fun _ => false, fun _ => false⟩ Tryz.func9 rfl (by kernel_rfl) rfl 110 rfl [.cell 6 28] rfl ?_
 simp only [go_sem, zaa, zao, zap, zaq, zau, zah, ↓reduceIte, reduceCtorEq, zac, zad, zav, zaw, zax, lendY, dice, zan, zas, zae, zat, zay, zak, zal, zai, zaB, zaC, zag, zam]
 repeat' (first
 | with_reducible refine zaH ?_ ?_
 | (apply cl_plain
    case hs => rfl
    case ha => exact yhb
    case h => (first | exact rnew6z_spec .. | exact h1 .. | exact n1 ..))
 | (apply cl_lend
    case hr => exact yhd
    case ha => exact yhb
    case hs => rfl
    case hn => decide
    case h => (first | exact rnew6z_spec .. | exact h1 .. | exact n1 ..)
    case hf => exact yhc
    case hl => exact yhe)
 | ((first | refine s1_id ?_ | refine swp_id ?_ | refine sops_id ?_ | refine s2_id ?_); simp only [lendY, dice, zan, zas, zae, zat, zay, zak, zal, zai, zaB, zaC, zag, zam, go_sem, zaa, zao, zap, zaq, zau, zah, ↓reduceIte, reduceCtorEq, zac, zad, zav, zaw, zax, zaQ, zaS, zaJ, zaR, renO, bk, back, outUpsFrom, Ints_ren])
 | exact yhi
 | exact yha | fail)
 refine w_loop (ι := Nat × Hy × Nat) (fun s => ⟨[(0, dp), (2, i1 K), (6, .one (.optr 1 0)), (7, .one (.optr 2 0)), (8, i1 s.1)], [(0, some (dice L s.2.2)), (1, some ⟨[.sc (.slice none 0 0), int 0, .sc (.slice none 0 0), int 0], 4⟩), (2, some ⟨hyc s.2.1.1 none s.2.1.2.1 s.2.1.2.2.1 none s.2.1.2.2.2, 4⟩)], 3⟩) (fun s => hL1 L s.1 s.2 = H1 ∧ HI s.2.1 ∧ s.1 ≤ G + 2) (fun s => s.1) (c1, ((tl, tn, [], 1), j2)) ?_ ⟨hH1, hh0, hc2⟩ ?_
 · (refine imp_ren _ _ _ [(0, 0, dice L j2), (1, 1, ⟨[.sc (.slice none 0 0), int 0, .sc (.slice none 0 0), int 0], 4⟩), (2, 3, ⟨[.gsl (Cs tl) 0 tl.length none, int tn, .gsl (Cs []) 0 0 none, int 1], 4⟩)] (by simp) (by simp) (by simp) (zaI rfl) ?_ rfl (by simp only [zab, zaf, false_implies, implies_true, and_true, zaW, lookR, zaa, if_true, if_false, ↓reduceIte, dice] <;> (repeat' apply zaH) <;> (first | rfl | trivial)) (by simp only [zab, zaf, false_implies, implies_true, and_true, true_and, flat_cons, flat_nil, flat_ints, flat_bools, flat_app, zaN, and_self, eq_self_iff_true, zae, dice]); simp only [zaj, zar, zab, zaf, false_implies, implies_true, and_true, lk, slot, zaQ, zaJ, toN, zaa, if_true, if_false, ↓reduceIte, reduceCtorEq])
   all_goals ((repeat' apply zaH) <;> (first | rfl | trivial))
 clear n1 r1 hT h1 hH1 hc1 hh0
 rintro ⟨m, ⟨⟨l, n, T, h⟩, j⟩⟩ ⟨hI, hq, hm⟩
 simp only at hI hq hm ⊢
 cases m with
 | succ m =>
   have c : (0 : Int) < ((m + 1 : Nat) : Int) := by omega
   have e2 : ((m + 1 : Nat) : Int) - 1 = (m : Int) := by omega
   have h2 := hstep_spec L hl hr j (l, n, T, h) hq
   have hq2 := stM_ok L ((l, n, T, h), j) hq
   rw [hL1] at hI
   generalize stM L ((l, n, T, h), j) = S at *
   obtain ⟨⟨l', n', T', h'⟩, j'⟩ := S
   simp only at h2 hq2
   simp only [go_sem, zaa, zao, zap, zaq, zau, zah, ↓reduceIte, reduceCtorEq, zac, zad, zav, zaw, zax, decide_eq_true c, e2, lendY, dice, zan, zas, zae, zat, zay, zak, zal, zai, zaB, zaC, zag, zam]
   repeat' (first
 | with_reducible refine zaH ?_ ?_
 | (apply cl_lend
    case hr => exact yhd
    case ha => exact yhb
    case hs => rfl
    case hn => decide
    case h => (first | exact h2 ..)
    case hf => exact yhc
    case hl => exact yhe)
 | ((first | refine s1_id ?_ | refine swp_id ?_ | refine sops_id ?_ | refine s2_id ?_); simp only [decide_eq_true c, e2, lendY, dice, zan, zas, zae, zat, zay, zak, zal, zai, zaB, zaC, zag, zam, go_sem, zaa, zao, zap, zaq, zau, zah, ↓reduceIte, reduceCtorEq, zac, zad, zav, zaw, zax, zaQ, zaS, zaJ, zaR, renO, bk, back, outUpsFrom, Ints_ren])
 | exact yhi
 | exact yha | fail)
   refine le_mk (m, ((l', n', T', h'), j')) ?_ ⟨hI, hq2, by omega⟩ (by show m < m + 1; omega)
   (refine imp_ren _ _ _ [(0, 0, dice L j'), (1, 1, ⟨[.sc (.slice none 0 0), int 0, .sc (.slice none 0 0), int 0], 4⟩), (2, 2, ⟨[.gsl (Cs l') 0 l'.length none, int n', .gsl (Cs T') 0 T'.length none, int h'], 4⟩)] (by simp) (by simp) (by simp) (zaI rfl) ?_ rfl (by simp only [zab, zaf, false_implies, implies_true, and_true, zaW, lookR, zaa, if_true, if_false, ↓reduceIte, dice] <;> (repeat' apply zaH) <;> (first | rfl | trivial)) (by simp only [zab, zaf, false_implies, implies_true, and_true, true_and, flat_cons, flat_nil, flat_ints, flat_bools, flat_app, zaN, and_self, eq_self_iff_true, zae, dice]); simp only [zaj, zar, zab, zaf, false_implies, implies_true, and_true, lk, slot, zaQ, zaJ, toN, zaa, if_true, if_false, ↓reduceIte, reduceCtorEq])
   all_goals ((repeat' apply zaH) <;> (first | rfl | trivial))
 | zero =>
 rw [hL1] at hI
 subst hI
 simp only at hH
 have n1 := next_spec L j ((K : Int) + 1) hl hr (by omega)
 have r1 := nx_rng L j ((K : Int) + 1) (by omega)
 obtain ⟨c2, hc3, hc4⟩ : ∃ c : Nat, nxV L j ((K : Int) + 1) = c ∧ c ≤ K := ⟨(nxV L j ((K : Int) + 1)).toNat, by omega, by omega⟩
 rw [hc3, Int.toNat_natCast] at hH
 rw [hc3] at n1
 generalize nxA L j ((K : Int) + 1) = j3 at *
 simp only [go_sem, zaa, zao, zap, zaq, zau, zah, ↓reduceIte, reduceCtorEq, zac, zad, zav, zaw, zax, (show decide ((0 : Int) < ((0 : Nat) : Int)) = false from rfl), lendY, dice, zan, zas, zae, zat, zay, zak, zal, zai, zaB, zaC, zag, zam]
 repeat' (first
 | with_reducible refine zaH ?_ ?_
 | (apply cl_lend
    case hr => exact yhd
    case ha => exact yhb
    case hs => rfl
    case hn => decide
    case h => (first | exact n1 ..)
    case hf => exact yhc
    case hl => exact yhe)
 | ((first | refine s1_id ?_ | refine swp_id ?_ | refine sops_id ?_ | refine s2_id ?_); simp only [(show decide ((0 : Int) < ((0 : Nat) : Int)) = false from rfl), lendY, dice, zan, zas, zae, zat, zay, zak, zal, zai, zaB, zaC, zag, zam, go_sem, zaa, zao, zap, zaq, zau, zah, ↓reduceIte, reduceCtorEq, zac, zad, zav, zaw, zax, zaQ, zaS, zaJ, zaR, renO, bk, back, outUpsFrom, Ints_ren])
 | exact yhi
 | exact yha | fail)
 refine w_loop (ι := Nat × Hy × Nat) (fun s => ⟨[(0, dp), (6, .one (.optr 1 0)), (7, .one (.optr 2 0)), (9, i1 s.1)], [(0, some (dice L s.2.2)), (1, some ⟨[.sc (.slice none 0 0), int 0, .sc (.slice none 0 0), int 0], 4⟩), (2, some ⟨hyc s.2.1.1 none s.2.1.2.1 s.2.1.2.2.1 none s.2.1.2.2.2, 4⟩)], 3⟩) (fun s => hL2 L s.1 s.2 = H ∧ HI s.2.1 ∧ s.1 ≤ K) (fun s => s.1) (c2, ((l, n, T, h), j3)) ?_ ⟨hH, hq, hc4⟩ ?_
 · (refine imp_ren _ _ _ [(0, 0, dice L j3), (1, 1, ⟨[.sc (.slice none 0 0), int 0, .sc (.slice none 0 0), int 0], 4⟩), (2, 2, ⟨[.gsl (Cs l) 0 l.length none, int n, .gsl (Cs T) 0 T.length none, int h], 4⟩)] (by simp) (by simp) (by simp) (zaI rfl) ?_ rfl (by simp only [zab, zaf, false_implies, implies_true, and_true, zaW, lookR, zaa, if_true, if_false, ↓reduceIte, dice] <;> (repeat' apply zaH) <;> (first | rfl | trivial)) (by simp only [zab, zaf, false_implies, implies_true, and_true, true_and, flat_cons, flat_nil, flat_ints, flat_bools, flat_app, zaN, and_self, eq_self_iff_true, zae, dice]); simp only [zaj, zar, zab, zaf, false_implies, implies_true, and_true, lk, slot, zaQ, zaJ, toN, zaa, if_true, if_false, ↓reduceIte, reduceCtorEq])
   all_goals ((repeat' apply zaH) <;> (first | rfl | trivial))
 clear n1 r1 hH hq hm hc3
 rintro ⟨m, ⟨⟨l, n, T, h⟩, j⟩⟩ ⟨hI, hq, hmK⟩
 simp only at hI hq hmK ⊢
 cases m with
 | zero =>
   rw [hL2] at hI
   subst hI
   simp only [go_sem, zaa, zao, zap, zaq, zau, zah, ↓reduceIte, reduceCtorEq, zac, zad, zav, zaw, zax, (show decide ((0 : Int) < ((0 : Nat) : Int)) = false from rfl), lendY, dice, zan, zas, zae, zat, zay, zak, zal, zai, zaB, zaC, zag, zam]
   repeat' (first
 | exact yha | fail)
   (refine fs_flat [(0, dice L j)] (by simp) (by simp only [zaj, zar]; decide) (by simp only [go_sem, resV, resS, zaQ, zaS, zaJ, St.tmF, zaW, idx, renO, zaR, evS, slot, lookR, zaa, ↓reduceIte, reduceCtorEq, if_true, if_false, zaY, zaZ, zaj, zar, sLoad, readAt, readNeed, Ints_ren, Ints_length, Ints_getD, and_true, true_and, zaT, zaU]; try decide) ?_ (by simp only [zab, zaf, false_implies, implies_true, and_true, zaW, lookR, zaa, if_true, if_false, ↓reduceIte, dice] <;> (repeat' apply zaH) <;> (first | rfl | trivial)) (by simp only [zab, zaf, false_implies, implies_true, and_true, true_and, flat_cons, flat_nil, flat_ints, flat_bools, flat_app, zaN, and_self, eq_self_iff_true, zae, dice]) ?_ <;> (try simp only [go_sem, resV, resS, zaQ, zaS, zaJ, St.tmF, zaW, idx, renO, zaR, evS, slot, lookR, zaa, ↓reduceIte, reduceCtorEq, if_true, if_false, zaY, zaZ, zaj, zar, sLoad, readAt, readNeed, Ints_ren, Ints_length, Ints_getD, and_true, true_and, zaT, zaU]) <;> (try rfl))
 | succ m =>
 have c : (0 : Int) < ((m + 1 : Nat) : Int) := by omega
 have e2 : ((m + 1 : Nat) : Int) - 1 = (m : Int) := by omega
 have h1 := dgroup_spec L hl hr j l n hq.len.1 hq.len.2
 have h2 := r8admits_spec l n T h (dgV L l j) hq.b
 rw [hL2] at hI
 have hq5 := spM_ok L ((l, n, T, h), j) hq
 unfold spM at hI hq5
 simp only at hI hq5
 generalize dgV L l j = g at *
 generalize dgA L l j = ja at *
 by_cases am : amM l n T h g = 0
 case neg =>
   rw [if_neg am] at hI hq5
   simp only [go_sem, zaa, zao, zap, zaq, zau, zah, ↓reduceIte, reduceCtorEq, zac, zad, zav, zaw, zax, decide_eq_true c, e2, decide_eq_false am, lendY, dice, zan, zas, zae, zat, zay, zak, zal, zai, zaB, zaC, zag, zam]
   repeat' (first
 | with_reducible refine zaH ?_ ?_
 | (apply cl_plain
    case hs => rfl
    case ha => exact yhb
    case h => exact yhg)
 | (apply cl_lend
    case hr => exact yhd
    case ha => exact yhb
    case hs => rfl
    case hn => decide
    case h => exact yhg
    case hf => exact yhc
    case hl => exact yhe)
 | ((first | refine s1_id ?_ | refine swp_id ?_ | refine sops_id ?_ | refine s2_id ?_); simp only [decide_eq_true c, e2, decide_eq_false am, lendY, dice, zan, zas, zae, zat, zay, zak, zal, zai, zaB, zaC, zag, zam, go_sem, zaa, zao, zap, zaq, zau, zah, ↓reduceIte, reduceCtorEq, zac, zad, zav, zaw, zax, zaQ, zaS, zaJ, zaR, renO, bk, back, outUpsFrom, Ints_ren])
 | exact yhi
 | exact yha | fail)
   refine le_mk (m, ((l, n, T, h), ja)) ?_ ⟨hI, hq, by omega⟩ (by show m < m + 1; omega)
   (refine imp_ren _ _ _ [(0, 0, dice L ja), (1, 1, ⟨[.sc (.slice none 0 0), int 0, .sc (.slice none 0 0), int 0], 4⟩), (2, 2, ⟨[.gsl (Cs l) 0 l.length none, int n, .gsl (Cs T) 0 T.length none, int h], 4⟩)] (by simp) (by simp) (by simp) (zaI rfl) ?_ rfl (by simp only [zab, zaf, false_implies, implies_true, and_true, zaW, lookR, zaa, if_true, if_false, ↓reduceIte, dice] <;> (repeat' apply zaH) <;> (first | rfl | trivial)) (by simp only [zab, zaf, false_implies, implies_true, and_true, true_and, flat_cons, flat_nil, flat_ints, flat_bools, flat_app, zaN, and_self, eq_self_iff_true, zae, dice]); simp only [zaj, zar, zab, zaf, false_implies, implies_true, and_true, lk, slot, zaQ, zaJ, toN, zaa, if_true, if_false, ↓reduceIte, reduceCtorEq])
   all_goals ((repeat' apply zaH) <;> (first | rfl | trivial))
 rw [if_pos am] at hI hq5
 have n3 := next_spec L ja 3 hl hr (by decide)
 have a3 := rspawn6_spec l n T h g (nxV L ja 3) hq.b.l hq.b.t hq.b.nm
 have hq1 := sp1_ok L ((l, n, T, h), ja) g hq
 obtain ⟨S1, hS1⟩ : ∃ S, sp1 L ((l, n, T, h), ja) g = S := ⟨_, rfl⟩
 rw [hS1] at hI hq1 hq5
 unfold sp1 at hS1
 simp only at hS1
 generalize spR l n T h g (nxV L ja 3) = E at *
 obtain ⟨⟨l1, n1, T1, h1'⟩, i1', e1⟩ := E
 generalize nxA L ja 3 = jb at *
 generalize nxV L ja 3 = us at *
 obtain ⟨⟨l2, n2, T2, h2'⟩, jb'⟩ := S1
 simp only [Prod.mk.injEq] at hS1 hq1 a3
 obtain ⟨hS1, rfl⟩ := hS1
 simp only [go_sem, zaa, zao, zap, zaq, zau, zah, ↓reduceIte, reduceCtorEq, zac, zad, zav, zaw, zax, decide_eq_true c, decide_eq_true am, lendY, dice, zan, zas, zae, zat, zay, zak, zal, zai, zaB, zaC, zag, zam]
 repeat' (first
 | with_reducible refine zaH ?_ ?_
 | (unfold OKC; kernel_rfl)
 | (unfold EDG; kernel_rfl)
 | (apply cl_plain
    case hs => rfl
    case ha => exact yhb
    case h => (first | exact h1 .. | exact h2 .. | exact n3 .. | exact a3 ..))
 | (apply cl_lend
    case hr => exact yhd
    case ha => exact yhb
    case hs => rfl
    case hn => decide
    case h => (first | exact h1 .. | exact h2 .. | exact n3 .. | exact a3 ..)
    case hf => exact yhc
    case hl => exact yhe)
 | ((first | refine s1_id ?_ | refine swp_id ?_ | refine sops_id ?_ | refine s2_id ?_); simp only [decide_eq_true c, decide_eq_true am, lendY, dice, zan, zas, zae, zat, zay, zak, zal, zai, zaB, zaC, zag, zam, go_sem, zaa, zao, zap, zaq, zau, zah, ↓reduceIte, reduceCtorEq, zac, zad, zav, zaw, zax, zaQ, zaS, zaJ, zaR, renO, bk, back, outUpsFrom, Ints_ren])
 | exact yha | fail)
 refine cd_cut1 ⟨[(0, dp), (6, .one (.optr 1 0)), (7, .one (.optr 2 0)), (9, i1 (m + 1 : Nat))], [(0, some (dice L jb)), (1, some ⟨[.sc (.slice none 0 0), int 0, .sc (.slice none 0 0), int 0], 4⟩), (2, some ⟨[.gsl (Cs l2) 0 l2.length none, int n2, .gsl (Cs T2) 0 T2.length none, int h2'], 4⟩)], 3⟩ (fun hc => ?_) (fun hc => ?_) ?_
 · have hc := of_decide_eq_true hc
   rw [if_pos hc] at hS1
   simp only [Prod.mk.injEq] at hS1
   obtain ⟨rfl, rfl, rfl, rfl⟩ := hS1
   simp only [go_sem, zaa, zao, zap, zaq, zau, zah, ↓reduceIte, reduceCtorEq, zac, zad, zav, zaw, zax, decide_eq_true hc, lendY, dice, zan, zas, zae, zat, zay, zak, zal, zai, zaB, zaC, zag, zam]
   repeat' (first
 | exact yha | fail)
   refine ⟨_, ?_, rfl⟩
   (refine imp_ren _ _ _ [(0, 0, dice L jb), (1, 1, ⟨[.sc (.slice none 0 0), int 0, .sc (.slice none 0 0), int 0], 4⟩), (2, 2, ⟨[.gsl (Cs l1) 0 l1.length none, int n1, .gsl (Cs T1) 0 T1.length none, int h1'], 4⟩)] (by simp) (by simp) (by simp) (zaI rfl) ?_ rfl (by simp only [zab, zaf, false_implies, implies_true, and_true, zaW, lookR, zaa, if_true, if_false, ↓reduceIte, dice] <;> (repeat' apply zaH) <;> (first | rfl | trivial)) (by simp only [zab, zaf, false_implies, implies_true, and_true, true_and, flat_cons, flat_nil, flat_ints, flat_bools, flat_app, zaN, and_self, eq_self_iff_true, zae, dice]); simp only [zaj, zar, zab, zaf, false_implies, implies_true, and_true, lk, slot, zaQ, zaJ, toN, zaa, if_true, if_false, ↓reduceIte, reduceCtorEq])
   all_goals ((repeat' apply zaH) <;> (first | rfl | trivial))
 · have hc := of_decide_eq_false hc
   rw [if_neg hc] at hS1
   simp only [Prod.mk.injEq] at hS1
   obtain ⟨rfl, rfl, rfl, rfl⟩ := hS1
   simp only [go_sem, zaa, zao, zap, zaq, zau, zah, ↓reduceIte, reduceCtorEq, zac, zad, zav, zaw, zax, decide_eq_false hc, lendY, dice, zan, zas, zae, zat, zay, zak, zal, zai, zaB, zaC, zag, zam]
   repeat' (first
 | exact yha | fail)
   refine ⟨_, ?_, rfl⟩
   (refine imp_ren _ _ _ [(0, 0, dice L jb), (1, 1, ⟨[.sc (.slice none 0 0), int 0, .sc (.slice none 0 0), int 0], 4⟩), (2, 2, ⟨[.gsl (Cs l) 0 l.length none, int n, .gsl (Cs T) 0 T.length none, int h], 4⟩)] (by simp) (by simp) (by simp) (zaI rfl) ?_ rfl (by simp only [zab, zaf, false_implies, implies_true, and_true, zaW, lookR, zaa, if_true, if_false, ↓reduceIte, dice] <;> (repeat' apply zaH) <;> (first | rfl | trivial)) (by simp only [zab, zaf, false_implies, implies_true, and_true, true_and, flat_cons, flat_nil, flat_ints, flat_bools, flat_app, zaN, and_self, eq_self_iff_true, zae, dice]); simp only [zaj, zar, zab, zaf, false_implies, implies_true, and_true, lk, slot, zaQ, zaJ, toN, zaa, if_true, if_false, ↓reduceIte, reduceCtorEq])
   all_goals ((repeat' apply zaH) <;> (first | rfl | trivial))
 clear hS1 h1 h2 n3 a3 hq am
 have hq1 : HI (l2, n2, T2, h2') := hq1
 have hq2 := sp2_ok L ((l2, n2, T2, h2'), jb) hq1
 obtain ⟨S2, hS2⟩ : ∃ S, sp2 L ((l2, n2, T2, h2'), jb) = S := ⟨_, rfl⟩
 rw [hS2] at hI hq2 hq5
 unfold sp2 at hS2
 simp only at hS2
 have nb := bool_spec L jb 3 hl hr (by decide)
 rw [show (3 : Int) - 1 = 2 from rfl] at nb
 generalize nxA L jb 3 = ja at *
 generalize nxV L jb 3 = v at *
 have tk := dtask_spec L hl hr ja l2 n2 T2 h2' hq1.b.t
 generalize dtV L T2 ja = tt at *
 generalize dtA L T2 ja = jt at *
 have cc := rclone6_spec l2 n2 T2 h2' tt hq1.b.l hq1.b.t hq1.b.nm
 generalize clR l2 n2 T2 h2' tt = E at *
 obtain ⟨⟨el, en, eT, eh⟩, ei, ee⟩ := E
 simp only at cc hS2
 obtain ⟨⟨l3, n3', T3, h3'⟩, jc⟩ := S2
 simp only at hq2
 simp only [go_sem, zaa, zao, zap, zaq, zau, zah, ↓reduceIte, reduceCtorEq, zac, zad, zav, zaw, zax, lendY, dice, zan, zas, zae, zat, zay, zak, zal, zai, zaB, zaC, zag, zam]
 repeat' (first
 | (apply cl_lend
    case hr => exact yhd
    case ha => exact yhb
    case hs => rfl
    case hn => decide
    case h => (first | exact nb ..)
    case hf => exact yhc
    case hl => exact yhe)
 | ((first | refine s1_id ?_ | refine swp_id ?_ | refine sops_id ?_ | refine s2_id ?_); simp only [lendY, dice, zan, zas, zae, zat, zay, zak, zal, zai, zaB, zaC, zag, zam, go_sem, zaa, zao, zap, zaq, zau, zah, ↓reduceIte, reduceCtorEq, zac, zad, zav, zaw, zax, zaQ, zaS, zaJ, zaR, renO, bk, back, outUpsFrom, Ints_ren])
 | exact yha | fail)
 refine cd_cut1 ⟨[(0, dp), (6, .one (.optr 1 0)), (7, .one (.optr 2 0)), (9, i1 (m + 1 : Nat))], [(0, some (dice L jc)), (1, some ⟨[.sc (.slice none 0 0), int 0, .sc (.slice none 0 0), int 0], 4⟩), (2, some ⟨[.gsl (Cs l3) 0 l3.length none, int n3', .gsl (Cs T3) 0 T3.length none, int h3'], 4⟩)], 3⟩ (fun hc => ?_) (fun hc => ?_) ?_
 · have hc := of_decide_eq_true hc
   rw [if_pos hc] at hS2
   by_cases d : ee = 0
   · rw [if_pos d] at hS2
     simp only [Prod.mk.injEq] at hS2
     obtain ⟨⟨rfl, rfl, rfl, rfl⟩, rfl⟩ := hS2
     simp only [go_sem, zaa, zao, zap, zaq, zau, zah, ↓reduceIte, reduceCtorEq, zac, zad, zav, zaw, zax, decide_eq_true hc, decide_eq_true d, lendY, dice, zan, zas, zae, zat, zay, zak, zal, zai, zaB, zaC, zag, zam]
     repeat' (first
 | with_reducible refine zaH ?_ ?_
 | (unfold OKC; kernel_rfl)
 | (unfold EDG; kernel_rfl)
 | (apply cl_plain
    case hs => rfl
    case ha => exact yhb
    case h => exact yhh)
 | (apply cl_lend
    case hr => exact yhd
    case ha => exact yhb
    case hs => rfl
    case hn => decide
    case h => exact yhh
    case hf => exact yhc
    case hl => exact yhe)
 | ((first | refine s1_id ?_ | refine swp_id ?_ | refine sops_id ?_ | refine s2_id ?_); simp only [decide_eq_true hc, decide_eq_true d, lendY, dice, zan, zas, zae, zat, zay, zak, zal, zai, zaB, zaC, zag, zam, go_sem, zaa, zao, zap, zaq, zau, zah, ↓reduceIte, reduceCtorEq, zac, zad, zav, zaw, zax, zaQ, zaS, zaJ, zaR, renO, bk, back, outUpsFrom, Ints_ren])
 | exact yha | fail)
     refine ⟨_, ?_, rfl⟩
     (refine imp_ren _ _ _ [(0, 0, dice L jt), (1, 1, ⟨[.sc (.slice none 0 0), int 0, .sc (.slice none 0 0), int 0], 4⟩), (2, 2, ⟨[.gsl (Cs el) 0 el.length none, int en, .gsl (Cs eT) 0 eT.length none, int eh], 4⟩)] (by simp) (by simp) (by simp) (zaI rfl) ?_ rfl (by simp only [zab, zaf, false_implies, implies_true, and_true, zaW, lookR, zaa, if_true, if_false, ↓reduceIte, dice] <;> (repeat' apply zaH) <;> (first | rfl | trivial)) (by simp only [zab, zaf, false_implies, implies_true, and_true, true_and, flat_cons, flat_nil, flat_ints, flat_bools, flat_app, zaN, and_self, eq_self_iff_true, zae, dice]); simp only [zaj, zar, zab, zaf, false_implies, implies_true, and_true, lk, slot, zaQ, zaJ, toN, zaa, if_true, if_false, ↓reduceIte, reduceCtorEq])
     all_goals ((repeat' apply zaH) <;> (first | rfl | trivial))
   rw [if_neg d] at hS2
   simp only [Prod.mk.injEq] at hS2
   obtain ⟨⟨rfl, rfl, rfl, rfl⟩, rfl⟩ := hS2
   simp only [go_sem, zaa, zao, zap, zaq, zau, zah, ↓reduceIte, reduceCtorEq, zac, zad, zav, zaw, zax, decide_eq_true hc, decide_eq_false d, lendY, dice, zan, zas, zae, zat, zay, zak, zal, zai, zaB, zaC, zag, zam]
   repeat' (first
 | with_reducible refine zaH ?_ ?_
 | (unfold OKC; kernel_rfl)
 | (unfold EDG; kernel_rfl)
 | (apply cl_plain
    case hs => rfl
    case ha => exact yhb
    case h => exact yhh)
 | (apply cl_lend
    case hr => exact yhd
    case ha => exact yhb
    case hs => rfl
    case hn => decide
    case h => exact yhh
    case hf => exact yhc
    case hl => exact yhe)
 | ((first | refine s1_id ?_ | refine swp_id ?_ | refine sops_id ?_ | refine s2_id ?_); simp only [decide_eq_true hc, decide_eq_false d, lendY, dice, zan, zas, zae, zat, zay, zak, zal, zai, zaB, zaC, zag, zam, go_sem, zaa, zao, zap, zaq, zau, zah, ↓reduceIte, reduceCtorEq, zac, zad, zav, zaw, zax, zaQ, zaS, zaJ, zaR, renO, bk, back, outUpsFrom, Ints_ren])
 | exact yha | fail)
   refine ⟨_, ?_, rfl⟩
   (refine imp_ren _ _ _ [(0, 0, dice L jt), (1, 1, ⟨[.sc (.slice none 0 0), int 0, .sc (.slice none 0 0), int 0], 4⟩), (2, 2, ⟨[.gsl (Cs l2) 0 l2.length none, int n2, .gsl (Cs T2) 0 T2.length none, int h2'], 4⟩)] (by simp) (by simp) (by simp) (zaI rfl) ?_ rfl (by simp only [zab, zaf, false_implies, implies_true, and_true, zaW, lookR, zaa, if_true, if_false, ↓reduceIte, dice] <;> (repeat' apply zaH) <;> (first | rfl | trivial)) (by simp only [zab, zaf, false_implies, implies_true, and_true, true_and, flat_cons, flat_nil, flat_ints, flat_bools, flat_app, zaN, and_self, eq_self_iff_true, zae, dice]); simp only [zaj, zar, zab, zaf, false_implies, implies_true, and_true, lk, slot, zaQ, zaJ, toN, zaa, if_true, if_false, ↓reduceIte, reduceCtorEq])
   all_goals ((repeat' apply zaH) <;> (first | rfl | trivial))
 · have hc := of_decide_eq_false hc
   rw [if_neg hc] at hS2
   simp only [Prod.mk.injEq] at hS2
   obtain ⟨⟨rfl, rfl, rfl, rfl⟩, rfl⟩ := hS2
   simp only [go_sem, zaa, zao, zap, zaq, zau, zah, ↓reduceIte, reduceCtorEq, zac, zad, zav, zaw, zax, decide_eq_false hc, lendY, dice, zan, zas, zae, zat, zay, zak, zal, zai, zaB, zaC, zag, zam]
   repeat' (first
 | exact yha | fail)
   refine ⟨_, ?_, rfl⟩
   (refine imp_ren _ _ _ [(0, 0, dice L ja), (1, 1, ⟨[.sc (.slice none 0 0), int 0, .sc (.slice none 0 0), int 0], 4⟩), (2, 2, ⟨[.gsl (Cs l2) 0 l2.length none, int n2, .gsl (Cs T2) 0 T2.length none, int h2'], 4⟩)] (by simp) (by simp) (by simp) (zaI rfl) ?_ rfl (by simp only [zab, zaf, false_implies, implies_true, and_true, zaW, lookR, zaa, if_true, if_false, ↓reduceIte, dice] <;> (repeat' apply zaH) <;> (first | rfl | trivial)) (by simp only [zab, zaf, false_implies, implies_true, and_true, true_and, flat_cons, flat_nil, flat_ints, flat_bools, flat_app, zaN, and_self, eq_self_iff_true, zae, dice]); simp only [zaj, zar, zab, zaf, false_implies, implies_true, and_true, lk, slot, zaQ, zaJ, toN, zaa, if_true, if_false, ↓reduceIte, reduceCtorEq])
   all_goals ((repeat' apply zaH) <;> (first | rfl | trivial))
 clear hS2 nb tk cc hq1
 have hq2 : HI (l3, n3', T3, h3') := hq2
 have hq3 := sp3_ok L ((l3, n3', T3, h3'), jc) hq2
 obtain ⟨S3, hS3⟩ : ∃ S, sp3 L ((l3, n3', T3, h3'), jc) = S := ⟨_, rfl⟩
 rw [hS3] at hI hq3 hq5
 unfold sp3 at hS3
 simp only at hS3
 have nb := bool_spec L jc 4 hl hr (by decide)
 rw [show (4 : Int) - 1 = 3 from rfl] at nb
 generalize nxA L jc 4 = ja at *
 generalize nxV L jc 4 = v at *
 have tk := dtask_spec L hl hr ja l3 n3' T3 h3' hq2.b.t
 generalize dtV L T3 ja = tt at *
 generalize dtA L T3 ja = jt at *
 have gg := dgroup_spec L hl hr jt l3 n3' hq2.len.1 hq2.len.2
 generalize dgV L l3 jt = g3 at *
 generalize dgA L l3 jt = jg at *
 have cc := r8at_spec l3 n3' T3 h3' tt g3 hq2.b
 generalize atM l3 n3' T3 h3' tt g3 = E at *
 obtain ⟨⟨el, en, eT, eh⟩, ee⟩ := E
 simp only at cc hS3
 obtain ⟨⟨l4, n4, T4, h4'⟩, jd⟩ := S3
 simp only at hq3
 simp only [go_sem, zaa, zao, zap, zaq, zau, zah, ↓reduceIte, reduceCtorEq, zac, zad, zav, zaw, zax, lendY, dice, zan, zas, zae, zat, zay, zak, zal, zai, zaB, zaC, zag, zam]
 repeat' (first
 | (apply cl_lend
    case hr => exact yhd
    case ha => exact yhb
    case hs => rfl
    case hn => decide
    case h => (first | exact nb ..)
    case hf => exact yhc
    case hl => exact yhe)
 | ((first | refine s1_id ?_ | refine swp_id ?_ | refine sops_id ?_ | refine s2_id ?_); simp only [lendY, dice, zan, zas, zae, zat, zay, zak, zal, zai, zaB, zaC, zag, zam, go_sem, zaa, zao, zap, zaq, zau, zah, ↓reduceIte, reduceCtorEq, zac, zad, zav, zaw, zax, zaQ, zaS, zaJ, zaR, renO, bk, back, outUpsFrom, Ints_ren])
 | exact yha | fail)
 refine cd_cut1 ⟨[(0, dp), (6, .one (.optr 1 0)), (7, .one (.optr 2 0)), (9, i1 (m + 1 : Nat))], [(0, some (dice L jd)), (1, some ⟨[.sc (.slice none 0 0), int 0, .sc (.slice none 0 0), int 0], 4⟩), (2, some ⟨[.gsl (Cs l4) 0 l4.length none, int n4, .gsl (Cs T4) 0 T4.length none, int h4'], 4⟩)], 3⟩ (fun hc => ?_) (fun hc => ?_) ?_
 · have hc := of_decide_eq_true hc
   rw [if_pos hc] at hS3
   by_cases d : ee = 0
   · rw [if_pos d] at hS3
     simp only [Prod.mk.injEq] at hS3
     obtain ⟨⟨rfl, rfl, rfl, rfl⟩, rfl⟩ := hS3
     simp only [go_sem, zaa, zao, zap, zaq, zau, zah, ↓reduceIte, reduceCtorEq, zac, zad, zav, zaw, zax, decide_eq_true hc, decide_eq_true d, lendY, dice, zan, zas, zae, zat, zay, zak, zal, zai, zaB, zaC, zag, zam]
     repeat' (first
 | with_reducible refine zaH ?_ ?_
 | (unfold OKC; kernel_rfl)
 | (unfold EDG; kernel_rfl)
 | (apply cl_plain
    case hs => rfl
    case ha => exact yhb
    case h => exact yhj)
 | (apply cl_lend
    case hr => exact yhd
    case ha => exact yhb
    case hs => rfl
    case hn => decide
    case h => exact yhj
    case hf => exact yhc
    case hl => exact yhe)
 | ((first | refine s1_id ?_ | refine swp_id ?_ | refine sops_id ?_ | refine s2_id ?_); simp only [decide_eq_true hc, decide_eq_true d, lendY, dice, zan, zas, zae, zat, zay, zak, zal, zai, zaB, zaC, zag, zam, go_sem, zaa, zao, zap, zaq, zau, zah, ↓reduceIte, reduceCtorEq, zac, zad, zav, zaw, zax, zaQ, zaS, zaJ, zaR, renO, bk, back, outUpsFrom, Ints_ren])
 | exact yha | fail)
     refine ⟨_, ?_, rfl⟩
     (refine imp_ren _ _ _ [(0, 0, dice L jg), (1, 1, ⟨[.sc (.slice none 0 0), int 0, .sc (.slice none 0 0), int 0], 4⟩), (2, 2, ⟨[.gsl (Cs el) 0 el.length none, int en, .gsl (Cs eT) 0 eT.length none, int eh], 4⟩)] (by simp) (by simp) (by simp) (zaI rfl) ?_ rfl (by simp only [zab, zaf, false_implies, implies_true, and_true, zaW, lookR, zaa, if_true, if_false, ↓reduceIte, dice] <;> (repeat' apply zaH) <;> (first | rfl | trivial)) (by simp only [zab, zaf, false_implies, implies_true, and_true, true_and, flat_cons, flat_nil, flat_ints, flat_bools, flat_app, zaN, and_self, eq_self_iff_true, zae, dice]); simp only [zaj, zar, zab, zaf, false_implies, implies_true, and_true, lk, slot, zaQ, zaJ, toN, zaa, if_true, if_false, ↓reduceIte, reduceCtorEq])
     all_goals ((repeat' apply zaH) <;> (first | rfl | trivial))
   rw [if_neg d] at hS3
   simp only [Prod.mk.injEq] at hS3
   obtain ⟨⟨rfl, rfl, rfl, rfl⟩, rfl⟩ := hS3
   simp only [go_sem, zaa, zao, zap, zaq, zau, zah, ↓reduceIte, reduceCtorEq, zac, zad, zav, zaw, zax, decide_eq_true hc, decide_eq_false d, lendY, dice, zan, zas, zae, zat, zay, zak, zal, zai, zaB, zaC, zag, zam]
   repeat' (first
 | with_reducible refine zaH ?_ ?_
 | (unfold OKC; kernel_rfl)
 | (unfold EDG; kernel_rfl)
 | (apply cl_plain
    case hs => rfl
    case ha => exact yhb
    case h => exact yhj)
 | (apply cl_lend
    case hr => exact yhd
    case ha => exact yhb
    case hs => rfl
    case hn => decide
    case h => exact yhj
    case hf => exact yhc
    case hl => exact yhe)
 | ((first | refine s1_id ?_ | refine swp_id ?_ | refine sops_id ?_ | refine s2_id ?_); simp only [decide_eq_true hc, decide_eq_false d, lendY, dice, zan, zas, zae, zat, zay, zak, zal, zai, zaB, zaC, zag, zam, go_sem, zaa, zao, zap, zaq, zau, zah, ↓reduceIte, reduceCtorEq, zac, zad, zav, zaw, zax, zaQ, zaS, zaJ, zaR, renO, bk, back, outUpsFrom, Ints_ren])
 | exact yha | fail)
   refine ⟨_, ?_, rfl⟩
   (refine imp_ren _ _ _ [(0, 0, dice L jg), (1, 1, ⟨[.sc (.slice none 0 0), int 0, .sc (.slice none 0 0), int 0], 4⟩), (2, 2, ⟨[.gsl (Cs l3) 0 l3.length none, int n3', .gsl (Cs T3) 0 T3.length none, int h3'], 4⟩)] (by simp) (by simp) (by simp) (zaI rfl) ?_ rfl (by simp only [zab, zaf, false_implies, implies_true, and_true, zaW, lookR, zaa, if_true, if_false, ↓reduceIte, dice] <;> (repeat' apply zaH) <;> (first | rfl | trivial)) (by simp only [zab, zaf, false_implies, implies_true, and_true, true_and, flat_cons, flat_nil, flat_ints, flat_bools, flat_app, zaN, and_self, eq_self_iff_true, zae, dice]); simp only [zaj, zar, zab, zaf, false_implies, implies_true, and_true, lk, slot, zaQ, zaJ, toN, zaa, if_true, if_false, ↓reduceIte, reduceCtorEq])
   all_goals ((repeat' apply zaH) <;> (first | rfl | trivial))
 · have hc := of_decide_eq_false hc
   rw [if_neg hc] at hS3
   simp only [Prod.mk.injEq] at hS3
   obtain ⟨⟨rfl, rfl, rfl, rfl⟩, rfl⟩ := hS3
   simp only [go_sem, zaa, zao, zap, zaq, zau, zah, ↓reduceIte, reduceCtorEq, zac, zad, zav, zaw, zax, decide_eq_false hc, lendY, dice, zan, zas, zae, zat, zay, zak, zal, zai, zaB, zaC, zag, zam]
   repeat' (first
 | exact yha | fail)
   refine ⟨_, ?_, rfl⟩
   (refine imp_ren _ _ _ [(0, 0, dice L ja), (1, 1, ⟨[.sc (.slice none 0 0), int 0, .sc (.slice none 0 0), int 0], 4⟩), (2, 2, ⟨[.gsl (Cs l3) 0 l3.length none, int n3', .gsl (Cs T3) 0 T3.length none, int h3'], 4⟩)] (by simp) (by simp) (by simp) (zaI rfl) ?_ rfl (by simp only [zab, zaf, false_implies, implies_true, and_true, zaW, lookR, zaa, if_true, if_false, ↓reduceIte, dice] <;> (repeat' apply zaH) <;> (first | rfl | trivial)) (by simp only [zab, zaf, false_implies, implies_true, and_true, true_and, flat_cons, flat_nil, flat_ints, flat_bools, flat_app, zaN, and_self, eq_self_iff_true, zae, dice]); simp only [zaj, zar, zab, zaf, false_implies, implies_true, and_true, lk, slot, zaQ, zaJ, toN, zaa, if_true, if_false, ↓reduceIte, reduceCtorEq])
   all_goals ((repeat' apply zaH) <;> (first | rfl | trivial))
 clear hS3 nb tk cc gg hq2
 have hq3 : HI (l4, n4, T4, h4') := hq3
 have hq4 := sp4_ok L ((l4, n4, T4, h4'), jd) hq3
 obtain ⟨S4, hS4⟩ : ∃ S, sp4 L ((l4, n4, T4, h4'), jd) = S := ⟨_, rfl⟩
 rw [hS4] at hI hq4 hq5
 unfold sp4 at hS4
 simp only at hS4
 have nb := bool_spec L jd 8 hl hr (by decide)
 rw [show (8 : Int) - 1 = 7 from rfl] at nb
 generalize nxA L jd 8 = ja at *
 generalize nxV L jd 8 = v at *
 have tk := dtask_spec L hl hr ja l4 n4 T4 h4' hq3.b.t
 generalize dtV L T4 ja = tt at *
 generalize dtA L T4 ja = jt at *
 have cc := rexit6_spec l4 n4 T4 h4' tt hq3.b.l hq3.b.t hq3.b.nm
 generalize exR l4 n4 T4 h4' tt = E at *
 obtain ⟨⟨el, en, eT, eh⟩, ee⟩ := E
 simp only at cc hS4
 obtain ⟨⟨l5, n5, T5, h5'⟩, je⟩ := S4
 simp only at hq4
 simp only [go_sem, zaa, zao, zap, zaq, zau, zah, ↓reduceIte, reduceCtorEq, zac, zad, zav, zaw, zax, lendY, dice, zan, zas, zae, zat, zay, zak, zal, zai, zaB, zaC, zag, zam]
 repeat' (first
 | (apply cl_lend
    case hr => exact yhd
    case ha => exact yhb
    case hs => rfl
    case hn => decide
    case h => (first | exact nb ..)
    case hf => exact yhc
    case hl => exact yhe)
 | ((first | refine s1_id ?_ | refine swp_id ?_ | refine sops_id ?_ | refine s2_id ?_); simp only [lendY, dice, zan, zas, zae, zat, zay, zak, zal, zai, zaB, zaC, zag, zam, go_sem, zaa, zao, zap, zaq, zau, zah, ↓reduceIte, reduceCtorEq, zac, zad, zav, zaw, zax, zaQ, zaS, zaJ, zaR, renO, bk, back, outUpsFrom, Ints_ren])
 | exact yha | fail)
 refine cd_cut1 ⟨[(0, dp), (6, .one (.optr 1 0)), (7, .one (.optr 2 0)), (9, i1 (m + 1 : Nat))], [(0, some (dice L je)), (1, some ⟨[.sc (.slice none 0 0), int 0, .sc (.slice none 0 0), int 0], 4⟩), (2, some ⟨[.gsl (Cs l5) 0 l5.length none, int n5, .gsl (Cs T5) 0 T5.length none, int h5'], 4⟩)], 3⟩ (fun hc => ?_) (fun hc => ?_) ?_
 · have hc := of_decide_eq_true hc
   rw [if_pos hc] at hS4
   by_cases d : ee = 0
   · rw [if_pos d] at hS4
     simp only [Prod.mk.injEq] at hS4
     obtain ⟨⟨rfl, rfl, rfl, rfl⟩, rfl⟩ := hS4
     simp only [go_sem, zaa, zao, zap, zaq, zau, zah, ↓reduceIte, reduceCtorEq, zac, zad, zav, zaw, zax, decide_eq_true hc, decide_eq_true d, lendY, dice, zan, zas, zae, zat, zay, zak, zal, zai, zaB, zaC, zag, zam]
     repeat' (first
 | with_reducible refine zaH ?_ ?_
 | (unfold OKC; kernel_rfl)
 | (unfold EDG; kernel_rfl)
 | (apply cl_plain
    case hs => rfl
    case ha => exact yhb
    case h => exact yhh)
 | (apply cl_lend
    case hr => exact yhd
    case ha => exact yhb
    case hs => rfl
    case hn => decide
    case h => exact yhh
    case hf => exact yhc
    case hl => exact yhe)
 | ((first | refine s1_id ?_ | refine swp_id ?_ | refine sops_id ?_ | refine s2_id ?_); simp only [decide_eq_true hc, decide_eq_true d, lendY, dice, zan, zas, zae, zat, zay, zak, zal, zai, zaB, zaC, zag, zam, go_sem, zaa, zao, zap, zaq, zau, zah, ↓reduceIte, reduceCtorEq, zac, zad, zav, zaw, zax, zaQ, zaS, zaJ, zaR, renO, bk, back, outUpsFrom, Ints_ren])
 | exact yha | fail)
     refine ⟨_, ?_, rfl⟩
     (refine imp_ren _ _ _ [(0, 0, dice L jt), (1, 1, ⟨[.sc (.slice none 0 0), int 0, .sc (.slice none 0 0), int 0], 4⟩), (2, 2, ⟨[.gsl (Cs el) 0 el.length none, int en, .gsl (Cs eT) 0 eT.length none, int eh], 4⟩)] (by simp) (by simp) (by simp) (zaI rfl) ?_ rfl (by simp only [zab, zaf, false_implies, implies_true, and_true, zaW, lookR, zaa, if_true, if_false, ↓reduceIte, dice] <;> (repeat' apply zaH) <;> (first | rfl | trivial)) (by simp only [zab, zaf, false_implies, implies_true, and_true, true_and, flat_cons, flat_nil, flat_ints, flat_bools, flat_app, zaN, and_self, eq_self_iff_true, zae, dice]); simp only [zaj, zar, zab, zaf, false_implies, implies_true, and_true, lk, slot, zaQ, zaJ, toN, zaa, if_true, if_false, ↓reduceIte, reduceCtorEq])
     all_goals ((repeat' apply zaH) <;> (first | rfl | trivial))
   rw [if_neg d] at hS4
   simp only [Prod.mk.injEq] at hS4
   obtain ⟨⟨rfl, rfl, rfl, rfl⟩, rfl⟩ := hS4
   simp only [go_sem, zaa, zao, zap, zaq, zau, zah, ↓reduceIte, reduceCtorEq, zac, zad, zav, zaw, zax, decide_eq_true hc, decide_eq_false d, lendY, dice, zan, zas, zae, zat, zay, zak, zal, zai, zaB, zaC, zag, zam]
   repeat' (first
 | with_reducible refine zaH ?_ ?_
 | (unfold OKC; kernel_rfl)
 | (unfold EDG; kernel_rfl)
 | (apply cl_plain
    case hs => rfl
    case ha => exact yhb
    case h => exact yhh)
 | (apply cl_lend
    case hr => exact yhd
    case ha => exact yhb
    case hs => rfl
    case hn => decide
    case h => exact yhh
    case hf => exact yhc
    case hl => exact yhe)
 | ((first | refine s1_id ?_ | refine swp_id ?_ | refine sops_id ?_ | refine s2_id ?_); simp only [decide_eq_true hc, decide_eq_false d, lendY, dice, zan, zas, zae, zat, zay, zak, zal, zai, zaB, zaC, zag, zam, go_sem, zaa, zao, zap, zaq, zau, zah, ↓reduceIte, reduceCtorEq, zac, zad, zav, zaw, zax, zaQ, zaS, zaJ, zaR, renO, bk, back, outUpsFrom, Ints_ren])
 | exact yha | fail)
   refine ⟨_, ?_, rfl⟩
   (refine imp_ren _ _ _ [(0, 0, dice L jt), (1, 1, ⟨[.sc (.slice none 0 0), int 0, .sc (.slice none 0 0), int 0], 4⟩), (2, 2, ⟨[.gsl (Cs l4) 0 l4.length none, int n4, .gsl (Cs T4) 0 T4.length none, int h4'], 4⟩)] (by simp) (by simp) (by simp) (zaI rfl) ?_ rfl (by simp only [zab, zaf, false_implies, implies_true, and_true, zaW, lookR, zaa, if_true, if_false, ↓reduceIte, dice] <;> (repeat' apply zaH) <;> (first | rfl | trivial)) (by simp only [zab, zaf, false_implies, implies_true, and_true, true_and, flat_cons, flat_nil, flat_ints, flat_bools, flat_app, zaN, and_self, eq_self_iff_true, zae, dice]); simp only [zaj, zar, zab, zaf, false_implies, implies_true, and_true, lk, slot, zaQ, zaJ, toN, zaa, if_true, if_false, ↓reduceIte, reduceCtorEq])
   all_goals ((repeat' apply zaH) <;> (first | rfl | trivial))
 · have hc := of_decide_eq_false hc
   rw [if_neg hc] at hS4
   simp only [Prod.mk.injEq] at hS4
   obtain ⟨⟨rfl, rfl, rfl, rfl⟩, rfl⟩ := hS4
   simp only [go_sem, zaa, zao, zap, zaq, zau, zah, ↓reduceIte, reduceCtorEq, zac, zad, zav, zaw, zax, decide_eq_false hc, lendY, dice, zan, zas, zae, zat, zay, zak, zal, zai, zaB, zaC, zag, zam]
   repeat' (first
 | exact yha | fail)
   refine ⟨_, ?_, rfl⟩
   (refine imp_ren _ _ _ [(0, 0, dice L ja), (1, 1, ⟨[.sc (.slice none 0 0), int 0, .sc (.slice none 0 0), int 0], 4⟩), (2, 2, ⟨[.gsl (Cs l4) 0 l4.length none, int n4, .gsl (Cs T4) 0 T4.length none, int h4'], 4⟩)] (by simp) (by simp) (by simp) (zaI rfl) ?_ rfl (by simp only [zab, zaf, false_implies, implies_true, and_true, zaW, lookR, zaa, if_true, if_false, ↓reduceIte, dice] <;> (repeat' apply zaH) <;> (first | rfl | trivial)) (by simp only [zab, zaf, false_implies, implies_true, and_true, true_and, flat_cons, flat_nil, flat_ints, flat_bools, flat_app, zaN, and_self, eq_self_iff_true, zae, dice]); simp only [zaj, zar, zab, zaf, false_implies, implies_true, and_true, lk, slot, zaQ, zaJ, toN, zaa, if_true, if_false, ↓reduceIte, reduceCtorEq])
   all_goals ((repeat' apply zaH) <;> (first | rfl | trivial))
 clear hS4 nb tk cc hq3
 simp only [go_sem, zaa, zao, zap, zaq, zau, zah, ↓reduceIte, reduceCtorEq, zac, zad, zav, zaw, zax, e2, lendY, dice, zan, zas, zae, zat, zay, zak, zal, zai, zaB, zaC, zag, zam]
 repeat' (first
 | with_reducible refine zaH ?_ ?_
 | exact yhi
 | exact yha | fail)
 refine le_mk (m, ((l5, n5, T5, h5'), je)) ?_ ⟨hI, hq4, by omega⟩ (by show m < m + 1; omega)
 (refine imp_ren _ _ _ [(0, 0, dice L je), (1, 1, ⟨[.sc (.slice none 0 0), int 0, .sc (.slice none 0 0), int 0], 4⟩), (2, 2, ⟨[.gsl (Cs l5) 0 l5.length none, int n5, .gsl (Cs T5) 0 T5.length none, int h5'], 4⟩)] (by simp) (by simp) (by simp) (zaI rfl) ?_ rfl (by simp only [zab, zaf, false_implies, implies_true, and_true, zaW, lookR, zaa, if_true, if_false, ↓reduceIte, dice] <;> (repeat' apply zaH) <;> (first | rfl | trivial)) (by simp only [zab, zaf, false_implies, implies_true, and_true, true_and, flat_cons, flat_nil, flat_ints, flat_bools, flat_app, zaN, and_self, eq_self_iff_true, zae, dice]); simp only [zaj, zar, zab, zaf, false_implies, implies_true, and_true, lk, slot, zaQ, zaJ, toN, zaa, if_true, if_false, ↓reduceIte, reduceCtorEq])
 all_goals ((repeat' apply zaH) <;> (first | rfl | trivial))
theorem has_spec (a : List Int) (k : Option Nat) (x : Int) (hl : a.length ≤ 1000000) : FnSpec Tryz.prog 72 [gi a k, i1 x] [] (b1 (decide (x ∈ a))) [] := by
 refine fnspec_of mixed TT_ok TT_cl ⟨fun _ => false, fun _ => [], 0, fun _ => false, fun _ => false⟩ Tryz.func72 rfl (by kernel_rfl) rfl 18 rfl [.tmp 4] rfl ?_
 simp only [go_sem, zaa, zao, zap, zaq, zau, zah, ↓reduceIte, reduceCtorEq, zac, zad, zav, zaw, zax]
 repeat' (first
 | exact yha | fail)
 refine w_loop (ι := Nat) (fun i => ⟨[(0, gi a k), (1, i1 x), (5, i1 i)], [], 0⟩) (fun i => i ≤ a.length ∧ (x ∈ a ↔ x ∈ a.drop i)) (fun i => a.length - i) 0 ?_ ⟨zba _, Iff.rfl⟩ ?_
 · (refine imp_sub _ _ _ [] (by simp) (by simp) (by simp) (zba _) ?_ rfl (by simp); simp only [zab, zaf, false_implies, implies_true, and_true, lk, slot, zaQ, zaJ, zaa, if_true, if_false, ↓reduceIte, reduceCtorEq])
   all_goals ((repeat' apply zaH) <;> (first | rfl | trivial))
 rintro i ⟨hi, he⟩
 simp only at hi he ⊢
 rcases zbf i a.length with hlt | hge
 case inr =>
   have c : ¬ (i : Int) < (a.length : Int) := by omega
   rw [List.drop_of_length_le hge] at he
   rw [decide_eq_false (fun h => absurd (he.1 h) zaf)]
   simp only [go_sem, zaa, zao, zap, zaq, zau, zah, ↓reduceIte, reduceCtorEq, zac, zad, zav, zaw, zax, decide_eq_false c]
   repeat' (first
 | exact fs_nil trivial rfl
 | fail)
 have c : (i : Int) < (a.length : Int) := by omega
 rw [drop_getD a i 0 hlt, zbd] at he
 by_cases hx : a.getD i 0 = x
 · rw [decide_eq_true (he.2 (Or.inl hx.symm))]
   simp only [go_sem, zaa, zao, zap, zaq, zau, zah, ↓reduceIte, reduceCtorEq, zac, zad, zav, zaw, zax, decide_eq_true c, decide_eq_true hx]
   repeat' (first
 | with_reducible refine zaH ?_ ?_
 | exact yhi
 | exact fs_nil trivial rfl
 | fail)
 · have he2 : x ∈ a ↔ x ∈ a.drop (i + 1) := he.trans ⟨fun h => h.resolve_left (fun e => hx e.symm), Or.inr⟩
   simp only [go_sem, zaa, zao, zap, zaq, zau, zah, ↓reduceIte, reduceCtorEq, zac, zad, zav, zaw, zax, decide_eq_true c, decide_eq_false hx]
   repeat' (first
 | with_reducible refine zaH ?_ ?_
 | exact yhi
 | exact yha | fail)
   refine le_mk (i + 1) ?_ ⟨hlt, he2⟩ (by omega)
   (refine imp_sub _ _ _ [] (by simp) (by simp) (by simp) (zba _) ?_ rfl (by simp); simp only [zab, zaf, false_implies, implies_true, and_true, lk, slot, zaQ, zaJ, zaa, if_true, if_false, ↓reduceIte, reduceCtorEq])
   all_goals ((repeat' apply zaH) <;> (first | rfl | trivial | (simp only [zaO]; done) | (simp only [zaO]; rfl) | (simp only [zaO]; trivial)))
def subF (l : List Nd) : Nat → Int → List Int
  | 0, _ => []
  | f + 1, id => id :: (kidsL l id).flatMap (subF l f)
theorem kidsL_mem {l : List Nd} {id x : Int} : x ∈ kidsL l id ↔ ∃ j, j < l.length ∧ (gN l j).p = id ∧ (gN l j).i = x := by
 unfold kidsL
 rw [List.mem_map]
 constructor
 · rintro ⟨y, hy, rfl⟩
   rw [List.mem_filter] at hy
   obtain ⟨j, hj, rfl⟩ := gN_mem l y hy.1
   exact ⟨j, hj, of_decide_eq_true hy.2, rfl⟩
 · rintro ⟨j, hj, hp, rfl⟩
   exact ⟨gN l j, List.mem_filter.2 ⟨getD_mem l j zn hj, decide_eq_true hp⟩, rfl⟩
theorem VT.kid {l : List Nd} {n : Int} (h : VT l n) {i j : Nat} (hi : i < l.length) (hj : j < l.length) (hp : (gN l j).p = (gN l i).i) : i < j ∧ j ≠ 0 := by
 have h0 : j ≠ 0 := by
   rintro rfl
   have := h.pos hi
   rw [h.root.2.1] at hp
   omega
 obtain ⟨q, hq, he⟩ := (h.ch hj h0).par
 have := h.asc.inj (i := q) (j := i) (by omega) hi (by rw [he, hp])
 omega
theorem up_le {l : List Nd} {n : Int} (h : VT l n) : ∀ i, i < l.length → ∀ x ∈ upL l (gN l i).i, ∃ t, t ≤ i ∧ (gN l t).i = x := fun i => by
  induction i using Nat.strongRecOn with
  | _ i ih =>
    intro hi x hx
    by_cases h0 : i = 0
    · subst h0
      have hr := h.root.1
      rw [hr, h.up0, List.mem_singleton] at hx
      exact ⟨0, zbc _, by rw [hr, hx]⟩
    · rw [h.up hi h0, zbd] at hx
      rcases hx with rfl | hx
      · exact ⟨i, zbc _, rfl⟩
      · obtain ⟨j, hj, hp⟩ := (h.ch hi h0).par
        rw [← hp] at hx
        obtain ⟨t, ht, e⟩ := ih j hj (by omega) x hx
        exact ⟨t, by omega, e⟩
theorem up_low {l : List Nd} {n : Int} (h : VT l n) : ∀ i, i < l.length → ∀ c y, c < l.length → y < l.length → (gN l c).i ∈ upL l (gN l i).i → (gN l y).i ∈ upL l (gN l i).i → y < c → (gN l y).i ∈ upL l (gN l c).p := fun i => by
  induction i using Nat.strongRecOn with
  | _ i ih =>
    intro hi c y hc hy hcm hym hyc
    by_cases h0 : i = 0
    · subst h0
      obtain ⟨t, ht, e⟩ := up_le h 0 hi _ hcm
      have := h.asc.inj (i := t) (j := c) (by omega) hc e
      omega
    · rw [h.up hi h0, zbd] at hcm hym
      obtain ⟨j, hj, hp⟩ := (h.ch hi h0).par
      rcases hcm with e | hcm
      · have := h.asc.inj hc hi e
        subst this
        rcases hym with e | hym
        · have := h.asc.inj hy hc e
          omega
        · exact hym
      · rw [← hp] at hcm hym
        obtain ⟨t, ht, e⟩ := up_le h j (by omega) _ hcm
        have := h.asc.inj (i := t) (j := c) (by omega) hc e
        rcases hym with e | hym
        · have := h.asc.inj hy hi e
          omega
        · exact ih j hj (by omega) c y hc hy hcm hym hyc
theorem up_trans {l : List Nd} {n : Int} (h : VT l n) {q k : Nat} (hq : q < l.length) (hk : k < l.length) (hp : (gN l q).p = (gN l k).i) : ∀ i, i < l.length → ∀ {x : Int}, (gN l i).i = x → (gN l q).i ∈ upL l x → (gN l k).i ∈ upL l x := fun i => by
  induction i using Nat.strongRecOn with
  | _ i ih =>
    intro hi x hx hm
    subst hx
    by_cases h0 : i = 0
    · subst h0
      obtain ⟨t, ht, e⟩ := up_le h 0 hi _ hm
      have := h.asc.inj (i := t) (j := q) (by omega) hq e
      have := (h.kid hk hq hp).1
      omega
    · rw [h.up hi h0, zbd] at hm ⊢
      obtain ⟨j, hj, hpj⟩ := (h.ch hi h0).par
      right
      rcases hm with e | hm
      · have := h.asc.inj hq hi e
        subst this
        rw [hp, upL_node h.asc hk]
        exact zaM
      · rw [← hpj] at hm ⊢
        exact ih j hj (by omega) rfl hm
theorem subF_ge {l : List Nd} {n : Int} (h : VT l n) : ∀ (f k : Nat) (x : Int), k < l.length → x ∈ subF l f (gN l k).i → ∃ i, k ≤ i ∧ i < l.length ∧ (gN l i).i = x ∧ (gN l k).i ∈ upL l x
  | 0, _, _, _, hx => by cases hx
  | f + 1, k, x, hk, hx => by
    rw [subF, zbd] at hx
    rcases hx with rfl | hx
    · exact ⟨k, zbc _, hk, rfl, by rw [upL_node h.asc hk]; exact zaM⟩
    · rw [List.mem_flatMap] at hx
      obtain ⟨c, hc, hcm⟩ := hx
      obtain ⟨q, hq, hqp, rfl⟩ := kidsL_mem.1 hc
      have hlt := h.kid hk hq hqp
      obtain ⟨i, hi1, hi2, hi3, hi4⟩ := subF_ge h f q x hq hcm
      refine ⟨i, by omega, hi2, hi3, ?_⟩
      exact up_trans h hq hk hqp i hi2 hi3 hi4
theorem nodup_le : ∀ (A B : List Int), A.Nodup → (∀ x ∈ A, x ∈ B) → A.length ≤ B.length
  | [], _, _, _ => zba _
  | a :: A, B, h, hs => by
    have ha := hs a zaM
    have h1 := nodup_le A (B.erase a) (List.nodup_cons.1 h).2 (fun x hx => by
      have : x ≠ a := fun e => (List.nodup_cons.1 h).1 (by rw [← e]; exact hx)
      exact (List.mem_erase_of_ne this).2 (hs x (zaL _ hx)))
    rw [List.length_erase_of_mem ha] at h1
    have := List.length_pos_of_mem ha
    rw [zag]; omega
theorem kidsL_asc {l : List Nd} {n : Int} (h : VT l n) (id : Int) : (kidsL l id).Pairwise (· < ·) := by
 unfold kidsL
 rw [List.pairwise_map]
 exact ((h.vl.asc).filter _).imp fun h => h
theorem subF_nodup {l : List Nd} {n : Int} (h : VT l n) : ∀ (f k : Nat), k < l.length → (subF l f (gN l k).i).Nodup
  | 0, _, _ => List.nodup_nil
  | f + 1, k, hk => by
    rw [subF, zbb]
    refine ⟨fun hm => ?_, ?_⟩
    · rw [List.mem_flatMap] at hm
      obtain ⟨c, hc, hcm⟩ := hm
      obtain ⟨q, hq, hqp, rfl⟩ := kidsL_mem.1 hc
      have hlt := h.kid hk hq hqp
      obtain ⟨i, hi1, hi2, hi3, _⟩ := subF_ge h f q _ hq hcm
      have := h.asc.inj hi2 hk hi3
      omega
    · unfold List.Nodup
      rw [List.pairwise_flatMap]
      refine ⟨fun c hc => ?_, ?_⟩
      · obtain ⟨q, hq, hqp, rfl⟩ := kidsL_mem.1 hc
        exact subF_nodup h f q hq
      · refine (kidsL_asc h (gN l k).i).imp_of_mem fun {a b} ha hb hab x hx y hy hxy => ?_
        subst hxy
        obtain ⟨q, hq, hqp, rfl⟩ := kidsL_mem.1 ha
        obtain ⟨r, hr, hrp, rfl⟩ := kidsL_mem.1 hb
        obtain ⟨i, hi1, hi2, hi3, hi4⟩ := subF_ge h f q _ hq hx
        obtain ⟨j, hj1, hj2, hj3, hj4⟩ := subF_ge h f r _ hr hy
        have hqr : q < r := by
          rcases zbf q r with c | c
          · exact c
          · rcases zbf r q with d | d
            · have := h.asc r q d hq; omega
            · have : q = r := by omega
              subst this; omega
        rw [← hi3] at hi4 hj4
        have h3 := up_low h i hi2 r q hr hq hj4 hi4 hqr
        rw [hrp] at h3
        obtain ⟨t, ht, hte⟩ := up_le h k hk _ h3
        have := h.asc.inj (i := q) (j := t) hq (by omega) hte.symm
        have := (h.kid hk hq hqp).1
        omega
theorem subF_len {l : List Nd} {n : Int} (h : VT l n) (f k : Nat) (hk : k < l.length) : (subF l f (gN l k).i).length ≤ l.length := by
 have := nodup_le _ (l.map (·.i)) (subF_nodup h f k hk) (fun x hx => by
   obtain ⟨i, _, hi, e, _⟩ := subF_ge h f k x hk hx
   exact List.mem_map.2 ⟨gN l i, getD_mem l i zn hi, e⟩)
 rwa [List.length_map] at this
set_option maxHeartbeats 16000000 in
theorem sub_spec (l : List Nd) (k : Option Nat) (n : Int) (h : VT l n) (hnm : NmR l) : ∀ (f i : Nat), i < l.length → l.length - i ≤ f → FnSpec Tryz.prog 71 [trV l k n, i1 (gN l i).i] [] (gi (subF l f (gN l i).i) none) []
  | 0, i, hi, hf => by omega
  | f + 1, i, hi, hf => by
    have hle := h.le
    have h1 := rhas_spec l k n (gN l i).i (by omega) hnm
    have hh : hasM l n (gN l i).i = true := by
      unfold hasM
      rw [(chkT_iff l n).2 h, Bool.true_and, List.any_eq_true]
      exact ⟨gN l i, getD_mem l i zn hi, decide_eq_true rfl⟩
    rw [hh] at h1
    have h2 := rkids_spec l k n (gN l i).i (by omega) hnm
    have hch : chM l n (gN l i).i = kidsL l (gN l i).i := by unfold chM; rw [hh, if_pos rfl]
    rw [hch] at h2
    have hkl := kidsL_len l (gN l i).i
    have ih : ∀ x ∈ kidsL l (gN l i).i, FnSpec Tryz.prog 71 [trV l k n, i1 x] [] (gi (subF l f x) none) [] := fun x hx => by
      obtain ⟨j, hj, hp, rfl⟩ := kidsL_mem.1 hx
      exact sub_spec l k n h hnm f j hj (by have := (h.kid hi hj hp).1; omega)
    have hlen := subF_len h (f + 1) i hi
    have hun : subF l (f + 1) (gN l i).i = (gN l i).i :: (kidsL l (gN l i).i).flatMap (subF l f) := rfl
    rw [hun] at hlen ⊢
    generalize kidsL l (gN l i).i = K at *
    generalize (gN l i).i = id at *
    have hun2 : ∀ m, m < K.length → (id :: (K.take (m + 1)).flatMap (subF l f)) = (id :: (K.take m).flatMap (subF l f)) ++ subF l f (K.getD m 0) := fun m hm => by
      rw [take_getD K m 0 hm, zbg, List.flatMap_cons, List.flatMap_nil, zae]; rfl
    have hlm : ∀ m, (id :: (K.take m).flatMap (subF l f)).length ≤ l.length := fun m => by
      refine Nat.le_trans ?_ hlen
      rw [zag, zag]
      have e : K = K.take m ++ K.drop m := (List.take_append_drop m K).symm
      rw [show (K.flatMap (subF l f)) = (K.take m).flatMap (subF l f) ++ (K.drop m).flatMap (subF l f) by rw [← zbg, ← e], zaK]
      omega
    clear hun hlen
    refine fnspec_of mixed TT_ok TT_cl ⟨fun _ => false, fun _ => [], 0, fun _ => false, fun _ => false⟩ Tryz.func71 rfl (by kernel_rfl) rfl 32 rfl [.tmp 4] rfl ?_
    simp only [go_sem, zaa, zao, zap, zaq, zau, zah, ↓reduceIte, reduceCtorEq, zac, zad, zav, zaw, zax]
    repeat' (first
 | (apply cl_plain
    case hs => rfl
    case ha => exact yhb
    case h => exact yhg)
 | ((first | refine s1_id ?_ | refine swp_id ?_ | refine sops_id ?_ | refine s2_id ?_); simp only [go_sem, zaa, zao, zap, zaq, zau, zah, ↓reduceIte, reduceCtorEq, zac, zad, zav, zaw, zax, zaQ, zaS, zaJ, zaR, renO, bk, back, outUpsFrom, Ints_ren])
 | exact yha | fail)
    refine w_loop (ι := Nat) (fun m => ⟨[(2, .one (.optr 0 0)), (5, .one (.osl 1 0 (id :: (K.take m).flatMap (subF l f)).length none)), (6, gi K none), (7, i1 m)], [(0, some ⟨[.gsl (Cs l) 0 l.length k, int n], 2⟩), (1, some ⟨Ints (id :: (K.take m).flatMap (subF l f)), 1⟩)], 2⟩) (fun m => m ≤ K.length) (fun m => K.length - m) 0 ?_ (zba _) ?_
    · refine Imp.trans (t := ⟨[(2, .one (.optr 0 0)), (5, .one (.osl 1 0 1 (some 1))), (6, gi K none), (7, i1 (0 : Nat))], [(0, some ⟨[.gsl (Cs l) 0 l.length k, int n], 2⟩), (1, some ⟨Ints [id], 1⟩)], 2⟩) ?_ (imp_w _ _ _ ?_ rfl (zbc _))
      · skip
        (refine imp_ren _ _ _ [(0, 0, ⟨[.gsl (Cs l) 0 l.length k, int n], 2⟩), (1, 7, ⟨Ints [id], 1⟩)] (by simp) (by simp) (by simp) (zaI rfl) ?_ rfl (by simp only [zab, zaf, false_implies, implies_true, and_true, zaW, lookR, zaa, if_true, if_false, ↓reduceIte] <;> (repeat' apply zaH) <;> (first | rfl | trivial)) (by simp only [zab, zaf, false_implies, implies_true, and_true, true_and, flat_cons, flat_nil, flat_ints, flat_bools, flat_app, zaN, and_self, eq_self_iff_true, zae]); simp only [zaj, zar, zab, zaf, false_implies, implies_true, and_true, lk, slot, zaQ, zaJ, toN, zaa, if_true, if_false, ↓reduceIte, reduceCtorEq])
        all_goals ((repeat' apply zaH) <;> (first | rfl | trivial))
      · intro x hx
        simp only [zbd, zaf, or_false] at hx
        rcases hx with rfl | rfl | rfl | rfl <;> first | exact ⟨_, rfl, SVW.refl _⟩ | exact ⟨_, rfl, svw_of (cw_ocap _ _ _ _)⟩
    clear h1 h2
    intro m hm
    simp only at hm ⊢
    rcases zbf m K.length with hlt | hge
    case inr =>
      have c : ¬ (m : Int) < (K.length : Int) := by omega
      rw [zaV hge]
      simp only [go_sem, zaa, zao, zap, zaq, zau, zah, ↓reduceIte, reduceCtorEq, zac, zad, zav, zaw, zax, decide_eq_false c]
      repeat' (first
 | exact yha | fail)
      (refine fs_frz 1 ⟨Ints (id :: K.flatMap (subF l f)), 1⟩ (by simp only [zaW, lookR, zaa, if_true, if_false, ↓reduceIte]) (by first | exact Ints_isG _ | exact Bools_isG _ | exact Cs_isG _ | (simp [Cell.isG]; done)) ?_; simp only [frzTm, SV.frz, SV.frzL, zbh, frzHp, frzO, Ints_frz, Bools_frz, zaj, zar, zaa, if_true, if_false, ↓reduceIte])
      apply fs_nil <;> (try simp only [go_sem, resV, resS, zaQ, zaS, zaJ, St.tmF, zaW, idx, renO, zaR, evS, slot, lookR, zaa, ↓reduceIte, reduceCtorEq, if_true, if_false, zaY, zaZ, zaj, zar, sLoad, readAt, readNeed, Ints_ren, Ints_length, Ints_getD, and_true, true_and, zaT, zaU]) <;> (try rfl)
    have c : (m : Int) < (K.length : Int) := by omega
    have h3 := ih (K.getD m 0) (getD_mem K m 0 hlt)
    have h4 := hun2 m hlt
    have h4l : (List.flatMap (subF l f) (zbi (m + 1) K)).length + 1 = (id :: (K.take m).flatMap (subF l f)).length + (subF l f (K.getD m 0)).length := by rw [← zaK, ← h4, zag]
    have h5 := hlm m
    have h6 := hlm (m + 1)
    rw [h4] at h6
    generalize (id :: (K.take m).flatMap (subF l f)) = A at *
    generalize subF l f (K.getD m 0) = B at *
    have htk : zbi A.length (Ints A) = Ints A := zaV (by rw [Ints_length]; exact zbc _)
    have htb : zbi B.length (Ints B) = Ints B := zaV (by rw [Ints_length]; exact zbc _)
    have hpp : Ints A ++ Ints B = Ints (A ++ B) := by simp [Ints]
    rw [zaK] at h6
    have hla : (A ++ B).length = A.length + B.length := zaK
    simp only [go_sem, zaa, zao, zap, zaq, zau, zah, ↓reduceIte, reduceCtorEq, zac, zad, zav, zaw, zax, decide_eq_true c]
    repeat' (first
 | with_reducible refine zaH ?_ ?_
 | (unfold OKC; kernel_rfl)
 | (unfold EDG; kernel_rfl)
 | (apply cl_plain
    case hs => rfl
    case ha => exact yhb
    case h => (first | exact h3 ..))
 | ((first | refine s1_id ?_ | refine swp_id ?_ | refine sops_id ?_ | refine s2_id ?_); simp only [decide_eq_true c, htk, htb, hpp, zan, zas, zae, zat, zay, zak, zal, zai, zaB, zaC, zag, zam, go_sem, zaa, zao, zap, zaq, zau, zah, ↓reduceIte, reduceCtorEq, zac, zad, zav, zaw, zax, zaQ, zaS, zaJ, zaR, renO, bk, back, outUpsFrom, Ints_ren])
 | exact yhi
 | exact yha | fail)
    refine le_mk (m + 1) ?_ hlt (by omega)
    simp only [h4, h4l, hla]
    (refine imp_ren _ _ _ [(0, 0, ⟨[.gsl (Cs l) 0 l.length k, int n], 2⟩), (1, 13, ⟨Ints (A ++ B), 1⟩)] (by simp) (by simp) (by simp) (zaI rfl) ?_ rfl (by simp only [zab, zaf, false_implies, implies_true, and_true, zaW, lookR, zaa, if_true, if_false, ↓reduceIte] <;> (repeat' apply zaH) <;> (first | rfl | trivial)) (by simp only [zab, zaf, false_implies, implies_true, and_true, true_and, flat_cons, flat_nil, flat_ints, flat_bools, flat_app, zaN, and_self, eq_self_iff_true, zae]); simp only [zaj, zar, zab, zaf, false_implies, implies_true, and_true, lk, slot, zaQ, zaJ, toN, zaa, if_true, if_false, ↓reduceIte, reduceCtorEq])
    all_goals ((repeat' apply zaH) <;> (first | rfl | trivial | (simp only [zaO]; done) | (simp only [zaO]; rfl) | (simp only [zaO]; trivial)))
abbrev KL := List (Int × List Int)
def mcN : List Nat → KL → List Cell
  | n :: ns, x :: r => int x.1 :: .osl n 0 x.2.length none :: mcN ns r
  | _, _ => []
def mrN : List Nat → KL → List (Nat × Option Row)
  | n :: ns, x :: r => (n, some ⟨Ints x.2, 1⟩) :: mrN ns r
  | _, _ => []
def gcN : KL → List Cell
  | [] => []
  | x :: r => int x.1 :: .gsl (Ints x.2) 0 x.2.length none :: gcN r
theorem mcN_app : ∀ {ns : List Nat} {ks : KL}, ns.length = ks.length → ∀ (ns' : List Nat) (ks' : KL), mcN (ns ++ ns') (ks ++ ks') = mcN ns ks ++ mcN ns' ks'
  | [], [], _, _, _ => rfl
  | n :: ns, x :: r, h, ns', ks' => by
    show int x.1 :: .osl n 0 x.2.length none :: mcN (ns ++ ns') (r ++ ks') = _
    rw [mcN_app (by simpa using h) ns' ks']; rfl
theorem mrN_app : ∀ {ns : List Nat} {ks : KL}, ns.length = ks.length → ∀ (ns' : List Nat) (ks' : KL), mrN (ns ++ ns') (ks ++ ks') = mrN ns ks ++ mrN ns' ks'
  | [], [], _, _, _ => rfl
  | n :: ns, x :: r, h, ns', ks' => by
    show (n, _) :: mrN (ns ++ ns') (r ++ ks') = _
    rw [mrN_app (by simpa using h) ns' ks']; rfl
theorem keyEq_i (a b : Int) : keyEq (.int .i64 a) (.int .i64 b) = (a == b) := rfl
theorem mkeys_mcN : ∀ (ns : List Nat) (ks : KL), mkeys (.int .i64) (mcN ns ks) = true
  | [], ks => by cases ks <;> rfl
  | _ :: _, [] => rfl
  | n :: ns, x :: r => by
    show (keyB (.int .i64) (.int .i64 x.1) && mkeys (.int .i64) (mcN ns r)) = true
    rw [mkeys_mcN ns r]; rfl
theorem mget_none {p : Int} : ∀ (ns : List Nat) (ks : KL), (∀ x ∈ ks, x.1 ≠ p) → mget (.int .i64 p) (mcN ns ks) = none
  | [], ks, _ => by cases ks <;> rfl
  | _ :: _, [], _ => rfl
  | n :: ns, x :: r, h => by
    show (if keyEq (.int .i64 p) (.int .i64 x.1) = true then _ else mget (.int .i64 p) (mcN ns r)) = none
    rw [keyEq_i, if_neg (by simpa using fun e => h x zaM e.symm)]
    exact mget_none ns r (fun y hy => h y (zaL _ hy))
theorem mget_at {p : Int} (c : Cell) (D : List Cell) : ∀ (ns : List Nat) (ks : KL), (∀ x ∈ ks, x.1 ≠ p) → mget (.int .i64 p) (mcN ns ks ++ int p :: c :: D) = some c
  | [], ks, _ => by
    have : mcN [] ks = [] := by cases ks <;> rfl
    rw [this]
    show (if keyEq (.int .i64 p) (.int .i64 p) = true then _ else _) = _
    rw [keyEq_i, if_pos (by simp)]
  | _ :: _, [], _ => by
    show (if keyEq (.int .i64 p) (.int .i64 p) = true then _ else _) = _
    rw [keyEq_i, if_pos (by simp)]
  | n :: ns, x :: r, h => by
    show (if keyEq (.int .i64 p) (.int .i64 x.1) = true then _ else mget (.int .i64 p) (mcN ns r ++ int p :: c :: D)) = some c
    rw [keyEq_i, if_neg (by simpa using fun e => h x zaM e.symm)]
    exact mget_at c D ns r (fun y hy => h y (zaL _ hy))
theorem mset_new {p : Int} (c : Cell) : ∀ (ns : List Nat) (ks : KL), ns.length = ks.length → (∀ x ∈ ks, x.1 ≠ p) → mset (.int .i64 p) c (mcN ns ks) = mcN ns ks ++ [int p, c]
  | [], [], _, _ => rfl
  | n :: ns, x :: r, hl, h => by
    show (if keyEq (.int .i64 p) (.int .i64 x.1) = true then _ else int x.1 :: .osl n 0 x.2.length none :: mset (.int .i64 p) c (mcN ns r)) = _
    rw [keyEq_i, if_neg (by simpa using fun e => h x zaM e.symm), mset_new c ns r (by simpa using hl) (fun y hy => h y (zaL _ hy))]
    rfl
theorem mset_at {p : Int} (c d : Cell) (D : List Cell) : ∀ (ns : List Nat) (ks : KL), ns.length = ks.length → (∀ x ∈ ks, x.1 ≠ p) → mset (.int .i64 p) c (mcN ns ks ++ int p :: d :: D) = mcN ns ks ++ int p :: c :: D
  | [], [], _, _ => by
    show (if keyEq (.int .i64 p) (.int .i64 p) = true then _ else _) = _
    rw [keyEq_i, if_pos (by simp)]; rfl
  | n :: ns, x :: r, hl, h => by
    show (if keyEq (.int .i64 p) (.int .i64 x.1) = true then _ else int x.1 :: .osl n 0 x.2.length none :: mset (.int .i64 p) c (mcN ns r ++ int p :: d :: D)) = _
    rw [keyEq_i, if_neg (by simpa using fun e => h x zaM e.symm), mset_at c d D ns r (by simpa using hl) (fun y hy => h y (zaL _ hy))]
    rfl
theorem lookR_mrN_out {r : Nat} : ∀ {ns : List Nat} {ks : KL}, ¬ r ∈ ns → lookR r (mrN ns ks) = none
  | [], ks, _ => by cases ks <;> rfl
  | _ :: _, [], _ => rfl
  | n :: ns, x :: ks, h => by
    show (if n = r then _ else lookR r (mrN ns ks)) = none
    rw [if_neg (fun e => h (by rw [e]; exact zaM))]
    exact lookR_mrN_out (fun hm => h (zaL _ hm))
theorem lookR_app {r : Nat} : ∀ (A B : List (Nat × Option Row)), (∀ p ∈ A, p.1 ≠ r) → lookR r (A ++ B) = lookR r B
  | [], B, _ => rfl
  | (j, x) :: A, B, h => by
    show (if j = r then x else lookR r (A ++ B)) = _
    rw [if_neg (h _ zaM)]
    exact lookR_app A B (fun p hp => h p (zaL _ hp))
theorem mrN_fst : ∀ {ns : List Nat} {ks : KL}, ∀ p ∈ mrN ns ks, p.1 ∈ ns
  | [], ks, p, hp => by cases ks <;> cases hp
  | _ :: _, [], p, hp => by cases hp
  | n :: ns, x :: ks, p, hp => by
    rcases List.mem_cons.1 hp with rfl | hp
    · exact zaM
    · exact zaL _ (mrN_fst p hp)
theorem mrN_at {r : Nat} {L : List Int} {p : Int} {B : KL} {nb : List Nat} : ∀ {ns : List Nat} {ks : KL}, ns.length = ks.length → ¬ r ∈ ns → lookR r (mrN (ns ++ r :: nb) (ks ++ (p, L) :: B)) = some ⟨Ints L, 1⟩ := fun {ns ks} hl h => by
  rw [mrN_app hl, lookR_app (mrN ns ks) _ (fun q hq e => h (by rw [← e]; exact mrN_fst q hq))]
  show (if r = r then _ else _) = _
  rw [if_pos rfl]
def RowsAt (f : Nat → Option Row) : List Nat → KL → Prop
  | n :: ns, x :: r => f n = some ⟨Ints x.2, 1⟩ ∧ RowsAt f ns r
  | [], [] => True
  | _, _ => False
theorem RowsAt.app {f : Nat → Option Row} {ms : List Nat} {B : KL} (h2 : RowsAt f ms B) : ∀ {ns : List Nat} {A : KL}, RowsAt f ns A → RowsAt f (ns ++ ms) (A ++ B)
  | [], [], _ => h2
  | _ :: _, _ :: _, h => ⟨h.1, RowsAt.app h2 h.2⟩
theorem RowsAt.mono {f g : Nat → Option Row} : ∀ {ns : List Nat} {A : KL}, (∀ n ∈ ns, g n = f n) → RowsAt f ns A → RowsAt g ns A
  | [], [], _, _ => trivial
  | n :: ns, _ :: _, h, hr => ⟨by rw [h n zaM]; exact hr.1, RowsAt.mono (fun m hm => h m (zaL _ hm)) hr.2⟩
theorem RowsAt.of {ns : List Nat} {ks : KL} (hl : ns.length = ks.length) (hn : ns.Nodup) : RowsAt (fun r => lookR r (mrN ns ks)) ns ks := by
 induction ns generalizing ks with
 | nil => cases ks with
   | nil => trivial
   | cons x r => cases hl
 | cons n ns ih => cases ks with
   | nil => cases hl
   | cons x r =>
     rw [zbb] at hn
     refine ⟨if_pos rfl, RowsAt.mono (fun m hm => ?_) (ih (ks := r) (by simpa using hl) hn.2)⟩
     show (if n = m then _ else lookR m (mrN ns r)) = _
     rw [if_neg (fun e => hn.1 (by rw [e]; exact hm))]
theorem imp_hp (k : Nat) (tm : List (Nat × SV)) (h1 h2 : List (Nat × Option Row)) (nx : Nat) (h : ∀ r, lookR r h1 = lookR r h2) : Imp k ⟨tm, h1, nx⟩ ⟨tm, h2, nx⟩ := by
 intro P w0 A N a w m π hk hr
 refine ⟨m, π, ?_⟩
 have e : zaW ⟨tm, h2, nx⟩ = zaW ⟨tm, h1, nx⟩ := by funext r; exact (h r).symm
 rw [e]
 exact hr
theorem imp_kl {k : Nat} {s : St} (hk : k = 0) (tm : List (Nat × SV)) (ms ns : List Nat) (ks : KL) (N : Nat) (hl : ns.length = ks.length) (hl2 : ms.length = ks.length) (hn : (0 :: ns).Nodup) (hm : (0 :: ms).Nodup) (hlt : ∀ m ∈ ms, m < N) (h0 : s.hpF 0 = some ⟨mcN ns ks, 0⟩) (hr : RowsAt s.hpF ns ks) (ht : ∀ x ∈ tm, lk s ((0, 0) :: ms.zip ns) x.1 = some x.2) (hN : 0 < N) : Imp k s ⟨tm, (0, some ⟨mcN ms ks, 0⟩) :: mrN ms ks, N⟩ := by
 subst hk
 have hz1 : (ms.zip ns).map (·.1) = ms := List.map_fst_zip (by omega)
 have hz2 : (ms.zip ns).map (·.2) = ns := List.map_snd_zip (by omega)
 have htn : ∀ p ∈ ms.zip ns, toN ((0, 0) :: ms.zip ns) p.2 = some p.1 := fun p hp => toN_of (by rw [zaj, hz2]; exact hn) (zaL _ hp)
 refine imp_sub 0 s _ ((0, 0) :: ms.zip ns) (by rw [zaj, hz1]; exact hm) (by rw [zaj, hz2]; exact hn) ?_ (zba _) ht ?_ ?_
 · intro p hp
   refine ⟨?_, fun h => absurd h (Nat.not_lt_zero _)⟩
   rcases List.mem_cons.1 hp with rfl | hp
   · exact hN
   · exact hlt _ (by rw [← hz1]; exact List.mem_map_of_mem hp)
 · have hc : ∀ (ms' ns' : List Nat) (ks' : KL), ms'.length = ks'.length → ns'.length = ks'.length → (∀ p ∈ ms'.zip ns', toN ((0, 0) :: ms.zip ns) p.2 = some p.1) → (mcN ns' ks').map (zaJ (toN ((0, 0) :: ms.zip ns))) = mcN ms' ks' := by
     intro ms' ns' ks'
     induction ks' generalizing ms' ns' with
     | nil =>
       intro a b _
       rw [List.length_eq_zero_iff.1 a, List.length_eq_zero_iff.1 b]; rfl
     | cons x r ih =>
       intro a b c
       cases ms' with
       | nil => cases a
       | cons m ms' => cases ns' with
         | nil => cases b
         | cons n ns' =>
           show (int x.1).ren _ :: (Cell.osl n 0 x.2.length none).ren _ :: (mcN ns' r).map _ = _
           rw [ih ms' ns' (by simpa using a) (by simpa using b) (fun p hp => c p (zaL _ hp))]
           have := c (m, n) zaM
           simp only at this
           simp only [zaJ, this]
           rfl
   have hrr : ∀ (ms' ns' : List Nat) (ks' : KL), ms'.length = ks'.length → RowsAt s.hpF ns' ks' → mrN ms' ks' = (ms'.zip ns').map fun p => (p.1, renO (toN ((0, 0) :: ms.zip ns)) (s.hpF p.2)) := by
     intro ms' ns' ks'
     induction ks' generalizing ms' ns' with
     | nil =>
       intro a _
       rw [List.length_eq_zero_iff.1 a]; rfl
     | cons x r ih =>
       intro a b
       cases ms' with
       | nil => cases a
       | cons m ms' => cases ns' with
         | nil => exact b.elim
         | cons n ns' =>
           show (m, some ⟨Ints x.2, 1⟩) :: mrN ms' r = (m, renO _ (s.hpF n)) :: _
           rw [ih ms' ns' (by simpa using a) b.2, b.1]
           simp only [renO, zaR, Ints_ren]
           rfl
   show (0, some ⟨mcN ms ks, 0⟩) :: mrN ms ks = (0, renO _ (s.hpF 0)) :: _
   rw [hrr ms ns ks hl2 hr, h0]
   simp only [renO, zaR, hc ms ns ks hl2 hl htn]
 · intro p hp row hrow c hc q hq
   have hin : ∀ n, n ∈ 0 :: ns → (toN ((0, 0) :: ms.zip ns) n).isSome = true := by
     intro n hn'
     rcases List.mem_cons.1 hn' with rfl | hn'
     · rfl
     · rw [← hz2] at hn'
       obtain ⟨p, hp, rfl⟩ := List.mem_map.1 hn'
       rw [htn p hp]; rfl
   have hcells : ∀ (ns' : List Nat) (ks' : KL), (∀ n ∈ ns', n ∈ ns) → ∀ c ∈ mcN ns' ks', ∀ q ∈ c.refs, q ∈ ns := by
     intro ns' ks'
     induction ks' generalizing ns' with
     | nil => intro _ c hc; cases ns' <;> cases hc
     | cons x r ih =>
       cases ns' with
       | nil => intro _ c hc; cases hc
       | cons n ns' =>
         intro h c hc q hq
         rcases List.mem_cons.1 hc with rfl | hc
         · cases hq
         rcases List.mem_cons.1 hc with rfl | hc
         · rw [List.mem_singleton.1 hq]; exact h n zaM
         · exact ih ns' (fun m hm => h m (zaL _ hm)) c hc q hq
   have hrows : ∀ (ns' : List Nat) (ks' : KL), RowsAt s.hpF ns' ks' → ∀ n ∈ ns', ∃ L, s.hpF n = some ⟨Ints L, 1⟩ := by
     intro ns' ks'
     induction ks' generalizing ns' with
     | nil => intro h n hn; cases ns' with
       | nil => cases hn
       | cons _ _ => exact h.elim
     | cons x r ih =>
       cases ns' with
       | nil => intro h; exact h.elim
       | cons m ns' =>
         intro h n hn
         rcases List.mem_cons.1 hn with rfl | hn
         · exact ⟨_, h.1⟩
         · exact ih ns' h.2 n hn
   rcases List.mem_cons.1 hp with rfl | hp
   · rw [h0] at hrow
     cases hrow
     exact hin q (zaL _ (hcells ns ks (fun _ h => h) c hc q hq))
   · obtain ⟨L, hL⟩ := hrows ns ks hr p.2 (by rw [← hz2]; exact List.mem_map_of_mem hp)
     rw [hL] at hrow
     cases hrow
     exact absurd hq (by intro hq; exact Ints_refs _ c hc (fun _ => False) q hq)
theorem gcN_g : ∀ (ks : KL), ∀ c ∈ gcN ks, c.isG = true
  | [], c, h => by cases h
  | x :: r, c, h => by
    rcases List.mem_cons.1 h with rfl | h
    · rfl
    rcases List.mem_cons.1 h with rfl | h
    · rfl
    exact gcN_g r c h
theorem gcN_app (a b : KL) : gcN (a ++ b) = gcN a ++ gcN b := by
 induction a with
 | nil => rfl
 | cons x r ih => show _ :: _ :: gcN (r ++ b) = _; rw [ih]; rfl
theorem mcN_frz {r : Nat} {cs : List Cell} : ∀ (ns : List Nat) (ks : KL), ¬ r ∈ ns → (mcN ns ks).map (zbh r cs) = mcN ns ks
  | [], ks, _ => by cases ks <;> rfl
  | _ :: _, [], _ => rfl
  | n :: ns, x :: ks, h => by
    show (int x.1).frz r cs :: (Cell.osl n 0 x.2.length none).frz r cs :: (mcN ns ks).map _ = _
    rw [mcN_frz ns ks (fun hm => h (zaL _ hm))]
    simp only [zbh]
    rw [if_neg (fun e => h (by rw [← e]; exact zaM))]
    rfl
theorem mrN_frz {r : Nat} {cs : List Cell} : ∀ (ns : List Nat) (ks : KL), frzHp r cs (mrN ns ks) = mrN ns ks
  | [], ks => by cases ks <;> rfl
  | _ :: _, [] => rfl
  | n :: ns, x :: ks => by
    show (n, some (⟨(Ints x.2).map (zbh r cs), 1⟩ : Row)) :: frzHp r cs (mrN ns ks) = _
    rw [mrN_frz ns ks, Ints_frz]
    rfl
theorem imp_gc (k : Nat) (tm : List (Nat × SV)) (N : Nat) (ht : ∀ r cs, r ≠ 0 → frzTm r cs tm = tm) : ∀ (ns : List Nat) (ks pre : KL), ns.length = ks.length → (0 :: ns).Nodup → Imp k ⟨tm, (0, some ⟨gcN pre ++ mcN ns ks, 0⟩) :: mrN ns ks, N⟩ ⟨tm, [(0, some ⟨gcN (pre ++ ks), 0⟩)], N⟩
  | [], [], pre, _, _ => by
    rw [zae]
    show Imp k ⟨tm, [(0, some ⟨gcN pre ++ [], 0⟩)], N⟩ _
    rw [zae]
    exact Imp.refl _ _
  | n :: ns, x :: ks, pre, hl, hn => by
    have hn' := hn
    rw [zbb, zbb] at hn
    have hn0 : n ≠ 0 := fun e => hn.1 (by rw [e]; exact zaM)
    refine Imp.trans (imp_frz k _ n ⟨Ints x.2, 1⟩ ?_ (Ints_isG _)) ?_
    · show (if 0 = n then _ else if n = n then _ else _) = _
      rw [if_neg (fun e => hn0 e.symm), if_pos rfl]
    have h1 : (gcN pre ++ mcN (n :: ns) (x :: ks)).map (zbh n (Ints x.2)) = gcN (pre ++ [x]) ++ mcN ns ks := by
      rw [List.map_append, map_id_of (fun c hc => isG_frz (gcN_g pre c hc) _ _), gcN_app, List.append_assoc]
      congr 1
      show (int x.1).frz _ _ :: (Cell.osl n 0 x.2.length none).frz _ _ :: (mcN ns ks).map _ = _
      rw [mcN_frz ns ks hn.2.1]
      simp only [zbh, if_true]
      rfl
    have h2 : frzTm n (Ints x.2) tm = tm := ht _ _ hn0
    refine Imp.trans (imp_hp k _ _ ((0, some ⟨gcN (pre ++ [x]) ++ mcN ns ks, 0⟩) :: mrN ns ks) _ ?_) ?_
    · intro r
      show (if n = r then none else if 0 = r then some (⟨_, 0⟩ : Row) else if n = r then _ else lookR r (frzHp n _ (mrN ns ks))) = if 0 = r then _ else lookR r (mrN ns ks)
      rw [mrN_frz, h1]
      by_cases e : n = r
      · subst e
        rw [if_pos rfl, if_neg (fun e => hn0 e.symm), lookR_mrN_out hn.2.1]
      · rw [if_neg e]
        simp only [if_neg e]
    show Imp k ⟨frzTm n (Ints x.2) tm, _, N⟩ _
    rw [h2]
    have := imp_gc k tm N ht ns ks (pre ++ [x]) (by simpa using hl) (List.nodup_cons.2 ⟨fun h => hn.1 (zaL _ h), hn.2.2⟩)
    rw [List.append_assoc] at this
    exact this
def kput : KL → Int → Int → KL
  | [], p, d => [(p, [d])]
  | x :: r, p, d => if x.1 = p then (p, x.2 ++ [d]) :: r else x :: kput r p d
def belowM (l : List Nd) : KL := l.foldl (fun ks x => kput ks x.p x.i) []
def kg : KL → Int → List Int
  | [], _ => []
  | x :: r, p => if x.1 = p then x.2 else kg r p
theorem kput_new {p : Int} (d : Int) : ∀ {ks : KL}, (∀ x ∈ ks, x.1 ≠ p) → kput ks p d = ks ++ [(p, [d])]
  | [], _ => rfl
  | x :: r, h => by
    rw [kput, if_neg (h x zaM), kput_new d (fun y hy => h y (zaL _ hy))]; rfl
theorem kput_at {p : Int} (d : Int) (L : List Int) (B : KL) : ∀ {A : KL}, (∀ x ∈ A, x.1 ≠ p) → kput (A ++ (p, L) :: B) p d = A ++ (p, L ++ [d]) :: B
  | [], _ => by show (if p = p then _ else _) = _; rw [if_pos rfl]; rfl
  | x :: r, h => by
    show (if x.1 = p then _ else x :: kput (r ++ (p, L) :: B) p d) = _
    rw [if_neg (h x zaM), kput_at d L B (fun y hy => h y (zaL _ hy))]; rfl
theorem k_split (p : Int) : ∀ (ks : KL), (∀ x ∈ ks, x.1 ≠ p) ∨ ∃ A L B, ks = A ++ (p, L) :: B ∧ ∀ x ∈ A, x.1 ≠ p
  | [] => .inl (fun x hx => by cases hx)
  | x :: r => by
    by_cases c : x.1 = p
    · right; exact ⟨[], x.2, r, by rw [← c]; rfl, fun y hy => by cases hy⟩
    · rcases k_split p r with h | ⟨A, L, B, e, h⟩
      · left; intro y hy
        rcases List.mem_cons.1 hy with rfl | hy
        · exact c
        · exact h y hy
      · right
        refine ⟨x :: A, L, B, by rw [e]; rfl, fun y hy => ?_⟩
        rcases List.mem_cons.1 hy with rfl | hy
        · exact c
        · exact h y hy
theorem kg_put (p d q : Int) : ∀ (ks : KL), kg (kput ks p d) q = if q = p then kg ks p ++ [d] else kg ks q
  | [] => by
    show (if p = q then [d] else []) = _
    by_cases c : q = p
    · rw [if_pos c, if_pos c.symm]; rfl
    · rw [if_neg c, if_neg (fun e => c e.symm)]; rfl
  | x :: r => by
    rw [kput]
    by_cases c : x.1 = p
    · rw [if_pos c]
      show (if p = q then _ else kg r q) = if q = p then (if x.1 = p then x.2 else kg r p) ++ [d] else (if x.1 = q then x.2 else kg r q)
      rw [c]
      by_cases e : q = p
      · rw [if_pos e, if_pos e.symm, if_pos rfl]
      · rw [if_neg e, if_neg (fun h => e h.symm), if_neg (fun h => e h.symm)]
    · rw [if_neg c]
      show (if x.1 = q then x.2 else kg (kput r p d) q) = if q = p then (if x.1 = p then x.2 else kg r p) ++ [d] else (if x.1 = q then x.2 else kg r q)
      rw [kg_put p d q r, if_neg c]
      by_cases e : q = p
      · rw [if_pos e, if_pos e, if_neg (fun h => c (h.trans e))]
      · rw [if_neg e, if_neg e]
theorem kidsL_snoc (l : List Nd) (x : Nd) (q : Int) : kidsL (l ++ [x]) q = if x.p = q then kidsL l q ++ [x.i] else kidsL l q := by
 unfold kidsL
 rw [List.filter_append, List.map_append]
 by_cases c : x.p = q
 · rw [if_pos c, List.filter_cons_of_pos (by simpa using c)]; rfl
 · rw [if_neg c, List.filter_cons_of_neg (by simpa using c)]; simp
theorem belowM_snoc (l : List Nd) (x : Nd) : belowM (l ++ [x]) = kput (belowM l) x.p x.i := by
 unfold belowM; rw [List.foldl_append]; rfl
theorem belowM_kg (l : List Nd) (q : Int) : kg (belowM l) q = kidsL l q := by
 rw [← List.reverse_reverse l]
 induction l.reverse with
 | nil => rfl
 | cons x r ih =>
   rw [List.reverse_cons, belowM_snoc, kg_put, kidsL_snoc]
   by_cases c : q = x.p
   · rw [if_pos c, if_pos c.symm, ← c, ih]
   · rw [if_neg c, if_neg (fun e => c e.symm), ih]
theorem belowM_len (l : List Nd) : (belowM l).length ≤ l.length ∧ ∀ x ∈ belowM l, x.2.length ≤ l.length := by
 rw [← List.reverse_reverse l]
 induction l.reverse with
 | nil => exact ⟨zbc _, fun x hx => by cases hx⟩
 | cons x r ih =>
   rw [List.reverse_cons, belowM_snoc]
   obtain ⟨h1, h2⟩ := ih
   rcases k_split x.p (belowM r.reverse) with h | ⟨A, L, B, e, h⟩
   · rw [kput_new _ h]
     refine ⟨by simp only [zaK, zbe] at h1 ⊢; omega, fun y hy => ?_⟩
     rcases List.mem_append.1 hy with hy | hy
     · have := h2 y hy; rw [zaK]; omega
     · rw [List.mem_singleton.1 hy, zaK]; simp
   · rw [e] at h1 h2 ⊢
     rw [kput_at _ _ _ h]
     refine ⟨by simp only [zaK, zag, zbe] at h1 ⊢; omega, fun y hy => ?_⟩
     rcases List.mem_append.1 hy with hy | hy
     · have := h2 y (List.mem_append.2 (.inl hy)); rw [zaK]; omega
     rcases List.mem_cons.1 hy with rfl | hy
     · have := h2 (x.p, L) (List.mem_append.2 (.inr zaM))
       simp only [zaK, zbe] at this ⊢; omega
     · have := h2 y (List.mem_append.2 (.inr (zaL _ hy))); rw [zaK]; omega
theorem mget_gc (p : Int) : ∀ (ks : KL), (mget (.int .i64 p) (gcN ks) = none ∧ kg ks p = []) ∨ mget (.int .i64 p) (gcN ks) = some (.gsl (Ints (kg ks p)) 0 (kg ks p).length none)
  | [] => .inl ⟨rfl, rfl⟩
  | x :: r => by
    have hu : mget (.int .i64 p) (gcN (x :: r)) = if keyEq (.int .i64 p) (.int .i64 x.1) = true then some (.gsl (Ints x.2) 0 x.2.length none) else mget (.int .i64 p) (gcN r) := rfl
    rw [hu, keyEq_i]
    by_cases c : x.1 = p
    · right
      rw [if_pos (by rw [c]; simp)]
      show _ = some (Cell.gsl (Ints (if x.1 = p then x.2 else kg r p)) 0 (if x.1 = p then x.2 else kg r p).length none)
      rw [if_pos c]
    · rw [if_neg (by simpa using fun e => c e.symm)]
      show (_ ∧ (if x.1 = p then x.2 else kg r p) = []) ∨ mget _ _ = some (Cell.gsl (Ints (if x.1 = p then x.2 else kg r p)) 0 (if x.1 = p then x.2 else kg r p).length none)
      rw [if_neg c]
      exact mget_gc p r
theorem mkeys_gc : ∀ (ks : KL), mkeys (.int .i64) (gcN ks) = true
  | [] => rfl
  | x :: r => by
    show (keyB (.int .i64) (.int .i64 x.1) && mkeys (.int .i64) (gcN r)) = true
    rw [mkeys_gc r]; rfl
theorem range_nd (n : Nat) : (0 :: zaP 1 n).Nodup := by
 rw [zbb]
 exact ⟨fun h => by have := List.mem_range'.1 h; omega, List.nodup_range'⟩
theorem gcN_flat (ks : KL) : flat (gcN ks) := fun c hc => isG_refs (gcN_g ks c hc)
theorem RowsAt.mid {f : Nat → Option Row} {r : Nat} {x : Int × List Int} {rb : List Nat} {B : KL} : ∀ {ra : List Nat} {A : KL}, ra.length = A.length → RowsAt f (ra ++ r :: rb) (A ++ x :: B) → RowsAt f ra A ∧ RowsAt f rb B
  | [], [], _, h => ⟨trivial, h.2⟩
  | n :: ra, y :: A, hl, h => by
    obtain ⟨h1, h2⟩ := RowsAt.mid (ra := ra) (A := A) (by simpa using hl) h.2
    exact ⟨⟨h.1, h1⟩, h2⟩
theorem okc_rng {all : Array Oper} {f : Nat → List (List Nat × List Nat)} {r : Nat} (h : (List.range 99).all (fun q => okc all (f (q + 1)).reverse) = true) (h1 : 1 ≤ r) (h2 : r < 100) : OKC all (f r) := by
 have := List.all_eq_true.1 h (r - 1) (List.mem_range.2 (by omega))
 rw [show r - 1 + 1 = r by omega] at this
 exact this
set_option maxHeartbeats 16000000 in
theorem below_spec (l : List Nd) (n : Int) (hl : l.length ≤ 64) : FnSpec Tryz.prog 108 [trV l none n] [] (.one (.mp 0 false)) [some ⟨gcN (belowM l), 0⟩] := by
 have hnl := nd_len l
 refine fnspec_of mixed TT_ok TT_cl ⟨fun _ => false, fun _ => [], 0, fun _ => false, fun _ => false⟩ Tryz.func108 rfl (by kernel_rfl) rfl 27 rfl [.tmp 2] rfl ?_
 simp only [go_sem, zaa, zao, zap, zaq, zau, zah, ↓reduceIte, reduceCtorEq, zac, zad, zav, zaw, zax]
 repeat' (first
 | exact yha | fail)
 refine w_loop (ι := Nat) (fun m => ⟨[(3, .one (.mp 0 false)), (8, gr l none), (9, i1 l.length), (10, i1 m)], (0, some ⟨mcN (zaP 1 (belowM (l.take m)).length) (belowM (l.take m)), 0⟩) :: mrN (zaP 1 (belowM (l.take m)).length) (belowM (l.take m)), 100⟩) (fun m => m ≤ l.length) (fun m => l.length - m) 0 ?_ (zba _) ?_
 · (refine imp_ren _ _ _ [(0, 2, ⟨[], 0⟩)] (by simp) (by simp) (by simp) (zaI rfl) ?_ rfl (by simp only [zab, zaf, false_implies, implies_true, and_true, zaW, lookR, zaa, if_true, if_false, ↓reduceIte] <;> (repeat' apply zaH) <;> (first | rfl | trivial)) (by simp only [zab, zaf, false_implies, implies_true, and_true, true_and, flat_cons, flat_nil, flat_ints, flat_bools, flat_app, zaN, and_self, eq_self_iff_true, zae]); simp only [zaj, zar, zab, zaf, false_implies, implies_true, and_true, lk, slot, zaQ, zaJ, toN, zaa, if_true, if_false, ↓reduceIte, reduceCtorEq])
   all_goals ((repeat' apply zaH) <;> (first | rfl | trivial))
 intro m hm
 simp only at hm ⊢
 rcases zbf m l.length with hlt | hge
 case inr =>
   have c : ¬ (m : Int) < (l.length : Int) := by omega
   rw [zaV hge]
   simp only [go_sem, zaa, zao, zap, zaq, zau, zah, ↓reduceIte, reduceCtorEq, zac, zad, zav, zaw, zax, decide_eq_false c]
   repeat' (first
 | exact yha | fail)
   refine fs_imp ⟨[(2, .one (.mp 0 false))], [(0, some ⟨gcN ([] ++ belowM l), 0⟩)], 103⟩ ?_ ?_
   · refine Imp.trans (t := ⟨[(2, .one (.mp 0 false))], (0, some ⟨gcN [] ++ mcN (zaP 1 (belowM l).length) (belowM l), 0⟩) :: mrN (zaP 1 (belowM l).length) (belowM l), 103⟩) (imp_tm _ _ _ (fun x hx => by cases List.mem_singleton.1 hx; rfl) rfl (zbc _)) ?_
     exact imp_gc 0 _ 103 (fun r cs hr => rfl) _ _ [] zaX (range_nd _)
   · rw [zay]
     refine fs_flat [(0, ⟨gcN (belowM l), 0⟩)] (by simp) (fun j hj => absurd hj (Nat.not_lt_zero _)) ?_ ?_ ?_ ?_ rfl
     · simp only [go_sem, resV, resS, zaQ, zaS, zaJ, St.tmF, zaW, idx, renO, zaR, evS, slot, lookR, zaa, ↓reduceIte, reduceCtorEq, if_true, if_false, zaY, zaZ, zaj, zar, sLoad, readAt, readNeed, Ints_ren, Ints_length, Ints_getD, and_true, true_and, zaT, zaU]
     · simp only [go_sem, resV, resS, zaQ, zaS, zaJ, St.tmF, zaW, idx, renO, zaR, evS, slot, lookR, zaa, ↓reduceIte, reduceCtorEq, if_true, if_false, zaY, zaZ, zaj, zar, sLoad, readAt, readNeed, Ints_ren, Ints_length, Ints_getD, and_true, true_and, zaT, zaU]
     · intro p hp; rw [List.mem_singleton.1 hp]; rfl
     · intro p hp; rw [List.mem_singleton.1 hp]; exact gcN_flat _
 have c : (m : Int) < (l.length : Int) := by omega
 have hat : zbi 6 (List.drop (m * 6) (Cs l)) = ndc (gN l m) := Cs_td l m hlt
 have hst : belowM (l.take (m + 1)) = kput (belowM (l.take m)) (gN l m).p (gN l m).i := by rw [take_getD l m zn hlt, belowM_snoc]
 obtain ⟨hb1, hb2⟩ := belowM_len (l.take m)
 rw [List.length_take] at hb1 hb2
 generalize belowM (l.take m) = ks at *
 have hmk := mkeys_mcN (zaP 1 ks.length) ks
 rcases k_split (gN l m).p ks with hA | ⟨A, L, B, rfl, hA⟩
 · have hgt := mget_none (zaP 1 ks.length) ks hA
   rw [kput_new _ hA] at hst
   generalize gN l m = x at *
   obtain ⟨xi, xp, xn, xc, xk, xo⟩ := x
   simp only at hA hst hgt
   simp only [go_sem, zaa, zao, zap, zaq, zau, zah, ↓reduceIte, reduceCtorEq, zac, zad, zav, zaw, zax, decide_eq_true c, hat, hmk, hgt, mval_none]
   repeat' (first
 | with_reducible refine zaH ?_ ?_
 | (unfold OKC; kernel_rfl)
 | (unfold EDG; kernel_rfl)
 | exact yhi
 | exact yha | fail)
   · rfl
   refine le_mk (m + 1) ?_ hlt (by show l.length - (m + 1) < l.length - m; omega)
   simp only [hst]
   refine imp_kl rfl _ (zaP 1 (ks ++ [(xp, [xi])]).length) (zaP 1 ks.length ++ [115]) (ks ++ [(xp, [xi])]) 100 ?_ zaX ?_ (range_nd _) ?_ ?_ ?_ ?_ (by decide)
   · rw [zaK, zaK, zaX]; rfl
   · rw [zbb, List.nodup_append]
     refine ⟨fun h => ?_, List.nodup_range', by simp, fun a ha b hb e => ?_⟩
     · rcases List.mem_append.1 h with h | h
       · have := List.mem_range'.1 h; omega
       · have := List.mem_singleton.1 h; omega
     · have := List.mem_range'.1 ha
       have := List.mem_singleton.1 hb
       omega
   · intro q hq
     rw [zaK, zbe] at hq
     have := List.mem_range'.1 hq
     omega
   · show some (⟨mset _ _ _, 0⟩ : Row) = _
     rw [mset_new _ _ _ zaX hA, mcN_app zaX]
     rfl
   · refine RowsAt.app (ms := [115]) (B := [(xp, [xi])]) ⟨rfl, trivial⟩ (RowsAt.mono (fun q hq => ?_) (RowsAt.of (zaX (s := 1) (step := 1)) List.nodup_range'))
     have := List.mem_range'.1 hq
     simp only [zaW, lookR]
     repeat rw [if_neg (by omega)]
   · intro x hx
     simp only [zbd, zaf, or_false] at hx
     rcases hx with rfl | rfl | rfl | rfl <;> first | rfl | (simp only [zaO]; rfl)
 · have hB : (A ++ ((gN l m).p, L) :: B).length = A.length + (1 + B.length) := by rw [zaK, zag]; omega
   have hrg : zaP 1 (A ++ ((gN l m).p, L) :: B).length = zaP 1 A.length ++ (1 + A.length) :: zaP (1 + A.length + 1) B.length := by
     rw [hB, ← List.range'_append_1, Nat.add_comm 1 B.length, List.range'_succ]
   have hra : (zaP 1 A.length).length = A.length := zaX
   have hrb : (zaP (1 + A.length + 1) B.length).length = B.length := zaX
   have hLl := hb2 ((gN l m).p, L) (List.mem_append.2 (.inr zaM))
   rw [kput_at _ _ _ hA] at hst
   rw [hB] at hb1
   clear hB
   have hnd := range_nd (A ++ ((gN l m).p, L) :: B).length
   rw [hrg] at hmk hnd ⊢
   have hma : ∀ q ∈ zaP 1 A.length, 1 ≤ q ∧ q < 1 + A.length := fun q hq => by have := List.mem_range'.1 hq; omega
   have hmb : ∀ q ∈ zaP (1 + A.length + 1) B.length, 1 + A.length < q ∧ q < 2 + A.length + B.length := fun q hq => by have := List.mem_range'.1 hq; omega
   have hro := RowsAt.of (ns := zaP 1 A.length ++ (1 + A.length) :: zaP (1 + A.length + 1) B.length) (ks := A ++ ((gN l m).p, L) :: B) (by rw [zaK, zaK, zag, zag, hra, hrb]) (List.nodup_cons.1 hnd).2
   have hlr : lookR (1 + A.length) (mrN (zaP 1 A.length ++ (1 + A.length) :: zaP (1 + A.length + 1) B.length) (A ++ ((gN l m).p, L) :: B)) = some ⟨Ints L, 1⟩ := mrN_at hra (fun h => by have := hma _ h; omega)
   have hmc : mcN (zaP 1 A.length ++ (1 + A.length) :: zaP (1 + A.length + 1) B.length) (A ++ ((gN l m).p, L) :: B) = mcN (zaP 1 A.length) A ++ int (gN l m).p :: .osl (1 + A.length) 0 L.length none :: mcN (zaP (1 + A.length + 1) B.length) B := mcN_app hra _ _
   have hgt := mget_at (p := (gN l m).p) (.osl (1 + A.length) 0 L.length none) (mcN (zaP (1 + A.length + 1) B.length) B) (zaP 1 A.length) A hA
   rw [← hmc] at hgt
   generalize zaP 1 A.length = ra at *
   generalize zaP (1 + A.length + 1) B.length = rb at *
   generalize hr : 1 + A.length = r at *
   have hr1 : 1 ≤ r := by omega
   have hr2 : r < 100 := by omega
   have g0 : (0 = r) = False := eq_false (by omega)
   have g9 : (r = 0) = False := eq_false (by omega)
   have g1 : (103 = r) = False := eq_false (by omega)
   have g2 : (114 = r) = False := eq_false (by omega)
   have g3 : (115 = r) = False := eq_false (by omega)
   have htk : zbi L.length (Ints L) = Ints L := zaV (by rw [Ints_length]; exact zbc _)
   generalize gN l m = x at *
   obtain ⟨xi, xp, xn, xc, xk, xo⟩ := x
   simp only at hA hst hgt hlr hmc hro hLl
   have hpp : Ints L ++ [int xi] = Ints (L ++ [xi]) := by simp [Ints]
   simp only [go_sem, zaa, zao, zap, zaq, zau, zah, ↓reduceIte, reduceCtorEq, zac, zad, zav, zaw, zax, decide_eq_true c, hat, hmk, hgt, mval_some, g0, g9, g1, g2, g3, hlr, htk, hpp]
   repeat' (first
 | with_reducible refine zaH ?_ ?_
 | (refine okc_rng (r := r) (f := fun r => [([0], [0]), ([r, 114], [r, 115]), ([], [114]), ([103], []), ([103], []), ([0], []), ([103], []), ([103], []), ([], []), ([103], []), ([103], []), ([], [])]) ?_ hr1 hr2; kernel_rfl)
 | (unfold EDG; kernel_rfl)
 | exact yhi
 | exact yha | fail)
   all_goals try rfl
   refine le_mk (m + 1) ?_ hlt (by show l.length - (m + 1) < l.length - m; omega)
   simp only [hst]
   have hlen : (A ++ (xp, L ++ [xi]) :: B).length = A.length + (1 + B.length) := by rw [zaK, zag]; omega
   have hnd2 := hnd
   rw [zbb, List.nodup_append, zbb] at hnd2
   obtain ⟨z0, z1, ⟨z2, z3⟩, z4⟩ := hnd2
   have hsep : ∀ q ∈ ra ++ r :: rb, 1 ≤ q ∧ q < 100 := fun q hq => by
     rcases List.mem_append.1 hq with h | h
     · have := hma q h; omega
     rcases List.mem_cons.1 h with rfl | h
     · omega
     · have := hmb q h; omega
   refine imp_kl rfl _ (zaP 1 (A ++ (xp, L ++ [xi]) :: B).length) (ra ++ 115 :: rb) (A ++ (xp, L ++ [xi]) :: B) 100 ?_ zaX ?_ (range_nd _) ?_ ?_ ?_ ?_ (by decide)
   · rw [zaK, zaK, zag, zag, hra, hrb]
   · rw [zbb, List.nodup_append, zbb]
     refine ⟨fun h => ?_, z1, ⟨fun h => ?_, z3⟩, fun a ha b hb e => ?_⟩
     · rcases List.mem_append.1 h with h | h
       · have := hma _ h; omega
       rcases List.mem_cons.1 h with h | h
       · omega
       · have := hmb _ h; omega
     · have := hmb _ h; omega
     · rcases List.mem_cons.1 hb with h | h
       · have := hma _ ha; omega
       · exact z4 a ha b (zaL _ h) e
   · intro q hq
     rw [hlen] at hq
     have := List.mem_range'.1 hq
     omega
   · show some (⟨mset _ _ _, 0⟩ : Row) = _
     rw [hmc, mset_at _ _ _ _ _ hra hA, mcN_app hra]
     show _ = some (⟨mcN ra A ++ int xp :: .osl _ 0 (L ++ [xi]).length none :: mcN rb B, 0⟩ : Row)
     rw [zaK, zbe]
   · have hro1 : RowsAt (fun r_1 => lookR r_1 (mrN (ra ++ r :: rb) (A ++ (xp, L) :: B))) ra A ∧ RowsAt (fun r_1 => lookR r_1 (mrN (ra ++ r :: rb) (A ++ (xp, L) :: B))) rb B := RowsAt.mid hra hro
     have hne : ∀ q, q ∈ ra ++ rb → q ≠ r ∧ 1 ≤ q ∧ q < 100 := fun q hq => by
       rcases List.mem_append.1 hq with h | h
       · have := hma q h; omega
       · have := hmb q h; omega
     refine RowsAt.app (ms := 115 :: rb) (B := (xp, L ++ [xi]) :: B) ⟨?_, RowsAt.mono (fun q hq => ?_) hro1.2⟩ (RowsAt.mono (fun q hq => ?_) hro1.1)
     · rfl
     · obtain ⟨w1, w2, w3⟩ := hne q (List.mem_append.2 (.inr hq))
       simp only [zaW, lookR]
       repeat rw [if_neg (by omega)]
     · obtain ⟨w1, w2, w3⟩ := hne q (List.mem_append.2 (.inl hq))
       simp only [zaW, lookR]
       repeat rw [if_neg (by omega)]
   · intro x hx
     simp only [zbd, zaf, or_false] at hx
     rcases hx with rfl | rfl | rfl | rfl <;> first | rfl | (simp only [zaO]; rfl)
theorem agg_sl (e : Nat) : (TK.slice e).isAgg = false := rfl
theorem bel_kids (l : List Nd) (g : Int) : (mget (.int .i64 g) (gcN (belowM l)) = none ∧ kidsL l g = []) ∨ mget (.int .i64 g) (gcN (belowM l)) = some (.gsl (Ints (kidsL l g)) 0 (kidsL l g).length none) := by
 have := mget_gc g (belowM l)
 rw [belowM_kg] at this
 exact this
set_option maxHeartbeats 16000000 in
theorem walk_spec (l : List Nd) (n : Int) (h : VT l n) : ∀ (f i : Nat), i < l.length → l.length - i ≤ f → FnSpec Tryz.prog 107 [.one (.mp 0 false), i1 (gN l i).i] [⟨gcN (belowM l), 0⟩] (gi (subF l f (gN l i).i) none) [some ⟨gcN (belowM l), 0⟩]
  | 0, i, hi, hf => absurd hf (by omega)
  | f + 1, i, hi, hf => by
    have ih : ∀ x ∈ kidsL l (gN l i).i, FnSpec Tryz.prog 107 [.one (.mp 0 false), i1 x] [⟨gcN (belowM l), 0⟩] (gi (subF l f x) none) [some ⟨gcN (belowM l), 0⟩] := fun x hx => by
      obtain ⟨j, hj, hp, rfl⟩ := kidsL_mem.1 hx
      exact walk_spec l n h f j hj (by have := h.kid hi hj hp; omega)
    have hlen := subF_len h (f + 1) i hi
    have hun : subF l (f + 1) (gN l i).i = (gN l i).i :: (kidsL l (gN l i).i).flatMap (subF l f) := rfl
    rw [hun] at hlen ⊢
    have hle := h.le
    have hmk := mkeys_gc (belowM l)
    have hk := bel_kids l (gN l i).i
    have hfl := gcN_flat (belowM l)
    have hren : ∀ ρ, (gcN (belowM l)).map (zaJ ρ) = gcN (belowM l) := fun ρ => flat_ren (gcN_flat _) ρ
    have hfrz : ∀ r cs, (gcN (belowM l)).map (zbh r cs) = gcN (belowM l) := fun r cs => map_id_of (fun c hc => isG_frz (gcN_g _ c hc) r cs)
    have hkl := kidsL_len l (gN l i).i
    generalize (gN l i).i = id' at *
    generalize kidsL l id' = K at *
    generalize gcN (belowM l) = M at *
    have hun2 : ∀ m, m < K.length → (id' :: (K.take (m + 1)).flatMap (subF l f)) = (id' :: (K.take m).flatMap (subF l f)) ++ subF l f (K.getD m 0) := fun m hm => by
      rw [take_getD K m 0 hm, zbg, List.flatMap_singleton]; rfl
    have hlm : ∀ m, (id' :: (K.take m).flatMap (subF l f)).length ≤ l.length := fun m => by
      refine Nat.le_trans ?_ hlen
      rw [zag, zag]
      have e : K = K.take m ++ K.drop m := (List.take_append_drop m K).symm
      rw [show (K.flatMap (subF l f)) = (K.take m).flatMap (subF l f) ++ (K.drop m).flatMap (subF l f) by rw [← zbg, ← e], zaK]
      omega
    clear hun hlen
    rcases hk with ⟨e1, hK⟩ | e1
    focus
      refine fnspec_of mixed TT_ok TT_cl ⟨fun _ => false, fun f => if f = 107 then [0] else [], 1, fun _ => false, fun _ => false⟩ Tryz.func107 rfl (by kernel_rfl) rfl 25 rfl [.tmp 4] rfl ?_
      simp only [go_sem, zaa, zao, zap, zaq, zau, zah, ↓reduceIte, reduceCtorEq, zac, zad, zav, zaw, zax, e1, hmk, hren, agg_sl, mval_none]
      repeat' (first
 | exact yha | fail)
      refine w_loop (ι := Nat) (fun m => ⟨[(0, .one (.mp 0 false)), (5, .one (.osl 1 0 (id' :: (K.take m).flatMap (subF l f)).length none)), (12, gi K none), (13, i1 K.length), (14, i1 m)], [(0, some ⟨M, 0⟩), (1, some ⟨Ints (id' :: (K.take m).flatMap (subF l f)), 1⟩)], 2⟩) (fun m => m ≤ K.length) (fun m => K.length - m) 0 ?_ (zba _) ?_
      focus
        refine Imp.trans (t := ⟨[(0, .one (.mp 0 false)), (5, .one (.osl 1 0 1 (some 1))), (12, .one (.sc (.slice none 0 0))), (13, i1 (0 : Nat)), (14, i1 (0 : Nat))], [(0, some ⟨M, 0⟩), (1, some ⟨Ints [id'], 1⟩)], 2⟩) ?_ (imp_w _ _ _ ?_ rfl (zbc _))
        · skip
          (refine imp_ren _ _ _ [(0, 0, ⟨M, 0⟩), (1, 3, ⟨Ints [id'], 1⟩)] (by simp) (by simp) (by simp) (zaI rfl) ?_ rfl (by simp only [zab, zaf, false_implies, implies_true, and_true, zaW, lookR, zaa, if_true, if_false, ↓reduceIte, hfl] <;> (repeat' apply zaH) <;> (first | rfl | trivial)) (by simp only [zab, zaf, false_implies, implies_true, and_true, true_and, flat_cons, flat_nil, flat_ints, flat_bools, flat_app, zaN, and_self, eq_self_iff_true, zae, hfl]); simp only [zaj, zar, zab, zaf, false_implies, implies_true, and_true, lk, slot, zaQ, zaJ, toN, zaa, if_true, if_false, ↓reduceIte, reduceCtorEq])
          all_goals ((repeat' apply zaH) <;> (first | rfl | trivial))
        · rw [hK]
          intro x hx
          simp only [zbd, zaf, or_false] at hx
          rcases hx with rfl | rfl | rfl | rfl | rfl <;> first | exact ⟨_, rfl, SVW.refl _⟩ | exact ⟨_, rfl, svw_of (cw_ocap _ _ _ _)⟩ | exact ⟨_, rfl, svw_of cw_gnil⟩
    rotate_left
    focus
      refine fnspec_of mixed TT_ok TT_cl ⟨fun _ => false, fun f => if f = 107 then [0] else [], 1, fun _ => false, fun _ => false⟩ Tryz.func107 rfl (by kernel_rfl) rfl 25 rfl [.tmp 4] rfl ?_
      simp only [go_sem, zaa, zao, zap, zaq, zau, zah, ↓reduceIte, reduceCtorEq, zac, zad, zav, zaw, zax, e1, hmk, hren, agg_sl, mval_some]
      repeat' (first
 | exact yha | fail)
      refine w_loop (ι := Nat) (fun m => ⟨[(0, .one (.mp 0 false)), (5, .one (.osl 1 0 (id' :: (K.take m).flatMap (subF l f)).length none)), (12, gi K none), (13, i1 K.length), (14, i1 m)], [(0, some ⟨M, 0⟩), (1, some ⟨Ints (id' :: (K.take m).flatMap (subF l f)), 1⟩)], 2⟩) (fun m => m ≤ K.length) (fun m => K.length - m) 0 ?_ (zba _) ?_
      focus
        refine Imp.trans (t := ⟨[(0, .one (.mp 0 false)), (5, .one (.osl 1 0 1 (some 1))), (12, gi K none), (13, i1 K.length), (14, i1 (0 : Nat))], [(0, some ⟨M, 0⟩), (1, some ⟨Ints [id'], 1⟩)], 2⟩) ?_ (imp_w _ _ _ ?_ rfl (zbc _))
        · skip
          (refine imp_ren _ _ _ [(0, 0, ⟨M, 0⟩), (1, 3, ⟨Ints [id'], 1⟩)] (by simp) (by simp) (by simp) (zaI rfl) ?_ rfl (by simp only [zab, zaf, false_implies, implies_true, and_true, zaW, lookR, zaa, if_true, if_false, ↓reduceIte, hfl] <;> (repeat' apply zaH) <;> (first | rfl | trivial)) (by simp only [zab, zaf, false_implies, implies_true, and_true, true_and, flat_cons, flat_nil, flat_ints, flat_bools, flat_app, zaN, and_self, eq_self_iff_true, zae, hfl]); simp only [zaj, zar, zab, zaf, false_implies, implies_true, and_true, lk, slot, zaQ, zaJ, toN, zaa, if_true, if_false, ↓reduceIte, reduceCtorEq])
          all_goals ((repeat' apply zaH) <;> (first | rfl | trivial))
        · intro x hx
          simp only [zbd, zaf, or_false] at hx
          rcases hx with rfl | rfl | rfl | rfl | rfl <;> first | exact ⟨_, rfl, SVW.refl _⟩ | exact ⟨_, rfl, svw_of (cw_ocap _ _ _ _)⟩
    rotate_left
    all_goals (
      intro m hm
      simp only at hm ⊢
      rcases zbf m K.length with hlt | hge
      case inr =>
        have c : ¬ (m : Int) < (K.length : Int) := by omega
        rw [zaV hge]
        simp only [go_sem, zaa, zao, zap, zaq, zau, zah, ↓reduceIte, reduceCtorEq, zac, zad, zav, zaw, zax, decide_eq_false c]
        repeat' (first
 | exact yha | fail)
        (refine fs_frz 1 ⟨Ints (id' :: K.flatMap (subF l f)), 1⟩ (by simp only [zaW, lookR, zaa, if_true, if_false, ↓reduceIte]) (by first | exact Ints_isG _ | exact Bools_isG _ | exact Cs_isG _ | (simp [Cell.isG]; done)) ?_; simp only [frzTm, SV.frz, SV.frzL, zbh, frzHp, frzO, Ints_frz, Bools_frz, zaj, zar, zaa, if_true, if_false, ↓reduceIte])
        (refine fs_flat [(0, ⟨M, 0⟩)] (by simp) (by simp only [zaj, zar]; decide) (by simp only [go_sem, resV, resS, zaQ, zaS, zaJ, St.tmF, zaW, idx, renO, zaR, evS, slot, lookR, zaa, ↓reduceIte, reduceCtorEq, if_true, if_false, zaY, zaZ, zaj, zar, sLoad, readAt, readNeed, Ints_ren, Ints_length, Ints_getD, and_true, true_and, zaT, zaU]; try decide) ?_ (by simp only [zab, zaf, false_implies, implies_true, and_true, zaW, lookR, zaa, if_true, if_false, ↓reduceIte, hfl, hfrz] <;> (repeat' apply zaH) <;> (first | rfl | trivial)) (by simp only [zab, zaf, false_implies, implies_true, and_true, true_and, flat_cons, flat_nil, flat_ints, flat_bools, flat_app, zaN, and_self, eq_self_iff_true, zae, hfl, hfrz]) ?_ <;> (try simp only [go_sem, resV, resS, zaQ, zaS, zaJ, St.tmF, zaW, idx, renO, zaR, evS, slot, lookR, zaa, ↓reduceIte, reduceCtorEq, if_true, if_false, zaY, zaZ, zaj, zar, sLoad, readAt, readNeed, Ints_ren, Ints_length, Ints_getD, and_true, true_and, zaT, zaU]) <;> (try rfl))
      have c : (m : Int) < (K.length : Int) := by omega
      have h3 := ih _ (getD_mem K m 0 hlt)
      have h4 := hun2 m hlt
      have h4l : (List.flatMap (subF l f) (zbi (m + 1) K)).length + 1 = (id' :: (K.take m).flatMap (subF l f)).length + (subF l f (K.getD m 0)).length := by rw [← zaK, ← h4, zag]
      have h5 := hlm m
      have h6 := hlm (m + 1)
      rw [h4] at h6
      generalize (id' :: (K.take m).flatMap (subF l f)) = A at *
      generalize subF l f (K.getD m 0) = B at *
      have htk : zbi A.length (Ints A) = Ints A := zaV (by rw [Ints_length]; exact zbc _)
      have htb : zbi B.length (Ints B) = Ints B := zaV (by rw [Ints_length]; exact zbc _)
      have hpp : Ints A ++ Ints B = Ints (A ++ B) := by simp [Ints]
      rw [zaK] at h6
      have hla : (A ++ B).length = A.length + B.length := zaK
      clear ih hun2 hlm
      simp only [go_sem, zaa, zao, zap, zaq, zau, zah, ↓reduceIte, reduceCtorEq, zac, zad, zav, zaw, zax, decide_eq_true c]
      repeat' (first
 | with_reducible refine zaH ?_ ?_
 | (apply cl_lend
    case hr => exact yhd
    case ha => exact yhb
    case hs => rfl
    case hn => decide
    case h => (first | exact h3 ..)
    case hf => exact yhf
    case hl => exact yhe)
 | ((first | refine s1_id ?_ | refine swp_id ?_ | refine sops_id ?_ | refine s2_id ?_); simp only [decide_eq_true c, hren, htk, htb, hpp, hfl, zan, zas, zae, zat, zay, zak, zal, zai, zaB, zaC, zag, zam, go_sem, zaa, zao, zap, zaq, zau, zah, ↓reduceIte, reduceCtorEq, zac, zad, zav, zaw, zax, zaQ, zaS, zaJ, zaR, renO, bk, back, outUpsFrom, Ints_ren])
 | exact yhi
 | exact yha | fail)
      refine le_mk (m + 1) ?_ hlt (by show K.length - (m + 1) < K.length - m; omega)
      simp only [h4, h4l, hla]
      (refine imp_ren _ _ _ [(0, 0, ⟨M, 0⟩), (1, 10, ⟨Ints (A ++ B), 1⟩)] (by simp) (by simp) (by simp) (zaI rfl) ?_ rfl (by simp only [zab, zaf, false_implies, implies_true, and_true, zaW, lookR, zaa, if_true, if_false, ↓reduceIte, hfl] <;> (repeat' apply zaH) <;> (first | rfl | trivial)) (by simp only [zab, zaf, false_implies, implies_true, and_true, true_and, flat_cons, flat_nil, flat_ints, flat_bools, flat_app, zaN, and_self, eq_self_iff_true, zae, hfl]); simp only [zaj, zar, zab, zaf, false_implies, implies_true, and_true, lk, slot, zaQ, zaJ, toN, zaa, if_true, if_false, ↓reduceIte, reduceCtorEq])
      all_goals ((repeat' apply zaH) <;> (first | rfl | trivial | (simp only [zaO]; done) | (simp only [zaO]; rfl) | (simp only [zaO]; trivial))))
def subM (l : List Nd) (n g : Int) : List Int := if hasM l n g = true then subF l l.length g else []
theorem subM_len (l : List Nd) (n g : Int) : (subM l n g).length ≤ l.length := by
 unfold subM
 split
 · rename_i h
   obtain ⟨hk, y, hy, rfl⟩ := hasM_iff.1 h
   obtain ⟨i, hi, rfl⟩ := gN_mem l y hy
   exact subF_len ((chkT_iff l n).1 hk) _ i hi
 · exact zba _
set_option maxHeartbeats 8000000 in
theorem tsub_spec (l : List Nd) (n g : Int) (hl : l.length ≤ 1000000) (hnm : NmR l) (hct : CtR l) : FnSpec Tryz.prog 68 [trV l none n, i1 g] [] (gi (subM l n g) none) [] := by
 have hfl := gcN_flat (belowM l)
 have h1 := tfind_spec l n g hl hnm hct
 rw [fdM_2] at h1
 generalize (fdM l n g).1 = nd at *
 obtain ⟨xi, xp, xn, xc, xk, xo⟩ := nd
 simp only [ndc] at h1
 unfold subM
 cases hh : hasM l n g with
 | false =>
   rw [hh] at h1
   rw [if_neg (by decide)]
   refine fnspec_of mixed TT_ok TT_cl ⟨fun _ => false, fun _ => [], 0, fun _ => false, fun _ => false⟩ Tryz.func68 rfl (by kernel_rfl) rfl 19 rfl [.tmp 4] rfl ?_
   simp only [go_sem, zaa, zao, zap, zaq, zau, zah, ↓reduceIte, reduceCtorEq, zac, zad, zav, zaw, zax]
   repeat' (first
 | (apply cl_plain
    case hs => rfl
    case ha => exact yhb
    case h => exact yhk)
 | ((first | refine s1_id ?_ | refine swp_id ?_ | refine sops_id ?_ | refine s2_id ?_); simp only [zan, zas, zae, zat, zay, zak, zal, zai, zaB, zaC, zag, zam, go_sem, zaa, zao, zap, zaq, zau, zah, ↓reduceIte, reduceCtorEq, zac, zad, zav, zaw, zax, zaQ, zaS, zaJ, zaR, renO, bk, back, outUpsFrom, Ints_ren])
 | exact yha | fail)
   repeat' (first
 | exact fs_w trivial (svw_of cw_gnil)
 | fail)
 | true =>
 rw [hh] at h1
 rw [if_pos rfl]
 have hV := (chkT_iff l n).1 (hasM_iff.1 hh).1
 have h2 := below_spec l n hV.le
 obtain ⟨_, y, hy, rfl⟩ := hasM_iff.1 hh
 obtain ⟨i, hi, rfl⟩ := gN_mem l y hy
 have h3 := walk_spec l n hV l.length i hi (by omega)
 have hren : ∀ ρ, (gcN (belowM l)).map (zaJ ρ) = gcN (belowM l) := fun ρ => flat_ren (gcN_flat _) ρ
 generalize subF l l.length (gN l i).i = S at *
 generalize (gN l i).i = g at *
 generalize gcN (belowM l) = M at *
 refine fnspec_of mixed TT_ok TT_cl ⟨fun _ => false, fun f => if f = 107 then [0] else [], 0, fun _ => false, fun _ => false⟩ Tryz.func68 rfl (by kernel_rfl) rfl 19 rfl [.tmp 4] rfl ?_
 simp only [go_sem, zaa, zao, zap, zaq, zau, zah, ↓reduceIte, reduceCtorEq, zac, zad, zav, zaw, zax, hren]
 repeat' (first
 | (apply cl_plain
    case hs => rfl
    case ha => exact yhb
    case h => (first | exact h1 .. | exact h2 .. | exact h3 ..))
 | (apply cl_lend
    case hr => exact yhd
    case ha => exact yhb
    case hs => rfl
    case hn => decide
    case h => (first | exact h1 .. | exact h2 .. | exact h3 ..)
    case hf => exact yhf
    case hl => exact yhe)
 | ((first | refine s1_id ?_ | refine swp_id ?_ | refine sops_id ?_ | refine s2_id ?_); simp only [hren, hfl, zan, zas, zae, zat, zay, zak, zal, zai, zaB, zaC, zag, zam, go_sem, zaa, zao, zap, zaq, zau, zah, ↓reduceIte, reduceCtorEq, zac, zad, zav, zaw, zax, zaQ, zaS, zaJ, zaR, renO, bk, back, outUpsFrom, Ints_ren])
 | exact fs_nil trivial rfl
 | fail)
set_option maxHeartbeats 8000000 in
theorem rsub_spec (l : List Nd) (k : Option Nat) (n g : Int) (hl : l.length ≤ 1000000) (hnm : NmR l) : FnSpec Tryz.prog 71 [trV l k n, i1 g] [] (gi (subM l n g) none) [] := by
 have hfl := flat_nil
 unfold subM
 cases hh : hasM l n g with
 | false =>
   have h1 := rhas_spec l k n g hl hnm
   rw [hh] at h1
   rw [if_neg (by decide)]
   refine fnspec_of mixed TT_ok TT_cl ⟨fun _ => false, fun _ => [], 0, fun _ => false, fun _ => false⟩ Tryz.func71 rfl (by kernel_rfl) rfl 32 rfl [.tmp 4] rfl ?_
   simp only [go_sem, zaa, zao, zap, zaq, zau, zah, ↓reduceIte, reduceCtorEq, zac, zad, zav, zaw, zax]
   repeat' (first
 | (apply cl_plain
    case hs => rfl
    case ha => exact yhb
    case h => exact yhk)
 | ((first | refine s1_id ?_ | refine swp_id ?_ | refine sops_id ?_ | refine s2_id ?_); simp only [zan, zas, zae, zat, zay, zak, zal, zai, zaB, zaC, zag, zam, go_sem, zaa, zao, zap, zaq, zau, zah, ↓reduceIte, reduceCtorEq, zac, zad, zav, zaw, zax, zaQ, zaS, zaJ, zaR, renO, bk, back, outUpsFrom, Ints_ren])
 | exact yha | fail)
   repeat' (first
 | exact fs_w trivial (svw_of cw_gnil)
 | fail)
 | true =>
 rw [if_pos rfl]
 have hV := (chkT_iff l n).1 (hasM_iff.1 hh).1
 obtain ⟨_, y, hy, rfl⟩ := hasM_iff.1 hh
 obtain ⟨i, hi, rfl⟩ := gN_mem l y hy
 exact sub_spec l k n hV hnm l.length i hi (by omega)
def ixI (id : Int) : List Int → Nat → Int
  | [], _ => -1
  | y :: ys, i => if id = y then (i : Int) else ixI id ys (i + 1)
theorem ixI_mem (id : Int) : ∀ (ys : List Int) (i : Nat), decide (0 ≤ ixI id ys i) = decide (id ∈ ys)
  | [], i => by simp [ixI]
  | y :: ys, i => by
    rw [ixI]
    by_cases h : id = y
    · rw [if_pos h]; simp [h]
    · rw [if_neg h, ixI_mem id ys]; simp [h]
theorem kcix_spec (xs : List Int) (c : Option Nat) (id : Int) (hl : xs.length ≤ 9223372036854775807) : FnSpec Tryz.prog 109 [gi xs c, i1 id] [] (i1 (ixI id xs 0)) [] := by
 refine fnspec_of mixed TT_ok TT_cl ⟨fun _ => false, fun _ => [], 0, fun _ => false, fun _ => false⟩ Tryz.func109 rfl (by kernel_rfl) rfl 19 rfl [.tmp 4] rfl ?_
 simp only [go_sem, zaa, zao, zap, zaq, zau, zah, ↓reduceIte, reduceCtorEq, zac, zad, zav, zaw, zax]
 repeat' (first
 | exact yha | fail)
 refine w_loop (ι := Nat) (fun m => ⟨[(0, gi xs c), (1, i1 id), (7, i1 xs.length), (8, i1 m)], [], 0⟩) (fun m => m ≤ xs.length ∧ ixI id xs 0 = ixI id (xs.drop m) m) (fun m => xs.length - m) 0 ?_ ⟨zba _, rfl⟩ ?_
 · (refine imp_sub _ _ _ [] (by simp) (by simp) (by simp) (zba _) ?_ rfl (by simp); simp only [zab, zaf, false_implies, implies_true, and_true, lk, slot, zaQ, zaJ, zaa, if_true, if_false, ↓reduceIte, reduceCtorEq])
   all_goals ((repeat' apply zaH) <;> (first | rfl | trivial))
 rintro m ⟨hm, hI⟩
 simp only at hm hI ⊢
 rcases zbf m xs.length with hlt | hge
 case inr =>
   have c2 : ¬ (m : Int) < (xs.length : Int) := by omega
   rw [List.drop_of_length_le hge] at hI
   rw [hI]
   simp only [go_sem, zaa, zao, zap, zaq, zau, zah, ↓reduceIte, reduceCtorEq, zac, zad, zav, zaw, zax, decide_eq_false c2, ixI]
   repeat' (first
 | exact fs_nil trivial rfl
 | fail)
 have c2 : (m : Int) < (xs.length : Int) := by omega
 rw [drop_getD xs m 0 hlt, ixI] at hI
 by_cases h : id = xs.getD m 0
 · rw [if_pos h] at hI
   rw [hI]
   simp only [go_sem, zaa, zao, zap, zaq, zau, zah, ↓reduceIte, reduceCtorEq, zac, zad, zav, zaw, zax, decide_eq_true c2, decide_eq_true h]
   repeat' (first
 | with_reducible refine zaH ?_ ?_
 | exact yhi
 | exact fs_nil trivial rfl
 | fail)
 · rw [if_neg h] at hI
   simp only [go_sem, zaa, zao, zap, zaq, zau, zah, ↓reduceIte, reduceCtorEq, zac, zad, zav, zaw, zax, decide_eq_true c2, decide_eq_false h]
   repeat' (first
 | with_reducible refine zaH ?_ ?_
 | exact yhi
 | exact yha | fail)
   refine le_mk (m + 1) ?_ ⟨hlt, hI⟩ (by omega)
   (refine imp_sub _ _ _ [] (by simp) (by simp) (by simp) (zba _) ?_ rfl (by simp); simp only [zab, zaf, false_implies, implies_true, and_true, lk, slot, zaQ, zaJ, zaa, if_true, if_false, ↓reduceIte, reduceCtorEq])
   all_goals ((repeat' apply zaH) <;> (first | rfl | trivial | (simp only [zaO]; done) | (simp only [zaO]; rfl) | (simp only [zaO]; trivial)))
theorem kccon_spec (xs : List Int) (c : Option Nat) (id : Int) (hl : xs.length ≤ 9223372036854775807) : FnSpec Tryz.prog 70 [gi xs c, i1 id] [] (b1 (decide (id ∈ xs))) [] := by
 have h1 := kcix_spec xs c id hl
 rw [← ixI_mem id xs 0]
 refine fnspec_of mixed TT_ok TT_cl ⟨fun _ => false, fun _ => [], 0, fun _ => false, fun _ => false⟩ Tryz.func70 rfl (by kernel_rfl) rfl 9 rfl [.tmp 4] rfl ?_
 simp only [go_sem, zaa, zao, zap, zaq, zau, zah, ↓reduceIte, reduceCtorEq, zac, zad, zav, zaw, zax]
 repeat' (first
 | (apply cl_plain
    case hs => rfl
    case ha => exact yhb
    case h => exact yhk)
 | ((first | refine s1_id ?_ | refine swp_id ?_ | refine sops_id ?_ | refine s2_id ?_); simp only [go_sem, zaa, zao, zap, zaq, zau, zah, ↓reduceIte, reduceCtorEq, zac, zad, zav, zaw, zax, zaQ, zaS, zaJ, zaR, renO, bk, back, outUpsFrom, Ints_ren])
 | exact fs_nil trivial rfl
 | fail)
def chsM (q : Tk → Bool) (l : List Nd) (n : Int) (T : List Tk) (h : Int) : List Int := if hyM l n T h = true then (T.filter q).map Tk.i else []
set_option maxHeartbeats 8000000 in
theorem mchoose_spec (g : FuncId) (c0 : List Cell) (q : Tk → Bool) (l : List Nd) (n : Int) (T : List Tk) (h : Int) (hg : ∀ x ∈ T, FnSpec Tryz.prog g [.agg (tkc x), .one (.gptr c0 0)] [] (b1 (q x)) []) (hl : l.length ≤ 1000000) (hT : T.length ≤ 1000000) (hnm : NmR l) (hct : CtR l) : FnSpec Tryz.prog 61 [hyV l none n T none h, .one (.fn g [.gptr c0 0])] [] (gi (chsM q l n T h) none) [] := by
 have h1 := mcheck_spec l n T h hl (by omega) hnm hct
 have hcl := tk_len T
 unfold chsM
 cases hv : hyM l n T h with
 | false =>
   (try rw [hv] at h1)
   (try rw [if_neg (by decide)])
   refine fnspec_of mixed TT_ok TT_cl ⟨fun _ => false, fun _ => [], 0, fun _ => false, fun _ => false⟩ Tryz.func61 rfl (by kernel_rfl) rfl 29 rfl [.tmp 4] rfl ?_
   simp only [go_sem, zaa, zao, zap, zaq, zau, zah, ↓reduceIte, reduceCtorEq, zac, zad, zav, zaw, zax, zan, zas, zae, zat, zay, zak, zal, zai, zaB, zaC, zag, zam]
   repeat' (first
 | (apply cl_plain
    case hs => rfl
    case ha => exact yhb
    case h => exact yhk)
 | ((first | refine s1_id ?_ | refine swp_id ?_ | refine sops_id ?_ | refine s2_id ?_); simp only [zan, zas, zae, zat, zay, zak, zal, zai, zaB, zaC, zag, zam, go_sem, zaa, zao, zap, zaq, zau, zah, ↓reduceIte, reduceCtorEq, zac, zad, zav, zaw, zax, zaQ, zaS, zaJ, zaR, renO, bk, back, outUpsFrom, Ints_ren])
 | exact yha | fail)
   repeat' (first
 | exact fs_w trivial (svw_of cw_gnil)
 | fail)
 | true =>
 (try rw [hv] at h1)
 (try rw [if_pos rfl])
 obtain ⟨_, hTl, _⟩ := hy_all hv
 obtain ⟨K, hK0, hKe, hKl, hKs⟩ := fmG_pack ztk q Tk.i T
 generalize (T.filter q).map Tk.i = W at *
 refine fnspec_of mixed TT_ok TT_cl ⟨fun _ => false, fun _ => [], 0, fun _ => false, fun _ => false⟩ Tryz.func61 rfl (by kernel_rfl) rfl 29 rfl [.tmp 4] rfl ?_
 simp only [go_sem, zaa, zao, zap, zaq, zau, zah, ↓reduceIte, reduceCtorEq, zac, zad, zav, zaw, zax, zan, zas, zae, zat, zay, zak, zal, zai, zaB, zaC, zag, zam]
 repeat' (first
 | (apply cl_plain
    case hs => rfl
    case ha => exact yhb
    case h => exact yhk)
 | ((first | refine s1_id ?_ | refine swp_id ?_ | refine sops_id ?_ | refine s2_id ?_); simp only [zan, zas, zae, zat, zay, zak, zal, zai, zaB, zaC, zag, zam, go_sem, zaa, zao, zap, zaq, zau, zah, ↓reduceIte, reduceCtorEq, zac, zad, zav, zaw, zax, zaQ, zaS, zaJ, zaR, renO, bk, back, outUpsFrom, Ints_ren])
 | exact yha | fail)
 refine w_loop (ι := Nat) (fun m => ⟨[(1, .one (.fn g [.gptr c0 0])), (5, .one (.osl 0 0 (K m).length none)), (13, gr T none), (14, i1 T.length), (15, i1 m)], [(0, some ⟨Ints (K m), 1⟩)], 1⟩) (fun m => m ≤ T.length) (fun m => T.length - m) 0 ?_ (zba _) ?_
 · simp only [hK0]; (refine Imp.trans (imp_nilA _ _ 5 1 99 (by simp only []; omega) rfl) ?_)
   (refine imp_ren _ _ _ [(0, 99, ⟨[], 1⟩)] (by simp) (by simp) (by simp) (zaI rfl) ?_ rfl (by simp only [zab, zaf, false_implies, implies_true, and_true, zaW, lookR, zaa, if_true, if_false, ↓reduceIte] <;> (repeat' apply zaH) <;> (first | rfl | trivial)) (by simp only [zab, zaf, false_implies, implies_true, and_true, true_and, flat_cons, flat_nil, flat_ints, flat_bools, flat_app, zaN, and_self, eq_self_iff_true, zae]); simp only [zaj, zar, zab, zaf, false_implies, implies_true, and_true, lk, slot, zaQ, zaJ, toN, zaa, if_true, if_false, ↓reduceIte, reduceCtorEq])
   all_goals ((repeat' apply zaH) <;> (first | rfl | trivial))
 clear h1
 rintro m hm
 simp only at hm ⊢
 rcases zbf m T.length with hlt | hge
 case inr =>
   have c : ¬ (m : Int) < (T.length : Int) := by omega
   obtain rfl : m = T.length := by omega
   rw [hKe]
   simp only [go_sem, zaa, zao, zap, zaq, zau, zah, ↓reduceIte, reduceCtorEq, zac, zad, zav, zaw, zax, decide_eq_false c, zan, zas, zae, zat, zay, zak, zal, zai, zaB, zaC, zag, zam]
   repeat' (first
 | exact yha | fail)
   (refine fs_frz 0 ⟨Ints W, 1⟩ (by simp only [zaW, lookR, zaa, if_true, if_false, ↓reduceIte]) (by first | exact Ints_isG _ | exact Bools_isG _ | exact Cs_isG _ | (simp [Cell.isG]; done)) ?_; simp only [frzTm, SV.frz, SV.frzL, zbh, frzHp, frzO, Ints_frz, Bools_frz, zaj, zar, zaa, if_true, if_false, ↓reduceIte])
   repeat' (first
 | (refine fs_w ?h1 (svw_of ?h2); (case h1 => repeat' (first | exact trivial | exact rfl | exact zaI rfl | apply zaH)); (case h2 => repeat' (first | ((with_reducible refine (?_ : CW _ _)); first | exact cw_gnil | exact cw_rfl _ | exact cw_niln _ _ | exact cw_cap _ _ _ _) | exact trivial | (show _ ∧ SWL _ _; apply zaH) | (show _ ∧ CWL _ _; apply zaH) | show CW _ _)))
 | fail)
 have c : (m : Int) < (T.length : Int) := by omega
 have hat := tk_td T m hlt
 obtain ⟨s1, s2⟩ := hKs m hlt
 have hk := hKl m
 have ha := Ints_all (K m)
 have hla := snoc_len (K m) (gT T m).i
 have hgx := hg (gT T m) (getD_mem T m ztk hlt)
 rw [show T.getD m ztk = gT T m from rfl] at s1 s2
 generalize gT T m = x at *
 obtain ⟨xi, xp, xg, xu⟩ := x
 simp only [tkc] at hat s1 s2 hla hgx
 cases hq : q ⟨xi, xp, xg, xu⟩ with
 | true =>
   (try rw [hq] at hgx)
   (try rw [if_pos rfl])
   have s1 := s1 hq
   rw [← s1] at hla
   simp only [go_sem, zaa, zao, zap, zaq, zau, zah, ↓reduceIte, reduceCtorEq, zac, zad, zav, zaw, zax, decide_eq_true c, hat, ha, ← s1, zan, zas, zae, zat, zay, zak, zal, zai, zaB, zaC, zag, zam]
   repeat' (first
 | with_reducible refine zaH ?_ ?_
 | (apply cl_plain
    case hs => rfl
    case ha => exact yhb
    case h => (first | exact hgx ..))
 | ((first | refine s1_id ?_ | refine swp_id ?_ | refine sops_id ?_ | refine s2_id ?_); simp only [decide_eq_true c, hat, ha, ← s1, zan, zas, zae, zat, zay, zak, zal, zai, zaB, zaC, zag, zam, go_sem, zaa, zao, zap, zaq, zau, zah, ↓reduceIte, reduceCtorEq, zac, zad, zav, zaw, zax, zaQ, zaS, zaJ, zaR, renO, bk, back, outUpsFrom, Ints_ren])
 | exact yhi
 | exact yha | fail)
   refine le_mk (m + 1) ?_ hlt (by show T.length - (m + 1) < T.length - m; omega)
   (refine imp_ren _ _ _ [(0, 13, ⟨Ints (K (m + 1)), 1⟩)] (by simp) (by simp) (by simp) (zaI rfl) ?_ rfl (by simp only [zab, zaf, false_implies, implies_true, and_true, zaW, lookR, zaa, if_true, if_false, ↓reduceIte] <;> (repeat' apply zaH) <;> (first | rfl | trivial)) (by simp only [zab, zaf, false_implies, implies_true, and_true, true_and, flat_cons, flat_nil, flat_ints, flat_bools, flat_app, zaN, and_self, eq_self_iff_true, zae]); simp only [zaj, zar, zab, zaf, false_implies, implies_true, and_true, lk, slot, zaQ, zaJ, toN, zaa, if_true, if_false, ↓reduceIte, reduceCtorEq])
   all_goals ((repeat' apply zaH) <;> (first | rfl | trivial | (simp only [zaO, hla]; done) | (simp only [zaO, hla]; rfl) | (simp only [zaO, hla]; trivial)))
 | false =>
 (try rw [hq] at hgx)
 (try rw [if_neg (by decide)])
 have s2 := s2 hq
 simp only [go_sem, zaa, zao, zap, zaq, zau, zah, ↓reduceIte, reduceCtorEq, zac, zad, zav, zaw, zax, decide_eq_true c, hat, zan, zas, zae, zat, zay, zak, zal, zai, zaB, zaC, zag, zam]
 repeat' (first
 | with_reducible refine zaH ?_ ?_
 | (apply cl_plain
    case hs => rfl
    case ha => exact yhb
    case h => (first | exact hgx ..))
 | ((first | refine s1_id ?_ | refine swp_id ?_ | refine sops_id ?_ | refine s2_id ?_); simp only [decide_eq_true c, hat, zan, zas, zae, zat, zay, zak, zal, zai, zaB, zaC, zag, zam, go_sem, zaa, zao, zap, zaq, zau, zah, ↓reduceIte, reduceCtorEq, zac, zad, zav, zaw, zax, zaQ, zaS, zaJ, zaR, renO, bk, back, outUpsFrom, Ints_ren])
 | exact yhi
 | exact yha | fail)
 rw [← s2]
 refine le_mk (m + 1) ?_ hlt (by show T.length - (m + 1) < T.length - m; omega)
 (refine imp_ren _ _ _ [(0, 0, ⟨Ints (K (m + 1)), 1⟩)] (by simp) (by simp) (by simp) (zaI rfl) ?_ rfl (by simp only [zab, zaf, false_implies, implies_true, and_true, zaW, lookR, zaa, if_true, if_false, ↓reduceIte] <;> (repeat' apply zaH) <;> (first | rfl | trivial)) (by simp only [zab, zaf, false_implies, implies_true, and_true, true_and, flat_cons, flat_nil, flat_ints, flat_bools, flat_app, zaN, and_self, eq_self_iff_true, zae]); simp only [zaj, zar, zab, zaf, false_implies, implies_true, and_true, lk, slot, zaQ, zaJ, toN, zaa, if_true, if_false, ↓reduceIte, reduceCtorEq])
 all_goals ((repeat' apply zaH) <;> (first | rfl | trivial | (simp only [zaO]; done) | (simp only [zaO]; rfl) | (simp only [zaO]; trivial)))
theorem vt_ct {l : List Nd} {n : Int} (h : VT l n) : CtR l := fun x hx => by
  have := (h.vl.all x hx).2
  unfold rngOk at this
  simp only [zaF, decide_eq_true_eq] at this
  omega
theorem HI.ct {q : Hy} (h : HI q) : CtR q.1 := vt_ct h.p.v
set_option maxHeartbeats 8000000 in
theorem mfind_spec (l : List Nd) (n : Int) (T : List Tk) (h t : Int) (hl : l.length ≤ 1000000) (hT : T.length ≤ 1000000) (hnm : NmR l) (hct : CtR l) : FnSpec Tryz.prog 15 [hyV l none n T none h, i1 t] [] (.tup [.agg (tkc (fiR l n T h t).1), b1 (fiR l n T h t).2]) [] := by
 have h1 := mcheck_spec l n T h hl (by omega) hnm hct
 have h2 := mindex_spec l none n T none h t (by omega)
 have hcl := tk_len T
 unfold fiR
 cases hv : hyM l n T h with
 | false =>
   (try rw [hv] at h1)
   (try rw [if_neg (by decide)])
   generalize bsF Tk.i T t = hb at *
   generalize bsV Tk.i T t = m at *
   cases hb
   all_goals
     refine fnspec_of mixed TT_ok TT_cl ⟨fun _ => false, fun _ => [], 0, fun _ => false, fun _ => false⟩ Tryz.func15 rfl (by kernel_rfl) rfl 27 rfl [.cell 4 40, .tmp 5] rfl ?_
     simp only [go_sem, zaa, zao, zap, zaq, zau, zah, ↓reduceIte, reduceCtorEq, zac, zad, zav, zaw, zax, zan, zas, zae, zat, zay, zak, zal, zai, zaB, zaC, zag, zam]
     repeat' (first
 | with_reducible refine zaH ?_ ?_
 | (apply cg_tp
    case hl => rfl
    case ha => exact yhb
    case hs => rfl
    case h => exact yhg)
 | (apply cl_plain
    case hs => rfl
    case ha => exact yhb
    case h => exact yhg)
 | ((first | refine s1_id ?_ | refine swp_id ?_ | refine sops_id ?_ | refine s2_id ?_); simp only [zan, zas, zae, zat, zay, zak, zal, zai, zaB, zaC, zag, zam, go_sem, zaa, zao, zap, zaq, zau, zah, ↓reduceIte, reduceCtorEq, zac, zad, zav, zaw, zax, zaQ, zaS, zaJ, zaR, renO, bk, back, outUpsFrom, Ints_ren])
 | exact yhi
 | (apply fs_nil <;> (try simp only [go_sem, resV, resS, zaQ, zaS, zaJ, St.tmF, zaW, idx, renO, zaR, evS, slot, lookR, zaa, ↓reduceIte, reduceCtorEq, if_true, if_false, zaY, zaZ, zaj, zar, sLoad, readAt, readNeed, Ints_ren, Ints_length, Ints_getD, and_true, true_and, zaT, zaU]) <;> (try rfl))
 | fail)
 | true =>
 (try rw [hv] at h1)
 (try rw [if_pos rfl])
 cases hb : bsF Tk.i T t with
 | false =>
   (try rw [hb] at h2)
   (try rw [if_neg (by decide)])
   refine fnspec_of mixed TT_ok TT_cl ⟨fun _ => false, fun _ => [], 0, fun _ => false, fun _ => false⟩ Tryz.func15 rfl (by kernel_rfl) rfl 27 rfl [.cell 4 40, .tmp 5] rfl ?_
   simp only [go_sem, zaa, zao, zap, zaq, zau, zah, ↓reduceIte, reduceCtorEq, zac, zad, zav, zaw, zax, zan, zas, zae, zat, zay, zak, zal, zai, zaB, zaC, zag, zam]
   repeat' (first
 | with_reducible refine zaH ?_ ?_
 | (apply cl_plain
    case hs => rfl
    case ha => exact yhb
    case h => exact yhg)
 | ((first | refine s1_id ?_ | refine swp_id ?_ | refine sops_id ?_ | refine s2_id ?_); simp only [zan, zas, zae, zat, zay, zak, zal, zai, zaB, zaC, zag, zam, go_sem, zaa, zao, zap, zaq, zau, zah, ↓reduceIte, reduceCtorEq, zac, zad, zav, zaw, zax, zaQ, zaS, zaJ, zaR, renO, bk, back, outUpsFrom, Ints_ren])
 | exact yhi
 | (apply fs_nil <;> (try simp only [go_sem, resV, resS, zaQ, zaS, zaJ, St.tmF, zaW, idx, renO, zaR, evS, slot, lookR, zaa, ↓reduceIte, reduceCtorEq, if_true, if_false, zaY, zaZ, zaj, zar, sLoad, readAt, readNeed, Ints_ren, Ints_length, Ints_getD, and_true, true_and, zaT, zaU]) <;> (try rfl))
 | fail)
 | true =>
 (try rw [hb] at h2)
 (try rw [if_pos rfl])
 have hlt := (bsF_at Tk.i T t hb).1
 generalize bsV Tk.i T t = m at *
 have hat := tk_td T m hlt
 have hlt' : (m : Int) < (T.length : Int) := by omega
 generalize gT T m = x at *
 obtain ⟨xi, xp, xg, xu⟩ := x
 simp only [tkc] at hat ⊢
 refine fnspec_of mixed TT_ok TT_cl ⟨fun _ => false, fun _ => [], 0, fun _ => false, fun _ => false⟩ Tryz.func15 rfl (by kernel_rfl) rfl 27 rfl [.cell 4 40, .tmp 5] rfl ?_
 simp only [go_sem, zaa, zao, zap, zaq, zau, zah, ↓reduceIte, reduceCtorEq, zac, zad, zav, zaw, zax, hat, zan, zas, zae, zat, zay, zak, zal, zai, zaB, zaC, zag, zam]
 repeat' (first
 | with_reducible refine zaH ?_ ?_
 | (apply cg_tp
    case hl => rfl
    case ha => exact yhb
    case hs => rfl
    case h => exact yhg)
 | (apply cl_plain
    case hs => rfl
    case ha => exact yhb
    case h => exact yhg)
 | ((first | refine s1_id ?_ | refine swp_id ?_ | refine sops_id ?_ | refine s2_id ?_); simp only [hat, zan, zas, zae, zat, zay, zak, zal, zai, zaB, zaC, zag, zam, go_sem, zaa, zao, zap, zaq, zau, zah, ↓reduceIte, reduceCtorEq, zac, zad, zav, zaw, zax, zaQ, zaS, zaJ, zaR, renO, bk, back, outUpsFrom, Ints_ren])
 | exact yhi
 | (apply fs_nil <;> (try simp only [go_sem, resV, resS, zaQ, zaS, zaJ, St.tmF, zaW, idx, renO, zaR, evS, slot, lookR, zaa, ↓reduceIte, reduceCtorEq, if_true, if_false, zaY, zaZ, zaj, zar, sLoad, readAt, readNeed, Ints_ren, Ints_length, Ints_getD, and_true, true_and, zaT, zaU]) <;> (try rfl))
 | fail)
theorem inG1_spec (g : Int) (x : Tk) : FnSpec Tryz.prog 62 [.agg (tkc x), .one (.gptr [int g] 0)] [] (b1 (inG g x)) [] := by
 obtain ⟨i, p, gg, u⟩ := x
 unfold inG
 simp only [tkc]
 refine fnspec_of mixed TT_ok TT_cl ⟨fun _ => false, fun _ => [], 0, fun _ => false, fun _ => false⟩ Tryz.func62 rfl (by kernel_rfl) rfl 8 rfl [.tmp 3] rfl ?_
 simp only [go_sem, zaa, zao, zap, zaq, zau, zah, ↓reduceIte, reduceCtorEq, zac, zad, zav, zaw, zax, zan, zas, zae, zat, zay, zak, zal, zai, zaB, zaC, zag, zam]
 repeat' (first
 | exact fs_nil trivial rfl
 | fail)
set_option maxHeartbeats 8000000 in
theorem mtasks_spec (l : List Nd) (n : Int) (T : List Tk) (h g : Int) (hl : l.length ≤ 1000000) (hT : T.length ≤ 1000000) (hnm : NmR l) (hct : CtR l) : FnSpec Tryz.prog 18 [hyV l none n T none h, i1 g] [] (gi (tsM l n T h g) none) [] := by
 have h1 := mchoose_spec 62 [int g] (inG g) l n T h (fun x _ => inG1_spec g x) hl hT hnm hct
 rw [show chsM (inG g) l n T h = tsM l n T h g from rfl] at h1
 generalize tsM l n T h g = W at *
 refine fnspec_of mixed TT_ok TT_cl ⟨fun _ => false, fun _ => [], 0 , fun _ => false, fun i => if i = 1 then true else false⟩ Tryz.func18 rfl (by kernel_rfl) rfl 8 rfl [.tmp 4] rfl ?_
 simp only [go_sem, zaa, zao, zap, zaq, zau, zah, ↓reduceIte, reduceCtorEq, zac, zad, zav, zaw, zax, zan, zas, zae, zat, zay, zak, zal, zai, zaB, zaC, zag, zam]
 repeat' (first
 | exact yha | fail)
 (refine rgf_t _ (imp_frz _ _ 1 ⟨[int g], 1⟩ (by simp only [zaW, lookR, zaa, if_true, if_false, ↓reduceIte]) (by first | exact Ints_isG _ | exact Bools_isG _ | exact Cs_isG _ | (simp [Cell.isG]; done))) ?_; simp only [frzTm, SV.frz, SV.frzL, zbh, frzHp, frzO, Ints_frz, Bools_frz, zaj, zar, zaa, if_true, if_false, ↓reduceIte])
 simp only [go_sem, zaa, zao, zap, zaq, zau, zah, ↓reduceIte, reduceCtorEq, zac, zad, zav, zaw, zax, zan, zas, zae, zat, zay, zak, zal, zai, zaB, zaC, zag, zam]
 repeat' (first
 | (apply cl_plain
    case hs => rfl
    case ha => exact yhb
    case h => exact yhk)
 | ((first | refine s1_id ?_ | refine swp_id ?_ | refine sops_id ?_ | refine s2_id ?_); simp only [zan, zas, zae, zat, zay, zak, zal, zai, zaB, zaC, zag, zam, go_sem, zaa, zao, zap, zaq, zau, zah, ↓reduceIte, reduceCtorEq, zac, zad, zav, zaw, zax, zaQ, zaS, zaJ, zaR, renO, bk, back, outUpsFrom, Ints_ren])
 | exact fs_nil trivial rfl
 | fail)
def inP (p : Int) (x : Tk) : Bool := decide (x.p = p)
def thM6 (l : List Nd) (n : Int) (T : List Tk) (h p : Int) : List Int := chsM (inP p) l n T h
theorem inP1_spec (g : Int) (x : Tk) : FnSpec Tryz.prog 67 [.agg (tkc x), .one (.gptr [int g] 0)] [] (b1 (inP g x)) [] := by
 obtain ⟨i, p, gg, u⟩ := x
 unfold inP
 simp only [tkc]
 refine fnspec_of mixed TT_ok TT_cl ⟨fun _ => false, fun _ => [], 0, fun _ => false, fun _ => false⟩ Tryz.func67 rfl (by kernel_rfl) rfl 8 rfl [.tmp 3] rfl ?_
 simp only [go_sem, zaa, zao, zap, zaq, zau, zah, ↓reduceIte, reduceCtorEq, zac, zad, zav, zaw, zax, zan, zas, zae, zat, zay, zak, zal, zai, zaB, zaC, zag, zam]
 repeat' (first
 | exact fs_nil trivial rfl
 | fail)
set_option maxHeartbeats 8000000 in
theorem mthreads_spec (l : List Nd) (n : Int) (T : List Tk) (h g : Int) (hl : l.length ≤ 1000000) (hT : T.length ≤ 1000000) (hnm : NmR l) (hct : CtR l) : FnSpec Tryz.prog 22 [hyV l none n T none h, i1 g] [] (gi (thM6 l n T h g) none) [] := by
 have h1 := mchoose_spec 67 [int g] (inP g) l n T h (fun x _ => inP1_spec g x) hl hT hnm hct
 rw [show chsM (inP g) l n T h = thM6 l n T h g from rfl] at h1
 generalize thM6 l n T h g = W at *
 refine fnspec_of mixed TT_ok TT_cl ⟨fun _ => false, fun _ => [], 0 , fun _ => false, fun i => if i = 1 then true else false⟩ Tryz.func22 rfl (by kernel_rfl) rfl 8 rfl [.tmp 4] rfl ?_
 simp only [go_sem, zaa, zao, zap, zaq, zau, zah, ↓reduceIte, reduceCtorEq, zac, zad, zav, zaw, zax, zan, zas, zae, zat, zay, zak, zal, zai, zaB, zaC, zag, zam]
 repeat' (first
 | exact yha | fail)
 (refine rgf_t _ (imp_frz _ _ 1 ⟨[int g], 1⟩ (by simp only [zaW, lookR, zaa, if_true, if_false, ↓reduceIte]) (by first | exact Ints_isG _ | exact Bools_isG _ | exact Cs_isG _ | (simp [Cell.isG]; done))) ?_; simp only [frzTm, SV.frz, SV.frzL, zbh, frzHp, frzO, Ints_frz, Bools_frz, zaj, zar, zaa, if_true, if_false, ↓reduceIte])
 simp only [go_sem, zaa, zao, zap, zaq, zau, zah, ↓reduceIte, reduceCtorEq, zac, zad, zav, zaw, zax, zan, zas, zae, zat, zay, zak, zal, zai, zaB, zaC, zag, zam]
 repeat' (first
 | (apply cl_plain
    case hs => rfl
    case ha => exact yhb
    case h => exact yhk)
 | ((first | refine s1_id ?_ | refine swp_id ?_ | refine sops_id ?_ | refine s2_id ?_); simp only [zan, zas, zae, zat, zay, zak, zal, zai, zaB, zaC, zag, zam, go_sem, zaa, zao, zap, zaq, zau, zah, ↓reduceIte, reduceCtorEq, zac, zad, zav, zaw, zax, zaQ, zaS, zaJ, zaR, renO, bk, back, outUpsFrom, Ints_ren])
 | exact fs_nil trivial rfl
 | fail)
def inC (S : List Int) (x : Tk) : Bool := decide (x.g ∈ S)
def coM (l : List Nd) (n : Int) (T : List Tk) (h g : Int) : Nat := (chsM (inC (subM l n g)) l n T h).length
theorem inC1_spec (S : List Int) (x : Tk) (hS : S.length ≤ 1000000) : FnSpec Tryz.prog 69 [.agg (tkc x), .one (.gptr [.gsl (Ints S) 0 S.length none] 0)] [] (b1 (inC S x)) [] := by
 obtain ⟨i, p, gg, u⟩ := x
 have h1 := kccon_spec S none gg (by omega)
 unfold inC
 simp only [tkc]
 generalize decide (gg ∈ S) = b at *
 refine fnspec_of mixed TT_ok TT_cl ⟨fun _ => false, fun _ => [], 0, fun _ => false, fun _ => false⟩ Tryz.func69 rfl (by kernel_rfl) rfl 8 rfl [.tmp 3] rfl ?_
 simp only [go_sem, zaa, zao, zap, zaq, zau, zah, ↓reduceIte, reduceCtorEq, zac, zad, zav, zaw, zax, zan, zas, zae, zat, zay, zak, zal, zai, zaB, zaC, zag, zam]
 repeat' (first
 | (apply cl_plain
    case hs => rfl
    case ha => exact yhb
    case h => exact yhk)
 | ((first | refine s1_id ?_ | refine swp_id ?_ | refine sops_id ?_ | refine s2_id ?_); simp only [zan, zas, zae, zat, zay, zak, zal, zai, zaB, zaC, zag, zam, go_sem, zaa, zao, zap, zaq, zau, zah, ↓reduceIte, reduceCtorEq, zac, zad, zav, zaw, zax, zaQ, zaS, zaJ, zaR, renO, bk, back, outUpsFrom, Ints_ren])
 | exact fs_nil trivial rfl
 | fail)
set_option maxHeartbeats 8000000 in
theorem mcount_spec (l : List Nd) (n : Int) (T : List Tk) (h g : Int) (hl : l.length ≤ 1000000) (hT : T.length ≤ 1000000) (hnm : NmR l) (hct : CtR l) : FnSpec Tryz.prog 24 [hyV l none n T none h, i1 g] [] (i1 (coM l n T h g)) [] := by
 have h0 := tsub_spec l n g hl hnm hct
 have hsl := subM_len l n g
 unfold coM
 generalize subM l n g = S at *
 have h1 := mchoose_spec 69 [.gsl (Ints S) 0 S.length none] (inC S) l n T h (fun x _ => inC1_spec S x (by omega)) hl hT hnm hct
 generalize chsM (inC S) l n T h = W at *
 refine fnspec_of mixed TT_ok TT_cl ⟨fun _ => false, fun _ => [], 0 , fun _ => false, fun i => if i = 2 then true else false⟩ Tryz.func24 rfl (by kernel_rfl) rfl 14 rfl [.tmp 4] rfl ?_
 simp only [go_sem, zaa, zao, zap, zaq, zau, zah, ↓reduceIte, reduceCtorEq, zac, zad, zav, zaw, zax, zan, zas, zae, zat, zay, zak, zal, zai, zaB, zaC, zag, zam]
 repeat' (first
 | (apply cl_plain
    case hs => rfl
    case ha => exact yhb
    case h => (first | exact h0 .. | exact h1 ..))
 | ((first | refine s1_id ?_ | refine swp_id ?_ | refine sops_id ?_ | refine s2_id ?_); simp only [zan, zas, zae, zat, zay, zak, zal, zai, zaB, zaC, zag, zam, go_sem, zaa, zao, zap, zaq, zau, zah, ↓reduceIte, reduceCtorEq, zac, zad, zav, zaw, zax, zaQ, zaS, zaJ, zaR, renO, bk, back, outUpsFrom, Ints_ren])
 | exact yha | fail)
 (refine rgf_t _ (imp_frz _ _ 6 ⟨[.gsl (Ints S) 0 S.length none], 1⟩ (by simp only [zaW, lookR, zaa, if_true, if_false, ↓reduceIte]) (by first | exact Ints_isG _ | exact Bools_isG _ | exact Cs_isG _ | (simp [Cell.isG]; done))) ?_; simp only [frzTm, SV.frz, SV.frzL, zbh, frzHp, frzO, Ints_frz, Bools_frz, zaj, zar, zaa, if_true, if_false, ↓reduceIte])
 simp only [go_sem, zaa, zao, zap, zaq, zau, zah, ↓reduceIte, reduceCtorEq, zac, zad, zav, zaw, zax, zan, zas, zae, zat, zay, zak, zal, zai, zaB, zaC, zag, zam]
 repeat' (first
 | (apply cl_plain
    case hs => rfl
    case ha => exact yhb
    case h => exact yhk)
 | ((first | refine s1_id ?_ | refine swp_id ?_ | refine sops_id ?_ | refine s2_id ?_); simp only [zan, zas, zae, zat, zay, zak, zal, zai, zaB, zaC, zag, zam, go_sem, zaa, zao, zap, zaq, zau, zah, ↓reduceIte, reduceCtorEq, zac, zad, zav, zaw, zax, zaQ, zaS, zaJ, zaR, renO, bk, back, outUpsFrom, Ints_ren])
 | exact fs_nil trivial rfl
 | fail)
end Go.Proofs.YtnahpejlhfeleabGreat
