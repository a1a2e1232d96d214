/- Contracts of functions, told of values, on the way to MemberChanges (part 8). -/
import Derived.Test.YtnahpejlhfeleabGreatMemberChangesM3
import Derived.Test.YtnahpejlhfeleabGreatMemberChangesM7
import Derived.Test.YtnahpejlhfeleabGreatMemberChangesM4
import Derived.Test.YtnahpejlhfeleabGreatMemberChangesM5
import Derived.Test.YtnahpejlhfeleabGreatMemberChangesM6
namespace Go.Proofs.YtnahpejlhfeleabGreat
theorem yha {p : Prop} (h : p := by first | (intros; (try simp only [zaF, zaH, zaE, zaD, zat, zax, decide_eq_true_eq, decide_eq_false_iff_not] at *); omega) | fail) : p := h
theorem yhb {p : Prop} (h : p := by first | (simp only [zab, zac, false_implies, implies_true, and_true, true_and, flat_cons, flat_nil, flat_ints, flat_bools, flat_app, Cs_flat, zaK, and_self, eq_self_iff_true, zad]) | fail) : p := h
theorem yhc {p : Prop} (h : p := by first | (simp only [zae, zah, prepV, prepC, idx, hpL', lookR, zaa, if_true, if_false]; rfl) | fail) : p := h
theorem yhd {p : Prop} (h : p := by first | (simp only [zae, zah, hpL', lookR, zaa, if_true, if_false]; first | exact map1 _ | exact map2 _ _ | exact map3 _ _ _) | fail) : p := h
theorem yhe {p : Prop} (h : p := by first | (refine fs_w ?h1 (svw_of ?h2); (case h1 => repeat' (first | exact trivial | exact rfl | exact zaI rfl | apply zaG)); (case h2 => repeat' (first | ((with_reducible refine (?_ : CW _ _)); first | exact cw_gnil | exact cw_rfl _ | exact cw_niln _ _ | exact cw_cap _ _ _ _) | exact trivial | (show _ ∧ SWL _ _; apply zaG) | (show _ ∧ CWL _ _; apply zaG) | show CW _ _))) | fail) : p := h
theorem yhf {p : Prop} (h : p := by first | (simp only [zag, zai]; decide) | fail) : p := h
theorem yhg {p : Prop} (h : p := by first | (intros; omega) | fail) : p := h
theorem yhh {p : Prop} (h : p := by first | (first | exact tk .. | exact cc ..) | fail) : p := h
theorem yhi {p : Prop} (h : p := by first | (first | exact tk .. | exact gg .. | exact cc ..) | fail) : p := h
theorem yhj {p : Prop} (h : p := by first | (first | exact n1 .. | exact n2 .. | exact a9 ..) | fail) : p := h
end Go.Proofs.YtnahpejlhfeleabGreat
-- short names of the library's lemmas
open Nat renaming reduceEqDiff → zaa, reduceLeDiff → zan, reduceAdd → zau, reduceSub → zav, reduceMul → zaw, reduceLT → zaz, le_of_ble_eq_true → zaI
open List renaming forall_mem_cons → zab, not_mem_nil → zac, append_nil → zad, map_cons → zae, reduceReplicate → zaf, length_cons → zag, map_nil → zah, length_nil → zai, take_succ_cons → zak, set_cons_zero → zal, set_cons_succ → zam, flatten_cons → zao, flatten_nil → zap, cons_append → zaq, nil_append → zar, take_zero → zas, take_nil → zay, getD_cons_zero → zaL, getD_cons_succ → zaM, mem_cons_of_mem → zaN, length_append → zaT, mem_cons_self → zaU, range' → zaW, length_range' → zaY, nodup_cons → zaZ, length_set → zba, length_singleton → zbc
open Int renaming cast_ofNat_Int → zaj, reduceEq → zaA, reduceLT → zaB, reduceLE → zaC, natCast_add → zbb, toNat_natCast → zbg
open Option renaming getD_some → zaR, getD_none → zaS
open Bool renaming and_eq_false_iff → zat, or_eq_false_iff → zax, not_eq_false' → zaD, not_eq_true' → zaE, and_eq_true → zaF, or_eq_true → zaH
open And renaming intro → zaG
open Go.Proofs.YtnahpejlhfeleabGreat.Sh.Cell renaming ren → zaJ, refs → zaK, frz → zaX, isG → zbd
open Go.Proofs.YtnahpejlhfeleabGreat.Sh.SV renaming ren → zaQ, renL → zaV, frzL → zbe, frz → zbh
open Go.Proofs.YtnahpejlhfeleabGreat.Sh.Row renaming ren → zaO
open Go.Proofs.YtnahpejlhfeleabGreat.Sh.St renaming hpF → zaP, tmF → zbf
set_option linter.unusedSimpArgs false
set_option linter.unusedVariables false
namespace Go.Proofs.YtnahpejlhfeleabGreat
open Go.Proofs.YtnahpejlhfeleabGreat.Sh
set_option maxRecDepth 20000
def sp1 (L : List Int) (s : Hy × Nat) (g : Int) : Hy × Nat :=
  (if (spR s.1.1 s.1.2.1 s.1.2.2.1 s.1.2.2.2 g (nxV L s.2 3)).2.2 = 0 then (spR s.1.1 s.1.2.1 s.1.2.2.1 s.1.2.2.2 g (nxV L s.2 3)).1 else s.1, nxA L s.2 3)
def sp2 (L : List Int) (s : Hy × Nat) : Hy × Nat :=
  if nxV L s.2 3 = 2 then (if (clR s.1.1 s.1.2.1 s.1.2.2.1 s.1.2.2.2 (dtV L s.1.2.2.1 (nxA L s.2 3))).2.2 = 0 then (clR s.1.1 s.1.2.1 s.1.2.2.1 s.1.2.2.2 (dtV L s.1.2.2.1 (nxA L s.2 3))).1 else s.1, dtA L s.1.2.2.1 (nxA L s.2 3)) else (s.1, nxA L s.2 3)
def sp3 (L : List Int) (s : Hy × Nat) : Hy × Nat :=
  if nxV L s.2 4 = 3 then (if (atM s.1.1 s.1.2.1 s.1.2.2.1 s.1.2.2.2 (dtV L s.1.2.2.1 (nxA L s.2 4)) (dgV L s.1.1 (dtA L s.1.2.2.1 (nxA L s.2 4)))).2 = 0 then (atM s.1.1 s.1.2.1 s.1.2.2.1 s.1.2.2.2 (dtV L s.1.2.2.1 (nxA L s.2 4)) (dgV L s.1.1 (dtA L s.1.2.2.1 (nxA L s.2 4)))).1 else s.1, dgA L s.1.1 (dtA L s.1.2.2.1 (nxA L s.2 4))) else (s.1, nxA L s.2 4)
def sp4 (L : List Int) (s : Hy × Nat) : Hy × Nat :=
  if nxV L s.2 8 = 7 then (if (exR s.1.1 s.1.2.1 s.1.2.2.1 s.1.2.2.2 (dtV L s.1.2.2.1 (nxA L s.2 8))).2 = 0 then (exR s.1.1 s.1.2.1 s.1.2.2.1 s.1.2.2.2 (dtV L s.1.2.2.1 (nxA L s.2 8))).1 else s.1, dtA L s.1.2.2.1 (nxA L s.2 8)) else (s.1, nxA L s.2 8)
def spM (L : List Int) (s : Hy × Nat) : Hy × Nat :=
  if amM s.1.1 s.1.2.1 s.1.2.2.1 s.1.2.2.2 (dgV L s.1.1 s.2) = 0 then sp4 L (sp3 L (sp2 L (sp1 L (s.1, dgA L s.1.1 s.2) (dgV L s.1.1 s.2)))) else (s.1, dgA L s.1.1 s.2)
theorem atM_ok {l : List Nd} {n : Int} {T : List Tk} {h t g : Int} (he : (atM l n T h t g).2 = 0) : atM l n T h t g = plR l n T h t g ∧ amM l n T h g = 0 ∧ (dmM l n g).1 = (dmM l n (fiR l n T h t).1.g).1 ∧ (fiR l n T h t).2 = true ∧ ftM l n T h = true := by
 unfold atM at *
 by_cases a : ftM l n T h = true
 · rw [if_pos a] at he ⊢
   by_cases b : (!(fiR l n T h t).2 || !hasM l n g) = true
   · rw [if_pos b] at he; cases he
   rw [if_neg b] at he ⊢
   by_cases c : amM l n T h g = 0
   · rw [if_pos c] at he ⊢
     by_cases d : (dmM l n g).1 = (dmM l n (fiR l n T h t).1.g).1
     · rw [if_pos d]
       simp only [zaH, zaE, not_or, Bool.not_eq_false] at b
       exact ⟨rfl, c, d, b.1, a⟩
     · rw [if_neg d] at he; cases he
   · rw [if_neg c] at he; exact absurd he c
 · rw [if_neg a] at he; cases he
theorem sp1_ok (L : List Int) (s : Hy × Nat) (g : Int) (hs : HI s.1) : HI (sp1 L s g).1 := by
 unfold sp1
 by_cases e : (spR s.1.1 s.1.2.1 s.1.2.2.1 s.1.2.2.2 g (nxV L s.2 3)).2.2 = 0
 · obtain ⟨e1, e2⟩ := hs.p.spawn e
   rw [if_pos e, e1]
   exact ⟨e2, hs.nm⟩
 · rw [if_neg e]; exact hs
theorem sp2_ok (L : List Int) (s : Hy × Nat) (hs : HI s.1) : HI (sp2 L s).1 := by
 unfold sp2
 split
 · by_cases e : (clR s.1.1 s.1.2.1 s.1.2.2.1 s.1.2.2.2 (dtV L s.1.2.2.1 (nxA L s.2 3))).2.2 = 0
   · obtain ⟨x, _, _, e1, e2⟩ := hs.p.clone e
     simp only
     rw [if_pos e, e1]
     exact ⟨e2, hs.nm⟩
   · simp only
     rw [if_neg e]; exact hs
 · exact hs
theorem sp3_ok (L : List Int) (s : Hy × Nat) (hs : HI s.1) : HI (sp3 L s).1 := by
 unfold sp3
 split
 · by_cases e : (atM s.1.1 s.1.2.1 s.1.2.2.1 s.1.2.2.2 (dtV L s.1.2.2.1 (nxA L s.2 4)) (dgV L s.1.1 (dtA L s.1.2.2.1 (nxA L s.2 4)))).2 = 0
   · simp only
     rw [if_pos e]
     obtain ⟨e0, _⟩ := atM_ok e
     rw [e0] at e ⊢
     obtain ⟨e1, _, _, e2⟩ := hs.p.place e
     rw [e1]
     exact ⟨e2, hs.nm⟩
   · simp only
     rw [if_neg e]; exact hs
 · exact hs
theorem sp4_ok (L : List Int) (s : Hy × Nat) (hs : HI s.1) : HI (sp4 L s).1 := by
 unfold sp4
 split
 · by_cases e : (exR s.1.1 s.1.2.1 s.1.2.2.1 s.1.2.2.2 (dtV L s.1.2.2.1 (nxA L s.2 8))).2 = 0
   · simp only
     rw [if_pos e]
     obtain ⟨e1, _, e2⟩ := hs.p.exit e
     rw [e1]
     exact ⟨e2, hs.nm⟩
   · simp only
     rw [if_neg e]; exact hs
 · exact hs
theorem spM_ok (L : List Int) (s : Hy × Nat) (hs : HI s.1) : HI (spM L s).1 := by
 unfold spM
 split
 · exact sp4_ok L _ (sp3_ok L _ (sp2_ok L _ (sp1_ok L _ _ hs)))
 · exact hs
def hL1 (L : List Int) : Nat → Hy × Nat → Hy × Nat
  | 0, s => s
  | m + 1, s => hL1 L m (stM L s)
def hL2 (L : List Int) : Nat → Hy × Nat → Hy × Nat
  | 0, s => s
  | m + 1, s => hL2 L m (spM L s)
theorem hL1_ok (L : List Int) : ∀ (m : Nat) (s : Hy × Nat), HI s.1 → HI (hL1 L m s).1
  | 0, _, h => h
  | m + 1, s, h => hL1_ok L m _ (stM_ok L s h)
theorem hL2_ok (L : List Int) : ∀ (m : Nat) (s : Hy × Nat), HI s.1 → HI (hL2 L m s).1
  | 0, _, h => h
  | m + 1, s, h => hL2_ok L m _ (spM_ok L s h)
def mkH1 (L : List Int) (j G : Nat) : Hy × Nat := hL1 L (nxV L (mkT L j G).2 ((G : Int) + 3)).toNat (((mkT L j G).1.1, (mkT L j G).1.2, [], 1), nxA L (mkT L j G).2 ((G : Int) + 3))
def mkH (L : List Int) (j G K : Nat) : Hy × Nat := hL2 L (nxV L (mkH1 L j G).2 ((K : Int) + 1)).toNat ((mkH1 L j G).1, nxA L (mkH1 L j G).2 ((K : Int) + 1))
theorem HI_tree {l : List Nd} {n : Int} {B : Nat} (h : TI l n B) : HI (l, n, [], 1) where
  p := ⟨h.v.vt, Nat.zero_le _, List.Pairwise.nil, (fun x hx => by cases hx), (fun x hx => by cases hx), Int.le_refl 1, (by show (1 : Int) ≤ 2147483648; decide), (fun x hx => by cases hx), (fun x hx => by cases hx), (fun x hx => by cases hx)⟩
  nm := h.nm
theorem mkH_ok (L : List Int) (j G K : Nat) : HI (mkH L j G K).1 := hL2_ok L _ _ (hL1_ok L _ _ (HI_tree (mkT_ok L j G)))
def lendY : FuncId → List Nat := fun f => if f = 42 then [0] else if f = 13 then [0] else if f = 47 then [0] else if f = 14 then [0] else if f = 45 then [0] else if f = 44 then [0] else []
theorem rnew6z_spec : FnSpec Tryz.prog 30 [] [] (hyV kR none 2 [] none 1) [] := rnew6_spec
set_option maxHeartbeats 16000000 in
theorem hier_spec (L : List Int) (hl : L.length ≤ 600) (hr : ∀ x ∈ L, -9223372036854775808 ≤ x ∧ x ≤ 9223372036854775807) (j G K : Nat) (hG : G ≤ 40) (hK : K ≤ 100) : FnSpec Tryz.prog 9 [dp, i1 G, i1 K] [dice L j] (hyQ (mkH L j G K).1) [some (dice L (mkH L j G K).2)] := by
 have h1 := tree_spec L hl hr j G (by omega)
 have hT := mkT_ok L j G
 have n1 := next_spec L (mkT L j G).2 ((G : Int) + 3) hl hr (by omega)
 have r1 := nx_rng L (mkT L j G).2 ((G : Int) + 3) (by omega)
 obtain ⟨H, hH⟩ : ∃ H, mkH L j G K = H := ⟨_, rfl⟩
 obtain ⟨H1, hH1⟩ : ∃ H1, mkH1 L j G = H1 := ⟨_, rfl⟩
 rw [hH]
 unfold mkH at hH
 rw [hH1] at hH
 unfold mkH1 at hH1
 generalize mkT L j G = t at *
 obtain ⟨⟨tl, tn⟩, j1⟩ := t
 simp only at h1 n1 r1 hT hH1
 obtain ⟨c1, hc1, hc2⟩ : ∃ c : Nat, nxV L j1 ((G : Int) + 3) = c ∧ c ≤ G + 2 := ⟨(nxV L j1 ((G : Int) + 3)).toNat, by omega, by omega⟩
 rw [hc1, zbg] at hH1
 rw [hc1] at n1
 generalize nxA L j1 ((G : Int) + 3) = j2 at *
 have hh0 := HI_tree hT
 refine fnspec_of mixed TT_ok TT_cl ⟨fun i => if i = 63 then true else if i = 66 then true else if i = 80 then true else if i = 97 then true else false, lendY, 1, fun _ => false, fun _ => false⟩ Tryz.func9 rfl (by kernel_rfl) rfl 110 rfl [.cell 6 28] rfl ?_
 simp only [go_sem, zaa, zau, zav, zaw, zaz, zan, ↓reduceIte, reduceCtorEq, zaf, zaj, zaA, zaB, zaC, lendY, dice, zao, zap, zad, zaq, zar, zal, zam, zak, zas, zay, zag, zai]
 repeat' (first
 | with_reducible refine zaG ?_ ?_
 | (apply cl_plain
    case hs => rfl
    case ha => exact yhc
    case h => (first | exact rnew6z_spec .. | exact h1 .. | exact n1 ..))
 | (apply cl_lend
    case hr => exact yhd
    case ha => exact yhc
    case hs => rfl
    case hn => decide
    case h => (first | exact rnew6z_spec .. | exact h1 .. | exact n1 ..)
    case hf => exact yhb
    case hl => exact yhf)
 | ((first | refine s1_id ?_ | refine swp_id ?_ | refine sops_id ?_ | refine s2_id ?_); simp only [lendY, dice, zao, zap, zad, zaq, zar, zal, zam, zak, zas, zay, zag, zai, go_sem, zaa, zau, zav, zaw, zaz, zan, ↓reduceIte, reduceCtorEq, zaf, zaj, zaA, zaB, zaC, zaQ, zaV, zaJ, zaO, renO, bk, back, outUpsFrom, Ints_ren])
 | exact yhg
 | exact yha | fail)
 refine w_loop (ι := Nat × Hy × Nat) (fun s => ⟨[(0, dp), (2, i1 K), (6, .one (.optr 1 0)), (7, .one (.optr 2 0)), (8, i1 s.1)], [(0, some (dice L s.2.2)), (1, some ⟨[.sc (.slice none 0 0), int 0, .sc (.slice none 0 0), int 0], 4⟩), (2, some ⟨hyc s.2.1.1 none s.2.1.2.1 s.2.1.2.2.1 none s.2.1.2.2.2, 4⟩)], 3⟩) (fun s => hL1 L s.1 s.2 = H1 ∧ HI s.2.1 ∧ s.1 ≤ G + 2) (fun s => s.1) (c1, ((tl, tn, [], 1), j2)) ?_ ⟨hH1, hh0, hc2⟩ ?_
 · (refine imp_ren _ _ _ [(0, 0, dice L j2), (1, 1, ⟨[.sc (.slice none 0 0), int 0, .sc (.slice none 0 0), int 0], 4⟩), (2, 3, ⟨[.gsl (Cs tl) 0 tl.length none, int tn, .gsl (Cs []) 0 0 none, int 1], 4⟩)] (by simp) (by simp) (by simp) (zaI rfl) ?_ rfl (by simp only [zab, zac, false_implies, implies_true, and_true, zaP, lookR, zaa, if_true, if_false, ↓reduceIte, dice] <;> (repeat' apply zaG) <;> (first | rfl | trivial)) (by simp only [zab, zac, false_implies, implies_true, and_true, true_and, flat_cons, flat_nil, flat_ints, flat_bools, flat_app, zaK, and_self, eq_self_iff_true, zad, dice]); simp only [zae, zah, zab, zac, false_implies, implies_true, and_true, lk, slot, zaQ, zaJ, toN, zaa, if_true, if_false, ↓reduceIte, reduceCtorEq])
   all_goals ((repeat' apply zaG) <;> (first | rfl | trivial))
 clear n1 r1 hT h1 hH1 hc1 hh0
 rintro ⟨m, ⟨⟨l, n, T, h⟩, j⟩⟩ ⟨hI, hq, hm⟩
 simp only at hI hq hm ⊢
 cases m with
 | succ m =>
   have c : (0 : Int) < ((m + 1 : Nat) : Int) := by omega
   have e2 : ((m + 1 : Nat) : Int) - 1 = (m : Int) := by omega
   have h2 := hstep_spec L hl hr j (l, n, T, h) hq
   have hq2 := stM_ok L ((l, n, T, h), j) hq
   rw [hL1] at hI
   generalize stM L ((l, n, T, h), j) = S at *
   obtain ⟨⟨l', n', T', h'⟩, j'⟩ := S
   simp only at h2 hq2
   simp only [go_sem, zaa, zau, zav, zaw, zaz, zan, ↓reduceIte, reduceCtorEq, zaf, zaj, zaA, zaB, zaC, decide_eq_true c, e2, lendY, dice, zao, zap, zad, zaq, zar, zal, zam, zak, zas, zay, zag, zai]
   repeat' (first
 | with_reducible refine zaG ?_ ?_
 | (apply cl_lend
    case hr => exact yhd
    case ha => exact yhc
    case hs => rfl
    case hn => decide
    case h => (first | exact h2 ..)
    case hf => exact yhb
    case hl => exact yhf)
 | ((first | refine s1_id ?_ | refine swp_id ?_ | refine sops_id ?_ | refine s2_id ?_); simp only [decide_eq_true c, e2, lendY, dice, zao, zap, zad, zaq, zar, zal, zam, zak, zas, zay, zag, zai, go_sem, zaa, zau, zav, zaw, zaz, zan, ↓reduceIte, reduceCtorEq, zaf, zaj, zaA, zaB, zaC, zaQ, zaV, zaJ, zaO, renO, bk, back, outUpsFrom, Ints_ren])
 | exact yhg
 | exact yha | fail)
   refine le_mk (m, ((l', n', T', h'), j')) ?_ ⟨hI, hq2, by omega⟩ (by show m < m + 1; omega)
   (refine imp_ren _ _ _ [(0, 0, dice L j'), (1, 1, ⟨[.sc (.slice none 0 0), int 0, .sc (.slice none 0 0), int 0], 4⟩), (2, 2, ⟨[.gsl (Cs l') 0 l'.length none, int n', .gsl (Cs T') 0 T'.length none, int h'], 4⟩)] (by simp) (by simp) (by simp) (zaI rfl) ?_ rfl (by simp only [zab, zac, false_implies, implies_true, and_true, zaP, lookR, zaa, if_true, if_false, ↓reduceIte, dice] <;> (repeat' apply zaG) <;> (first | rfl | trivial)) (by simp only [zab, zac, false_implies, implies_true, and_true, true_and, flat_cons, flat_nil, flat_ints, flat_bools, flat_app, zaK, and_self, eq_self_iff_true, zad, dice]); simp only [zae, zah, zab, zac, false_implies, implies_true, and_true, lk, slot, zaQ, zaJ, toN, zaa, if_true, if_false, ↓reduceIte, reduceCtorEq])
   all_goals ((repeat' apply zaG) <;> (first | rfl | trivial))
 | zero =>
 rw [hL1] at hI
 subst hI
 simp only at hH
 have n1 := next_spec L j ((K : Int) + 1) hl hr (by omega)
 have r1 := nx_rng L j ((K : Int) + 1) (by omega)
 obtain ⟨c2, hc3, hc4⟩ : ∃ c : Nat, nxV L j ((K : Int) + 1) = c ∧ c ≤ K := ⟨(nxV L j ((K : Int) + 1)).toNat, by omega, by omega⟩
 rw [hc3, zbg] at hH
 rw [hc3] at n1
 generalize nxA L j ((K : Int) + 1) = j3 at *
 simp only [go_sem, zaa, zau, zav, zaw, zaz, zan, ↓reduceIte, reduceCtorEq, zaf, zaj, zaA, zaB, zaC, (show decide ((0 : Int) < ((0 : Nat) : Int)) = false from rfl), lendY, dice, zao, zap, zad, zaq, zar, zal, zam, zak, zas, zay, zag, zai]
 repeat' (first
 | with_reducible refine zaG ?_ ?_
 | (apply cl_lend
    case hr => exact yhd
    case ha => exact yhc
    case hs => rfl
    case hn => decide
    case h => (first | exact n1 ..)
    case hf => exact yhb
    case hl => exact yhf)
 | ((first | refine s1_id ?_ | refine swp_id ?_ | refine sops_id ?_ | refine s2_id ?_); simp only [(show decide ((0 : Int) < ((0 : Nat) : Int)) = false from rfl), lendY, dice, zao, zap, zad, zaq, zar, zal, zam, zak, zas, zay, zag, zai, go_sem, zaa, zau, zav, zaw, zaz, zan, ↓reduceIte, reduceCtorEq, zaf, zaj, zaA, zaB, zaC, zaQ, zaV, zaJ, zaO, renO, bk, back, outUpsFrom, Ints_ren])
 | exact yhg
 | exact yha | fail)
 refine w_loop (ι := Nat × Hy × Nat) (fun s => ⟨[(0, dp), (6, .one (.optr 1 0)), (7, .one (.optr 2 0)), (9, i1 s.1)], [(0, some (dice L s.2.2)), (1, some ⟨[.sc (.slice none 0 0), int 0, .sc (.slice none 0 0), int 0], 4⟩), (2, some ⟨hyc s.2.1.1 none s.2.1.2.1 s.2.1.2.2.1 none s.2.1.2.2.2, 4⟩)], 3⟩) (fun s => hL2 L s.1 s.2 = H ∧ HI s.2.1 ∧ s.1 ≤ K) (fun s => s.1) (c2, ((l, n, T, h), j3)) ?_ ⟨hH, hq, hc4⟩ ?_
 · (refine imp_ren _ _ _ [(0, 0, dice L j3), (1, 1, ⟨[.sc (.slice none 0 0), int 0, .sc (.slice none 0 0), int 0], 4⟩), (2, 2, ⟨[.gsl (Cs l) 0 l.length none, int n, .gsl (Cs T) 0 T.length none, int h], 4⟩)] (by simp) (by simp) (by simp) (zaI rfl) ?_ rfl (by simp only [zab, zac, false_implies, implies_true, and_true, zaP, lookR, zaa, if_true, if_false, ↓reduceIte, dice] <;> (repeat' apply zaG) <;> (first | rfl | trivial)) (by simp only [zab, zac, false_implies, implies_true, and_true, true_and, flat_cons, flat_nil, flat_ints, flat_bools, flat_app, zaK, and_self, eq_self_iff_true, zad, dice]); simp only [zae, zah, zab, zac, false_implies, implies_true, and_true, lk, slot, zaQ, zaJ, toN, zaa, if_true, if_false, ↓reduceIte, reduceCtorEq])
   all_goals ((repeat' apply zaG) <;> (first | rfl | trivial))
 clear n1 r1 hH hq hm hc3
 rintro ⟨m, ⟨⟨l, n, T, h⟩, j⟩⟩ ⟨hI, hq, hmK⟩
 simp only at hI hq hmK ⊢
 cases m with
 | zero =>
   rw [hL2] at hI
   subst hI
   simp only [go_sem, zaa, zau, zav, zaw, zaz, zan, ↓reduceIte, reduceCtorEq, zaf, zaj, zaA, zaB, zaC, (show decide ((0 : Int) < ((0 : Nat) : Int)) = false from rfl), lendY, dice, zao, zap, zad, zaq, zar, zal, zam, zak, zas, zay, zag, zai]
   repeat' (first
 | exact yha | fail)
   (refine fs_flat [(0, dice L j)] (by simp) (by simp only [zae, zah]; decide) (by simp only [go_sem, resV, resS, zaQ, zaV, zaJ, zbf, zaP, idx, renO, zaO, evS, slot, lookR, zaa, ↓reduceIte, reduceCtorEq, if_true, if_false, zaR, zaS, zae, zah, sLoad, readAt, readNeed, Ints_ren, Ints_length, Ints_getD, and_true, true_and, zaL, zaM]; try decide) ?_ (by simp only [zab, zac, false_implies, implies_true, and_true, zaP, lookR, zaa, if_true, if_false, ↓reduceIte, dice] <;> (repeat' apply zaG) <;> (first | rfl | trivial)) (by simp only [zab, zac, false_implies, implies_true, and_true, true_and, flat_cons, flat_nil, flat_ints, flat_bools, flat_app, zaK, and_self, eq_self_iff_true, zad, dice]) ?_ <;> (try simp only [go_sem, resV, resS, zaQ, zaV, zaJ, zbf, zaP, idx, renO, zaO, evS, slot, lookR, zaa, ↓reduceIte, reduceCtorEq, if_true, if_false, zaR, zaS, zae, zah, sLoad, readAt, readNeed, Ints_ren, Ints_length, Ints_getD, and_true, true_and, zaL, zaM]) <;> (try rfl))
 | succ m =>
 have c : (0 : Int) < ((m + 1 : Nat) : Int) := by omega
 have e2 : ((m + 1 : Nat) : Int) - 1 = (m : Int) := by omega
 have h1 := dgroup_spec L hl hr j l n hq.len.1 hq.len.2
 have h2 := r8admits_spec l n T h (dgV L l j) hq.b
 rw [hL2] at hI
 have hq5 := spM_ok L ((l, n, T, h), j) hq
 unfold spM at hI hq5
 simp only at hI hq5
 generalize dgV L l j = g at *
 generalize dgA L l j = ja at *
 by_cases am : amM l n T h g = 0
 case neg =>
   rw [if_neg am] at hI hq5
   simp only [go_sem, zaa, zau, zav, zaw, zaz, zan, ↓reduceIte, reduceCtorEq, zaf, zaj, zaA, zaB, zaC, decide_eq_true c, e2, decide_eq_false am, lendY, dice, zao, zap, zad, zaq, zar, zal, zam, zak, zas, zay, zag, zai]
   repeat' (first
 | with_reducible refine zaG ?_ ?_
 | (apply cl_plain
    case hs => rfl
    case ha => exact yhc
    case h => (first | exact h1 .. | exact h2 ..))
 | (apply cl_lend
    case hr => exact yhd
    case ha => exact yhc
    case hs => rfl
    case hn => decide
    case h => (first | exact h1 .. | exact h2 ..)
    case hf => exact yhb
    case hl => exact yhf)
 | ((first | refine s1_id ?_ | refine swp_id ?_ | refine sops_id ?_ | refine s2_id ?_); simp only [decide_eq_true c, e2, decide_eq_false am, lendY, dice, zao, zap, zad, zaq, zar, zal, zam, zak, zas, zay, zag, zai, go_sem, zaa, zau, zav, zaw, zaz, zan, ↓reduceIte, reduceCtorEq, zaf, zaj, zaA, zaB, zaC, zaQ, zaV, zaJ, zaO, renO, bk, back, outUpsFrom, Ints_ren])
 | exact yhg
 | exact yha | fail)
   refine le_mk (m, ((l, n, T, h), ja)) ?_ ⟨hI, hq, by omega⟩ (by show m < m + 1; omega)
   (refine imp_ren _ _ _ [(0, 0, dice L ja), (1, 1, ⟨[.sc (.slice none 0 0), int 0, .sc (.slice none 0 0), int 0], 4⟩), (2, 2, ⟨[.gsl (Cs l) 0 l.length none, int n, .gsl (Cs T) 0 T.length none, int h], 4⟩)] (by simp) (by simp) (by simp) (zaI rfl) ?_ rfl (by simp only [zab, zac, false_implies, implies_true, and_true, zaP, lookR, zaa, if_true, if_false, ↓reduceIte, dice] <;> (repeat' apply zaG) <;> (first | rfl | trivial)) (by simp only [zab, zac, false_implies, implies_true, and_true, true_and, flat_cons, flat_nil, flat_ints, flat_bools, flat_app, zaK, and_self, eq_self_iff_true, zad, dice]); simp only [zae, zah, zab, zac, false_implies, implies_true, and_true, lk, slot, zaQ, zaJ, toN, zaa, if_true, if_false, ↓reduceIte, reduceCtorEq])
   all_goals ((repeat' apply zaG) <;> (first | rfl | trivial))
 rw [if_pos am] at hI hq5
 have n3 := next_spec L ja 3 hl hr (by decide)
 have a3 := rspawn6_spec l n T h g (nxV L ja 3) hq.b.l hq.b.t hq.b.nm
 have hq1 := sp1_ok L ((l, n, T, h), ja) g hq
 obtain ⟨S1, hS1⟩ : ∃ S, sp1 L ((l, n, T, h), ja) g = S := ⟨_, rfl⟩
 rw [hS1] at hI hq1 hq5
 unfold sp1 at hS1
 simp only at hS1
 generalize spR l n T h g (nxV L ja 3) = E at *
 obtain ⟨⟨l1, n1, T1, h1'⟩, i1', e1⟩ := E
 generalize nxA L ja 3 = jb at *
 generalize nxV L ja 3 = us at *
 obtain ⟨⟨l2, n2, T2, h2'⟩, jb'⟩ := S1
 simp only [Prod.mk.injEq] at hS1 hq1 a3
 obtain ⟨hS1, rfl⟩ := hS1
 simp only [go_sem, zaa, zau, zav, zaw, zaz, zan, ↓reduceIte, reduceCtorEq, zaf, zaj, zaA, zaB, zaC, decide_eq_true c, decide_eq_true am, lendY, dice, zao, zap, zad, zaq, zar, zal, zam, zak, zas, zay, zag, zai]
 repeat' (first
 | with_reducible refine zaG ?_ ?_
 | (unfold OKC; kernel_rfl)
 | (unfold EDG; kernel_rfl)
 | (apply cl_plain
    case hs => rfl
    case ha => exact yhc
    case h => (first | exact h1 .. | exact h2 .. | exact n3 .. | exact a3 ..))
 | (apply cl_lend
    case hr => exact yhd
    case ha => exact yhc
    case hs => rfl
    case hn => decide
    case h => (first | exact h1 .. | exact h2 .. | exact n3 .. | exact a3 ..)
    case hf => exact yhb
    case hl => exact yhf)
 | ((first | refine s1_id ?_ | refine swp_id ?_ | refine sops_id ?_ | refine s2_id ?_); simp only [decide_eq_true c, decide_eq_true am, lendY, dice, zao, zap, zad, zaq, zar, zal, zam, zak, zas, zay, zag, zai, go_sem, zaa, zau, zav, zaw, zaz, zan, ↓reduceIte, reduceCtorEq, zaf, zaj, zaA, zaB, zaC, zaQ, zaV, zaJ, zaO, renO, bk, back, outUpsFrom, Ints_ren])
 | exact yha | fail)
 refine cd_cut1 ⟨[(0, dp), (6, .one (.optr 1 0)), (7, .one (.optr 2 0)), (9, i1 (m + 1 : Nat))], [(0, some (dice L jb)), (1, some ⟨[.sc (.slice none 0 0), int 0, .sc (.slice none 0 0), int 0], 4⟩), (2, some ⟨[.gsl (Cs l2) 0 l2.length none, int n2, .gsl (Cs T2) 0 T2.length none, int h2'], 4⟩)], 3⟩ (fun hc => ?_) (fun hc => ?_) ?_
 · have hc := of_decide_eq_true hc
   rw [if_pos hc] at hS1
   simp only [Prod.mk.injEq] at hS1
   obtain ⟨rfl, rfl, rfl, rfl⟩ := hS1
   simp only [go_sem, zaa, zau, zav, zaw, zaz, zan, ↓reduceIte, reduceCtorEq, zaf, zaj, zaA, zaB, zaC, decide_eq_true hc, lendY, dice, zao, zap, zad, zaq, zar, zal, zam, zak, zas, zay, zag, zai]
   repeat' (first
 | exact yha | fail)
   refine ⟨_, ?_, rfl⟩
   (refine imp_ren _ _ _ [(0, 0, dice L jb), (1, 1, ⟨[.sc (.slice none 0 0), int 0, .sc (.slice none 0 0), int 0], 4⟩), (2, 2, ⟨[.gsl (Cs l1) 0 l1.length none, int n1, .gsl (Cs T1) 0 T1.length none, int h1'], 4⟩)] (by simp) (by simp) (by simp) (zaI rfl) ?_ rfl (by simp only [zab, zac, false_implies, implies_true, and_true, zaP, lookR, zaa, if_true, if_false, ↓reduceIte, dice] <;> (repeat' apply zaG) <;> (first | rfl | trivial)) (by simp only [zab, zac, false_implies, implies_true, and_true, true_and, flat_cons, flat_nil, flat_ints, flat_bools, flat_app, zaK, and_self, eq_self_iff_true, zad, dice]); simp only [zae, zah, zab, zac, false_implies, implies_true, and_true, lk, slot, zaQ, zaJ, toN, zaa, if_true, if_false, ↓reduceIte, reduceCtorEq])
   all_goals ((repeat' apply zaG) <;> (first | rfl | trivial))
 · have hc := of_decide_eq_false hc
   rw [if_neg hc] at hS1
   simp only [Prod.mk.injEq] at hS1
   obtain ⟨rfl, rfl, rfl, rfl⟩ := hS1
   simp only [go_sem, zaa, zau, zav, zaw, zaz, zan, ↓reduceIte, reduceCtorEq, zaf, zaj, zaA, zaB, zaC, decide_eq_false hc, lendY, dice, zao, zap, zad, zaq, zar, zal, zam, zak, zas, zay, zag, zai]
   repeat' (first
 | exact yha | fail)
   refine ⟨_, ?_, rfl⟩
   (refine imp_ren _ _ _ [(0, 0, dice L jb), (1, 1, ⟨[.sc (.slice none 0 0), int 0, .sc (.slice none 0 0), int 0], 4⟩), (2, 2, ⟨[.gsl (Cs l) 0 l.length none, int n, .gsl (Cs T) 0 T.length none, int h], 4⟩)] (by simp) (by simp) (by simp) (zaI rfl) ?_ rfl (by simp only [zab, zac, false_implies, implies_true, and_true, zaP, lookR, zaa, if_true, if_false, ↓reduceIte, dice] <;> (repeat' apply zaG) <;> (first | rfl | trivial)) (by simp only [zab, zac, false_implies, implies_true, and_true, true_and, flat_cons, flat_nil, flat_ints, flat_bools, flat_app, zaK, and_self, eq_self_iff_true, zad, dice]); simp only [zae, zah, zab, zac, false_implies, implies_true, and_true, lk, slot, zaQ, zaJ, toN, zaa, if_true, if_false, ↓reduceIte, reduceCtorEq])
   all_goals ((repeat' apply zaG) <;> (first | rfl | trivial))
 clear hS1 h1 h2 n3 a3 hq am
 have hq1 : HI (l2, n2, T2, h2') := hq1
 have hq2 := sp2_ok L ((l2, n2, T2, h2'), jb) hq1
 obtain ⟨S2, hS2⟩ : ∃ S, sp2 L ((l2, n2, T2, h2'), jb) = S := ⟨_, rfl⟩
 rw [hS2] at hI hq2 hq5
 unfold sp2 at hS2
 simp only at hS2
 have nb := bool_spec L jb 3 hl hr (by decide)
 rw [show (3 : Int) - 1 = 2 from rfl] at nb
 generalize nxA L jb 3 = ja at *
 generalize nxV L jb 3 = v at *
 have tk := dtask_spec L hl hr ja l2 n2 T2 h2' hq1.b.t
 generalize dtV L T2 ja = tt at *
 generalize dtA L T2 ja = jt at *
 have cc := rclone6_spec l2 n2 T2 h2' tt hq1.b.l hq1.b.t hq1.b.nm
 generalize clR l2 n2 T2 h2' tt = E at *
 obtain ⟨⟨el, en, eT, eh⟩, ei, ee⟩ := E
 simp only at cc hS2
 obtain ⟨⟨l3, n3', T3, h3'⟩, jc⟩ := S2
 simp only at hq2
 simp only [go_sem, zaa, zau, zav, zaw, zaz, zan, ↓reduceIte, reduceCtorEq, zaf, zaj, zaA, zaB, zaC, lendY, dice, zao, zap, zad, zaq, zar, zal, zam, zak, zas, zay, zag, zai]
 repeat' (first
 | (apply cl_lend
    case hr => exact yhd
    case ha => exact yhc
    case hs => rfl
    case hn => decide
    case h => (first | exact nb ..)
    case hf => exact yhb
    case hl => exact yhf)
 | ((first | refine s1_id ?_ | refine swp_id ?_ | refine sops_id ?_ | refine s2_id ?_); simp only [lendY, dice, zao, zap, zad, zaq, zar, zal, zam, zak, zas, zay, zag, zai, go_sem, zaa, zau, zav, zaw, zaz, zan, ↓reduceIte, reduceCtorEq, zaf, zaj, zaA, zaB, zaC, zaQ, zaV, zaJ, zaO, renO, bk, back, outUpsFrom, Ints_ren])
 | exact yha | fail)
 refine cd_cut1 ⟨[(0, dp), (6, .one (.optr 1 0)), (7, .one (.optr 2 0)), (9, i1 (m + 1 : Nat))], [(0, some (dice L jc)), (1, some ⟨[.sc (.slice none 0 0), int 0, .sc (.slice none 0 0), int 0], 4⟩), (2, some ⟨[.gsl (Cs l3) 0 l3.length none, int n3', .gsl (Cs T3) 0 T3.length none, int h3'], 4⟩)], 3⟩ (fun hc => ?_) (fun hc => ?_) ?_
 · have hc := of_decide_eq_true hc
   rw [if_pos hc] at hS2
   by_cases d : ee = 0
   · rw [if_pos d] at hS2
     simp only [Prod.mk.injEq] at hS2
     obtain ⟨⟨rfl, rfl, rfl, rfl⟩, rfl⟩ := hS2
     simp only [go_sem, zaa, zau, zav, zaw, zaz, zan, ↓reduceIte, reduceCtorEq, zaf, zaj, zaA, zaB, zaC, decide_eq_true hc, decide_eq_true d, lendY, dice, zao, zap, zad, zaq, zar, zal, zam, zak, zas, zay, zag, zai]
     repeat' (first
 | with_reducible refine zaG ?_ ?_
 | (unfold OKC; kernel_rfl)
 | (unfold EDG; kernel_rfl)
 | (apply cl_plain
    case hs => rfl
    case ha => exact yhc
    case h => exact yhh)
 | (apply cl_lend
    case hr => exact yhd
    case ha => exact yhc
    case hs => rfl
    case hn => decide
    case h => exact yhh
    case hf => exact yhb
    case hl => exact yhf)
 | ((first | refine s1_id ?_ | refine swp_id ?_ | refine sops_id ?_ | refine s2_id ?_); simp only [decide_eq_true hc, decide_eq_true d, lendY, dice, zao, zap, zad, zaq, zar, zal, zam, zak, zas, zay, zag, zai, go_sem, zaa, zau, zav, zaw, zaz, zan, ↓reduceIte, reduceCtorEq, zaf, zaj, zaA, zaB, zaC, zaQ, zaV, zaJ, zaO, renO, bk, back, outUpsFrom, Ints_ren])
 | exact yha | fail)
     refine ⟨_, ?_, rfl⟩
     (refine imp_ren _ _ _ [(0, 0, dice L jt), (1, 1, ⟨[.sc (.slice none 0 0), int 0, .sc (.slice none 0 0), int 0], 4⟩), (2, 2, ⟨[.gsl (Cs el) 0 el.length none, int en, .gsl (Cs eT) 0 eT.length none, int eh], 4⟩)] (by simp) (by simp) (by simp) (zaI rfl) ?_ rfl (by simp only [zab, zac, false_implies, implies_true, and_true, zaP, lookR, zaa, if_true, if_false, ↓reduceIte, dice] <;> (repeat' apply zaG) <;> (first | rfl | trivial)) (by simp only [zab, zac, false_implies, implies_true, and_true, true_and, flat_cons, flat_nil, flat_ints, flat_bools, flat_app, zaK, and_self, eq_self_iff_true, zad, dice]); simp only [zae, zah, zab, zac, false_implies, implies_true, and_true, lk, slot, zaQ, zaJ, toN, zaa, if_true, if_false, ↓reduceIte, reduceCtorEq])
     all_goals ((repeat' apply zaG) <;> (first | rfl | trivial))
   rw [if_neg d] at hS2
   simp only [Prod.mk.injEq] at hS2
   obtain ⟨⟨rfl, rfl, rfl, rfl⟩, rfl⟩ := hS2
   simp only [go_sem, zaa, zau, zav, zaw, zaz, zan, ↓reduceIte, reduceCtorEq, zaf, zaj, zaA, zaB, zaC, decide_eq_true hc, decide_eq_false d, lendY, dice, zao, zap, zad, zaq, zar, zal, zam, zak, zas, zay, zag, zai]
   repeat' (first
 | with_reducible refine zaG ?_ ?_
 | (unfold OKC; kernel_rfl)
 | (unfold EDG; kernel_rfl)
 | (apply cl_plain
    case hs => rfl
    case ha => exact yhc
    case h => exact yhh)
 | (apply cl_lend
    case hr => exact yhd
    case ha => exact yhc
    case hs => rfl
    case hn => decide
    case h => exact yhh
    case hf => exact yhb
    case hl => exact yhf)
 | ((first | refine s1_id ?_ | refine swp_id ?_ | refine sops_id ?_ | refine s2_id ?_); simp only [decide_eq_true hc, decide_eq_false d, lendY, dice, zao, zap, zad, zaq, zar, zal, zam, zak, zas, zay, zag, zai, go_sem, zaa, zau, zav, zaw, zaz, zan, ↓reduceIte, reduceCtorEq, zaf, zaj, zaA, zaB, zaC, zaQ, zaV, zaJ, zaO, renO, bk, back, outUpsFrom, Ints_ren])
 | exact yha | fail)
   refine ⟨_, ?_, rfl⟩
   (refine imp_ren _ _ _ [(0, 0, dice L jt), (1, 1, ⟨[.sc (.slice none 0 0), int 0, .sc (.slice none 0 0), int 0], 4⟩), (2, 2, ⟨[.gsl (Cs l2) 0 l2.length none, int n2, .gsl (Cs T2) 0 T2.length none, int h2'], 4⟩)] (by simp) (by simp) (by simp) (zaI rfl) ?_ rfl (by simp only [zab, zac, false_implies, implies_true, and_true, zaP, lookR, zaa, if_true, if_false, ↓reduceIte, dice] <;> (repeat' apply zaG) <;> (first | rfl | trivial)) (by simp only [zab, zac, false_implies, implies_true, and_true, true_and, flat_cons, flat_nil, flat_ints, flat_bools, flat_app, zaK, and_self, eq_self_iff_true, zad, dice]); simp only [zae, zah, zab, zac, false_implies, implies_true, and_true, lk, slot, zaQ, zaJ, toN, zaa, if_true, if_false, ↓reduceIte, reduceCtorEq])
   all_goals ((repeat' apply zaG) <;> (first | rfl | trivial))
 · have hc := of_decide_eq_false hc
   rw [if_neg hc] at hS2
   simp only [Prod.mk.injEq] at hS2
   obtain ⟨⟨rfl, rfl, rfl, rfl⟩, rfl⟩ := hS2
   simp only [go_sem, zaa, zau, zav, zaw, zaz, zan, ↓reduceIte, reduceCtorEq, zaf, zaj, zaA, zaB, zaC, decide_eq_false hc, lendY, dice, zao, zap, zad, zaq, zar, zal, zam, zak, zas, zay, zag, zai]
   repeat' (first
 | exact yha | fail)
   refine ⟨_, ?_, rfl⟩
   (refine imp_ren _ _ _ [(0, 0, dice L ja), (1, 1, ⟨[.sc (.slice none 0 0), int 0, .sc (.slice none 0 0), int 0], 4⟩), (2, 2, ⟨[.gsl (Cs l2) 0 l2.length none, int n2, .gsl (Cs T2) 0 T2.length none, int h2'], 4⟩)] (by simp) (by simp) (by simp) (zaI rfl) ?_ rfl (by simp only [zab, zac, false_implies, implies_true, and_true, zaP, lookR, zaa, if_true, if_false, ↓reduceIte, dice] <;> (repeat' apply zaG) <;> (first | rfl | trivial)) (by simp only [zab, zac, false_implies, implies_true, and_true, true_and, flat_cons, flat_nil, flat_ints, flat_bools, flat_app, zaK, and_self, eq_self_iff_true, zad, dice]); simp only [zae, zah, zab, zac, false_implies, implies_true, and_true, lk, slot, zaQ, zaJ, toN, zaa, if_true, if_false, ↓reduceIte, reduceCtorEq])
   all_goals ((repeat' apply zaG) <;> (first | rfl | trivial))
 clear hS2 nb tk cc hq1
 have hq2 : HI (l3, n3', T3, h3') := hq2
 have hq3 := sp3_ok L ((l3, n3', T3, h3'), jc) hq2
 obtain ⟨S3, hS3⟩ : ∃ S, sp3 L ((l3, n3', T3, h3'), jc) = S := ⟨_, rfl⟩
 rw [hS3] at hI hq3 hq5
 unfold sp3 at hS3
 simp only at hS3
 have nb := bool_spec L jc 4 hl hr (by decide)
 rw [show (4 : Int) - 1 = 3 from rfl] at nb
 generalize nxA L jc 4 = ja at *
 generalize nxV L jc 4 = v at *
 have tk := dtask_spec L hl hr ja l3 n3' T3 h3' hq2.b.t
 generalize dtV L T3 ja = tt at *
 generalize dtA L T3 ja = jt at *
 have gg := dgroup_spec L hl hr jt l3 n3' hq2.len.1 hq2.len.2
 generalize dgV L l3 jt = g3 at *
 generalize dgA L l3 jt = jg at *
 have cc := r8at_spec l3 n3' T3 h3' tt g3 hq2.b
 generalize atM l3 n3' T3 h3' tt g3 = E at *
 obtain ⟨⟨el, en, eT, eh⟩, ee⟩ := E
 simp only at cc hS3
 obtain ⟨⟨l4, n4, T4, h4'⟩, jd⟩ := S3
 simp only at hq3
 simp only [go_sem, zaa, zau, zav, zaw, zaz, zan, ↓reduceIte, reduceCtorEq, zaf, zaj, zaA, zaB, zaC, lendY, dice, zao, zap, zad, zaq, zar, zal, zam, zak, zas, zay, zag, zai]
 repeat' (first
 | (apply cl_lend
    case hr => exact yhd
    case ha => exact yhc
    case hs => rfl
    case hn => decide
    case h => (first | exact nb ..)
    case hf => exact yhb
    case hl => exact yhf)
 | ((first | refine s1_id ?_ | refine swp_id ?_ | refine sops_id ?_ | refine s2_id ?_); simp only [lendY, dice, zao, zap, zad, zaq, zar, zal, zam, zak, zas, zay, zag, zai, go_sem, zaa, zau, zav, zaw, zaz, zan, ↓reduceIte, reduceCtorEq, zaf, zaj, zaA, zaB, zaC, zaQ, zaV, zaJ, zaO, renO, bk, back, outUpsFrom, Ints_ren])
 | exact yha | fail)
 refine cd_cut1 ⟨[(0, dp), (6, .one (.optr 1 0)), (7, .one (.optr 2 0)), (9, i1 (m + 1 : Nat))], [(0, some (dice L jd)), (1, some ⟨[.sc (.slice none 0 0), int 0, .sc (.slice none 0 0), int 0], 4⟩), (2, some ⟨[.gsl (Cs l4) 0 l4.length none, int n4, .gsl (Cs T4) 0 T4.length none, int h4'], 4⟩)], 3⟩ (fun hc => ?_) (fun hc => ?_) ?_
 · have hc := of_decide_eq_true hc
   rw [if_pos hc] at hS3
   by_cases d : ee = 0
   · rw [if_pos d] at hS3
     simp only [Prod.mk.injEq] at hS3
     obtain ⟨⟨rfl, rfl, rfl, rfl⟩, rfl⟩ := hS3
     simp only [go_sem, zaa, zau, zav, zaw, zaz, zan, ↓reduceIte, reduceCtorEq, zaf, zaj, zaA, zaB, zaC, decide_eq_true hc, decide_eq_true d, lendY, dice, zao, zap, zad, zaq, zar, zal, zam, zak, zas, zay, zag, zai]
     repeat' (first
 | with_reducible refine zaG ?_ ?_
 | (unfold OKC; kernel_rfl)
 | (unfold EDG; kernel_rfl)
 | (apply cl_plain
    case hs => rfl
    case ha => exact yhc
    case h => exact yhi)
 | (apply cl_lend
    case hr => exact yhd
    case ha => exact yhc
    case hs => rfl
    case hn => decide
    case h => exact yhi
    case hf => exact yhb
    case hl => exact yhf)
 | ((first | refine s1_id ?_ | refine swp_id ?_ | refine sops_id ?_ | refine s2_id ?_); simp only [decide_eq_true hc, decide_eq_true d, lendY, dice, zao, zap, zad, zaq, zar, zal, zam, zak, zas, zay, zag, zai, go_sem, zaa, zau, zav, zaw, zaz, zan, ↓reduceIte, reduceCtorEq, zaf, zaj, zaA, zaB, zaC, zaQ, zaV, zaJ, zaO, renO, bk, back, outUpsFrom, Ints_ren])
 | exact yha | fail)
     refine ⟨_, ?_, rfl⟩
     (refine imp_ren _ _ _ [(0, 0, dice L jg), (1, 1, ⟨[.sc (.slice none 0 0), int 0, .sc (.slice none 0 0), int 0], 4⟩), (2, 2, ⟨[.gsl (Cs el) 0 el.length none, int en, .gsl (Cs eT) 0 eT.length none, int eh], 4⟩)] (by simp) (by simp) (by simp) (zaI rfl) ?_ rfl (by simp only [zab, zac, false_implies, implies_true, and_true, zaP, lookR, zaa, if_true, if_false, ↓reduceIte, dice] <;> (repeat' apply zaG) <;> (first | rfl | trivial)) (by simp only [zab, zac, false_implies, implies_true, and_true, true_and, flat_cons, flat_nil, flat_ints, flat_bools, flat_app, zaK, and_self, eq_self_iff_true, zad, dice]); simp only [zae, zah, zab, zac, false_implies, implies_true, and_true, lk, slot, zaQ, zaJ, toN, zaa, if_true, if_false, ↓reduceIte, reduceCtorEq])
     all_goals ((repeat' apply zaG) <;> (first | rfl | trivial))
   rw [if_neg d] at hS3
   simp only [Prod.mk.injEq] at hS3
   obtain ⟨⟨rfl, rfl, rfl, rfl⟩, rfl⟩ := hS3
   simp only [go_sem, zaa, zau, zav, zaw, zaz, zan, ↓reduceIte, reduceCtorEq, zaf, zaj, zaA, zaB, zaC, decide_eq_true hc, decide_eq_false d, lendY, dice, zao, zap, zad, zaq, zar, zal, zam, zak, zas, zay, zag, zai]
   repeat' (first
 | with_reducible refine zaG ?_ ?_
 | (unfold OKC; kernel_rfl)
 | (unfold EDG; kernel_rfl)
 | (apply cl_plain
    case hs => rfl
    case ha => exact yhc
    case h => exact yhi)
 | (apply cl_lend
    case hr => exact yhd
    case ha => exact yhc
    case hs => rfl
    case hn => decide
    case h => exact yhi
    case hf => exact yhb
    case hl => exact yhf)
 | ((first | refine s1_id ?_ | refine swp_id ?_ | refine sops_id ?_ | refine s2_id ?_); simp only [decide_eq_true hc, decide_eq_false d, lendY, dice, zao, zap, zad, zaq, zar, zal, zam, zak, zas, zay, zag, zai, go_sem, zaa, zau, zav, zaw, zaz, zan, ↓reduceIte, reduceCtorEq, zaf, zaj, zaA, zaB, zaC, zaQ, zaV, zaJ, zaO, renO, bk, back, outUpsFrom, Ints_ren])
 | exact yha | fail)
   refine ⟨_, ?_, rfl⟩
   (refine imp_ren _ _ _ [(0, 0, dice L jg), (1, 1, ⟨[.sc (.slice none 0 0), int 0, .sc (.slice none 0 0), int 0], 4⟩), (2, 2, ⟨[.gsl (Cs l3) 0 l3.length none, int n3', .gsl (Cs T3) 0 T3.length none, int h3'], 4⟩)] (by simp) (by simp) (by simp) (zaI rfl) ?_ rfl (by simp only [zab, zac, false_implies, implies_true, and_true, zaP, lookR, zaa, if_true, if_false, ↓reduceIte, dice] <;> (repeat' apply zaG) <;> (first | rfl | trivial)) (by simp only [zab, zac, false_implies, implies_true, and_true, true_and, flat_cons, flat_nil, flat_ints, flat_bools, flat_app, zaK, and_self, eq_self_iff_true, zad, dice]); simp only [zae, zah, zab, zac, false_implies, implies_true, and_true, lk, slot, zaQ, zaJ, toN, zaa, if_true, if_false, ↓reduceIte, reduceCtorEq])
   all_goals ((repeat' apply zaG) <;> (first | rfl | trivial))
 · have hc := of_decide_eq_false hc
   rw [if_neg hc] at hS3
   simp only [Prod.mk.injEq] at hS3
   obtain ⟨⟨rfl, rfl, rfl, rfl⟩, rfl⟩ := hS3
   simp only [go_sem, zaa, zau, zav, zaw, zaz, zan, ↓reduceIte, reduceCtorEq, zaf, zaj, zaA, zaB, zaC, decide_eq_false hc, lendY, dice, zao, zap, zad, zaq, zar, zal, zam, zak, zas, zay, zag, zai]
   repeat' (first
 | exact yha | fail)
   refine ⟨_, ?_, rfl⟩
   (refine imp_ren _ _ _ [(0, 0, dice L ja), (1, 1, ⟨[.sc (.slice none 0 0), int 0, .sc (.slice none 0 0), int 0], 4⟩), (2, 2, ⟨[.gsl (Cs l3) 0 l3.length none, int n3', .gsl (Cs T3) 0 T3.length none, int h3'], 4⟩)] (by simp) (by simp) (by simp) (zaI rfl) ?_ rfl (by simp only [zab, zac, false_implies, implies_true, and_true, zaP, lookR, zaa, if_true, if_false, ↓reduceIte, dice] <;> (repeat' apply zaG) <;> (first | rfl | trivial)) (by simp only [zab, zac, false_implies, implies_true, and_true, true_and, flat_cons, flat_nil, flat_ints, flat_bools, flat_app, zaK, and_self, eq_self_iff_true, zad, dice]); simp only [zae, zah, zab, zac, false_implies, implies_true, and_true, lk, slot, zaQ, zaJ, toN, zaa, if_true, if_false, ↓reduceIte, reduceCtorEq])
   all_goals ((repeat' apply zaG) <;> (first | rfl | trivial))
 clear hS3 nb tk cc gg hq2
 have hq3 : HI (l4, n4, T4, h4') := hq3
 have hq4 := sp4_ok L ((l4, n4, T4, h4'), jd) hq3
 obtain ⟨S4, hS4⟩ : ∃ S, sp4 L ((l4, n4, T4, h4'), jd) = S := ⟨_, rfl⟩
 rw [hS4] at hI hq4 hq5
 unfold sp4 at hS4
 simp only at hS4
 have nb := bool_spec L jd 8 hl hr (by decide)
 rw [show (8 : Int) - 1 = 7 from rfl] at nb
 generalize nxA L jd 8 = ja at *
 generalize nxV L jd 8 = v at *
 have tk := dtask_spec L hl hr ja l4 n4 T4 h4' hq3.b.t
 generalize dtV L T4 ja = tt at *
 generalize dtA L T4 ja = jt at *
 have cc := rexit6_spec l4 n4 T4 h4' tt hq3.b.l hq3.b.t hq3.b.nm
 generalize exR l4 n4 T4 h4' tt = E at *
 obtain ⟨⟨el, en, eT, eh⟩, ee⟩ := E
 simp only at cc hS4
 obtain ⟨⟨l5, n5, T5, h5'⟩, je⟩ := S4
 simp only at hq4
 simp only [go_sem, zaa, zau, zav, zaw, zaz, zan, ↓reduceIte, reduceCtorEq, zaf, zaj, zaA, zaB, zaC, lendY, dice, zao, zap, zad, zaq, zar, zal, zam, zak, zas, zay, zag, zai]
 repeat' (first
 | (apply cl_lend
    case hr => exact yhd
    case ha => exact yhc
    case hs => rfl
    case hn => decide
    case h => (first | exact nb ..)
    case hf => exact yhb
    case hl => exact yhf)
 | ((first | refine s1_id ?_ | refine swp_id ?_ | refine sops_id ?_ | refine s2_id ?_); simp only [lendY, dice, zao, zap, zad, zaq, zar, zal, zam, zak, zas, zay, zag, zai, go_sem, zaa, zau, zav, zaw, zaz, zan, ↓reduceIte, reduceCtorEq, zaf, zaj, zaA, zaB, zaC, zaQ, zaV, zaJ, zaO, renO, bk, back, outUpsFrom, Ints_ren])
 | exact yha | fail)
 refine cd_cut1 ⟨[(0, dp), (6, .one (.optr 1 0)), (7, .one (.optr 2 0)), (9, i1 (m + 1 : Nat))], [(0, some (dice L je)), (1, some ⟨[.sc (.slice none 0 0), int 0, .sc (.slice none 0 0), int 0], 4⟩), (2, some ⟨[.gsl (Cs l5) 0 l5.length none, int n5, .gsl (Cs T5) 0 T5.length none, int h5'], 4⟩)], 3⟩ (fun hc => ?_) (fun hc => ?_) ?_
 · have hc := of_decide_eq_true hc
   rw [if_pos hc] at hS4
   by_cases d : ee = 0
   · rw [if_pos d] at hS4
     simp only [Prod.mk.injEq] at hS4
     obtain ⟨⟨rfl, rfl, rfl, rfl⟩, rfl⟩ := hS4
     simp only [go_sem, zaa, zau, zav, zaw, zaz, zan, ↓reduceIte, reduceCtorEq, zaf, zaj, zaA, zaB, zaC, decide_eq_true hc, decide_eq_true d, lendY, dice, zao, zap, zad, zaq, zar, zal, zam, zak, zas, zay, zag, zai]
     repeat' (first
 | with_reducible refine zaG ?_ ?_
 | (unfold OKC; kernel_rfl)
 | (unfold EDG; kernel_rfl)
 | (apply cl_plain
    case hs => rfl
    case ha => exact yhc
    case h => exact yhh)
 | (apply cl_lend
    case hr => exact yhd
    case ha => exact yhc
    case hs => rfl
    case hn => decide
    case h => exact yhh
    case hf => exact yhb
    case hl => exact yhf)
 | ((first | refine s1_id ?_ | refine swp_id ?_ | refine sops_id ?_ | refine s2_id ?_); simp only [decide_eq_true hc, decide_eq_true d, lendY, dice, zao, zap, zad, zaq, zar, zal, zam, zak, zas, zay, zag, zai, go_sem, zaa, zau, zav, zaw, zaz, zan, ↓reduceIte, reduceCtorEq, zaf, zaj, zaA, zaB, zaC, zaQ, zaV, zaJ, zaO, renO, bk, back, outUpsFrom, Ints_ren])
 | exact yha | fail)
     refine ⟨_, ?_, rfl⟩
     (refine imp_ren _ _ _ [(0, 0, dice L jt), (1, 1, ⟨[.sc (.slice none 0 0), int 0, .sc (.slice none 0 0), int 0], 4⟩), (2, 2, ⟨[.gsl (Cs el) 0 el.length none, int en, .gsl (Cs eT) 0 eT.length none, int eh], 4⟩)] (by simp) (by simp) (by simp) (zaI rfl) ?_ rfl (by simp only [zab, zac, false_implies, implies_true, and_true, zaP, lookR, zaa, if_true, if_false, ↓reduceIte, dice] <;> (repeat' apply zaG) <;> (first | rfl | trivial)) (by simp only [zab, zac, false_implies, implies_true, and_true, true_and, flat_cons, flat_nil, flat_ints, flat_bools, flat_app, zaK, and_self, eq_self_iff_true, zad, dice]); simp only [zae, zah, zab, zac, false_implies, implies_true, and_true, lk, slot, zaQ, zaJ, toN, zaa, if_true, if_false, ↓reduceIte, reduceCtorEq])
     all_goals ((repeat' apply zaG) <;> (first | rfl | trivial))
   rw [if_neg d] at hS4
   simp only [Prod.mk.injEq] at hS4
   obtain ⟨⟨rfl, rfl, rfl, rfl⟩, rfl⟩ := hS4
   simp only [go_sem, zaa, zau, zav, zaw, zaz, zan, ↓reduceIte, reduceCtorEq, zaf, zaj, zaA, zaB, zaC, decide_eq_true hc, decide_eq_false d, lendY, dice, zao, zap, zad, zaq, zar, zal, zam, zak, zas, zay, zag, zai]
   repeat' (first
 | with_reducible refine zaG ?_ ?_
 | (unfold OKC; kernel_rfl)
 | (unfold EDG; kernel_rfl)
 | (apply cl_plain
    case hs => rfl
    case ha => exact yhc
    case h => exact yhh)
 | (apply cl_lend
    case hr => exact yhd
    case ha => exact yhc
    case hs => rfl
    case hn => decide
    case h => exact yhh
    case hf => exact yhb
    case hl => exact yhf)
 | ((first | refine s1_id ?_ | refine swp_id ?_ | refine sops_id ?_ | refine s2_id ?_); simp only [decide_eq_true hc, decide_eq_false d, lendY, dice, zao, zap, zad, zaq, zar, zal, zam, zak, zas, zay, zag, zai, go_sem, zaa, zau, zav, zaw, zaz, zan, ↓reduceIte, reduceCtorEq, zaf, zaj, zaA, zaB, zaC, zaQ, zaV, zaJ, zaO, renO, bk, back, outUpsFrom, Ints_ren])
 | exact yha | fail)
   refine ⟨_, ?_, rfl⟩
   (refine imp_ren _ _ _ [(0, 0, dice L jt), (1, 1, ⟨[.sc (.slice none 0 0), int 0, .sc (.slice none 0 0), int 0], 4⟩), (2, 2, ⟨[.gsl (Cs l4) 0 l4.length none, int n4, .gsl (Cs T4) 0 T4.length none, int h4'], 4⟩)] (by simp) (by simp) (by simp) (zaI rfl) ?_ rfl (by simp only [zab, zac, false_implies, implies_true, and_true, zaP, lookR, zaa, if_true, if_false, ↓reduceIte, dice] <;> (repeat' apply zaG) <;> (first | rfl | trivial)) (by simp only [zab, zac, false_implies, implies_true, and_true, true_and, flat_cons, flat_nil, flat_ints, flat_bools, flat_app, zaK, and_self, eq_self_iff_true, zad, dice]); simp only [zae, zah, zab, zac, false_implies, implies_true, and_true, lk, slot, zaQ, zaJ, toN, zaa, if_true, if_false, ↓reduceIte, reduceCtorEq])
   all_goals ((repeat' apply zaG) <;> (first | rfl | trivial))
 · have hc := of_decide_eq_false hc
   rw [if_neg hc] at hS4
   simp only [Prod.mk.injEq] at hS4
   obtain ⟨⟨rfl, rfl, rfl, rfl⟩, rfl⟩ := hS4
   simp only [go_sem, zaa, zau, zav, zaw, zaz, zan, ↓reduceIte, reduceCtorEq, zaf, zaj, zaA, zaB, zaC, decide_eq_false hc, lendY, dice, zao, zap, zad, zaq, zar, zal, zam, zak, zas, zay, zag, zai]
   repeat' (first
 | exact yha | fail)
   refine ⟨_, ?_, rfl⟩
   (refine imp_ren _ _ _ [(0, 0, dice L ja), (1, 1, ⟨[.sc (.slice none 0 0), int 0, .sc (.slice none 0 0), int 0], 4⟩), (2, 2, ⟨[.gsl (Cs l4) 0 l4.length none, int n4, .gsl (Cs T4) 0 T4.length none, int h4'], 4⟩)] (by simp) (by simp) (by simp) (zaI rfl) ?_ rfl (by simp only [zab, zac, false_implies, implies_true, and_true, zaP, lookR, zaa, if_true, if_false, ↓reduceIte, dice] <;> (repeat' apply zaG) <;> (first | rfl | trivial)) (by simp only [zab, zac, false_implies, implies_true, and_true, true_and, flat_cons, flat_nil, flat_ints, flat_bools, flat_app, zaK, and_self, eq_self_iff_true, zad, dice]); simp only [zae, zah, zab, zac, false_implies, implies_true, and_true, lk, slot, zaQ, zaJ, toN, zaa, if_true, if_false, ↓reduceIte, reduceCtorEq])
   all_goals ((repeat' apply zaG) <;> (first | rfl | trivial))
 clear hS4 nb tk cc hq3
 simp only [go_sem, zaa, zau, zav, zaw, zaz, zan, ↓reduceIte, reduceCtorEq, zaf, zaj, zaA, zaB, zaC, e2, lendY, dice, zao, zap, zad, zaq, zar, zal, zam, zak, zas, zay, zag, zai]
 repeat' (first
 | with_reducible refine zaG ?_ ?_
 | exact yhg
 | exact yha | fail)
 refine le_mk (m, ((l5, n5, T5, h5'), je)) ?_ ⟨hI, hq4, by omega⟩ (by show m < m + 1; omega)
 (refine imp_ren _ _ _ [(0, 0, dice L je), (1, 1, ⟨[.sc (.slice none 0 0), int 0, .sc (.slice none 0 0), int 0], 4⟩), (2, 2, ⟨[.gsl (Cs l5) 0 l5.length none, int n5, .gsl (Cs T5) 0 T5.length none, int h5'], 4⟩)] (by simp) (by simp) (by simp) (zaI rfl) ?_ rfl (by simp only [zab, zac, false_implies, implies_true, and_true, zaP, lookR, zaa, if_true, if_false, ↓reduceIte, dice] <;> (repeat' apply zaG) <;> (first | rfl | trivial)) (by simp only [zab, zac, false_implies, implies_true, and_true, true_and, flat_cons, flat_nil, flat_ints, flat_bools, flat_app, zaK, and_self, eq_self_iff_true, zad, dice]); simp only [zae, zah, zab, zac, false_implies, implies_true, and_true, lk, slot, zaQ, zaJ, toN, zaa, if_true, if_false, ↓reduceIte, reduceCtorEq])
 all_goals ((repeat' apply zaG) <;> (first | rfl | trivial))
abbrev KL := List (Int × List Int)
def mcN : List Nat → KL → List Cell
  | n :: ns, x :: r => int x.1 :: .osl n 0 x.2.length none :: mcN ns r
  | _, _ => []
def mrN : List Nat → KL → List (Nat × Option Row)
  | n :: ns, x :: r => (n, some ⟨Ints x.2, 1⟩) :: mrN ns r
  | _, _ => []
def gcN : KL → List Cell
  | [] => []
  | x :: r => int x.1 :: .gsl (Ints x.2) 0 x.2.length none :: gcN r
theorem mcN_app : ∀ {ns : List Nat} {ks : KL}, ns.length = ks.length → ∀ (ns' : List Nat) (ks' : KL), mcN (ns ++ ns') (ks ++ ks') = mcN ns ks ++ mcN ns' ks'
  | [], [], _, _, _ => rfl
  | n :: ns, x :: r, h, ns', ks' => by
    show int x.1 :: .osl n 0 x.2.length none :: mcN (ns ++ ns') (r ++ ks') = _
    rw [mcN_app (by simpa using h) ns' ks']; rfl
theorem mrN_app : ∀ {ns : List Nat} {ks : KL}, ns.length = ks.length → ∀ (ns' : List Nat) (ks' : KL), mrN (ns ++ ns') (ks ++ ks') = mrN ns ks ++ mrN ns' ks'
  | [], [], _, _, _ => rfl
  | n :: ns, x :: r, h, ns', ks' => by
    show (n, _) :: mrN (ns ++ ns') (r ++ ks') = _
    rw [mrN_app (by simpa using h) ns' ks']; rfl
theorem keyEq_i (a b : Int) : keyEq (.int .i64 a) (.int .i64 b) = (a == b) := rfl
theorem mkeys_mcN : ∀ (ns : List Nat) (ks : KL), mkeys (.int .i64) (mcN ns ks) = true
  | [], ks => by cases ks <;> rfl
  | _ :: _, [] => rfl
  | n :: ns, x :: r => by
    show (keyB (.int .i64) (.int .i64 x.1) && mkeys (.int .i64) (mcN ns r)) = true
    rw [mkeys_mcN ns r]; rfl
theorem mget_none {p : Int} : ∀ (ns : List Nat) (ks : KL), (∀ x ∈ ks, x.1 ≠ p) → mget (.int .i64 p) (mcN ns ks) = none
  | [], ks, _ => by cases ks <;> rfl
  | _ :: _, [], _ => rfl
  | n :: ns, x :: r, h => by
    show (if keyEq (.int .i64 p) (.int .i64 x.1) = true then _ else mget (.int .i64 p) (mcN ns r)) = none
    rw [keyEq_i, if_neg (by simpa using fun e => h x zaU e.symm)]
    exact mget_none ns r (fun y hy => h y (zaN _ hy))
theorem mget_at {p : Int} (c : Cell) (D : List Cell) : ∀ (ns : List Nat) (ks : KL), (∀ x ∈ ks, x.1 ≠ p) → mget (.int .i64 p) (mcN ns ks ++ int p :: c :: D) = some c
  | [], ks, _ => by
    have : mcN [] ks = [] := by cases ks <;> rfl
    rw [this]
    show (if keyEq (.int .i64 p) (.int .i64 p) = true then _ else _) = _
    rw [keyEq_i, if_pos (by simp)]
  | _ :: _, [], _ => by
    show (if keyEq (.int .i64 p) (.int .i64 p) = true then _ else _) = _
    rw [keyEq_i, if_pos (by simp)]
  | n :: ns, x :: r, h => by
    show (if keyEq (.int .i64 p) (.int .i64 x.1) = true then _ else mget (.int .i64 p) (mcN ns r ++ int p :: c :: D)) = some c
    rw [keyEq_i, if_neg (by simpa using fun e => h x zaU e.symm)]
    exact mget_at c D ns r (fun y hy => h y (zaN _ hy))
theorem mset_new {p : Int} (c : Cell) : ∀ (ns : List Nat) (ks : KL), ns.length = ks.length → (∀ x ∈ ks, x.1 ≠ p) → mset (.int .i64 p) c (mcN ns ks) = mcN ns ks ++ [int p, c]
  | [], [], _, _ => rfl
  | n :: ns, x :: r, hl, h => by
    show (if keyEq (.int .i64 p) (.int .i64 x.1) = true then _ else int x.1 :: .osl n 0 x.2.length none :: mset (.int .i64 p) c (mcN ns r)) = _
    rw [keyEq_i, if_neg (by simpa using fun e => h x zaU e.symm), mset_new c ns r (by simpa using hl) (fun y hy => h y (zaN _ hy))]
    rfl
theorem mset_at {p : Int} (c d : Cell) (D : List Cell) : ∀ (ns : List Nat) (ks : KL), ns.length = ks.length → (∀ x ∈ ks, x.1 ≠ p) → mset (.int .i64 p) c (mcN ns ks ++ int p :: d :: D) = mcN ns ks ++ int p :: c :: D
  | [], [], _, _ => by
    show (if keyEq (.int .i64 p) (.int .i64 p) = true then _ else _) = _
    rw [keyEq_i, if_pos (by simp)]; rfl
  | n :: ns, x :: r, hl, h => by
    show (if keyEq (.int .i64 p) (.int .i64 x.1) = true then _ else int x.1 :: .osl n 0 x.2.length none :: mset (.int .i64 p) c (mcN ns r ++ int p :: d :: D)) = _
    rw [keyEq_i, if_neg (by simpa using fun e => h x zaU e.symm), mset_at c d D ns r (by simpa using hl) (fun y hy => h y (zaN _ hy))]
    rfl
theorem lookR_mrN_out {r : Nat} : ∀ {ns : List Nat} {ks : KL}, ¬ r ∈ ns → lookR r (mrN ns ks) = none
  | [], ks, _ => by cases ks <;> rfl
  | _ :: _, [], _ => rfl
  | n :: ns, x :: ks, h => by
    show (if n = r then _ else lookR r (mrN ns ks)) = none
    rw [if_neg (fun e => h (by rw [e]; exact zaU))]
    exact lookR_mrN_out (fun hm => h (zaN _ hm))
theorem lookR_app {r : Nat} : ∀ (A B : List (Nat × Option Row)), (∀ p ∈ A, p.1 ≠ r) → lookR r (A ++ B) = lookR r B
  | [], B, _ => rfl
  | (j, x) :: A, B, h => by
    show (if j = r then x else lookR r (A ++ B)) = _
    rw [if_neg (h _ zaU)]
    exact lookR_app A B (fun p hp => h p (zaN _ hp))
theorem mrN_fst : ∀ {ns : List Nat} {ks : KL}, ∀ p ∈ mrN ns ks, p.1 ∈ ns
  | [], ks, p, hp => by cases ks <;> cases hp
  | _ :: _, [], p, hp => by cases hp
  | n :: ns, x :: ks, p, hp => by
    rcases List.mem_cons.1 hp with rfl | hp
    · exact zaU
    · exact zaN _ (mrN_fst p hp)
theorem mrN_at {r : Nat} {L : List Int} {p : Int} {B : KL} {nb : List Nat} : ∀ {ns : List Nat} {ks : KL}, ns.length = ks.length → ¬ r ∈ ns → lookR r (mrN (ns ++ r :: nb) (ks ++ (p, L) :: B)) = some ⟨Ints L, 1⟩ := fun {ns ks} hl h => by
  rw [mrN_app hl, lookR_app (mrN ns ks) _ (fun q hq e => h (by rw [← e]; exact mrN_fst q hq))]
  show (if r = r then _ else _) = _
  rw [if_pos rfl]
def RowsAt (f : Nat → Option Row) : List Nat → KL → Prop
  | n :: ns, x :: r => f n = some ⟨Ints x.2, 1⟩ ∧ RowsAt f ns r
  | [], [] => True
  | _, _ => False
theorem RowsAt.app {f : Nat → Option Row} {ms : List Nat} {B : KL} (h2 : RowsAt f ms B) : ∀ {ns : List Nat} {A : KL}, RowsAt f ns A → RowsAt f (ns ++ ms) (A ++ B)
  | [], [], _ => h2
  | _ :: _, _ :: _, h => ⟨h.1, RowsAt.app h2 h.2⟩
theorem RowsAt.mono {f g : Nat → Option Row} : ∀ {ns : List Nat} {A : KL}, (∀ n ∈ ns, g n = f n) → RowsAt f ns A → RowsAt g ns A
  | [], [], _, _ => trivial
  | n :: ns, _ :: _, h, hr => ⟨by rw [h n zaU]; exact hr.1, RowsAt.mono (fun m hm => h m (zaN _ hm)) hr.2⟩
theorem RowsAt.of {ns : List Nat} {ks : KL} (hl : ns.length = ks.length) (hn : ns.Nodup) : RowsAt (fun r => lookR r (mrN ns ks)) ns ks := by
 induction ns generalizing ks with
 | nil => cases ks with
   | nil => trivial
   | cons x r => cases hl
 | cons n ns ih => cases ks with
   | nil => cases hl
   | cons x r =>
     rw [zaZ] at hn
     refine ⟨if_pos rfl, RowsAt.mono (fun m hm => ?_) (ih (ks := r) (by simpa using hl) hn.2)⟩
     show (if n = m then _ else lookR m (mrN ns r)) = _
     rw [if_neg (fun e => hn.1 (by rw [e]; exact hm))]
theorem imp_hp (k : Nat) (tm : List (Nat × SV)) (h1 h2 : List (Nat × Option Row)) (nx : Nat) (h : ∀ r, lookR r h1 = lookR r h2) : Imp k ⟨tm, h1, nx⟩ ⟨tm, h2, nx⟩ := by
 intro P w0 A N a w m π hk hr
 refine ⟨m, π, ?_⟩
 have e : zaP ⟨tm, h2, nx⟩ = zaP ⟨tm, h1, nx⟩ := by funext r; exact (h r).symm
 rw [e]
 exact hr
theorem imp_kl {k : Nat} {s : St} (hk : k = 0) (tm : List (Nat × SV)) (ms ns : List Nat) (ks : KL) (N : Nat) (hl : ns.length = ks.length) (hl2 : ms.length = ks.length) (hn : (0 :: ns).Nodup) (hm : (0 :: ms).Nodup) (hlt : ∀ m ∈ ms, m < N) (h0 : s.hpF 0 = some ⟨mcN ns ks, 0⟩) (hr : RowsAt s.hpF ns ks) (ht : ∀ x ∈ tm, lk s ((0, 0) :: ms.zip ns) x.1 = some x.2) (hN : 0 < N) : Imp k s ⟨tm, (0, some ⟨mcN ms ks, 0⟩) :: mrN ms ks, N⟩ := by
 subst hk
 have hz1 : (ms.zip ns).map (·.1) = ms := List.map_fst_zip (by omega)
 have hz2 : (ms.zip ns).map (·.2) = ns := List.map_snd_zip (by omega)
 have htn : ∀ p ∈ ms.zip ns, toN ((0, 0) :: ms.zip ns) p.2 = some p.1 := fun p hp => toN_of (by rw [zae, hz2]; exact hn) (zaN _ hp)
 refine imp_sub 0 s _ ((0, 0) :: ms.zip ns) (by rw [zae, hz1]; exact hm) (by rw [zae, hz2]; exact hn) ?_ (Nat.zero_le _) ht ?_ ?_
 · intro p hp
   refine ⟨?_, fun h => absurd h (Nat.not_lt_zero _)⟩
   rcases List.mem_cons.1 hp with rfl | hp
   · exact hN
   · exact hlt _ (by rw [← hz1]; exact List.mem_map_of_mem hp)
 · have hc : ∀ (ms' ns' : List Nat) (ks' : KL), ms'.length = ks'.length → ns'.length = ks'.length → (∀ p ∈ ms'.zip ns', toN ((0, 0) :: ms.zip ns) p.2 = some p.1) → (mcN ns' ks').map (zaJ (toN ((0, 0) :: ms.zip ns))) = mcN ms' ks' := by
     intro ms' ns' ks'
     induction ks' generalizing ms' ns' with
     | nil =>
       intro a b _
       rw [List.length_eq_zero_iff.1 a, List.length_eq_zero_iff.1 b]; rfl
     | cons x r ih =>
       intro a b c
       cases ms' with
       | nil => cases a
       | cons m ms' => cases ns' with
         | nil => cases b
         | cons n ns' =>
           show (int x.1).ren _ :: (Cell.osl n 0 x.2.length none).ren _ :: (mcN ns' r).map _ = _
           rw [ih ms' ns' (by simpa using a) (by simpa using b) (fun p hp => c p (zaN _ hp))]
           have := c (m, n) zaU
           simp only at this
           simp only [zaJ, this]
           rfl
   have hrr : ∀ (ms' ns' : List Nat) (ks' : KL), ms'.length = ks'.length → RowsAt s.hpF ns' ks' → mrN ms' ks' = (ms'.zip ns').map fun p => (p.1, renO (toN ((0, 0) :: ms.zip ns)) (s.hpF p.2)) := by
     intro ms' ns' ks'
     induction ks' generalizing ms' ns' with
     | nil =>
       intro a _
       rw [List.length_eq_zero_iff.1 a]; rfl
     | cons x r ih =>
       intro a b
       cases ms' with
       | nil => cases a
       | cons m ms' => cases ns' with
         | nil => exact b.elim
         | cons n ns' =>
           show (m, some ⟨Ints x.2, 1⟩) :: mrN ms' r = (m, renO _ (s.hpF n)) :: _
           rw [ih ms' ns' (by simpa using a) b.2, b.1]
           simp only [renO, zaO, Ints_ren]
           rfl
   show (0, some ⟨mcN ms ks, 0⟩) :: mrN ms ks = (0, renO _ (s.hpF 0)) :: _
   rw [hrr ms ns ks hl2 hr, h0]
   simp only [renO, zaO, hc ms ns ks hl2 hl htn]
 · intro p hp row hrow c hc q hq
   have hin : ∀ n, n ∈ 0 :: ns → (toN ((0, 0) :: ms.zip ns) n).isSome = true := by
     intro n hn'
     rcases List.mem_cons.1 hn' with rfl | hn'
     · rfl
     · rw [← hz2] at hn'
       obtain ⟨p, hp, rfl⟩ := List.mem_map.1 hn'
       rw [htn p hp]; rfl
   have hcells : ∀ (ns' : List Nat) (ks' : KL), (∀ n ∈ ns', n ∈ ns) → ∀ c ∈ mcN ns' ks', ∀ q ∈ c.refs, q ∈ ns := by
     intro ns' ks'
     induction ks' generalizing ns' with
     | nil => intro _ c hc; cases ns' <;> cases hc
     | cons x r ih =>
       cases ns' with
       | nil => intro _ c hc; cases hc
       | cons n ns' =>
         intro h c hc q hq
         rcases List.mem_cons.1 hc with rfl | hc
         · cases hq
         rcases List.mem_cons.1 hc with rfl | hc
         · rw [List.mem_singleton.1 hq]; exact h n zaU
         · exact ih ns' (fun m hm => h m (zaN _ hm)) c hc q hq
   have hrows : ∀ (ns' : List Nat) (ks' : KL), RowsAt s.hpF ns' ks' → ∀ n ∈ ns', ∃ L, s.hpF n = some ⟨Ints L, 1⟩ := by
     intro ns' ks'
     induction ks' generalizing ns' with
     | nil => intro h n hn; cases ns' with
       | nil => cases hn
       | cons _ _ => exact h.elim
     | cons x r ih =>
       cases ns' with
       | nil => intro h; exact h.elim
       | cons m ns' =>
         intro h n hn
         rcases List.mem_cons.1 hn with rfl | hn
         · exact ⟨_, h.1⟩
         · exact ih ns' h.2 n hn
   rcases List.mem_cons.1 hp with rfl | hp
   · rw [h0] at hrow
     cases hrow
     exact hin q (zaN _ (hcells ns ks (fun _ h => h) c hc q hq))
   · obtain ⟨L, hL⟩ := hrows ns ks hr p.2 (by rw [← hz2]; exact List.mem_map_of_mem hp)
     rw [hL] at hrow
     cases hrow
     exact absurd hq (by intro hq; exact Ints_refs _ c hc (fun _ => False) q hq)
theorem gcN_g : ∀ (ks : KL), ∀ c ∈ gcN ks, c.isG = true
  | [], c, h => by cases h
  | x :: r, c, h => by
    rcases List.mem_cons.1 h with rfl | h
    · rfl
    rcases List.mem_cons.1 h with rfl | h
    · rfl
    exact gcN_g r c h
theorem gcN_app (a b : KL) : gcN (a ++ b) = gcN a ++ gcN b := by
 induction a with
 | nil => rfl
 | cons x r ih => show _ :: _ :: gcN (r ++ b) = _; rw [ih]; rfl
theorem mcN_frz {r : Nat} {cs : List Cell} : ∀ (ns : List Nat) (ks : KL), ¬ r ∈ ns → (mcN ns ks).map (zaX r cs) = mcN ns ks
  | [], ks, _ => by cases ks <;> rfl
  | _ :: _, [], _ => rfl
  | n :: ns, x :: ks, h => by
    show (int x.1).frz r cs :: (Cell.osl n 0 x.2.length none).frz r cs :: (mcN ns ks).map _ = _
    rw [mcN_frz ns ks (fun hm => h (zaN _ hm))]
    simp only [zaX]
    rw [if_neg (fun e => h (by rw [← e]; exact zaU))]
    rfl
theorem mrN_frz {r : Nat} {cs : List Cell} : ∀ (ns : List Nat) (ks : KL), frzHp r cs (mrN ns ks) = mrN ns ks
  | [], ks => by cases ks <;> rfl
  | _ :: _, [] => rfl
  | n :: ns, x :: ks => by
    show (n, some (⟨(Ints x.2).map (zaX r cs), 1⟩ : Row)) :: frzHp r cs (mrN ns ks) = _
    rw [mrN_frz ns ks, Ints_frz]
    rfl
theorem imp_gc (k : Nat) (tm : List (Nat × SV)) (N : Nat) (ht : ∀ r cs, r ≠ 0 → frzTm r cs tm = tm) : ∀ (ns : List Nat) (ks pre : KL), ns.length = ks.length → (0 :: ns).Nodup → Imp k ⟨tm, (0, some ⟨gcN pre ++ mcN ns ks, 0⟩) :: mrN ns ks, N⟩ ⟨tm, [(0, some ⟨gcN (pre ++ ks), 0⟩)], N⟩
  | [], [], pre, _, _ => by
    rw [zad]
    show Imp k ⟨tm, [(0, some ⟨gcN pre ++ [], 0⟩)], N⟩ _
    rw [zad]
    exact Imp.refl _ _
  | n :: ns, x :: ks, pre, hl, hn => by
    have hn' := hn
    rw [zaZ, zaZ] at hn
    have hn0 : n ≠ 0 := fun e => hn.1 (by rw [e]; exact zaU)
    refine Imp.trans (imp_frz k _ n ⟨Ints x.2, 1⟩ ?_ (Ints_isG _)) ?_
    · show (if 0 = n then _ else if n = n then _ else _) = _
      rw [if_neg (fun e => hn0 e.symm), if_pos rfl]
    have h1 : (gcN pre ++ mcN (n :: ns) (x :: ks)).map (zaX n (Ints x.2)) = gcN (pre ++ [x]) ++ mcN ns ks := by
      rw [List.map_append, map_id_of (fun c hc => isG_frz (gcN_g pre c hc) _ _), gcN_app, List.append_assoc]
      congr 1
      show (int x.1).frz _ _ :: (Cell.osl n 0 x.2.length none).frz _ _ :: (mcN ns ks).map _ = _
      rw [mcN_frz ns ks hn.2.1]
      simp only [zaX, if_true]
      rfl
    have h2 : frzTm n (Ints x.2) tm = tm := ht _ _ hn0
    refine Imp.trans (imp_hp k _ _ ((0, some ⟨gcN (pre ++ [x]) ++ mcN ns ks, 0⟩) :: mrN ns ks) _ ?_) ?_
    · intro r
      show (if n = r then none else if 0 = r then some (⟨_, 0⟩ : Row) else if n = r then _ else lookR r (frzHp n _ (mrN ns ks))) = if 0 = r then _ else lookR r (mrN ns ks)
      rw [mrN_frz, h1]
      by_cases e : n = r
      · subst e
        rw [if_pos rfl, if_neg (fun e => hn0 e.symm), lookR_mrN_out hn.2.1]
      · rw [if_neg e]
        simp only [if_neg e]
    show Imp k ⟨frzTm n (Ints x.2) tm, _, N⟩ _
    rw [h2]
    have := imp_gc k tm N ht ns ks (pre ++ [x]) (by simpa using hl) (List.nodup_cons.2 ⟨fun h => hn.1 (zaN _ h), hn.2.2⟩)
    rw [List.append_assoc] at this
    exact this
def kput : KL → Int → Int → KL
  | [], p, d => [(p, [d])]
  | x :: r, p, d => if x.1 = p then (p, x.2 ++ [d]) :: r else x :: kput r p d
def belowM (l : List Nd) : KL := l.foldl (fun ks x => kput ks x.p x.i) []
def kg : KL → Int → List Int
  | [], _ => []
  | x :: r, p => if x.1 = p then x.2 else kg r p
theorem kput_new {p : Int} (d : Int) : ∀ {ks : KL}, (∀ x ∈ ks, x.1 ≠ p) → kput ks p d = ks ++ [(p, [d])]
  | [], _ => rfl
  | x :: r, h => by
    rw [kput, if_neg (h x zaU), kput_new d (fun y hy => h y (zaN _ hy))]; rfl
theorem kput_at {p : Int} (d : Int) (L : List Int) (B : KL) : ∀ {A : KL}, (∀ x ∈ A, x.1 ≠ p) → kput (A ++ (p, L) :: B) p d = A ++ (p, L ++ [d]) :: B
  | [], _ => by show (if p = p then _ else _) = _; rw [if_pos rfl]; rfl
  | x :: r, h => by
    show (if x.1 = p then _ else x :: kput (r ++ (p, L) :: B) p d) = _
    rw [if_neg (h x zaU), kput_at d L B (fun y hy => h y (zaN _ hy))]; rfl
theorem k_split (p : Int) : ∀ (ks : KL), (∀ x ∈ ks, x.1 ≠ p) ∨ ∃ A L B, ks = A ++ (p, L) :: B ∧ ∀ x ∈ A, x.1 ≠ p
  | [] => .inl (fun x hx => by cases hx)
  | x :: r => by
    by_cases c : x.1 = p
    · right; exact ⟨[], x.2, r, by rw [← c]; rfl, fun y hy => by cases hy⟩
    · rcases k_split p r with h | ⟨A, L, B, e, h⟩
      · left; intro y hy
        rcases List.mem_cons.1 hy with rfl | hy
        · exact c
        · exact h y hy
      · right
        refine ⟨x :: A, L, B, by rw [e]; rfl, fun y hy => ?_⟩
        rcases List.mem_cons.1 hy with rfl | hy
        · exact c
        · exact h y hy
theorem kg_put (p d q : Int) : ∀ (ks : KL), kg (kput ks p d) q = if q = p then kg ks p ++ [d] else kg ks q
  | [] => by
    show (if p = q then [d] else []) = _
    by_cases c : q = p
    · rw [if_pos c, if_pos c.symm]; rfl
    · rw [if_neg c, if_neg (fun e => c e.symm)]; rfl
  | x :: r => by
    rw [kput]
    by_cases c : x.1 = p
    · rw [if_pos c]
      show (if p = q then _ else kg r q) = if q = p then (if x.1 = p then x.2 else kg r p) ++ [d] else (if x.1 = q then x.2 else kg r q)
      rw [c]
      by_cases e : q = p
      · rw [if_pos e, if_pos e.symm, if_pos rfl]
      · rw [if_neg e, if_neg (fun h => e h.symm), if_neg (fun h => e h.symm)]
    · rw [if_neg c]
      show (if x.1 = q then x.2 else kg (kput r p d) q) = if q = p then (if x.1 = p then x.2 else kg r p) ++ [d] else (if x.1 = q then x.2 else kg r q)
      rw [kg_put p d q r, if_neg c]
      by_cases e : q = p
      · rw [if_pos e, if_pos e, if_neg (fun h => c (h.trans e))]
      · rw [if_neg e, if_neg e]
theorem kidsL_snoc (l : List Nd) (x : Nd) (q : Int) : kidsL (l ++ [x]) q = if x.p = q then kidsL l q ++ [x.i] else kidsL l q := by
 unfold kidsL
 rw [List.filter_append, List.map_append]
 by_cases c : x.p = q
 · rw [if_pos c, List.filter_cons_of_pos (by simpa using c)]; rfl
 · rw [if_neg c, List.filter_cons_of_neg (by simpa using c)]; simp
theorem belowM_snoc (l : List Nd) (x : Nd) : belowM (l ++ [x]) = kput (belowM l) x.p x.i := by
 unfold belowM; rw [List.foldl_append]; rfl
theorem belowM_kg (l : List Nd) (q : Int) : kg (belowM l) q = kidsL l q := by
 rw [← List.reverse_reverse l]
 induction l.reverse with
 | nil => rfl
 | cons x r ih =>
   rw [List.reverse_cons, belowM_snoc, kg_put, kidsL_snoc]
   by_cases c : q = x.p
   · rw [if_pos c, if_pos c.symm, ← c, ih]
   · rw [if_neg c, if_neg (fun e => c e.symm), ih]
theorem belowM_len (l : List Nd) : (belowM l).length ≤ l.length ∧ ∀ x ∈ belowM l, x.2.length ≤ l.length := by
 rw [← List.reverse_reverse l]
 induction l.reverse with
 | nil => exact ⟨Nat.le_refl _, fun x hx => by cases hx⟩
 | cons x r ih =>
   rw [List.reverse_cons, belowM_snoc]
   obtain ⟨h1, h2⟩ := ih
   rcases k_split x.p (belowM r.reverse) with h | ⟨A, L, B, e, h⟩
   · rw [kput_new _ h]
     refine ⟨by simp only [zaT, zbc] at h1 ⊢; omega, fun y hy => ?_⟩
     rcases List.mem_append.1 hy with hy | hy
     · have := h2 y hy; rw [zaT]; omega
     · rw [List.mem_singleton.1 hy, zaT]; simp
   · rw [e] at h1 h2 ⊢
     rw [kput_at _ _ _ h]
     refine ⟨by simp only [zaT, zag, zbc] at h1 ⊢; omega, fun y hy => ?_⟩
     rcases List.mem_append.1 hy with hy | hy
     · have := h2 y (List.mem_append.2 (.inl hy)); rw [zaT]; omega
     rcases List.mem_cons.1 hy with rfl | hy
     · have := h2 (x.p, L) (List.mem_append.2 (.inr zaU))
       simp only [zaT, zbc] at this ⊢; omega
     · have := h2 y (List.mem_append.2 (.inr (zaN _ hy))); rw [zaT]; omega
theorem mget_gc (p : Int) : ∀ (ks : KL), (mget (.int .i64 p) (gcN ks) = none ∧ kg ks p = []) ∨ mget (.int .i64 p) (gcN ks) = some (.gsl (Ints (kg ks p)) 0 (kg ks p).length none)
  | [] => .inl ⟨rfl, rfl⟩
  | x :: r => by
    have hu : mget (.int .i64 p) (gcN (x :: r)) = if keyEq (.int .i64 p) (.int .i64 x.1) = true then some (.gsl (Ints x.2) 0 x.2.length none) else mget (.int .i64 p) (gcN r) := rfl
    rw [hu, keyEq_i]
    by_cases c : x.1 = p
    · right
      rw [if_pos (by rw [c]; simp)]
      show _ = some (Cell.gsl (Ints (if x.1 = p then x.2 else kg r p)) 0 (if x.1 = p then x.2 else kg r p).length none)
      rw [if_pos c]
    · rw [if_neg (by simpa using fun e => c e.symm)]
      show (_ ∧ (if x.1 = p then x.2 else kg r p) = []) ∨ mget _ _ = some (Cell.gsl (Ints (if x.1 = p then x.2 else kg r p)) 0 (if x.1 = p then x.2 else kg r p).length none)
      rw [if_neg c]
      exact mget_gc p r
theorem mkeys_gc : ∀ (ks : KL), mkeys (.int .i64) (gcN ks) = true
  | [] => rfl
  | x :: r => by
    show (keyB (.int .i64) (.int .i64 x.1) && mkeys (.int .i64) (gcN r)) = true
    rw [mkeys_gc r]; rfl
theorem range_nd (n : Nat) : (0 :: zaW 1 n).Nodup := by
 rw [zaZ]
 exact ⟨fun h => by have := List.mem_range'.1 h; omega, List.nodup_range'⟩
theorem gcN_flat (ks : KL) : flat (gcN ks) := fun c hc => isG_refs (gcN_g ks c hc)
theorem RowsAt.mid {f : Nat → Option Row} {r : Nat} {x : Int × List Int} {rb : List Nat} {B : KL} : ∀ {ra : List Nat} {A : KL}, ra.length = A.length → RowsAt f (ra ++ r :: rb) (A ++ x :: B) → RowsAt f ra A ∧ RowsAt f rb B
  | [], [], _, h => ⟨trivial, h.2⟩
  | n :: ra, y :: A, hl, h => by
    obtain ⟨h1, h2⟩ := RowsAt.mid (ra := ra) (A := A) (by simpa using hl) h.2
    exact ⟨⟨h.1, h1⟩, h2⟩
theorem okc_rng {all : Array Oper} {f : Nat → List (List Nat × List Nat)} {r : Nat} (h : (List.range 99).all (fun q => okc all (f (q + 1)).reverse) = true) (h1 : 1 ≤ r) (h2 : r < 100) : OKC all (f r) := by
 have := List.all_eq_true.1 h (r - 1) (List.mem_range.2 (by omega))
 rw [show r - 1 + 1 = r by omega] at this
 exact this
set_option maxHeartbeats 16000000 in
theorem below_spec (l : List Nd) (n : Int) (hl : l.length ≤ 64) : FnSpec Tryz.prog 108 [trV l none n] [] (.one (.mp 0 false)) [some ⟨gcN (belowM l), 0⟩] := by
 have hnl := nd_len l
 refine fnspec_of mixed TT_ok TT_cl ⟨fun _ => false, fun _ => [], 0, fun _ => false, fun _ => false⟩ Tryz.func108 rfl (by kernel_rfl) rfl 27 rfl [.tmp 2] rfl ?_
 simp only [go_sem, zaa, zau, zav, zaw, zaz, zan, ↓reduceIte, reduceCtorEq, zaf, zaj, zaA, zaB, zaC]
 repeat' (first
 | exact yha | fail)
 refine w_loop (ι := Nat) (fun m => ⟨[(3, .one (.mp 0 false)), (8, gr l none), (9, i1 l.length), (10, i1 m)], (0, some ⟨mcN (zaW 1 (belowM (l.take m)).length) (belowM (l.take m)), 0⟩) :: mrN (zaW 1 (belowM (l.take m)).length) (belowM (l.take m)), 100⟩) (fun m => m ≤ l.length) (fun m => l.length - m) 0 ?_ (Nat.zero_le _) ?_
 · (refine imp_ren _ _ _ [(0, 2, ⟨[], 0⟩)] (by simp) (by simp) (by simp) (zaI rfl) ?_ rfl (by simp only [zab, zac, false_implies, implies_true, and_true, zaP, lookR, zaa, if_true, if_false, ↓reduceIte] <;> (repeat' apply zaG) <;> (first | rfl | trivial)) (by simp only [zab, zac, false_implies, implies_true, and_true, true_and, flat_cons, flat_nil, flat_ints, flat_bools, flat_app, zaK, and_self, eq_self_iff_true, zad]); simp only [zae, zah, zab, zac, false_implies, implies_true, and_true, lk, slot, zaQ, zaJ, toN, zaa, if_true, if_false, ↓reduceIte, reduceCtorEq])
   all_goals ((repeat' apply zaG) <;> (first | rfl | trivial))
 intro m hm
 simp only at hm ⊢
 rcases Nat.lt_or_ge m l.length with hlt | hge
 case inr =>
   have c : ¬ (m : Int) < (l.length : Int) := by omega
   rw [List.take_of_length_le hge]
   simp only [go_sem, zaa, zau, zav, zaw, zaz, zan, ↓reduceIte, reduceCtorEq, zaf, zaj, zaA, zaB, zaC, decide_eq_false c]
   repeat' (first
 | exact yha | fail)
   refine fs_imp ⟨[(2, .one (.mp 0 false))], [(0, some ⟨gcN ([] ++ belowM l), 0⟩)], 103⟩ ?_ ?_
   · refine Imp.trans (t := ⟨[(2, .one (.mp 0 false))], (0, some ⟨gcN [] ++ mcN (zaW 1 (belowM l).length) (belowM l), 0⟩) :: mrN (zaW 1 (belowM l).length) (belowM l), 103⟩) (imp_tm _ _ _ (fun x hx => by cases List.mem_singleton.1 hx; rfl) rfl (Nat.le_refl _)) ?_
     exact imp_gc 0 _ 103 (fun r cs hr => rfl) _ _ [] zaY (range_nd _)
   · rw [zar]
     refine fs_flat [(0, ⟨gcN (belowM l), 0⟩)] (by simp) (fun j hj => absurd hj (Nat.not_lt_zero _)) ?_ ?_ ?_ ?_ rfl
     · simp only [go_sem, resV, resS, zaQ, zaV, zaJ, zbf, zaP, idx, renO, zaO, evS, slot, lookR, zaa, ↓reduceIte, reduceCtorEq, if_true, if_false, zaR, zaS, zae, zah, sLoad, readAt, readNeed, Ints_ren, Ints_length, Ints_getD, and_true, true_and, zaL, zaM]
     · simp only [go_sem, resV, resS, zaQ, zaV, zaJ, zbf, zaP, idx, renO, zaO, evS, slot, lookR, zaa, ↓reduceIte, reduceCtorEq, if_true, if_false, zaR, zaS, zae, zah, sLoad, readAt, readNeed, Ints_ren, Ints_length, Ints_getD, and_true, true_and, zaL, zaM]
     · intro p hp; rw [List.mem_singleton.1 hp]; rfl
     · intro p hp; rw [List.mem_singleton.1 hp]; exact gcN_flat _
 have c : (m : Int) < (l.length : Int) := by omega
 have hat : List.take 6 (List.drop (m * 6) (Cs l)) = ndc (gN l m) := Cs_td l m hlt
 have hst : belowM (l.take (m + 1)) = kput (belowM (l.take m)) (gN l m).p (gN l m).i := by rw [take_getD l m zn hlt, belowM_snoc]
 obtain ⟨hb1, hb2⟩ := belowM_len (l.take m)
 rw [List.length_take] at hb1 hb2
 generalize belowM (l.take m) = ks at *
 have hmk := mkeys_mcN (zaW 1 ks.length) ks
 rcases k_split (gN l m).p ks with hA | ⟨A, L, B, rfl, hA⟩
 · have hgt := mget_none (zaW 1 ks.length) ks hA
   rw [kput_new _ hA] at hst
   generalize gN l m = x at *
   obtain ⟨xi, xp, xn, xc, xk, xo⟩ := x
   simp only at hA hst hgt
   simp only [go_sem, zaa, zau, zav, zaw, zaz, zan, ↓reduceIte, reduceCtorEq, zaf, zaj, zaA, zaB, zaC, decide_eq_true c, hat, hmk, hgt, mval_none]
   repeat' (first
 | with_reducible refine zaG ?_ ?_
 | (unfold OKC; kernel_rfl)
 | (unfold EDG; kernel_rfl)
 | exact yhg
 | exact yha | fail)
   · rfl
   refine le_mk (m + 1) ?_ hlt (by show l.length - (m + 1) < l.length - m; omega)
   simp only [hst]
   refine imp_kl rfl _ (zaW 1 (ks ++ [(xp, [xi])]).length) (zaW 1 ks.length ++ [115]) (ks ++ [(xp, [xi])]) 100 ?_ zaY ?_ (range_nd _) ?_ ?_ ?_ ?_ (by decide)
   · rw [zaT, zaT, zaY]; rfl
   · rw [zaZ, List.nodup_append]
     refine ⟨fun h => ?_, List.nodup_range', by simp, fun a ha b hb e => ?_⟩
     · rcases List.mem_append.1 h with h | h
       · have := List.mem_range'.1 h; omega
       · have := List.mem_singleton.1 h; omega
     · have := List.mem_range'.1 ha
       have := List.mem_singleton.1 hb
       omega
   · intro q hq
     rw [zaT, zbc] at hq
     have := List.mem_range'.1 hq
     omega
   · show some (⟨mset _ _ _, 0⟩ : Row) = _
     rw [mset_new _ _ _ zaY hA, mcN_app zaY]
     rfl
   · refine RowsAt.app (ms := [115]) (B := [(xp, [xi])]) ⟨rfl, trivial⟩ (RowsAt.mono (fun q hq => ?_) (RowsAt.of (zaY (s := 1) (step := 1)) List.nodup_range'))
     have := List.mem_range'.1 hq
     simp only [zaP, lookR]
     repeat rw [if_neg (by omega)]
   · intro x hx
     simp only [List.mem_cons, zac, or_false] at hx
     rcases hx with rfl | rfl | rfl | rfl <;> first | rfl | (simp only [zbb]; rfl)
 · have hB : (A ++ ((gN l m).p, L) :: B).length = A.length + (1 + B.length) := by rw [zaT, zag]; omega
   have hrg : zaW 1 (A ++ ((gN l m).p, L) :: B).length = zaW 1 A.length ++ (1 + A.length) :: zaW (1 + A.length + 1) B.length := by
     rw [hB, ← List.range'_append_1, Nat.add_comm 1 B.length, List.range'_succ]
   have hra : (zaW 1 A.length).length = A.length := zaY
   have hrb : (zaW (1 + A.length + 1) B.length).length = B.length := zaY
   have hLl := hb2 ((gN l m).p, L) (List.mem_append.2 (.inr zaU))
   rw [kput_at _ _ _ hA] at hst
   rw [hB] at hb1
   clear hB
   have hnd := range_nd (A ++ ((gN l m).p, L) :: B).length
   rw [hrg] at hmk hnd ⊢
   have hma : ∀ q ∈ zaW 1 A.length, 1 ≤ q ∧ q < 1 + A.length := fun q hq => by have := List.mem_range'.1 hq; omega
   have hmb : ∀ q ∈ zaW (1 + A.length + 1) B.length, 1 + A.length < q ∧ q < 2 + A.length + B.length := fun q hq => by have := List.mem_range'.1 hq; omega
   have hro := RowsAt.of (ns := zaW 1 A.length ++ (1 + A.length) :: zaW (1 + A.length + 1) B.length) (ks := A ++ ((gN l m).p, L) :: B) (by rw [zaT, zaT, zag, zag, hra, hrb]) (List.nodup_cons.1 hnd).2
   have hlr : lookR (1 + A.length) (mrN (zaW 1 A.length ++ (1 + A.length) :: zaW (1 + A.length + 1) B.length) (A ++ ((gN l m).p, L) :: B)) = some ⟨Ints L, 1⟩ := mrN_at hra (fun h => by have := hma _ h; omega)
   have hmc : mcN (zaW 1 A.length ++ (1 + A.length) :: zaW (1 + A.length + 1) B.length) (A ++ ((gN l m).p, L) :: B) = mcN (zaW 1 A.length) A ++ int (gN l m).p :: .osl (1 + A.length) 0 L.length none :: mcN (zaW (1 + A.length + 1) B.length) B := mcN_app hra _ _
   have hgt := mget_at (p := (gN l m).p) (.osl (1 + A.length) 0 L.length none) (mcN (zaW (1 + A.length + 1) B.length) B) (zaW 1 A.length) A hA
   rw [← hmc] at hgt
   generalize zaW 1 A.length = ra at *
   generalize zaW (1 + A.length + 1) B.length = rb at *
   generalize hr : 1 + A.length = r at *
   have hr1 : 1 ≤ r := by omega
   have hr2 : r < 100 := by omega
   have g0 : (0 = r) = False := eq_false (by omega)
   have g9 : (r = 0) = False := eq_false (by omega)
   have g1 : (103 = r) = False := eq_false (by omega)
   have g2 : (114 = r) = False := eq_false (by omega)
   have g3 : (115 = r) = False := eq_false (by omega)
   have htk : List.take L.length (Ints L) = Ints L := List.take_of_length_le (by rw [Ints_length]; exact Nat.le_refl _)
   generalize gN l m = x at *
   obtain ⟨xi, xp, xn, xc, xk, xo⟩ := x
   simp only at hA hst hgt hlr hmc hro hLl
   have hpp : Ints L ++ [int xi] = Ints (L ++ [xi]) := by simp [Ints]
   simp only [go_sem, zaa, zau, zav, zaw, zaz, zan, ↓reduceIte, reduceCtorEq, zaf, zaj, zaA, zaB, zaC, decide_eq_true c, hat, hmk, hgt, mval_some, g0, g9, g1, g2, g3, hlr, htk, hpp]
   repeat' (first
 | with_reducible refine zaG ?_ ?_
 | (refine okc_rng (r := r) (f := fun r => [([0], [0]), ([r, 114], [r, 115]), ([], [114]), ([103], []), ([103], []), ([0], []), ([103], []), ([103], []), ([], []), ([103], []), ([103], []), ([], [])]) ?_ hr1 hr2; kernel_rfl)
 | (unfold EDG; kernel_rfl)
 | exact yhg
 | exact yha | fail)
   all_goals try rfl
   refine le_mk (m + 1) ?_ hlt (by show l.length - (m + 1) < l.length - m; omega)
   simp only [hst]
   have hlen : (A ++ (xp, L ++ [xi]) :: B).length = A.length + (1 + B.length) := by rw [zaT, zag]; omega
   have hnd2 := hnd
   rw [zaZ, List.nodup_append, zaZ] at hnd2
   obtain ⟨z0, z1, ⟨z2, z3⟩, z4⟩ := hnd2
   have hsep : ∀ q ∈ ra ++ r :: rb, 1 ≤ q ∧ q < 100 := fun q hq => by
     rcases List.mem_append.1 hq with h | h
     · have := hma q h; omega
     rcases List.mem_cons.1 h with rfl | h
     · omega
     · have := hmb q h; omega
   refine imp_kl rfl _ (zaW 1 (A ++ (xp, L ++ [xi]) :: B).length) (ra ++ 115 :: rb) (A ++ (xp, L ++ [xi]) :: B) 100 ?_ zaY ?_ (range_nd _) ?_ ?_ ?_ ?_ (by decide)
   · rw [zaT, zaT, zag, zag, hra, hrb]
   · rw [zaZ, List.nodup_append, zaZ]
     refine ⟨fun h => ?_, z1, ⟨fun h => ?_, z3⟩, fun a ha b hb e => ?_⟩
     · rcases List.mem_append.1 h with h | h
       · have := hma _ h; omega
       rcases List.mem_cons.1 h with h | h
       · omega
       · have := hmb _ h; omega
     · have := hmb _ h; omega
     · rcases List.mem_cons.1 hb with h | h
       · have := hma _ ha; omega
       · exact z4 a ha b (zaN _ h) e
   · intro q hq
     rw [hlen] at hq
     have := List.mem_range'.1 hq
     omega
   · show some (⟨mset _ _ _, 0⟩ : Row) = _
     rw [hmc, mset_at _ _ _ _ _ hra hA, mcN_app hra]
     show _ = some (⟨mcN ra A ++ int xp :: .osl _ 0 (L ++ [xi]).length none :: mcN rb B, 0⟩ : Row)
     rw [zaT, zbc]
   · have hro1 : RowsAt (fun r_1 => lookR r_1 (mrN (ra ++ r :: rb) (A ++ (xp, L) :: B))) ra A ∧ RowsAt (fun r_1 => lookR r_1 (mrN (ra ++ r :: rb) (A ++ (xp, L) :: B))) rb B := RowsAt.mid hra hro
     have hne : ∀ q, q ∈ ra ++ rb → q ≠ r ∧ 1 ≤ q ∧ q < 100 := fun q hq => by
       rcases List.mem_append.1 hq with h | h
       · have := hma q h; omega
       · have := hmb q h; omega
     refine RowsAt.app (ms := 115 :: rb) (B := (xp, L ++ [xi]) :: B) ⟨?_, RowsAt.mono (fun q hq => ?_) hro1.2⟩ (RowsAt.mono (fun q hq => ?_) hro1.1)
     · rfl
     · obtain ⟨w1, w2, w3⟩ := hne q (List.mem_append.2 (.inr hq))
       simp only [zaP, lookR]
       repeat rw [if_neg (by omega)]
     · obtain ⟨w1, w2, w3⟩ := hne q (List.mem_append.2 (.inl hq))
       simp only [zaP, lookR]
       repeat rw [if_neg (by omega)]
   · intro x hx
     simp only [List.mem_cons, zac, or_false] at hx
     rcases hx with rfl | rfl | rfl | rfl <;> first | rfl | (simp only [zbb]; rfl)
theorem agg_sl (e : Nat) : (TK.slice e).isAgg = false := rfl
theorem bel_kids (l : List Nd) (g : Int) : (mget (.int .i64 g) (gcN (belowM l)) = none ∧ kidsL l g = []) ∨ mget (.int .i64 g) (gcN (belowM l)) = some (.gsl (Ints (kidsL l g)) 0 (kidsL l g).length none) := by
 have := mget_gc g (belowM l)
 rw [belowM_kg] at this
 exact this
def chsM (q : Tk → Bool) (l : List Nd) (n : Int) (T : List Tk) (h : Int) : List Int := if hyM l n T h = true then (T.filter q).map Tk.i else []
set_option maxHeartbeats 8000000 in
theorem mchoose_spec (g : FuncId) (c0 : List Cell) (q : Tk → Bool) (l : List Nd) (n : Int) (T : List Tk) (h : Int) (hg : ∀ x ∈ T, FnSpec Tryz.prog g [.agg (tkc x), .one (.gptr c0 0)] [] (b1 (q x)) []) (hl : l.length ≤ 1000000) (hT : T.length ≤ 1000000) (hnm : NmR l) (hct : CtR l) : FnSpec Tryz.prog 61 [hyV l none n T none h, .one (.fn g [.gptr c0 0])] [] (gi (chsM q l n T h) none) [] := by
 have h1 := mcheck_spec l n T h hl (by omega) hnm hct
 have hcl := tk_len T
 unfold chsM
 cases hv : hyM l n T h with
 | false =>
   (try rw [hv] at h1)
   (try rw [if_neg (by decide)])
   refine fnspec_of mixed TT_ok TT_cl ⟨fun _ => false, fun _ => [], 0, fun _ => false, fun _ => false⟩ Tryz.func61 rfl (by kernel_rfl) rfl 29 rfl [.tmp 4] rfl ?_
   simp only [go_sem, zaa, zau, zav, zaw, zaz, zan, ↓reduceIte, reduceCtorEq, zaf, zaj, zaA, zaB, zaC, zao, zap, zad, zaq, zar, zal, zam, zak, zas, zay, zag, zai]
   repeat' (first
 | (apply cl_plain
    case hs => rfl
    case ha => exact yhc
    case h => (first | exact h1 ..))
 | ((first | refine s1_id ?_ | refine swp_id ?_ | refine sops_id ?_ | refine s2_id ?_); simp only [zao, zap, zad, zaq, zar, zal, zam, zak, zas, zay, zag, zai, go_sem, zaa, zau, zav, zaw, zaz, zan, ↓reduceIte, reduceCtorEq, zaf, zaj, zaA, zaB, zaC, zaQ, zaV, zaJ, zaO, renO, bk, back, outUpsFrom, Ints_ren])
 | exact yha | fail)
   repeat' (first
 | exact fs_w trivial (svw_of cw_gnil)
 | fail)
 | true =>
 (try rw [hv] at h1)
 (try rw [if_pos rfl])
 obtain ⟨_, hTl, _⟩ := hy_all hv
 obtain ⟨K, hK0, hKe, hKl, hKs⟩ := fmG_pack ztk q Tk.i T
 generalize (T.filter q).map Tk.i = W at *
 refine fnspec_of mixed TT_ok TT_cl ⟨fun _ => false, fun _ => [], 0, fun _ => false, fun _ => false⟩ Tryz.func61 rfl (by kernel_rfl) rfl 29 rfl [.tmp 4] rfl ?_
 simp only [go_sem, zaa, zau, zav, zaw, zaz, zan, ↓reduceIte, reduceCtorEq, zaf, zaj, zaA, zaB, zaC, zao, zap, zad, zaq, zar, zal, zam, zak, zas, zay, zag, zai]
 repeat' (first
 | (apply cl_plain
    case hs => rfl
    case ha => exact yhc
    case h => (first | exact h1 ..))
 | ((first | refine s1_id ?_ | refine swp_id ?_ | refine sops_id ?_ | refine s2_id ?_); simp only [zao, zap, zad, zaq, zar, zal, zam, zak, zas, zay, zag, zai, go_sem, zaa, zau, zav, zaw, zaz, zan, ↓reduceIte, reduceCtorEq, zaf, zaj, zaA, zaB, zaC, zaQ, zaV, zaJ, zaO, renO, bk, back, outUpsFrom, Ints_ren])
 | exact yha | fail)
 refine w_loop (ι := Nat) (fun m => ⟨[(1, .one (.fn g [.gptr c0 0])), (5, .one (.osl 0 0 (K m).length none)), (13, gr T none), (14, i1 T.length), (15, i1 m)], [(0, some ⟨Ints (K m), 1⟩)], 1⟩) (fun m => m ≤ T.length) (fun m => T.length - m) 0 ?_ (Nat.zero_le _) ?_
 · simp only [hK0]; (refine Imp.trans (imp_nilA _ _ 5 1 99 (by simp only []; omega) rfl) ?_)
   (refine imp_ren _ _ _ [(0, 99, ⟨[], 1⟩)] (by simp) (by simp) (by simp) (zaI rfl) ?_ rfl (by simp only [zab, zac, false_implies, implies_true, and_true, zaP, lookR, zaa, if_true, if_false, ↓reduceIte] <;> (repeat' apply zaG) <;> (first | rfl | trivial)) (by simp only [zab, zac, false_implies, implies_true, and_true, true_and, flat_cons, flat_nil, flat_ints, flat_bools, flat_app, zaK, and_self, eq_self_iff_true, zad]); simp only [zae, zah, zab, zac, false_implies, implies_true, and_true, lk, slot, zaQ, zaJ, toN, zaa, if_true, if_false, ↓reduceIte, reduceCtorEq])
   all_goals ((repeat' apply zaG) <;> (first | rfl | trivial))
 clear h1
 rintro m hm
 simp only at hm ⊢
 rcases Nat.lt_or_ge m T.length with hlt | hge
 case inr =>
   have c : ¬ (m : Int) < (T.length : Int) := by omega
   obtain rfl : m = T.length := by omega
   rw [hKe]
   simp only [go_sem, zaa, zau, zav, zaw, zaz, zan, ↓reduceIte, reduceCtorEq, zaf, zaj, zaA, zaB, zaC, decide_eq_false c, zao, zap, zad, zaq, zar, zal, zam, zak, zas, zay, zag, zai]
   repeat' (first
 | exact yha | fail)
   (refine fs_frz 0 ⟨Ints W, 1⟩ (by simp only [zaP, lookR, zaa, if_true, if_false, ↓reduceIte]) (by first | exact Ints_isG _ | exact Bools_isG _ | exact Cs_isG _ | (simp [zbd]; done)) ?_; simp only [frzTm, zbh, zbe, zaX, frzHp, frzO, Ints_frz, Bools_frz, zae, zah, zaa, if_true, if_false, ↓reduceIte])
   repeat' (first
 | exact yhe
 | fail)
 have c : (m : Int) < (T.length : Int) := by omega
 have hat := tk_td T m hlt
 obtain ⟨s1, s2⟩ := hKs m hlt
 have hk := hKl m
 have ha := Ints_all (K m)
 have hla := snoc_len (K m) (gT T m).i
 have hgx := hg (gT T m) (getD_mem T m ztk hlt)
 rw [show T.getD m ztk = gT T m from rfl] at s1 s2
 generalize gT T m = x at *
 obtain ⟨xi, xp, xg, xu⟩ := x
 simp only [tkc] at hat s1 s2 hla hgx
 cases hq : q ⟨xi, xp, xg, xu⟩ with
 | true =>
   (try rw [hq] at hgx)
   (try rw [if_pos rfl])
   have s1 := s1 hq
   rw [← s1] at hla
   simp only [go_sem, zaa, zau, zav, zaw, zaz, zan, ↓reduceIte, reduceCtorEq, zaf, zaj, zaA, zaB, zaC, decide_eq_true c, hat, ha, ← s1, zao, zap, zad, zaq, zar, zal, zam, zak, zas, zay, zag, zai]
   repeat' (first
 | with_reducible refine zaG ?_ ?_
 | (apply cl_plain
    case hs => rfl
    case ha => exact yhc
    case h => (first | exact hgx ..))
 | ((first | refine s1_id ?_ | refine swp_id ?_ | refine sops_id ?_ | refine s2_id ?_); simp only [decide_eq_true c, hat, ha, ← s1, zao, zap, zad, zaq, zar, zal, zam, zak, zas, zay, zag, zai, go_sem, zaa, zau, zav, zaw, zaz, zan, ↓reduceIte, reduceCtorEq, zaf, zaj, zaA, zaB, zaC, zaQ, zaV, zaJ, zaO, renO, bk, back, outUpsFrom, Ints_ren])
 | exact yhg
 | exact yha | fail)
   refine le_mk (m + 1) ?_ hlt (by show T.length - (m + 1) < T.length - m; omega)
   (refine imp_ren _ _ _ [(0, 13, ⟨Ints (K (m + 1)), 1⟩)] (by simp) (by simp) (by simp) (zaI rfl) ?_ rfl (by simp only [zab, zac, false_implies, implies_true, and_true, zaP, lookR, zaa, if_true, if_false, ↓reduceIte] <;> (repeat' apply zaG) <;> (first | rfl | trivial)) (by simp only [zab, zac, false_implies, implies_true, and_true, true_and, flat_cons, flat_nil, flat_ints, flat_bools, flat_app, zaK, and_self, eq_self_iff_true, zad]); simp only [zae, zah, zab, zac, false_implies, implies_true, and_true, lk, slot, zaQ, zaJ, toN, zaa, if_true, if_false, ↓reduceIte, reduceCtorEq])
   all_goals ((repeat' apply zaG) <;> (first | rfl | trivial | (simp only [zbb, hla]; done) | (simp only [zbb, hla]; rfl) | (simp only [zbb, hla]; trivial)))
 | false =>
 (try rw [hq] at hgx)
 (try rw [if_neg (by decide)])
 have s2 := s2 hq
 simp only [go_sem, zaa, zau, zav, zaw, zaz, zan, ↓reduceIte, reduceCtorEq, zaf, zaj, zaA, zaB, zaC, decide_eq_true c, hat, zao, zap, zad, zaq, zar, zal, zam, zak, zas, zay, zag, zai]
 repeat' (first
 | with_reducible refine zaG ?_ ?_
 | (apply cl_plain
    case hs => rfl
    case ha => exact yhc
    case h => (first | exact hgx ..))
 | ((first | refine s1_id ?_ | refine swp_id ?_ | refine sops_id ?_ | refine s2_id ?_); simp only [decide_eq_true c, hat, zao, zap, zad, zaq, zar, zal, zam, zak, zas, zay, zag, zai, go_sem, zaa, zau, zav, zaw, zaz, zan, ↓reduceIte, reduceCtorEq, zaf, zaj, zaA, zaB, zaC, zaQ, zaV, zaJ, zaO, renO, bk, back, outUpsFrom, Ints_ren])
 | exact yhg
 | exact yha | fail)
 rw [← s2]
 refine le_mk (m + 1) ?_ hlt (by show T.length - (m + 1) < T.length - m; omega)
 (refine imp_ren _ _ _ [(0, 0, ⟨Ints (K (m + 1)), 1⟩)] (by simp) (by simp) (by simp) (zaI rfl) ?_ rfl (by simp only [zab, zac, false_implies, implies_true, and_true, zaP, lookR, zaa, if_true, if_false, ↓reduceIte] <;> (repeat' apply zaG) <;> (first | rfl | trivial)) (by simp only [zab, zac, false_implies, implies_true, and_true, true_and, flat_cons, flat_nil, flat_ints, flat_bools, flat_app, zaK, and_self, eq_self_iff_true, zad]); simp only [zae, zah, zab, zac, false_implies, implies_true, and_true, lk, slot, zaQ, zaJ, toN, zaa, if_true, if_false, ↓reduceIte, reduceCtorEq])
 all_goals ((repeat' apply zaG) <;> (first | rfl | trivial | (simp only [zbb]; done) | (simp only [zbb]; rfl) | (simp only [zbb]; trivial)))
theorem vt_ct {l : List Nd} {n : Int} (h : VT l n) : CtR l := fun x hx => by
  have := (h.vl.all x hx).2
  unfold rngOk at this
  simp only [zaF, decide_eq_true_eq] at this
  omega
theorem HI.ct {q : Hy} (h : HI q) : CtR q.1 := vt_ct h.p.v
theorem inG1_spec (g : Int) (x : Tk) : FnSpec Tryz.prog 62 [.agg (tkc x), .one (.gptr [int g] 0)] [] (b1 (inG g x)) [] := by
 obtain ⟨i, p, gg, u⟩ := x
 unfold inG
 simp only [tkc]
 refine fnspec_of mixed TT_ok TT_cl ⟨fun _ => false, fun _ => [], 0, fun _ => false, fun _ => false⟩ Tryz.func62 rfl (by kernel_rfl) rfl 8 rfl [.tmp 3] rfl ?_
 simp only [go_sem, zaa, zau, zav, zaw, zaz, zan, ↓reduceIte, reduceCtorEq, zaf, zaj, zaA, zaB, zaC, zao, zap, zad, zaq, zar, zal, zam, zak, zas, zay, zag, zai]
 repeat' (first
 | exact fs_nil trivial rfl
 | fail)
set_option maxHeartbeats 8000000 in
theorem mtasks_spec (l : List Nd) (n : Int) (T : List Tk) (h g : Int) (hl : l.length ≤ 1000000) (hT : T.length ≤ 1000000) (hnm : NmR l) (hct : CtR l) : FnSpec Tryz.prog 18 [hyV l none n T none h, i1 g] [] (gi (tsM l n T h g) none) [] := by
 have h1 := mchoose_spec 62 [int g] (inG g) l n T h (fun x _ => inG1_spec g x) hl hT hnm hct
 rw [show chsM (inG g) l n T h = tsM l n T h g from rfl] at h1
 generalize tsM l n T h g = W at *
 refine fnspec_of mixed TT_ok TT_cl ⟨fun _ => false, fun _ => [], 0 , fun _ => false, fun i => if i = 1 then true else false⟩ Tryz.func18 rfl (by kernel_rfl) rfl 8 rfl [.tmp 4] rfl ?_
 simp only [go_sem, zaa, zau, zav, zaw, zaz, zan, ↓reduceIte, reduceCtorEq, zaf, zaj, zaA, zaB, zaC, zao, zap, zad, zaq, zar, zal, zam, zak, zas, zay, zag, zai]
 repeat' (first
 | exact yha | fail)
 (refine rgf_t _ (imp_frz _ _ 1 ⟨[int g], 1⟩ (by simp only [zaP, lookR, zaa, if_true, if_false, ↓reduceIte]) (by first | exact Ints_isG _ | exact Bools_isG _ | exact Cs_isG _ | (simp [zbd]; done))) ?_; simp only [frzTm, zbh, zbe, zaX, frzHp, frzO, Ints_frz, Bools_frz, zae, zah, zaa, if_true, if_false, ↓reduceIte])
 simp only [go_sem, zaa, zau, zav, zaw, zaz, zan, ↓reduceIte, reduceCtorEq, zaf, zaj, zaA, zaB, zaC, zao, zap, zad, zaq, zar, zal, zam, zak, zas, zay, zag, zai]
 repeat' (first
 | (apply cl_plain
    case hs => rfl
    case ha => exact yhc
    case h => (first | exact h1 ..))
 | ((first | refine s1_id ?_ | refine swp_id ?_ | refine sops_id ?_ | refine s2_id ?_); simp only [zao, zap, zad, zaq, zar, zal, zam, zak, zas, zay, zag, zai, go_sem, zaa, zau, zav, zaw, zaz, zan, ↓reduceIte, reduceCtorEq, zaf, zaj, zaA, zaB, zaC, zaQ, zaV, zaJ, zaO, renO, bk, back, outUpsFrom, Ints_ren])
 | exact fs_nil trivial rfl
 | fail)
set_option maxHeartbeats 8000000 in
theorem mplace_spec (l : List Nd) (n : Int) (T : List Tk) (h t g : Int) (hl : l.length ≤ 1000000) (hT : T.length ≤ 1000000) (hnm : NmR l) (hct : CtR l) : FnSpec Tryz.prog 38 [hyV l none n T none h, i1 t, i1 g] [] (.tup [hyQ (plR l n T h t g).1, i1 (plR l n T h t g).2]) [] := by
 have h1 := mcheck_spec l n T h hl (by omega) hnm hct
 have h2 := mindex_spec l none n T none h t (by omega)
 unfold plR
 cases hv : hyM l n T h with
 | false =>
   (try rw [hv] at h1)
   (try rw [if_neg (by decide)])
   simp only [Cs_nil, zai]
   refine fnspec_of mixed TT_ok TT_cl ⟨fun _ => false, fun _ => [], 0, fun _ => false, fun _ => false⟩ Tryz.func38 rfl (by kernel_rfl) rfl 45 rfl [.cell 6 28, .tmp 7] rfl ?_
   simp only [go_sem, zaa, zau, zav, zaw, zaz, zan, ↓reduceIte, reduceCtorEq, zaf, zaj, zaA, zaB, zaC, zao, zap, zad, zaq, zar, zal, zam, zak, zas, zay, zag, zai]
   repeat' (first
 | (apply cl_plain
    case hs => rfl
    case ha => exact yhc
    case h => (first | exact h1 ..))
 | ((first | refine s1_id ?_ | refine swp_id ?_ | refine sops_id ?_ | refine s2_id ?_); simp only [zao, zap, zad, zaq, zar, zal, zam, zak, zas, zay, zag, zai, go_sem, zaa, zau, zav, zaw, zaz, zan, ↓reduceIte, reduceCtorEq, zaf, zaj, zaA, zaB, zaC, zaQ, zaV, zaJ, zaO, renO, bk, back, outUpsFrom, Ints_ren])
 | exact yha | fail)
   repeat' (first
 | exact yhe
 | fail)
 | true =>
 (try rw [hv] at h1)
 (try rw [if_pos rfl])
 obtain ⟨hV, hTl, hh1, hh2, hpw⟩ := hy_all hv
 cases hb : bsF Tk.i T t with
 | false =>
   (try rw [hb] at h2)
   (try rw [if_neg (by decide)])
   simp only [Cs_nil, zai]
   refine fnspec_of mixed TT_ok TT_cl ⟨fun _ => false, fun _ => [], 0, fun _ => false, fun _ => false⟩ Tryz.func38 rfl (by kernel_rfl) rfl 45 rfl [.cell 6 28, .tmp 7] rfl ?_
   simp only [go_sem, zaa, zau, zav, zaw, zaz, zan, ↓reduceIte, reduceCtorEq, zaf, zaj, zaA, zaB, zaC, zao, zap, zad, zaq, zar, zal, zam, zak, zas, zay, zag, zai]
   repeat' (first
 | (apply cl_plain
    case hs => rfl
    case ha => exact yhc
    case h => (first | exact h1 .. | exact h2 ..))
 | ((first | refine s1_id ?_ | refine swp_id ?_ | refine sops_id ?_ | refine s2_id ?_); simp only [zao, zap, zad, zaq, zar, zal, zam, zak, zas, zay, zag, zai, go_sem, zaa, zau, zav, zaw, zaz, zan, ↓reduceIte, reduceCtorEq, zaf, zaj, zaA, zaB, zaC, zaQ, zaV, zaJ, zaO, renO, bk, back, outUpsFrom, Ints_ren])
 | exact yha | fail)
   repeat' (first
 | exact yhe
 | fail)
 | true =>
 (try rw [hb] at h2)
 (try rw [if_pos rfl])
 have h3 := tfind_spec l n g hl hnm hct
 rw [fdM_bs ((chkT_iff l n).2 hV)] at h3
 generalize (fdM l n g).1 = fx at *
 obtain ⟨f0, f1, f2, f3, f4, f5⟩ := fx
 simp only [ndc] at h3
 cases hc : bsF Nd.i l g with
 | false =>
   (try rw [hc] at h3)
   (try rw [if_neg (by decide)])
   simp only [Cs_nil, zai]
   refine fnspec_of mixed TT_ok TT_cl ⟨fun _ => false, fun _ => [], 0, fun _ => false, fun _ => false⟩ Tryz.func38 rfl (by kernel_rfl) rfl 45 rfl [.cell 6 28, .tmp 7] rfl ?_
   simp only [go_sem, zaa, zau, zav, zaw, zaz, zan, ↓reduceIte, reduceCtorEq, zaf, zaj, zaA, zaB, zaC, zao, zap, zad, zaq, zar, zal, zam, zak, zas, zay, zag, zai]
   repeat' (first
 | (apply cl_plain
    case hs => rfl
    case ha => exact yhc
    case h => (first | exact h1 .. | exact h2 .. | exact h3 ..))
 | ((first | refine s1_id ?_ | refine swp_id ?_ | refine sops_id ?_ | refine s2_id ?_); simp only [zao, zap, zad, zaq, zar, zal, zam, zak, zas, zay, zag, zai, go_sem, zaa, zau, zav, zaw, zaz, zan, ↓reduceIte, reduceCtorEq, zaf, zaj, zaA, zaB, zaC, zaQ, zaV, zaJ, zaO, renO, bk, back, outUpsFrom, Ints_ren])
 | exact yha | fail)
   repeat' (first
 | exact yhe
 | fail)
 | true =>
 (try rw [hc] at h3)
 (try rw [if_pos rfl])
 have h4 := chier_spec l n T h hl hT
 obtain ⟨hlt, hki⟩ := bsF_at Tk.i T t hb
 have hW : T.map (ptF t g) = T.set (bsV Tk.i T t) ⟨(gT T (bsV Tk.i T t)).i, (gT T (bsV Tk.i T t)).p, g, (gT T (bsV Tk.i T t)).u⟩ := by
   apply List.ext_getElem (by rw [List.length_map, zba])
   intro i h1 h2
   rw [List.length_map] at h1
   rw [List.getElem_map, List.getElem_set]
   unfold ptF
   have e0 : T.getD i Rec.z = T[i] := getD_at T i _ h1
   by_cases c : bsV Tk.i T t = i
   · rw [if_pos c]
     subst c
     rw [e0] at hki
     rw [if_pos hki, show gT T (bsV Tk.i T t) = T[bsV Tk.i T t] from getD_at T _ ztk h1]
   · rw [if_neg c]
     rw [if_neg]
     intro e
     apply c
     have := (bs_found Tk.i T (pw_ix hpw) i h1).1
     rw [e0, e] at this
     exact this
 have hle : (T.map (ptF t g)).length = T.length := List.length_map _
 rw [hW] at hle ⊢
 generalize bsV Tk.i T t = m at *
 have hpt := Cs_setf T m 2 (⟨(gT T m).i, (gT T m).p, g, (gT T m).u⟩ : Tk) (int g) (by omega) (by decide) rfl
 have hpt : (Cs T).set (m * 4 + 2) (int g) = Cs (T.set m ⟨(gT T m).i, (gT T m).p, g, (gT T m).u⟩) := hpt
 have hcl := tk_len T
 have hlt' : (m : Int) < (T.length : Int) := by omega
 generalize T.set m ⟨(gT T m).i, (gT T m).p, g, (gT T m).u⟩ = W at *
 show FnSpec Tryz.prog _ _ _ (.tup [.agg [.gsl (Cs l) 0 l.length none, int n, .gsl (Cs W) 0 W.length none, int h], i1 0]) _
 rw [hle]
 refine fnspec_of mixed TT_ok TT_cl ⟨fun _ => false, fun _ => [], 0, fun _ => false, fun _ => false⟩ Tryz.func38 rfl (by kernel_rfl) rfl 45 rfl [.cell 6 28, .tmp 7] rfl ?_
 simp only [go_sem, zaa, zau, zav, zaw, zaz, zan, ↓reduceIte, reduceCtorEq, zaf, zaj, zaA, zaB, zaC, hpt, zao, zap, zad, zaq, zar, zal, zam, zak, zas, zay, zag, zai]
 repeat' (first
 | with_reducible refine zaG ?_ ?_
 | (apply cl_plain
    case hs => rfl
    case ha => exact yhc
    case h => (first | exact h1 .. | exact h2 .. | exact h3 .. | exact h4 ..))
 | ((first | refine s1_id ?_ | refine swp_id ?_ | refine sops_id ?_ | refine s2_id ?_); simp only [hpt, zao, zap, zad, zaq, zar, zal, zam, zak, zas, zay, zag, zai, go_sem, zaa, zau, zav, zaw, zaz, zan, ↓reduceIte, reduceCtorEq, zaf, zaj, zaA, zaB, zaC, zaQ, zaV, zaJ, zaO, renO, bk, back, outUpsFrom, Ints_ren])
 | exact yhg
 | exact yha | fail)
 (refine fs_frz 29 ⟨Cs l, 6⟩ (by simp only [zaP, lookR, zaa, if_true, if_false, ↓reduceIte]) (by first | exact Ints_isG _ | exact Bools_isG _ | exact Cs_isG _ | (simp [zbd]; done)) ?_; simp only [frzTm, zbh, zbe, zaX, frzHp, frzO, Ints_frz, Bools_frz, zae, zah, zaa, if_true, if_false, ↓reduceIte])
 simp only [frzHp, frzO, Cs_frz, zae, zah]
 (refine fs_frz 30 ⟨Cs W, 4⟩ (by simp only [zaP, lookR, zaa, if_true, if_false, ↓reduceIte]) (by first | exact Ints_isG _ | exact Bools_isG _ | exact Cs_isG _ | (simp [zbd]; done)) ?_; simp only [frzTm, zbh, zbe, zaX, frzHp, frzO, Ints_frz, Bools_frz, zae, zah, zaa, if_true, if_false, ↓reduceIte])
 repeat' (first
 | exact yhe
 | fail)
def usV (D : List Int) (j : Nat) : Int := [0, 1, 2, 1, 7, -1, 1048576, 1048577].getD (nxV D j 8).toNat 0
theorem usr_spec (D : List Int) (j : Nat) (hl : D.length ≤ 600) (hr : ∀ x ∈ D, -9223372036854775808 ≤ x ∧ x ≤ 9223372036854775807) : FnSpec Tryz.prog 31 [dp] [dice D j] (i1 (usV D j)) [some (dice D (nxA D j 8))] := by
 have h := next_spec D j 8 hl hr (by decide)
 have hn := nx_rng D j 8 (by decide)
 unfold usV
 obtain ⟨x, hx⟩ : ∃ x, nxV D j 8 = x := ⟨_, rfl⟩
 rw [hx] at h hn
 rw [hx]
 clear hx
 have hc : x = 0 ∨ x = 1 ∨ x = 2 ∨ x = 3 ∨ x = 4 ∨ x = 5 ∨ x = 6 ∨ x = 7 := by omega
 rcases hc with rfl | rfl | rfl | rfl | rfl | rfl | rfl | rfl <;>
 · refine fnspec_of mixed TT_ok TT_cl ⟨fun _ => false, lendN, 1, fun _ => false, fun _ => false⟩ Tryz.func31 rfl (by kernel_rfl) rfl 8 rfl [.tmp 2] rfl ?_
   simp only [go_sem, zaa, zau, zav, zaw, zaz, zan, ↓reduceIte, reduceCtorEq, zaf, zaj, zaA, zaB, zaC, lendN]
   repeat' (first
 | with_reducible refine zaG ?_ ?_
 | (apply cl_lend
    case hr => exact yhd
    case ha => exact yhc
    case hs => rfl
    case hn => decide
    case h => (first | exact h ..)
    case hf => exact yhb
    case hl => exact yhf)
 | ((first | refine s1_id ?_ | refine swp_id ?_ | refine sops_id ?_ | refine s2_id ?_); simp only [lendN, dice, zao, zap, zad, zaq, zar, zal, zam, zak, zas, zay, zag, zai, go_sem, zaa, zau, zav, zaw, zaz, zan, ↓reduceIte, reduceCtorEq, zaf, zaj, zaA, zaB, zaC, zaQ, zaV, zaJ, zaO, renO, bk, back, outUpsFrom, Ints_ren])
 | exact yhg
 | exact yha | fail)
   (refine fs_flat [(0, dice D (nxA D j 8))] (by simp) (by simp only [zae, zah]; decide) (by simp only [go_sem, resV, resS, zaQ, zaV, zaJ, zbf, zaP, idx, renO, zaO, evS, slot, lookR, zaa, ↓reduceIte, reduceCtorEq, if_true, if_false, zaR, zaS, zae, zah, sLoad, readAt, readNeed, Ints_ren, Ints_length, Ints_getD, and_true, true_and, zaL, zaM]; try decide) ?_ (by simp only [zab, zac, false_implies, implies_true, and_true, zaP, lookR, zaa, if_true, if_false, ↓reduceIte, dice] <;> (repeat' apply zaG) <;> (first | rfl | trivial)) (by simp only [zab, zac, false_implies, implies_true, and_true, true_and, flat_cons, flat_nil, flat_ints, flat_bools, flat_app, zaK, and_self, eq_self_iff_true, zad, dice]) ?_ <;> (try simp only [go_sem, resV, resS, zaQ, zaV, zaJ, zbf, zaP, idx, renO, zaO, evS, slot, lookR, zaa, ↓reduceIte, reduceCtorEq, if_true, if_false, zaR, zaS, zae, zah, sLoad, readAt, readNeed, Ints_ren, Ints_length, Ints_getD, and_true, true_and, zaL, zaM]) <;> (try rfl))
theorem hword_spec (l : List Int) (i : Nat) (hl : l.length ≤ 600) (hr : ∀ x ∈ l, -9223372036854775808 ≤ x ∧ x ≤ 9223372036854775807) : FnSpec Tryz.prog 50 [dp] [dice l i] (s1 (wdV l i)) [some (dice l (nxA l i 12))] := by
 have h1 := next_spec l i 12 hl hr (by omega)
 have h2 := nx_rng l i 12 (by omega)
 have hat := Strs_getD' wdL (nxV l i 12).toNat (.sc (.string (bs []))) (by show _ < 12; omega)
 simp only [Strs, wdL, zae, zah, zaf] at hat
 unfold wdV wdL
 generalize nxV l i 12 = x at *
 generalize nxA l i 12 = j at *
 refine fnspec_of mixed TT_ok TT_cl ⟨fun _ => false, fun f => if f = 42 then [0] else [], 1, fun _ => false, fun _ => false⟩ Tryz.func50 rfl (by kernel_rfl) rfl 8 rfl [.tmp 2] rfl ?_
 simp only [go_sem, zaa, zau, zav, zaw, zaz, zan, ↓reduceIte, reduceCtorEq, zaf, zaj, zaA, zaB, zaC]
 repeat' (first
 | with_reducible refine zaG ?_ ?_
 | (apply cl_lend
    case hr => exact yhd
    case ha => exact yhc
    case hs => rfl
    case hn => decide
    case h => (first | exact h1 ..)
    case hf => exact yhb
    case hl => exact yhf)
 | ((first | refine s1_id ?_ | refine swp_id ?_ | refine sops_id ?_ | refine s2_id ?_); simp only [hat, dice, zaf, go_sem, zaa, zau, zav, zaw, zaz, zan, ↓reduceIte, reduceCtorEq, zaf, zaj, zaA, zaB, zaC, zaQ, zaV, zaJ, zaO, renO, bk, back, outUpsFrom, Ints_ren])
 | exact yhg
 | fail)
 (refine fs_flat [(0, dice l j)] (by simp) (by simp only [zae, zah]; decide) (by simp only [go_sem, resV, resS, zaQ, zaV, zaJ, zbf, zaP, idx, renO, zaO, evS, slot, lookR, zaa, ↓reduceIte, reduceCtorEq, if_true, if_false, zaR, zaS, zae, zah, sLoad, readAt, readNeed, Ints_ren, Ints_length, Ints_getD, and_true, true_and, zaL, zaM]; try decide) ?_ (by simp only [zab, zac, false_implies, implies_true, and_true, zaP, lookR, zaa, if_true, if_false, ↓reduceIte] <;> (repeat' apply zaG) <;> (first | rfl | trivial)) (by simp only [zab, zac, false_implies, implies_true, and_true, true_and, flat_cons, flat_nil, flat_ints, flat_bools, flat_app, zaK, and_self, eq_self_iff_true, zad]) ?_ <;> (try simp only [go_sem, resV, resS, zaQ, zaV, zaJ, zbf, zaP, idx, renO, zaO, evS, slot, lookR, zaa, ↓reduceIte, reduceCtorEq, if_true, if_false, zaR, zaS, zae, zah, sLoad, readAt, readNeed, Ints_ren, Ints_length, Ints_getD, and_true, true_and, zaL, zaM]) <;> (try rfl))
def ohK (D : List Int) (j : Nat) (l : List Nd) (n h : Int) (t : Nat) (v : Int) : (List Nd × Int × Int) × Nat :=
  if v = 0 then ((l.set t { gN l t with i := nxV D j 9 }, n, h), nxA D j 9)
  else if v = 1 then ((l.set t { gN l t with p := nxV D j 9 }, n, h), nxA D j 9)
  else if v = 2 then ((l.set t { gN l t with nm := wdV D j }, n, h), nxA D j 12)
  else if v = 3 then ((l.set t { gN l t with c := ctV D j }, n, h), nxA D j 9)
  else if v = 4 then ((l.set t { gN l t with k := nxV D j 4 - 1 }, n, h), nxA D j 4)
  else if v = 5 then ((l.set t { gN l t with o := usV D j }, n, h), nxA D j 8)
  else if v = 6 then ((l, nxV D j 9, h), nxA D j 9)
  else if v = 7 then ((l, n, nxV D j 9), nxA D j 9)
  else if v = 8 then ((l ++ [gN l t], n, h), j)
  else ((l, n, h), j)
def ohT (D : List Int) (j : Nat) (T : List Tk) (t : Nat) (v : Int) : List Tk × Nat :=
  if v = 0 then (T.set t { gT T t with i := nxV D j 9 }, nxA D j 9)
  else if v = 1 then (T.set t { gT T t with p := nxV D j 9 }, nxA D j 9)
  else if v = 2 then (T.set t { gT T t with g := nxV D j 9 }, nxA D j 9)
  else if v = 3 then (T.set t { gT T t with u := usV D j }, nxA D j 8)
  else (T, j)
def ohU (D : List Int) (T : List Tk) (j : Nat) : List Tk × Nat := if T.length = 0 then (T, j) else ohT D (nxA D (nxA D j T.length) 8) T (nxV D j T.length).toNat (nxV D (nxA D j T.length) 8)
def ohL (D : List Int) (j : Nat) (l : List Nd) (n h : Int) : (List Nd × Int × Int) × Nat := ohK D (nxA D (nxA D j l.length) 12) l n h (nxV D j l.length).toNat (nxV D (nxA D j l.length) 12)
def ohM (D : List Int) (j : Nat) (q : Hy) : Hy × Nat := (((ohL D j q.1 q.2.1 q.2.2.2).1.1, (ohL D j q.1 q.2.1 q.2.2.2).1.2.1, (ohU D q.2.2.1 (ohL D j q.1 q.2.1 q.2.2.2).2).1, (ohL D j q.1 q.2.1 q.2.2.2).1.2.2), (ohU D q.2.2.1 (ohL D j q.1 q.2.1 q.2.2.2).2).2)
theorem nd_setf (l : List Nd) (t o : Nat) (v : Nd) (c : Cell) (ht : t < l.length) (ho : o < 6) (h : ndc v = (ndc (gN l t)).set o c) : (Cs l).set (t * 6 + o) c = Cs (l.set t v) := Cs_setf l t o v c ht ho h
theorem tk_setf (l : List Tk) (t o : Nat) (v : Tk) (c : Cell) (ht : t < l.length) (ho : o < 4) (h : tkc v = (tkc (gT l t)).set o c) : (Cs l).set (t * 4 + o) c = Cs (l.set t v) := Cs_setf l t o v c ht ho h
theorem oh_len (D : List Int) (j : Nat) (l : List Nd) (n h : Int) : l.length ≤ (ohL D j l n h).1.1.length ∧ (ohL D j l n h).1.1.length ≤ l.length + 1 := by
 unfold ohL ohK
 repeat' split
 all_goals simp only [zba, snoc_len]
 all_goals omega
theorem oh_tl (D : List Int) (T : List Tk) (j : Nat) : (ohU D T j).1.length = T.length := by
 unfold ohU ohT
 repeat' split
 all_goals simp only [zba]
def lendH : FuncId → List Nat := fun f => if f = 42 then [0] else if f = 50 then [0] else if f = 51 then [0] else if f = 31 then [0] else []
set_option maxHeartbeats 16000000 in
theorem oddh6_spec (D : List Int) (hl : D.length ≤ 600) (hr : ∀ x ∈ D, -9223372036854775808 ≤ x ∧ x ≤ 9223372036854775807) (j : Nat) (l : List Nd) (n : Int) (T : List Tk) (h : Int) (h1 : 1 ≤ l.length) (hL : l.length ≤ 1000) (hT : T.length ≤ 1000) : FnSpec Tryz.prog 10 [dp, hyV l none n T none h] [dice D j] (hyQ (ohM D j (l, n, T, h)).1) [some (dice D (ohM D j (l, n, T, h)).2)] := by
 have c1 := rhcopy_spec l n T h h1 (by omega) (by omega)
 have n1 := next_spec D j l.length hl hr (by omega)
 have r1 := nx_rng D j l.length (by omega)
 have hol := oh_len D j l n h
 obtain ⟨S, hS⟩ : ∃ S, ohL D j l n h = S := ⟨_, rfl⟩
 unfold ohM
 simp only
 rw [hS] at hol ⊢
 unfold ohL at hS
 generalize nxA D j l.length = j1 at *
 obtain ⟨t, ht, htl⟩ : ∃ t : Nat, nxV D j l.length = t ∧ t < l.length := ⟨(nxV D j l.length).toNat, by omega, by omega⟩
 rw [ht] at n1
 rw [ht, zbg] at hS
 have n2 := next_spec D j1 12 hl hr (by decide)
 have r2 := nx_rng D j1 12 (by decide)
 obtain ⟨v, hv⟩ : ∃ v, nxV D j1 12 = v := ⟨_, rfl⟩
 rw [hv] at n2 r2 hS
 generalize nxA D j1 12 = j2 at *
 clear ht hv r1
 have hlc := nd_len l
 have htc := tk_len T
 have htl' : (t : Int) < (l.length : Int) := by omega
 obtain ⟨⟨l', n', h'⟩, j'⟩ := S
 simp only at hol ⊢
 have a9 := next_spec D j2 9 hl hr (by decide)
 have a4 := next_spec D j2 4 hl hr (by decide)
 have aw := hword_spec D j2 hl hr
 have ac := ctl_spec D j2 hl hr
 have au := usr_spec D j2 hl hr
 have r4 := nx_rng D j2 4 (by decide)
 have hat := nd_td l t htl
 have hsn : Cs l ++ [int (gN l t).i, int (gN l t).p, st (gN l t).nm, int (gN l t).c, int (gN l t).k, int (gN l t).o] = Cs (l ++ [gN l t]) := Cs_snoc l (gN l t)
 have hla : List.take (l.length * 6) (Cs l) = Cs l := Cs_all l _ (Nat.le_refl _)
 refine fnspec_of mixed TT_ok TT_cl ⟨fun i => if i = 22 then true else false, lendH, 1, fun _ => false, fun _ => false⟩ Tryz.func10 rfl (by kernel_rfl) rfl 131 rfl [.cell 4 28] rfl ?_
 simp only [go_sem, zaa, zau, zav, zaw, zaz, zan, ↓reduceIte, reduceCtorEq, zaf, zaj, zaA, zaB, zaC, lendH, dice, decide_eq_true htl', zao, zap, zad, zaq, zar, zal, zam, zak, zas, zay, zag, zai]
 repeat' (first
 | with_reducible refine zaG ?_ ?_
 | (unfold OKC; kernel_rfl)
 | (unfold EDG; kernel_rfl)
 | (apply cl_plain
    case hs => rfl
    case ha => exact yhc
    case h => (first | exact c1 .. | exact n1 .. | exact n2 ..))
 | (apply cl_lend
    case hr => exact yhd
    case ha => exact yhc
    case hs => rfl
    case hn => decide
    case h => (first | exact c1 .. | exact n1 .. | exact n2 ..)
    case hf => exact yhb
    case hl => exact yhf)
 | ((first | refine s1_id ?_ | refine swp_id ?_ | refine sops_id ?_ | refine s2_id ?_); simp only [lendH, dice, decide_eq_true htl', zao, zap, zad, zaq, zar, zal, zam, zak, zas, zay, zag, zai, go_sem, zaa, zau, zav, zaw, zaz, zan, ↓reduceIte, reduceCtorEq, zaf, zaj, zaA, zaB, zaC, zaQ, zaV, zaJ, zaO, renO, bk, back, outUpsFrom, Ints_ren])
 | exact yhg
 | exact yha | fail)
 refine cd_cut1 ⟨[(0, dp), (4, .one (.optr 1 0)), (5, .one (.optr 2 0))], [(0, some (dice D j')), (1, some ⟨[.sc (.slice none 0 0), int 0, .sc (.slice none 0 0), int 0], 4⟩), (2, some ⟨[.osl 3 0 l'.length none, int n', .osl 4 0 T.length none, int h'], 4⟩), (3, some ⟨Cs l', 6⟩), (4, some ⟨Cs T, 4⟩)], 5⟩ (fun hc => ?_) (fun hc => ?_) ?_
 · have hc := of_decide_eq_true hc
   unfold ohK at hS
   rw [if_pos (by omega)] at hS
   simp only [Prod.mk.injEq] at hS
   obtain ⟨⟨rfl, rfl, rfl⟩, rfl⟩ := hS
   have hpt := nd_setf l t 0 { gN l t with i := nxV D j2 9 } (int (nxV D j2 9)) htl (by decide) rfl
   rw [Nat.add_zero] at hpt
   simp only [go_sem, zaa, zau, zav, zaw, zaz, zan, ↓reduceIte, reduceCtorEq, zaf, zaj, zaA, zaB, zaC, decide_eq_true (by omega : v = 0), hpt, hlc, lendH, dice, zao, zap, zad, zaq, zar, zal, zam, zak, zas, zay, zag, zai]
   repeat' (first
 | with_reducible refine zaG ?_ ?_
 | (apply cl_lend
    case hr => exact yhd
    case ha => exact yhc
    case hs => rfl
    case hn => decide
    case h => (first | exact a9 ..)
    case hf => exact yhb
    case hl => exact yhf)
 | ((first | refine s1_id ?_ | refine swp_id ?_ | refine sops_id ?_ | refine s2_id ?_); simp only [decide_eq_true (by omega : v = 0), hpt, hlc, lendH, dice, zao, zap, zad, zaq, zar, zal, zam, zak, zas, zay, zag, zai, go_sem, zaa, zau, zav, zaw, zaz, zan, ↓reduceIte, reduceCtorEq, zaf, zaj, zaA, zaB, zaC, zaQ, zaV, zaJ, zaO, renO, bk, back, outUpsFrom, Ints_ren])
 | exact yhg
 | exact yha | fail)
   refine ⟨_, ?_, rfl⟩
   (refine imp_sub _ _ _ [(0, 0), (1, 2), (2, 6), (3, 4), (4, 5)] (by simp) (by simp) (by simp) (zaI rfl) ?_ (by simp only [zae, zah, zaP, lookR, renO, zaO, zaJ, toN, Ints_ren, Bools_ren, zaa, if_true, if_false, ↓reduceIte, Cs_ren, Cs_flat, dice, zba] <;> (try rfl)) (by simp only [zab, zac, false_implies, implies_true, and_true, zaP, lookR, zaa, if_true, if_false, ↓reduceIte, Option.some.injEq, forall_eq'] <;> ((repeat' with_reducible apply zaG) <;> (first | with_reducible trivial | exact fun c hc q hq => absurd hq (Ints_refs0 _ _ c hc) | exact fun c hc q hq => absurd hq (by rw [Cs_flat _ c hc]; exact zac) | (simp [zaK, toN]; done)))); simp only [zae, zah, zab, zac, false_implies, implies_true, and_true, lk, slot, zaQ, zaJ, toN, zaa, if_true, if_false, ↓reduceIte, reduceCtorEq])
   all_goals ((repeat' apply zaG) <;> (first | rfl | trivial))
 · have hc := of_decide_eq_false hc
   have hv : v = 1 ∨ v = 2 ∨ v = 3 ∨ v = 4 ∨ v = 5 ∨ v = 6 ∨ v = 7 ∨ v = 8 ∨ 9 ≤ v := by omega
   rcases hv with hv | hv | hv | hv | hv | hv | hv | hv | hv
   · unfold ohK at hS
     rw [if_neg (by omega), if_pos (by omega)] at hS
     simp only [Prod.mk.injEq] at hS
     obtain ⟨⟨rfl, rfl, rfl⟩, rfl⟩ := hS
     have hpt := nd_setf l t 1 { gN l t with p := nxV D j2 9 } (int (nxV D j2 9)) htl (by decide) rfl
     simp only [go_sem, zaa, zau, zav, zaw, zaz, zan, ↓reduceIte, reduceCtorEq, zaf, zaj, zaA, zaB, zaC, decide_eq_false (by omega : ¬ v = 0), decide_eq_true (by omega : v = 1), hpt, hlc, lendH, dice, zao, zap, zad, zaq, zar, zal, zam, zak, zas, zay, zag, zai]
     repeat' (first
 | with_reducible refine zaG ?_ ?_
 | (apply cl_lend
    case hr => exact yhd
    case ha => exact yhc
    case hs => rfl
    case hn => decide
    case h => (first | exact a9 ..)
    case hf => exact yhb
    case hl => exact yhf)
 | ((first | refine s1_id ?_ | refine swp_id ?_ | refine sops_id ?_ | refine s2_id ?_); simp only [decide_eq_false (by omega : ¬ v = 0), decide_eq_true (by omega : v = 1), hpt, hlc, lendH, dice, zao, zap, zad, zaq, zar, zal, zam, zak, zas, zay, zag, zai, go_sem, zaa, zau, zav, zaw, zaz, zan, ↓reduceIte, reduceCtorEq, zaf, zaj, zaA, zaB, zaC, zaQ, zaV, zaJ, zaO, renO, bk, back, outUpsFrom, Ints_ren])
 | exact yhg
 | exact yha | fail)
     refine ⟨_, ?_, rfl⟩
     (refine imp_sub _ _ _ [(0, 0), (1, 2), (2, 6), (3, 4), (4, 5)] (by simp) (by simp) (by simp) (zaI rfl) ?_ (by simp only [zae, zah, zaP, lookR, renO, zaO, zaJ, toN, Ints_ren, Bools_ren, zaa, if_true, if_false, ↓reduceIte, Cs_ren, Cs_flat, dice, zba] <;> (try rfl)) (by simp only [zab, zac, false_implies, implies_true, and_true, zaP, lookR, zaa, if_true, if_false, ↓reduceIte, Option.some.injEq, forall_eq'] <;> ((repeat' with_reducible apply zaG) <;> (first | with_reducible trivial | exact fun c hc q hq => absurd hq (Ints_refs0 _ _ c hc) | exact fun c hc q hq => absurd hq (by rw [Cs_flat _ c hc]; exact zac) | (simp [zaK, toN]; done)))); simp only [zae, zah, zab, zac, false_implies, implies_true, and_true, lk, slot, zaQ, zaJ, toN, zaa, if_true, if_false, ↓reduceIte, reduceCtorEq])
     all_goals ((repeat' apply zaG) <;> (first | rfl | trivial))
   · unfold ohK at hS
     rw [if_neg (by omega), if_neg (by omega), if_pos (by omega)] at hS
     simp only [Prod.mk.injEq] at hS
     obtain ⟨⟨rfl, rfl, rfl⟩, rfl⟩ := hS
     have hpt := nd_setf l t 2 { gN l t with nm := wdV D j2 } (st (wdV D j2)) htl (by decide) rfl
     simp only [go_sem, zaa, zau, zav, zaw, zaz, zan, ↓reduceIte, reduceCtorEq, zaf, zaj, zaA, zaB, zaC, decide_eq_false (by omega : ¬ v = 0), decide_eq_false (by omega : ¬ v = 1), decide_eq_true (by omega : v = 2), hpt, hlc, lendH, dice, zao, zap, zad, zaq, zar, zal, zam, zak, zas, zay, zag, zai]
     repeat' (first
 | with_reducible refine zaG ?_ ?_
 | (apply cl_lend
    case hr => exact yhd
    case ha => exact yhc
    case hs => rfl
    case hn => decide
    case h => (first | exact aw ..)
    case hf => exact yhb
    case hl => exact yhf)
 | ((first | refine s1_id ?_ | refine swp_id ?_ | refine sops_id ?_ | refine s2_id ?_); simp only [decide_eq_false (by omega : ¬ v = 0), decide_eq_false (by omega : ¬ v = 1), decide_eq_true (by omega : v = 2), hpt, hlc, lendH, dice, zao, zap, zad, zaq, zar, zal, zam, zak, zas, zay, zag, zai, go_sem, zaa, zau, zav, zaw, zaz, zan, ↓reduceIte, reduceCtorEq, zaf, zaj, zaA, zaB, zaC, zaQ, zaV, zaJ, zaO, renO, bk, back, outUpsFrom, Ints_ren])
 | exact yhg
 | exact yha | fail)
     refine ⟨_, ?_, rfl⟩
     (refine imp_sub _ _ _ [(0, 0), (1, 2), (2, 6), (3, 4), (4, 5)] (by simp) (by simp) (by simp) (zaI rfl) ?_ (by simp only [zae, zah, zaP, lookR, renO, zaO, zaJ, toN, Ints_ren, Bools_ren, zaa, if_true, if_false, ↓reduceIte, Cs_ren, Cs_flat, dice, zba] <;> (try rfl)) (by simp only [zab, zac, false_implies, implies_true, and_true, zaP, lookR, zaa, if_true, if_false, ↓reduceIte, Option.some.injEq, forall_eq'] <;> ((repeat' with_reducible apply zaG) <;> (first | with_reducible trivial | exact fun c hc q hq => absurd hq (Ints_refs0 _ _ c hc) | exact fun c hc q hq => absurd hq (by rw [Cs_flat _ c hc]; exact zac) | (simp [zaK, toN]; done)))); simp only [zae, zah, zab, zac, false_implies, implies_true, and_true, lk, slot, zaQ, zaJ, toN, zaa, if_true, if_false, ↓reduceIte, reduceCtorEq])
     all_goals ((repeat' apply zaG) <;> (first | rfl | trivial))
   · unfold ohK at hS
     rw [if_neg (by omega), if_neg (by omega), if_neg (by omega), if_pos (by omega)] at hS
     simp only [Prod.mk.injEq] at hS
     obtain ⟨⟨rfl, rfl, rfl⟩, rfl⟩ := hS
     have hpt := nd_setf l t 3 { gN l t with c := ctV D j2 } (int (ctV D j2)) htl (by decide) rfl
     simp only [go_sem, zaa, zau, zav, zaw, zaz, zan, ↓reduceIte, reduceCtorEq, zaf, zaj, zaA, zaB, zaC, decide_eq_false (by omega : ¬ v = 0), decide_eq_false (by omega : ¬ v = 1), decide_eq_false (by omega : ¬ v = 2), decide_eq_true (by omega : v = 3), hpt, hlc, lendH, dice, zao, zap, zad, zaq, zar, zal, zam, zak, zas, zay, zag, zai]
     repeat' (first
 | with_reducible refine zaG ?_ ?_
 | (apply cl_lend
    case hr => exact yhd
    case ha => exact yhc
    case hs => rfl
    case hn => decide
    case h => (first | exact ac ..)
    case hf => exact yhb
    case hl => exact yhf)
 | ((first | refine s1_id ?_ | refine swp_id ?_ | refine sops_id ?_ | refine s2_id ?_); simp only [decide_eq_false (by omega : ¬ v = 0), decide_eq_false (by omega : ¬ v = 1), decide_eq_false (by omega : ¬ v = 2), decide_eq_true (by omega : v = 3), hpt, hlc, lendH, dice, zao, zap, zad, zaq, zar, zal, zam, zak, zas, zay, zag, zai, go_sem, zaa, zau, zav, zaw, zaz, zan, ↓reduceIte, reduceCtorEq, zaf, zaj, zaA, zaB, zaC, zaQ, zaV, zaJ, zaO, renO, bk, back, outUpsFrom, Ints_ren])
 | exact yhg
 | exact yha | fail)
     refine ⟨_, ?_, rfl⟩
     (refine imp_sub _ _ _ [(0, 0), (1, 2), (2, 6), (3, 4), (4, 5)] (by simp) (by simp) (by simp) (zaI rfl) ?_ (by simp only [zae, zah, zaP, lookR, renO, zaO, zaJ, toN, Ints_ren, Bools_ren, zaa, if_true, if_false, ↓reduceIte, Cs_ren, Cs_flat, dice, zba] <;> (try rfl)) (by simp only [zab, zac, false_implies, implies_true, and_true, zaP, lookR, zaa, if_true, if_false, ↓reduceIte, Option.some.injEq, forall_eq'] <;> ((repeat' with_reducible apply zaG) <;> (first | with_reducible trivial | exact fun c hc q hq => absurd hq (Ints_refs0 _ _ c hc) | exact fun c hc q hq => absurd hq (by rw [Cs_flat _ c hc]; exact zac) | (simp [zaK, toN]; done)))); simp only [zae, zah, zab, zac, false_implies, implies_true, and_true, lk, slot, zaQ, zaJ, toN, zaa, if_true, if_false, ↓reduceIte, reduceCtorEq])
     all_goals ((repeat' apply zaG) <;> (first | rfl | trivial))
   · unfold ohK at hS
     rw [if_neg (by omega), if_neg (by omega), if_neg (by omega), if_neg (by omega), if_pos (by omega)] at hS
     simp only [Prod.mk.injEq] at hS
     obtain ⟨⟨rfl, rfl, rfl⟩, rfl⟩ := hS
     have hpt := nd_setf l t 4 { gN l t with k := nxV D j2 4 - 1 } (int (nxV D j2 4 - 1)) htl (by decide) rfl
     simp only [go_sem, zaa, zau, zav, zaw, zaz, zan, ↓reduceIte, reduceCtorEq, zaf, zaj, zaA, zaB, zaC, decide_eq_false (by omega : ¬ v = 0), decide_eq_false (by omega : ¬ v = 1), decide_eq_false (by omega : ¬ v = 2), decide_eq_false (by omega : ¬ v = 3), decide_eq_true (by omega : v = 4), hpt, hlc, lendH, dice, zao, zap, zad, zaq, zar, zal, zam, zak, zas, zay, zag, zai]
     repeat' (first
 | with_reducible refine zaG ?_ ?_
 | (apply cl_lend
    case hr => exact yhd
    case ha => exact yhc
    case hs => rfl
    case hn => decide
    case h => (first | exact a4 ..)
    case hf => exact yhb
    case hl => exact yhf)
 | ((first | refine s1_id ?_ | refine swp_id ?_ | refine sops_id ?_ | refine s2_id ?_); simp only [decide_eq_false (by omega : ¬ v = 0), decide_eq_false (by omega : ¬ v = 1), decide_eq_false (by omega : ¬ v = 2), decide_eq_false (by omega : ¬ v = 3), decide_eq_true (by omega : v = 4), hpt, hlc, lendH, dice, zao, zap, zad, zaq, zar, zal, zam, zak, zas, zay, zag, zai, go_sem, zaa, zau, zav, zaw, zaz, zan, ↓reduceIte, reduceCtorEq, zaf, zaj, zaA, zaB, zaC, zaQ, zaV, zaJ, zaO, renO, bk, back, outUpsFrom, Ints_ren])
 | exact yhg
 | exact yha | fail)
     refine ⟨_, ?_, rfl⟩
     (refine imp_sub _ _ _ [(0, 0), (1, 2), (2, 6), (3, 4), (4, 5)] (by simp) (by simp) (by simp) (zaI rfl) ?_ (by simp only [zae, zah, zaP, lookR, renO, zaO, zaJ, toN, Ints_ren, Bools_ren, zaa, if_true, if_false, ↓reduceIte, Cs_ren, Cs_flat, dice, zba] <;> (try rfl)) (by simp only [zab, zac, false_implies, implies_true, and_true, zaP, lookR, zaa, if_true, if_false, ↓reduceIte, Option.some.injEq, forall_eq'] <;> ((repeat' with_reducible apply zaG) <;> (first | with_reducible trivial | exact fun c hc q hq => absurd hq (Ints_refs0 _ _ c hc) | exact fun c hc q hq => absurd hq (by rw [Cs_flat _ c hc]; exact zac) | (simp [zaK, toN]; done)))); simp only [zae, zah, zab, zac, false_implies, implies_true, and_true, lk, slot, zaQ, zaJ, toN, zaa, if_true, if_false, ↓reduceIte, reduceCtorEq])
     all_goals ((repeat' apply zaG) <;> (first | rfl | trivial))
   · unfold ohK at hS
     rw [if_neg (by omega), if_neg (by omega), if_neg (by omega), if_neg (by omega), if_neg (by omega), if_pos (by omega)] at hS
     simp only [Prod.mk.injEq] at hS
     obtain ⟨⟨rfl, rfl, rfl⟩, rfl⟩ := hS
     have hpt := nd_setf l t 5 { gN l t with o := usV D j2 } (int (usV D j2)) htl (by decide) rfl
     simp only [go_sem, zaa, zau, zav, zaw, zaz, zan, ↓reduceIte, reduceCtorEq, zaf, zaj, zaA, zaB, zaC, decide_eq_false (by omega : ¬ v = 0), decide_eq_false (by omega : ¬ v = 1), decide_eq_false (by omega : ¬ v = 2), decide_eq_false (by omega : ¬ v = 3), decide_eq_false (by omega : ¬ v = 4), decide_eq_true (by omega : v = 5), hpt, hlc, lendH, dice, zao, zap, zad, zaq, zar, zal, zam, zak, zas, zay, zag, zai]
     repeat' (first
 | with_reducible refine zaG ?_ ?_
 | (apply cl_lend
    case hr => exact yhd
    case ha => exact yhc
    case hs => rfl
    case hn => decide
    case h => (first | exact au ..)
    case hf => exact yhb
    case hl => exact yhf)
 | ((first | refine s1_id ?_ | refine swp_id ?_ | refine sops_id ?_ | refine s2_id ?_); simp only [decide_eq_false (by omega : ¬ v = 0), decide_eq_false (by omega : ¬ v = 1), decide_eq_false (by omega : ¬ v = 2), decide_eq_false (by omega : ¬ v = 3), decide_eq_false (by omega : ¬ v = 4), decide_eq_true (by omega : v = 5), hpt, hlc, lendH, dice, zao, zap, zad, zaq, zar, zal, zam, zak, zas, zay, zag, zai, go_sem, zaa, zau, zav, zaw, zaz, zan, ↓reduceIte, reduceCtorEq, zaf, zaj, zaA, zaB, zaC, zaQ, zaV, zaJ, zaO, renO, bk, back, outUpsFrom, Ints_ren])
 | exact yhg
 | exact yha | fail)
     refine ⟨_, ?_, rfl⟩
     (refine imp_sub _ _ _ [(0, 0), (1, 2), (2, 6), (3, 4), (4, 5)] (by simp) (by simp) (by simp) (zaI rfl) ?_ (by simp only [zae, zah, zaP, lookR, renO, zaO, zaJ, toN, Ints_ren, Bools_ren, zaa, if_true, if_false, ↓reduceIte, Cs_ren, Cs_flat, dice, zba] <;> (try rfl)) (by simp only [zab, zac, false_implies, implies_true, and_true, zaP, lookR, zaa, if_true, if_false, ↓reduceIte, Option.some.injEq, forall_eq'] <;> ((repeat' with_reducible apply zaG) <;> (first | with_reducible trivial | exact fun c hc q hq => absurd hq (Ints_refs0 _ _ c hc) | exact fun c hc q hq => absurd hq (by rw [Cs_flat _ c hc]; exact zac) | (simp [zaK, toN]; done)))); simp only [zae, zah, zab, zac, false_implies, implies_true, and_true, lk, slot, zaQ, zaJ, toN, zaa, if_true, if_false, ↓reduceIte, reduceCtorEq])
     all_goals ((repeat' apply zaG) <;> (first | rfl | trivial))
   · unfold ohK at hS
     rw [if_neg (by omega), if_neg (by omega), if_neg (by omega), if_neg (by omega), if_neg (by omega), if_neg (by omega), if_pos (by omega)] at hS
     simp only [Prod.mk.injEq] at hS
     obtain ⟨⟨rfl, rfl, rfl⟩, rfl⟩ := hS
     simp only [go_sem, zaa, zau, zav, zaw, zaz, zan, ↓reduceIte, reduceCtorEq, zaf, zaj, zaA, zaB, zaC, decide_eq_false (by omega : ¬ v = 0), decide_eq_false (by omega : ¬ v = 1), decide_eq_false (by omega : ¬ v = 2), decide_eq_false (by omega : ¬ v = 3), decide_eq_false (by omega : ¬ v = 4), decide_eq_false (by omega : ¬ v = 5), decide_eq_true (by omega : v = 6), lendH, dice, zao, zap, zad, zaq, zar, zal, zam, zak, zas, zay, zag, zai]
     repeat' (first
 | (apply cl_lend
    case hr => exact yhd
    case ha => exact yhc
    case hs => rfl
    case hn => decide
    case h => (first | exact a9 ..)
    case hf => exact yhb
    case hl => exact yhf)
 | ((first | refine s1_id ?_ | refine swp_id ?_ | refine sops_id ?_ | refine s2_id ?_); simp only [decide_eq_false (by omega : ¬ v = 0), decide_eq_false (by omega : ¬ v = 1), decide_eq_false (by omega : ¬ v = 2), decide_eq_false (by omega : ¬ v = 3), decide_eq_false (by omega : ¬ v = 4), decide_eq_false (by omega : ¬ v = 5), decide_eq_true (by omega : v = 6), lendH, dice, zao, zap, zad, zaq, zar, zal, zam, zak, zas, zay, zag, zai, go_sem, zaa, zau, zav, zaw, zaz, zan, ↓reduceIte, reduceCtorEq, zaf, zaj, zaA, zaB, zaC, zaQ, zaV, zaJ, zaO, renO, bk, back, outUpsFrom, Ints_ren])
 | exact yha | fail)
     refine ⟨_, ?_, rfl⟩
     (refine imp_sub _ _ _ [(0, 0), (1, 2), (2, 6), (3, 4), (4, 5)] (by simp) (by simp) (by simp) (zaI rfl) ?_ (by simp only [zae, zah, zaP, lookR, renO, zaO, zaJ, toN, Ints_ren, Bools_ren, zaa, if_true, if_false, ↓reduceIte, Cs_ren, Cs_flat, dice] <;> (try rfl)) (by simp only [zab, zac, false_implies, implies_true, and_true, zaP, lookR, zaa, if_true, if_false, ↓reduceIte, Option.some.injEq, forall_eq'] <;> ((repeat' with_reducible apply zaG) <;> (first | with_reducible trivial | exact fun c hc q hq => absurd hq (Ints_refs0 _ _ c hc) | exact fun c hc q hq => absurd hq (by rw [Cs_flat _ c hc]; exact zac) | (simp [zaK, toN]; done)))); simp only [zae, zah, zab, zac, false_implies, implies_true, and_true, lk, slot, zaQ, zaJ, toN, zaa, if_true, if_false, ↓reduceIte, reduceCtorEq])
     all_goals ((repeat' apply zaG) <;> (first | rfl | trivial))
   · unfold ohK at hS
     rw [if_neg (by omega), if_neg (by omega), if_neg (by omega), if_neg (by omega), if_neg (by omega), if_neg (by omega), if_neg (by omega), if_pos (by omega)] at hS
     simp only [Prod.mk.injEq] at hS
     obtain ⟨⟨rfl, rfl, rfl⟩, rfl⟩ := hS
     simp only [go_sem, zaa, zau, zav, zaw, zaz, zan, ↓reduceIte, reduceCtorEq, zaf, zaj, zaA, zaB, zaC, decide_eq_false (by omega : ¬ v = 0), decide_eq_false (by omega : ¬ v = 1), decide_eq_false (by omega : ¬ v = 2), decide_eq_false (by omega : ¬ v = 3), decide_eq_false (by omega : ¬ v = 4), decide_eq_false (by omega : ¬ v = 5), decide_eq_false (by omega : ¬ v = 6), decide_eq_true (by omega : v = 7), lendH, dice, zao, zap, zad, zaq, zar, zal, zam, zak, zas, zay, zag, zai]
     repeat' (first
 | (apply cl_lend
    case hr => exact yhd
    case ha => exact yhc
    case hs => rfl
    case hn => decide
    case h => (first | exact a9 ..)
    case hf => exact yhb
    case hl => exact yhf)
 | ((first | refine s1_id ?_ | refine swp_id ?_ | refine sops_id ?_ | refine s2_id ?_); simp only [decide_eq_false (by omega : ¬ v = 0), decide_eq_false (by omega : ¬ v = 1), decide_eq_false (by omega : ¬ v = 2), decide_eq_false (by omega : ¬ v = 3), decide_eq_false (by omega : ¬ v = 4), decide_eq_false (by omega : ¬ v = 5), decide_eq_false (by omega : ¬ v = 6), decide_eq_true (by omega : v = 7), lendH, dice, zao, zap, zad, zaq, zar, zal, zam, zak, zas, zay, zag, zai, go_sem, zaa, zau, zav, zaw, zaz, zan, ↓reduceIte, reduceCtorEq, zaf, zaj, zaA, zaB, zaC, zaQ, zaV, zaJ, zaO, renO, bk, back, outUpsFrom, Ints_ren])
 | exact yha | fail)
     refine ⟨_, ?_, rfl⟩
     (refine imp_sub _ _ _ [(0, 0), (1, 2), (2, 6), (3, 4), (4, 5)] (by simp) (by simp) (by simp) (zaI rfl) ?_ (by simp only [zae, zah, zaP, lookR, renO, zaO, zaJ, toN, Ints_ren, Bools_ren, zaa, if_true, if_false, ↓reduceIte, Cs_ren, Cs_flat, dice] <;> (try rfl)) (by simp only [zab, zac, false_implies, implies_true, and_true, zaP, lookR, zaa, if_true, if_false, ↓reduceIte, Option.some.injEq, forall_eq'] <;> ((repeat' with_reducible apply zaG) <;> (first | with_reducible trivial | exact fun c hc q hq => absurd hq (Ints_refs0 _ _ c hc) | exact fun c hc q hq => absurd hq (by rw [Cs_flat _ c hc]; exact zac) | (simp [zaK, toN]; done)))); simp only [zae, zah, zab, zac, false_implies, implies_true, and_true, lk, slot, zaQ, zaJ, toN, zaa, if_true, if_false, ↓reduceIte, reduceCtorEq])
     all_goals ((repeat' apply zaG) <;> (first | rfl | trivial))
   · unfold ohK at hS
     rw [if_neg (by omega), if_neg (by omega), if_neg (by omega), if_neg (by omega), if_neg (by omega), if_neg (by omega), if_neg (by omega), if_neg (by omega), if_pos (by omega)] at hS
     simp only [Prod.mk.injEq] at hS
     obtain ⟨⟨rfl, rfl, rfl⟩, rfl⟩ := hS
     simp only [go_sem, zaa, zau, zav, zaw, zaz, zan, ↓reduceIte, reduceCtorEq, zaf, zaj, zaA, zaB, zaC, decide_eq_false (by omega : ¬ v = 0), decide_eq_false (by omega : ¬ v = 1), decide_eq_false (by omega : ¬ v = 2), decide_eq_false (by omega : ¬ v = 3), decide_eq_false (by omega : ¬ v = 4), decide_eq_false (by omega : ¬ v = 5), decide_eq_false (by omega : ¬ v = 6), decide_eq_false (by omega : ¬ v = 7), decide_eq_true (by omega : v = 8), hat, hla, hsn, hlc, lendH, dice, zao, zap, zad, zaq, zar, zal, zam, zak, zas, zay, zag, zai]
     repeat' (first
 | with_reducible refine zaG ?_ ?_
 | (unfold OKC; kernel_rfl)
 | (unfold EDG; kernel_rfl)
 | exact yhg
 | exact yha | fail)
     refine ⟨_, ?_, rfl⟩
     (refine imp_sub _ _ _ [(0, 0), (1, 2), (2, 6), (3, 46), (4, 5)] (by simp) (by simp) (by simp) (zaI rfl) ?_ (by simp only [zae, zah, zaP, lookR, renO, zaO, zaJ, toN, Ints_ren, Bools_ren, zaa, if_true, if_false, ↓reduceIte, Cs_ren, Cs_flat, dice, snoc_len] <;> (try rfl)) (by simp only [zab, zac, false_implies, implies_true, and_true, zaP, lookR, zaa, if_true, if_false, ↓reduceIte, Option.some.injEq, forall_eq'] <;> ((repeat' with_reducible apply zaG) <;> (first | with_reducible trivial | exact fun c hc q hq => absurd hq (Ints_refs0 _ _ c hc) | exact fun c hc q hq => absurd hq (by rw [Cs_flat _ c hc]; exact zac) | (simp [zaK, toN]; done)))); simp only [zae, zah, zab, zac, false_implies, implies_true, and_true, lk, slot, zaQ, zaJ, toN, zaa, if_true, if_false, ↓reduceIte, reduceCtorEq])
     all_goals ((repeat' apply zaG) <;> (first | rfl | trivial))
   · unfold ohK at hS
     rw [if_neg (by omega), if_neg (by omega), if_neg (by omega), if_neg (by omega), if_neg (by omega), if_neg (by omega), if_neg (by omega), if_neg (by omega), if_neg (by omega)] at hS
     simp only [Prod.mk.injEq] at hS
     obtain ⟨⟨rfl, rfl, rfl⟩, rfl⟩ := hS
     simp only [go_sem, zaa, zau, zav, zaw, zaz, zan, ↓reduceIte, reduceCtorEq, zaf, zaj, zaA, zaB, zaC, decide_eq_false (by omega : ¬ v = 0), decide_eq_false (by omega : ¬ v = 1), decide_eq_false (by omega : ¬ v = 2), decide_eq_false (by omega : ¬ v = 3), decide_eq_false (by omega : ¬ v = 4), decide_eq_false (by omega : ¬ v = 5), decide_eq_false (by omega : ¬ v = 6), decide_eq_false (by omega : ¬ v = 7), decide_eq_false (by omega : ¬ v = 8), lendH, dice, zao, zap, zad, zaq, zar, zal, zam, zak, zas, zay, zag, zai]
     repeat' (first
 | exact yha | fail)
     refine ⟨_, ?_, rfl⟩
     (refine imp_sub _ _ _ [(0, 0), (1, 2), (2, 6), (3, 4), (4, 5)] (by simp) (by simp) (by simp) (zaI rfl) ?_ (by simp only [zae, zah, zaP, lookR, renO, zaO, zaJ, toN, Ints_ren, Bools_ren, zaa, if_true, if_false, ↓reduceIte, Cs_ren, Cs_flat, dice] <;> (try rfl)) (by simp only [zab, zac, false_implies, implies_true, and_true, zaP, lookR, zaa, if_true, if_false, ↓reduceIte, Option.some.injEq, forall_eq'] <;> ((repeat' with_reducible apply zaG) <;> (first | with_reducible trivial | exact fun c hc q hq => absurd hq (Ints_refs0 _ _ c hc) | exact fun c hc q hq => absurd hq (by rw [Cs_flat _ c hc]; exact zac) | (simp [zaK, toN]; done)))); simp only [zae, zah, zab, zac, false_implies, implies_true, and_true, lk, slot, zaQ, zaJ, toN, zaa, if_true, if_false, ↓reduceIte, reduceCtorEq])
     all_goals ((repeat' apply zaG) <;> (first | rfl | trivial))
 clear n1 n2 r2 c1 hS hat hsn hla a9 a4 aw ac au r4 hlc
 have hlc' := nd_len l'
 have htn := oh_tl D T j'
 unfold ohU at htn ⊢
 by_cases h0 : T.length = 0
 · rw [if_pos h0]
   have h0' : ¬ 0 < (T.length : Int) := by omega
   simp only [go_sem, zaa, zau, zav, zaw, zaz, zan, ↓reduceIte, reduceCtorEq, zaf, zaj, zaA, zaB, zaC, lendH, dice, decide_eq_false h0', zao, zap, zad, zaq, zar, zal, zam, zak, zas, zay, zag, zai]
   repeat' (first
 | exact yha | fail)
   (refine fs_frz 3 ⟨Cs l', 6⟩ (by simp only [zaP, lookR, zaa, if_true, if_false, ↓reduceIte]) (by first | exact Ints_isG _ | exact Bools_isG _ | exact Cs_isG _ | (simp [zbd]; done)) ?_; simp only [frzTm, zbh, zbe, zaX, frzHp, frzO, Ints_frz, Bools_frz, zae, zah, zaa, if_true, if_false, ↓reduceIte])
   simp only [frzHp, frzO, Cs_frz, Ints_frz, zaX, zae, zah]
   (refine fs_frz 4 ⟨Cs T, 4⟩ (by simp only [zaP, lookR, zaa, if_true, if_false, ↓reduceIte]) (by first | exact Ints_isG _ | exact Bools_isG _ | exact Cs_isG _ | (simp [zbd]; done)) ?_; simp only [frzTm, zbh, zbe, zaX, frzHp, frzO, Ints_frz, Bools_frz, zae, zah, zaa, if_true, if_false, ↓reduceIte])
   (refine fs_flat [(0, dice D j')] (by simp) (by simp only [zae, zah]; decide) (by simp only [go_sem, resV, resS, zaQ, zaV, zaJ, zbf, zaP, idx, renO, zaO, evS, slot, lookR, zaa, ↓reduceIte, reduceCtorEq, if_true, if_false, zaR, zaS, zae, zah, sLoad, readAt, readNeed, Ints_ren, Ints_length, Ints_getD, and_true, true_and, zaL, zaM]; try decide) ?_ (by simp only [zab, zac, false_implies, implies_true, and_true, zaP, lookR, zaa, if_true, if_false, ↓reduceIte, dice] <;> (repeat' apply zaG) <;> (first | rfl | trivial)) (by simp only [zab, zac, false_implies, implies_true, and_true, true_and, flat_cons, flat_nil, flat_ints, flat_bools, flat_app, zaK, and_self, eq_self_iff_true, zad, dice]) ?_ <;> (try simp only [go_sem, resV, resS, zaQ, zaV, zaJ, zbf, zaP, idx, renO, zaO, evS, slot, lookR, zaa, ↓reduceIte, reduceCtorEq, if_true, if_false, zaR, zaS, zae, zah, sLoad, readAt, readNeed, Ints_ren, Ints_length, Ints_getD, and_true, true_and, zaL, zaM]) <;> (try rfl))
 rw [if_neg h0] at htn ⊢
 have h0' : 0 < (T.length : Int) := by omega
 have n1 := next_spec D j' T.length hl hr (by omega)
 have r1 := nx_rng D j' T.length (by omega)
 generalize nxA D j' T.length = k1 at *
 obtain ⟨t2, ht, ht2⟩ : ∃ t : Nat, nxV D j' T.length = t ∧ t < T.length := ⟨(nxV D j' T.length).toNat, by omega, by omega⟩
 rw [ht] at n1
 rw [ht, zbg] at htn ⊢
 have n2 := next_spec D k1 8 hl hr (by decide)
 have r2 := nx_rng D k1 8 (by decide)
 obtain ⟨v2, hv⟩ : ∃ v, nxV D k1 8 = v := ⟨_, rfl⟩
 rw [hv] at n2 r2 htn ⊢
 generalize nxA D k1 8 = k2 at *
 clear ht hv r1
 have ht2' : (t2 : Int) < (T.length : Int) := by omega
 have a9 := next_spec D k2 9 hl hr (by decide)
 have au := usr_spec D k2 hl hr
 have hv : v2 = 0 ∨ v2 = 1 ∨ v2 = 2 ∨ v2 = 3 ∨ 4 ≤ v2 := by omega
 unfold ohT at htn ⊢
 rcases hv with hv | hv | hv | hv | hv
 · rw [if_pos (by omega)] at htn ⊢
   have hpt := tk_setf T t2 0 { gT T t2 with i := nxV D k2 9 } (int (nxV D k2 9)) ht2 (by decide) rfl
   rw [Nat.add_zero] at hpt
   generalize T.set t2 { gT T t2 with i := nxV D k2 9 } = W at *
   have htn : W.length = T.length := htn
   simp only [go_sem, zaa, zau, zav, zaw, zaz, zan, ↓reduceIte, reduceCtorEq, zaf, zaj, zaA, zaB, zaC, decide_eq_true h0', decide_eq_true ht2', decide_eq_true (by omega : v2 = 0), hpt, htc, lendH, dice, zao, zap, zad, zaq, zar, zal, zam, zak, zas, zay, zag, zai]
   repeat' (first
 | with_reducible refine zaG ?_ ?_
 | (unfold OKC; kernel_rfl)
 | (unfold EDG; kernel_rfl)
 | (apply cl_lend
    case hr => exact yhd
    case ha => exact yhc
    case hs => rfl
    case hn => decide
    case h => exact yhj
    case hf => exact yhb
    case hl => exact yhf)
 | ((first | refine s1_id ?_ | refine swp_id ?_ | refine sops_id ?_ | refine s2_id ?_); simp only [decide_eq_true h0', decide_eq_true ht2', decide_eq_true (by omega : v2 = 0), hpt, htc, lendH, dice, zao, zap, zad, zaq, zar, zal, zam, zak, zas, zay, zag, zai, go_sem, zaa, zau, zav, zaw, zaz, zan, ↓reduceIte, reduceCtorEq, zaf, zaj, zaA, zaB, zaC, zaQ, zaV, zaJ, zaO, renO, bk, back, outUpsFrom, Ints_ren])
 | exact yhg
 | exact yha | fail)
   (refine fs_frz 3 ⟨Cs l', 6⟩ (by simp only [zaP, lookR, zaa, if_true, if_false, ↓reduceIte]) (by first | exact Ints_isG _ | exact Bools_isG _ | exact Cs_isG _ | (simp [zbd]; done)) ?_; simp only [frzTm, zbh, zbe, zaX, frzHp, frzO, Ints_frz, Bools_frz, zae, zah, zaa, if_true, if_false, ↓reduceIte])
   simp only [frzHp, frzO, Cs_frz, Ints_frz, zaX, zae, zah]
   (refine fs_frz 4 ⟨Cs W, 4⟩ (by simp only [zaP, lookR, zaa, if_true, if_false, ↓reduceIte]) (by first | exact Ints_isG _ | exact Bools_isG _ | exact Cs_isG _ | (simp [zbd]; done)) ?_; simp only [frzTm, zbh, zbe, zaX, frzHp, frzO, Ints_frz, Bools_frz, zae, zah, zaa, if_true, if_false, ↓reduceIte])
   simp only [← htn]
   (refine fs_flat [(0, dice D (nxA D k2 9))] (by simp) (by simp only [zae, zah]; decide) (by simp only [go_sem, resV, resS, zaQ, zaV, zaJ, zbf, zaP, idx, renO, zaO, evS, slot, lookR, zaa, ↓reduceIte, reduceCtorEq, if_true, if_false, zaR, zaS, zae, zah, sLoad, readAt, readNeed, Ints_ren, Ints_length, Ints_getD, and_true, true_and, zaL, zaM]; try decide) ?_ (by simp only [zab, zac, false_implies, implies_true, and_true, zaP, lookR, zaa, if_true, if_false, ↓reduceIte, dice] <;> (repeat' apply zaG) <;> (first | rfl | trivial)) (by simp only [zab, zac, false_implies, implies_true, and_true, true_and, flat_cons, flat_nil, flat_ints, flat_bools, flat_app, zaK, and_self, eq_self_iff_true, zad, dice]) ?_ <;> (try simp only [go_sem, resV, resS, zaQ, zaV, zaJ, zbf, zaP, idx, renO, zaO, evS, slot, lookR, zaa, ↓reduceIte, reduceCtorEq, if_true, if_false, zaR, zaS, zae, zah, sLoad, readAt, readNeed, Ints_ren, Ints_length, Ints_getD, and_true, true_and, zaL, zaM]) <;> (try rfl))
 · rw [if_neg (by omega), if_pos (by omega)] at htn ⊢
   have hpt := tk_setf T t2 1 { gT T t2 with p := nxV D k2 9 } (int (nxV D k2 9)) ht2 (by decide) rfl
   generalize T.set t2 { gT T t2 with p := nxV D k2 9 } = W at *
   have htn : W.length = T.length := htn
   simp only [go_sem, zaa, zau, zav, zaw, zaz, zan, ↓reduceIte, reduceCtorEq, zaf, zaj, zaA, zaB, zaC, decide_eq_true h0', decide_eq_true ht2', decide_eq_false (by omega : ¬ v2 = 0), decide_eq_true (by omega : v2 = 1), hpt, htc, lendH, dice, zao, zap, zad, zaq, zar, zal, zam, zak, zas, zay, zag, zai]
   repeat' (first
 | with_reducible refine zaG ?_ ?_
 | (unfold OKC; kernel_rfl)
 | (unfold EDG; kernel_rfl)
 | (apply cl_lend
    case hr => exact yhd
    case ha => exact yhc
    case hs => rfl
    case hn => decide
    case h => exact yhj
    case hf => exact yhb
    case hl => exact yhf)
 | ((first | refine s1_id ?_ | refine swp_id ?_ | refine sops_id ?_ | refine s2_id ?_); simp only [decide_eq_true h0', decide_eq_true ht2', decide_eq_false (by omega : ¬ v2 = 0), decide_eq_true (by omega : v2 = 1), hpt, htc, lendH, dice, zao, zap, zad, zaq, zar, zal, zam, zak, zas, zay, zag, zai, go_sem, zaa, zau, zav, zaw, zaz, zan, ↓reduceIte, reduceCtorEq, zaf, zaj, zaA, zaB, zaC, zaQ, zaV, zaJ, zaO, renO, bk, back, outUpsFrom, Ints_ren])
 | exact yhg
 | exact yha | fail)
   (refine fs_frz 3 ⟨Cs l', 6⟩ (by simp only [zaP, lookR, zaa, if_true, if_false, ↓reduceIte]) (by first | exact Ints_isG _ | exact Bools_isG _ | exact Cs_isG _ | (simp [zbd]; done)) ?_; simp only [frzTm, zbh, zbe, zaX, frzHp, frzO, Ints_frz, Bools_frz, zae, zah, zaa, if_true, if_false, ↓reduceIte])
   simp only [frzHp, frzO, Cs_frz, Ints_frz, zaX, zae, zah]
   (refine fs_frz 4 ⟨Cs W, 4⟩ (by simp only [zaP, lookR, zaa, if_true, if_false, ↓reduceIte]) (by first | exact Ints_isG _ | exact Bools_isG _ | exact Cs_isG _ | (simp [zbd]; done)) ?_; simp only [frzTm, zbh, zbe, zaX, frzHp, frzO, Ints_frz, Bools_frz, zae, zah, zaa, if_true, if_false, ↓reduceIte])
   simp only [← htn]
   (refine fs_flat [(0, dice D (nxA D k2 9))] (by simp) (by simp only [zae, zah]; decide) (by simp only [go_sem, resV, resS, zaQ, zaV, zaJ, zbf, zaP, idx, renO, zaO, evS, slot, lookR, zaa, ↓reduceIte, reduceCtorEq, if_true, if_false, zaR, zaS, zae, zah, sLoad, readAt, readNeed, Ints_ren, Ints_length, Ints_getD, and_true, true_and, zaL, zaM]; try decide) ?_ (by simp only [zab, zac, false_implies, implies_true, and_true, zaP, lookR, zaa, if_true, if_false, ↓reduceIte, dice] <;> (repeat' apply zaG) <;> (first | rfl | trivial)) (by simp only [zab, zac, false_implies, implies_true, and_true, true_and, flat_cons, flat_nil, flat_ints, flat_bools, flat_app, zaK, and_self, eq_self_iff_true, zad, dice]) ?_ <;> (try simp only [go_sem, resV, resS, zaQ, zaV, zaJ, zbf, zaP, idx, renO, zaO, evS, slot, lookR, zaa, ↓reduceIte, reduceCtorEq, if_true, if_false, zaR, zaS, zae, zah, sLoad, readAt, readNeed, Ints_ren, Ints_length, Ints_getD, and_true, true_and, zaL, zaM]) <;> (try rfl))
 · rw [if_neg (by omega), if_neg (by omega), if_pos (by omega)] at htn ⊢
   have hpt := tk_setf T t2 2 { gT T t2 with g := nxV D k2 9 } (int (nxV D k2 9)) ht2 (by decide) rfl
   generalize T.set t2 { gT T t2 with g := nxV D k2 9 } = W at *
   have htn : W.length = T.length := htn
   simp only [go_sem, zaa, zau, zav, zaw, zaz, zan, ↓reduceIte, reduceCtorEq, zaf, zaj, zaA, zaB, zaC, decide_eq_true h0', decide_eq_true ht2', decide_eq_false (by omega : ¬ v2 = 0), decide_eq_false (by omega : ¬ v2 = 1), decide_eq_true (by omega : v2 = 2), hpt, htc, lendH, dice, zao, zap, zad, zaq, zar, zal, zam, zak, zas, zay, zag, zai]
   repeat' (first
 | with_reducible refine zaG ?_ ?_
 | (unfold OKC; kernel_rfl)
 | (unfold EDG; kernel_rfl)
 | (apply cl_lend
    case hr => exact yhd
    case ha => exact yhc
    case hs => rfl
    case hn => decide
    case h => exact yhj
    case hf => exact yhb
    case hl => exact yhf)
 | ((first | refine s1_id ?_ | refine swp_id ?_ | refine sops_id ?_ | refine s2_id ?_); simp only [decide_eq_true h0', decide_eq_true ht2', decide_eq_false (by omega : ¬ v2 = 0), decide_eq_false (by omega : ¬ v2 = 1), decide_eq_true (by omega : v2 = 2), hpt, htc, lendH, dice, zao, zap, zad, zaq, zar, zal, zam, zak, zas, zay, zag, zai, go_sem, zaa, zau, zav, zaw, zaz, zan, ↓reduceIte, reduceCtorEq, zaf, zaj, zaA, zaB, zaC, zaQ, zaV, zaJ, zaO, renO, bk, back, outUpsFrom, Ints_ren])
 | exact yhg
 | exact yha | fail)
   (refine fs_frz 3 ⟨Cs l', 6⟩ (by simp only [zaP, lookR, zaa, if_true, if_false, ↓reduceIte]) (by first | exact Ints_isG _ | exact Bools_isG _ | exact Cs_isG _ | (simp [zbd]; done)) ?_; simp only [frzTm, zbh, zbe, zaX, frzHp, frzO, Ints_frz, Bools_frz, zae, zah, zaa, if_true, if_false, ↓reduceIte])
   simp only [frzHp, frzO, Cs_frz, Ints_frz, zaX, zae, zah]
   (refine fs_frz 4 ⟨Cs W, 4⟩ (by simp only [zaP, lookR, zaa, if_true, if_false, ↓reduceIte]) (by first | exact Ints_isG _ | exact Bools_isG _ | exact Cs_isG _ | (simp [zbd]; done)) ?_; simp only [frzTm, zbh, zbe, zaX, frzHp, frzO, Ints_frz, Bools_frz, zae, zah, zaa, if_true, if_false, ↓reduceIte])
   simp only [← htn]
   (refine fs_flat [(0, dice D (nxA D k2 9))] (by simp) (by simp only [zae, zah]; decide) (by simp only [go_sem, resV, resS, zaQ, zaV, zaJ, zbf, zaP, idx, renO, zaO, evS, slot, lookR, zaa, ↓reduceIte, reduceCtorEq, if_true, if_false, zaR, zaS, zae, zah, sLoad, readAt, readNeed, Ints_ren, Ints_length, Ints_getD, and_true, true_and, zaL, zaM]; try decide) ?_ (by simp only [zab, zac, false_implies, implies_true, and_true, zaP, lookR, zaa, if_true, if_false, ↓reduceIte, dice] <;> (repeat' apply zaG) <;> (first | rfl | trivial)) (by simp only [zab, zac, false_implies, implies_true, and_true, true_and, flat_cons, flat_nil, flat_ints, flat_bools, flat_app, zaK, and_self, eq_self_iff_true, zad, dice]) ?_ <;> (try simp only [go_sem, resV, resS, zaQ, zaV, zaJ, zbf, zaP, idx, renO, zaO, evS, slot, lookR, zaa, ↓reduceIte, reduceCtorEq, if_true, if_false, zaR, zaS, zae, zah, sLoad, readAt, readNeed, Ints_ren, Ints_length, Ints_getD, and_true, true_and, zaL, zaM]) <;> (try rfl))
 · rw [if_neg (by omega), if_neg (by omega), if_neg (by omega), if_pos (by omega)] at htn ⊢
   have hpt := tk_setf T t2 3 { gT T t2 with u := usV D k2 } (int (usV D k2)) ht2 (by decide) rfl
   generalize T.set t2 { gT T t2 with u := usV D k2 } = W at *
   have htn : W.length = T.length := htn
   simp only [go_sem, zaa, zau, zav, zaw, zaz, zan, ↓reduceIte, reduceCtorEq, zaf, zaj, zaA, zaB, zaC, decide_eq_true h0', decide_eq_true ht2', decide_eq_false (by omega : ¬ v2 = 0), decide_eq_false (by omega : ¬ v2 = 1), decide_eq_false (by omega : ¬ v2 = 2), decide_eq_true (by omega : v2 = 3), hpt, htc, lendH, dice, zao, zap, zad, zaq, zar, zal, zam, zak, zas, zay, zag, zai]
   repeat' (first
 | with_reducible refine zaG ?_ ?_
 | (unfold OKC; kernel_rfl)
 | (unfold EDG; kernel_rfl)
 | (apply cl_lend
    case hr => exact yhd
    case ha => exact yhc
    case hs => rfl
    case hn => decide
    case h => (first | exact n1 .. | exact n2 .. | exact au ..)
    case hf => exact yhb
    case hl => exact yhf)
 | ((first | refine s1_id ?_ | refine swp_id ?_ | refine sops_id ?_ | refine s2_id ?_); simp only [decide_eq_true h0', decide_eq_true ht2', decide_eq_false (by omega : ¬ v2 = 0), decide_eq_false (by omega : ¬ v2 = 1), decide_eq_false (by omega : ¬ v2 = 2), decide_eq_true (by omega : v2 = 3), hpt, htc, lendH, dice, zao, zap, zad, zaq, zar, zal, zam, zak, zas, zay, zag, zai, go_sem, zaa, zau, zav, zaw, zaz, zan, ↓reduceIte, reduceCtorEq, zaf, zaj, zaA, zaB, zaC, zaQ, zaV, zaJ, zaO, renO, bk, back, outUpsFrom, Ints_ren])
 | exact yhg
 | exact yha | fail)
   (refine fs_frz 3 ⟨Cs l', 6⟩ (by simp only [zaP, lookR, zaa, if_true, if_false, ↓reduceIte]) (by first | exact Ints_isG _ | exact Bools_isG _ | exact Cs_isG _ | (simp [zbd]; done)) ?_; simp only [frzTm, zbh, zbe, zaX, frzHp, frzO, Ints_frz, Bools_frz, zae, zah, zaa, if_true, if_false, ↓reduceIte])
   simp only [frzHp, frzO, Cs_frz, Ints_frz, zaX, zae, zah]
   (refine fs_frz 4 ⟨Cs W, 4⟩ (by simp only [zaP, lookR, zaa, if_true, if_false, ↓reduceIte]) (by first | exact Ints_isG _ | exact Bools_isG _ | exact Cs_isG _ | (simp [zbd]; done)) ?_; simp only [frzTm, zbh, zbe, zaX, frzHp, frzO, Ints_frz, Bools_frz, zae, zah, zaa, if_true, if_false, ↓reduceIte])
   simp only [← htn]
   (refine fs_flat [(0, dice D (nxA D k2 8))] (by simp) (by simp only [zae, zah]; decide) (by simp only [go_sem, resV, resS, zaQ, zaV, zaJ, zbf, zaP, idx, renO, zaO, evS, slot, lookR, zaa, ↓reduceIte, reduceCtorEq, if_true, if_false, zaR, zaS, zae, zah, sLoad, readAt, readNeed, Ints_ren, Ints_length, Ints_getD, and_true, true_and, zaL, zaM]; try decide) ?_ (by simp only [zab, zac, false_implies, implies_true, and_true, zaP, lookR, zaa, if_true, if_false, ↓reduceIte, dice] <;> (repeat' apply zaG) <;> (first | rfl | trivial)) (by simp only [zab, zac, false_implies, implies_true, and_true, true_and, flat_cons, flat_nil, flat_ints, flat_bools, flat_app, zaK, and_self, eq_self_iff_true, zad, dice]) ?_ <;> (try simp only [go_sem, resV, resS, zaQ, zaV, zaJ, zbf, zaP, idx, renO, zaO, evS, slot, lookR, zaa, ↓reduceIte, reduceCtorEq, if_true, if_false, zaR, zaS, zae, zah, sLoad, readAt, readNeed, Ints_ren, Ints_length, Ints_getD, and_true, true_and, zaL, zaM]) <;> (try rfl))
 · rw [if_neg (by omega), if_neg (by omega), if_neg (by omega), if_neg (by omega)] at htn ⊢
   simp only [go_sem, zaa, zau, zav, zaw, zaz, zan, ↓reduceIte, reduceCtorEq, zaf, zaj, zaA, zaB, zaC, decide_eq_true h0', decide_eq_true ht2', decide_eq_false (by omega : ¬ v2 = 0), decide_eq_false (by omega : ¬ v2 = 1), decide_eq_false (by omega : ¬ v2 = 2), decide_eq_false (by omega : ¬ v2 = 3), lendH, dice, zao, zap, zad, zaq, zar, zal, zam, zak, zas, zay, zag, zai]
   repeat' (first
 | with_reducible refine zaG ?_ ?_
 | (unfold OKC; kernel_rfl)
 | (unfold EDG; kernel_rfl)
 | (apply cl_lend
    case hr => exact yhd
    case ha => exact yhc
    case hs => rfl
    case hn => decide
    case h => (first | exact n1 .. | exact n2 ..)
    case hf => exact yhb
    case hl => exact yhf)
 | ((first | refine s1_id ?_ | refine swp_id ?_ | refine sops_id ?_ | refine s2_id ?_); simp only [decide_eq_true h0', decide_eq_true ht2', decide_eq_false (by omega : ¬ v2 = 0), decide_eq_false (by omega : ¬ v2 = 1), decide_eq_false (by omega : ¬ v2 = 2), decide_eq_false (by omega : ¬ v2 = 3), lendH, dice, zao, zap, zad, zaq, zar, zal, zam, zak, zas, zay, zag, zai, go_sem, zaa, zau, zav, zaw, zaz, zan, ↓reduceIte, reduceCtorEq, zaf, zaj, zaA, zaB, zaC, zaQ, zaV, zaJ, zaO, renO, bk, back, outUpsFrom, Ints_ren])
 | exact yhg
 | exact yha | fail)
   (refine fs_frz 3 ⟨Cs l', 6⟩ (by simp only [zaP, lookR, zaa, if_true, if_false, ↓reduceIte]) (by first | exact Ints_isG _ | exact Bools_isG _ | exact Cs_isG _ | (simp [zbd]; done)) ?_; simp only [frzTm, zbh, zbe, zaX, frzHp, frzO, Ints_frz, Bools_frz, zae, zah, zaa, if_true, if_false, ↓reduceIte])
   simp only [frzHp, frzO, Cs_frz, Ints_frz, zaX, zae, zah]
   (refine fs_frz 4 ⟨Cs T, 4⟩ (by simp only [zaP, lookR, zaa, if_true, if_false, ↓reduceIte]) (by first | exact Ints_isG _ | exact Bools_isG _ | exact Cs_isG _ | (simp [zbd]; done)) ?_; simp only [frzTm, zbh, zbe, zaX, frzHp, frzO, Ints_frz, Bools_frz, zae, zah, zaa, if_true, if_false, ↓reduceIte])
   (refine fs_flat [(0, dice D k2)] (by simp) (by simp only [zae, zah]; decide) (by simp only [go_sem, resV, resS, zaQ, zaV, zaJ, zbf, zaP, idx, renO, zaO, evS, slot, lookR, zaa, ↓reduceIte, reduceCtorEq, if_true, if_false, zaR, zaS, zae, zah, sLoad, readAt, readNeed, Ints_ren, Ints_length, Ints_getD, and_true, true_and, zaL, zaM]; try decide) ?_ (by simp only [zab, zac, false_implies, implies_true, and_true, zaP, lookR, zaa, if_true, if_false, ↓reduceIte, dice] <;> (repeat' apply zaG) <;> (first | rfl | trivial)) (by simp only [zab, zac, false_implies, implies_true, and_true, true_and, flat_cons, flat_nil, flat_ints, flat_bools, flat_app, zaK, and_self, eq_self_iff_true, zad, dice]) ?_ <;> (try simp only [go_sem, resV, resS, zaQ, zaV, zaJ, zbf, zaP, idx, renO, zaO, evS, slot, lookR, zaa, ↓reduceIte, reduceCtorEq, if_true, if_false, zaR, zaS, zae, zah, sLoad, readAt, readNeed, Ints_ren, Ints_length, Ints_getD, and_true, true_and, zaL, zaM]) <;> (try rfl))
end Go.Proofs.YtnahpejlhfeleabGreat
