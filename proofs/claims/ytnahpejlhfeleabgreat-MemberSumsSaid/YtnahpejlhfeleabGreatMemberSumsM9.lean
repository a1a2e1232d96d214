/- Contracts of functions, told of values, on the way to MemberSums (part 9). -/
import Derived.Test.YtnahpejlhfeleabGreatMemberSumsM3
import Derived.Test.YtnahpejlhfeleabGreatMemberSumsM8
namespace Go.Proofs.YtnahpejlhfeleabGreat
theorem yia {p : Prop} (h : p := by first | (simp only [zai, zan, prepV, prepC, idx, hpL', lookR, zaa, if_true, if_false]; rfl) | fail) : p := h
theorem yib {p : Prop} (h : p := by first | (intros; (try simp only [zaH, zaI, zaG, zaF, zaB, zaC, decide_eq_true_eq, decide_eq_false_iff_not] at *); omega) | fail) : p := h
theorem yic {p : Prop} (h : p := by first | (simp only [zab, zad, false_implies, implies_true, and_true, true_and, flat_cons, flat_nil, flat_ints, flat_bools, flat_app, Cs_flat, zaL, and_self, eq_self_iff_true, zac]) | fail) : p := h
theorem yid {p : Prop} (h : p := by first | (simp only [zai, zan, hpL', lookR, zaa, if_true, if_false]; first | exact map1 _ | exact map2 _ _ | exact map3 _ _ _) | fail) : p := h
theorem yie {p : Prop} (h : p := by first | (simp only [zaf, zam]; decide) | fail) : p := h
end Go.Proofs.YtnahpejlhfeleabGreat
-- short names of the library's lemmas
open Nat renaming reduceEqDiff → zaa, reduceLeDiff → zao, reduceAdd → zat, reduceSub → zau, reduceMul → zav, reduceLT → zax, le_of_ble_eq_true → zaD
open List renaming forall_mem_cons → zab, append_nil → zac, not_mem_nil → zad, reduceReplicate → zae, length_cons → zaf, take_succ_cons → zag, flatten_cons → zah, map_cons → zai, set_cons_zero → zak, set_cons_succ → zal, length_nil → zam, map_nil → zan, flatten_nil → zap, cons_append → zaq, nil_append → zar, take_zero → zas, take_nil → zaw
open Int renaming cast_ofNat_Int → zaj, reduceEq → zay, reduceLT → zaz, reduceLE → zaA, natCast_add → zaJ
open Bool renaming and_eq_false_iff → zaB, or_eq_false_iff → zaC, not_eq_false' → zaF, not_eq_true' → zaG, and_eq_true → zaH, or_eq_true → zaI
open And renaming intro → zaE
open Go.Proofs.YtnahpejlhfeleabGreat.Sh.Cell renaming ren → zaK, refs → zaL
open Go.Proofs.YtnahpejlhfeleabGreat.Sh.SV renaming ren → zaM, renL → zaN
open Go.Proofs.YtnahpejlhfeleabGreat.Sh.Row renaming ren → zaO
set_option linter.unusedSimpArgs false
set_option linter.unusedVariables false
namespace Go.Proofs.YtnahpejlhfeleabGreat
open Go.Proofs.YtnahpejlhfeleabGreat.Sh
set_option maxRecDepth 20000
theorem fm_congr {f g : Int → List Int} : ∀ (L : List Int), (∀ x ∈ L, f x = g x) → L.flatMap f = L.flatMap g
  | [], _ => rfl
  | x :: r, h => by rw [List.flatMap_cons, List.flatMap_cons, h x List.mem_cons_self, fm_congr r (fun y hy => h y (List.mem_cons_of_mem _ hy))]
theorem subF_fuel {l : List Nd} {n : Int} (h : VT l n) : ∀ (f1 f2 i : Nat), i < l.length → l.length - i ≤ f1 → l.length - i ≤ f2 → subF l f1 (gN l i).i = subF l f2 (gN l i).i
  | 0, _, i, hi, h1, _ => absurd h1 (by omega)
  | _ + 1, 0, i, hi, _, h2 => absurd h2 (by omega)
  | f1 + 1, f2 + 1, i, hi, h1, h2 => by
    show (gN l i).i :: (kidsL l (gN l i).i).flatMap (subF l f1) = (gN l i).i :: (kidsL l (gN l i).i).flatMap (subF l f2)
    congr 1
    refine fm_congr _ fun x hx => ?_
    obtain ⟨j, hj, hpj, rfl⟩ := kidsL_mem.1 hx
    have := h.kid hi hj hpj
    exact subF_fuel h f1 f2 j hj (by omega) (by omega)
theorem HyP.rem {l : List Nd} {n : Int} {T : List Tk} {h : Int} (P : HyP l n T h) {g : Int} (he : (rvM6 l n T h g).2 = 0) : rvM6 l n T h g = ((rmN l g, n, T, h), 0) ∧ HyP (rmN l g) n T h := by
 unfold rvM6 at *
 have hv := (hyM_iff l n T h).2 P
 rw [if_pos hv] at he ⊢
 by_cases e : (rmM l n g).2 = 0
 · rw [if_pos e] at he ⊢
   by_cases e2 : 0 < ((tsM l n T h g).length : Int)
   · rw [if_pos e2] at he; cases he
   · rw [if_neg e2]
     obtain ⟨e3, _, _, h1, h2⟩ := rmM_ok e
     rw [e3]
     have hV := (P.v.vl.rm h1 h2).vt
     refine ⟨rfl, ?_⟩
     have hg : ∀ x ∈ T, ∃ y ∈ rmN l g, y.i = x.g := fun x hx => by
       obtain ⟨y, hy, e4⟩ := P.g x hx
       refine ⟨y, (rmN_mem l g y).2 ⟨hy, fun e5 => e2 ?_⟩, e4⟩
       unfold tsM
       rw [if_pos hv, List.length_map]
       have : 0 < (T.filter (inG g)).length := List.length_pos_of_mem (List.mem_filter.2 ⟨hx, by unfold inG; exact decide_eq_true (by omega)⟩)
       omega
     have := P.map hV id (fun _ => ⟨rfl, rfl, rfl⟩) hg
     rw [List.map_id] at this
     exact this
 · rw [if_neg e] at he; exact absurd he e
theorem HI.rem {q : Hy} (h : HI q) {g : Int} (he : (rvM6 q.1 q.2.1 q.2.2.1 q.2.2.2 g).2 = 0) : HI (rvM6 q.1 q.2.1 q.2.2.1 q.2.2.2 g).1 := by
 obtain ⟨e, P⟩ := h.p.rem he
 rw [e]
 exact ⟨P, fun x hx => h.nm x ((rmN_mem _ _ x).1 hx).1⟩
theorem count_flat {α : Type} (f : α → Int) (T : List α) : ∀ (Ls : List (List Int)), Ls.flatten.Nodup → (Ls.map (fun S => T.countP (fun y => decide (f y ∈ S)))).sum = T.countP (fun y => decide (f y ∈ Ls.flatten))
  | [], _ => by
    rw [zan, List.sum_nil]
    exact (List.countP_eq_zero.2 (fun y _ => by simp)).symm
  | S :: Ls, h => by
    rw [zah, List.nodup_append] at h
    rw [zai, List.sum_cons, count_flat f T Ls h.2.1, ← countP_or]
    · apply List.countP_congr
      intro y _
      simp only [zaI, decide_eq_true_eq, zah, List.mem_append]
    · rintro y _ ⟨h1, h2⟩
      exact h.2.2 _ (of_decide_eq_true h1) _ (of_decide_eq_true h2) rfl
theorem co_sum {l : List Nd} {n : Int} {T : List Tk} {h : Int} (P : HyP l n T h) {k : Nat} (hk : k < l.length) : (tsM l n T h (gN l k).i).length + (((chM l n (gN l k).i).filter (fun _ => true)).map (fun c => coM l n T h c)).sum = coM l n T h (gN l k).i := by
 have hh := has_at P.v hk
 rw [List.filter_eq_self.2 (fun _ _ => rfl)]
 have e0 : (tsM l n T h (gN l k).i).length = T.countP (fun y => decide (y.g ∈ [(gN l k).i])) := by
   rw [show (tsM l n T h (gN l k).i).length = T.countP (inG (gN l k).i) from chs_len _ P]
   apply List.countP_congr
   intro y _
   unfold inG
   simp only [decide_eq_true_eq, List.mem_singleton]
 have e1 : (chM l n (gN l k).i).map (fun c => coM l n T h c) = ((chM l n (gN l k).i).map (fun c => subF l l.length c)).map (fun S => T.countP (fun y => decide (y.g ∈ S))) := by
   rw [List.map_map]
   apply List.map_congr_left
   intro c hc
   show coM l n T h c = T.countP (fun y => decide (y.g ∈ subF l l.length c))
   have hcn : hasM l n c = true := by
     unfold chM at hc
     rw [hh, if_pos rfl] at hc
     obtain ⟨j, hj, _, e⟩ := kidsL_mem.1 hc
     rw [← e]; exact has_at P.v hj
   unfold coM
   rw [chs_len _ P]
   unfold subM
   rw [hcn, if_pos rfl]
   rfl
 have e2 : coM l n T h (gN l k).i = T.countP (fun y => decide (y.g ∈ subF l (l.length + 1) (gN l k).i)) := by
   unfold coM
   rw [chs_len _ P]
   unfold subM
   rw [hh, if_pos rfl, subF_fuel P.v l.length (l.length + 1) k hk (by omega) (by omega)]
   rfl
 have e3 : subF l (l.length + 1) (gN l k).i = ([(gN l k).i] :: (chM l n (gN l k).i).map (fun c => subF l l.length c)).flatten := by
   unfold chM
   rw [hh, if_pos rfl, subF, zah, ← List.flatMap_def]; rfl
 have hnd := subF_nodup P.v (l.length + 1) k hk
 rw [e3] at hnd
 rw [e0, e1, e2, e3, ← count_flat Tk.g T _ hnd, zai, List.sum_cons]
theorem root_up {l : List Nd} {n : Int} (h : VT l n) : ∀ (f i : Nat), i < f → i < l.length → 1 ∈ upL l (gN l i).i
  | 0, i, hf, _ => by omega
  | f + 1, i, hf, hi => by
    by_cases h0 : i = 0
    · subst h0; rw [h.root.1, h.up0]; exact List.mem_cons_self
    · obtain ⟨j, hj, e⟩ := (h.ch hi h0).par
      rw [h.up hi h0, ← e]
      exact List.mem_cons_of_mem _ (root_up h f j (by omega) (by omega))
theorem co_root {l : List Nd} {n : Int} {T : List Tk} {h : Int} (P : HyP l n T h) : coM l n T h 1 = T.length := by
 unfold coM
 rw [chs_len _ P]
 apply countP_all
 intro x hx
 unfold inC
 rw [decide_eq_true_eq]
 obtain ⟨y, hy, e⟩ := P.g x hx
 obtain ⟨i, hi, e2⟩ := gN_mem l y hy
 have h0 : 0 < l.length := P.v.ne
 have := subF_up P.v h0 (f := l.length) (by omega) i hi (by rw [P.v.root.1]; exact root_up P.v (i + 1) i (by omega) hi)
 unfold subM
 rw [show hasM l n 1 = true from by have := has_at P.v h0; rw [P.v.root.1] at this; exact this, if_pos rfl]
 rw [P.v.root.1, e2, e] at this
 exact this
def lendC : FuncId → List Nat := fun f => if f = 42 then [0] else if f = 14 then [0] else if f = 13 then [0] else if f = 9 then [0] else []
set_option maxHeartbeats 8000000 in
theorem sums6_spec (D : List Int) (hr : ∀ x ∈ D, -9223372036854775808 ≤ x ∧ x ≤ 9223372036854775807) : FnSpec Tryz.prog 5 [gi D none] [] (b1 true) [] := by
 by_cases hlen : (D.length : Int) ≤ 600
 case neg =>
   (try rw [if_neg hlen])
   refine fnspec_of mixed TT_ok TT_cl ⟨fun i => if i = 28 then true else false, lendC, 0, fun _ => false, fun _ => false⟩ Tryz.func5 rfl (by kernel_rfl) rfl 148 rfl [.tmp 2] rfl ?_
   simp only [go_sem, zaa, zat, zau, zav, zax, zao, ↓reduceIte, reduceCtorEq, zae, zaj, zay, zaz, zaA, lendC, dice, decide_eq_false hlen, zah, zap, zac, zaq, zar, zak, zal, zag, zas, zaw, zaf, zam]
   repeat' (first
 | (apply cl_plain
    case hs => rfl
    case ha => exact yia
    case h => (first | exact light_spec .. | exact sane6_spec ..))
 | ((first | refine s1_id ?_ | refine swp_id ?_ | refine sops_id ?_ | refine s2_id ?_); simp only [lendC, dice, decide_eq_false hlen, zah, zap, zac, zaq, zar, zak, zal, zag, zas, zaw, zaf, zam, go_sem, zaa, zat, zau, zav, zax, zao, ↓reduceIte, reduceCtorEq, zae, zaj, zay, zaz, zaA, zaM, zaN, zaK, zaO, renO, bk, back, outUpsFrom, Ints_ren])
 | exact fs_nil trivial rfl
 | fail)
 (try rw [if_pos hlen])
 have hl : D.length ≤ 600 := by omega
 have hs := hier_spec D hl hr 0 7 10 (by decide) (by decide)
 have hq := mkH_ok D 0 7 10
 generalize mkH D 0 7 10 = H at *
 obtain ⟨⟨l, n, T, h⟩, j⟩ := H
 simp only at hs hq
 refine fnspec_of mixed TT_ok TT_cl ⟨fun i => if i = 28 then true else false, lendC, 0, fun _ => false, fun _ => false⟩ Tryz.func5 rfl (by kernel_rfl) rfl 148 rfl [.tmp 2] rfl ?_
 simp only [go_sem, zaa, zat, zau, zav, zax, zao, ↓reduceIte, reduceCtorEq, zae, zaj, zay, zaz, zaA, lendC, dice, decide_eq_true hlen, zah, zap, zac, zaq, zar, zak, zal, zag, zas, zaw, zaf, zam]
 repeat' (first
 | (apply cl_plain
    case hs => rfl
    case ha => exact yia
    case h => (first | exact light_spec .. | exact roll_spec .. | exact hs ..))
 | (apply cl_lend
    case hr => exact yid
    case ha => exact yia
    case hs => rfl
    case hn => decide
    case h => (first | exact light_spec .. | exact roll_spec .. | exact hs ..)
    case hf => exact yic
    case hl => exact yie)
 | ((first | refine s1_id ?_ | refine swp_id ?_ | refine sops_id ?_ | refine s2_id ?_); simp only [lendC, dice, decide_eq_true hlen, zah, zap, zac, zaq, zar, zak, zal, zag, zas, zaw, zaf, zam, go_sem, zaa, zat, zau, zav, zax, zao, ↓reduceIte, reduceCtorEq, zae, zaj, zay, zaz, zaA, zaM, zaN, zaK, zaO, renO, bk, back, outUpsFrom, Ints_ren])
 | exact yib | fail)
 refine w_loop (ι := Nat × Hy × Nat) (fun s => ⟨[(3, .one (.optr 0 0)), (4, .one (.optr 1 0)), (5, i1 s.1)], [(0, some (dice D s.2.2)), (1, some ⟨hyc s.2.1.1 none s.2.1.2.1 s.2.1.2.2.1 none s.2.1.2.2.2, 4⟩)], 2⟩) (fun s => s.1 ≤ 4 ∧ HI s.2.1) (fun s => 4 - s.1) (0, ((l, n, T, h), j)) ?_ ⟨Nat.zero_le _, hq⟩ ?_
 · (refine imp_ren _ _ _ [(0, 5, dice D j), (1, 9, ⟨[.gsl (Cs l) 0 l.length none, int n, .gsl (Cs T) 0 T.length none, int h], 4⟩)] (by simp) (by simp) (by simp) (zaD rfl) ?_ rfl (by simp only [zab, zad, false_implies, implies_true, and_true, St.hpF, lookR, zaa, if_true, if_false, ↓reduceIte, dice] <;> (repeat' apply zaE) <;> (first | rfl | trivial)) (by simp only [zab, zad, false_implies, implies_true, and_true, true_and, flat_cons, flat_nil, flat_ints, flat_bools, flat_app, zaL, and_self, eq_self_iff_true, zac, dice]); simp only [zai, zan, zab, zad, false_implies, implies_true, and_true, lk, slot, zaM, zaK, toN, zaa, if_true, if_false, ↓reduceIte, reduceCtorEq])
   all_goals ((repeat' apply zaE) <;> (first | rfl | trivial))
 clear hs hq
 rintro ⟨m, ⟨⟨l, n, T, h⟩, j⟩⟩ ⟨hm, hq⟩
 simp only at hm hq ⊢
 have hbl : l.length ≤ 64 := hq.p.v.le
 have hbT : T.length ≤ 128 := hq.p.le
 have hnm : NmR l := hq.b.nm
 have hct : CtR l := hq.ct
 rcases Nat.lt_or_ge m 4 with hlt | hge
 case inr =>
   have c : ¬ (m : Int) < 4 := by omega
   simp only [go_sem, zaa, zat, zau, zav, zax, zao, ↓reduceIte, reduceCtorEq, zae, zaj, zay, zaz, zaA, lendC, dice, decide_eq_true hlen, decide_eq_false c, zah, zap, zac, zaq, zar, zak, zal, zag, zas, zaw, zaf, zam]
   repeat' (first
 | exact yib | fail)
   refine w_loop (ι := Nat) (fun a => ⟨[(4, .one (.optr 0 0)), (95, i1 l.length), (96, i1 a)], [(0, some ⟨hyc l none n T none h, 4⟩)], 1⟩) (fun a => a ≤ l.length) (fun a => l.length - a) 0 ?_ (Nat.zero_le _) ?_
   · (refine imp_ren _ _ _ [(0, 1, ⟨hyc l none n T none h, 4⟩)] (by simp) (by simp) (by simp) (zaD rfl) ?_ rfl (by simp only [zab, zad, false_implies, implies_true, and_true, St.hpF, lookR, zaa, if_true, if_false, ↓reduceIte] <;> (repeat' apply zaE) <;> (first | rfl | trivial)) (by simp only [zab, zad, false_implies, implies_true, and_true, true_and, flat_cons, flat_nil, flat_ints, flat_bools, flat_app, zaL, and_self, eq_self_iff_true, zac]); simp only [zai, zan, zab, zad, false_implies, implies_true, and_true, lk, slot, zaM, zaK, toN, zaa, if_true, if_false, ↓reduceIte, reduceCtorEq])
     all_goals ((repeat' apply zaE) <;> (first | rfl | trivial))
   rintro a hm2
   simp only at hm2 ⊢
   rcases Nat.lt_or_ge a l.length with hlt2 | hge2
   case inr =>
     have c2 : ¬ (a : Int) < (l.length : Int) := by omega
     have hro := mcount_spec l n T h 1 (by omega) (by omega) hnm hct
     rw [co_root hq.p] at hro
     simp only [go_sem, zaa, zat, zau, zav, zax, zao, ↓reduceIte, reduceCtorEq, zae, zaj, zay, zaz, zaA, lendC, dice, decide_eq_true hlen, decide_eq_false c, decide_eq_false c2, eq_self, decide_true, zah, zap, zac, zaq, zar, zak, zal, zag, zas, zaw, zaf, zam]
     repeat' (first
 | with_reducible refine zaE ?_ ?_
 | (unfold OKC; kernel_rfl)
 | (unfold EDG; kernel_rfl)
 | (apply cg_tp
    case hl => rfl
    case ha => exact yia
    case hs => rfl
    case h => (first | exact hro .. | exact sane6_spec ..))
 | (apply cl_plain
    case hs => rfl
    case ha => exact yia
    case h => (first | exact hro .. | exact sane6_spec ..))
 | ((first | refine s1_id ?_ | refine swp_id ?_ | refine sops_id ?_ | refine s2_id ?_); simp only [lendC, dice, decide_eq_true hlen, decide_eq_false c, decide_eq_false c2, eq_self, decide_true, zah, zap, zac, zaq, zar, zak, zal, zag, zas, zaw, zaf, zam, go_sem, zaa, zat, zau, zav, zax, zao, ↓reduceIte, reduceCtorEq, zae, zaj, zay, zaz, zaA, zaM, zaN, zaK, zaO, renO, bk, back, outUpsFrom, Ints_ren])
 | exact fs_nil trivial rfl
 | fail)
   have c2 : (a : Int) < (l.length : Int) := by omega
   have hnl := nd_len l
   obtain ⟨p0, _⟩ := nd_f l a hlt2 (.sc (.int .i64 0))
   have hsum := co_sum hq.p hlt2
   have t1 := mtasks_spec l n T h (gN l a).i (by omega) (by omega) hnm hct
   have t2 := rkids_spec l none n (gN l a).i (by omega) hnm
   have t3 := mcount_spec l n T h (gN l a).i (by omega) (by omega) hnm hct
   have t4 := mpop_spec l n T h (gN l a).i (by omega) (by omega) hnm hct
   have hcb : coM l n T h (gN l a).i ≤ 128 := by
     unfold coM
     rw [chs_len _ hq.p]
     exact Nat.le_trans List.countP_le_length hbT
   have hkl : (chM l n (gN l a).i).length ≤ 64 := by
     unfold chM; split
     · exact Nat.le_trans (kidsL_len l _) hbl
     · exact Nat.zero_le _
   generalize coM l n T h (gN l a).i = C at *
   generalize chM l n (gN l a).i = K at *
   generalize tsM l n T h (gN l a).i = W at *
   obtain ⟨M, hM0, hMe, hMm, hMs⟩ := smG_pack 0 (fun _ => true) (fun c => coM l n T h c) K
   rw [← hMe] at hsum
   simp only [go_sem, zaa, zat, zau, zav, zax, zao, ↓reduceIte, reduceCtorEq, zae, zaj, zay, zaz, zaA, lendC, dice, decide_eq_true hlen, decide_eq_false c, decide_eq_true c2, p0, zah, zap, zac, zaq, zar, zak, zal, zag, zas, zaw, zaf, zam]
   repeat' (first
 | with_reducible refine zaE ?_ ?_
 | (apply cl_plain
    case hs => rfl
    case ha => exact yia
    case h => (first | exact t1 .. | exact t2 ..))
 | ((first | refine s1_id ?_ | refine swp_id ?_ | refine sops_id ?_ | refine s2_id ?_); simp only [lendC, dice, decide_eq_true hlen, decide_eq_false c, decide_eq_true c2, p0, zah, zap, zac, zaq, zar, zak, zal, zag, zas, zaw, zaf, zam, go_sem, zaa, zat, zau, zav, zax, zao, ↓reduceIte, reduceCtorEq, zae, zaj, zay, zaz, zaA, zaM, zaN, zaK, zaO, renO, bk, back, outUpsFrom, Ints_ren])
 | (intros; omega)
 | exact yib | fail)
   refine w_loop (ι := Nat) (fun b => ⟨[(4, .one (.optr 0 0)), (9, i1 (gN l a).i), (10, i1 (W.length + M b : Nat)), (95, i1 l.length), (96, i1 a), (113, gi K none), (114, i1 K.length), (115, i1 b)], [(0, some ⟨hyc l none n T none h, 4⟩)], 1⟩) (fun b => b ≤ K.length) (fun b => K.length - b) 0 ?_ (Nat.zero_le _) ?_
   · simp only [hM0, Nat.add_zero]
     (refine imp_ren _ _ _ [(0, 0, ⟨hyc l none n T none h, 4⟩)] (by simp) (by simp) (by simp) (zaD rfl) ?_ rfl (by simp only [zab, zad, false_implies, implies_true, and_true, St.hpF, lookR, zaa, if_true, if_false, ↓reduceIte] <;> (repeat' apply zaE) <;> (first | rfl | trivial)) (by simp only [zab, zad, false_implies, implies_true, and_true, true_and, flat_cons, flat_nil, flat_ints, flat_bools, flat_app, zaL, and_self, eq_self_iff_true, zac]); simp only [zai, zan, zab, zad, false_implies, implies_true, and_true, lk, slot, zaM, zaK, toN, zaa, if_true, if_false, ↓reduceIte, reduceCtorEq])
     all_goals ((repeat' apply zaE) <;> (first | rfl | trivial))
   clear t1 t2
   rintro b hm3
   simp only at hm3 ⊢
   rcases Nat.lt_or_ge b K.length with hlt3 | hge3
   case inr =>
     have c3 : ¬ (b : Int) < (K.length : Int) := by omega
     obtain rfl : b = K.length := by omega
     rw [hsum]
     simp only [go_sem, zaa, zat, zau, zav, zax, zao, ↓reduceIte, reduceCtorEq, zae, zaj, zay, zaz, zaA, lendC, dice, decide_eq_true hlen, decide_eq_false c, decide_eq_true c2, p0, decide_eq_false c3, eq_self, decide_true, beq_self_eq_true, zah, zap, zac, zaq, zar, zak, zal, zag, zas, zaw, zaf, zam]
     repeat' (first
 | with_reducible refine zaE ?_ ?_
 | (apply cg_tp
    case hl => rfl
    case ha => exact yia
    case hs => rfl
    case h => (first | exact t3 .. | exact t4 ..))
 | (apply cl_plain
    case hs => rfl
    case ha => exact yia
    case h => (first | exact t3 .. | exact t4 ..))
 | ((first | refine s1_id ?_ | refine swp_id ?_ | refine sops_id ?_ | refine s2_id ?_); simp only [lendC, dice, decide_eq_true hlen, decide_eq_false c, decide_eq_true c2, p0, decide_eq_false c3, eq_self, decide_true, beq_self_eq_true, zah, zap, zac, zaq, zar, zak, zal, zag, zas, zaw, zaf, zam, go_sem, zaa, zat, zau, zav, zax, zao, ↓reduceIte, reduceCtorEq, zae, zaj, zay, zaz, zaA, zaM, zaN, zaK, zaO, renO, bk, back, outUpsFrom, Ints_ren])
 | (intros; omega)
 | exact yib | fail)
     refine le_mk (a + 1) ?_ hlt2 (by show l.length - (a + 1) < l.length - a; omega)
     (refine imp_ren _ _ _ [(0, 0, ⟨hyc l none n T none h, 4⟩)] (by simp) (by simp) (by simp) (zaD rfl) ?_ rfl (by simp only [zab, zad, false_implies, implies_true, and_true, St.hpF, lookR, zaa, if_true, if_false, ↓reduceIte] <;> (repeat' apply zaE) <;> (first | rfl | trivial)) (by simp only [zab, zad, false_implies, implies_true, and_true, true_and, flat_cons, flat_nil, flat_ints, flat_bools, flat_app, zaL, and_self, eq_self_iff_true, zac]); simp only [zai, zan, zab, zad, false_implies, implies_true, and_true, lk, slot, zaM, zaK, toN, zaa, if_true, if_false, ↓reduceIte, reduceCtorEq])
     all_goals ((repeat' apply zaE) <;> (first | rfl | trivial | (simp only [zaJ]; done) | (simp only [zaJ]; rfl) | (simp only [zaJ]; trivial)))
   have c3 : (b : Int) < (K.length : Int) := by omega
   have s1 := (hMs b hlt3).1 rfl
   have hk := hMm b (by omega)
   have hk1 := hMm (b + 1) (by omega)
   have hc := mcount_spec l n T h (K.getD b 0) (by omega) (by omega) hnm hct
   generalize coM l n T h (K.getD b 0) = cb at *
   have s1' : ((W.length + M b : Nat) : Int) + (cb : Int) = ((W.length + M (b + 1) : Nat) : Int) := by omega
   simp only [go_sem, zaa, zat, zau, zav, zax, zao, ↓reduceIte, reduceCtorEq, zae, zaj, zay, zaz, zaA, lendC, dice, decide_eq_true hlen, decide_eq_false c, decide_eq_true c2, p0, decide_eq_true c3, s1', zah, zap, zac, zaq, zar, zak, zal, zag, zas, zaw, zaf, zam]
   repeat' (first
 | with_reducible refine zaE ?_ ?_
 | (apply cl_plain
    case hs => rfl
    case ha => exact yia
    case h => (first | exact hc ..))
 | ((first | refine s1_id ?_ | refine swp_id ?_ | refine sops_id ?_ | refine s2_id ?_); simp only [lendC, dice, decide_eq_true hlen, decide_eq_false c, decide_eq_true c2, p0, decide_eq_true c3, s1', zah, zap, zac, zaq, zar, zak, zal, zag, zas, zaw, zaf, zam, go_sem, zaa, zat, zau, zav, zax, zao, ↓reduceIte, reduceCtorEq, zae, zaj, zay, zaz, zaA, zaM, zaN, zaK, zaO, renO, bk, back, outUpsFrom, Ints_ren])
 | (intros; omega)
 | exact yib | fail)
   refine le_mk (b + 1) ?_ hlt3 (by show K.length - (b + 1) < K.length - b; omega)
   (refine imp_ren _ _ _ [(0, 0, ⟨hyc l none n T none h, 4⟩)] (by simp) (by simp) (by simp) (zaD rfl) ?_ rfl (by simp only [zab, zad, false_implies, implies_true, and_true, St.hpF, lookR, zaa, if_true, if_false, ↓reduceIte] <;> (repeat' apply zaE) <;> (first | rfl | trivial)) (by simp only [zab, zad, false_implies, implies_true, and_true, true_and, flat_cons, flat_nil, flat_ints, flat_bools, flat_app, zaL, and_self, eq_self_iff_true, zac]); simp only [zai, zan, zab, zad, false_implies, implies_true, and_true, lk, slot, zaM, zaK, toN, zaa, if_true, if_false, ↓reduceIte, reduceCtorEq])
   all_goals ((repeat' apply zaE) <;> (first | rfl | trivial | (simp only [zaJ]; done) | (simp only [zaJ]; rfl) | (simp only [zaJ]; trivial)))
 have c : (m : Int) < 4 := by omega
 have hln := hq.len
 simp only at hln
 have nv := next_spec D j 5 hl hr (by decide)
 have rv := nx_rng D j 5 (by decide)
 generalize nxV D j 5 = v at *
 generalize nxA D j 5 = j1 at *
 have gg := dgroup_spec D hl hr j1 l n hln.1 hln.2
 have kk := dtask_spec D hl hr j1 l n T h (by omega)
 have gg2 := dgroup_spec D hl hr (dtA D T j1) l n hln.1 hln.2
 generalize dgV D l (dtA D T j1) = g2 at *
 generalize dgA D l (dtA D T j1) = j4 at *
 generalize dgV D l j1 = g at *
 generalize dgA D l j1 = j2 at *
 generalize dtV D T j1 = k at *
 generalize dtA D T j1 = j3 at *
 have o0 := mspawn_spec l n T h g 1 (by omega) (by omega) hnm hct
 have i0 : (spR l n T h g 1).2.2 = 0 → HI (spR l n T h g 1).1 := fun e => by rw [(hq.p.spawn e).1]; exact ⟨(hq.p.spawn e).2, hq.nm⟩
 have o1 := mclone_spec l n T h k (by omega) (by omega) hnm hct
 have i1' : (clR l n T h k).2.2 = 0 → HI (clR l n T h k).1 := fun e => by obtain ⟨x, _, _, e1, P⟩ := hq.p.clone e; rw [e1]; exact ⟨P, hq.nm⟩
 have o2 := mexit_spec l n T h k (by omega) (by omega) hnm hct
 have i2 : (exR l n T h k).2 = 0 → HI (exR l n T h k).1 := fun e => by rw [(hq.p.exit e).1]; exact ⟨(hq.p.exit e).2.2, hq.nm⟩
 have o3 := mplace_spec l n T h k g2 (by omega) (by omega) hnm hct
 have i3 : (plR l n T h k g2).2 = 0 → HI (plR l n T h k g2).1 := fun e => by rw [(hq.p.place e).1]; exact ⟨(hq.p.place e).2.2.2, hq.nm⟩
 have o4 := mrem_spec l n T h g (by omega) (by omega) hnm hct
 have i4 : (rvM6 l n T h g).2 = 0 → HI (rvM6 l n T h g).1 := fun e => hq.rem e
 generalize spR l n T h g 1 = S0 at *
 generalize clR l n T h k = S1' at *
 generalize exR l n T h k = S2 at *
 generalize plR l n T h k g2 = S3 at *
 generalize rvM6 l n T h g = S4 at *
 obtain ⟨⟨l0, n0, T0, h0⟩, x0, e0⟩ := S0
 obtain ⟨⟨l1, n1, T1, h1⟩, x1, e1⟩ := S1'
 obtain ⟨⟨l2, n2, T2, h2⟩, e2⟩ := S2
 obtain ⟨⟨l3, n3, T3, h3⟩, e3⟩ := S3
 obtain ⟨⟨l4, n4, T4, h4⟩, e4⟩ := S4
 simp only at o0 o1 o2 o3 o4 i0 i1' i2 i3 i4
 simp only [go_sem, zaa, zat, zau, zav, zax, zao, ↓reduceIte, reduceCtorEq, zae, zaj, zay, zaz, zaA, lendC, dice, decide_eq_true hlen, decide_eq_true c, zah, zap, zac, zaq, zar, zak, zal, zag, zas, zaw, zaf, zam]
 repeat' (first
 | (apply cl_lend
    case hr => exact yid
    case ha => exact yia
    case hs => rfl
    case hn => decide
    case h => (first | exact nv ..)
    case hf => exact yic
    case hl => exact yie)
 | ((first | refine s1_id ?_ | refine swp_id ?_ | refine sops_id ?_ | refine s2_id ?_); simp only [lendC, dice, decide_eq_true hlen, decide_eq_true c, zah, zap, zac, zaq, zar, zak, zal, zag, zas, zaw, zaf, zam, go_sem, zaa, zat, zau, zav, zax, zao, ↓reduceIte, reduceCtorEq, zae, zaj, zay, zaz, zaA, zaM, zaN, zaK, zaO, renO, bk, back, outUpsFrom, Ints_ren])
 | exact yib | fail)
 refine cd_cut (fun u => ∃ (x : Hy) (e : Int) (d : Nat), (e = 0 → HI x) ∧ u = ⟨[(3, .one (.optr 0 0)), (4, .one (.optr 1 0)), (5, i1 m), (6, .one (.optr 2 0)), (7, i1 e)], [(0, some (dice D d)), (1, some ⟨[.gsl (Cs l) 0 l.length none, int n, .gsl (Cs T) 0 T.length none, int h], 4⟩), (2, some ⟨hyc x.1 none x.2.1 x.2.2.1 none x.2.2.2, 4⟩)], 3⟩) (fun hc => ?_) (fun hc => ?_) ?_
 · have hc := of_decide_eq_true hc
   simp only [go_sem, zaa, zat, zau, zav, zax, zao, ↓reduceIte, reduceCtorEq, zae, zaj, zay, zaz, zaA, decide_eq_true (by omega : v = 0), lendC, dice, zah, zap, zac, zaq, zar, zak, zal, zag, zas, zaw, zaf, zam]
   repeat' (first
 | with_reducible refine zaE ?_ ?_
 | (unfold OKC; kernel_rfl)
 | (unfold EDG; kernel_rfl)
 | (apply cl_plain
    case hs => rfl
    case ha => exact yia
    case h => (first | exact gg .. | exact o0 ..))
 | (apply cl_lend
    case hr => exact yid
    case ha => exact yia
    case hs => rfl
    case hn => decide
    case h => (first | exact gg .. | exact o0 ..)
    case hf => exact yic
    case hl => exact yie)
 | ((first | refine s1_id ?_ | refine swp_id ?_ | refine sops_id ?_ | refine s2_id ?_); simp only [decide_eq_true (by omega : v = 0), lendC, dice, zah, zap, zac, zaq, zar, zak, zal, zag, zas, zaw, zaf, zam, go_sem, zaa, zat, zau, zav, zax, zao, ↓reduceIte, reduceCtorEq, zae, zaj, zay, zaz, zaA, zaM, zaN, zaK, zaO, renO, bk, back, outUpsFrom, Ints_ren])
 | exact yib | fail)
   refine ⟨_, ?_, ⟨(l0, n0, T0, h0), e0, j2, i0, rfl⟩⟩
   (refine imp_ren _ _ _ [(0, 0, dice D j2), (1, 1, ⟨[.gsl (Cs l) 0 l.length none, int n, .gsl (Cs T) 0 T.length none, int h], 4⟩), (2, 5, ⟨[.gsl (Cs l0) 0 l0.length none, int n0, .gsl (Cs T0) 0 T0.length none, int h0], 4⟩)] (by simp) (by simp) (by simp) (zaD rfl) ?_ rfl (by simp only [zab, zad, false_implies, implies_true, and_true, St.hpF, lookR, zaa, if_true, if_false, ↓reduceIte, dice] <;> (repeat' apply zaE) <;> (first | rfl | trivial)) (by simp only [zab, zad, false_implies, implies_true, and_true, true_and, flat_cons, flat_nil, flat_ints, flat_bools, flat_app, zaL, and_self, eq_self_iff_true, zac, dice]); simp only [zai, zan, zab, zad, false_implies, implies_true, and_true, lk, slot, zaM, zaK, toN, zaa, if_true, if_false, ↓reduceIte, reduceCtorEq])
   all_goals ((repeat' apply zaE) <;> (first | rfl | trivial))
 · have hc := of_decide_eq_false hc
   have hv : v = 1 ∨ v = 2 ∨ v = 3 ∨ v = 4 := by omega
   rcases hv with hv | hv | hv | hv
   · simp only [go_sem, zaa, zat, zau, zav, zax, zao, ↓reduceIte, reduceCtorEq, zae, zaj, zay, zaz, zaA, decide_eq_false (by omega : ¬ v = 0), decide_eq_true (by omega : v = 1), lendC, dice, zah, zap, zac, zaq, zar, zak, zal, zag, zas, zaw, zaf, zam]
     repeat' (first
 | with_reducible refine zaE ?_ ?_
 | (unfold OKC; kernel_rfl)
 | (unfold EDG; kernel_rfl)
 | (apply cl_plain
    case hs => rfl
    case ha => exact yia
    case h => (first | exact kk .. | exact o1 ..))
 | (apply cl_lend
    case hr => exact yid
    case ha => exact yia
    case hs => rfl
    case hn => decide
    case h => (first | exact kk .. | exact o1 ..)
    case hf => exact yic
    case hl => exact yie)
 | ((first | refine s1_id ?_ | refine swp_id ?_ | refine sops_id ?_ | refine s2_id ?_); simp only [decide_eq_false (by omega : ¬ v = 0), decide_eq_true (by omega : v = 1), lendC, dice, zah, zap, zac, zaq, zar, zak, zal, zag, zas, zaw, zaf, zam, go_sem, zaa, zat, zau, zav, zax, zao, ↓reduceIte, reduceCtorEq, zae, zaj, zay, zaz, zaA, zaM, zaN, zaK, zaO, renO, bk, back, outUpsFrom, Ints_ren])
 | exact yib | fail)
     refine ⟨_, ?_, ⟨(l1, n1, T1, h1), e1, j3, i1', rfl⟩⟩
     (refine imp_ren _ _ _ [(0, 0, dice D j3), (1, 1, ⟨[.gsl (Cs l) 0 l.length none, int n, .gsl (Cs T) 0 T.length none, int h], 4⟩), (2, 5, ⟨[.gsl (Cs l1) 0 l1.length none, int n1, .gsl (Cs T1) 0 T1.length none, int h1], 4⟩)] (by simp) (by simp) (by simp) (zaD rfl) ?_ rfl (by simp only [zab, zad, false_implies, implies_true, and_true, St.hpF, lookR, zaa, if_true, if_false, ↓reduceIte, dice] <;> (repeat' apply zaE) <;> (first | rfl | trivial)) (by simp only [zab, zad, false_implies, implies_true, and_true, true_and, flat_cons, flat_nil, flat_ints, flat_bools, flat_app, zaL, and_self, eq_self_iff_true, zac, dice]); simp only [zai, zan, zab, zad, false_implies, implies_true, and_true, lk, slot, zaM, zaK, toN, zaa, if_true, if_false, ↓reduceIte, reduceCtorEq])
     all_goals ((repeat' apply zaE) <;> (first | rfl | trivial))
   · simp only [go_sem, zaa, zat, zau, zav, zax, zao, ↓reduceIte, reduceCtorEq, zae, zaj, zay, zaz, zaA, decide_eq_false (by omega : ¬ v = 0), decide_eq_false (by omega : ¬ v = 1), decide_eq_true (by omega : v = 2), lendC, dice, zah, zap, zac, zaq, zar, zak, zal, zag, zas, zaw, zaf, zam]
     repeat' (first
 | with_reducible refine zaE ?_ ?_
 | (unfold OKC; kernel_rfl)
 | (unfold EDG; kernel_rfl)
 | (apply cl_plain
    case hs => rfl
    case ha => exact yia
    case h => (first | exact kk .. | exact o2 ..))
 | (apply cl_lend
    case hr => exact yid
    case ha => exact yia
    case hs => rfl
    case hn => decide
    case h => (first | exact kk .. | exact o2 ..)
    case hf => exact yic
    case hl => exact yie)
 | ((first | refine s1_id ?_ | refine swp_id ?_ | refine sops_id ?_ | refine s2_id ?_); simp only [decide_eq_false (by omega : ¬ v = 0), decide_eq_false (by omega : ¬ v = 1), decide_eq_true (by omega : v = 2), lendC, dice, zah, zap, zac, zaq, zar, zak, zal, zag, zas, zaw, zaf, zam, go_sem, zaa, zat, zau, zav, zax, zao, ↓reduceIte, reduceCtorEq, zae, zaj, zay, zaz, zaA, zaM, zaN, zaK, zaO, renO, bk, back, outUpsFrom, Ints_ren])
 | exact yib | fail)
     refine ⟨_, ?_, ⟨(l2, n2, T2, h2), e2, j3, i2, rfl⟩⟩
     (refine imp_ren _ _ _ [(0, 0, dice D j3), (1, 1, ⟨[.gsl (Cs l) 0 l.length none, int n, .gsl (Cs T) 0 T.length none, int h], 4⟩), (2, 5, ⟨[.gsl (Cs l2) 0 l2.length none, int n2, .gsl (Cs T2) 0 T2.length none, int h2], 4⟩)] (by simp) (by simp) (by simp) (zaD rfl) ?_ rfl (by simp only [zab, zad, false_implies, implies_true, and_true, St.hpF, lookR, zaa, if_true, if_false, ↓reduceIte, dice] <;> (repeat' apply zaE) <;> (first | rfl | trivial)) (by simp only [zab, zad, false_implies, implies_true, and_true, true_and, flat_cons, flat_nil, flat_ints, flat_bools, flat_app, zaL, and_self, eq_self_iff_true, zac, dice]); simp only [zai, zan, zab, zad, false_implies, implies_true, and_true, lk, slot, zaM, zaK, toN, zaa, if_true, if_false, ↓reduceIte, reduceCtorEq])
     all_goals ((repeat' apply zaE) <;> (first | rfl | trivial))
   · simp only [go_sem, zaa, zat, zau, zav, zax, zao, ↓reduceIte, reduceCtorEq, zae, zaj, zay, zaz, zaA, decide_eq_false (by omega : ¬ v = 0), decide_eq_false (by omega : ¬ v = 1), decide_eq_false (by omega : ¬ v = 2), decide_eq_true (by omega : v = 3), lendC, dice, zah, zap, zac, zaq, zar, zak, zal, zag, zas, zaw, zaf, zam]
     repeat' (first
 | with_reducible refine zaE ?_ ?_
 | (unfold OKC; kernel_rfl)
 | (unfold EDG; kernel_rfl)
 | (apply cl_plain
    case hs => rfl
    case ha => exact yia
    case h => (first | exact kk .. | exact gg2 .. | exact o3 ..))
 | (apply cl_lend
    case hr => exact yid
    case ha => exact yia
    case hs => rfl
    case hn => decide
    case h => (first | exact kk .. | exact gg2 .. | exact o3 ..)
    case hf => exact yic
    case hl => exact yie)
 | ((first | refine s1_id ?_ | refine swp_id ?_ | refine sops_id ?_ | refine s2_id ?_); simp only [decide_eq_false (by omega : ¬ v = 0), decide_eq_false (by omega : ¬ v = 1), decide_eq_false (by omega : ¬ v = 2), decide_eq_true (by omega : v = 3), lendC, dice, zah, zap, zac, zaq, zar, zak, zal, zag, zas, zaw, zaf, zam, go_sem, zaa, zat, zau, zav, zax, zao, ↓reduceIte, reduceCtorEq, zae, zaj, zay, zaz, zaA, zaM, zaN, zaK, zaO, renO, bk, back, outUpsFrom, Ints_ren])
 | exact yib | fail)
     refine ⟨_, ?_, ⟨(l3, n3, T3, h3), e3, j4, i3, rfl⟩⟩
     (refine imp_ren _ _ _ [(0, 0, dice D j4), (1, 1, ⟨[.gsl (Cs l) 0 l.length none, int n, .gsl (Cs T) 0 T.length none, int h], 4⟩), (2, 5, ⟨[.gsl (Cs l3) 0 l3.length none, int n3, .gsl (Cs T3) 0 T3.length none, int h3], 4⟩)] (by simp) (by simp) (by simp) (zaD rfl) ?_ rfl (by simp only [zab, zad, false_implies, implies_true, and_true, St.hpF, lookR, zaa, if_true, if_false, ↓reduceIte, dice] <;> (repeat' apply zaE) <;> (first | rfl | trivial)) (by simp only [zab, zad, false_implies, implies_true, and_true, true_and, flat_cons, flat_nil, flat_ints, flat_bools, flat_app, zaL, and_self, eq_self_iff_true, zac, dice]); simp only [zai, zan, zab, zad, false_implies, implies_true, and_true, lk, slot, zaM, zaK, toN, zaa, if_true, if_false, ↓reduceIte, reduceCtorEq])
     all_goals ((repeat' apply zaE) <;> (first | rfl | trivial))
   · simp only [go_sem, zaa, zat, zau, zav, zax, zao, ↓reduceIte, reduceCtorEq, zae, zaj, zay, zaz, zaA, decide_eq_false (by omega : ¬ v = 0), decide_eq_false (by omega : ¬ v = 1), decide_eq_false (by omega : ¬ v = 2), decide_eq_false (by omega : ¬ v = 3), decide_eq_true (by omega : v = 4), lendC, dice, zah, zap, zac, zaq, zar, zak, zal, zag, zas, zaw, zaf, zam]
     repeat' (first
 | with_reducible refine zaE ?_ ?_
 | (unfold OKC; kernel_rfl)
 | (unfold EDG; kernel_rfl)
 | (apply cl_plain
    case hs => rfl
    case ha => exact yia
    case h => (first | exact gg .. | exact o4 ..))
 | (apply cl_lend
    case hr => exact yid
    case ha => exact yia
    case hs => rfl
    case hn => decide
    case h => (first | exact gg .. | exact o4 ..)
    case hf => exact yic
    case hl => exact yie)
 | ((first | refine s1_id ?_ | refine swp_id ?_ | refine sops_id ?_ | refine s2_id ?_); simp only [decide_eq_false (by omega : ¬ v = 0), decide_eq_false (by omega : ¬ v = 1), decide_eq_false (by omega : ¬ v = 2), decide_eq_false (by omega : ¬ v = 3), decide_eq_true (by omega : v = 4), lendC, dice, zah, zap, zac, zaq, zar, zak, zal, zag, zas, zaw, zaf, zam, go_sem, zaa, zat, zau, zav, zax, zao, ↓reduceIte, reduceCtorEq, zae, zaj, zay, zaz, zaA, zaM, zaN, zaK, zaO, renO, bk, back, outUpsFrom, Ints_ren])
 | exact yib | fail)
     refine ⟨_, ?_, ⟨(l4, n4, T4, h4), e4, j2, i4, rfl⟩⟩
     (refine imp_ren _ _ _ [(0, 0, dice D j2), (1, 1, ⟨[.gsl (Cs l) 0 l.length none, int n, .gsl (Cs T) 0 T.length none, int h], 4⟩), (2, 5, ⟨[.gsl (Cs l4) 0 l4.length none, int n4, .gsl (Cs T4) 0 T4.length none, int h4], 4⟩)] (by simp) (by simp) (by simp) (zaD rfl) ?_ rfl (by simp only [zab, zad, false_implies, implies_true, and_true, St.hpF, lookR, zaa, if_true, if_false, ↓reduceIte, dice] <;> (repeat' apply zaE) <;> (first | rfl | trivial)) (by simp only [zab, zad, false_implies, implies_true, and_true, true_and, flat_cons, flat_nil, flat_ints, flat_bools, flat_app, zaL, and_self, eq_self_iff_true, zac, dice]); simp only [zai, zan, zab, zad, false_implies, implies_true, and_true, lk, slot, zaM, zaK, toN, zaa, if_true, if_false, ↓reduceIte, reduceCtorEq])
     all_goals ((repeat' apply zaE) <;> (first | rfl | trivial))
 rintro u ⟨⟨xl, xn, xT, xh⟩, e, d, hx, rfl⟩
 clear o0 o1 o2 o3 o4 i0 i1' i2 i3 i4 gg kk gg2 nv
 by_cases he : e = 0
 case neg =>
   (try rw [if_neg he])
   simp only [go_sem, zaa, zat, zau, zav, zax, zao, ↓reduceIte, reduceCtorEq, zae, zaj, zay, zaz, zaA, lendC, dice, decide_eq_true hlen, decide_eq_true c, decide_eq_false he, zah, zap, zac, zaq, zar, zak, zal, zag, zas, zaw, zaf, zam]
   repeat' (first
 | with_reducible refine zaE ?_ ?_
 | (intros; omega)
 | exact yib | fail)
   refine le_mk (m + 1, ((l, n, T, h), d)) ?_ ⟨by omega, hq⟩ (by show 4 - (m + 1) < 4 - m; omega)
   (refine imp_ren _ _ _ [(0, 0, dice D d), (1, 1, ⟨[.gsl (Cs l) 0 l.length none, int n, .gsl (Cs T) 0 T.length none, int h], 4⟩)] (by simp) (by simp) (by simp) (zaD rfl) ?_ rfl (by simp only [zab, zad, false_implies, implies_true, and_true, St.hpF, lookR, zaa, if_true, if_false, ↓reduceIte, dice] <;> (repeat' apply zaE) <;> (first | rfl | trivial)) (by simp only [zab, zad, false_implies, implies_true, and_true, true_and, flat_cons, flat_nil, flat_ints, flat_bools, flat_app, zaL, and_self, eq_self_iff_true, zac, dice]); simp only [zai, zan, zab, zad, false_implies, implies_true, and_true, lk, slot, zaM, zaK, toN, zaa, if_true, if_false, ↓reduceIte, reduceCtorEq])
   all_goals ((repeat' apply zaE) <;> (first | rfl | trivial | (simp only [zaJ]; done) | (simp only [zaJ]; rfl) | (simp only [zaJ]; trivial)))
 (try rw [if_pos he])
 have hx := hx he
 have hcx := rcheck6 xl xn xT xh (by have := hx.p.v.le; simp only at this; omega) (by have := hx.p.le; simp only at this; omega) hx.b.nm
 rw [(hyM_iff xl xn xT xh).2 hx.p] at hcx
 simp only [go_sem, zaa, zat, zau, zav, zax, zao, ↓reduceIte, reduceCtorEq, zae, zaj, zay, zaz, zaA, lendC, dice, decide_eq_true hlen, decide_eq_true c, decide_eq_true he, zah, zap, zac, zaq, zar, zak, zal, zag, zas, zaw, zaf, zam]
 repeat' (first
 | with_reducible refine zaE ?_ ?_
 | (apply cl_plain
    case hs => rfl
    case ha => exact yia
    case h => (first | exact hcx ..))
 | ((first | refine s1_id ?_ | refine swp_id ?_ | refine sops_id ?_ | refine s2_id ?_); simp only [lendC, dice, decide_eq_true hlen, decide_eq_true c, decide_eq_true he, zah, zap, zac, zaq, zar, zak, zal, zag, zas, zaw, zaf, zam, go_sem, zaa, zat, zau, zav, zax, zao, ↓reduceIte, reduceCtorEq, zae, zaj, zay, zaz, zaA, zaM, zaN, zaK, zaO, renO, bk, back, outUpsFrom, Ints_ren])
 | (intros; omega)
 | exact yib | fail)
 refine le_mk (m + 1, ((xl, xn, xT, xh), d)) ?_ ⟨by omega, hx⟩ (by show 4 - (m + 1) < 4 - m; omega)
 (refine imp_ren _ _ _ [(0, 0, dice D d), (1, 1, ⟨[.gsl (Cs xl) 0 xl.length none, int xn, .gsl (Cs xT) 0 xT.length none, int xh], 4⟩)] (by simp) (by simp) (by simp) (zaD rfl) ?_ rfl (by simp only [zab, zad, false_implies, implies_true, and_true, St.hpF, lookR, zaa, if_true, if_false, ↓reduceIte, dice] <;> (repeat' apply zaE) <;> (first | rfl | trivial)) (by simp only [zab, zad, false_implies, implies_true, and_true, true_and, flat_cons, flat_nil, flat_ints, flat_bools, flat_app, zaL, and_self, eq_self_iff_true, zac, dice]); simp only [zai, zan, zab, zad, false_implies, implies_true, and_true, lk, slot, zaM, zaK, toN, zaa, if_true, if_false, ↓reduceIte, reduceCtorEq])
 all_goals ((repeat' apply zaE) <;> (first | rfl | trivial | (simp only [zaJ]; done) | (simp only [zaJ]; rfl) | (simp only [zaJ]; trivial)))
theorem sums6_main (g0 : List Cell) (s0 : GTy Tryz.prog 12 22 g0) : FnSpec Tryz.prog 5 [svOf Tryz.prog 22 g0] [] (b1 true) [] := by
 obtain ⟨l0, rfl, hl0, hr0⟩ := gty_ints (n := 10) Tryz.underlying22 Tryz.underlying3 s0
 simp only [svOf, Tryz.underlying22, List.headD_cons]
 exact sums6_spec l0 hr0
end Go.Proofs.YtnahpejlhfeleabGreat
