/- Contracts of functions, told of values, on the way to MemberLimits (part 4). -/
import Derived.Test.YtnahpejlhfeleacMemberLimitsM3
-- short names of the library's lemmas
open Nat renaming reduceEqDiff → zaa, reduceLeDiff → zad, reduceAdd → zae, reduceSub → zaf, reduceMul → zag, reduceLT → zah, le_of_ble_eq_true → zaC, le_refl → zaY, zero_le → zaZ, zero_mul → zba, sub_zero → zbb, lt_or_ge → zbc, le_of_lt → zbf
open List renaming reduceReplicate → zab, forall_mem_cons → zal, map_cons → zam, not_mem_nil → zan, map_nil → zao, append_nil → zap, take_succ_cons → zaw, set_cons_zero → zax, set_cons_succ → zay, length_cons → zaA, flatten_cons → zaB, cons_append → zaD, flatten_nil → zaF, nil_append → zaG, length_nil → zaI, take_zero → zaJ, take_nil → zaK, getD_cons_zero → zaQ, getD_cons_succ → zaR, length_take → zaU, drop_of_length_le → zbd, take → zbe, drop → zbg
open Int renaming cast_ofNat_Int → zac, reduceEq → zai, reduceLT → zaj, reduceLE → zak, natCast_add → zaH, toNat_zero → zaX
open Option renaming getD_some → zaS, getD_none → zaT
open Bool renaming and_eq_false_iff → zar, or_eq_false_iff → zas, and_eq_true → zat, not_eq_false' → zau, not_eq_true' → zav, or_eq_true → zaE, false_and → zaO, true_and → zaP
open And renaming intro → zaq
open Go.Proofs.Ytnahpejlhfeleac.Sh.Cell renaming ren → zaz, refs → zaV
open Go.Proofs.Ytnahpejlhfeleac.Sh.SV renaming ren → zaL, renL → zaM
open Go.Proofs.Ytnahpejlhfeleac.Sh.Row renaming ren → zaN
open Go.Proofs.Ytnahpejlhfeleac.Sh.St renaming hpF → zaW
-- NEWGO
-- PRUNE: cl_lendx cl_use cl_lend
namespace Go.Proofs.Ytnahpejlhfeleac
set_option linter.unusedVariables false
set_option linter.unusedSimpArgs false
open Go.Proofs.Ytnahpejlhfeleac.Sh
set_option maxRecDepth 20000
theorem inN_fold (r : Int) : (((((decide (97 ≤ r) && decide (r ≤ 122)) || (decide (65 ≤ r) && decide (r ≤ 90))) || (decide (48 ≤ r) && decide (r ≤ 57))) || decide (r = 95)) || decide (r = 45)) = inN r := rfl
set_option maxHeartbeats 4000000 in
theorem rvalid_spec (s : Str) (hs : s.length ≤ 9223372036854775807) : FnSpec Try.prog 56 [s1 s] [] (b1 (nmOk s)) [] := by
  unfold nmOk
  by_cases ha : 1 ≤ (s.length : Int)
  case neg =>
    have ha' : (s.length : Int) = 0 := by omega
    simp only [decide_eq_false ha, zaO]
    refine fnspec_of mixed TT_ok TT_cl ⟨fun _ => false, fun _ => [], 0, fun _ => false, fun _ => false⟩ Try.func56 rfl (by kernel_rfl) rfl 58 rfl [.tmp 2] rfl ?_
    simp only [go_sem, zaa, zae, zaf, zag, zah, zad, ↓reduceIte, reduceCtorEq, zab, zac, zai, zaj, zak, decide_eq_true ha']
    repeat' (first
 | exact fs_nil trivial rfl
 | fail)
  have ha' : ¬ (s.length : Int) = 0 := by omega
  by_cases hb : (s.length : Int) ≤ 32
  case neg =>
    have hb' : 32 < (s.length : Int) := by omega
    simp only [decide_eq_true ha, decide_eq_false hb, zaO, Bool.and_false]
    refine fnspec_of mixed TT_ok TT_cl ⟨fun _ => false, fun _ => [], 0, fun _ => false, fun _ => false⟩ Try.func56 rfl (by kernel_rfl) rfl 58 rfl [.tmp 2] rfl ?_
    simp only [go_sem, zaa, zae, zaf, zag, zah, zad, ↓reduceIte, reduceCtorEq, zab, zac, zai, zaj, zak, decide_eq_false ha', decide_eq_true hb']
    repeat' (first
 | exact fs_nil trivial rfl
 | fail)
  have hb' : ¬ 32 < (s.length : Int) := by omega
  have hd : ((s[Int.toNat 0]?).getD 0) = s.headD 0 := by cases s <;> rfl
  by_cases hc : ((s.headD 0).toNat : Int) = 45
  case pos =>
    simp only [decide_eq_true ha, decide_eq_true hb, decide_eq_true hc, Bool.not_true, zaO, Bool.and_false]
    refine fnspec_of mixed TT_ok TT_cl ⟨fun _ => false, fun _ => [], 0, fun _ => false, fun _ => false⟩ Try.func56 rfl (by kernel_rfl) rfl 58 rfl [.tmp 2] rfl ?_
    simp only [go_sem, zaa, zae, zaf, zag, zah, zad, ↓reduceIte, reduceCtorEq, zab, zac, zai, zaj, zak, decide_eq_false ha', decide_eq_false hb', hd, decide_eq_true hc]
    repeat' (first
 | with_reducible refine zaq ?_ ?_
 | (intros; omega)
 | exact fs_nil trivial rfl
 | fail)
  simp only [decide_eq_true ha, decide_eq_true hb, decide_eq_false hc, Bool.not_false, zaP]
  refine fnspec_of mixed TT_ok TT_cl ⟨fun _ => false, fun _ => [], 0, fun _ => false, fun _ => false⟩ Try.func56 rfl (by kernel_rfl) rfl 58 rfl [.tmp 2] rfl ?_
  simp only [go_sem, zaa, zae, zaf, zag, zah, zad, ↓reduceIte, reduceCtorEq, zab, zac, zai, zaj, zak, decide_eq_false ha', decide_eq_false hb', hd, decide_eq_false hc]
  repeat' (first
 | with_reducible refine zaq ?_ ?_
 | (intros; omega)
 | (intros; (try simp only [zat, zaE, zav, zau, zar, zas, decide_eq_true_eq, decide_eq_false_iff_not] at *); omega))
  refine w_loop (ι := Nat) (fun i => ⟨[(0, s1 s), (3, i1 i)], [], 0⟩) (fun i => i ≤ s.length ∧ s.all okB = (s.drop i).all okB) (fun i => s.length - i) 0 ?_ ⟨zaZ _, rfl⟩ ?_
  · (refine imp_sub _ _ _ [] (by simp) (by simp) (by simp) (zaZ _) ?_ rfl (by simp); simp only [zal, zan, false_implies, implies_true, and_true, lk, slot, zaL, zaz, zaa, if_true, if_false, ↓reduceIte, reduceCtorEq])
    all_goals ((repeat' apply zaq) <;> (first | rfl | trivial))
  rintro i ⟨hi, he⟩
  simp only at hi he ⊢
  rcases zbc i s.length with hlt | hge
  case inr =>
    have hlt' : ¬ (i : Int) < (s.length : Int) := by omega
    rw [zbd hge] at he
    rw [he]
    simp only [go_sem, zaa, zae, zaf, zag, zah, zad, ↓reduceIte, reduceCtorEq, zab, zac, zai, zaj, zak, decide_eq_false hlt', List.all_nil]
    repeat' (first
 | exact fs_nil trivial rfl
 | fail)
  have hlt' : (i : Int) < (s.length : Int) := by omega
  obtain ⟨b, hb2⟩ : ∃ b, s[i]? = some b := ⟨_, List.getElem?_eq_getElem hlt⟩
  rw [drop_at s i b hb2, List.all_cons] at he
  cases hob : okB b with
  | true =>
    rw [hob, zaP] at he
    have hob' : inN (b.toNat : Int) = true := hob
    simp only [go_sem, zaa, zae, zaf, zag, zah, zad, ↓reduceIte, reduceCtorEq, zab, zac, zai, zaj, zak, decide_eq_true hlt', hb2, inN_fold, hob']
    repeat' (first
 | with_reducible refine zaq ?_ ?_
 | (intros; omega)
 | (intros; (try simp only [zat, zaE, zav, zau, zar, zas, decide_eq_true_eq, decide_eq_false_iff_not] at *); omega))
    refine le_mk (i + 1) ?_ ⟨by omega, he⟩ (by omega)
    (refine imp_sub _ _ _ [] (by simp) (by simp) (by simp) (zaZ _) ?_ rfl (by simp); simp only [zal, zan, false_implies, implies_true, and_true, lk, slot, zaL, zaz, zaa, if_true, if_false, ↓reduceIte, reduceCtorEq])
    all_goals ((repeat' apply zaq) <;> (first | rfl | trivial | (simp only [zaH]; done) | (simp only [zaH]; rfl) | (simp only [zaH]; trivial)))
  | false =>
    rw [hob, zaO] at he
    rw [he]
    have hob' : inN (b.toNat : Int) = false := hob
    simp only [go_sem, zaa, zae, zaf, zag, zah, zad, ↓reduceIte, reduceCtorEq, zab, zac, zai, zaj, zak, decide_eq_true hlt', hb2, inN_fold, hob']
    repeat' (first
 | with_reducible refine zaq ?_ ?_
 | (intros; omega)
 | exact fs_nil trivial rfl
 | fail)
end Go.Proofs.Ytnahpejlhfeleac
-- NEWGO
-- PRUNE: cl_lendx cl_use cl_lend
namespace Go.Proofs.Ytnahpejlhfeleac
set_option linter.unusedVariables false
set_option linter.unusedSimpArgs false
open Go.Proofs.Ytnahpejlhfeleac.Sh
set_option maxRecDepth 20000
structure Nd where
  i : Int
  p : Int
  nm : Str
  c : Int
  k : Int
  o : Int
theorem Nd.ext' {x y : Nd} (h1 : x.i = y.i) (h2 : x.p = y.p) (h3 : x.nm = y.nm) (h4 : x.c = y.c) (h5 : x.k = y.k) (h6 : x.o = y.o) : x = y := by cases x; cases y; simp only at *; subst h1 h2 h3 h4 h5 h6; rfl
abbrev ndc (x : Nd) : List Cell := [int x.i, int x.p, st x.nm, int x.c, int x.k, int x.o]
instance : Rec Nd := ⟨ndc, 6, ⟨0, 0, [], 0, 0, 0⟩, fun _ => rfl, fun x c h => by
  simp only [ndc, List.mem_cons, zan, or_false] at h
  rcases h with rfl | rfl | rfl | rfl | rfl | rfl <;> rfl⟩
abbrev zn : Nd := ⟨0, 0, [], 0, 0, 0⟩
abbrev gN (l : List Nd) (i : Nat) : Nd := l.getD i zn
abbrev trV (l : List Nd) (k : Option Nat) (n : Int) : SV := .agg [.gsl (Cs l) 0 l.length k, int n]
structure NdR (x : Nd) : Prop where
  nm : x.nm.length ≤ 9223372036854775807
  c : -9223372036854775808 ≤ x.c ∧ x.c ≤ 9223372036854775807
def rngOk (x : Nd) : Bool := decide (0 ≤ x.c) && decide (x.c ≤ 31) && (decide (0 ≤ x.o) && decide (x.o ≤ 1048576))
def rootOk (x : Nd) : Bool := decide (x.i = 1) && decide (x.p = 0) && decide (x.nm = []) && decide (x.k = 0)
def same1 (p : Int) (s : Str) (y : Nd) : Bool := decide (y.p = p) && decide (y.nm = s)
def chOk (l : List Nd) (i : Nat) : Bool :=
  decide ((gN l (i - 1)).i < (gN l i).i) && nmOk (gN l i).nm && (l.take i).any (fun y => decide (y.i = (gN l i).p)) && !(l.take i).any (same1 (gN l i).p (gN l i).nm)
def kdOk (x : Nd) : Bool := decide (x.k = 0) || decide (x.k = 1)
def stOk (l : List Nd) (i : Nat) : Bool := kdOk (gN l i) && rngOk (gN l i) && (if i = 0 then rootOk (gN l 0) else chOk l i)
def upR : List Nd → Int → List Int
  | [], _ => []
  | x :: r, id => if x.i = id then id :: upR r x.p else upR r id
def upL (l : List Nd) (id : Int) : List Int := upR l.reverse id
def allN (n : Nat) (f : Nat → Bool) : Bool := (List.range n).all f
theorem allN_iff (n : Nat) (f : Nat → Bool) : allN n f = true ↔ ∀ i, i < n → f i = true := by
  simp [allN, List.all_eq_true, List.mem_range]
def chkT (l : List Nd) (n : Int) : Bool :=
  decide (1 ≤ l.length) && decide (l.length ≤ 64) && allN l.length (stOk l) && allN l.length (fun i => decide ((upL l (gN l i).i).length ≤ 9)) && (decide ((gN l (l.length - 1)).i < n) && decide (n ≤ 2147483648))
structure VT (l : List Nd) (n : Int) : Prop where
  ne : 1 ≤ l.length
  le : l.length ≤ 64
  st : ∀ i, i < l.length → stOk l i = true
  dp : ∀ i, i < l.length → (upL l (gN l i).i).length ≤ 9
  nx : (gN l (l.length - 1)).i < n
  mx : n ≤ 2147483648
theorem chkT_iff (l : List Nd) (n : Int) : chkT l n = true ↔ VT l n := by
  unfold chkT
  simp only [zat, decide_eq_true_eq, allN_iff]
  constructor
  · rintro ⟨⟨⟨⟨h1, h2⟩, h3⟩, h4⟩, h5, h6⟩; exact ⟨h1, h2, h3, h4, h5, h6⟩
  · rintro ⟨h1, h2, h3, h4, h5, h6⟩; exact ⟨⟨⟨⟨h1, h2⟩, h3⟩, h4⟩, h5, h6⟩
theorem chkT_not {l : List Nd} {n : Int} (h : ¬ VT l n) : chkT l n = false := Bool.eq_false_iff.2 fun e => h ((chkT_iff l n).1 e)
/-! what a well-formed tree is like -/
theorem stOk_root {l : List Nd} (h : stOk l 0 = true) : (gN l 0).i = 1 ∧ (gN l 0).p = 0 ∧ (gN l 0).nm = [] ∧ (gN l 0).k = 0 := by
  unfold stOk rootOk at h
  simp only [if_pos, zat, decide_eq_true_eq] at h
  obtain ⟨_, ⟨⟨h1, h2⟩, h3⟩, h4⟩ := h
  exact ⟨h1, h2, h3, h4⟩
structure ChP (l : List Nd) (i : Nat) : Prop where
  lt : (gN l (i - 1)).i < (gN l i).i
  nm : nmOk (gN l i).nm = true
  par : ∃ j, j < i ∧ (gN l j).i = (gN l i).p
  new : ∀ j, j < i → ¬ ((gN l j).p = (gN l i).p ∧ (gN l j).nm = (gN l i).nm)
theorem take_any_iff (l : List Nd) (i : Nat) (hi : i ≤ l.length) (f : Nd → Bool) : (l.take i).any f = true ↔ ∃ j, j < i ∧ f (gN l j) = true := by
  rw [List.any_eq_true]
  constructor
  · rintro ⟨x, hx, hf⟩
    obtain ⟨k, hk, rfl⟩ := List.mem_take_iff_getElem.1 hx
    exact ⟨k, by omega, by rw [show gN l k = l[k] from getD_at l k zn (by omega)]; exact hf⟩
  · rintro ⟨j, hj, hf⟩
    exact ⟨gN l j, List.mem_take_iff_getElem.2 ⟨j, by omega, (getD_at l j zn (by omega)).symm⟩, hf⟩
theorem chOk_iff (l : List Nd) (i : Nat) (hi : i < l.length) : chOk l i = true ↔ ChP l i := by
  unfold chOk
  simp only [zat, zav, decide_eq_true_eq]
  rw [take_any_iff l i (zbf hi), Bool.eq_false_iff, ne_eq, take_any_iff l i (zbf hi)]
  unfold same1
  simp only [zat, decide_eq_true_eq]
  constructor
  · rintro ⟨⟨⟨h1, h2⟩, h3⟩, h4⟩
    exact ⟨h1, h2, h3, fun j hj h => h4 ⟨j, hj, h⟩⟩
  · rintro ⟨h1, h2, h3, h4⟩
    exact ⟨⟨⟨h1, h2⟩, h3⟩, fun ⟨j, hj, h⟩ => h4 j hj h⟩
theorem stOk_ch {l : List Nd} {i : Nat} (hi : i < l.length) (h0 : i ≠ 0) (h : stOk l i = true) : ChP l i := by
  unfold stOk at h
  rw [if_neg h0, zat] at h
  exact (chOk_iff l i hi).1 h.2
theorem VT.ch {l : List Nd} {n : Int} (h : VT l n) {i : Nat} (hi : i < l.length) (h0 : i ≠ 0) : ChP l i := stOk_ch hi h0 (h.st i hi)
theorem VT.root {l : List Nd} {n : Int} (h : VT l n) : (gN l 0).i = 1 ∧ (gN l 0).p = 0 ∧ (gN l 0).nm = [] ∧ (gN l 0).k = 0 := stOk_root (h.st 0 h.ne)
def AscI (l : List Nd) : Prop := ∀ i j, i < j → j < l.length → (gN l i).i < (gN l j).i
theorem asc_of_step {l : List Nd} (h : ∀ i, i ≠ 0 → i < l.length → (gN l (i - 1)).i < (gN l i).i) : AscI l := by
  intro i j hij hj
  induction j with
  | zero => omega
  | succ j ih =>
    have h1 := h (j + 1) (by omega) hj
    rw [Nat.add_sub_cancel] at h1
    by_cases e : i = j
    · subst e; exact h1
    · have := ih (by omega) (by omega); omega
theorem VT.asc {l : List Nd} {n : Int} (h : VT l n) : AscI l := asc_of_step fun i h0 hi => (h.ch hi h0).lt
theorem VT.pos {l : List Nd} {n : Int} (h : VT l n) {i : Nat} (hi : i < l.length) : 1 ≤ (gN l i).i := by
  by_cases e : i = 0
  · subst e; have := h.root.1; omega
  · have := h.asc 0 i (by omega) hi; have := h.root.1; omega
theorem VT.lt {l : List Nd} {n : Int} (h : VT l n) {i : Nat} (hi : i < l.length) : (gN l i).i < n := by
  have h1 := h.nx
  by_cases e : i = l.length - 1
  · rw [e]; exact h1
  · have := h.asc i (l.length - 1) (by omega) (by omega); omega
theorem AscI.inj {l : List Nd} (h : AscI l) {i j : Nat} (hi : i < l.length) (hj : j < l.length) (e : (gN l i).i = (gN l j).i) : i = j := by
  rcases Nat.lt_trichotomy i j with c | c | c
  · have := h i j c hj; omega
  · exact c
  · have := h j i c hi; omega
theorem AscI.take {l : List Nd} (h : AscI l) (k : Nat) : AscI (l.take k) := by
  intro i j hij hj
  rw [zaU] at hj
  have e : ∀ m, m < k → gN (l.take k) m = gN l m := fun m hm => by
    simp only [gN, List.getD_eq_getElem?_getD, List.getElem?_take_of_lt hm]
  rw [e i (by omega), e j (by omega)]
  exact h i j hij (by omega)
theorem gN_take (l : List Nd) (k m : Nat) (hm : m < k) : gN (l.take k) m = gN l m := by
  simp only [gN, List.getD_eq_getElem?_getD, List.getElem?_take_of_lt hm]
theorem gN_mem (l : List Nd) (x : Nd) (h : x ∈ l) : ∃ i, i < l.length ∧ gN l i = x := by
  obtain ⟨i, hi, e⟩ := List.getElem_of_mem h
  exact ⟨i, hi, by rw [← e]; exact getD_at l i zn hi⟩
/-! the way up -/
theorem upL_snoc (l : List Nd) (x : Nd) (id : Int) : upL (l ++ [x]) id = if x.i = id then id :: upL l x.p else upL l id := by
  rw [upL, List.reverse_append, List.reverse_singleton, zaD, zaG, upR]; rfl
theorem upL_take (l : List Nd) (i : Nat) (hi : i < l.length) (id : Int) : upL (l.take (i + 1)) id = if (gN l i).i = id then id :: upL (l.take i) (gN l i).p else upL (l.take i) id := by
  rw [take_getD l i zn hi, upL_snoc]
theorem upL_skip (l : List Nd) (id : Int) : ∀ (k : Nat), k ≤ l.length → (∀ j, k ≤ j → j < l.length → (gN l j).i ≠ id) → upL l id = upL (l.take k) id := by
  intro k hk hne
  have : ∀ m, m ≤ l.length - k → upL (l.take (k + m)) id = upL (l.take k) id := by
    intro m
    induction m with
    | zero => intro _; rfl
    | succ m ih =>
      intro hm
      rw [← Nat.add_assoc, upL_take l (k + m) (by omega), if_neg (hne (k + m) (by omega) (by omega)), ih (by omega)]
  have h2 := this (l.length - k) (zaY _)
  rw [show k + (l.length - k) = l.length by omega, List.take_length] at h2
  exact h2
theorem upL_node {l : List Nd} (h : AscI l) {i : Nat} (hi : i < l.length) : upL l (gN l i).i = (gN l i).i :: upL (l.take i) (gN l i).p := by
  rw [upL_skip l (gN l i).i (i + 1) hi (fun j hj hj2 => by have := h i j (by omega) hj2; omega), upL_take l i hi, if_pos rfl]
theorem upL_par {l : List Nd} (h : AscI l) {i j : Nat} (hi : i < l.length) (hj : j < i) : upL (l.take i) (gN l j).i = upL l (gN l j).i := by
  rw [upL_node h (by omega : j < l.length)]
  have := upL_node (h.take i) (i := j) (by rw [zaU]; omega)
  rw [gN_take l i j hj, List.take_take, Nat.min_eq_left (zbf hj)] at this
  exact this
theorem VT.up {l : List Nd} {n : Int} (h : VT l n) {i : Nat} (hi : i < l.length) (h0 : i ≠ 0) : upL l (gN l i).i = (gN l i).i :: upL l (gN l i).p := by
  obtain ⟨j, hj, e⟩ := (h.ch hi h0).par
  rw [upL_node h.asc hi, ← e, upL_par h.asc hi hj]
end Go.Proofs.Ytnahpejlhfeleac
-- NEWGO
namespace Go.Proofs.Ytnahpejlhfeleac
set_option linter.unusedVariables false
set_option linter.unusedSimpArgs false
open Go.Proofs.Ytnahpejlhfeleac.Sh
set_option maxRecDepth 20000
structure VL (l : List Nd) (n : Int) : Prop where
  ne : 1 ≤ l.length
  rt : (gN l 0).i = 1 ∧ (gN l 0).p = 0 ∧ (gN l 0).nm = [] ∧ (gN l 0).k = 0
  le : l.length ≤ 64
  all : ∀ x ∈ l, kdOk x = true ∧ rngOk x = true
  asc : l.Pairwise (fun x y => x.i < y.i)
  ch : ∀ x ∈ l, x.i ≠ 1 → nmOk x.nm = true ∧ ∃ y ∈ l, y.i = x.p ∧ y.i < x.i
  new : l.Pairwise (fun x y => ¬ (x.p = y.p ∧ x.nm = y.nm))
  dp : ∀ x ∈ l, (upL l x.i).length ≤ 9
  nx : ∀ x ∈ l, x.i < n
  mx : n ≤ 2147483648
theorem ascI_iff (l : List Nd) : l.Pairwise (fun x y => x.i < y.i) ↔ AscI l := by
  rw [List.pairwise_iff_getElem]
  constructor
  · intro h i j hij hj
    have := h i j (by omega) hj hij
    rw [show gN l i = l[i] from getD_at l i zn (by omega), show gN l j = l[j] from getD_at l j zn hj]
    exact this
  · intro h i j hi hj hij
    have := h i j hij hj
    rw [show gN l i = l[i] from getD_at l i zn hi, show gN l j = l[j] from getD_at l j zn hj] at this
    exact this
theorem VT.vl {l : List Nd} {n : Int} (h : VT l n) : VL l n where
  ne := h.ne
  rt := h.root
  le := h.le
  all := fun x hx => by
    obtain ⟨i, hi, rfl⟩ := gN_mem l x hx
    have := h.st i hi
    unfold stOk at this
    simp only [zat] at this
    exact this.1
  asc := (ascI_iff l).2 h.asc
  ch := fun x hx h1 => by
    obtain ⟨i, hi, rfl⟩ := gN_mem l x hx
    have h0 : i ≠ 0 := fun e => h1 (by rw [e]; exact h.root.1)
    have hc := h.ch hi h0
    obtain ⟨j, hj, e⟩ := hc.par
    exact ⟨hc.nm, gN l j, getD_mem l j zn (by omega), e, h.asc j i hj hi⟩
  new := by
    rw [List.pairwise_iff_getElem]
    intro i j hi hj hij hh
    have hc := h.ch hj (by omega)
    refine hc.new i hij ?_
    rw [show gN l i = l[i] from getD_at l i zn hi, show gN l j = l[j] from getD_at l j zn hj]
    exact hh
  dp := fun x hx => by
    obtain ⟨i, hi, rfl⟩ := gN_mem l x hx
    exact h.dp i hi
  nx := fun x hx => by
    obtain ⟨i, hi, rfl⟩ := gN_mem l x hx
    exact h.lt hi
  mx := h.mx
theorem VL.vt {l : List Nd} {n : Int} (h : VL l n) : VT l n where
  ne := h.ne
  le := h.le
  st := fun i hi => by
    have hm : gN l i ∈ l := getD_mem l i zn hi
    obtain ⟨h1, h2⟩ := h.all _ hm
    have hA := (ascI_iff l).1 h.asc
    unfold stOk
    rw [h1, h2, zaP, zaP]
    by_cases h0 : i = 0
    · rw [if_pos h0]
      unfold rootOk
      rw [decide_eq_true h.rt.1, decide_eq_true h.rt.2.1, decide_eq_true h.rt.2.2.1, decide_eq_true h.rt.2.2.2]
      rfl
    · rw [if_neg h0, chOk_iff l i hi]
      have hne : (gN l i).i ≠ 1 := by have := hA 0 i (by omega) hi; have := h.rt.1; omega
      obtain ⟨h3, y, hy, e, hlt⟩ := h.ch _ hm hne
      refine ⟨hA (i - 1) i (by omega) hi, h3, ?_, fun j hj hh => ?_⟩
      · obtain ⟨j, hj, rfl⟩ := gN_mem l y hy
        refine ⟨j, ?_, e⟩
        rcases Nat.lt_trichotomy j i with c | c | c
        · exact c
        · rw [c] at hlt; omega
        · have := hA i j c hj; omega
      · have hn := (List.pairwise_iff_getElem.1 h.new) j i (by omega) hi hj
        rw [show gN l i = l[i] from getD_at l i zn hi, show gN l j = l[j] from getD_at l j zn (by omega)] at hh
        exact hn hh
  dp := fun i hi => h.dp _ (getD_mem l i zn hi)
  nx := h.nx _ (getD_mem l _ zn (by have := h.ne; omega))
  mx := h.mx
theorem VL.pos {l : List Nd} {n : Int} (h : VL l n) {x : Nd} (hx : x ∈ l) : 1 ≤ x.i := by
  obtain ⟨i, hi, rfl⟩ := gN_mem l x hx
  exact h.vt.pos hi
theorem VL.inj {l : List Nd} {n : Int} (h : VL l n) {x y : Nd} (hx : x ∈ l) (hy : y ∈ l) (e : x.i = y.i) : x = y := by
  obtain ⟨i, hi, rfl⟩ := gN_mem l x hx
  obtain ⟨j, hj, rfl⟩ := gN_mem l y hy
  rw [((ascI_iff l).1 h.asc).inj hi hj e]
theorem VL.add {l : List Nd} {n : Int} (h : VL l n) {p : Int} {s : Str} (hs : nmOk s = true) (hp : ∃ y ∈ l, y.i = p) (hn : ∀ y ∈ l, ¬ (y.p = p ∧ y.nm = s)) (hd : (upL l p).length ≤ 8) (hl : l.length < 64) (hx : n ≤ 2147483647) :
    VL (l ++ [⟨n, p, s, 0, 0, 0⟩]) (n + 1) where
  ne := by rw [List.length_append]; have := h.ne; omega
  rt := by
    have e : gN (l ++ [⟨n, p, s, 0, 0, 0⟩]) 0 = gN l 0 := by
      have := h.ne
      simp only [gN, List.getD_eq_getElem?_getD]
      rw [List.getElem?_append_left (by omega)]
    rw [e]; exact h.rt
  le := by rw [List.length_append, List.length_singleton]; omega
  all := fun x hx => by
    rcases List.mem_append.1 hx with hx | hx
    · exact h.all x hx
    · rw [List.mem_singleton.1 hx]; exact ⟨rfl, rfl⟩
  asc := List.pairwise_append.2 ⟨h.asc, List.pairwise_singleton _ _, fun a ha b hb => by rw [List.mem_singleton.1 hb]; exact h.nx a ha⟩
  ch := fun x hx h1 => by
    rcases List.mem_append.1 hx with hx | hx
    · obtain ⟨h2, y, hy, h3⟩ := h.ch x hx h1
      exact ⟨h2, y, List.mem_append_left _ hy, h3⟩
    · rw [List.mem_singleton.1 hx]
      obtain ⟨y, hy, e⟩ := hp
      exact ⟨hs, y, List.mem_append_left _ hy, e, h.nx y hy⟩
  new := List.pairwise_append.2 ⟨h.new, List.pairwise_singleton _ _, fun a ha b hb => by rw [List.mem_singleton.1 hb]; exact hn a ha⟩
  dp := fun x hx => by
    rw [upL_snoc]
    rcases List.mem_append.1 hx with hx | hx
    · have := h.nx x hx
      rw [if_neg (by simp only; omega)]
      exact h.dp x hx
    · rw [List.mem_singleton.1 hx, if_pos rfl, zaA]
      simp only; omega
  nx := fun x hx => by
    rcases List.mem_append.1 hx with hx | hx
    · have := h.nx x hx; omega
    · rw [List.mem_singleton.1 hx]; simp only; omega
  mx := by omega
def rmN (l : List Nd) (id : Int) : List Nd := l.filter fun x => !decide (x.i = id)
theorem rmN_mem (l : List Nd) (id : Int) (x : Nd) : x ∈ rmN l id ↔ x ∈ l ∧ x.i ≠ id := by
  unfold rmN
  rw [List.mem_filter]; simp
theorem upR_rm (id : Int) : ∀ (l : List Nd) (q : Int), q ≠ id → (∀ x ∈ l, x.p ≠ id) → upR (l.filter fun x => !decide (x.i = id)) q = upR l q
  | [], q, _, _ => rfl
  | x :: r, q, hq, hp => by
    have hpr : ∀ y ∈ r, y.p ≠ id := fun y hy => hp y (List.mem_cons_of_mem _ hy)
    by_cases c : x.i = id
    · rw [List.filter_cons_of_neg (by simp [c]), upR_rm id r q hq hpr, upR, if_neg (by omega)]
    · rw [List.filter_cons_of_pos (by simp [c]), upR, upR, upR_rm id r q hq hpr, upR_rm id r x.p (hp x List.mem_cons_self) hpr]
theorem upL_rm (l : List Nd) (id q : Int) (hq : q ≠ id) (hp : ∀ x ∈ l, x.p ≠ id) : upL (rmN l id) q = upL l q := by
  unfold upL rmN
  rw [← List.filter_reverse]
  exact upR_rm id l.reverse q hq fun x hx => hp x (List.mem_reverse.1 hx)
theorem VL.rm {l : List Nd} {n : Int} (h : VL l n) {id : Int} (h1 : id ≠ 1) (hc : ∀ x ∈ l, x.p ≠ id) : VL (rmN l id) n := by
  have hsub : (rmN l id).Sublist l := List.filter_sublist
  have h0 : rmN l id ≠ [] ∧ gN (rmN l id) 0 = gN l 0 := by
    have hne := h.ne
    cases l with
    | nil => simp at hne
    | cons r t =>
      have hr : r.i = 1 := h.rt.1
      have : rmN (r :: t) id = r :: rmN t id := by
        unfold rmN
        rw [List.filter_cons_of_pos]
        simp; omega
      rw [this]
      exact ⟨List.cons_ne_nil _ _, rfl⟩
  exact
  { ne := List.length_pos_iff.2 h0.1
    rt := by rw [h0.2]; exact h.rt
    le := Nat.le_trans hsub.length_le h.le
    all := fun x hx => h.all x (hsub.subset hx)
    asc := h.asc.sublist hsub
    ch := fun x hx hx1 => by
      obtain ⟨h2, y, hy, h3, h4⟩ := h.ch x (hsub.subset hx) hx1
      exact ⟨h2, y, (rmN_mem l id y).2 ⟨hy, by rw [h3]; exact hc x (hsub.subset hx)⟩, h3, h4⟩
    new := h.new.sublist hsub
    dp := fun x hx => by
      rw [upL_rm l id x.i ((rmN_mem l id x).1 hx).2 hc]
      exact h.dp x (hsub.subset hx)
    nx := fun x hx => h.nx x (hsub.subset hx)
    mx := h.mx }
end Go.Proofs.Ytnahpejlhfeleac
-- NEWGO
-- PRUNE: cl_lendx cl_use cl_lend
namespace Go.Proofs.Ytnahpejlhfeleac
set_option linter.unusedVariables false
set_option linter.unusedSimpArgs false
open Go.Proofs.Ytnahpejlhfeleac.Sh
set_option maxRecDepth 20000
theorem andn (x : BitVec 64) : (x &&& ~~~ 31#64 = 0#64) ↔ x.toNat < 32 := by
  constructor
  · intro h
    have h1 : x = x &&& 31#64 := by
      apply BitVec.eq_of_getLsbD_eq
      intro i hi
      have := congrArg (fun y => BitVec.getLsbD y i) h
      simp only [BitVec.getLsbD_and, BitVec.getLsbD_not, BitVec.getLsbD_zero] at this ⊢
      revert this
      cases x.getLsbD i <;> cases (31#64).getLsbD i <;> simp [hi]
    have h2 := congrArg BitVec.toNat h1
    rw [BitVec.toNat_and] at h2
    have h3 : x.toNat &&& 31 = x.toNat % 32 := Nat.and_two_pow_sub_one_eq_mod x.toNat 5
    have h4 : (31#64).toNat = 31 := rfl
    rw [h4, h3] at h2
    omega
  · intro h
    have h1 : x &&& 31#64 = x := by
      apply BitVec.eq_of_toNat_eq
      rw [BitVec.toNat_and]
      have h3 : x.toNat &&& 31 = x.toNat % 32 := Nat.and_two_pow_sub_one_eq_mod x.toNat 5
      have h4 : (31#64).toNat = 31 := rfl
      rw [h4, h3, Nat.mod_eq_of_lt h]
    rw [← h1, BitVec.and_assoc]
    have h5 : 31#64 &&& ~~~ 31#64 = 0#64 := by decide
    rw [h5]; simp
abbrev andN (a : Int) : Int := IntKind.i64.wrap (((BitVec.ofInt 64 a &&& ~~~ BitVec.ofInt 64 31).toNat : Nat) : Int)
theorem andN_iff (a : Int) (h : -9223372036854775808 ≤ a ∧ a ≤ 9223372036854775807) : andN a = 0 ↔ 0 ≤ a ∧ a ≤ 31 := by
  have h1 : BitVec.ofInt 64 31 = 31#64 := by decide
  unfold andN
  rw [h1, IntKind.wrap_i64]
  have h2 := andn (BitVec.ofInt 64 a)
  have h3 : (BitVec.ofInt 64 a).toNat = (a % 18446744073709551616).toNat := by rw [BitVec.toNat_ofInt]; rfl
  have h4 := (BitVec.ofInt 64 a &&& ~~~ 31#64).isLt
  have h5 : (BitVec.ofInt 64 a &&& ~~~ 31#64 = 0#64) ↔ (BitVec.ofInt 64 a &&& ~~~ 31#64).toNat = 0 := by
    constructor
    · intro e; rw [e]; rfl
    · intro e; exact BitVec.eq_of_toNat_eq e
  rw [h5, h3] at h2
  generalize (BitVec.ofInt 64 a &&& ~~~ 31#64).toNat = m at *
  constructor
  · intro e
    have : m = 0 := by omega
    have := h2.1 this
    omega
  · intro e
    have : m = 0 := h2.2 (by omega)
    subst this
    omega
end Go.Proofs.Ytnahpejlhfeleac
-- NEWGO
-- PRUNE: cl_lendx cl_use cl_lend
-- ISG: Cs_isG
-- FLAT: Cs_flat
namespace Go.Proofs.Ytnahpejlhfeleac
set_option linter.unusedVariables false
set_option linter.unusedSimpArgs false
open Go.Proofs.Ytnahpejlhfeleac.Sh
set_option maxRecDepth 20000
theorem nd_td (l : List Nd) (i : Nat) (h : i < l.length) : zbe 6 (zbg (i * 6) (Cs l)) = ndc (gN l i) := Cs_td l i h
theorem nd_f (l : List Nd) (i : Nat) (h : i < l.length) (d : Cell) : (Cs l).getD (i * 6) d = int (gN l i).i ∧ (Cs l).getD (i * 6 + 1) d = int (gN l i).p ∧ (Cs l).getD (i * 6 + 2) d = st (gN l i).nm ∧ (Cs l).getD (i * 6 + 3) d = int (gN l i).c ∧ (Cs l).getD (i * 6 + 4) d = int (gN l i).k ∧ (Cs l).getD (i * 6 + 5) d = int (gN l i).o :=
  ⟨Cs_fld l i 0 d h (by decide), Cs_fld l i 1 d h (by decide), Cs_fld l i 2 d h (by decide), Cs_fld l i 3 d h (by decide), Cs_fld l i 4 d h (by decide), Cs_fld l i 5 d h (by decide)⟩
theorem nd_len (l : List Nd) : (Cs l).length = l.length * 6 := Cs_len l
theorem gate_eq (xk xc xo : Int) : (!decide (xk = 0) && !decide (xk = 1) || decide (xc < 0) || decide (31 < xc) || decide (xo < 0) || decide (1048576 < xo)) = !((decide (xk = 0) || decide (xk = 1)) && (decide (0 ≤ xc) && decide (xc ≤ 31) && (decide (0 ≤ xo) && decide (xo ≤ 1048576)))) := by
  have e1 : decide (xc < 0) = !decide (0 ≤ xc) := by rw [← decide_not]; exact decide_eq_decide.2 (by omega)
  have e2 : decide (31 < xc) = !decide (xc ≤ 31) := by rw [← decide_not]; exact decide_eq_decide.2 (by omega)
  have e3 : decide (xo < 0) = !decide (0 ≤ xo) := by rw [← decide_not]; exact decide_eq_decide.2 (by omega)
  have e4 : decide (1048576 < xo) = !decide (xo ≤ 1048576) := by rw [← decide_not]; exact decide_eq_decide.2 (by omega)
  rw [e1, e2, e3, e4]
  cases decide (xk = 0) <;> cases decide (xk = 1) <;> cases decide (0 ≤ xc) <;> cases decide (xc ≤ 31) <;> cases decide (0 ≤ xo) <;> cases decide (xo ≤ 1048576) <;> rfl
theorem any_take_succ (l : List Nd) (k : Nat) (h : k < l.length) (f : Nd → Bool) : (l.take (k + 1)).any f = ((l.take k).any f || f (gN l k)) := by
  rw [take_getD l k zn h, List.any_append]; simp
set_option maxHeartbeats 8000000 in
theorem node_spec (l : List Nd) (k : Option Nat) (n : Int) (i : Nat) (hi : i < l.length) (hl : l.length ≤ 1000000) (hnm : (gN l i).nm.length ≤ 9223372036854775807) : FnSpec Try.prog 49 [trV l k n, i1 i] [] (b1 (stOk l i)) [] := by
  have hN := nd_td l i hi
  have hnl := nd_len l
  obtain ⟨x, hx⟩ : ∃ x, gN l i = x := ⟨_, rfl⟩
  have hst : stOk l i = (kdOk x && rngOk x && (if i = 0 then rootOk x else chOk l i)) := by
    unfold stOk
    rw [hx]
    by_cases h0 : i = 0
    · subst h0; rw [if_pos rfl, if_pos rfl, hx]
    · rw [if_neg h0, if_neg h0]
  have hch : chOk l i = (decide ((gN l (i - 1)).i < x.i) && nmOk x.nm && (l.take i).any (fun y => decide (y.i = x.p)) && !(l.take i).any (same1 x.p x.nm)) := by unfold chOk; rw [hx]
  rw [hx] at hN hnm
  obtain ⟨xi, xp, xn, xc, xk, xo⟩ := x
  simp only [ndc] at hN hnm
  have hg := gate_eq xk xc xo
  have hge : (kdOk ⟨xi, xp, xn, xc, xk, xo⟩ && rngOk ⟨xi, xp, xn, xc, xk, xo⟩) = ((decide (xk = 0) || decide (xk = 1)) && (decide (0 ≤ xc) && decide (xc ≤ 31) && (decide (0 ≤ xo) && decide (xo ≤ 1048576)))) := rfl
  rw [← hge] at hg
  rw [hst]
  cases hb : (kdOk ⟨xi, xp, xn, xc, xk, xo⟩ && rngOk ⟨xi, xp, xn, xc, xk, xo⟩) with
  | false =>
    rw [hb] at hg
    simp only [Bool.not_false] at hg
    rw [zaO]
    refine fnspec_of mixed TT_ok TT_cl ⟨fun _ => false, fun _ => [], 0, fun _ => false, fun _ => false⟩ Try.func49 rfl (by kernel_rfl) rfl 115 rfl [.tmp 4] rfl ?_
    simp only [go_sem, zaa, zae, zaf, zag, zah, zad, ↓reduceIte, reduceCtorEq, zab, zac, zai, zaj, zak, hN, zaB, zaF, zap, zaD, zaG, zax, zay, zaw, zaJ, zaK, zaA, zaI, hg]
    repeat' (first
 | with_reducible refine zaq ?_ ?_
 | (intros; omega)
 | exact fs_nil trivial rfl
 | fail)
  | true =>
    rw [hb] at hg
    simp only [Bool.not_true] at hg
    rw [zaP]
    by_cases h0 : i = 0
    · have c0 : (i : Int) = 0 := by omega
      rw [if_pos h0]
      unfold rootOk
      refine fnspec_of mixed TT_ok TT_cl ⟨fun _ => false, fun _ => [], 0, fun _ => false, fun _ => false⟩ Try.func49 rfl (by kernel_rfl) rfl 115 rfl [.tmp 4] rfl ?_
      simp only [go_sem, zaa, zae, zaf, zag, zah, zad, ↓reduceIte, reduceCtorEq, zab, zac, zai, zaj, zak, hN, zaB, zaF, zap, zaD, zaG, zax, zay, zaw, zaJ, zaK, zaA, zaI, hg, decide_eq_true c0]
      repeat' (first
 | with_reducible refine zaq ?_ ?_
 | (intros; omega)
 | exact fs_nil trivial rfl
 | fail)
    have c0 : ¬ (i : Int) = 0 := by omega
    rw [if_neg h0, hch]
    have hin : ((i : Int) - 1).toNat = i - 1 := by omega
    obtain ⟨f1, _⟩ := nd_f l (i - 1) (by omega) (.sc (.int .i64 0))
    have hv := rvalid_spec xn (by omega)
    by_cases hlt : xi ≤ (gN l (i - 1)).i
    · rw [decide_eq_false (by simp only; omega), zaO, zaO, zaO]
      refine fnspec_of mixed TT_ok TT_cl ⟨fun _ => false, fun _ => [], 0, fun _ => false, fun _ => false⟩ Try.func49 rfl (by kernel_rfl) rfl 115 rfl [.tmp 4] rfl ?_
      simp only [go_sem, zaa, zae, zaf, zag, zah, zad, ↓reduceIte, reduceCtorEq, zab, zac, zai, zaj, zak, hN, zaB, zaF, zap, zaD, zaG, zax, zay, zaw, zaJ, zaK, zaA, zaI, hg, decide_eq_false c0, hin, f1, decide_eq_true hlt]
      repeat' (first
 | with_reducible refine zaq ?_ ?_
 | (unfold OKC; kernel_rfl)
 | (unfold EDG; kernel_rfl)
 | (intros; omega)
 | exact fs_nil trivial rfl
 | fail)
    rw [decide_eq_true (by simp only; omega), zaP]
    cases hnv : nmOk xn with
    | false =>
      rw [hnv] at hv
      rw [zaO, zaO]
      refine fnspec_of mixed TT_ok TT_cl ⟨fun _ => false, fun _ => [], 0, fun _ => false, fun _ => false⟩ Try.func49 rfl (by kernel_rfl) rfl 115 rfl [.tmp 4] rfl ?_
      simp only [go_sem, zaa, zae, zaf, zag, zah, zad, ↓reduceIte, reduceCtorEq, zab, zac, zai, zaj, zak, hN, zaB, zaF, zap, zaD, zaG, zax, zay, zaw, zaJ, zaK, zaA, zaI, hg, decide_eq_false c0, hin, f1, decide_eq_false hlt]
      repeat' (first
 | with_reducible refine zaq ?_ ?_
 | (unfold OKC; kernel_rfl)
 | (unfold EDG; kernel_rfl)
 | (apply cg_tp
    case hl => rfl
    case ha => (simp only [zam, zao, prepV, prepC, idx, hpL', lookR, zaa, if_true, if_false]; rfl)
    case hs => rfl
    case h => (first | exact hv ..))
 | ((first | refine s1_id ?_ | refine swp_id ?_ | refine sops_id ?_ | refine s2_id ?_); simp only [hN, zaB, zaF, zap, zaD, zaG, zax, zay, zaw, zaJ, zaK, zaA, zaI, hg, decide_eq_false c0, hin, f1, decide_eq_false hlt, go_sem, zaa, zae, zaf, zag, zah, zad, ↓reduceIte, reduceCtorEq, zab, zac, zai, zaj, zak, zaL, zaM, zaz, zaN, renO, bk, back, outUpsFrom, Ints_ren])
 | (intros; omega)
 | exact fs_nil trivial rfl
 | fail)
    | true =>
    rw [hnv] at hv
    rw [zaP]
    simp only
    refine fnspec_of mixed TT_ok TT_cl ⟨fun _ => false, fun _ => [], 0, fun _ => false, fun _ => false⟩ Try.func49 rfl (by kernel_rfl) rfl 115 rfl [.tmp 4] rfl ?_
    simp only [go_sem, zaa, zae, zaf, zag, zah, zad, ↓reduceIte, reduceCtorEq, zab, zac, zai, zaj, zak, hN, zaB, zaF, zap, zaD, zaG, zax, zay, zaw, zaJ, zaK, zaA, zaI, hg, decide_eq_false c0, hin, f1, decide_eq_false hlt]
    repeat' (first
 | with_reducible refine zaq ?_ ?_
 | (unfold OKC; kernel_rfl)
 | (unfold EDG; kernel_rfl)
 | (apply cg_tp
    case hl => rfl
    case ha => (simp only [zam, zao, prepV, prepC, idx, hpL', lookR, zaa, if_true, if_false]; rfl)
    case hs => rfl
    case h => (first | exact hv ..))
 | ((first | refine s1_id ?_ | refine swp_id ?_ | refine sops_id ?_ | refine s2_id ?_); simp only [hN, zaB, zaF, zap, zaD, zaG, zax, zay, zaw, zaJ, zaK, zaA, zaI, hg, decide_eq_false c0, hin, f1, decide_eq_false hlt, go_sem, zaa, zae, zaf, zag, zah, zad, ↓reduceIte, reduceCtorEq, zab, zac, zai, zaj, zak, zaL, zaM, zaz, zaN, renO, bk, back, outUpsFrom, Ints_ren])
 | (intros; omega)
 | (intros; (try simp only [zat, zaE, zav, zau, zar, zas, decide_eq_true_eq, decide_eq_false_iff_not] at *); omega))
    refine w_loop (ι := Nat) (fun m => ⟨[(1, i1 i), (2, .one (.optr 0 0)), (5, .one (.optr 1 0)), (6, b1 ((l.take m).any fun y => decide (y.i = xp))), (7, i1 m)], [(0, some ⟨[.gsl (Cs l) 0 l.length k, int n], 2⟩), (1, some ⟨[int xi, int xp, st xn, int xc, int xk, int xo], 6⟩)], 2⟩) (fun m => m ≤ i ∧ (l.take m).any (same1 xp xn) = false) (fun m => i - m) 0 ?_ ⟨zaZ _, rfl⟩ ?_
    · (refine imp_ren _ _ _ [(0, 0, ⟨[.gsl (Cs l) 0 l.length k, int n], 2⟩), (1, 7, ⟨[int xi, int xp, st xn, int xc, int xk, int xo], 6⟩)] (by simp) (by simp) (by simp) (zaC rfl) ?_ rfl (by simp only [zal, zan, false_implies, implies_true, and_true, zaW, lookR, zaa, if_true, if_false, ↓reduceIte] <;> (repeat' apply zaq) <;> (first | rfl | trivial)) (by simp only [zal, zan, false_implies, implies_true, and_true, true_and, flat_cons, flat_nil, flat_ints, flat_bools, flat_app, zaV, and_self, eq_self_iff_true, zap]); simp only [zam, zao, zal, zan, false_implies, implies_true, and_true, lk, slot, zaL, zaz, toN, zaa, if_true, if_false, ↓reduceIte, reduceCtorEq])
      all_goals ((repeat' apply zaq) <;> (first | rfl | trivial))
    rintro m ⟨hm, hno⟩
    simp only at hm hno ⊢
    rcases zbc m i with hmi | hge
    case inr =>
      have c : ¬ (m : Int) < (i : Int) := by omega
      obtain rfl : m = i := by omega
      rw [hno, Bool.not_false, Bool.and_true]
      simp only [go_sem, zaa, zae, zaf, zag, zah, zad, ↓reduceIte, reduceCtorEq, zab, zac, zai, zaj, zak, decide_eq_false c]
      repeat' (first
 | exact fs_nil trivial rfl
 | fail)
    have c : (m : Int) < (i : Int) := by omega
    obtain ⟨g1, g2, g3, _⟩ := nd_f l m (by omega) (.sc (.int .i64 0))
    have g3' := (nd_f l m (by omega) (.sc (.string (bs [])))).2.2.1
    have hs := any_take_succ l m (by omega) (same1 xp xn)
    have hs2 := any_take_succ l m (by omega) (fun y => decide (y.i = xp))
    have hsm : same1 xp xn (gN l m) = (decide ((gN l m).p = xp) && decide ((gN l m).nm = xn)) := rfl
    rw [hno, Bool.false_or] at hs
    cases hdup : same1 xp xn (gN l m) with
    | true =>
      have hany : (l.take i).any (same1 xp xn) = true := (take_any_iff l i (zbf hi) _).2 ⟨m, hmi, hdup⟩
      rw [hany, Bool.not_true, Bool.and_false]
      rw [hsm] at hdup
      simp only [go_sem, zaa, zae, zaf, zag, zah, zad, ↓reduceIte, reduceCtorEq, zab, zac, zai, zaj, zak, decide_eq_true c, g1, g2, g3', hdup]
      repeat' (first
 | with_reducible refine zaq ?_ ?_
 | (unfold OKC; kernel_rfl)
 | (unfold EDG; kernel_rfl)
 | (intros; omega)
 | exact fs_nil trivial rfl
 | fail)
    | false =>
      rw [hdup] at hs
      rw [hsm] at hdup
      simp only [go_sem, zaa, zae, zaf, zag, zah, zad, ↓reduceIte, reduceCtorEq, zab, zac, zai, zaj, zak, decide_eq_true c, g1, g2, g3', hdup]
      repeat' (first
 | with_reducible refine zaq ?_ ?_
 | (unfold OKC; kernel_rfl)
 | (unfold EDG; kernel_rfl)
 | (intros; omega)
 | (intros; (try simp only [zat, zaE, zav, zau, zar, zas, decide_eq_true_eq, decide_eq_false_iff_not] at *); omega))
      refine le_mk (m + 1) ?_ ⟨hmi, hs⟩ (by omega)
      rw [hs2]
      (refine imp_ren _ _ _ [(0, 0, ⟨[.gsl (Cs l) 0 l.length k, int n], 2⟩), (1, 1, ⟨[int xi, int xp, st xn, int xc, int xk, int xo], 6⟩)] (by simp) (by simp) (by simp) (zaC rfl) ?_ rfl (by simp only [zal, zan, false_implies, implies_true, and_true, zaW, lookR, zaa, if_true, if_false, ↓reduceIte] <;> (repeat' apply zaq) <;> (first | rfl | trivial)) (by simp only [zal, zan, false_implies, implies_true, and_true, true_and, flat_cons, flat_nil, flat_ints, flat_bools, flat_app, zaV, and_self, eq_self_iff_true, zap]); simp only [zam, zao, zal, zan, false_implies, implies_true, and_true, lk, slot, zaL, zaz, toN, zaa, if_true, if_false, ↓reduceIte, reduceCtorEq])
      all_goals ((repeat' apply zaq) <;> (first | rfl | trivial | (simp only [zaH]; done) | (simp only [zaH]; rfl) | (simp only [zaH]; trivial)))
end Go.Proofs.Ytnahpejlhfeleac
-- NEWGO
-- PRUNE: cl_lendx cl_use cl_lend
-- ISG: Cs_isG
-- FLAT: Cs_flat
namespace Go.Proofs.Ytnahpejlhfeleac
set_option linter.unusedVariables false
set_option linter.unusedSimpArgs false
open Go.Proofs.Ytnahpejlhfeleac.Sh
set_option maxRecDepth 20000
set_option maxHeartbeats 8000000 in
theorem up_spec (l : List Nd) (k : Option Nat) (n : Int) (id0 : Int) (hl : l.length ≤ 1000000) : FnSpec Try.prog 50 [trV l k n, i1 id0] [] (gi (upL l id0) none) [] := by
  have hnl := nd_len l
  refine fnspec_of mixed TT_ok TT_cl ⟨fun _ => false, fun _ => [], 0, fun _ => false, fun _ => false⟩ Try.func50 rfl (by kernel_rfl) rfl 34 rfl [.tmp 4] rfl ?_
  simp only [go_sem, zaa, zae, zaf, zag, zah, zad, ↓reduceIte, reduceCtorEq, zab, zac, zai, zaj, zak]
  repeat' (first
 | with_reducible refine zaq ?_ ?_
 | (intros; omega)
 | (intros; (try simp only [zat, zaE, zav, zau, zar, zas, decide_eq_true_eq, decide_eq_false_iff_not] at *); omega))
  refine w_loop (ι := Nat × Int × List Int) (fun s => ⟨[(1, i1 s.2.1), (2, .one (.optr 0 0)), (5, .one (.osl 1 0 s.2.2.length none)), (6, i1 ((s.1 : Int) - 1))], [(0, some ⟨[.gsl (Cs l) 0 l.length k, int n], 2⟩), (1, some ⟨Ints s.2.2, 1⟩)], 2⟩) (fun s => s.1 ≤ l.length ∧ s.2.2.length + s.1 ≤ l.length ∧ upL l id0 = s.2.2 ++ upL (l.take s.1) s.2.1) (fun s => s.1) (l.length, id0, []) ?_ ⟨zaY _, by simp, by rw [List.take_length]; rfl⟩ ?_
  · (refine Imp.trans (imp_nilA _ _ 5 1 99 (by simp only []; omega) rfl) ?_)
    (refine imp_ren _ _ _ [(0, 0, ⟨[.gsl (Cs l) 0 l.length k, int n], 2⟩), (1, 99, ⟨[], 1⟩)] (by simp) (by simp) (by simp) (zaC rfl) ?_ rfl (by simp only [zal, zan, false_implies, implies_true, and_true, zaW, lookR, zaa, if_true, if_false, ↓reduceIte] <;> (repeat' apply zaq) <;> (first | rfl | trivial)) (by simp only [zal, zan, false_implies, implies_true, and_true, true_and, flat_cons, flat_nil, flat_ints, flat_bools, flat_app, zaV, and_self, eq_self_iff_true, zap]); simp only [zam, zao, zal, zan, false_implies, implies_true, and_true, lk, slot, zaL, zaz, toN, zaa, if_true, if_false, ↓reduceIte, reduceCtorEq])
    all_goals ((repeat' apply zaq) <;> (first | rfl | trivial))
  rintro ⟨m, id, acc⟩ ⟨hm, ha, hI⟩
  simp only at hm ha hI ⊢
  cases m with
  | zero =>
    have c : ¬ (0 : Int) ≤ ((0 : Nat) : Int) - 1 := by omega
    have he : upL [] id = [] := rfl
    rw [zaJ, he, zap] at hI
    rw [hI]
    simp only [go_sem, zaa, zae, zaf, zag, zah, zad, ↓reduceIte, reduceCtorEq, zab, zac, zai, zaj, zak, decide_eq_false c]
    repeat' (first
 | with_reducible refine zaq ?_ ?_
 | (refine gt_if (fun h => ?_) (fun h => ?_) <;> (try simp only [h]))
 | ((first | refine s1_id ?_ | refine swp_id ?_ | refine sops_id ?_ | refine s2_id ?_); simp only [decide_eq_false c, go_sem, zaa, zae, zaf, zag, zah, zad, ↓reduceIte, reduceCtorEq, zab, zac, zai, zaj, zak, zaL, zaM, zaz, zaN, renO, bk, back, outUpsFrom, Ints_ren])
 | (intros; omega)
 | (intros; (try simp only [zat, zaE, zav, zau, zar, zas, decide_eq_true_eq, decide_eq_false_iff_not] at *); omega))
    (refine fs_frz 1 ⟨Ints acc, 1⟩ (by simp only [zaW, lookR, zaa, if_true, if_false, ↓reduceIte]) (by first | exact Ints_isG _ | exact Bools_isG _ | exact Cs_isG _ | (simp [Cell.isG]; done)) ?_; simp only [frzTm, SV.frz, SV.frzL, Cell.frz, frzHp, frzO, Ints_frz, Bools_frz, zam, zao, zaa, if_true, if_false, ↓reduceIte])
    apply fs_nil <;> (try simp only [go_sem, resV, resS, zaL, zaM, zaz, St.tmF, zaW, idx, renO, zaN, evS, slot, lookR, zaa, ↓reduceIte, reduceCtorEq, if_true, if_false, zaS, zaT, zam, zao, sLoad, readAt, readNeed, Ints_ren, Ints_length, Ints_getD, and_true, true_and, zaQ, zaR]) <;> (try rfl)
  | succ m =>
    have c : (0 : Int) ≤ ((m + 1 : Nat) : Int) - 1 := by omega
    have e1 : (((m + 1 : Nat) : Int) - 1).toNat = m := by omega
    have e2 : ((m + 1 : Nat) : Int) - 1 = (m : Int) := by omega
    have hlt : m < l.length := by omega
    obtain ⟨g1, g2, _⟩ := nd_f l m hlt (.sc (.int .i64 0))
    rw [upL_take l m hlt] at hI
    by_cases hid : (gN l m).i = id
    · rw [if_pos hid] at hI
      have htk : zbe acc.length (Ints acc) = Ints acc := List.take_of_length_le (by rw [Ints_length]; exact zaY _)
      have hpp : Ints acc ++ [int id] = Ints (acc ++ [id]) := by simp [Ints]
      have hla : (acc ++ [id]).length = acc.length + 1 := by simp
      simp only [go_sem, zaa, zae, zaf, zag, zah, zad, ↓reduceIte, reduceCtorEq, zab, zac, zai, zaj, zak, e2, decide_eq_true (Int.natCast_nonneg m), g1, g2, decide_eq_true hid]
      repeat' (first
 | with_reducible refine zaq ?_ ?_
 | (intros; omega)
 | (intros; (try simp only [zat, zaE, zav, zau, zar, zas, decide_eq_true_eq, decide_eq_false_iff_not] at *); omega))
      refine le_mk (m, (gN l m).p, acc ++ [id]) ?_ ⟨zbf hlt, by show (acc ++ [id]).length + m ≤ l.length; rw [hla]; omega, by rw [hI]; simp⟩ (Nat.lt_succ_self m)
      simp only [hla]
      (refine imp_ren _ _ _ [(0, 0, ⟨[.gsl (Cs l) 0 l.length k, int n], 2⟩), (1, 15, ⟨Ints (acc ++ [id]), 1⟩)] (by simp) (by simp) (by simp) (zaC rfl) ?_ rfl (by simp only [zal, zan, false_implies, implies_true, and_true, zaW, lookR, zaa, if_true, if_false, ↓reduceIte] <;> (repeat' apply zaq) <;> (first | rfl | trivial)) (by simp only [zal, zan, false_implies, implies_true, and_true, true_and, flat_cons, flat_nil, flat_ints, flat_bools, flat_app, zaV, and_self, eq_self_iff_true, zap]); simp only [zam, zao, zal, zan, false_implies, implies_true, and_true, lk, slot, zaL, zaz, toN, zaa, if_true, if_false, ↓reduceIte, reduceCtorEq])
      all_goals ((repeat' apply zaq) <;> (first | rfl | trivial | (simp only []; done) | (simp only []; rfl) | (simp only []; trivial)))
    · rw [if_neg hid] at hI
      simp only [go_sem, zaa, zae, zaf, zag, zah, zad, ↓reduceIte, reduceCtorEq, zab, zac, zai, zaj, zak, e2, decide_eq_true (Int.natCast_nonneg m), g1, g2, decide_eq_false hid]
      repeat' (first
 | with_reducible refine zaq ?_ ?_
 | (intros; omega)
 | (intros; (try simp only [zat, zaE, zav, zau, zar, zas, decide_eq_true_eq, decide_eq_false_iff_not] at *); omega))
      refine le_mk (m, id, acc) ?_ ⟨zbf hlt, by show acc.length + m ≤ l.length; omega, hI⟩ (Nat.lt_succ_self m)
      (refine imp_ren _ _ _ [(0, 0, ⟨[.gsl (Cs l) 0 l.length k, int n], 2⟩), (1, 1, ⟨Ints acc, 1⟩)] (by simp) (by simp) (by simp) (zaC rfl) ?_ rfl (by simp only [zal, zan, false_implies, implies_true, and_true, zaW, lookR, zaa, if_true, if_false, ↓reduceIte] <;> (repeat' apply zaq) <;> (first | rfl | trivial)) (by simp only [zal, zan, false_implies, implies_true, and_true, true_and, flat_cons, flat_nil, flat_ints, flat_bools, flat_app, zaV, and_self, eq_self_iff_true, zap]); simp only [zam, zao, zal, zan, false_implies, implies_true, and_true, lk, slot, zaL, zaz, toN, zaa, if_true, if_false, ↓reduceIte, reduceCtorEq])
      all_goals ((repeat' apply zaq) <;> (first | rfl | trivial | (simp only []; done) | (simp only []; rfl) | (simp only []; trivial)))
def NmR (l : List Nd) : Prop := ∀ x ∈ l, x.nm.length ≤ 9223372036854775807
theorem NmR.at {l : List Nd} (h : NmR l) (i : Nat) (hi : i < l.length) : (gN l i).nm.length ≤ 9223372036854775807 := h _ (getD_mem l i zn hi)
set_option maxHeartbeats 8000000 in
theorem trcheck_spec (l : List Nd) (k : Option Nat) (n : Int) (hl : l.length ≤ 1000000) (hnm : NmR l) : FnSpec Try.prog 30 [trV l k n] [] (b1 (chkT l n)) [] := by
  have hnl := nd_len l
  by_cases h1 : (l.length : Int) < 1
  · rw [chkT_not fun h => by have := h.ne; omega]
    refine fnspec_of mixed TT_ok TT_cl ⟨fun _ => false, fun _ => [], 0, fun _ => false, fun _ => false⟩ Try.func30 rfl (by kernel_rfl) rfl 54 rfl [.tmp 2] rfl ?_
    simp only [go_sem, zaa, zae, zaf, zag, zah, zad, ↓reduceIte, reduceCtorEq, zab, zac, zai, zaj, zak, decide_eq_true h1]
    repeat' (first
 | exact fs_nil trivial rfl
 | fail)
  by_cases h64 : 64 < (l.length : Int)
  · rw [chkT_not fun h => by have := h.le; omega]
    refine fnspec_of mixed TT_ok TT_cl ⟨fun _ => false, fun _ => [], 0, fun _ => false, fun _ => false⟩ Try.func30 rfl (by kernel_rfl) rfl 54 rfl [.tmp 2] rfl ?_
    simp only [go_sem, zaa, zae, zaf, zag, zah, zad, ↓reduceIte, reduceCtorEq, zab, zac, zai, zaj, zak, decide_eq_false h1, decide_eq_true h64]
    repeat' (first
 | exact fs_nil trivial rfl
 | fail)
  have h1' : 1 ≤ l.length := by omega
  have h64' : l.length ≤ 64 := by omega
  refine fnspec_of mixed TT_ok TT_cl ⟨fun _ => false, fun _ => [], 0, fun _ => false, fun _ => false⟩ Try.func30 rfl (by kernel_rfl) rfl 54 rfl [.tmp 2] rfl ?_
  simp only [go_sem, zaa, zae, zaf, zag, zah, zad, ↓reduceIte, reduceCtorEq, zab, zac, zai, zaj, zak, decide_eq_false h1, decide_eq_false h64]
  repeat' (first
 | (intros; (try simp only [zat, zaE, zav, zau, zar, zas, decide_eq_true_eq, decide_eq_false_iff_not] at *); omega))
  refine w_loop (ι := Nat) (fun m => ⟨[(1, .one (.optr 0 0)), (3, i1 l.length), (4, i1 m)], [(0, some ⟨[.gsl (Cs l) 0 l.length k, int n], 2⟩)], 1⟩) (fun m => m ≤ l.length ∧ ∀ i, i < m → stOk l i = true) (fun m => l.length - m) 0 ?_ ⟨zaZ _, fun i hi => absurd hi (Nat.not_lt_zero _)⟩ ?_
  · (refine imp_ren _ _ _ [(0, 0, ⟨[.gsl (Cs l) 0 l.length k, int n], 2⟩)] (by simp) (by simp) (by simp) (zaC rfl) ?_ rfl (by simp only [zal, zan, false_implies, implies_true, and_true, zaW, lookR, zaa, if_true, if_false, ↓reduceIte] <;> (repeat' apply zaq) <;> (first | rfl | trivial)) (by simp only [zal, zan, false_implies, implies_true, and_true, true_and, flat_cons, flat_nil, flat_ints, flat_bools, flat_app, zaV, and_self, eq_self_iff_true, zap]); simp only [zam, zao, zal, zan, false_implies, implies_true, and_true, lk, slot, zaL, zaz, toN, zaa, if_true, if_false, ↓reduceIte, reduceCtorEq])
    all_goals ((repeat' apply zaq) <;> (first | rfl | trivial))
  rintro m ⟨hm, hst⟩
  simp only at hm hst ⊢
  rcases zbc m l.length with hlt | hge
  case inl =>
    have c : (m : Int) < (l.length : Int) := by omega
    have h2 := node_spec l k n m hlt hl (hnm.at m hlt)
    cases hb : stOk l m with
    | false =>
      rw [chkT_not fun h => by have := h.st m hlt; rw [hb] at this; cases this]
      rw [hb] at h2
      simp only [go_sem, zaa, zae, zaf, zag, zah, zad, ↓reduceIte, reduceCtorEq, zab, zac, zai, zaj, zak, decide_eq_true c]
      repeat' (first
 | (apply cl_plain
    case hs => rfl
    case ha => (simp only [zam, zao, prepV, prepC, idx, hpL', lookR, zaa, if_true, if_false]; rfl)
    case h => (first | exact h2 ..))
 | ((first | refine s1_id ?_ | refine swp_id ?_ | refine sops_id ?_ | refine s2_id ?_); simp only [decide_eq_true c, go_sem, zaa, zae, zaf, zag, zah, zad, ↓reduceIte, reduceCtorEq, zab, zac, zai, zaj, zak, zaL, zaM, zaz, zaN, renO, bk, back, outUpsFrom, Ints_ren])
 | exact fs_nil trivial rfl
 | fail)
    | true =>
      rw [hb] at h2
      simp only [go_sem, zaa, zae, zaf, zag, zah, zad, ↓reduceIte, reduceCtorEq, zab, zac, zai, zaj, zak, decide_eq_true c]
      repeat' (first
 | with_reducible refine zaq ?_ ?_
 | (apply cl_plain
    case hs => rfl
    case ha => (simp only [zam, zao, prepV, prepC, idx, hpL', lookR, zaa, if_true, if_false]; rfl)
    case h => (first | exact h2 ..))
 | ((first | refine s1_id ?_ | refine swp_id ?_ | refine sops_id ?_ | refine s2_id ?_); simp only [decide_eq_true c, go_sem, zaa, zae, zaf, zag, zah, zad, ↓reduceIte, reduceCtorEq, zab, zac, zai, zaj, zak, zaL, zaM, zaz, zaN, renO, bk, back, outUpsFrom, Ints_ren])
 | (intros; omega)
 | (intros; (try simp only [zat, zaE, zav, zau, zar, zas, decide_eq_true_eq, decide_eq_false_iff_not] at *); omega))
      refine le_mk (m + 1) ?_ ⟨hlt, fun i hi => by rcases Nat.lt_succ_iff_lt_or_eq.1 hi with h | h; (· exact hst i h); (· rw [h]; exact hb)⟩ (by omega)
      (refine imp_ren _ _ _ [(0, 0, ⟨[.gsl (Cs l) 0 l.length k, int n], 2⟩)] (by simp) (by simp) (by simp) (zaC rfl) ?_ rfl (by simp only [zal, zan, false_implies, implies_true, and_true, zaW, lookR, zaa, if_true, if_false, ↓reduceIte] <;> (repeat' apply zaq) <;> (first | rfl | trivial)) (by simp only [zal, zan, false_implies, implies_true, and_true, true_and, flat_cons, flat_nil, flat_ints, flat_bools, flat_app, zaV, and_self, eq_self_iff_true, zap]); simp only [zam, zao, zal, zan, false_implies, implies_true, and_true, lk, slot, zaL, zaz, toN, zaa, if_true, if_false, ↓reduceIte, reduceCtorEq])
      all_goals ((repeat' apply zaq) <;> (first | rfl | trivial | (simp only [zaH]; done) | (simp only [zaH]; rfl) | (simp only [zaH]; trivial)))
  have c : ¬ (m : Int) < (l.length : Int) := by omega
  obtain rfl : m = l.length := by omega
  simp only [go_sem, zaa, zae, zaf, zag, zah, zad, ↓reduceIte, reduceCtorEq, zab, zac, zai, zaj, zak, decide_eq_false c]
  repeat' (first
 | (intros; (try simp only [zat, zaE, zav, zau, zar, zas, decide_eq_true_eq, decide_eq_false_iff_not] at *); omega))
  refine w_loop (ι := Nat) (fun m => ⟨[(1, .one (.optr 0 0)), (3, i1 l.length), (5, i1 m)], [(0, some ⟨[.gsl (Cs l) 0 l.length k, int n], 2⟩)], 1⟩) (fun m => m ≤ l.length ∧ ∀ i, i < m → (upL l (gN l i).i).length ≤ 9) (fun m => l.length - m) 0 ?_ ⟨zaZ _, fun i hi => absurd hi (Nat.not_lt_zero _)⟩ ?_
  · (refine imp_ren _ _ _ [(0, 0, ⟨[.gsl (Cs l) 0 l.length k, int n], 2⟩)] (by simp) (by simp) (by simp) (zaC rfl) ?_ rfl (by simp only [zal, zan, false_implies, implies_true, and_true, zaW, lookR, zaa, if_true, if_false, ↓reduceIte] <;> (repeat' apply zaq) <;> (first | rfl | trivial)) (by simp only [zal, zan, false_implies, implies_true, and_true, true_and, flat_cons, flat_nil, flat_ints, flat_bools, flat_app, zaV, and_self, eq_self_iff_true, zap]); simp only [zam, zao, zal, zan, false_implies, implies_true, and_true, lk, slot, zaL, zaz, toN, zaa, if_true, if_false, ↓reduceIte, reduceCtorEq])
    all_goals ((repeat' apply zaq) <;> (first | rfl | trivial))
  rintro m ⟨hm, hdp⟩
  simp only at hm hdp ⊢
  rcases zbc m l.length with hlt | hge
  case inl =>
    have c : (m : Int) < (l.length : Int) := by omega
    have h3 := up_spec l k n (gN l m).i hl
    obtain ⟨g1, _⟩ := nd_f l m hlt (.sc (.int .i64 0))
    by_cases h9 : 9 < ((upL l (gN l m).i).length : Int)
    · rw [chkT_not fun h => by have := h.dp m hlt; omega]
      generalize upL l (gN l m).i = U at *
      simp only [go_sem, zaa, zae, zaf, zag, zah, zad, ↓reduceIte, reduceCtorEq, zab, zac, zai, zaj, zak, decide_eq_true c, g1, decide_eq_true h9]
      repeat' (first
 | with_reducible refine zaq ?_ ?_
 | (unfold OKC; kernel_rfl)
 | (unfold EDG; kernel_rfl)
 | (apply cl_plain
    case hs => rfl
    case ha => (simp only [zam, zao, prepV, prepC, idx, hpL', lookR, zaa, if_true, if_false]; rfl)
    case h => (first | exact h3 ..))
 | ((first | refine s1_id ?_ | refine swp_id ?_ | refine sops_id ?_ | refine s2_id ?_); simp only [decide_eq_true c, g1, decide_eq_true h9, go_sem, zaa, zae, zaf, zag, zah, zad, ↓reduceIte, reduceCtorEq, zab, zac, zai, zaj, zak, zaL, zaM, zaz, zaN, renO, bk, back, outUpsFrom, Ints_ren])
 | (intros; omega)
 | exact fs_nil trivial rfl
 | fail)
    · have h9' : (upL l (gN l m).i).length ≤ 9 := by omega
      have hnx : ∀ i, i < m + 1 → (upL l (gN l i).i).length ≤ 9 := fun i hi => by rcases Nat.lt_succ_iff_lt_or_eq.1 hi with h | h; (· exact hdp i h); (· rw [h]; exact h9')
      generalize upL l (gN l m).i = U at *
      simp only [go_sem, zaa, zae, zaf, zag, zah, zad, ↓reduceIte, reduceCtorEq, zab, zac, zai, zaj, zak, decide_eq_true c, g1, decide_eq_false h9]
      repeat' (first
 | with_reducible refine zaq ?_ ?_
 | (unfold OKC; kernel_rfl)
 | (unfold EDG; kernel_rfl)
 | (apply cl_plain
    case hs => rfl
    case ha => (simp only [zam, zao, prepV, prepC, idx, hpL', lookR, zaa, if_true, if_false]; rfl)
    case h => (first | exact h3 ..))
 | ((first | refine s1_id ?_ | refine swp_id ?_ | refine sops_id ?_ | refine s2_id ?_); simp only [decide_eq_true c, g1, decide_eq_false h9, go_sem, zaa, zae, zaf, zag, zah, zad, ↓reduceIte, reduceCtorEq, zab, zac, zai, zaj, zak, zaL, zaM, zaz, zaN, renO, bk, back, outUpsFrom, Ints_ren])
 | (intros; omega)
 | (intros; (try simp only [zat, zaE, zav, zau, zar, zas, decide_eq_true_eq, decide_eq_false_iff_not] at *); omega))
      refine le_mk (m + 1) ?_ ⟨hlt, hnx⟩ (by omega)
      (refine imp_ren _ _ _ [(0, 0, ⟨[.gsl (Cs l) 0 l.length k, int n], 2⟩)] (by simp) (by simp) (by simp) (zaC rfl) ?_ rfl (by simp only [zal, zan, false_implies, implies_true, and_true, zaW, lookR, zaa, if_true, if_false, ↓reduceIte] <;> (repeat' apply zaq) <;> (first | rfl | trivial)) (by simp only [zal, zan, false_implies, implies_true, and_true, true_and, flat_cons, flat_nil, flat_ints, flat_bools, flat_app, zaV, and_self, eq_self_iff_true, zap]); simp only [zam, zao, zal, zan, false_implies, implies_true, and_true, lk, slot, zaL, zaz, toN, zaa, if_true, if_false, ↓reduceIte, reduceCtorEq])
      all_goals ((repeat' apply zaq) <;> (first | rfl | trivial | (simp only [zaH]; done) | (simp only [zaH]; rfl) | (simp only [zaH]; trivial)))
  have c : ¬ (m : Int) < (l.length : Int) := by omega
  obtain rfl : m = l.length := by omega
  have hin : ((l.length : Int) - 1).toNat = l.length - 1 := by omega
  obtain ⟨g1, _⟩ := nd_f l (l.length - 1) (by omega) (.sc (.int .i64 0))
  have hres : chkT l n = (decide ((gN l (l.length - 1)).i < n) && decide (n ≤ 2147483648)) := by
    unfold chkT
    rw [decide_eq_true h1', decide_eq_true h64', (allN_iff _ _).2 hst, (allN_iff _ _).2 fun i hi => decide_eq_true (hdp i hi)]
    rfl
  rw [hres]
  simp only [go_sem, zaa, zae, zaf, zag, zah, zad, ↓reduceIte, reduceCtorEq, zab, zac, zai, zaj, zak, decide_eq_false c, hin, g1]
  repeat' (first
 | with_reducible refine zaq ?_ ?_
 | (unfold OKC; kernel_rfl)
 | (unfold EDG; kernel_rfl)
 | (intros; omega)
 | exact fs_nil trivial rfl
 | fail)
end Go.Proofs.Ytnahpejlhfeleac
-- NEWGO
-- PRUNE: cl_lendx cl_use cl_lend
namespace Go.Proofs.Ytnahpejlhfeleac
set_option linter.unusedVariables false
set_option linter.unusedSimpArgs false
open Go.Proofs.Ytnahpejlhfeleac.Sh
set_option maxRecDepth 20000
theorem nan_spec (a : Int) : FnSpec Try.prog 52 [i1 a] [] (b1 false) [] := by
  refine fnspec_of mixed TT_ok TT_cl ⟨fun _ => false, fun _ => [], 0, fun _ => false, fun _ => false⟩ Try.func52 rfl (by kernel_rfl) rfl 6 rfl [.tmp 2] rfl ?_
  simp only [go_sem, zaa, zae, zaf, zag, zah, zad, ↓reduceIte, reduceCtorEq, zab, zac, zai, zaj, zak]
  repeat' (first
 | exact fs_nil trivial rfl
 | fail)
theorem cmp_spec (a b : Int) : FnSpec Try.prog 36 [i1 a, i1 b] [] (i1 (cmpv a b)) [] := by
  unfold cmpv
  by_cases h1 : a < b
  · rw [if_pos h1]
    refine fnspec_of mixed TT_ok TT_cl ⟨fun _ => false, fun _ => [], 0, fun _ => false, fun _ => false⟩ Try.func36 rfl (by kernel_rfl) rfl 20 rfl [.tmp 4] rfl ?_
    simp only [go_sem, zaa, zae, zaf, zag, zah, zad, ↓reduceIte, reduceCtorEq, zab, zac, zai, zaj, zak]
    repeat' (first
 | (apply cl_plain
    case hs => rfl
    case ha => (simp only [zam, zao, prepV, prepC, idx, hpL', lookR, zaa, if_true, if_false]; rfl)
    case h => (first | exact nan_spec ..))
 | ((first | refine s1_id ?_ | refine swp_id ?_ | refine sops_id ?_ | refine s2_id ?_); simp only [decide_eq_true h1, go_sem, zaa, zae, zaf, zag, zah, zad, ↓reduceIte, reduceCtorEq, zab, zac, zai, zaj, zak, zaL, zaM, zaz, zaN, renO, bk, back, outUpsFrom, Ints_ren])
 | exact fs_nil trivial rfl
 | fail)
  rw [if_neg h1]
  by_cases h2 : b < a
  · rw [if_pos h2]
    refine fnspec_of mixed TT_ok TT_cl ⟨fun _ => false, fun _ => [], 0, fun _ => false, fun _ => false⟩ Try.func36 rfl (by kernel_rfl) rfl 20 rfl [.tmp 4] rfl ?_
    simp only [go_sem, zaa, zae, zaf, zag, zah, zad, ↓reduceIte, reduceCtorEq, zab, zac, zai, zaj, zak]
    repeat' (first
 | (apply cl_plain
    case hs => rfl
    case ha => (simp only [zam, zao, prepV, prepC, idx, hpL', lookR, zaa, if_true, if_false]; rfl)
    case h => (first | exact nan_spec ..))
 | ((first | refine s1_id ?_ | refine swp_id ?_ | refine sops_id ?_ | refine s2_id ?_); simp only [decide_eq_false h1, decide_eq_true h2, go_sem, zaa, zae, zaf, zag, zah, zad, ↓reduceIte, reduceCtorEq, zab, zac, zai, zaj, zak, zaL, zaM, zaz, zaN, renO, bk, back, outUpsFrom, Ints_ren])
 | exact fs_nil trivial rfl
 | fail)
  rw [if_neg h2]
  refine fnspec_of mixed TT_ok TT_cl ⟨fun _ => false, fun _ => [], 0, fun _ => false, fun _ => false⟩ Try.func36 rfl (by kernel_rfl) rfl 20 rfl [.tmp 4] rfl ?_
  simp only [go_sem, zaa, zae, zaf, zag, zah, zad, ↓reduceIte, reduceCtorEq, zab, zac, zai, zaj, zak]
  repeat' (first
 | (apply cl_plain
    case hs => rfl
    case ha => (simp only [zam, zao, prepV, prepC, idx, hpL', lookR, zaa, if_true, if_false]; rfl)
    case h => (first | exact nan_spec ..))
 | ((first | refine s1_id ?_ | refine swp_id ?_ | refine sops_id ?_ | refine s2_id ?_); simp only [decide_eq_false h1, decide_eq_false h2, go_sem, zaa, zae, zaf, zag, zah, zad, ↓reduceIte, reduceCtorEq, zab, zac, zai, zaj, zak, zaL, zaM, zaz, zaN, renO, bk, back, outUpsFrom, Ints_ren])
 | exact fs_nil trivial rfl
 | fail)
end Go.Proofs.Ytnahpejlhfeleac
-- NEWGO
-- PRUNE: cl_lendx cl_use cl_lend
-- ISG: Cs_isG
-- FLAT: Cs_flat
namespace Go.Proofs.Ytnahpejlhfeleac
set_option linter.unusedVariables false
set_option linter.unusedSimpArgs false
open Go.Proofs.Ytnahpejlhfeleac.Sh
set_option maxRecDepth 20000
def CtR (l : List Nd) : Prop := ∀ x ∈ l, -9223372036854775808 ≤ x.c ∧ x.c ≤ 9223372036854775807
theorem inRange_spec (x : Nd) (hc : -9223372036854775808 ≤ x.c ∧ x.c ≤ 9223372036854775807) : FnSpec Try.prog 53 [.agg (ndc x)] [] (b1 (rngOk x)) [] := by
  have h1 := andN_iff x.c hc
  obtain ⟨xi, xp, xn, xc, xk, xo⟩ := x
  simp only [ndc] at h1 ⊢
  unfold rngOk
  have e : (decide (0 ≤ xc) && decide (xc ≤ 31) && (decide (0 ≤ xo) && decide (xo ≤ 1048576))) = (decide (andN xc = 0) && decide (0 ≤ xo) && decide (xo ≤ 1048576)) := by
    rw [decide_eq_decide.2 h1, Bool.decide_and, Bool.and_assoc (decide (0 ≤ xc) && decide (xc ≤ 31))]
  simp only
  rw [e]
  refine fnspec_of mixed TT_ok TT_cl ⟨fun _ => false, fun _ => [], 0, fun _ => false, fun _ => false⟩ Try.func53 rfl (by kernel_rfl) rfl 17 rfl [.tmp 2] rfl ?_
  simp only [go_sem, zaa, zae, zaf, zag, zah, zad, ↓reduceIte, reduceCtorEq, zab, zac, zai, zaj, zak]
  repeat' (first
 | exact fs_nil trivial rfl
 | fail)
theorem isRoot_spec (x : Nd) (hc : -9223372036854775808 ≤ x.c ∧ x.c ≤ 9223372036854775807) : FnSpec Try.prog 40 [.agg (ndc x)] [] (b1 (rootOk x && rngOk x)) [] := by
  have h1 := inRange_spec x hc
  unfold rootOk
  obtain ⟨xi, xp, xn, xc, xk, xo⟩ := x
  simp only [ndc] at h1 ⊢
  generalize rngOk ⟨xi, xp, xn, xc, xk, xo⟩ = r at *
  cases hb : (decide (xi = 1) && decide (xp = 0) && decide (xn = []) && decide (xk = 0)) with
  | false =>
    rw [zaO]
    refine fnspec_of mixed TT_ok TT_cl ⟨fun _ => false, fun _ => [], 0, fun _ => false, fun _ => false⟩ Try.func40 rfl (by kernel_rfl) rfl 25 rfl [.tmp 2] rfl ?_
    simp only [go_sem, zaa, zae, zaf, zag, zah, zad, ↓reduceIte, reduceCtorEq, zab, zac, zai, zaj, zak, hb]
    repeat' (first
 | exact fs_nil trivial rfl
 | fail)
  | true =>
    rw [zaP]
    refine fnspec_of mixed TT_ok TT_cl ⟨fun _ => false, fun _ => [], 0, fun _ => false, fun _ => false⟩ Try.func40 rfl (by kernel_rfl) rfl 25 rfl [.tmp 2] rfl ?_
    simp only [go_sem, zaa, zae, zaf, zag, zah, zad, ↓reduceIte, reduceCtorEq, zab, zac, zai, zaj, zak, hb]
    repeat' (first
 | (apply cg_tp
    case hl => rfl
    case ha => (simp only [zam, zao, prepV, prepC, idx, hpL', lookR, zaa, if_true, if_false]; rfl)
    case hs => rfl
    case h => (first | exact h1 ..))
 | ((first | refine s1_id ?_ | refine swp_id ?_ | refine sops_id ?_ | refine s2_id ?_); simp only [hb, zaB, zaF, zap, zaD, zaG, zax, zay, zaw, zaJ, zaK, zaA, zaI, go_sem, zaa, zae, zaf, zag, zah, zad, ↓reduceIte, reduceCtorEq, zab, zac, zai, zaj, zak, zaL, zaM, zaz, zaN, renO, bk, back, outUpsFrom, Ints_ren])
 | exact fs_nil trivial rfl
 | fail)
theorem isChild_spec (x : Nd) (hc : -9223372036854775808 ≤ x.c ∧ x.c ≤ 9223372036854775807) (hn : x.nm.length ≤ 9223372036854775807) : FnSpec Try.prog 41 [.agg (ndc x)] [] (b1 (nmOk x.nm && kdOk x && rngOk x)) [] := by
  have h1 := inRange_spec x hc
  have h2 := valid_spec x.nm (by omega)
  unfold kdOk
  obtain ⟨xi, xp, xn, xc, xk, xo⟩ := x
  simp only [ndc] at h1 h2 ⊢
  generalize rngOk ⟨xi, xp, xn, xc, xk, xo⟩ = r at *
  cases hv : nmOk xn with
  | false =>
    rw [hv] at h2
    simp only [zaO]
    refine fnspec_of mixed TT_ok TT_cl ⟨fun _ => false, fun _ => [], 0, fun _ => false, fun _ => false⟩ Try.func41 rfl (by kernel_rfl) rfl 20 rfl [.tmp 2] rfl ?_
    simp only [go_sem, zaa, zae, zaf, zag, zah, zad, ↓reduceIte, reduceCtorEq, zab, zac, zai, zaj, zak]
    repeat' (first
 | (apply cl_plain
    case hs => rfl
    case ha => (simp only [zam, zao, prepV, prepC, idx, hpL', lookR, zaa, if_true, if_false]; rfl)
    case h => (first | exact h2 ..))
 | ((first | refine s1_id ?_ | refine swp_id ?_ | refine sops_id ?_ | refine s2_id ?_); simp only [zaB, zaF, zap, zaD, zaG, zax, zay, zaw, zaJ, zaK, zaA, zaI, go_sem, zaa, zae, zaf, zag, zah, zad, ↓reduceIte, reduceCtorEq, zab, zac, zai, zaj, zak, zaL, zaM, zaz, zaN, renO, bk, back, outUpsFrom, Ints_ren])
 | exact fs_nil trivial rfl
 | fail)
  | true =>
    rw [hv] at h2
    simp only [zaP]
    cases hb : (decide (xk = 0) || decide (xk = 1)) with
    | false =>
      rw [zaO]
      refine fnspec_of mixed TT_ok TT_cl ⟨fun _ => false, fun _ => [], 0, fun _ => false, fun _ => false⟩ Try.func41 rfl (by kernel_rfl) rfl 20 rfl [.tmp 2] rfl ?_
      simp only [go_sem, zaa, zae, zaf, zag, zah, zad, ↓reduceIte, reduceCtorEq, zab, zac, zai, zaj, zak, hb]
      repeat' (first
 | (apply cl_plain
    case hs => rfl
    case ha => (simp only [zam, zao, prepV, prepC, idx, hpL', lookR, zaa, if_true, if_false]; rfl)
    case h => (first | exact h1 .. | exact h2 ..))
 | ((first | refine s1_id ?_ | refine swp_id ?_ | refine sops_id ?_ | refine s2_id ?_); simp only [hb, zaB, zaF, zap, zaD, zaG, zax, zay, zaw, zaJ, zaK, zaA, zaI, go_sem, zaa, zae, zaf, zag, zah, zad, ↓reduceIte, reduceCtorEq, zab, zac, zai, zaj, zak, zaL, zaM, zaz, zaN, renO, bk, back, outUpsFrom, Ints_ren])
 | exact fs_nil trivial rfl
 | fail)
    | true =>
      rw [zaP]
      refine fnspec_of mixed TT_ok TT_cl ⟨fun _ => false, fun _ => [], 0, fun _ => false, fun _ => false⟩ Try.func41 rfl (by kernel_rfl) rfl 20 rfl [.tmp 2] rfl ?_
      simp only [go_sem, zaa, zae, zaf, zag, zah, zad, ↓reduceIte, reduceCtorEq, zab, zac, zai, zaj, zak, hb]
      repeat' (first
 | (apply cg_tp
    case hl => rfl
    case ha => (simp only [zam, zao, prepV, prepC, idx, hpL', lookR, zaa, if_true, if_false]; rfl)
    case hs => rfl
    case h => (first | exact h1 .. | exact h2 ..))
 | (apply cl_plain
    case hs => rfl
    case ha => (simp only [zam, zao, prepV, prepC, idx, hpL', lookR, zaa, if_true, if_false]; rfl)
    case h => (first | exact h1 .. | exact h2 ..))
 | ((first | refine s1_id ?_ | refine swp_id ?_ | refine sops_id ?_ | refine s2_id ?_); simp only [hb, zaB, zaF, zap, zaD, zaG, zax, zay, zaw, zaJ, zaK, zaA, zaI, go_sem, zaa, zae, zaf, zag, zah, zad, ↓reduceIte, reduceCtorEq, zab, zac, zai, zaj, zak, zaL, zaM, zaz, zaN, renO, bk, back, outUpsFrom, Ints_ren])
 | exact fs_nil trivial rfl
 | fail)
set_option maxHeartbeats 4000000 in
theorem taken_spec (l : List Nd) (k : Option Nat) (p : Int) (s : Str) (hl : l.length ≤ 1000000) : FnSpec Try.prog 42 [gr l k, i1 p, s1 s] [] (b1 (l.any (same1 p s))) [] := by
  have hnl := nd_len l
  refine fnspec_of mixed TT_ok TT_cl ⟨fun _ => false, fun _ => [], 0, fun _ => false, fun _ => false⟩ Try.func42 rfl (by kernel_rfl) rfl 30 rfl [.tmp 6] rfl ?_
  simp only [go_sem, zaa, zae, zaf, zag, zah, zad, ↓reduceIte, reduceCtorEq, zab, zac, zai, zaj, zak]
  repeat' (first
 | (intros; (try simp only [zat, zaE, zav, zau, zar, zas, decide_eq_true_eq, decide_eq_false_iff_not] at *); omega))
  refine w_loop (ι := Nat) (fun m => ⟨[(0, gr l k), (1, i1 p), (2, s1 s), (9, i1 l.length), (10, i1 m)], [], 0⟩) (fun m => m ≤ l.length ∧ (l.take m).any (same1 p s) = false) (fun m => l.length - m) 0 ?_ ⟨zaZ _, rfl⟩ ?_
  · (refine imp_ren _ _ _ [] (by simp) (by simp) (by simp) (zaC rfl) ?_ rfl (by simp only [zal, zan, false_implies, implies_true, and_true, zaW, lookR, zaa, if_true, if_false, ↓reduceIte] <;> (repeat' apply zaq) <;> (first | rfl | trivial)) (by simp only [zal, zan, false_implies, implies_true, and_true, true_and, flat_cons, flat_nil, flat_ints, flat_bools, flat_app, zaV, and_self, eq_self_iff_true, zap]); simp only [zam, zao, zal, zan, false_implies, implies_true, and_true, lk, slot, zaL, zaz, toN, zaa, if_true, if_false, ↓reduceIte, reduceCtorEq])
    all_goals ((repeat' apply zaq) <;> (first | rfl | trivial))
  rintro m ⟨hm, hno⟩
  simp only at hm hno ⊢
  rcases zbc m l.length with hlt | hge
  case inr =>
    have c : ¬ (m : Int) < (l.length : Int) := by omega
    rw [List.take_of_length_le hge] at hno
    rw [hno]
    simp only [go_sem, zaa, zae, zaf, zag, zah, zad, ↓reduceIte, reduceCtorEq, zab, zac, zai, zaj, zak, decide_eq_false c]
    repeat' (first
 | exact fs_nil trivial rfl
 | fail)
  have c : (m : Int) < (l.length : Int) := by omega
  obtain ⟨_, g2, _⟩ := nd_f l m hlt (.sc (.int .i64 0))
  have g3 := (nd_f l m hlt (.sc (.string (bs [])))).2.2.1
  have hs2 := any_take_succ l m hlt (same1 p s)
  have hsm : same1 p s (gN l m) = (decide ((gN l m).p = p) && decide ((gN l m).nm = s)) := rfl
  rw [hno, Bool.false_or] at hs2
  cases hdup : same1 p s (gN l m) with
  | true =>
    have hany : l.any (same1 p s) = true := List.any_eq_true.2 ⟨gN l m, getD_mem l m zn hlt, hdup⟩
    rw [hany]
    rw [hsm] at hdup
    simp only [go_sem, zaa, zae, zaf, zag, zah, zad, ↓reduceIte, reduceCtorEq, zab, zac, zai, zaj, zak, decide_eq_true c, g2, g3, hdup]
    repeat' (first
 | with_reducible refine zaq ?_ ?_
 | (intros; omega)
 | exact fs_nil trivial rfl
 | fail)
  | false =>
    rw [hdup] at hs2
    rw [hsm] at hdup
    simp only [go_sem, zaa, zae, zaf, zag, zah, zad, ↓reduceIte, reduceCtorEq, zab, zac, zai, zaj, zak, decide_eq_true c, g2, g3, hdup]
    repeat' (first
 | with_reducible refine zaq ?_ ?_
 | (intros; omega)
 | (intros; (try simp only [zat, zaE, zav, zau, zar, zas, decide_eq_true_eq, decide_eq_false_iff_not] at *); omega))
    refine le_mk (m + 1) ?_ ⟨hlt, hs2⟩ (by omega)
    (refine imp_ren _ _ _ [] (by simp) (by simp) (by simp) (zaC rfl) ?_ rfl (by simp only [zal, zan, false_implies, implies_true, and_true, zaW, lookR, zaa, if_true, if_false, ↓reduceIte] <;> (repeat' apply zaq) <;> (first | rfl | trivial)) (by simp only [zal, zan, false_implies, implies_true, and_true, true_and, flat_cons, flat_nil, flat_ints, flat_bools, flat_app, zaV, and_self, eq_self_iff_true, zap]); simp only [zam, zao, zal, zan, false_implies, implies_true, and_true, lk, slot, zaL, zaz, toN, zaa, if_true, if_false, ↓reduceIte, reduceCtorEq])
    all_goals ((repeat' apply zaq) <;> (first | rfl | trivial | (simp only [zaH]; done) | (simp only [zaH]; rfl) | (simp only [zaH]; trivial)))
set_option maxHeartbeats 4000000 in
theorem nd_bs (g : FuncId) (xs : List (Nd)) (id : Int) (hg : ∀ x ∈ xs, FnSpec Try.prog g [.agg (Rec.cs x), i1 id] [] (i1 (cmpv (Nd.i x) id)) []) (cap : Option Nat)
    (hl : xs.length ≤ 4611686018427387904) : FnSpec Try.prog 43 [gr xs cap, i1 id, .one (.fn g [])] [] (.tup [i1 (bsV Nd.i xs id), b1 (bsF Nd.i xs id)]) [] := by
  have hil : (Cs xs).length = xs.length * 6 := Cs_len xs
  refine fnspec_of mixed TT_ok TT_cl ⟨fun _ => false, fun _ => [], 0, fun _ => false, fun _ => false⟩ Try.func43 rfl (by kernel_rfl) rfl 49 rfl [.tmp 6, .tmp 7] rfl ?_
  simp only [go_sem, zaa, zae, zaf, zag, zah, zad, ↓reduceIte, reduceCtorEq, zab, zac, zai, zaj, zak]
  repeat' (first
 | (intros; (try simp only [zat, zaE, zav, zau, zar, zas, decide_eq_true_eq, decide_eq_false_iff_not] at *); omega))
  refine w_loop (ι := Nat × Nat) (fun s => ⟨[(0, gr xs cap), (1, i1 id), (2, .one (.fn g [])), (8, i1 xs.length), (9, i1 s.1), (10, i1 s.2)], [], 0⟩) (fun s => s.1 ≤ s.2 ∧ s.2 ≤ xs.length ∧ bsG (fun i => Nd.i (xs.getD i Rec.z)) id (s.2 - s.1) s.1 s.2 = bsV Nd.i xs id) (fun s => s.2 - s.1) (0, xs.length) ?_ ⟨zaZ _, zaY _, rfl⟩ ?_
  · (refine imp_ren _ _ _ [] (by simp) (by simp) (by simp) (zaC rfl) ?_ rfl (by simp only [zal, zan, false_implies, implies_true, and_true, zaW, lookR, zaa, if_true, if_false, ↓reduceIte] <;> (repeat' apply zaq) <;> (first | rfl | trivial)) (by simp only [zal, zan, false_implies, implies_true, and_true, true_and, flat_cons, flat_nil, flat_ints, flat_bools, flat_app, zaV, and_self, eq_self_iff_true, zap]); simp only [zam, zao, zal, zan, false_implies, implies_true, and_true, lk, slot, zaL, zaz, toN, zaa, if_true, if_false, ↓reduceIte, reduceCtorEq])
    all_goals ((repeat' apply zaq) <;> (first | rfl | trivial))
  rintro ⟨i, j⟩ ⟨hij, hjl, hb⟩
  simp only at hij hjl hb ⊢
  by_cases hlt : i < j
  · have hlt' : (i : Int) < (j : Int) := by omega
    have hsh : ((i : Int) + j).fdiv (2 ^ min (Int.toNat 1) 64) = (((i + j) / 2 : Nat) : Int) := by
      have e : (2 : Int) ^ min (Int.toNat 1) 64 = 2 := rfl
      rw [e, Int.fdiv_eq_ediv_of_nonneg _ (by omega)]; omega
    obtain ⟨h, hh⟩ : ∃ h, h = (i + j) / 2 := ⟨_, rfl⟩
    rw [← hh] at hsh
    have hhl : h < xs.length := by omega
    have hat : zbe 6 (zbg (h * 6) (Cs xs)) = Rec.cs (xs.getD h Rec.z) := Cs_td xs h hhl
    have hhi : (h : Int) < (xs.length : Int) := by omega
    have hb' := bsG_fuel (fun i => Nd.i (xs.getD i Rec.z)) id (j - i) (j - i - 1 + 1) i j (zaY _) (by omega)
    rw [hb, bsG, if_pos hlt, ← hh] at hb'
    have hix := hg _ (getD_mem xs h Rec.z hhl)
    obtain ⟨b, hbb⟩ : ∃ b, xs.getD h Rec.z = b := ⟨_, rfl⟩
    rw [hbb] at hat hix hb'
    have hcs : Rec.cs b = [int b.i, int b.p, st b.nm, int b.c, int b.k, int b.o] := rfl
    rw [hcs] at hat hix
    have hcl := cmpv_lt (Nd.i b) id
    by_cases hc : Nd.i b < id
    · rw [if_pos hc] at hb'
      rw [decide_eq_true hc] at hcl
      generalize cmpv (Nd.i b) id = cv at *
      simp only [go_sem, zaa, zae, zaf, zag, zah, zad, ↓reduceIte, reduceCtorEq, zab, zac, zai, zaj, zak, decide_eq_true hlt', hsh, hat]
      repeat' (first
 | with_reducible refine zaq ?_ ?_
 | (apply cl_plain
    case hs => rfl
    case ha => (simp only [zam, zao, prepV, prepC, idx, hpL', lookR, zaa, if_true, if_false]; rfl)
    case h => (first | exact hix ..))
 | ((first | refine s1_id ?_ | refine swp_id ?_ | refine sops_id ?_ | refine s2_id ?_); simp only [decide_eq_true hlt', hsh, hat, hcl, go_sem, zaa, zae, zaf, zag, zah, zad, ↓reduceIte, reduceCtorEq, zab, zac, zai, zaj, zak, zaL, zaM, zaz, zaN, renO, bk, back, outUpsFrom, Ints_ren])
 | (intros; omega)
 | (intros; (try simp only [zat, zaE, zav, zau, zar, zas, decide_eq_true_eq, decide_eq_false_iff_not] at *); omega))
      refine le_mk (h + 1, j) ?_ ⟨by show h + 1 ≤ j; omega, hjl, by show bsG _ id (j - (h + 1)) (h + 1) j = bsV Nd.i xs id; rw [hb']; exact bsG_fuel _ id _ _ _ _ (zaY _) (by omega)⟩ (by show j - (h + 1) < j - i; omega)
      (refine imp_ren _ _ _ [] (by simp) (by simp) (by simp) (zaC rfl) ?_ rfl (by simp only [zal, zan, false_implies, implies_true, and_true, zaW, lookR, zaa, if_true, if_false, ↓reduceIte] <;> (repeat' apply zaq) <;> (first | rfl | trivial)) (by simp only [zal, zan, false_implies, implies_true, and_true, true_and, flat_cons, flat_nil, flat_ints, flat_bools, flat_app, zaV, and_self, eq_self_iff_true, zap]); simp only [zam, zao, zal, zan, false_implies, implies_true, and_true, lk, slot, zaL, zaz, toN, zaa, if_true, if_false, ↓reduceIte, reduceCtorEq])
      all_goals ((repeat' apply zaq) <;> (first | rfl | trivial | (simp only [zaH]; done) | (simp only [zaH]; rfl) | (simp only [zaH]; trivial)))
    · rw [if_neg hc] at hb'
      rw [decide_eq_false hc] at hcl
      generalize cmpv (Nd.i b) id = cv at *
      simp only [go_sem, zaa, zae, zaf, zag, zah, zad, ↓reduceIte, reduceCtorEq, zab, zac, zai, zaj, zak, decide_eq_true hlt', hsh, hat]
      repeat' (first
 | with_reducible refine zaq ?_ ?_
 | (apply cl_plain
    case hs => rfl
    case ha => (simp only [zam, zao, prepV, prepC, idx, hpL', lookR, zaa, if_true, if_false]; rfl)
    case h => (first | exact hix ..))
 | ((first | refine s1_id ?_ | refine swp_id ?_ | refine sops_id ?_ | refine s2_id ?_); simp only [decide_eq_true hlt', hsh, hat, hcl, go_sem, zaa, zae, zaf, zag, zah, zad, ↓reduceIte, reduceCtorEq, zab, zac, zai, zaj, zak, zaL, zaM, zaz, zaN, renO, bk, back, outUpsFrom, Ints_ren])
 | (intros; omega)
 | (intros; (try simp only [zat, zaE, zav, zau, zar, zas, decide_eq_true_eq, decide_eq_false_iff_not] at *); omega))
      refine le_mk (i, h) ?_ ⟨by show i ≤ h; omega, by show h ≤ xs.length; omega, by show bsG _ id (h - i) i h = bsV Nd.i xs id; rw [hb']; exact bsG_fuel _ id _ _ _ _ (zaY _) (by omega)⟩ (by show h - i < j - i; omega)
      (refine imp_ren _ _ _ [] (by simp) (by simp) (by simp) (zaC rfl) ?_ rfl (by simp only [zal, zan, false_implies, implies_true, and_true, zaW, lookR, zaa, if_true, if_false, ↓reduceIte] <;> (repeat' apply zaq) <;> (first | rfl | trivial)) (by simp only [zal, zan, false_implies, implies_true, and_true, true_and, flat_cons, flat_nil, flat_ints, flat_bools, flat_app, zaV, and_self, eq_self_iff_true, zap]); simp only [zam, zao, zal, zan, false_implies, implies_true, and_true, lk, slot, zaL, zaz, toN, zaa, if_true, if_false, ↓reduceIte, reduceCtorEq])
      all_goals ((repeat' apply zaq) <;> (first | rfl | trivial))
  · have hlt' : ¬ (i : Int) < (j : Int) := by omega
    have hi : i = bsV Nd.i xs id := by
      have e : j - i = 0 := by omega
      rw [e] at hb
      exact hb
    subst hi
    unfold bsF
    by_cases hin : bsV Nd.i xs id < xs.length
    · have hin' : ((bsV Nd.i xs id : Nat) : Int) < (xs.length : Int) := by omega
      have hat : zbe 6 (zbg (bsV Nd.i xs id * 6) (Cs xs)) = Rec.cs (xs.getD (bsV Nd.i xs id) Rec.z) := Cs_td xs _ hin
      have hix := hg _ (getD_mem xs (bsV Nd.i xs id) Rec.z hin)
      rw [decide_eq_true hin, zaP]
      obtain ⟨b, hbb⟩ : ∃ b, xs.getD (bsV Nd.i xs id) Rec.z = b := ⟨_, rfl⟩
      rw [hbb] at hat hix ⊢
      have hcs : Rec.cs b = [int b.i, int b.p, st b.nm, int b.c, int b.k, int b.o] := rfl
      rw [hcs] at hat hix
      have hce := cmpv_eq (Nd.i b) id
      generalize cmpv (Nd.i b) id = cv at *
      generalize bsV Nd.i xs id = v at *
      simp only [go_sem, zaa, zae, zaf, zag, zah, zad, ↓reduceIte, reduceCtorEq, zab, zac, zai, zaj, zak, decide_eq_false hlt', decide_eq_true hin', hat]
      repeat' (first
 | with_reducible refine zaq ?_ ?_
 | (apply cg_tp
    case hl => rfl
    case ha => (simp only [zam, zao, prepV, prepC, idx, hpL', lookR, zaa, if_true, if_false]; rfl)
    case hs => rfl
    case h => (first | exact hix ..))
 | ((first | refine s1_id ?_ | refine swp_id ?_ | refine sops_id ?_ | refine s2_id ?_); simp only [decide_eq_false hlt', decide_eq_true hin', hat, hce, go_sem, zaa, zae, zaf, zag, zah, zad, ↓reduceIte, reduceCtorEq, zab, zac, zai, zaj, zak, zaL, zaM, zaz, zaN, renO, bk, back, outUpsFrom, Ints_ren])
 | (intros; omega)
 | exact fs_nil trivial rfl
 | fail)
    · have hin' : ¬ ((bsV Nd.i xs id : Nat) : Int) < (xs.length : Int) := by omega
      rw [decide_eq_false hin, zaO]
      generalize bsV Nd.i xs id = v at *
      simp only [go_sem, zaa, zae, zaf, zag, zah, zad, ↓reduceIte, reduceCtorEq, zab, zac, zai, zaj, zak, decide_eq_false hlt', decide_eq_false hin']
      repeat' (first
 | exact fs_nil trivial rfl
 | fail)
theorem tix_spec (x : Nd) (id : Int) : FnSpec Try.prog 46 [.agg (Rec.cs x), i1 id] [] (i1 (cmpv (Nd.i x) id)) [] := by
  show FnSpec Try.prog 46 [.agg (ndc x), i1 id] [] (i1 (cmpv (Nd.i x) id)) []
  obtain ⟨xi, xp, xn, xc, xk, xo⟩ := x
  simp only [ndc]
  have h1 := cmp_spec xi id
  refine fnspec_of mixed TT_ok TT_cl ⟨fun _ => false, fun _ => [], 0, fun _ => false, fun _ => false⟩ Try.func46 rfl (by kernel_rfl) rfl 9 rfl [.tmp 4] rfl ?_
  simp only [go_sem, zaa, zae, zaf, zag, zah, zad, ↓reduceIte, reduceCtorEq, zab, zac, zai, zaj, zak]
  repeat' (first
 | (apply cl_plain
    case hs => rfl
    case ha => (simp only [zam, zao, prepV, prepC, idx, hpL', lookR, zaa, if_true, if_false]; rfl)
    case h => (first | exact h1 ..))
 | ((first | refine s1_id ?_ | refine swp_id ?_ | refine sops_id ?_ | refine s2_id ?_); simp only [zaB, zaF, zap, zaD, zaG, zax, zay, zaw, zaJ, zaK, zaA, zaI, go_sem, zaa, zae, zaf, zag, zah, zad, ↓reduceIte, reduceCtorEq, zab, zac, zai, zaj, zak, zaL, zaM, zaz, zaN, renO, bk, back, outUpsFrom, Ints_ren])
 | exact fs_nil trivial rfl
 | fail)
theorem index_spec (l : List Nd) (k : Option Nat) (id : Int) (hl : l.length ≤ 1000000) : FnSpec Try.prog 28 [gr l k, i1 id] [] (.tup [i1 (bsV Nd.i l id), b1 (bsF Nd.i l id)]) [] := by
  have h1 := nd_bs 46 l id (fun x _ => tix_spec x id) k (by omega)
  refine fnspec_of mixed TT_ok TT_cl ⟨fun _ => false, fun _ => [], 0, fun _ => false, fun _ => false⟩ Try.func28 rfl (by kernel_rfl) rfl 11 rfl [.tmp 4, .tmp 5] rfl ?_
  simp only [go_sem, zaa, zae, zaf, zag, zah, zad, ↓reduceIte, reduceCtorEq, zab, zac, zai, zaj, zak]
  repeat' (first
 | (apply cl_plain
    case hs => rfl
    case ha => (simp only [zam, zao, prepV, prepC, idx, hpL', lookR, zaa, if_true, if_false]; rfl)
    case h => (first | exact h1 ..))
 | ((first | refine s1_id ?_ | refine swp_id ?_ | refine sops_id ?_ | refine s2_id ?_); simp only [go_sem, zaa, zae, zaf, zag, zah, zad, ↓reduceIte, reduceCtorEq, zab, zac, zai, zaj, zak, zaL, zaM, zaz, zaN, renO, bk, back, outUpsFrom, Ints_ren])
 | exact fs_nil trivial rfl
 | fail)
end Go.Proofs.Ytnahpejlhfeleac
-- NEWGO
-- PRUNE: cl_lendx cl_use cl_lend
-- ISG: Cs_isG
-- FLAT: Cs_flat
namespace Go.Proofs.Ytnahpejlhfeleac
set_option linter.unusedVariables false
set_option linter.unusedSimpArgs false
open Go.Proofs.Ytnahpejlhfeleac.Sh
set_option maxRecDepth 20000
structure CkI (l : List Nd) (m : Nat) : Prop where
  le : m ≤ l.length
  p1 : 1 ≤ m
  st : ∀ i, i < m → stOk l i = true
  dp : ∀ i, i < m → (upL (l.take (i + 1)) (gN l i).i).length ≤ 9
theorem CkI.asc {l : List Nd} {m : Nat} (h : CkI l m) : AscI (l.take m) := by
  refine asc_of_step fun i h0 hi => ?_
  rw [zaU] at hi
  rw [gN_take l m _ (by omega), gN_take l m i (by omega)]
  have hle := h.le
  exact (stOk_ch (by omega) h0 (h.st i (by omega))).lt
def dps (l : List Nd) (m : Nat) : List Int := (List.range 64).map fun i => if i < m then (((upL (l.take (i + 1)) (gN l i).i).length : Int) - 1) else 0
theorem dps_len (l : List Nd) (m : Nat) : (dps l m).length = 64 := by simp [dps]
theorem dps_at (l : List Nd) (m i : Nat) (hi : i < 64) : (dps l m).getD i 0 = if i < m then (((upL (l.take (i + 1)) (gN l i).i).length : Int) - 1) else 0 := by
  simp [dps, List.getD_eq_getElem?_getD, hi]
theorem dps_set (l : List Nd) (m : Nat) (hm : m < 64) : (dps l m).set m (((upL (l.take (m + 1)) (gN l m).i).length : Int) - 1) = dps l (m + 1) := by
  apply List.ext_getElem?
  intro i
  by_cases hi : i < 64
  · rw [List.getElem?_set]
    by_cases e : m = i
    · subst e
      simp [dps, hm]
    · rw [if_neg e]
      simp only [dps, List.getElem?_map, List.getElem?_range hi, Option.map_some]
      congr 1
      by_cases c : i < m
      · rw [if_pos c, if_pos (by omega)]
      · rw [if_neg c, if_neg (by omega)]
  · rw [List.getElem?_eq_none (by rw [List.length_set, dps_len]; omega), List.getElem?_eq_none (by rw [dps_len]; omega)]
theorem up_next {l : List Nd} {m j : Nat} (hA : AscI (l.take m)) (hm : m < l.length) (hj : j < m) (e : (gN l j).i = (gN l m).p) : (upL (l.take (m + 1)) (gN l m).i).length = (upL (l.take (j + 1)) (gN l j).i).length + 1 := by
  rw [upL_take l m hm, if_pos rfl, zaA, ← e]
  congr 2
  have h1 := upL_skip (l.take m) (gN l j).i (j + 1) (by rw [zaU]; omega) (fun k hk hk2 => by
    rw [zaU] at hk2
    have := hA j k (by omega) (by rw [zaU]; omega)
    rw [gN_take l m j hj, gN_take l m k (by omega)] at this
    rw [gN_take l m k (by omega)]; omega)
  rw [h1, List.take_take, Nat.min_eq_left (by omega)]
theorem up_takeA {l : List Nd} (hA : AscI l) {i : Nat} (hi : i < l.length) : upL (l.take (i + 1)) (gN l i).i = upL l (gN l i).i := by
  rw [upL_node hA hi, upL_take l i hi, if_pos rfl]
theorem index_take (l : List Nd) (k : Option Nat) (m : Nat) (id : Int) (hm : m ≤ l.length) (hl : l.length ≤ 1000000) : FnSpec Try.prog 28 [.one (.gsl (Cs l) 0 m k), i1 id] [] (.tup [i1 (bsV Nd.i (l.take m) id), b1 (bsF Nd.i (l.take m) id)]) [] := by
  have h1 := index_spec (l.take m) k id (by rw [zaU]; omega)
  have e : (l.take m).length = m := by rw [zaU]; omega
  simp only [gr, e, ← Cs_take] at h1
  exact h1.pre ⟨cw_take _ _ _ _ _, cw_rfl _, trivial⟩
theorem taken_take (l : List Nd) (k : Option Nat) (m : Nat) (p : Int) (s : Str) (hm : m ≤ l.length) (hl : l.length ≤ 1000000) : FnSpec Try.prog 42 [.one (.gsl (Cs l) 0 m k), i1 p, s1 s] [] (b1 ((l.take m).any (same1 p s))) [] := by
  have h1 := taken_spec (l.take m) k p s (by rw [zaU]; omega)
  have e : (l.take m).length = m := by rw [zaU]; omega
  simp only [gr, e, ← Cs_take] at h1
  exact h1.pre ⟨cw_take _ _ _ _ _, cw_rfl _, cw_rfl _, trivial⟩
set_option maxHeartbeats 16000000 in
theorem tchk_spec (l : List Nd) (n : Int) (hl : l.length ≤ 1000000) (hnm : NmR l) (hct : CtR l) : FnSpec Try.prog 23 [trV l none n] [] (b1 (chkT l n)) [] := by
  have hnl := nd_len l
  by_cases h1 : (l.length : Int) < 1
  · rw [chkT_not fun h => by have := h.ne; omega]
    refine fnspec_of mixed TT_ok TT_cl ⟨fun _ => false, fun _ => [], 0, fun _ => false, fun _ => false⟩ Try.func23 rfl (by kernel_rfl) rfl 108 rfl [.tmp 2] rfl ?_
    simp only [go_sem, zaa, zae, zaf, zag, zah, zad, ↓reduceIte, reduceCtorEq, zab, zac, zai, zaj, zak, decide_eq_true h1]
    repeat' (first
 | exact fs_nil trivial rfl
 | fail)
  by_cases h64 : 64 < (l.length : Int)
  · rw [chkT_not fun h => by have := h.le; omega]
    refine fnspec_of mixed TT_ok TT_cl ⟨fun _ => false, fun _ => [], 0, fun _ => false, fun _ => false⟩ Try.func23 rfl (by kernel_rfl) rfl 108 rfl [.tmp 2] rfl ?_
    simp only [go_sem, zaa, zae, zaf, zag, zah, zad, ↓reduceIte, reduceCtorEq, zab, zac, zai, zaj, zak, decide_eq_false h1, decide_eq_true h64]
    repeat' (first
 | exact fs_nil trivial rfl
 | fail)
  have h1' : 1 ≤ l.length := by omega
  have h64' : l.length ≤ 64 := by omega
  have hN0 := nd_td l 0 (by omega)
  have r1 := isRoot_spec (gN l 0) (hct _ (getD_mem l 0 zn (by omega)))
  have e0 : stOk l 0 = (rootOk (gN l 0) && rngOk (gN l 0)) := by
    unfold stOk
    rw [if_pos rfl]
    cases hr : rootOk (gN l 0) with
    | false => rw [Bool.and_false]; rfl
    | true =>
      have hk : kdOk (gN l 0) = true := by
        unfold rootOk at hr
        simp only [zat, decide_eq_true_eq] at hr
        unfold kdOk
        rw [decide_eq_true hr.2]; rfl
      rw [hk, zaP, Bool.and_true]
  rw [← e0] at r1
  have hN0' : zbe 6 (zbg (Int.toNat 0 * 6) (Cs l)) = ndc (gN l 0) := hN0
  cases hs0 : stOk l 0 with
  | false =>
    rw [chkT_not fun h => by have := h.st 0 (by omega); rw [hs0] at this; cases this]
    rw [hs0] at r1
    simp only [ndc] at hN0' r1
    refine fnspec_of mixed TT_ok TT_cl ⟨fun _ => false, fun _ => [], 0, fun _ => false, fun _ => false⟩ Try.func23 rfl (by kernel_rfl) rfl 108 rfl [.tmp 2] rfl ?_
    simp only [go_sem, zaa, zae, zaf, zag, zah, zad, ↓reduceIte, reduceCtorEq, zab, zac, zai, zaj, zak, decide_eq_false h1, decide_eq_false h64, hN0']
    repeat' (first
 | with_reducible refine zaq ?_ ?_
 | (apply cg_tp
    case hl => rfl
    case ha => (simp only [zam, zao, prepV, prepC, idx, hpL', lookR, zaa, if_true, if_false]; rfl)
    case hs => rfl
    case h => (first | exact r1 ..))
 | ((first | refine s1_id ?_ | refine swp_id ?_ | refine sops_id ?_ | refine s2_id ?_); simp only [decide_eq_false h1, decide_eq_false h64, hN0', go_sem, zaa, zae, zaf, zag, zah, zad, ↓reduceIte, reduceCtorEq, zab, zac, zai, zaj, zak, zaL, zaM, zaz, zaN, renO, bk, back, outUpsFrom, Ints_ren])
 | (intros; omega)
 | exact fs_nil trivial rfl
 | fail)
  | true =>
  rw [hs0] at r1
  simp only [ndc] at hN0' r1
  refine fnspec_of mixed TT_ok TT_cl ⟨fun _ => false, fun _ => [], 0, fun _ => false, fun _ => false⟩ Try.func23 rfl (by kernel_rfl) rfl 108 rfl [.tmp 2] rfl ?_
  simp only [go_sem, zaa, zae, zaf, zag, zah, zad, ↓reduceIte, reduceCtorEq, zab, zac, zai, zaj, zak, decide_eq_false h1, decide_eq_false h64, hN0']
  repeat' (first
 | with_reducible refine zaq ?_ ?_
 | (apply cg_tp
    case hl => rfl
    case ha => (simp only [zam, zao, prepV, prepC, idx, hpL', lookR, zaa, if_true, if_false]; rfl)
    case hs => rfl
    case h => (first | exact r1 ..))
 | ((first | refine s1_id ?_ | refine swp_id ?_ | refine sops_id ?_ | refine s2_id ?_); simp only [decide_eq_false h1, decide_eq_false h64, hN0', go_sem, zaa, zae, zaf, zag, zah, zad, ↓reduceIte, reduceCtorEq, zab, zac, zai, zaj, zak, zaL, zaM, zaz, zaN, renO, bk, back, outUpsFrom, Ints_ren])
 | (intros; omega)
 | (intros; (try simp only [zat, zaE, zav, zau, zar, zas, decide_eq_true_eq, decide_eq_false_iff_not] at *); omega))
  have hu0 : (upL (l.take 1) (gN l 0).i).length = 1 := by rw [upL_take l 0 (by omega), if_pos rfl]; rfl
  have hd1 : dps l 1 = List.replicate 64 0 := by
    apply List.ext_getElem?
    intro i
    by_cases hi : i < 64
    · simp only [dps, List.getElem?_map, List.getElem?_range hi, Option.map_some, List.getElem?_replicate, if_pos hi]
      by_cases c : i < 1
      · have : i = 0 := by omega
        subst this
        rw [if_pos c, hu0]; rfl
      · rw [if_neg c]
    · rw [List.getElem?_eq_none (by rw [dps_len]; omega), List.getElem?_eq_none (by rw [List.length_replicate]; omega)]
  refine w_loop (ι := Nat) (fun m => ⟨[(1, .one (.optr 0 0)), (3, gr l none), (4, .one (.optr 1 0)), (5, i1 m)], [(0, some ⟨[.gsl (Cs l) 0 l.length none, int n], 2⟩), (1, some ⟨Ints (dps l m), 64⟩)], 2⟩) (fun m => CkI l m) (fun m => l.length - m) 1 ?_ ⟨h1', zaY _, fun i hi => by rw [show i = 0 by omega]; exact hs0, fun i hi => by rw [show i = 0 by omega, hu0]; decide⟩ ?_
  · rw [hd1]
    (refine imp_ren _ _ _ [(0, 0, ⟨[.gsl (Cs l) 0 l.length none, int n], 2⟩), (1, 20, ⟨Ints (List.replicate 64 0), 64⟩)] (by simp) (by simp) (by simp) (zaC rfl) ?_ rfl (by simp only [zal, zan, false_implies, implies_true, and_true, zaW, lookR, zaa, if_true, if_false, ↓reduceIte] <;> (repeat' apply zaq) <;> (first | rfl | trivial)) (by simp only [zal, zan, false_implies, implies_true, and_true, true_and, flat_cons, flat_nil, flat_ints, flat_bools, flat_app, zaV, and_self, eq_self_iff_true, zap]); simp only [zam, zao, zal, zan, false_implies, implies_true, and_true, lk, slot, zaL, zaz, toN, zaa, if_true, if_false, ↓reduceIte, reduceCtorEq])
    all_goals ((repeat' apply zaq) <;> (first | rfl | trivial))
  clear r1 hN0 hN0' hd1
  intro m hI
  simp only at hI ⊢
  have hm := hI.le
  have hm1 := hI.p1
  have hA := hI.asc
  rcases zbc m l.length with hlt | hge
  case inr =>
    have c : ¬ (m : Int) < (l.length : Int) := by omega
    obtain rfl : m = l.length := by omega
    rw [List.take_length] at hA
    have hin : ((l.length : Int) - 1).toNat = l.length - 1 := by omega
    obtain ⟨g1, _⟩ := nd_f l (l.length - 1) (by omega) (.sc (.int .i64 0))
    have hres : chkT l n = (decide ((gN l (l.length - 1)).i < n) && decide (n ≤ 2147483648)) := by
      unfold chkT
      rw [decide_eq_true h1', decide_eq_true h64', (allN_iff _ _).2 hI.st, (allN_iff _ _).2 fun i hi => decide_eq_true (by rw [← up_takeA hA hi]; exact hI.dp i hi)]
      rfl
    rw [hres]
    simp only [go_sem, zaa, zae, zaf, zag, zah, zad, ↓reduceIte, reduceCtorEq, zab, zac, zai, zaj, zak, decide_eq_false c, hin, g1]
    repeat' (first
 | with_reducible refine zaq ?_ ?_
 | (unfold OKC; kernel_rfl)
 | (unfold EDG; kernel_rfl)
 | (intros; omega)
 | exact fs_nil trivial rfl
 | fail)
  have c : (m : Int) < (l.length : Int) := by omega
  have h2 := index_take l none m (gN l m).p hm hl
  have h3 := isChild_spec (gN l m) (hct _ (getD_mem l m zn hlt)) (hnm.at m hlt)
  have h4 := taken_take l none m (gN l m).p (gN l m).nm hm hl
  obtain ⟨g1, g2, _⟩ := nd_f l m hlt (.sc (.int .i64 0))
  have g3 := (nd_f l m hlt (.sc (.string (bs [])))).2.2.1
  have hN := nd_td l m hlt
  obtain ⟨q1, _⟩ := nd_f l (m - 1) (by omega) (.sc (.int .i64 0))
  have hin : ((m : Int) - 1).toNat = m - 1 := by omega
  have hst : stOk l m = (kdOk (gN l m) && rngOk (gN l m) && (decide ((gN l (m - 1)).i < (gN l m).i) && nmOk (gN l m).nm && bsF Nd.i (l.take m) (gN l m).p && !(l.take m).any (same1 (gN l m).p (gN l m).nm))) := by
    unfold stOk
    rw [if_neg (by omega), bs_any Nd.i (l.take m) (fun i j => hA i j)]
    rfl
  have hno : stOk l m = false → chkT l n = false := fun hf => chkT_not fun h => by have := h.st m hlt; rw [hf] at this; cases this
  have hvl := bsV_le Nd.i (l.take m) (gN l m).p
  rw [zaU] at hvl
  cases hf : bsF Nd.i (l.take m) (gN l m).p with
  | false =>
    rw [hno (by rw [hst, hf]; simp)]
    rw [hf] at h2
    generalize bsV Nd.i (l.take m) (gN l m).p = v at *
    simp only [go_sem, zaa, zae, zaf, zag, zah, zad, ↓reduceIte, reduceCtorEq, zab, zac, zai, zaj, zak, decide_eq_true c, g2, zaX, zba, zbb]
    repeat' (first
 | with_reducible refine zaq ?_ ?_
 | (unfold OKC; kernel_rfl)
 | (unfold EDG; kernel_rfl)
 | (apply cl_plain
    case hs => rfl
    case ha => (simp only [zam, zao, prepV, prepC, idx, hpL', lookR, zaa, if_true, if_false]; rfl)
    case h => (first | exact h2 ..))
 | ((first | refine s1_id ?_ | refine swp_id ?_ | refine sops_id ?_ | refine s2_id ?_); simp only [decide_eq_true c, g2, zaX, zba, zbb, go_sem, zaa, zae, zaf, zag, zah, zad, ↓reduceIte, reduceCtorEq, zab, zac, zai, zaj, zak, zaL, zaM, zaz, zaN, renO, bk, back, outUpsFrom, Ints_ren])
 | (intros; omega)
 | exact fs_nil trivial rfl
 | fail)
  | true =>
  obtain ⟨hv1, hv2⟩ := bsF_at Nd.i (l.take m) (gN l m).p hf
  rw [zaU] at hv1
  rw [hf] at h2 hst
  generalize bsV Nd.i (l.take m) (gN l m).p = v at *
  have hvm : v < m := by omega
  have hv3 : (gN l v).i = (gN l m).p := by rw [← gN_take l m v hvm]; exact hv2
  by_cases hle : (gN l m).i ≤ (gN l (m - 1)).i
  · rw [hno (by rw [hst, decide_eq_false (by omega)]; simp)]
    simp only [go_sem, zaa, zae, zaf, zag, zah, zad, ↓reduceIte, reduceCtorEq, zab, zac, zai, zaj, zak, decide_eq_true c, g1, g2, zaX, zba, zbb, hin, q1, decide_eq_true hle]
    repeat' (first
 | with_reducible refine zaq ?_ ?_
 | (unfold OKC; kernel_rfl)
 | (unfold EDG; kernel_rfl)
 | (apply cl_plain
    case hs => rfl
    case ha => (simp only [zam, zao, prepV, prepC, idx, hpL', lookR, zaa, if_true, if_false]; rfl)
    case h => (first | exact h2 ..))
 | ((first | refine s1_id ?_ | refine swp_id ?_ | refine sops_id ?_ | refine s2_id ?_); simp only [decide_eq_true c, g1, g2, zaX, zba, zbb, hin, q1, decide_eq_true hle, go_sem, zaa, zae, zaf, zag, zah, zad, ↓reduceIte, reduceCtorEq, zab, zac, zai, zaj, zak, zaL, zaM, zaz, zaN, renO, bk, back, outUpsFrom, Ints_ren])
 | (intros; omega)
 | exact fs_nil trivial rfl
 | fail)
  rw [decide_eq_true (by omega : (gN l (m - 1)).i < (gN l m).i)] at hst
  cases hcb : (nmOk (gN l m).nm && kdOk (gN l m) && rngOk (gN l m)) with
  | false =>
    rw [hno (by rw [hst]; revert hcb; cases nmOk (gN l m).nm <;> cases kdOk (gN l m) <;> cases rngOk (gN l m) <;> simp)]
    rw [hcb] at h3
    simp only [ndc] at hN h3
    simp only [go_sem, zaa, zae, zaf, zag, zah, zad, ↓reduceIte, reduceCtorEq, zab, zac, zai, zaj, zak, decide_eq_true c, g1, g2, zaX, zba, zbb, hin, q1, decide_eq_false hle, hN]
    repeat' (first
 | with_reducible refine zaq ?_ ?_
 | (unfold OKC; kernel_rfl)
 | (unfold EDG; kernel_rfl)
 | (apply cg_tp
    case hl => rfl
    case ha => (simp only [zam, zao, prepV, prepC, idx, hpL', lookR, zaa, if_true, if_false]; rfl)
    case hs => rfl
    case h => (first | exact h2 .. | exact h3 ..))
 | (apply cl_plain
    case hs => rfl
    case ha => (simp only [zam, zao, prepV, prepC, idx, hpL', lookR, zaa, if_true, if_false]; rfl)
    case h => (first | exact h2 .. | exact h3 ..))
 | ((first | refine s1_id ?_ | refine swp_id ?_ | refine sops_id ?_ | refine s2_id ?_); simp only [decide_eq_true c, g1, g2, zaX, zba, zbb, hin, q1, decide_eq_false hle, hN, go_sem, zaa, zae, zaf, zag, zah, zad, ↓reduceIte, reduceCtorEq, zab, zac, zai, zaj, zak, zaL, zaM, zaz, zaN, renO, bk, back, outUpsFrom, Ints_ren])
 | (intros; omega)
 | exact fs_nil trivial rfl
 | fail)
  | true =>
  rw [hcb] at h3
  cases htk : (l.take m).any (same1 (gN l m).p (gN l m).nm) with
  | true =>
    rw [hno (by rw [hst, htk]; simp)]
    rw [htk] at h4
    simp only [ndc] at hN h3
    simp only [go_sem, zaa, zae, zaf, zag, zah, zad, ↓reduceIte, reduceCtorEq, zab, zac, zai, zaj, zak, decide_eq_true c, g1, g2, g3, zaX, zba, zbb, hin, q1, decide_eq_false hle, hN]
    repeat' (first
 | with_reducible refine zaq ?_ ?_
 | (unfold OKC; kernel_rfl)
 | (unfold EDG; kernel_rfl)
 | (apply cg_tp
    case hl => rfl
    case ha => (simp only [zam, zao, prepV, prepC, idx, hpL', lookR, zaa, if_true, if_false]; rfl)
    case hs => rfl
    case h => (first | exact h2 .. | exact h3 .. | exact h4 ..))
 | (apply cl_plain
    case hs => rfl
    case ha => (simp only [zam, zao, prepV, prepC, idx, hpL', lookR, zaa, if_true, if_false]; rfl)
    case h => (first | exact h2 .. | exact h3 .. | exact h4 ..))
 | ((first | refine s1_id ?_ | refine swp_id ?_ | refine sops_id ?_ | refine s2_id ?_); simp only [decide_eq_true c, g1, g2, g3, zaX, zba, zbb, hin, q1, decide_eq_false hle, hN, go_sem, zaa, zae, zaf, zag, zah, zad, ↓reduceIte, reduceCtorEq, zab, zac, zai, zaj, zak, zaL, zaM, zaz, zaN, renO, bk, back, outUpsFrom, Ints_ren])
 | (intros; omega)
 | exact fs_nil trivial rfl
 | fail)
  | false =>
  have hok : stOk l m = true := by rw [hst, htk]; revert hcb; cases nmOk (gN l m).nm <;> cases kdOk (gN l m) <;> cases rngOk (gN l m) <;> simp
  rw [htk] at h4
  have hun := up_next hA hlt hvm hv3
  have hdv := dps_at l m v (by omega)
  rw [if_pos hvm] at hdv
  have hset := dps_set l m (by omega)
  have hdm := dps_at l (m + 1) m (by omega)
  rw [if_pos (by omega)] at hdm
  have hu1 : 1 ≤ (upL (l.take (v + 1)) (gN l v).i).length := by rw [upL_take l v (by omega), if_pos rfl, zaA]; omega
  have hu9 := hI.dp v hvm
  have hsv : ((upL (l.take (v + 1)) (gN l v).i).length : Int) - 1 + 1 = ((upL (l.take (m + 1)) (gN l m).i).length : Int) - 1 := by rw [hun]; omega
  generalize (upL (l.take (v + 1)) (gN l v).i).length = D at *
  obtain ⟨D2, hD2⟩ : ∃ D2, (upL (l.take (m + 1)) (gN l m).i).length = D2 := ⟨_, rfl⟩
  have hseti : (Ints (dps l m)).set m (int ((D2 : Int) - 1)) = Ints (dps l (m + 1)) := by rw [← hset, hD2]; simp [Ints, List.map_set]
  rw [hD2] at hsv hdm hun
  have hdl := dps_len l m
  have hdl1 := dps_len l (m + 1)
  simp only [ndc] at hN h3
  by_cases h9 : 8 < (D2 : Int) - 1
  · rw [chkT_not fun h => by
      have := h.dp m hlt
      rw [← up_takeA h.asc hlt, hD2] at this; omega]
    simp only [go_sem, zaa, zae, zaf, zag, zah, zad, ↓reduceIte, reduceCtorEq, zab, zac, zai, zaj, zak, decide_eq_true c, g1, g2, g3, zaX, zba, zbb, hin, q1, decide_eq_false hle, hN, hdv, hsv, hdm, decide_eq_true h9]
    repeat' (first
 | with_reducible refine zaq ?_ ?_
 | (unfold OKC; kernel_rfl)
 | (unfold EDG; kernel_rfl)
 | (apply cg_tp
    case hl => rfl
    case ha => (simp only [zam, zao, prepV, prepC, idx, hpL', lookR, zaa, if_true, if_false]; rfl)
    case hs => rfl
    case h => (first | exact h2 .. | exact h3 .. | exact h4 ..))
 | (apply cl_plain
    case hs => rfl
    case ha => (simp only [zam, zao, prepV, prepC, idx, hpL', lookR, zaa, if_true, if_false]; rfl)
    case h => (first | exact h2 .. | exact h3 .. | exact h4 ..))
 | ((first | refine s1_id ?_ | refine swp_id ?_ | refine sops_id ?_ | refine s2_id ?_); simp only [decide_eq_true c, g1, g2, g3, zaX, zba, zbb, hin, q1, decide_eq_false hle, hN, hdv, hsv, hseti, hdm, decide_eq_true h9, go_sem, zaa, zae, zaf, zag, zah, zad, ↓reduceIte, reduceCtorEq, zab, zac, zai, zaj, zak, zaL, zaM, zaz, zaN, renO, bk, back, outUpsFrom, Ints_ren])
 | (intros; omega)
 | exact fs_nil trivial rfl
 | fail)
  · have hst2 : CkI l (m + 1) := ⟨hlt, by omega, fun i hi => by rcases Nat.lt_succ_iff_lt_or_eq.1 hi with h | h; (· exact hI.st i h); (· rw [h]; exact hok), fun i hi => by rcases Nat.lt_succ_iff_lt_or_eq.1 hi with h | h; (· exact hI.dp i h); (· rw [h, hD2]; omega)⟩
    simp only [go_sem, zaa, zae, zaf, zag, zah, zad, ↓reduceIte, reduceCtorEq, zab, zac, zai, zaj, zak, decide_eq_true c, g1, g2, g3, zaX, zba, zbb, hin, q1, decide_eq_false hle, hN, hdv, hsv, hdm, decide_eq_false h9]
    repeat' (first
 | with_reducible refine zaq ?_ ?_
 | (unfold OKC; kernel_rfl)
 | (unfold EDG; kernel_rfl)
 | (apply cg_tp
    case hl => rfl
    case ha => (simp only [zam, zao, prepV, prepC, idx, hpL', lookR, zaa, if_true, if_false]; rfl)
    case hs => rfl
    case h => (first | exact h2 .. | exact h3 .. | exact h4 ..))
 | (apply cl_plain
    case hs => rfl
    case ha => (simp only [zam, zao, prepV, prepC, idx, hpL', lookR, zaa, if_true, if_false]; rfl)
    case h => (first | exact h2 .. | exact h3 .. | exact h4 ..))
 | ((first | refine s1_id ?_ | refine swp_id ?_ | refine sops_id ?_ | refine s2_id ?_); simp only [decide_eq_true c, g1, g2, g3, zaX, zba, zbb, hin, q1, decide_eq_false hle, hN, hdv, hsv, hseti, hdm, decide_eq_false h9, go_sem, zaa, zae, zaf, zag, zah, zad, ↓reduceIte, reduceCtorEq, zab, zac, zai, zaj, zak, zaL, zaM, zaz, zaN, renO, bk, back, outUpsFrom, Ints_ren])
 | (intros; omega)
 | (intros; (try simp only [zat, zaE, zav, zau, zar, zas, decide_eq_true_eq, decide_eq_false_iff_not] at *); omega))
    refine le_mk (m + 1) ?_ hst2 (by omega)
    (refine imp_ren _ _ _ [(0, 0, ⟨[.gsl (Cs l) 0 l.length none, int n], 2⟩), (1, 1, ⟨Ints (dps l (m + 1)), 64⟩)] (by simp) (by simp) (by simp) (zaC rfl) ?_ rfl (by simp only [zal, zan, false_implies, implies_true, and_true, zaW, lookR, zaa, if_true, if_false, ↓reduceIte, hseti] <;> (repeat' apply zaq) <;> (first | rfl | trivial)) (by simp only [zal, zan, false_implies, implies_true, and_true, true_and, flat_cons, flat_nil, flat_ints, flat_bools, flat_app, zaV, and_self, eq_self_iff_true, zap, hseti]); simp only [zam, zao, zal, zan, false_implies, implies_true, and_true, lk, slot, zaL, zaz, toN, zaa, if_true, if_false, ↓reduceIte, reduceCtorEq])
    all_goals ((repeat' apply zaq) <;> (first | rfl | trivial | (simp only [zaH]; done) | (simp only [zaH]; rfl) | (simp only [zaH]; trivial)))
end Go.Proofs.Ytnahpejlhfeleac
-- NEWGO
-- PRUNE: cl_lendx cl_use
-- ISG: Cs_isG
-- FLAT: Cs_flat
namespace Go.Proofs.Ytnahpejlhfeleac
set_option linter.unusedVariables false
set_option linter.unusedSimpArgs false
open Go.Proofs.Ytnahpejlhfeleac.Sh
set_option maxRecDepth 20000
abbrev hasI (id : Int) (x : Nd) : Bool := decide (x.i = id)
def fdM (l : List Nd) (n id : Int) : Nd × Bool := if chkT l n = true then (match l.find? (hasI id) with
  | some x => (x, true)
  | none => (zn, false)) else (zn, false)
def hasM (l : List Nd) (n id : Int) : Bool := chkT l n && l.any (hasI id)
theorem fdM_2 (l : List Nd) (n id : Int) : (fdM l n id).2 = hasM l n id := by
  unfold fdM hasM
  cases hc : chkT l n with
  | false => rfl
  | true =>
    rw [if_pos rfl, zaP]
    cases hf : l.find? (hasI id) with
    | none =>
      have := List.find?_eq_none.1 hf
      exact (List.any_eq_false.2 this).symm
    | some x =>
      exact (List.any_eq_true.2 ⟨x, List.mem_of_find?_eq_some hf, List.find?_some hf⟩).symm
theorem find_drop {l : List Nd} {m : Nat} (h : m < l.length) (id : Int) : (l.drop m).find? (hasI id) = if (gN l m).i = id then some (gN l m) else (l.drop (m + 1)).find? (hasI id) := by
  rw [drop_getD l m zn h, List.find?_cons]
  by_cases c : (gN l m).i = id
  · rw [if_pos c, show hasI id (l.getD m zn) = true from decide_eq_true c]
  · rw [if_neg c, show hasI id (l.getD m zn) = false from decide_eq_false c]
abbrev zr : Row := ⟨[int 0, int 0, st [], int 0, int 0, int 0], 6⟩
set_option maxHeartbeats 8000000 in
theorem rfindT_spec (l : List Nd) (k : Option Nat) (n id : Int) (hl : l.length ≤ 1000000) (hnm : NmR l) : FnSpec Try.prog 32 [trV l k n, i1 id] [] (.tup [.agg (ndc (fdM l n id).1), b1 (fdM l n id).2]) [] := by
  have h1 := trcheck_spec l k n hl hnm
  have hnl := nd_len l
  unfold fdM
  cases hc : chkT l n with
  | false =>
    rw [hc] at h1
    simp only [Bool.false_eq_true, if_false]
    refine fnspec_of mixed TT_ok TT_cl ⟨fun _ => false, fun _ => [], 0, fun _ => false, fun _ => false⟩ Try.func32 rfl (by kernel_rfl) rfl 32 rfl [.cell 4 42, .tmp 5] rfl ?_
    simp only [go_sem, zaa, zae, zaf, zag, zah, zad, ↓reduceIte, reduceCtorEq, zab, zac, zai, zaj, zak]
    repeat' (first
 | with_reducible refine zaq ?_ ?_
 | (apply cl_plain
    case hs => rfl
    case ha => (simp only [zam, zao, prepV, prepC, idx, hpL', lookR, zaa, if_true, if_false]; rfl)
    case h => (first | exact h1 ..))
 | ((first | refine s1_id ?_ | refine swp_id ?_ | refine sops_id ?_ | refine s2_id ?_); simp only [go_sem, zaa, zae, zaf, zag, zah, zad, ↓reduceIte, reduceCtorEq, zab, zac, zai, zaj, zak, zaL, zaM, zaz, zaN, renO, bk, back, outUpsFrom, Ints_ren])
 | (intros; omega)
 | (apply fs_nil <;> (try simp only [go_sem, resV, resS, zaL, zaM, zaz, St.tmF, zaW, idx, renO, zaN, evS, slot, lookR, zaa, ↓reduceIte, reduceCtorEq, if_true, if_false, zaS, zaT, zam, zao, sLoad, readAt, readNeed, Ints_ren, Ints_length, Ints_getD, and_true, true_and, zaQ, zaR]) <;> (try rfl))
 | fail)
  | true =>
    rw [hc] at h1
    rw [if_pos rfl]
    refine fnspec_of mixed TT_ok TT_cl ⟨fun _ => false, fun _ => [], 0, fun _ => false, fun _ => false⟩ Try.func32 rfl (by kernel_rfl) rfl 32 rfl [.cell 4 42, .tmp 5] rfl ?_
    simp only [go_sem, zaa, zae, zaf, zag, zah, zad, ↓reduceIte, reduceCtorEq, zab, zac, zai, zaj, zak]
    repeat' (first
 | (apply cl_plain
    case hs => rfl
    case ha => (simp only [zam, zao, prepV, prepC, idx, hpL', lookR, zaa, if_true, if_false]; rfl)
    case h => (first | exact h1 ..))
 | ((first | refine s1_id ?_ | refine swp_id ?_ | refine sops_id ?_ | refine s2_id ?_); simp only [go_sem, zaa, zae, zaf, zag, zah, zad, ↓reduceIte, reduceCtorEq, zab, zac, zai, zaj, zak, zaL, zaM, zaz, zaN, renO, bk, back, outUpsFrom, Ints_ren])
 | (intros; (try simp only [zat, zaE, zav, zau, zar, zas, decide_eq_true_eq, decide_eq_false_iff_not] at *); omega))
    refine w_loop (ι := Nat) (fun m => ⟨[(1, i1 id), (2, .one (.optr 0 0)), (4, .one (.optr 1 0)), (6, i1 m)], [(0, some ⟨[.gsl (Cs l) 0 l.length k, int n], 2⟩), (1, some zr)], 2⟩) (fun m => m ≤ l.length ∧ l.find? (hasI id) = (l.drop m).find? (hasI id)) (fun m => l.length - m) 0 ?_ ⟨zaZ _, rfl⟩ ?_
    · (refine imp_ren _ _ _ [(0, 0, ⟨[.gsl (Cs l) 0 l.length k, int n], 2⟩), (1, 1, zr)] (by simp) (by simp) (by simp) (zaC rfl) ?_ rfl (by simp only [zal, zan, false_implies, implies_true, and_true, zaW, lookR, zaa, if_true, if_false, ↓reduceIte] <;> (repeat' apply zaq) <;> (first | rfl | trivial)) (by simp only [zal, zan, false_implies, implies_true, and_true, true_and, flat_cons, flat_nil, flat_ints, flat_bools, flat_app, zaV, and_self, eq_self_iff_true, zap]); simp only [zam, zao, zal, zan, false_implies, implies_true, and_true, lk, slot, zaL, zaz, toN, zaa, if_true, if_false, ↓reduceIte, reduceCtorEq])
      all_goals ((repeat' apply zaq) <;> (first | rfl | trivial))
    clear h1
    rintro m ⟨hm, hf⟩
    simp only at hm hf ⊢
    rcases zbc m l.length with hlt | hge
    case inr =>
      have c : ¬ (m : Int) < (l.length : Int) := by omega
      rw [zbd hge] at hf
      rw [hf]
      simp only [go_sem, zaa, zae, zaf, zag, zah, zad, ↓reduceIte, reduceCtorEq, zab, zac, zai, zaj, zak, decide_eq_false c, zr, List.find?_nil]
      repeat' (first
 | with_reducible refine zaq ?_ ?_
 | (intros; omega)
 | (apply fs_nil <;> (try simp only [go_sem, resV, resS, zaL, zaM, zaz, St.tmF, zaW, idx, renO, zaN, evS, slot, lookR, zaa, ↓reduceIte, reduceCtorEq, if_true, if_false, zaS, zaT, zam, zao, sLoad, readAt, readNeed, Ints_ren, Ints_length, Ints_getD, and_true, true_and, zaQ, zaR]) <;> (try rfl))
 | fail)
    have c : (m : Int) < (l.length : Int) := by omega
    obtain ⟨g1, _⟩ := nd_f l m hlt (.sc (.int .i64 0))
    have hN := nd_td l m hlt
    rw [find_drop hlt] at hf
    by_cases hid : (gN l m).i = id
    · rw [if_pos hid] at hf
      rw [hf]
      generalize gN l m = x at *
      obtain ⟨xi, xp, xn, xc, xk, xo⟩ := x
      simp only [ndc] at hN g1 hid ⊢
      simp only [go_sem, zaa, zae, zaf, zag, zah, zad, ↓reduceIte, reduceCtorEq, zab, zac, zai, zaj, zak, decide_eq_true c, g1, decide_eq_true hid, hN, zr]
      repeat' (first
 | with_reducible refine zaq ?_ ?_
 | (intros; omega)
 | (apply fs_nil <;> (try simp only [go_sem, resV, resS, zaL, zaM, zaz, St.tmF, zaW, idx, renO, zaN, evS, slot, lookR, zaa, ↓reduceIte, reduceCtorEq, if_true, if_false, zaS, zaT, zam, zao, sLoad, readAt, readNeed, Ints_ren, Ints_length, Ints_getD, and_true, true_and, zaQ, zaR]) <;> (try rfl))
 | fail)
    · rw [if_neg hid] at hf
      simp only [go_sem, zaa, zae, zaf, zag, zah, zad, ↓reduceIte, reduceCtorEq, zab, zac, zai, zaj, zak, decide_eq_true c, g1, decide_eq_false hid, zr]
      repeat' (first
 | with_reducible refine zaq ?_ ?_
 | (intros; omega)
 | (intros; (try simp only [zat, zaE, zav, zau, zar, zas, decide_eq_true_eq, decide_eq_false_iff_not] at *); omega))
      refine le_mk (m + 1) ?_ ⟨hlt, hf⟩ (by omega)
      (refine imp_ren _ _ _ [(0, 0, ⟨[.gsl (Cs l) 0 l.length k, int n], 2⟩), (1, 1, zr)] (by simp) (by simp) (by simp) (zaC rfl) ?_ rfl (by simp only [zal, zan, false_implies, implies_true, and_true, zaW, lookR, zaa, if_true, if_false, ↓reduceIte] <;> (repeat' apply zaq) <;> (first | rfl | trivial)) (by simp only [zal, zan, false_implies, implies_true, and_true, true_and, flat_cons, flat_nil, flat_ints, flat_bools, flat_app, zaV, and_self, eq_self_iff_true, zap]); simp only [zam, zao, zal, zan, false_implies, implies_true, and_true, lk, slot, zaL, zaz, toN, zaa, if_true, if_false, ↓reduceIte, reduceCtorEq])
      all_goals ((repeat' apply zaq) <;> (first | rfl | trivial | (simp only [zaH]; done) | (simp only [zaH]; rfl) | (simp only [zaH]; trivial)))
theorem rhas_spec (l : List Nd) (k : Option Nat) (n id : Int) (hl : l.length ≤ 1000000) (hnm : NmR l) : FnSpec Try.prog 16 [trV l k n, i1 id] [] (b1 (hasM l n id)) [] := by
  have h1 := rfindT_spec l k n id hl hnm
  rw [← fdM_2]
  generalize fdM l n id = u at *
  obtain ⟨⟨xi, xp, xn, xc, xk, xo⟩, b⟩ := u
  simp only [ndc] at h1 ⊢
  refine fnspec_of mixed TT_ok TT_cl ⟨fun _ => false, fun _ => [], 0, fun _ => false, fun _ => false⟩ Try.func16 rfl (by kernel_rfl) rfl 14 rfl [.tmp 4] rfl ?_
  simp only [go_sem, zaa, zae, zaf, zag, zah, zad, ↓reduceIte, reduceCtorEq, zab, zac, zai, zaj, zak]
  repeat' (first
 | (apply cl_plain
    case hs => rfl
    case ha => (simp only [zam, zao, prepV, prepC, idx, hpL', lookR, zaa, if_true, if_false]; rfl)
    case h => (first | exact h1 ..))
 | ((first | refine s1_id ?_ | refine swp_id ?_ | refine sops_id ?_ | refine s2_id ?_); simp only [zaB, zaF, zap, zaD, zaG, zax, zay, zaw, zaJ, zaK, zaA, zaI, go_sem, zaa, zae, zaf, zag, zah, zad, ↓reduceIte, reduceCtorEq, zab, zac, zai, zaj, zak, zaL, zaM, zaz, zaN, renO, bk, back, outUpsFrom, Ints_ren])
 | exact fs_nil trivial rfl
 | fail)
def ancM (l : List Nd) (n id : Int) : List Int := if hasM l n id = true then upL l id else []
def kidsL (l : List Nd) (id : Int) : List Int := (l.filter fun x => decide (x.p = id)).map (·.i)
def chM (l : List Nd) (n id : Int) : List Int := if hasM l n id = true then kidsL l id else []
theorem trcopy_spec (l : List Nd) (k : Option Nat) (n : Int) (h1 : 1 ≤ l.length) (hl : l.length ≤ 1000000) : FnSpec Try.prog 51 [trV l k n] [] (.agg [.osl 0 0 l.length none, int n]) [some ⟨Cs l, 6⟩] := by
  have hnl := nd_len l
  have hca : zbe (l.length * 6) (Cs l) = Cs l := Cs_all l _ (zaY _)
  refine fnspec_of mixed TT_ok TT_cl ⟨fun _ => false, fun _ => [], 0, fun _ => false, fun _ => false⟩ Try.func51 rfl (by kernel_rfl) rfl 9 rfl [.cell 2 24] rfl ?_
  simp only [go_sem, zaa, zae, zaf, zag, zah, zad, ↓reduceIte, reduceCtorEq, zab, zac, zai, zaj, zak]
  repeat' (first
 | with_reducible refine zaq ?_ ?_
 | (unfold OKC; kernel_rfl)
 | (unfold EDG; kernel_rfl)
 | (intros; omega)
 | (intros; (try simp only [zat, zaE, zav, zau, zar, zas, decide_eq_true_eq, decide_eq_false_iff_not] at *); omega))
  all_goals try (rw [hca, hnl])
  (refine fs_flat [(4, ⟨Cs l, 6⟩)] (by simp) (by simp only [zam, zao]; decide) (by simp only [go_sem, resV, resS, zaL, zaM, zaz, St.tmF, zaW, idx, renO, zaN, evS, slot, lookR, zaa, ↓reduceIte, reduceCtorEq, if_true, if_false, zaS, zaT, zam, zao, sLoad, readAt, readNeed, Ints_ren, Ints_length, Ints_getD, and_true, true_and, zaQ, zaR]; try decide) ?_ (by simp only [zal, zan, false_implies, implies_true, and_true, zaW, lookR, zaa, if_true, if_false, ↓reduceIte, hca, Cs_flat] <;> (repeat' apply zaq) <;> (first | rfl | trivial)) (by simp only [zal, zan, false_implies, implies_true, and_true, true_and, flat_cons, flat_nil, flat_ints, flat_bools, flat_app, zaV, and_self, eq_self_iff_true, zap, hca, Cs_flat]) ?_ <;> (try simp only [go_sem, resV, resS, zaL, zaM, zaz, St.tmF, zaW, idx, renO, zaN, evS, slot, lookR, zaa, ↓reduceIte, reduceCtorEq, if_true, if_false, zaS, zaT, zam, zao, sLoad, readAt, readNeed, Ints_ren, Ints_length, Ints_getD, and_true, true_and, zaQ, zaR]) <;> (try rfl))
theorem trnew_spec : FnSpec Try.prog 11 [] [] (trV [⟨1, 0, [], 0, 0, 0⟩] none 2) [] := by
  refine fnspec_of mixed TT_ok TT_cl ⟨fun _ => false, fun _ => [], 0, fun _ => false, fun _ => false⟩ Try.func11 rfl (by kernel_rfl) rfl 4 rfl [.cell 0 24] rfl ?_
  simp only [go_sem, zaa, zae, zaf, zag, zah, zad, ↓reduceIte, reduceCtorEq, zab, zac, zai, zaj, zak]
  repeat' (first
 | with_reducible refine zaq ?_ ?_
 | (intros; (try simp only [zat, zaE, zav, zau, zar, zas, decide_eq_true_eq, decide_eq_false_iff_not] at *); omega))
  all_goals try (exact zaY _)
  simp only [zaB, zaF, zap, zaD, zaG, zax, zay, zaw, zaJ, zaK, zaA, zaI]
  (refine fs_frz 2 ⟨[int 1, int 0, st [], int 0, int 0, int 0], 6⟩ (by simp only [zaW, lookR, zaa, if_true, if_false, ↓reduceIte]) (by first | exact Ints_isG _ | exact Bools_isG _ | exact Cs_isG _ | (simp [Cell.isG]; done)) ?_; simp only [frzTm, SV.frz, SV.frzL, Cell.frz, frzHp, frzO, Ints_frz, Bools_frz, zam, zao, zaa, if_true, if_false, ↓reduceIte])
  repeat' (first
 | (refine fs_w ?h1 (svw_of ?h2); (case h1 => repeat' (first | exact trivial | exact rfl | exact zaC rfl | apply zaq)); (case h2 => repeat' (first | ((with_reducible refine (?_ : CW _ _)); first | exact cw_gnil | exact cw_rfl _ | exact cw_niln _ _ | exact cw_cap _ _ _ _) | exact trivial | (show _ ∧ SWL _ _; apply zaq) | (show _ ∧ CWL _ _; apply zaq) | show CW _ _)))
 | fail)
end Go.Proofs.Ytnahpejlhfeleac
-- NEWGO
-- PRUNE: cl_lendx cl_use
-- ISG: Cs_isG
-- FLAT: Cs_flat
namespace Go.Proofs.Ytnahpejlhfeleac
set_option linter.unusedVariables false
set_option linter.unusedSimpArgs false
open Go.Proofs.Ytnahpejlhfeleac.Sh
set_option maxRecDepth 20000
abbrev newN (n p : Int) (s : Str) : Nd := ⟨n, p, s, 0, 0, 0⟩
def addM (l : List Nd) (n p : Int) (s : Str) : (List Nd × Int) × Int × Int :=
  if (chkT l n && nmOk s) = false then (([], 0), 0, 1)
  else if hasM l n p = false then (([], 0), 0, 4)
  else if l.any (same1 p s) = true then (([], 0), 0, 5)
  else if 8 ≤ ((ancM l n p).length : Int) - 1 ∨ 64 ≤ (l.length : Int) ∨ 2147483647 < n then (([], 0), 0, 7)
  else ((l ++ [newN n p s], n + 1), n, 0)
def rmM (l : List Nd) (n id : Int) : (List Nd × Int) × Int :=
  if chkT l n = false then (([], 0), 1)
  else if hasM l n id = false then (([], 0), 4)
  else if id = 1 then (([], 0), 9)
  else if 0 < ((chM l n id).length : Int) then (([], 0), 6)
  else ((rmN l id, n), 0)
theorem rmN_len (l : List Nd) (id : Int) : (rmN l id).length ≤ l.length := List.length_filter_le _ _
end Go.Proofs.Ytnahpejlhfeleac
namespace Go.Proofs.Ytnahpejlhfeleac
set_option linter.unusedVariables false
set_option linter.unusedSimpArgs false
open Go.Proofs.Ytnahpejlhfeleac.Sh
abbrev dice (l : List Int) (i : Nat) : Row := ⟨[.gsl (Ints l) 0 l.length none, int i], 2⟩
abbrev dp : SV := .one (.optr 0 0)
end Go.Proofs.Ytnahpejlhfeleac
-- NEWGO
-- PRUNE: cl_lendx cl_use
-- ISG: Strs_isG
-- FLAT: Strs_flat
namespace Go.Proofs.Ytnahpejlhfeleac
set_option linter.unusedVariables false
set_option linter.unusedSimpArgs false
open Go.Proofs.Ytnahpejlhfeleac.Sh
set_option maxRecDepth 20000
variable {l : List Int} (hl : l.length ≤ 600) (hr : ∀ x ∈ l, -9223372036854775808 ≤ x ∧ x ≤ 9223372036854775807)
include hl hr
end Go.Proofs.Ytnahpejlhfeleac
-- NEWGO
-- PRUNE: cl_lendx cl_use
-- ISG: Cs_isG
-- FLAT: Cs_flat
namespace Go.Proofs.Ytnahpejlhfeleac
set_option linter.unusedVariables false
set_option linter.unusedSimpArgs false
open Go.Proofs.Ytnahpejlhfeleac.Sh
set_option maxRecDepth 20000
structure TI (l : List Nd) (n : Int) (B : Nat) : Prop where
  v : VL l n
  nm : ∀ x ∈ l, x.nm.length ≤ 4
  b : l.length ≤ B
  z : ∀ x ∈ l, x.c = 0 ∧ x.k = 0 ∧ x.o = 0
theorem TI.len {l : List Nd} {n : Int} {B : Nat} (h : TI l n B) : 1 ≤ l.length ∧ l.length ≤ 64 := ⟨h.v.ne, h.v.le⟩
theorem TI.mono {l : List Nd} {n : Int} {B C : Nat} (h : TI l n B) (hc : B ≤ C) : TI l n C := ⟨h.v, h.nm, Nat.le_trans h.b hc, h.z⟩
theorem hasM_iff {l : List Nd} {n id : Int} : hasM l n id = true ↔ chkT l n = true ∧ ∃ y ∈ l, y.i = id := by
  unfold hasM
  rw [zat, List.any_eq_true]
  simp only [hasI, decide_eq_true_eq]
theorem addM_ok {l : List Nd} {n p : Int} {s : Str} (h : (addM l n p s).2.2 = 0) : addM l n p s = ((l ++ [newN n p s], n + 1), n, 0) ∧ chkT l n = true ∧ nmOk s = true ∧ (∃ y ∈ l, y.i = p) ∧ (∀ y ∈ l, ¬ (y.p = p ∧ y.nm = s)) ∧ (upL l p).length ≤ 8 ∧ l.length < 64 ∧ n ≤ 2147483647 := by
  unfold addM at h ⊢
  by_cases h1 : (chkT l n && nmOk s) = false
  · rw [if_pos h1] at h; cases h
  rw [if_neg h1] at h ⊢
  by_cases h2 : hasM l n p = false
  · rw [if_pos h2] at h; cases h
  rw [if_neg h2] at h ⊢
  by_cases h3 : l.any (same1 p s) = true
  · rw [if_pos h3] at h; cases h
  rw [if_neg h3] at h ⊢
  by_cases h4 : 8 ≤ ((ancM l n p).length : Int) - 1 ∨ 64 ≤ (l.length : Int) ∨ 2147483647 < n
  · rw [if_pos h4] at h; cases h
  rw [if_neg h4]
  have h1' : (chkT l n && nmOk s) = true := by revert h1; cases (chkT l n && nmOk s) <;> simp
  rw [zat] at h1'
  have h2' : hasM l n p = true := by revert h2; cases hasM l n p <;> simp
  have ha : ancM l n p = upL l p := if_pos h2'
  rw [ha] at h4
  refine ⟨rfl, h1'.1, h1'.2, (hasM_iff.1 h2').2, fun y hy hh => h3 (List.any_eq_true.2 ⟨y, hy, ?_⟩), by omega, by omega, by omega⟩
  unfold same1
  rw [decide_eq_true hh.1, decide_eq_true hh.2]; rfl
theorem rmM_ok {l : List Nd} {n id : Int} (h : (rmM l n id).2 = 0) : rmM l n id = ((rmN l id, n), 0) ∧ chkT l n = true ∧ (∃ y ∈ l, y.i = id) ∧ id ≠ 1 ∧ ∀ x ∈ l, x.p ≠ id := by
  unfold rmM at h ⊢
  by_cases h1 : chkT l n = false
  · rw [if_pos h1] at h; cases h
  rw [if_neg h1] at h ⊢
  by_cases h2 : hasM l n id = false
  · rw [if_pos h2] at h; cases h
  rw [if_neg h2] at h ⊢
  by_cases h3 : id = 1
  · rw [if_pos h3] at h; cases h
  rw [if_neg h3] at h ⊢
  by_cases h4 : 0 < ((chM l n id).length : Int)
  · rw [if_pos h4] at h; cases h
  rw [if_neg h4]
  have h2' : hasM l n id = true := by revert h2; cases hasM l n id <;> simp
  have hc : chM l n id = kidsL l id := if_pos h2'
  rw [hc] at h4
  refine ⟨rfl, (hasM_iff.1 h2').1, (hasM_iff.1 h2').2, h3, fun x hx e => h4 ?_⟩
  have : x.i ∈ kidsL l id := List.mem_map_of_mem (List.mem_filter.2 ⟨hx, decide_eq_true e⟩)
  have := List.length_pos_of_mem this
  omega
theorem TI.add {l : List Nd} {n p : Int} {s : Str} {B : Nat} (h : TI l n B) (hs : s.length ≤ 4) (he : (addM l n p s).2.2 = 0) : TI (addM l n p s).1.1 (addM l n p s).1.2 (B + 1) := by
  obtain ⟨e, h1, h2, h3, h4, h5, h6, h7⟩ := addM_ok he
  rw [e]
  refine ⟨h.v.add h2 h3 h4 h5 h6 h7, fun x hx => ?_, by rw [List.length_append, List.length_singleton]; have := h.b; omega, fun x hx => ?_⟩
  · rcases List.mem_append.1 hx with hx | hx
    · exact h.nm x hx
    · rw [List.mem_singleton.1 hx]; exact hs
  · rcases List.mem_append.1 hx with hx | hx
    · exact h.z x hx
    · rw [List.mem_singleton.1 hx]; exact ⟨rfl, rfl, rfl⟩
theorem TI.rem {l : List Nd} {n id : Int} {B : Nat} (h : TI l n B) (he : (rmM l n id).2 = 0) : TI (rmM l n id).1.1 (rmM l n id).1.2 B := by
  obtain ⟨e, h1, h2, h3, h4⟩ := rmM_ok he
  rw [e]
  refine ⟨h.v.rm h3 h4, fun x hx => h.nm x ((rmN_mem l id x).1 hx).1, Nat.le_trans (rmN_len l id) h.b, fun x hx => h.z x ((rmN_mem l id x).1 hx).1⟩
end Go.Proofs.Ytnahpejlhfeleac
-- NEWGO
-- PRUNE: cl_lendx cl_use
-- ISG: Cs_isG
-- FLAT: Cs_flat
namespace Go.Proofs.Ytnahpejlhfeleac
set_option linter.unusedVariables false
set_option linter.unusedSimpArgs false
open Go.Proofs.Ytnahpejlhfeleac.Sh
set_option maxRecDepth 20000
theorem nd_cl (xs : List (Nd)) (c : Option Nat) (hl : xs.length ≤ 1000000) : FnSpec Try.prog 55 [gr xs c] [] (.one (.osl 0 0 xs.length none)) [some ⟨Cs xs, 6⟩] := by
  have hts : zbe (xs.length * 6) (Cs xs) = Cs xs := Cs_all xs _ (zaY _)
  have hil : (Cs xs).length = xs.length * 6 := Cs_len xs
  by_cases h0 : 0 < xs.length
  · refine fnspec_of mixed TT_ok TT_cl ⟨fun _ => false, fun _ => [], 0, fun _ => false, fun _ => false⟩ Try.func55 rfl (by kernel_rfl) rfl 8 rfl [.tmp 2] rfl ?_
    simp only [go_sem, zaa, zae, zaf, zag, zah, zad, ↓reduceIte, reduceCtorEq, zab, zac, zai, zaj, zak, hts, hil]
    repeat' (first
 | with_reducible refine zaq ?_ ?_
 | (intros; omega)
 | (intros; (try simp only [zat, zaE, zav, zau, zar, zas, decide_eq_true_eq, decide_eq_false_iff_not] at *); omega))
    (refine fs_flat [(5, ⟨Cs xs, 6⟩)] (by simp) (by simp only [zam, zao]; decide) (by simp only [go_sem, resV, resS, zaL, zaM, zaz, St.tmF, zaW, idx, renO, zaN, evS, slot, lookR, zaa, ↓reduceIte, reduceCtorEq, if_true, if_false, zaS, zaT, zam, zao, sLoad, readAt, readNeed, Ints_ren, Ints_length, Ints_getD, and_true, true_and, zaQ, zaR]; try decide) ?_ (by simp only [zal, zan, false_implies, implies_true, and_true, zaW, lookR, zaa, if_true, if_false, ↓reduceIte, Cs_flat] <;> (repeat' apply zaq) <;> (first | rfl | trivial)) (by simp only [zal, zan, false_implies, implies_true, and_true, true_and, flat_cons, flat_nil, flat_ints, flat_bools, flat_app, zaV, and_self, eq_self_iff_true, zap, Cs_flat]) ?_ <;> (try simp only [go_sem, resV, resS, zaL, zaM, zaz, St.tmF, zaW, idx, renO, zaN, evS, slot, lookR, zaa, ↓reduceIte, reduceCtorEq, if_true, if_false, zaS, zaT, zam, zao, sLoad, readAt, readNeed, Ints_ren, Ints_length, Ints_getD, and_true, true_and, zaQ, zaR]) <;> (try rfl))
  · have hn : xs = [] := List.length_eq_zero_iff.1 (by omega)
    subst hn
    refine FnSpec.niln (FnSpec.nilrow 6 ?_) (fun ad cc => ?_)
    · refine fnspec_of mixed TT_ok TT_cl ⟨fun _ => false, fun _ => [], 0, fun _ => false, fun _ => false⟩ Try.func55 rfl (by kernel_rfl) rfl 8 rfl [.tmp 2] rfl ?_
      simp only [go_sem, zaa, zae, zaf, zag, zah, zad, ↓reduceIte, reduceCtorEq, zab, zac, zai, zaj, zak]
      repeat' (first
 | exact fs_nil trivial rfl
 | fail)
    · refine fnspec_of mixed TT_ok TT_cl ⟨fun _ => false, fun _ => [], 0, fun _ => false, fun _ => false⟩ Try.func55 rfl (by kernel_rfl) rfl 8 rfl [.tmp 2] rfl ?_
      simp only [go_sem, zaa, zae, zaf, zag, zah, zad, ↓reduceIte, reduceCtorEq, zab, zac, zai, zaj, zak]
      repeat' (first
 | (intros; (try simp only [zat, zaE, zav, zau, zar, zas, decide_eq_true_eq, decide_eq_false_iff_not] at *); omega))
      (refine fs_flat [(5, ⟨[], 6⟩)] (by simp) (by simp only [zam, zao]; decide) (by simp only [go_sem, resV, resS, zaL, zaM, zaz, St.tmF, zaW, idx, renO, zaN, evS, slot, lookR, zaa, ↓reduceIte, reduceCtorEq, if_true, if_false, zaS, zaT, zam, zao, sLoad, readAt, readNeed, Ints_ren, Ints_length, Ints_getD, and_true, true_and, zaQ, zaR]; try decide) ?_ (by simp only [zal, zan, false_implies, implies_true, and_true, zaW, lookR, zaa, if_true, if_false, ↓reduceIte, Cs_flat] <;> (repeat' apply zaq) <;> (first | rfl | trivial)) (by simp only [zal, zan, false_implies, implies_true, and_true, true_and, flat_cons, flat_nil, flat_ints, flat_bools, flat_app, zaV, and_self, eq_self_iff_true, zap, Cs_flat]) ?_ <;> (try simp only [go_sem, resV, resS, zaL, zaM, zaz, St.tmF, zaW, idx, renO, zaN, evS, slot, lookR, zaa, ↓reduceIte, reduceCtorEq, if_true, if_false, zaS, zaT, zam, zao, sLoad, readAt, readNeed, Ints_ren, Ints_length, Ints_getD, and_true, true_and, zaQ, zaR]) <;> (try rfl))
theorem fd_ix {l : List Nd} {n id : Int} (h : VT l n) (hb : bsF Nd.i l id = true) : fdM l n id = (gN l (bsV Nd.i l id), true) := by
  obtain ⟨h1, h2⟩ := bsF_at Nd.i l id hb
  have h2' : (gN l (bsV Nd.i l id)).i = id := h2
  unfold fdM
  rw [(chkT_iff l n).2 h, if_pos rfl]
  have : l.find? (hasI id) = some (gN l (bsV Nd.i l id)) := by
    rw [List.find?_eq_some_iff_getElem]
    refine ⟨decide_eq_true h2', bsV Nd.i l id, h1, (getD_at l _ zn h1).symm, fun j hj => ?_⟩
    have h3 := h.asc j _ hj h1
    rw [h2', show gN l j = l[j] from getD_at l j zn (by omega)] at h3
    simp only [zav, decide_eq_false_iff_not]; omega
  rw [this]
theorem fd_no {l : List Nd} {n id : Int} (h : VT l n) (hb : bsF Nd.i l id = false) : fdM l n id = (zn, false) := by
  unfold fdM
  rw [(chkT_iff l n).2 h, if_pos rfl]
  rw [bs_any Nd.i l (fun i j hij hj => h.asc i j hij hj) id] at hb
  rw [List.find?_eq_none.2 fun x hx e => List.any_eq_false.1 hb x hx e]
set_option maxHeartbeats 8000000 in
theorem tfind_spec (l : List Nd) (n id : Int) (hl : l.length ≤ 1000000) (hnm : NmR l) (hct : CtR l) : FnSpec Try.prog 13 [trV l none n, i1 id] [] (.tup [.agg (ndc (fdM l n id).1), b1 (fdM l n id).2]) [] := by
  have h1 := tchk_spec l n hl hnm hct
  have h2 := index_spec l none id hl
  have hnl := nd_len l
  cases hb : bsF Nd.i l id with
  | false =>
    have e : fdM l n id = (zn, false) := by
      cases hc : chkT l n with
      | false => unfold fdM; rw [hc]; rfl
      | true => exact fd_no ((chkT_iff l n).1 hc) hb
    rw [e]
    rw [hb] at h2
    generalize bsV Nd.i l id = v at *
    refine fnspec_of mixed TT_ok TT_cl ⟨fun _ => false, fun _ => [], 0, fun _ => false, fun _ => false⟩ Try.func13 rfl (by kernel_rfl) rfl 28 rfl [.cell 4 42, .tmp 5] rfl ?_
    simp only [go_sem, zaa, zae, zaf, zag, zah, zad, ↓reduceIte, reduceCtorEq, zab, zac, zai, zaj, zak]
    repeat' (first
 | with_reducible refine zaq ?_ ?_
 | (apply cl_plain
    case hs => rfl
    case ha => (simp only [zam, zao, prepV, prepC, idx, hpL', lookR, zaa, if_true, if_false]; rfl)
    case h => (first | exact h2 ..))
 | ((first | refine s1_id ?_ | refine swp_id ?_ | refine sops_id ?_ | refine s2_id ?_); simp only [zaB, zaF, zap, zaD, zaG, zax, zay, zaw, zaJ, zaK, zaA, zaI, go_sem, zaa, zae, zaf, zag, zah, zad, ↓reduceIte, reduceCtorEq, zab, zac, zai, zaj, zak, zaL, zaM, zaz, zaN, renO, bk, back, outUpsFrom, Ints_ren])
 | (intros; omega)
 | (apply fs_nil <;> (try simp only [go_sem, resV, resS, zaL, zaM, zaz, St.tmF, zaW, idx, renO, zaN, evS, slot, lookR, zaa, ↓reduceIte, reduceCtorEq, if_true, if_false, zaS, zaT, zam, zao, sLoad, readAt, readNeed, Ints_ren, Ints_length, Ints_getD, and_true, true_and, zaQ, zaR]) <;> (try rfl))
 | fail)
  | true =>
  rw [hb] at h2
  cases hc : chkT l n with
  | false =>
    have e : fdM l n id = (zn, false) := by unfold fdM; rw [hc]; rfl
    rw [e]
    rw [hc] at h1
    generalize bsV Nd.i l id = v at *
    refine fnspec_of mixed TT_ok TT_cl ⟨fun _ => false, fun _ => [], 0, fun _ => false, fun _ => false⟩ Try.func13 rfl (by kernel_rfl) rfl 28 rfl [.cell 4 42, .tmp 5] rfl ?_
    simp only [go_sem, zaa, zae, zaf, zag, zah, zad, ↓reduceIte, reduceCtorEq, zab, zac, zai, zaj, zak]
    repeat' (first
 | with_reducible refine zaq ?_ ?_
 | (apply cg_tp
    case hl => rfl
    case ha => (simp only [zam, zao, prepV, prepC, idx, hpL', lookR, zaa, if_true, if_false]; rfl)
    case hs => rfl
    case h => (first | exact h1 .. | exact h2 ..))
 | (apply cl_plain
    case hs => rfl
    case ha => (simp only [zam, zao, prepV, prepC, idx, hpL', lookR, zaa, if_true, if_false]; rfl)
    case h => (first | exact h1 .. | exact h2 ..))
 | ((first | refine s1_id ?_ | refine swp_id ?_ | refine sops_id ?_ | refine s2_id ?_); simp only [zaB, zaF, zap, zaD, zaG, zax, zay, zaw, zaJ, zaK, zaA, zaI, go_sem, zaa, zae, zaf, zag, zah, zad, ↓reduceIte, reduceCtorEq, zab, zac, zai, zaj, zak, zaL, zaM, zaz, zaN, renO, bk, back, outUpsFrom, Ints_ren])
 | (intros; omega)
 | (apply fs_nil <;> (try simp only [go_sem, resV, resS, zaL, zaM, zaz, St.tmF, zaW, idx, renO, zaN, evS, slot, lookR, zaa, ↓reduceIte, reduceCtorEq, if_true, if_false, zaS, zaT, zam, zao, sLoad, readAt, readNeed, Ints_ren, Ints_length, Ints_getD, and_true, true_and, zaQ, zaR]) <;> (try rfl))
 | fail)
  | true =>
  rw [fd_ix ((chkT_iff l n).1 hc) hb]
  rw [hc] at h1
  have hlt := (bsF_at Nd.i l id hb).1
  generalize bsV Nd.i l id = v at *
  have hN := nd_td l v hlt
  generalize gN l v = x at *
  obtain ⟨xi, xp, xn, xc, xk, xo⟩ := x
  simp only [ndc] at hN ⊢
  refine fnspec_of mixed TT_ok TT_cl ⟨fun _ => false, fun _ => [], 0, fun _ => false, fun _ => false⟩ Try.func13 rfl (by kernel_rfl) rfl 28 rfl [.cell 4 42, .tmp 5] rfl ?_
  simp only [go_sem, zaa, zae, zaf, zag, zah, zad, ↓reduceIte, reduceCtorEq, zab, zac, zai, zaj, zak, hN]
  repeat' (first
 | with_reducible refine zaq ?_ ?_
 | (apply cg_tp
    case hl => rfl
    case ha => (simp only [zam, zao, prepV, prepC, idx, hpL', lookR, zaa, if_true, if_false]; rfl)
    case hs => rfl
    case h => (first | exact h1 .. | exact h2 ..))
 | (apply cl_plain
    case hs => rfl
    case ha => (simp only [zam, zao, prepV, prepC, idx, hpL', lookR, zaa, if_true, if_false]; rfl)
    case h => (first | exact h1 .. | exact h2 ..))
 | ((first | refine s1_id ?_ | refine swp_id ?_ | refine sops_id ?_ | refine s2_id ?_); simp only [hN, zaB, zaF, zap, zaD, zaG, zax, zay, zaw, zaJ, zaK, zaA, zaI, go_sem, zaa, zae, zaf, zag, zah, zad, ↓reduceIte, reduceCtorEq, zab, zac, zai, zaj, zak, zaL, zaM, zaz, zaN, renO, bk, back, outUpsFrom, Ints_ren])
 | (intros; omega)
 | (apply fs_nil <;> (try simp only [go_sem, resV, resS, zaL, zaM, zaz, St.tmF, zaW, idx, renO, zaN, evS, slot, lookR, zaa, ↓reduceIte, reduceCtorEq, if_true, if_false, zaS, zaT, zam, zao, sLoad, readAt, readNeed, Ints_ren, Ints_length, Ints_getD, and_true, true_and, zaQ, zaR]) <;> (try rfl))
 | fail)
theorem tnew_spec : FnSpec Try.prog 37 [] [] (trV [⟨1, 0, [], 0, 0, 0⟩] none 2) [] := by
  refine fnspec_of mixed TT_ok TT_cl ⟨fun _ => false, fun _ => [], 0, fun _ => false, fun _ => false⟩ Try.func37 rfl (by kernel_rfl) rfl 4 rfl [.cell 0 24] rfl ?_
  simp only [go_sem, zaa, zae, zaf, zag, zah, zad, ↓reduceIte, reduceCtorEq, zab, zac, zai, zaj, zak]
  repeat' (first
 | with_reducible refine zaq ?_ ?_
 | (intros; (try simp only [zat, zaE, zav, zau, zar, zas, decide_eq_true_eq, decide_eq_false_iff_not] at *); omega))
  all_goals try (exact zaY _)
  simp only [zaB, zaF, zap, zaD, zaG, zax, zay, zaw, zaJ, zaK, zaA, zaI]
  (refine fs_frz 2 ⟨[int 1, int 0, st [], int 0, int 0, int 0], 6⟩ (by simp only [zaW, lookR, zaa, if_true, if_false, ↓reduceIte]) (by first | exact Ints_isG _ | exact Bools_isG _ | exact Cs_isG _ | (simp [Cell.isG]; done)) ?_; simp only [frzTm, SV.frz, SV.frzL, Cell.frz, frzHp, frzO, Ints_frz, Bools_frz, zam, zao, zaa, if_true, if_false, ↓reduceIte])
  repeat' (first
 | (refine fs_w ?h1 (svw_of ?h2); (case h1 => repeat' (first | exact trivial | exact rfl | exact zaC rfl | apply zaq)); (case h2 => repeat' (first | ((with_reducible refine (?_ : CW _ _)); first | exact cw_gnil | exact cw_rfl _ | exact cw_niln _ _ | exact cw_cap _ _ _ _) | exact trivial | (show _ ∧ SWL _ _; apply zaq) | (show _ ∧ CWL _ _; apply zaq) | show CW _ _)))
 | fail)
end Go.Proofs.Ytnahpejlhfeleac
-- NEWGO
-- PRUNE: cl_lendx cl_use
-- ISG: Cs_isG
-- FLAT: Cs_flat
namespace Go.Proofs.Ytnahpejlhfeleac
set_option linter.unusedVariables false
set_option linter.unusedSimpArgs false
open Go.Proofs.Ytnahpejlhfeleac.Sh
set_option maxRecDepth 20000
structure Tk where
  i : Int
  p : Int
  g : Int
  u : Int
abbrev tkc (x : Tk) : List Cell := [int x.i, int x.p, int x.g, int x.u]
abbrev ztk : Tk := ⟨0, 0, 0, 0⟩
instance : Rec Tk := ⟨tkc, 4, ztk, fun _ => rfl, fun x c h => by
  simp only [tkc, List.mem_cons, zan, or_false] at h
  rcases h with rfl | rfl | rfl | rfl <;> rfl⟩
abbrev gT (T : List Tk) (i : Nat) : Tk := T.getD i ztk
theorem tk_td (l : List Tk) (i : Nat) (h : i < l.length) : zbe 4 (zbg (i * 4) (Cs l)) = tkc (gT l i) := Cs_td l i h
theorem tk_len (l : List Tk) : (Cs l).length = l.length * 4 := Cs_len l
theorem tk_f (l : List Tk) (i o : Nat) (d : Cell) (h : i < l.length) (ho : o < 4) : (Cs l).getD (i * 4 + o) d = (tkc (gT l i)).getD o d := Cs_fld l i o d h ho
abbrev hyc (l : List Nd) (kl : Option Nat) (n : Int) (T : List Tk) (kt : Option Nat) (h : Int) : List Cell := [.gsl (Cs l) 0 l.length kl, int n, .gsl (Cs T) 0 T.length kt, int h]
abbrev hyV (l : List Nd) (kl : Option Nat) (n : Int) (T : List Tk) (kt : Option Nat) (h : Int) : SV := .agg (hyc l kl n T kt h)
set_option maxHeartbeats 4000000 in
theorem tk_bs (g : FuncId) (xs : List (Tk)) (id : Int) (hg : ∀ x ∈ xs, FnSpec Try.prog g [.agg (Rec.cs x), i1 id] [] (i1 (cmpv (Tk.i x) id)) []) (cap : Option Nat)
    (hl : xs.length ≤ 4611686018427387904) : FnSpec Try.prog 34 [gr xs cap, i1 id, .one (.fn g [])] [] (.tup [i1 (bsV Tk.i xs id), b1 (bsF Tk.i xs id)]) [] := by
  have hil : (Cs xs).length = xs.length * 4 := Cs_len xs
  refine fnspec_of mixed TT_ok TT_cl ⟨fun _ => false, fun _ => [], 0, fun _ => false, fun _ => false⟩ Try.func34 rfl (by kernel_rfl) rfl 49 rfl [.tmp 6, .tmp 7] rfl ?_
  simp only [go_sem, zaa, zae, zaf, zag, zah, zad, ↓reduceIte, reduceCtorEq, zab, zac, zai, zaj, zak]
  repeat' (first
 | (intros; (try simp only [zat, zaE, zav, zau, zar, zas, decide_eq_true_eq, decide_eq_false_iff_not] at *); omega))
  refine w_loop (ι := Nat × Nat) (fun s => ⟨[(0, gr xs cap), (1, i1 id), (2, .one (.fn g [])), (8, i1 xs.length), (9, i1 s.1), (10, i1 s.2)], [], 0⟩) (fun s => s.1 ≤ s.2 ∧ s.2 ≤ xs.length ∧ bsG (fun i => Tk.i (xs.getD i Rec.z)) id (s.2 - s.1) s.1 s.2 = bsV Tk.i xs id) (fun s => s.2 - s.1) (0, xs.length) ?_ ⟨zaZ _, zaY _, rfl⟩ ?_
  · (refine imp_ren _ _ _ [] (by simp) (by simp) (by simp) (zaC rfl) ?_ rfl (by simp only [zal, zan, false_implies, implies_true, and_true, zaW, lookR, zaa, if_true, if_false, ↓reduceIte] <;> (repeat' apply zaq) <;> (first | rfl | trivial)) (by simp only [zal, zan, false_implies, implies_true, and_true, true_and, flat_cons, flat_nil, flat_ints, flat_bools, flat_app, zaV, and_self, eq_self_iff_true, zap]); simp only [zam, zao, zal, zan, false_implies, implies_true, and_true, lk, slot, zaL, zaz, toN, zaa, if_true, if_false, ↓reduceIte, reduceCtorEq])
    all_goals ((repeat' apply zaq) <;> (first | rfl | trivial))
  rintro ⟨i, j⟩ ⟨hij, hjl, hb⟩
  simp only at hij hjl hb ⊢
  by_cases hlt : i < j
  · have hlt' : (i : Int) < (j : Int) := by omega
    have hsh : ((i : Int) + j).fdiv (2 ^ min (Int.toNat 1) 64) = (((i + j) / 2 : Nat) : Int) := by
      have e : (2 : Int) ^ min (Int.toNat 1) 64 = 2 := rfl
      rw [e, Int.fdiv_eq_ediv_of_nonneg _ (by omega)]; omega
    obtain ⟨h, hh⟩ : ∃ h, h = (i + j) / 2 := ⟨_, rfl⟩
    rw [← hh] at hsh
    have hhl : h < xs.length := by omega
    have hat : zbe 4 (zbg (h * 4) (Cs xs)) = Rec.cs (xs.getD h Rec.z) := Cs_td xs h hhl
    have hhi : (h : Int) < (xs.length : Int) := by omega
    have hb' := bsG_fuel (fun i => Tk.i (xs.getD i Rec.z)) id (j - i) (j - i - 1 + 1) i j (zaY _) (by omega)
    rw [hb, bsG, if_pos hlt, ← hh] at hb'
    have hix := hg _ (getD_mem xs h Rec.z hhl)
    obtain ⟨b, hbb⟩ : ∃ b, xs.getD h Rec.z = b := ⟨_, rfl⟩
    rw [hbb] at hat hix hb'
    have hcs : Rec.cs b = [int b.i, int b.p, int b.g, int b.u] := rfl
    rw [hcs] at hat hix
    have hcl := cmpv_lt (Tk.i b) id
    by_cases hc : Tk.i b < id
    · rw [if_pos hc] at hb'
      rw [decide_eq_true hc] at hcl
      generalize cmpv (Tk.i b) id = cv at *
      simp only [go_sem, zaa, zae, zaf, zag, zah, zad, ↓reduceIte, reduceCtorEq, zab, zac, zai, zaj, zak, decide_eq_true hlt', hsh, hat]
      repeat' (first
 | with_reducible refine zaq ?_ ?_
 | (apply cl_plain
    case hs => rfl
    case ha => (simp only [zam, zao, prepV, prepC, idx, hpL', lookR, zaa, if_true, if_false]; rfl)
    case h => (first | exact hix ..))
 | ((first | refine s1_id ?_ | refine swp_id ?_ | refine sops_id ?_ | refine s2_id ?_); simp only [decide_eq_true hlt', hsh, hat, hcl, go_sem, zaa, zae, zaf, zag, zah, zad, ↓reduceIte, reduceCtorEq, zab, zac, zai, zaj, zak, zaL, zaM, zaz, zaN, renO, bk, back, outUpsFrom, Ints_ren])
 | (intros; omega)
 | (intros; (try simp only [zat, zaE, zav, zau, zar, zas, decide_eq_true_eq, decide_eq_false_iff_not] at *); omega))
      refine le_mk (h + 1, j) ?_ ⟨by show h + 1 ≤ j; omega, hjl, by show bsG _ id (j - (h + 1)) (h + 1) j = bsV Tk.i xs id; rw [hb']; exact bsG_fuel _ id _ _ _ _ (zaY _) (by omega)⟩ (by show j - (h + 1) < j - i; omega)
      (refine imp_ren _ _ _ [] (by simp) (by simp) (by simp) (zaC rfl) ?_ rfl (by simp only [zal, zan, false_implies, implies_true, and_true, zaW, lookR, zaa, if_true, if_false, ↓reduceIte] <;> (repeat' apply zaq) <;> (first | rfl | trivial)) (by simp only [zal, zan, false_implies, implies_true, and_true, true_and, flat_cons, flat_nil, flat_ints, flat_bools, flat_app, zaV, and_self, eq_self_iff_true, zap]); simp only [zam, zao, zal, zan, false_implies, implies_true, and_true, lk, slot, zaL, zaz, toN, zaa, if_true, if_false, ↓reduceIte, reduceCtorEq])
      all_goals ((repeat' apply zaq) <;> (first | rfl | trivial | (simp only [zaH]; done) | (simp only [zaH]; rfl) | (simp only [zaH]; trivial)))
    · rw [if_neg hc] at hb'
      rw [decide_eq_false hc] at hcl
      generalize cmpv (Tk.i b) id = cv at *
      simp only [go_sem, zaa, zae, zaf, zag, zah, zad, ↓reduceIte, reduceCtorEq, zab, zac, zai, zaj, zak, decide_eq_true hlt', hsh, hat]
      repeat' (first
 | with_reducible refine zaq ?_ ?_
 | (apply cl_plain
    case hs => rfl
    case ha => (simp only [zam, zao, prepV, prepC, idx, hpL', lookR, zaa, if_true, if_false]; rfl)
    case h => (first | exact hix ..))
 | ((first | refine s1_id ?_ | refine swp_id ?_ | refine sops_id ?_ | refine s2_id ?_); simp only [decide_eq_true hlt', hsh, hat, hcl, go_sem, zaa, zae, zaf, zag, zah, zad, ↓reduceIte, reduceCtorEq, zab, zac, zai, zaj, zak, zaL, zaM, zaz, zaN, renO, bk, back, outUpsFrom, Ints_ren])
 | (intros; omega)
 | (intros; (try simp only [zat, zaE, zav, zau, zar, zas, decide_eq_true_eq, decide_eq_false_iff_not] at *); omega))
      refine le_mk (i, h) ?_ ⟨by show i ≤ h; omega, by show h ≤ xs.length; omega, by show bsG _ id (h - i) i h = bsV Tk.i xs id; rw [hb']; exact bsG_fuel _ id _ _ _ _ (zaY _) (by omega)⟩ (by show h - i < j - i; omega)
      (refine imp_ren _ _ _ [] (by simp) (by simp) (by simp) (zaC rfl) ?_ rfl (by simp only [zal, zan, false_implies, implies_true, and_true, zaW, lookR, zaa, if_true, if_false, ↓reduceIte] <;> (repeat' apply zaq) <;> (first | rfl | trivial)) (by simp only [zal, zan, false_implies, implies_true, and_true, true_and, flat_cons, flat_nil, flat_ints, flat_bools, flat_app, zaV, and_self, eq_self_iff_true, zap]); simp only [zam, zao, zal, zan, false_implies, implies_true, and_true, lk, slot, zaL, zaz, toN, zaa, if_true, if_false, ↓reduceIte, reduceCtorEq])
      all_goals ((repeat' apply zaq) <;> (first | rfl | trivial))
  · have hlt' : ¬ (i : Int) < (j : Int) := by omega
    have hi : i = bsV Tk.i xs id := by
      have e : j - i = 0 := by omega
      rw [e] at hb
      exact hb
    subst hi
    unfold bsF
    by_cases hin : bsV Tk.i xs id < xs.length
    · have hin' : ((bsV Tk.i xs id : Nat) : Int) < (xs.length : Int) := by omega
      have hat : zbe 4 (zbg (bsV Tk.i xs id * 4) (Cs xs)) = Rec.cs (xs.getD (bsV Tk.i xs id) Rec.z) := Cs_td xs _ hin
      have hix := hg _ (getD_mem xs (bsV Tk.i xs id) Rec.z hin)
      rw [decide_eq_true hin, zaP]
      obtain ⟨b, hbb⟩ : ∃ b, xs.getD (bsV Tk.i xs id) Rec.z = b := ⟨_, rfl⟩
      rw [hbb] at hat hix ⊢
      have hcs : Rec.cs b = [int b.i, int b.p, int b.g, int b.u] := rfl
      rw [hcs] at hat hix
      have hce := cmpv_eq (Tk.i b) id
      generalize cmpv (Tk.i b) id = cv at *
      generalize bsV Tk.i xs id = v at *
      simp only [go_sem, zaa, zae, zaf, zag, zah, zad, ↓reduceIte, reduceCtorEq, zab, zac, zai, zaj, zak, decide_eq_false hlt', decide_eq_true hin', hat]
      repeat' (first
 | with_reducible refine zaq ?_ ?_
 | (apply cg_tp
    case hl => rfl
    case ha => (simp only [zam, zao, prepV, prepC, idx, hpL', lookR, zaa, if_true, if_false]; rfl)
    case hs => rfl
    case h => (first | exact hix ..))
 | ((first | refine s1_id ?_ | refine swp_id ?_ | refine sops_id ?_ | refine s2_id ?_); simp only [decide_eq_false hlt', decide_eq_true hin', hat, hce, go_sem, zaa, zae, zaf, zag, zah, zad, ↓reduceIte, reduceCtorEq, zab, zac, zai, zaj, zak, zaL, zaM, zaz, zaN, renO, bk, back, outUpsFrom, Ints_ren])
 | (intros; omega)
 | exact fs_nil trivial rfl
 | fail)
    · have hin' : ¬ ((bsV Tk.i xs id : Nat) : Int) < (xs.length : Int) := by omega
      rw [decide_eq_false hin, zaO]
      generalize bsV Tk.i xs id = v at *
      simp only [go_sem, zaa, zae, zaf, zag, zah, zad, ↓reduceIte, reduceCtorEq, zab, zac, zai, zaj, zak, decide_eq_false hlt', decide_eq_false hin']
      repeat' (first
 | exact fs_nil trivial rfl
 | fail)
set_option maxHeartbeats 4000000 in
theorem tk_ix (g : FuncId) (c0 : List Cell) (q : Tk → Bool) (xs : List (Tk)) (hg : ∀ x ∈ xs, FnSpec Try.prog g [.agg (Rec.cs x), .one (.gptr c0 0)] [] (b1 (q x)) []) (cap : Option Nat)
    (hs : xs.length ≤ 9223372036854775807) : FnSpec Try.prog 45 [gr xs cap, .one (.fn g [.gptr c0 0])] [] (i1 (ixR q xs 0)) [] := by
  refine fnspec_of mixed TT_ok TT_cl ⟨fun _ => false, fun _ => [], 0, fun _ => false, fun _ => false⟩ Try.func45 rfl (by kernel_rfl) rfl 19 rfl [.tmp 4] rfl ?_
  simp only [go_sem, zaa, zae, zaf, zag, zah, zad, ↓reduceIte, reduceCtorEq, zab, zac, zai, zaj, zak]
  repeat' (first
 | (intros; (try simp only [zat, zaE, zav, zau, zar, zas, decide_eq_true_eq, decide_eq_false_iff_not] at *); omega))
  refine w_loop (ι := Nat) (fun i => ⟨[(0, gr xs cap), (1, .one (.fn g [.gptr c0 0])), (7, i1 xs.length), (8, i1 i)], [], 0⟩) (fun i => i ≤ xs.length ∧ ixR q xs 0 = ixR q (xs.drop i) i) (fun i => xs.length - i) 0 ?_ ⟨zaZ _, rfl⟩ ?_
  · (refine imp_sub _ _ _ [] (by simp) (by simp) (by simp) (zaZ _) ?_ rfl (by simp); simp only [zal, zan, false_implies, implies_true, and_true, lk, slot, zaL, zaz, zaa, if_true, if_false, ↓reduceIte, reduceCtorEq])
    all_goals ((repeat' apply zaq) <;> (first | rfl | trivial))
  rintro i ⟨hi, he⟩
  simp only at hi he ⊢
  rcases zbc i xs.length with hlt | hge
  case inr =>
    have hlt' : ¬ (i : Int) < (xs.length : Int) := by omega
    rw [zbd hge] at he
    rw [he]
    simp only [go_sem, zaa, zae, zaf, zag, zah, zad, ↓reduceIte, reduceCtorEq, zab, zac, zai, zaj, zak, decide_eq_false hlt', ixR]
    repeat' (first
 | exact fs_nil trivial rfl
 | fail)
  have hlt' : (i : Int) < (xs.length : Int) := by omega
  have hcl : (Cs xs).length = xs.length * 4 := Cs_len xs
  have hat : zbe 4 (zbg (i * 4) (Cs xs)) = Rec.cs (xs.getD i Rec.z) := Cs_td xs i hlt
  have hm := getD_mem xs i Rec.z hlt
  have hc := hg _ hm
  rw [drop_getD xs i Rec.z hlt, ixR] at he
  have hrl : (Rec.cs (xs.getD i Rec.z)).length = 4 := Rec.len _
  have hrg := Rec.g (xs.getD i Rec.z)
  generalize xs.getD i Rec.z = b at *
  have hcs : Rec.cs b = [int b.i, int b.p, int b.g, int b.u] := rfl
  rw [hcs] at hat hc
  clear hrl hrg
  cases hqb : q b with
  | true =>
    rw [hqb] at hc he
    simp only [if_true] at he
    rw [he]
    simp only [go_sem, zaa, zae, zaf, zag, zah, zad, ↓reduceIte, reduceCtorEq, zab, zac, zai, zaj, zak, decide_eq_true hlt', hat]
    repeat' (first
 | with_reducible refine zaq ?_ ?_
 | (apply cl_plain
    case hs => rfl
    case ha => (simp only [zam, zao, prepV, prepC, idx, hpL', lookR, zaa, if_true, if_false]; rfl)
    case h => (first | exact hc ..))
 | ((first | refine s1_id ?_ | refine swp_id ?_ | refine sops_id ?_ | refine s2_id ?_); simp only [decide_eq_true hlt', hat, go_sem, zaa, zae, zaf, zag, zah, zad, ↓reduceIte, reduceCtorEq, zab, zac, zai, zaj, zak, zaL, zaM, zaz, zaN, renO, bk, back, outUpsFrom, Ints_ren])
 | (intros; omega)
 | exact fs_nil trivial rfl
 | fail)
  | false =>
    rw [hqb] at hc he
    simp only [Bool.false_eq_true, if_false] at he
    simp only [go_sem, zaa, zae, zaf, zag, zah, zad, ↓reduceIte, reduceCtorEq, zab, zac, zai, zaj, zak, decide_eq_true hlt', hat]
    repeat' (first
 | with_reducible refine zaq ?_ ?_
 | (apply cl_plain
    case hs => rfl
    case ha => (simp only [zam, zao, prepV, prepC, idx, hpL', lookR, zaa, if_true, if_false]; rfl)
    case h => (first | exact hc ..))
 | ((first | refine s1_id ?_ | refine swp_id ?_ | refine sops_id ?_ | refine s2_id ?_); simp only [decide_eq_true hlt', hat, go_sem, zaa, zae, zaf, zag, zah, zad, ↓reduceIte, reduceCtorEq, zab, zac, zai, zaj, zak, zaL, zaM, zaz, zaN, renO, bk, back, outUpsFrom, Ints_ren])
 | (intros; omega)
 | (intros; (try simp only [zat, zaE, zav, zau, zar, zas, decide_eq_true_eq, decide_eq_false_iff_not] at *); omega))
    refine le_mk (i + 1) ?_ ⟨by omega, he⟩ (by omega)
    (refine imp_sub _ _ _ [] (by simp) (by simp) (by simp) (zaZ _) ?_ rfl (by simp); simp only [zal, zan, false_implies, implies_true, and_true, lk, slot, zaL, zaz, zaa, if_true, if_false, ↓reduceIte, reduceCtorEq])
    all_goals ((repeat' apply zaq) <;> (first | rfl | trivial | (simp only [zaH]; done) | (simp only [zaH]; rfl) | (simp only [zaH]; trivial)))
theorem tk_ct (g : FuncId) (c0 : List Cell) (q : Tk → Bool) (xs : List (Tk)) (hg : ∀ x ∈ xs, FnSpec Try.prog g [.agg (Rec.cs x), .one (.gptr c0 0)] [] (b1 (q x)) []) (cap : Option Nat)
    (hs : xs.length ≤ 9223372036854775807) : FnSpec Try.prog 27 [gr xs cap, .one (.fn g [.gptr c0 0])] [] (b1 (xs.any q)) [] := by
  have h1 := tk_ix g c0 q xs hg cap hs
  rw [← ixR_any q xs 0]
  refine fnspec_of mixed TT_ok TT_cl ⟨fun _ => false, fun _ => [], 0, fun _ => false, fun _ => false⟩ Try.func27 rfl (by kernel_rfl) rfl 9 rfl [.tmp 4] rfl ?_
  simp only [go_sem, zaa, zae, zaf, zag, zah, zad, ↓reduceIte, reduceCtorEq, zab, zac, zai, zaj, zak]
  repeat' (first
 | (apply cl_plain
    case hs => rfl
    case ha => (simp only [zam, zao, prepV, prepC, idx, hpL', lookR, zaa, if_true, if_false]; rfl)
    case h => (first | exact h1 ..))
 | ((first | refine s1_id ?_ | refine swp_id ?_ | refine sops_id ?_ | refine s2_id ?_); simp only [go_sem, zaa, zae, zaf, zag, zah, zad, ↓reduceIte, reduceCtorEq, zab, zac, zai, zaj, zak, zaL, zaM, zaz, zaN, renO, bk, back, outUpsFrom, Ints_ren])
 | exact fs_nil trivial rfl
 | fail)
theorem mix_spec (x : Tk) (id : Int) : FnSpec Try.prog 35 [.agg (Rec.cs x), i1 id] [] (i1 (cmpv (Tk.i x) id)) [] := by
  show FnSpec Try.prog 35 [.agg (tkc x), i1 id] [] (i1 (cmpv (Tk.i x) id)) []
  obtain ⟨i, p, g, u⟩ := x
  simp only [tkc]
  have h1 := cmp_spec i id
  refine fnspec_of mixed TT_ok TT_cl ⟨fun _ => false, fun _ => [], 0, fun _ => false, fun _ => false⟩ Try.func35 rfl (by kernel_rfl) rfl 9 rfl [.tmp 4] rfl ?_
  simp only [go_sem, zaa, zae, zaf, zag, zah, zad, ↓reduceIte, reduceCtorEq, zab, zac, zai, zaj, zak]
  repeat' (first
 | (apply cl_plain
    case hs => rfl
    case ha => (simp only [zam, zao, prepV, prepC, idx, hpL', lookR, zaa, if_true, if_false]; rfl)
    case h => (first | exact h1 ..))
 | ((first | refine s1_id ?_ | refine swp_id ?_ | refine sops_id ?_ | refine s2_id ?_); simp only [zaB, zaF, zap, zaD, zaG, zax, zay, zaw, zaJ, zaK, zaA, zaI, go_sem, zaa, zae, zaf, zag, zah, zad, ↓reduceIte, reduceCtorEq, zab, zac, zai, zaj, zak, zaL, zaM, zaz, zaN, renO, bk, back, outUpsFrom, Ints_ren])
 | exact fs_nil trivial rfl
 | fail)
theorem mindex_spec (l : List Nd) (kl : Option Nat) (n : Int) (T : List Tk) (kt : Option Nat) (h id : Int) (hT : T.length ≤ 4611686018427387904) : FnSpec Try.prog 18 [hyV l kl n T kt h, i1 id] [] (.tup [i1 (bsV Tk.i T id), b1 (bsF Tk.i T id)]) [] := by
  have h1 := tk_bs 35 T id (fun x _ => mix_spec x id) kt hT
  refine fnspec_of mixed TT_ok TT_cl ⟨fun _ => false, fun _ => [], 0, fun _ => false, fun _ => false⟩ Try.func18 rfl (by kernel_rfl) rfl 12 rfl [.tmp 4, .tmp 5] rfl ?_
  simp only [go_sem, zaa, zae, zaf, zag, zah, zad, ↓reduceIte, reduceCtorEq, zab, zac, zai, zaj, zak]
  repeat' (first
 | (apply cl_plain
    case hs => rfl
    case ha => (simp only [zam, zao, prepV, prepC, idx, hpL', lookR, zaa, if_true, if_false]; rfl)
    case h => (first | exact h1 ..))
 | ((first | refine s1_id ?_ | refine swp_id ?_ | refine sops_id ?_ | refine s2_id ?_); simp only [zaB, zaF, zap, zaD, zaG, zax, zay, zaw, zaJ, zaK, zaA, zaI, go_sem, zaa, zae, zaf, zag, zah, zad, ↓reduceIte, reduceCtorEq, zab, zac, zai, zaj, zak, zaL, zaM, zaz, zaN, renO, bk, back, outUpsFrom, Ints_ren])
 | exact fs_nil trivial rfl
 | fail)
theorem mpl1_spec (x : Nd) (id : Int) : FnSpec Try.prog 44 [.agg (Rec.cs x), i1 id] [] (i1 (cmpv (Nd.i x) id)) [] := by
  show FnSpec Try.prog 44 [.agg (ndc x), i1 id] [] (i1 (cmpv (Nd.i x) id)) []
  obtain ⟨xi, xp, xn, xc, xk, xo⟩ := x
  simp only [ndc]
  have h1 := cmp_spec xi id
  refine fnspec_of mixed TT_ok TT_cl ⟨fun _ => false, fun _ => [], 0, fun _ => false, fun _ => false⟩ Try.func44 rfl (by kernel_rfl) rfl 9 rfl [.tmp 4] rfl ?_
  simp only [go_sem, zaa, zae, zaf, zag, zah, zad, ↓reduceIte, reduceCtorEq, zab, zac, zai, zaj, zak]
  repeat' (first
 | (apply cl_plain
    case hs => rfl
    case ha => (simp only [zam, zao, prepV, prepC, idx, hpL', lookR, zaa, if_true, if_false]; rfl)
    case h => (first | exact h1 ..))
 | ((first | refine s1_id ?_ | refine swp_id ?_ | refine sops_id ?_ | refine s2_id ?_); simp only [zaB, zaF, zap, zaD, zaG, zax, zay, zaw, zaJ, zaK, zaA, zaI, go_sem, zaa, zae, zaf, zag, zah, zad, ↓reduceIte, reduceCtorEq, zab, zac, zai, zaj, zak, zaL, zaM, zaz, zaN, renO, bk, back, outUpsFrom, Ints_ren])
 | exact fs_nil trivial rfl
 | fail)
def plB (l : List Nd) (x : Tk) : Bool := bsF Nd.i l x.g && (decide (0 ≤ x.u) && decide (x.u ≤ 1048576))
theorem placed_spec (l : List Nd) (kl : Option Nat) (n : Int) (T : List Tk) (kt : Option Nat) (h : Int) (x : Tk) (hl : l.length ≤ 1000000) : FnSpec Try.prog 25 [hyV l kl n T kt h, .agg (tkc x)] [] (b1 (plB l x)) [] := by
  have h1 := nd_bs 44 l x.g (fun x' _ => mpl1_spec x' x.g) kl (by omega)
  unfold plB
  obtain ⟨i, p, g, u⟩ := x
  simp only [tkc] at h1 ⊢
  cases hb : bsF Nd.i l g with
  | false =>
    rw [hb] at h1
    refine fnspec_of mixed TT_ok TT_cl ⟨fun _ => false, fun _ => [], 0, fun _ => false, fun _ => false⟩ Try.func25 rfl (by kernel_rfl) rfl 27 rfl [.tmp 4] rfl ?_
    simp only [go_sem, zaa, zae, zaf, zag, zah, zad, ↓reduceIte, reduceCtorEq, zab, zac, zai, zaj, zak]
    repeat' (first
 | (apply cl_plain
    case hs => rfl
    case ha => (simp only [zam, zao, prepV, prepC, idx, hpL', lookR, zaa, if_true, if_false]; rfl)
    case h => (first | exact h1 ..))
 | ((first | refine s1_id ?_ | refine swp_id ?_ | refine sops_id ?_ | refine s2_id ?_); simp only [zaB, zaF, zap, zaD, zaG, zax, zay, zaw, zaJ, zaK, zaA, zaI, go_sem, zaa, zae, zaf, zag, zah, zad, ↓reduceIte, reduceCtorEq, zab, zac, zai, zaj, zak, zaL, zaM, zaz, zaN, renO, bk, back, outUpsFrom, Ints_ren])
 | exact fs_nil trivial rfl
 | fail)
  | true =>
    rw [hb] at h1
    by_cases c : 0 ≤ u
    · rw [decide_eq_true c]
      refine fnspec_of mixed TT_ok TT_cl ⟨fun _ => false, fun _ => [], 0, fun _ => false, fun _ => false⟩ Try.func25 rfl (by kernel_rfl) rfl 27 rfl [.tmp 4] rfl ?_
      simp only [go_sem, zaa, zae, zaf, zag, zah, zad, ↓reduceIte, reduceCtorEq, zab, zac, zai, zaj, zak, decide_eq_true c]
      repeat' (first
 | (apply cl_plain
    case hs => rfl
    case ha => (simp only [zam, zao, prepV, prepC, idx, hpL', lookR, zaa, if_true, if_false]; rfl)
    case h => (first | exact h1 ..))
 | ((first | refine s1_id ?_ | refine swp_id ?_ | refine sops_id ?_ | refine s2_id ?_); simp only [decide_eq_true c, ge_iff_le, zaB, zaF, zap, zaD, zaG, zax, zay, zaw, zaJ, zaK, zaA, zaI, go_sem, zaa, zae, zaf, zag, zah, zad, ↓reduceIte, reduceCtorEq, zab, zac, zai, zaj, zak, zaL, zaM, zaz, zaN, renO, bk, back, outUpsFrom, Ints_ren])
 | exact fs_nil trivial rfl
 | fail)
    · rw [decide_eq_false c]
      refine fnspec_of mixed TT_ok TT_cl ⟨fun _ => false, fun _ => [], 0, fun _ => false, fun _ => false⟩ Try.func25 rfl (by kernel_rfl) rfl 27 rfl [.tmp 4] rfl ?_
      simp only [go_sem, zaa, zae, zaf, zag, zah, zad, ↓reduceIte, reduceCtorEq, zab, zac, zai, zaj, zak, decide_eq_false c]
      repeat' (first
 | (apply cl_plain
    case hs => rfl
    case ha => (simp only [zam, zao, prepV, prepC, idx, hpL', lookR, zaa, if_true, if_false]; rfl)
    case h => (first | exact h1 ..))
 | ((first | refine s1_id ?_ | refine swp_id ?_ | refine sops_id ?_ | refine s2_id ?_); simp only [decide_eq_false c, ge_iff_le, zaB, zaF, zap, zaD, zaG, zax, zay, zaw, zaJ, zaK, zaA, zaI, go_sem, zaa, zae, zaf, zag, zah, zad, ↓reduceIte, reduceCtorEq, zab, zac, zai, zaj, zak, zaL, zaM, zaz, zaN, renO, bk, back, outUpsFrom, Ints_ren])
 | exact fs_nil trivial rfl
 | fail)
def ldB (T : List Tk) (x : Tk) : Bool := bsF Tk.i T x.p && (decide ((gT T (bsV Tk.i T x.p)).p = x.p) && decide ((gT T (bsV Tk.i T x.p)).u = x.u))
theorem led_spec (l : List Nd) (kl : Option Nat) (n : Int) (T : List Tk) (kt : Option Nat) (h : Int) (x : Tk) (hT : T.length ≤ 1000000) : FnSpec Try.prog 26 [hyV l kl n T kt h, .agg (tkc x)] [] (b1 (ldB T x)) [] := by
  have h1 := mindex_spec l kl n T kt h x.p (by omega)
  have hcl := tk_len T
  unfold ldB
  obtain ⟨i, p, g, u⟩ := x
  simp only [tkc] at h1 ⊢
  cases hb : bsF Tk.i T p with
  | false =>
    rw [hb] at h1
    rw [zaO]
    refine fnspec_of mixed TT_ok TT_cl ⟨fun _ => false, fun _ => [], 0, fun _ => false, fun _ => false⟩ Try.func26 rfl (by kernel_rfl) rfl 37 rfl [.tmp 4] rfl ?_
    simp only [go_sem, zaa, zae, zaf, zag, zah, zad, ↓reduceIte, reduceCtorEq, zab, zac, zai, zaj, zak]
    repeat' (first
 | with_reducible refine zaq ?_ ?_
 | (unfold OKC; kernel_rfl)
 | (unfold EDG; kernel_rfl)
 | (apply cl_plain
    case hs => rfl
    case ha => (simp only [zam, zao, prepV, prepC, idx, hpL', lookR, zaa, if_true, if_false]; rfl)
    case h => (first | exact h1 ..))
 | ((first | refine s1_id ?_ | refine swp_id ?_ | refine sops_id ?_ | refine s2_id ?_); simp only [zaB, zaF, zap, zaD, zaG, zax, zay, zaw, zaJ, zaK, zaA, zaI, go_sem, zaa, zae, zaf, zag, zah, zad, ↓reduceIte, reduceCtorEq, zab, zac, zai, zaj, zak, zaL, zaM, zaz, zaN, renO, bk, back, outUpsFrom, Ints_ren])
 | exact fs_nil trivial rfl
 | fail)
  | true =>
    rw [hb] at h1
    rw [zaP]
    have hlt := (bsF_at Tk.i T p hb).1
    generalize bsV Tk.i T p = m at *
    have q1 := tk_f T m 1 (.sc (.int .i64 0)) hlt (by decide)
    have q1 : (Cs T).getD (m * 4 + 1) (.sc (.int .i64 0)) = int (gT T m).p := q1
    have q3 := tk_f T m 3 (.sc (.int .i64 0)) hlt (by decide)
    have q3 : (Cs T).getD (m * 4 + 3) (.sc (.int .i64 0)) = int (gT T m).u := q3
    generalize gT T m = y at *
    by_cases c : y.p = p
    · rw [decide_eq_true c, zaP]
      refine fnspec_of mixed TT_ok TT_cl ⟨fun _ => false, fun _ => [], 0, fun _ => false, fun _ => false⟩ Try.func26 rfl (by kernel_rfl) rfl 37 rfl [.tmp 4] rfl ?_
      simp only [go_sem, zaa, zae, zaf, zag, zah, zad, ↓reduceIte, reduceCtorEq, zab, zac, zai, zaj, zak, q1, q3, decide_eq_true c]
      repeat' (first
 | with_reducible refine zaq ?_ ?_
 | (unfold OKC; kernel_rfl)
 | (unfold EDG; kernel_rfl)
 | (apply cl_plain
    case hs => rfl
    case ha => (simp only [zam, zao, prepV, prepC, idx, hpL', lookR, zaa, if_true, if_false]; rfl)
    case h => (first | exact h1 ..))
 | ((first | refine s1_id ?_ | refine swp_id ?_ | refine sops_id ?_ | refine s2_id ?_); simp only [q1, q3, decide_eq_true c, zaB, zaF, zap, zaD, zaG, zax, zay, zaw, zaJ, zaK, zaA, zaI, go_sem, zaa, zae, zaf, zag, zah, zad, ↓reduceIte, reduceCtorEq, zab, zac, zai, zaj, zak, zaL, zaM, zaz, zaN, renO, bk, back, outUpsFrom, Ints_ren])
 | (intros; omega)
 | exact fs_nil trivial rfl
 | fail)
    · rw [decide_eq_false c, zaO]
      refine fnspec_of mixed TT_ok TT_cl ⟨fun _ => false, fun _ => [], 0, fun _ => false, fun _ => false⟩ Try.func26 rfl (by kernel_rfl) rfl 37 rfl [.tmp 4] rfl ?_
      simp only [go_sem, zaa, zae, zaf, zag, zah, zad, ↓reduceIte, reduceCtorEq, zab, zac, zai, zaj, zak, q1, q3, decide_eq_false c]
      repeat' (first
 | with_reducible refine zaq ?_ ?_
 | (unfold OKC; kernel_rfl)
 | (unfold EDG; kernel_rfl)
 | (apply cl_plain
    case hs => rfl
    case ha => (simp only [zam, zao, prepV, prepC, idx, hpL', lookR, zaa, if_true, if_false]; rfl)
    case h => (first | exact h1 ..))
 | ((first | refine s1_id ?_ | refine swp_id ?_ | refine sops_id ?_ | refine s2_id ?_); simp only [q1, q3, decide_eq_false c, zaB, zaF, zap, zaD, zaG, zax, zay, zaw, zaJ, zaK, zaA, zaI, go_sem, zaa, zae, zaf, zag, zah, zad, ↓reduceIte, reduceCtorEq, zab, zac, zai, zaj, zak, zaL, zaM, zaz, zaN, renO, bk, back, outUpsFrom, Ints_ren])
 | (intros; omega)
 | exact fs_nil trivial rfl
 | fail)
def stB (l : List Nd) (T : List Tk) (x : Tk) : Bool := !plB l x || !ldB T x
theorem mstrange_spec (l : List Nd) (n : Int) (T : List Tk) (h : Int) (x : Tk) (hl : l.length ≤ 1000000) (hT : T.length ≤ 1000000) : FnSpec Try.prog 24 [.agg (tkc x), .one (.gptr (hyc l none n T none h) 0)] [] (b1 (stB l T x)) [] := by
  have h1 := placed_spec l none n T none h x hl
  have h2 := led_spec l none n T none h x hT
  unfold stB
  generalize plB l x = b1' at *
  generalize ldB T x = b2' at *
  obtain ⟨i, p, g, u⟩ := x
  simp only [tkc] at h1 h2 ⊢
  cases b1' with
  | false =>
    refine fnspec_of mixed TT_ok TT_cl ⟨fun _ => false, fun _ => [], 0, fun _ => false, fun _ => false⟩ Try.func24 rfl (by kernel_rfl) rfl 14 rfl [.tmp 3] rfl ?_
    simp only [go_sem, zaa, zae, zaf, zag, zah, zad, ↓reduceIte, reduceCtorEq, zab, zac, zai, zaj, zak]
    repeat' (first
 | (apply cl_plain
    case hs => rfl
    case ha => (simp only [zam, zao, prepV, prepC, idx, hpL', lookR, zaa, if_true, if_false]; rfl)
    case h => (first | exact h1 .. | exact h2 ..))
 | ((first | refine s1_id ?_ | refine swp_id ?_ | refine sops_id ?_ | refine s2_id ?_); simp only [zaB, zaF, zap, zaD, zaG, zax, zay, zaw, zaJ, zaK, zaA, zaI, go_sem, zaa, zae, zaf, zag, zah, zad, ↓reduceIte, reduceCtorEq, zab, zac, zai, zaj, zak, zaL, zaM, zaz, zaN, renO, bk, back, outUpsFrom, Ints_ren])
 | exact fs_nil trivial rfl
 | fail)
  | true =>
    refine fnspec_of mixed TT_ok TT_cl ⟨fun _ => false, fun _ => [], 0, fun _ => false, fun _ => false⟩ Try.func24 rfl (by kernel_rfl) rfl 14 rfl [.tmp 3] rfl ?_
    simp only [go_sem, zaa, zae, zaf, zag, zah, zad, ↓reduceIte, reduceCtorEq, zab, zac, zai, zaj, zak]
    repeat' (first
 | (apply cg_tp
    case hl => rfl
    case ha => (simp only [zam, zao, prepV, prepC, idx, hpL', lookR, zaa, if_true, if_false]; rfl)
    case hs => rfl
    case h => (first | exact h1 .. | exact h2 ..))
 | (apply cl_plain
    case hs => rfl
    case ha => (simp only [zam, zao, prepV, prepC, idx, hpL', lookR, zaa, if_true, if_false]; rfl)
    case h => (first | exact h1 .. | exact h2 ..))
 | ((first | refine s1_id ?_ | refine swp_id ?_ | refine sops_id ?_ | refine s2_id ?_); simp only [zaB, zaF, zap, zaD, zaG, zax, zay, zaw, zaJ, zaK, zaA, zaI, go_sem, zaa, zae, zaf, zag, zah, zad, ↓reduceIte, reduceCtorEq, zab, zac, zai, zaj, zak, zaL, zaM, zaz, zaN, renO, bk, back, outUpsFrom, Ints_ren])
 | exact fs_nil trivial rfl
 | fail)
def tasF : List Tk → Int → Bool
  | [], _ => true
  | x :: r, last => decide (last < x.i) && tasF r x.i
def lstI (T : List Tk) : Int := T.foldl (fun _ x => x.i) 0
def hyM (l : List Nd) (n : Int) (T : List Tk) (h : Int) : Bool := chkT l n && (decide (T.length ≤ 128) && (tasF T 0 && (decide (lstI T < h) && (decide (h ≤ 2147483648) && !T.any (stB l T)))))
set_option maxHeartbeats 8000000 in
theorem mcheck_spec (l : List Nd) (n : Int) (T : List Tk) (h : Int) (hl : l.length ≤ 1000000) (hT : T.length ≤ 9223372036854775806) (hnm : NmR l) (hct : CtR l) : FnSpec Try.prog 12 [hyV l none n T none h] [] (b1 (hyM l n T h)) [] := by
  have h1 := tchk_spec l n hl hnm hct
  have hcl := tk_len T
  unfold hyM
  cases hc : chkT l n with
  | false =>
    rw [hc] at h1
    rw [zaO]
    refine fnspec_of mixed TT_ok TT_cl ⟨fun _ => false, fun _ => [], 0, fun _ => false, fun _ => false⟩ Try.func12 rfl (by kernel_rfl) rfl 54 rfl [.tmp 2] rfl ?_
    simp only [go_sem, zaa, zae, zaf, zag, zah, zad, ↓reduceIte, reduceCtorEq, zab, zac, zai, zaj, zak]
    repeat' (first
 | (apply cl_plain
    case hs => rfl
    case ha => (simp only [zam, zao, prepV, prepC, idx, hpL', lookR, zaa, if_true, if_false]; rfl)
    case h => (first | exact h1 ..))
 | ((first | refine s1_id ?_ | refine swp_id ?_ | refine sops_id ?_ | refine s2_id ?_); simp only [zaB, zaF, zap, zaD, zaG, zax, zay, zaw, zaJ, zaK, zaA, zaI, go_sem, zaa, zae, zaf, zag, zah, zad, ↓reduceIte, reduceCtorEq, zab, zac, zai, zaj, zak, zaL, zaM, zaz, zaN, renO, bk, back, outUpsFrom, Ints_ren])
 | exact fs_nil trivial rfl
 | fail)
  | true =>
  rw [hc] at h1
  rw [zaP]
  by_cases c128 : 128 < (T.length : Int)
  · rw [decide_eq_false (by omega : ¬ T.length ≤ 128), zaO]
    refine fnspec_of mixed TT_ok TT_cl ⟨fun _ => false, fun _ => [], 0, fun _ => false, fun _ => false⟩ Try.func12 rfl (by kernel_rfl) rfl 54 rfl [.tmp 2] rfl ?_
    simp only [go_sem, zaa, zae, zaf, zag, zah, zad, ↓reduceIte, reduceCtorEq, zab, zac, zai, zaj, zak, decide_eq_true c128]
    repeat' (first
 | (apply cl_plain
    case hs => rfl
    case ha => (simp only [zam, zao, prepV, prepC, idx, hpL', lookR, zaa, if_true, if_false]; rfl)
    case h => (first | exact h1 ..))
 | ((first | refine s1_id ?_ | refine swp_id ?_ | refine sops_id ?_ | refine s2_id ?_); simp only [decide_eq_true c128, zaB, zaF, zap, zaD, zaG, zax, zay, zaw, zaJ, zaK, zaA, zaI, go_sem, zaa, zae, zaf, zag, zah, zad, ↓reduceIte, reduceCtorEq, zab, zac, zai, zaj, zak, zaL, zaM, zaz, zaN, renO, bk, back, outUpsFrom, Ints_ren])
 | exact fs_nil trivial rfl
 | fail)
  rw [decide_eq_true (by omega : T.length ≤ 128), zaP]
  have hst := tk_ct 24 (hyc l none n T none h) (stB l T) T (fun x _ => mstrange_spec l n T h x hl (by omega)) none (by omega)
  generalize T.any (stB l T) = sb at *
  obtain ⟨B, hB⟩ : ∃ B, tasF T 0 = B := ⟨_, rfl⟩
  rw [hB]
  obtain ⟨L, hL⟩ : ∃ L, lstI T = L := ⟨_, rfl⟩
  rw [hL]
  refine fnspec_of mixed TT_ok TT_cl ⟨fun _ => false, fun _ => [], 0 , fun _ => false, fun i => if i = 11 then true else false⟩ Try.func12 rfl (by kernel_rfl) rfl 54 rfl [.tmp 2] rfl ?_
  simp only [go_sem, zaa, zae, zaf, zag, zah, zad, ↓reduceIte, reduceCtorEq, zab, zac, zai, zaj, zak, decide_eq_false c128]
  repeat' (first
 | (apply cl_plain
    case hs => rfl
    case ha => (simp only [zam, zao, prepV, prepC, idx, hpL', lookR, zaa, if_true, if_false]; rfl)
    case h => (first | exact h1 ..))
 | ((first | refine s1_id ?_ | refine swp_id ?_ | refine sops_id ?_ | refine s2_id ?_); simp only [decide_eq_false c128, zaB, zaF, zap, zaD, zaG, zax, zay, zaw, zaJ, zaK, zaA, zaI, go_sem, zaa, zae, zaf, zag, zah, zad, ↓reduceIte, reduceCtorEq, zab, zac, zai, zaj, zak, zaL, zaM, zaz, zaN, renO, bk, back, outUpsFrom, Ints_ren])
 | (intros; (try simp only [zat, zaE, zav, zau, zar, zas, decide_eq_true_eq, decide_eq_false_iff_not] at *); omega))
  refine w_loop (ι := Nat × Int) (fun s => ⟨[(1, .one (.optr 0 0)), (3, i1 s.2), (18, i1 T.length), (19, i1 s.1)], [(0, some ⟨hyc l none n T none h, 4⟩)], 1⟩) (fun s => s.1 ≤ T.length ∧ tasF (T.drop s.1) s.2 = B ∧ (T.drop s.1).foldl (fun _ x => x.i) s.2 = L) (fun s => T.length - s.1) (0, 0) ?_ ⟨zaZ _, hB, hL⟩ ?_
  · (refine imp_ren _ _ _ [(0, 0, ⟨hyc l none n T none h, 4⟩)] (by simp) (by simp) (by simp) (zaC rfl) ?_ rfl (by simp only [zal, zan, false_implies, implies_true, and_true, zaW, lookR, zaa, if_true, if_false, ↓reduceIte] <;> (repeat' apply zaq) <;> (first | rfl | trivial)) (by simp only [zal, zan, false_implies, implies_true, and_true, true_and, flat_cons, flat_nil, flat_ints, flat_bools, flat_app, zaV, and_self, eq_self_iff_true, zap]); simp only [zam, zao, zal, zan, false_implies, implies_true, and_true, lk, slot, zaL, zaz, toN, zaa, if_true, if_false, ↓reduceIte, reduceCtorEq])
    all_goals ((repeat' apply zaq) <;> (first | rfl | trivial))
  clear h1 hB hL
  rintro ⟨m, last⟩ ⟨hm, hI, hJ⟩
  simp only at hm hI hJ ⊢
  rcases zbc m T.length with hlt | hge
  case inr =>
    have c : ¬ (m : Int) < (T.length : Int) := by omega
    rw [zbd hge] at hI hJ
    have hI : true = B := hI
    have hJ : last = L := hJ
    subst hI
    subst hJ
    rw [zaP]
    by_cases c1 : last < h
    case neg =>
      rw [decide_eq_false c1, zaO]
      simp only [go_sem, zaa, zae, zaf, zag, zah, zad, ↓reduceIte, reduceCtorEq, zab, zac, zai, zaj, zak, decide_eq_false c, decide_eq_false c1]
      repeat' (first
 | (intros; (try simp only [zat, zaE, zav, zau, zar, zas, decide_eq_true_eq, decide_eq_false_iff_not] at *); omega))
      (refine rgf_t _ (imp_frz _ _ 0 ⟨hyc l none n T none h, 4⟩ (by simp only [zaW, lookR, zaa, if_true, if_false, ↓reduceIte]) (by first | exact Ints_isG _ | exact Bools_isG _ | exact Cs_isG _ | (simp [Cell.isG]; done))) ?_; simp only [frzTm, SV.frz, SV.frzL, Cell.frz, frzHp, frzO, Ints_frz, Bools_frz, zam, zao, zaa, if_true, if_false, ↓reduceIte])
      simp only [go_sem, zaa, zae, zaf, zag, zah, zad, ↓reduceIte, reduceCtorEq, zab, zac, zai, zaj, zak, decide_eq_false c1]
      repeat' (first
 | exact fs_nil trivial rfl
 | fail)
    rw [decide_eq_true c1, zaP]
    by_cases c2 : h ≤ 2147483648
    case neg =>
      rw [decide_eq_false c2, zaO]
      simp only [go_sem, zaa, zae, zaf, zag, zah, zad, ↓reduceIte, reduceCtorEq, zab, zac, zai, zaj, zak, decide_eq_false c, decide_eq_true c1, decide_eq_false c2]
      repeat' (first
 | (intros; (try simp only [zat, zaE, zav, zau, zar, zas, decide_eq_true_eq, decide_eq_false_iff_not] at *); omega))
      (refine rgf_t _ (imp_frz _ _ 0 ⟨hyc l none n T none h, 4⟩ (by simp only [zaW, lookR, zaa, if_true, if_false, ↓reduceIte]) (by first | exact Ints_isG _ | exact Bools_isG _ | exact Cs_isG _ | (simp [Cell.isG]; done))) ?_; simp only [frzTm, SV.frz, SV.frzL, Cell.frz, frzHp, frzO, Ints_frz, Bools_frz, zam, zao, zaa, if_true, if_false, ↓reduceIte])
      simp only [go_sem, zaa, zae, zaf, zag, zah, zad, ↓reduceIte, reduceCtorEq, zab, zac, zai, zaj, zak, decide_eq_true c1, decide_eq_false c2]
      repeat' (first
 | exact fs_nil trivial rfl
 | fail)
    rw [decide_eq_true c2, zaP]
    simp only [go_sem, zaa, zae, zaf, zag, zah, zad, ↓reduceIte, reduceCtorEq, zab, zac, zai, zaj, zak, decide_eq_false c, decide_eq_true c1, decide_eq_true c2]
    repeat' (first
 | (intros; (try simp only [zat, zaE, zav, zau, zar, zas, decide_eq_true_eq, decide_eq_false_iff_not] at *); omega))
    (refine rgf_t _ (imp_frz _ _ 0 ⟨hyc l none n T none h, 4⟩ (by simp only [zaW, lookR, zaa, if_true, if_false, ↓reduceIte]) (by first | exact Ints_isG _ | exact Bools_isG _ | exact Cs_isG _ | (simp [Cell.isG]; done))) ?_; simp only [frzTm, SV.frz, SV.frzL, Cell.frz, frzHp, frzO, Ints_frz, Bools_frz, zam, zao, zaa, if_true, if_false, ↓reduceIte])
    simp only [go_sem, zaa, zae, zaf, zag, zah, zad, ↓reduceIte, reduceCtorEq, zab, zac, zai, zaj, zak, decide_eq_true c1, decide_eq_true c2]
    repeat' (first
 | (apply cg_tp
    case hl => rfl
    case ha => (simp only [zam, zao, prepV, prepC, idx, hpL', lookR, zaa, if_true, if_false]; rfl)
    case hs => rfl
    case h => (first | exact hst ..))
 | ((first | refine s1_id ?_ | refine swp_id ?_ | refine sops_id ?_ | refine s2_id ?_); simp only [decide_eq_true c1, decide_eq_true c2, zaB, zaF, zap, zaD, zaG, zax, zay, zaw, zaJ, zaK, zaA, zaI, go_sem, zaa, zae, zaf, zag, zah, zad, ↓reduceIte, reduceCtorEq, zab, zac, zai, zaj, zak, zaL, zaM, zaz, zaN, renO, bk, back, outUpsFrom, Ints_ren])
 | exact fs_nil trivial rfl
 | fail)
  have c : (m : Int) < (T.length : Int) := by omega
  have q0 := tk_f T m 0 (.sc (.int .i64 0)) hlt (by decide)
  rw [Nat.add_zero] at q0
  have q0 : (Cs T).getD (m * 4) (.sc (.int .i64 0)) = int (gT T m).i := q0
  rw [drop_getD T m ztk hlt] at hI hJ
  have hI : (decide (last < (gT T m).i) && tasF (T.drop (m + 1)) (gT T m).i) = B := hI
  have hJ : (T.drop (m + 1)).foldl (fun _ x => x.i) (gT T m).i = L := hJ
  generalize (gT T m).i = v at *
  by_cases c1 : v ≤ last
  · rw [decide_eq_false (by omega : ¬ last < v), zaO] at hI
    rw [← hI, zaO]
    simp only [go_sem, zaa, zae, zaf, zag, zah, zad, ↓reduceIte, reduceCtorEq, zab, zac, zai, zaj, zak, decide_eq_true c, decide_eq_true c1, q0]
    repeat' (first
 | with_reducible refine zaq ?_ ?_
 | (intros; omega)
 | exact fs_nil trivial rfl
 | fail)
  rw [decide_eq_true (by omega : last < v), zaP] at hI
  simp only [go_sem, zaa, zae, zaf, zag, zah, zad, ↓reduceIte, reduceCtorEq, zab, zac, zai, zaj, zak, decide_eq_true c, decide_eq_false c1, q0]
  repeat' (first
 | with_reducible refine zaq ?_ ?_
 | (intros; omega)
 | (intros; (try simp only [zat, zaE, zav, zau, zar, zas, decide_eq_true_eq, decide_eq_false_iff_not] at *); omega))
  refine le_mk (m + 1, v) ?_ ⟨hlt, hI, hJ⟩ (by show T.length - (m + 1) < T.length - m; omega)
  (refine imp_ren _ _ _ [(0, 0, ⟨hyc l none n T none h, 4⟩)] (by simp) (by simp) (by simp) (zaC rfl) ?_ rfl (by simp only [zal, zan, false_implies, implies_true, and_true, zaW, lookR, zaa, if_true, if_false, ↓reduceIte] <;> (repeat' apply zaq) <;> (first | rfl | trivial)) (by simp only [zal, zan, false_implies, implies_true, and_true, true_and, flat_cons, flat_nil, flat_ints, flat_bools, flat_app, zaV, and_self, eq_self_iff_true, zap]); simp only [zam, zao, zal, zan, false_implies, implies_true, and_true, lk, slot, zaL, zaz, toN, zaa, if_true, if_false, ↓reduceIte, reduceCtorEq])
  all_goals ((repeat' apply zaq) <;> (first | rfl | trivial | (simp only [zaH]; done) | (simp only [zaH]; rfl) | (simp only [zaH]; trivial)))
end Go.Proofs.Ytnahpejlhfeleac
