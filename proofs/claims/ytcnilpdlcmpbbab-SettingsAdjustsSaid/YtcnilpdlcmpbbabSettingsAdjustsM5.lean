/- Contracts of functions, told of values, on the way to SettingsAdjusts (part 5). -/
import Derived.Test.YtcnilpdlcmpbbabSettingsAdjustsM3
import Derived.Test.YtcnilpdlcmpbbabSettingsAdjustsM4
-- short names of the library's lemmas
open Nat renaming reduceEqDiff → zaa, reduceLeDiff → zad, reduceAdd → zae, reduceSub → zaf, reduceMul → zag, reduceLT → zah, le_of_ble_eq_true → zay, zero_le → zaU, zero_mul → zaY, sub_zero → zaZ, lt_or_ge → zba, le_refl → zbe
open List renaming reduceReplicate → zab, map_cons → zal, forall_mem_cons → zam, map_nil → zan, not_mem_nil → zao, append_nil → zav, take_succ_cons → zaz, getD_cons_zero → zaA, getD_cons_succ → zaB, set_cons_zero → zaC, set_cons_succ → zaD, flatten_cons → zaE, length_cons → zaF, flatten_nil → zaJ, cons_append → zaK, nil_append → zaO, length_nil → zaP, take_zero → zaQ, take_nil → zaR, length_take → zaV, take_of_length_le → zbd, take → zbf, drop_of_length_le → zbg, drop → zbh
open Int renaming cast_ofNat_Int → zac, reduceEq → zai, reduceLT → zaj, reduceLE → zak, natCast_add → zaG, toNat_zero → zaW
open Option renaming getD_some → zaL, getD_none → zaM
open Bool renaming and_eq_false_iff → zap, or_eq_false_iff → zaq, not_eq_false' → zas, not_eq_true' → zat, and_eq_true → zau, or_eq_true → zax, true_and → zaX, false_and → zbb
open And renaming intro → zar
open Go.Proofs.Ytcnilpdlcmpbbab.Sh.Cell renaming ren → zaw, refs → zaT, frz → zbi
open Go.Proofs.Ytcnilpdlcmpbbab.Sh.SV renaming renL → zaH, ren → zaN
open Go.Proofs.Ytcnilpdlcmpbbab.Sh.Row renaming ren → zaI
open Go.Proofs.Ytcnilpdlcmpbbab.Sh.St renaming hpF → zaS, tmF → zbc
-- NEWGO
-- PRUNE: cl_lendx cl_use cl_lend
-- ISG: Cs_isG
-- FLAT: Cs_flat
namespace Go.Proofs.Ytcnilpdlcmpbbab
set_option linter.unusedVariables false
set_option linter.unusedSimpArgs false
open Go.Proofs.Ytcnilpdlcmpbbab.Sh
set_option maxRecDepth 20000
structure Sg where
  pm : Int
  w : Int
  q : Int
  pe : Int
  b : Int
  c0 : Int
  c1 : Int
  cp : List Int
  mm : List Int
  pt : Int
  m0 : Int
  m1 : Int
  m2 : Int
  m3 : Int
  m4 : Int
  mt : Bool
abbrev sgc (x : Sg) : List Cell := [int x.pm, int x.w, int x.q, int x.pe, int x.b, int x.c0, int x.c1, .gsl (Ints x.cp) 0 x.cp.length none, .gsl (Ints x.mm) 0 x.mm.length none, int x.pt, int x.m0, int x.m1, int x.m2, int x.m3, int x.m4, bool x.mt, .gsl [] 0 0 none]
abbrev sgt (x : Sg) : SV := .agg (sgc x)
abbrev dfS : Sg := ⟨4611686018427387904, 100, 4611686018427387904, 100000, 0, 0, 10000, [], [], 0, 0, 0, 4611686018427387904, 4611686018427387904, 4611686018427387904, false⟩
abbrev zsg : Sg := ⟨0, 0, 0, 0, 0, 0, 0, [], [], 0, 0, 0, 0, 0, 0, false⟩
def wn (n a b : Int) : Bool := decide (a ≤ n) && decide (n ≤ b)
theorem swithin_spec (n a b : Int) : FnSpec Try.prog 63 [i1 n, i1 a, i1 b] [] (b1 (wn n a b)) [] := by
  refine fnspec_of mixed TT_ok TT_cl ⟨fun _ => false, fun _ => [], 0, fun _ => false, fun _ => false⟩ Try.func63 rfl (by kernel_rfl) rfl 15 rfl [.tmp 6] rfl ?_
  simp only [go_sem, zaa, zae, zaf, zag, zah, zad, ↓reduceIte, reduceCtorEq, zab, zac, zai, zaj, zak]
  repeat' (first
 | exact fs_nil trivial rfl
 | fail)
theorem amount_spec (n a b : Int) : FnSpec Try.prog 87 [i1 n, i1 a, i1 b] [] (b1 (wn n a b || decide (n = 4611686018427387904))) [] := by
  refine fnspec_of mixed TT_ok TT_cl ⟨fun _ => false, fun _ => [], 0, fun _ => false, fun _ => false⟩ Try.func87 rfl (by kernel_rfl) rfl 19 rfl [.tmp 6] rfl ?_
  simp only [go_sem, zaa, zae, zaf, zag, zah, zad, ↓reduceIte, reduceCtorEq, zab, zac, zai, zaj, zak]
  repeat' (first
 | exact fs_nil trivial rfl
 | fail)
theorem sequal_spec (a b : List Int) (k k2 : Option Nat) (hl : a.length ≤ 9223372036854775806) : FnSpec Try.prog 55 [gi a k, gi b k2] [] (b1 (decide (a = b))) [] := by
  by_cases hlen : a.length = b.length
  case neg =>
    have c : ¬ (a.length : Int) = (b.length : Int) := by omega
    rw [decide_eq_false (fun e => hlen (by rw [e]))]
    refine fnspec_of mixed TT_ok TT_cl ⟨fun _ => false, fun _ => [], 0, fun _ => false, fun _ => false⟩ Try.func55 rfl (by kernel_rfl) rfl 26 rfl [.tmp 4] rfl ?_
    simp only [go_sem, zaa, zae, zaf, zag, zah, zad, ↓reduceIte, reduceCtorEq, zab, zac, zai, zaj, zak, decide_eq_false c]
    repeat' (first
 | exact fs_nil trivial rfl
 | fail)
  have hlen' : (a.length : Int) = (b.length : Int) := by omega
  refine fnspec_of mixed TT_ok TT_cl ⟨fun _ => false, fun _ => [], 0, fun _ => false, fun _ => false⟩ Try.func55 rfl (by kernel_rfl) rfl 26 rfl [.tmp 4] rfl ?_
  simp only [go_sem, zaa, zae, zaf, zag, zah, zad, ↓reduceIte, reduceCtorEq, zab, zac, zai, zaj, zak, hlen']
  repeat' (first
 | (intros; (try simp only [zau, zax, zat, zas, zap, zaq, decide_eq_true_eq, decide_eq_false_iff_not] at *); omega))
  refine w_loop (ι := Nat) (fun i => ⟨[(0, gi a k), (1, gi b k2), (12, i1 b.length), (13, i1 i)], [], 0⟩) (fun i => i ≤ a.length ∧ a.take i = b.take i) (fun i => a.length - i) 0 ?_ ⟨zaU _, rfl⟩ ?_
  · (refine imp_sub _ _ _ [] (by simp) (by simp) (by simp) (zaU _) ?_ rfl (by simp); simp only [zam, zao, false_implies, implies_true, and_true, lk, slot, zaN, zaw, zaa, if_true, if_false, ↓reduceIte, reduceCtorEq])
    all_goals ((repeat' apply zar) <;> (first | rfl | trivial))
  rintro i ⟨hi, he⟩
  simp only at hi he ⊢
  rcases zba i a.length with hlt | hge
  case inr =>
    have c : ¬ (i : Int) < (a.length : Int) := by omega
    rw [zbd hge, zbd (by omega)] at he
    rw [decide_eq_true he]
    simp only [go_sem, zaa, zae, zaf, zag, zah, zad, ↓reduceIte, reduceCtorEq, zab, zac, zai, zaj, zak, decide_eq_false c]
    repeat' (first
 | with_reducible refine zar ?_ ?_
 | (unfold OKC; kernel_rfl)
 | (unfold EDG; kernel_rfl)
 | (refine gt_if (fun h => ?_) (fun h => ?_) <;> (try simp only [h]))
 | ((first | refine s1_id ?_ | refine swp_id ?_ | refine sops_id ?_ | refine s2_id ?_); simp only [decide_eq_false c, go_sem, zaa, zae, zaf, zag, zah, zad, ↓reduceIte, reduceCtorEq, zab, zac, zai, zaj, zak, zaN, zaH, zaw, zaI, renO, bk, back, outUpsFrom, Ints_ren])
 | (intros; omega)
 | (intros; (try simp only [zau, zax, zat, zas, zap, zaq, decide_eq_true_eq, decide_eq_false_iff_not] at *); omega)
 | exact fs_nil trivial rfl
 | fail)
  have c : (i : Int) < (a.length : Int) := by omega
  have ha := take_getD a i 0 hlt
  have hb := take_getD b i 0 (by omega)
  by_cases hx : a.getD i 0 = b.getD i 0
  · have hn : a.take (i + 1) = b.take (i + 1) := by rw [ha, hb, he, hx]
    simp only [go_sem, zaa, zae, zaf, zag, zah, zad, ↓reduceIte, reduceCtorEq, zab, zac, zai, zaj, zak, decide_eq_true c, hx]
    repeat' (first
 | with_reducible refine zar ?_ ?_
 | (unfold OKC; kernel_rfl)
 | (unfold EDG; kernel_rfl)
 | (refine gt_if (fun h => ?_) (fun h => ?_) <;> (try simp only [h]))
 | ((first | refine s1_id ?_ | refine swp_id ?_ | refine sops_id ?_ | refine s2_id ?_); simp only [decide_eq_true c, hx, go_sem, zaa, zae, zaf, zag, zah, zad, ↓reduceIte, reduceCtorEq, zab, zac, zai, zaj, zak, zaN, zaH, zaw, zaI, renO, bk, back, outUpsFrom, Ints_ren])
 | (intros; omega)
 | (intros; (try simp only [zau, zax, zat, zas, zap, zaq, decide_eq_true_eq, decide_eq_false_iff_not] at *); omega))
    refine le_mk (i + 1) ?_ ⟨hlt, hn⟩ (by omega)
    (refine imp_sub _ _ _ [] (by simp) (by simp) (by simp) (zaU _) ?_ rfl (by simp); simp only [zam, zao, false_implies, implies_true, and_true, lk, slot, zaN, zaw, zaa, if_true, if_false, ↓reduceIte, reduceCtorEq])
    all_goals ((repeat' apply zar) <;> (first | rfl | trivial | (simp only [zaG]; done) | (simp only [zaG]; rfl) | (simp only [zaG]; trivial)))
  · rw [decide_eq_false (fun e => hx (by rw [e]))]
    simp only [go_sem, zaa, zae, zaf, zag, zah, zad, ↓reduceIte, reduceCtorEq, zab, zac, zai, zaj, zak, decide_eq_true c, decide_eq_false hx]
    repeat' (first
 | with_reducible refine zar ?_ ?_
 | (unfold OKC; kernel_rfl)
 | (unfold EDG; kernel_rfl)
 | (refine gt_if (fun h => ?_) (fun h => ?_) <;> (try simp only [h]))
 | ((first | refine s1_id ?_ | refine swp_id ?_ | refine sops_id ?_ | refine s2_id ?_); simp only [decide_eq_true c, decide_eq_false hx, go_sem, zaa, zae, zaf, zag, zah, zad, ↓reduceIte, reduceCtorEq, zab, zac, zai, zaj, zak, zaN, zaH, zaw, zaI, renO, bk, back, outUpsFrom, Ints_ren])
 | (intros; omega)
 | (intros; (try simp only [zau, zax, zat, zas, zap, zaq, decide_eq_true_eq, decide_eq_false_iff_not] at *); omega)
 | exact fs_nil trivial rfl
 | fail)
def ascF : List Int → Int → Bool
  | [], _ => true
  | x :: r, last => decide (last < x) && ascF r x
theorem ascF_iff : ∀ (l : List Int) (last : Int), ascF l last = true ↔ ∀ i, i < l.length → (if i = 0 then last else l.getD (i - 1) 0) < l.getD i 0
  | [], last => by simp [ascF]
  | x :: r, last => by
    rw [ascF, zau, decide_eq_true_eq, ascF_iff r x]
    constructor
    · rintro ⟨h1, h2⟩ i hi
      cases i with
      | zero => exact h1
      | succ i =>
        have := h2 i (by simpa using hi)
        rw [if_neg (Nat.succ_ne_zero i)]
        cases i with
        | zero => exact this
        | succ i => exact this
    · intro h
      refine ⟨h 0 (by simp), fun i hi => ?_⟩
      have := h (i + 1) (by simpa using hi)
      rw [if_neg (Nat.succ_ne_zero i)] at this
      cases i with
      | zero => exact this
      | succ i => exact this
def vl (l : List Int) (n : Int) : Bool := ascF l (-1) && (decide (l.length = 0) || decide (l.getD (l.length - 1) 0 < n))
theorem vl_iff (l : List Int) (n : Int) : vl l n = true ↔ ∀ i, i < l.length → 0 ≤ l.getD i 0 ∧ l.getD i 0 < n ∧ (0 < i → l.getD (i - 1) 0 < l.getD i 0) := by
  unfold vl
  rw [zau, zax, decide_eq_true_eq, decide_eq_true_eq, ascF_iff]
  constructor
  · rintro ⟨h1, h2⟩ i hi
    have hm : ∀ k i, i + k < l.length → l.getD i 0 ≤ l.getD (i + k) 0 := fun k => by
      induction k with
      | zero => intro i _; exact Int.le_refl _
      | succ k ih =>
        intro i hik
        have := h1 (i + (k + 1)) hik
        rw [if_neg (by omega), show i + (k + 1) - 1 = i + k by omega] at this
        have := ih i (by omega)
        omega
    refine ⟨?_, ?_, fun h0 => ?_⟩
    · have h3 := h1 0 (by omega)
      rw [if_pos rfl] at h3
      have := hm i 0 (by omega)
      rw [Nat.zero_add] at this
      omega
    · have h3 := h2.resolve_left (by omega)
      have := hm (l.length - 1 - i) i (by omega)
      rw [show i + (l.length - 1 - i) = l.length - 1 by omega] at this
      omega
    · have := h1 i hi
      rw [if_neg (by omega)] at this
      exact this
  · intro h
    refine ⟨fun i hi => ?_, ?_⟩
    · by_cases h0 : i = 0
      · rw [if_pos h0]; have := h i hi; omega
      · rw [if_neg h0]; exact (h i hi).2.2 (by omega)
    · by_cases h0 : l.length = 0
      · exact .inl h0
      · exact .inr (h (l.length - 1) (by omega)).2.1
set_option maxHeartbeats 4000000 in
theorem sasc_spec (l : List Int) (k : Option Nat) (hl : l.length ≤ 9223372036854775806) : FnSpec Try.prog 86 [gi l k] [] (b1 (ascF l (-1))) [] := by
  refine fnspec_of mixed TT_ok TT_cl ⟨fun _ => false, fun _ => [], 0, fun _ => false, fun _ => false⟩ Try.func86 rfl (by kernel_rfl) rfl 17 rfl [.tmp 2] rfl ?_
  simp only [go_sem, zaa, zae, zaf, zag, zah, zad, ↓reduceIte, reduceCtorEq, zab, zac, zai, zaj, zak]
  repeat' (first
 | (intros; (try simp only [zau, zax, zat, zas, zap, zaq, decide_eq_true_eq, decide_eq_false_iff_not] at *); omega))
  refine w_loop (ι := Nat × Int) (fun p => ⟨[(3, i1 p.2), (6, gi l k), (7, i1 l.length), (8, i1 p.1)], [], 0⟩) (fun p => p.1 ≤ l.length ∧ ascF l (-1) = ascF (l.drop p.1) p.2) (fun p => l.length - p.1) (0, -1) ?_ ⟨zaU _, rfl⟩ ?_
  · (refine imp_sub _ _ _ [] (by simp) (by simp) (by simp) (zaU _) ?_ rfl (by simp); simp only [zam, zao, false_implies, implies_true, and_true, lk, slot, zaN, zaw, zaa, if_true, if_false, ↓reduceIte, reduceCtorEq])
    all_goals ((repeat' apply zar) <;> (first | rfl | trivial))
  rintro ⟨i, last⟩ ⟨hi, he⟩
  simp only at hi he ⊢
  rcases zba i l.length with hlt | hge
  case inr =>
    have c : ¬ (i : Int) < (l.length : Int) := by omega
    rw [zbg hge] at he
    rw [he]
    simp only [go_sem, zaa, zae, zaf, zag, zah, zad, ↓reduceIte, reduceCtorEq, zab, zac, zai, zaj, zak, decide_eq_false c, ascF]
    repeat' (first
 | exact fs_nil trivial rfl
 | fail)
  have c : (i : Int) < (l.length : Int) := by omega
  rw [drop_getD l i 0 hlt, ascF] at he
  obtain ⟨x, hx⟩ : ∃ x, l.getD i 0 = x := ⟨_, rfl⟩
  rw [hx] at he
  by_cases c2 : x ≤ last
  · rw [decide_eq_false (by omega), zbb] at he
    rw [he]
    simp only [go_sem, zaa, zae, zaf, zag, zah, zad, ↓reduceIte, reduceCtorEq, zab, zac, zai, zaj, zak, decide_eq_true c, hx, decide_eq_true c2]
    repeat' (first
 | with_reducible refine zar ?_ ?_
 | (intros; omega)
 | exact fs_nil trivial rfl
 | fail)
  · rw [decide_eq_true (by omega), zaX] at he
    simp only [go_sem, zaa, zae, zaf, zag, zah, zad, ↓reduceIte, reduceCtorEq, zab, zac, zai, zaj, zak, decide_eq_true c, hx, decide_eq_false c2]
    repeat' (first
 | with_reducible refine zar ?_ ?_
 | (intros; omega)
 | (intros; (try simp only [zau, zax, zat, zas, zap, zaq, decide_eq_true_eq, decide_eq_false_iff_not] at *); omega))
    refine le_mk (i + 1, x) ?_ ⟨by show i + 1 ≤ l.length; omega, he⟩ (by show l.length - (i + 1) < l.length - i; omega)
    (refine imp_sub _ _ _ [] (by simp) (by simp) (by simp) (zaU _) ?_ rfl (by simp); simp only [zam, zao, false_implies, implies_true, and_true, lk, slot, zaN, zaw, zaa, if_true, if_false, ↓reduceIte, reduceCtorEq])
    all_goals ((repeat' apply zar) <;> (first | rfl | trivial | (simp only [zaG]; done) | (simp only [zaG]; rfl) | (simp only [zaG]; trivial)))
theorem svalid_spec (l : List Int) (k : Option Nat) (n : Int) (hl : l.length ≤ 1000000) : FnSpec Try.prog 65 [gi l k, i1 n] [] (b1 (vl l n)) [] := by
  have h1 := sasc_spec l k (by omega)
  unfold vl
  cases ha : ascF l (-1) with
  | false =>
    rw [ha] at h1
    rw [zbb]
    refine fnspec_of mixed TT_ok TT_cl ⟨fun _ => false, fun _ => [], 0, fun _ => false, fun _ => false⟩ Try.func65 rfl (by kernel_rfl) rfl 22 rfl [.tmp 4] rfl ?_
    simp only [go_sem, zaa, zae, zaf, zag, zah, zad, ↓reduceIte, reduceCtorEq, zab, zac, zai, zaj, zak]
    repeat' (first
 | (apply cl_plain
    case hs => rfl
    case ha => (simp only [zal, zan, prepV, prepC, idx, hpL', lookR, zaa, if_true, if_false]; rfl)
    case h => (first | exact h1 ..))
 | ((first | refine s1_id ?_ | refine swp_id ?_ | refine sops_id ?_ | refine s2_id ?_); simp only [go_sem, zaa, zae, zaf, zag, zah, zad, ↓reduceIte, reduceCtorEq, zab, zac, zai, zaj, zak, zaN, zaH, zaw, zaI, renO, bk, back, outUpsFrom, Ints_ren])
 | exact fs_nil trivial rfl
 | fail)
  | true =>
    rw [ha] at h1
    rw [zaX]
    by_cases h0 : l.length = 0
    · have c0 : (l.length : Int) = 0 := by omega
      rw [decide_eq_true h0, Bool.true_or]
      refine fnspec_of mixed TT_ok TT_cl ⟨fun _ => false, fun _ => [], 0, fun _ => false, fun _ => false⟩ Try.func65 rfl (by kernel_rfl) rfl 22 rfl [.tmp 4] rfl ?_
      simp only [go_sem, zaa, zae, zaf, zag, zah, zad, ↓reduceIte, reduceCtorEq, zab, zac, zai, zaj, zak, decide_eq_true c0]
      repeat' (first
 | (apply cl_plain
    case hs => rfl
    case ha => (simp only [zal, zan, prepV, prepC, idx, hpL', lookR, zaa, if_true, if_false]; rfl)
    case h => (first | exact h1 ..))
 | ((first | refine s1_id ?_ | refine swp_id ?_ | refine sops_id ?_ | refine s2_id ?_); simp only [decide_eq_true c0, go_sem, zaa, zae, zaf, zag, zah, zad, ↓reduceIte, reduceCtorEq, zab, zac, zai, zaj, zak, zaN, zaH, zaw, zaI, renO, bk, back, outUpsFrom, Ints_ren])
 | exact fs_nil trivial rfl
 | fail)
    · have c0 : ¬ (l.length : Int) = 0 := by omega
      have ci : ((l.length : Int) - 1).toNat = l.length - 1 := by omega
      rw [decide_eq_false h0, Bool.false_or]
      refine fnspec_of mixed TT_ok TT_cl ⟨fun _ => false, fun _ => [], 0, fun _ => false, fun _ => false⟩ Try.func65 rfl (by kernel_rfl) rfl 22 rfl [.tmp 4] rfl ?_
      simp only [go_sem, zaa, zae, zaf, zag, zah, zad, ↓reduceIte, reduceCtorEq, zab, zac, zai, zaj, zak, decide_eq_false c0, ci]
      repeat' (first
 | with_reducible refine zar ?_ ?_
 | (apply cl_plain
    case hs => rfl
    case ha => (simp only [zal, zan, prepV, prepC, idx, hpL', lookR, zaa, if_true, if_false]; rfl)
    case h => (first | exact h1 ..))
 | ((first | refine s1_id ?_ | refine swp_id ?_ | refine sops_id ?_ | refine s2_id ?_); simp only [decide_eq_false c0, ci, go_sem, zaa, zae, zaf, zag, zah, zad, ↓reduceIte, reduceCtorEq, zab, zac, zai, zaj, zak, zaN, zaH, zaw, zaI, renO, bk, back, outUpsFrom, Ints_ren])
 | (intros; omega)
 | exact fs_nil trivial rfl
 | fail)
abbrev nod : SV := .one (.gsl [] 0 0 none)
theorem ckdev_spec : FnSpec Try.prog 67 [nod] [] (b1 true) [] := by
  refine fnspec_of mixed TT_ok TT_cl ⟨fun _ => false, fun _ => [], 0, fun _ => false, fun _ => false⟩ Try.func67 rfl (by kernel_rfl) rfl 85 rfl [.tmp 2] rfl ?_
  simp only [go_sem, zaa, zae, zaf, zag, zah, zad, ↓reduceIte, reduceCtorEq, zab, zac, zai, zaj, zak]
  repeat' (first
 | (intros; (try simp only [zau, zax, zat, zas, zap, zaq, decide_eq_true_eq, decide_eq_false_iff_not] at *); omega))
  refine w_loop (ι := Nat) (fun m => ⟨[(0, nod), (3, i1 0)], [], 0⟩) (fun m => True) (fun m => 0) 0 ?_ trivial ?_
  · (refine imp_sub _ _ _ [] (by simp) (by simp) (by simp) (zaU _) ?_ rfl (by simp); simp only [zam, zao, false_implies, implies_true, and_true, lk, slot, zaN, zaw, zaa, if_true, if_false, ↓reduceIte, reduceCtorEq])
    all_goals ((repeat' apply zar) <;> (first | rfl | trivial))
  intro m _
  simp only
  simp only [go_sem, zaa, zae, zaf, zag, zah, zad, ↓reduceIte, reduceCtorEq, zab, zac, zai, zaj, zak]
  repeat' (first
 | exact fs_nil trivial rfl
 | fail)
theorem eqdev_spec : FnSpec Try.prog 56 [nod, nod] [] (b1 true) [] := by
  refine fnspec_of mixed TT_ok TT_cl ⟨fun _ => false, fun _ => [], 0, fun _ => false, fun _ => false⟩ Try.func56 rfl (by kernel_rfl) rfl 26 rfl [.tmp 4] rfl ?_
  simp only [go_sem, zaa, zae, zaf, zag, zah, zad, ↓reduceIte, reduceCtorEq, zab, zac, zai, zaj, zak]
  repeat' (first
 | (intros; (try simp only [zau, zax, zat, zas, zap, zaq, decide_eq_true_eq, decide_eq_false_iff_not] at *); omega))
  refine w_loop (ι := Nat) (fun m => ⟨[(0, nod), (1, nod), (12, i1 0), (13, i1 0)], [], 0⟩) (fun m => True) (fun m => 0) 0 ?_ trivial ?_
  · (refine imp_sub _ _ _ [] (by simp) (by simp) (by simp) (zaU _) ?_ rfl (by simp); simp only [zam, zao, false_implies, implies_true, and_true, lk, slot, zaN, zaw, zaa, if_true, if_false, ↓reduceIte, reduceCtorEq])
    all_goals ((repeat' apply zar) <;> (first | rfl | trivial))
  intro m _
  simp only
  simp only [go_sem, zaa, zae, zaf, zag, zah, zad, ↓reduceIte, reduceCtorEq, zab, zac, zai, zaj, zak]
  repeat' (first
 | exact fs_nil trivial rfl
 | fail)
end Go.Proofs.Ytcnilpdlcmpbbab
-- NEWGO
-- PRUNE: cl_lendx cl_use cl_lend
-- ISG: Cs_isG
-- FLAT: Cs_flat
namespace Go.Proofs.Ytcnilpdlcmpbbab
set_option linter.unusedVariables false
set_option linter.unusedSimpArgs false
open Go.Proofs.Ytcnilpdlcmpbbab.Sh
set_option maxRecDepth 20000
def am (n : Int) : Bool := wn n 0 1099511627776 || decide (n = 4611686018427387904)
def cmF (x : Sg) : Bool := am x.m0 && (am x.m1 && (am x.m2 && (am x.m3 && am x.m4)))
theorem ckmem_spec (x : Sg) : FnSpec Try.prog 66 [.agg [int x.m0, int x.m1, int x.m2, int x.m3, int x.m4, bool x.mt]] [] (b1 (cmF x)) [] := by
  have e : cmF x = (am x.m0 && (am x.m1 && (am x.m2 && (am x.m3 && am x.m4)))) := rfl
  have h := fun n => amount_spec n 0 1099511627776
  have h' : ∀ n, FnSpec Try.prog 87 [i1 n, i1 0, i1 1099511627776] [] (b1 (am n)) [] := h
  rw [e]
  generalize x.m0 = a0
  generalize x.m1 = a1
  generalize x.m2 = a2
  generalize x.m3 = a3
  generalize x.m4 = a4
  refine fnspec_of mixed TT_ok TT_cl ⟨fun _ => false, fun _ => [], 0, fun _ => false, fun _ => false⟩ Try.func66 rfl (by kernel_rfl) rfl 26 rfl [.tmp 2] rfl ?_
  simp only [go_sem, zaa, zae, zaf, zag, zah, zad, ↓reduceIte, reduceCtorEq, zab, zac, zai, zaj, zak]
  repeat' (first
 | (apply cg_any
    case hl => rfl
    case ha => (intro hb; simp only [zal, zan, cnd, hb, if_true, prepV, prepC, idx, hpL', lookR, zaa, if_false]; rfl)
    case hs => (intro hb; simp only [cnd, hb, if_true]; rfl)
    case h => (first | exact h' ..))
 | (apply cl_plain
    case hs => rfl
    case ha => (simp only [zal, zan, prepV, prepC, idx, hpL', lookR, zaa, if_true, if_false]; rfl)
    case h => (first | exact h' ..))
 | ((first | refine s1_id ?_ | refine swp_id ?_ | refine sops_id ?_ | refine s2_id ?_); simp only [zaE, zaJ, zav, zaK, zaO, zaC, zaD, zaz, zaQ, zaR, zaF, zaP, go_sem, zaa, zae, zaf, zag, zah, zad, ↓reduceIte, reduceCtorEq, zab, zac, zai, zaj, zak, zaN, zaH, zaw, zaI, renO, bk, back, outUpsFrom, Ints_ren])
 | (apply fs_nil <;> (try simp only [go_sem, resV, resS, zaN, zaH, zaw, zbc, zaS, idx, renO, zaI, evS, slot, lookR, zaa, ↓reduceIte, reduceCtorEq, if_true, if_false, zaL, zaM, zal, zan, sLoad, readAt, readNeed, Ints_ren, Ints_length, Ints_getD, and_true, true_and, zaA, zaB]) <;> (try rfl))
 | fail)
  simp only [Bool.and_assoc]
def cbF (x : Sg) : Bool := wn x.pe 1 1000000 && (if x.q = 4611686018427387904 then decide (x.b = 0) else wn x.q 1 1000000 && wn x.b 0 x.q)
theorem ckbw_spec (x : Sg) : FnSpec Try.prog 64 [sgt x] [] (b1 (cbF x)) [] := by
  unfold cbF
  obtain ⟨pm, w, q, pe, b, c0, c1, cp, mm, pt, m0, m1, m2, m3, m4, mt⟩ := x
  simp only [sgt, sgc]
  cases hp : wn pe 1 1000000 with
  | false =>
    refine fnspec_of mixed TT_ok TT_cl ⟨fun _ => false, fun _ => [], 0, fun _ => false, fun _ => false⟩ Try.func64 rfl (by kernel_rfl) rfl 23 rfl [.tmp 2] rfl ?_
    simp only [go_sem, zaa, zae, zaf, zag, zah, zad, ↓reduceIte, reduceCtorEq, zab, zac, zai, zaj, zak]
    repeat' (first
 | (apply cl_plain
    case hs => rfl
    case ha => (simp only [zal, zan, prepV, prepC, idx, hpL', lookR, zaa, if_true, if_false]; rfl)
    case h => (first | exact swithin_spec ..))
 | ((first | refine s1_id ?_ | refine swp_id ?_ | refine sops_id ?_ | refine s2_id ?_); simp only [zaE, zaJ, zav, zaK, zaO, zaC, zaD, zaz, zaQ, zaR, zaF, zaP, hp, go_sem, zaa, zae, zaf, zag, zah, zad, ↓reduceIte, reduceCtorEq, zab, zac, zai, zaj, zak, zaN, zaH, zaw, zaI, renO, bk, back, outUpsFrom, Ints_ren])
 | exact fs_nil trivial rfl
 | fail)
  | true =>
  by_cases hq : q = 4611686018427387904
  · rw [if_pos hq]
    refine fnspec_of mixed TT_ok TT_cl ⟨fun _ => false, fun _ => [], 0, fun _ => false, fun _ => false⟩ Try.func64 rfl (by kernel_rfl) rfl 23 rfl [.tmp 2] rfl ?_
    simp only [go_sem, zaa, zae, zaf, zag, zah, zad, ↓reduceIte, reduceCtorEq, zab, zac, zai, zaj, zak, decide_eq_true hq]
    repeat' (first
 | (apply cl_plain
    case hs => rfl
    case ha => (simp only [zal, zan, prepV, prepC, idx, hpL', lookR, zaa, if_true, if_false]; rfl)
    case h => (first | exact swithin_spec ..))
 | ((first | refine s1_id ?_ | refine swp_id ?_ | refine sops_id ?_ | refine s2_id ?_); simp only [zaE, zaJ, zav, zaK, zaO, zaC, zaD, zaz, zaQ, zaR, zaF, zaP, hp, decide_eq_true hq, go_sem, zaa, zae, zaf, zag, zah, zad, ↓reduceIte, reduceCtorEq, zab, zac, zai, zaj, zak, zaN, zaH, zaw, zaI, renO, bk, back, outUpsFrom, Ints_ren])
 | exact fs_nil trivial rfl
 | fail)
  · rw [if_neg hq]
    refine fnspec_of mixed TT_ok TT_cl ⟨fun _ => false, fun _ => [], 0, fun _ => false, fun _ => false⟩ Try.func64 rfl (by kernel_rfl) rfl 23 rfl [.tmp 2] rfl ?_
    simp only [go_sem, zaa, zae, zaf, zag, zah, zad, ↓reduceIte, reduceCtorEq, zab, zac, zai, zaj, zak, decide_eq_false hq]
    repeat' (first
 | (apply cg_any
    case hl => rfl
    case ha => (intro hb; simp only [zal, zan, cnd, hb, if_true, prepV, prepC, idx, hpL', lookR, zaa, if_false]; rfl)
    case hs => (intro hb; simp only [cnd, hb, if_true]; rfl)
    case h => (first | exact swithin_spec ..))
 | (apply cl_plain
    case hs => rfl
    case ha => (simp only [zal, zan, prepV, prepC, idx, hpL', lookR, zaa, if_true, if_false]; rfl)
    case h => (first | exact swithin_spec ..))
 | ((first | refine s1_id ?_ | refine swp_id ?_ | refine sops_id ?_ | refine s2_id ?_); simp only [zaE, zaJ, zav, zaK, zaO, zaC, zaD, zaz, zaQ, zaR, zaF, zaP, hp, decide_eq_false hq, go_sem, zaa, zae, zaf, zag, zah, zad, ↓reduceIte, reduceCtorEq, zab, zac, zai, zaj, zak, zaN, zaH, zaw, zaI, renO, bk, back, outUpsFrom, Ints_ren])
 | exact fs_nil trivial rfl
 | fail)
def ckS (x : Sg) : Bool := (wn x.pm 0 1099511627776 || decide (x.pm = 4611686018427387904)) && (wn x.w 1 10000 && (cbF x && (wn x.c0 0 10000 && (wn x.c1 0 10000 && (vl x.cp 16 && (vl x.mm 8 && ((decide (x.pt = 0) || decide (x.pt = 1)) && cmF x)))))))
theorem scheck_spec (x : Sg) (h1 : x.cp.length ≤ 1000000) (h2 : x.mm.length ≤ 1000000) : FnSpec Try.prog 28 [sgt x] [] (b1 (ckS x)) [] := by
  have a1 := ckbw_spec x
  have a2 := ckmem_spec x
  have a3 := svalid_spec x.cp none 16 h1
  have a4 := svalid_spec x.mm none 8 h2
  have e : ckS x = ((wn x.pm 0 1099511627776 || decide (x.pm = 4611686018427387904)) && (wn x.w 1 10000 && (cbF x && (wn x.c0 0 10000 && (wn x.c1 0 10000 && (vl x.cp 16 && (vl x.mm 8 && ((decide (x.pt = 0) || decide (x.pt = 1)) && cmF x)))))))) := rfl
  rw [e]
  clear e
  generalize cbF x = cb at *
  generalize cmF x = cm at *
  generalize vl x.cp 16 = v1 at *
  generalize vl x.mm 8 = v2 at *
  obtain ⟨pm, w, q, pe, b, c0, c1, cp, mm, pt, m0, m1, m2, m3, m4, mt⟩ := x
  simp only [sgt, sgc] at a1 a2 a3 a4 ⊢
  refine fnspec_of mixed TT_ok TT_cl ⟨fun _ => false, fun _ => [], 0, fun _ => false, fun _ => false⟩ Try.func28 rfl (by kernel_rfl) rfl 60 rfl [.tmp 2] rfl ?_
  simp only [go_sem, zaa, zae, zaf, zag, zah, zad, ↓reduceIte, reduceCtorEq, zab, zac, zai, zaj, zak]
  repeat' (first
 | (apply cg_any
    case hl => rfl
    case ha => (intro hb; simp only [zal, zan, cnd, hb, if_true, prepV, prepC, idx, hpL', lookR, zaa, if_false]; rfl)
    case hs => (intro hb; simp only [cnd, hb, if_true]; rfl)
    case h => (first | exact swithin_spec .. | exact a1 .. | exact a2 .. | exact a3 .. | exact a4 .. | exact ckdev_spec ..))
 | (apply cl_plain
    case hs => rfl
    case ha => (simp only [zal, zan, prepV, prepC, idx, hpL', lookR, zaa, if_true, if_false]; rfl)
    case h => (first | exact swithin_spec .. | exact a1 .. | exact a2 .. | exact a3 .. | exact a4 .. | exact ckdev_spec ..))
 | ((first | refine s1_id ?_ | refine swp_id ?_ | refine sops_id ?_ | refine s2_id ?_); simp only [zaE, zaJ, zav, zaK, zaO, zaC, zaD, zaz, zaQ, zaR, zaF, zaP, go_sem, zaa, zae, zaf, zag, zah, zad, ↓reduceIte, reduceCtorEq, zab, zac, zai, zaj, zak, zaN, zaH, zaw, zaI, renO, bk, back, outUpsFrom, Ints_ren])
 | (apply fs_nil <;> (try simp only [go_sem, resV, resS, zaN, zaH, zaw, zbc, zaS, idx, renO, zaI, evS, slot, lookR, zaa, ↓reduceIte, reduceCtorEq, if_true, if_false, zaL, zaM, zal, zan, sLoad, readAt, readNeed, Ints_ren, Ints_length, Ints_getD, and_true, true_and, zaA, zaB]) <;> (try rfl))
 | fail)
  simp only [Bool.and_assoc, Bool.and_true]
end Go.Proofs.Ytcnilpdlcmpbbab
-- NEWGO
-- PRUNE: cl_lendx cl_use cl_lend
-- ISG: Cs_isG
-- FLAT: Cs_flat
namespace Go.Proofs.Ytcnilpdlcmpbbab
set_option linter.unusedVariables false
set_option linter.unusedSimpArgs false
open Go.Proofs.Ytcnilpdlcmpbbab.Sh
set_option maxRecDepth 20000
theorem dmem_spec : FnSpec Try.prog 52 [] [] (.agg [int 0, int 0, int 4611686018427387904, int 4611686018427387904, int 4611686018427387904, bool false]) [] := by
  refine fnspec_of mixed TT_ok TT_cl ⟨fun _ => false, fun _ => [], 0, fun _ => false, fun _ => false⟩ Try.func52 rfl (by kernel_rfl) rfl 2 rfl [.cell 0 44] rfl ?_
  simp only [go_sem, zaa, zae, zaf, zag, zah, zad, ↓reduceIte, reduceCtorEq, zab, zac, zai, zaj, zak]
  repeat' (first
 | with_reducible refine zar ?_ ?_
 | (intros; omega)
 | (apply fs_nil <;> (try simp only [go_sem, resV, resS, zaN, zaH, zaw, zbc, zaS, idx, renO, zaI, evS, slot, lookR, zaa, ↓reduceIte, reduceCtorEq, if_true, if_false, zaL, zaM, zal, zan, sLoad, readAt, readNeed, Ints_ren, Ints_length, Ints_getD, and_true, true_and, zaA, zaB]) <;> (try rfl))
 | fail)
theorem ddev_spec : FnSpec Try.prog 53 [] [] (.one (.gsl [] 0 0 none)) [] := by
  refine fnspec_of mixed TT_ok TT_cl ⟨fun _ => false, fun _ => [], 0, fun _ => false, fun _ => false⟩ Try.func53 rfl (by kernel_rfl) rfl 1 rfl [.tmp 0] rfl ?_
  simp only [go_sem, zaa, zae, zaf, zag, zah, zad, ↓reduceIte, reduceCtorEq, zab, zac, zai, zaj, zak]
  repeat' (first
 | (intros; (try simp only [zau, zax, zat, zas, zap, zaq, decide_eq_true_eq, decide_eq_false_iff_not] at *); omega))
  repeat' (first
 | exact fs_w trivial (svw_of cw_gnil)
 | fail)
theorem sdef_spec : FnSpec Try.prog 31 [] [] (sgt dfS) [] := by
  refine fnspec_of mixed TT_ok TT_cl ⟨fun _ => false, fun _ => [], 0, fun _ => false, fun _ => false⟩ Try.func31 rfl (by kernel_rfl) rfl 4 rfl [.cell 0 47] rfl ?_
  simp only [go_sem, zaa, zae, zaf, zag, zah, zad, ↓reduceIte, reduceCtorEq, zab, zac, zai, zaj, zak]
  repeat' (first
 | (apply cl_plain
    case hs => rfl
    case ha => (simp only [zal, zan, prepV, prepC, idx, hpL', lookR, zaa, if_true, if_false]; rfl)
    case h => (first | exact dmem_spec .. | exact ddev_spec ..))
 | ((first | refine s1_id ?_ | refine swp_id ?_ | refine sops_id ?_ | refine s2_id ?_); simp only [go_sem, zaa, zae, zaf, zag, zah, zad, ↓reduceIte, reduceCtorEq, zab, zac, zai, zaj, zak, zaN, zaH, zaw, zaI, renO, bk, back, outUpsFrom, Ints_ren])
 | (intros; (try simp only [zau, zax, zat, zas, zap, zaq, decide_eq_true_eq, decide_eq_false_iff_not] at *); omega))
  repeat' (first
 | (refine fs_w ?h1 (svw_of ?h2); (case h1 => repeat' (first | exact trivial | exact rfl | exact zay rfl | apply zar)); (case h2 => repeat' (first | ((with_reducible refine (?_ : CW _ _)); first | exact cw_gnil | exact cw_rfl _ | exact cw_niln _ _ | exact cw_cap _ _ _ _) | exact trivial | (show _ ∧ SWL _ _; apply zar) | (show _ ∧ CWL _ _; apply zar) | show CW _ _)))
 | fail)
theorem srdef_spec : FnSpec Try.prog 20 [] [] (sgt dfS) [] := by
  refine fnspec_of mixed TT_ok TT_cl ⟨fun _ => false, fun _ => [], 0, fun _ => false, fun _ => false⟩ Try.func20 rfl (by kernel_rfl) rfl 4 rfl [.cell 0 47] rfl ?_
  simp only [go_sem, zaa, zae, zaf, zag, zah, zad, ↓reduceIte, reduceCtorEq, zab, zac, zai, zaj, zak]
  repeat' (first
 | (apply cl_plain
    case hs => rfl
    case ha => (simp only [zal, zan, prepV, prepC, idx, hpL', lookR, zaa, if_true, if_false]; rfl)
    case h => (first | exact dmem_spec .. | exact ddev_spec ..))
 | ((first | refine s1_id ?_ | refine swp_id ?_ | refine sops_id ?_ | refine s2_id ?_); simp only [go_sem, zaa, zae, zaf, zag, zah, zad, ↓reduceIte, reduceCtorEq, zab, zac, zai, zaj, zak, zaN, zaH, zaw, zaI, renO, bk, back, outUpsFrom, Ints_ren])
 | (intros; (try simp only [zau, zax, zat, zas, zap, zaq, decide_eq_true_eq, decide_eq_false_iff_not] at *); omega))
  repeat' (first
 | (refine fs_w ?h1 (svw_of ?h2); (case h1 => repeat' (first | exact trivial | exact rfl | exact zay rfl | apply zar)); (case h2 => repeat' (first | ((with_reducible refine (?_ : CW _ _)); first | exact cw_gnil | exact cw_rfl _ | exact cw_niln _ _ | exact cw_cap _ _ _ _) | exact trivial | (show _ ∧ SWL _ _; apply zar) | (show _ ∧ CWL _ _; apply zar) | show CW _ _)))
 | fail)
abbrev nmt (x : Sg) : SV := .agg [int x.pm, int x.w, int x.q, int x.pe, int x.b, int x.c0, int x.c1, int x.pt, int x.m0, int x.m1, int x.m2, int x.m3, int x.m4, bool x.mt]
theorem nums_spec (x : Sg) : FnSpec Try.prog 54 [sgt x] [] (nmt x) [] := by
  obtain ⟨pm, w, q, pe, b, c0, c1, cp, mm, pt, m0, m1, m2, m3, m4, mt⟩ := x
  simp only [sgt, sgc, nmt]
  refine fnspec_of mixed TT_ok TT_cl ⟨fun _ => false, fun _ => [], 0, fun _ => false, fun _ => false⟩ Try.func54 rfl (by kernel_rfl) rfl 22 rfl [.cell 2 77] rfl ?_
  simp only [go_sem, zaa, zae, zaf, zag, zah, zad, ↓reduceIte, reduceCtorEq, zab, zac, zai, zaj, zak]
  repeat' (first
 | with_reducible refine zar ?_ ?_
 | (intros; omega)
 | (apply fs_nil <;> (try simp only [go_sem, resV, resS, zaN, zaH, zaw, zbc, zaS, idx, renO, zaI, evS, slot, lookR, zaa, ↓reduceIte, reduceCtorEq, if_true, if_false, zaL, zaM, zal, zan, sLoad, readAt, readNeed, Ints_ren, Ints_length, Ints_getD, and_true, true_and, zaA, zaB]) <;> (try rfl))
 | fail)
def smM (x y : Sg) : Bool := decide (x.m0 = y.m0) && (decide (x.m1 = y.m1) && (decide (x.m2 = y.m2) && (decide (x.m3 = y.m3) && (decide (x.m4 = y.m4) && x.mt == y.mt))))
def smS (x y : Sg) : Bool := decide (x.pm = y.pm) && (decide (x.w = y.w) && (decide (x.q = y.q) && (decide (x.pe = y.pe) && (decide (x.b = y.b) && (decide (x.c0 = y.c0) && (decide (x.c1 = y.c1) && (decide (x.cp = y.cp) && (decide (x.mm = y.mm) && (decide (x.pt = y.pt) && smM x y)))))))))
theorem ssame_spec (x y : Sg) (h1 : x.cp.length ≤ 1000000) (h2 : x.mm.length ≤ 1000000) : FnSpec Try.prog 21 [sgt x, sgt y] [] (b1 (smS x y)) [] := by
  have a1 := nums_spec x
  have a2 := nums_spec y
  have a3 := fun k k2 => sequal_spec x.cp y.cp k k2 (by omega)
  have a4 := fun k k2 => sequal_spec x.mm y.mm k k2 (by omega)
  obtain ⟨pm, w, q, pe, b, c0, c1, cp, mm, pt, m0, m1, m2, m3, m4, mt⟩ := x
  obtain ⟨pm', w', q', pe', b', c0', c1', cp', mm', pt', m0', m1', m2', m3', m4', mt'⟩ := y
  simp only [sgt, sgc, nmt] at a1 a2 a3 a4 ⊢
  refine fnspec_of mixed TT_ok TT_cl ⟨fun _ => false, fun _ => [], 0, fun _ => false, fun _ => false⟩ Try.func21 rfl (by kernel_rfl) rfl 31 rfl [.tmp 4] rfl ?_
  simp only [go_sem, zaa, zae, zaf, zag, zah, zad, ↓reduceIte, reduceCtorEq, zab, zac, zai, zaj, zak]
  repeat' (first
 | with_reducible refine zar ?_ ?_
 | (unfold OKC; kernel_rfl)
 | (unfold EDG; kernel_rfl)
 | (apply cg_any
    case hl => rfl
    case ha => (intro hb; simp only [zal, zan, cnd, hb, if_true, prepV, prepC, idx, hpL', lookR, zaa, if_false]; rfl)
    case hs => (intro hb; simp only [cnd, hb, if_true]; rfl)
    case h => (first | exact a1 .. | exact a2 .. | exact a3 .. | exact a4 .. | exact eqdev_spec ..))
 | (apply cl_plain
    case hs => rfl
    case ha => (simp only [zal, zan, prepV, prepC, idx, hpL', lookR, zaa, if_true, if_false]; rfl)
    case h => (first | exact a1 .. | exact a2 .. | exact a3 .. | exact a4 .. | exact eqdev_spec ..))
 | ((first | refine s1_id ?_ | refine swp_id ?_ | refine sops_id ?_ | refine s2_id ?_); simp only [zaE, zaJ, zav, zaK, zaO, zaC, zaD, zaz, zaQ, zaR, zaF, zaP, go_sem, zaa, zae, zaf, zag, zah, zad, ↓reduceIte, reduceCtorEq, zab, zac, zai, zaj, zak, zaN, zaH, zaw, zaI, renO, bk, back, outUpsFrom, Ints_ren])
 | (apply fs_nil <;> (try simp only [go_sem, resV, resS, zaN, zaH, zaw, zbc, zaS, idx, renO, zaI, evS, slot, lookR, zaa, ↓reduceIte, reduceCtorEq, if_true, if_false, zaL, zaM, zal, zan, sLoad, readAt, readNeed, Ints_ren, Ints_length, Ints_getD, and_true, true_and, zaA, zaB]) <;> (try rfl))
 | fail)
  simp only [smS, smM]
  congr 3
  ac_rfl
end Go.Proofs.Ytcnilpdlcmpbbab
-- NEWGO
-- PRUNE: cl_lendx cl_use cl_lend
-- ISG: Cs_isG
-- FLAT: Cs_flat
namespace Go.Proofs.Ytcnilpdlcmpbbab
set_option linter.unusedVariables false
set_option linter.unusedSimpArgs false
open Go.Proofs.Ytcnilpdlcmpbbab.Sh
set_option maxRecDepth 20000
theorem icl_own (c : List Int) (k : Option Nat) (h1 : c.length ≤ 1000000) : FnSpec Try.prog 82 [gi c k] [] (.one (.osl 0 0 c.length none)) [some ⟨Ints c, 1⟩] := by
  by_cases h0 : 0 < c.length
  · refine fnspec_of mixed TT_ok TT_cl ⟨fun _ => false, fun _ => [], 0, fun _ => false, fun _ => false⟩ Try.func82 rfl (by kernel_rfl) rfl 8 rfl [.tmp 2] rfl ?_
    simp only [go_sem, zaa, zae, zaf, zag, zah, zad, ↓reduceIte, reduceCtorEq, zab, zac, zai, zaj, zak]
    repeat' (first
 | with_reducible refine zar ?_ ?_
 | (intros; omega)
 | (intros; (try simp only [zau, zax, zat, zas, zap, zaq, decide_eq_true_eq, decide_eq_false_iff_not] at *); omega))
    (refine fs_flat [(5, ⟨Ints c, 1⟩)] (by simp) (by simp only [zal, zan]; decide) (by simp only [go_sem, resV, resS, zaN, zaH, zaw, zbc, zaS, idx, renO, zaI, evS, slot, lookR, zaa, ↓reduceIte, reduceCtorEq, if_true, if_false, zaL, zaM, zal, zan, sLoad, readAt, readNeed, Ints_ren, Ints_length, Ints_getD, and_true, true_and, zaA, zaB]; try decide) ?_ (by simp only [zam, zao, false_implies, implies_true, and_true, zaS, lookR, zaa, if_true, if_false, ↓reduceIte] <;> (repeat' apply zar) <;> (first | rfl | trivial)) (by simp only [zam, zao, false_implies, implies_true, and_true, true_and, flat_cons, flat_nil, flat_ints, flat_bools, flat_app, zaT, and_self, eq_self_iff_true, zav]) ?_ <;> (try simp only [go_sem, resV, resS, zaN, zaH, zaw, zbc, zaS, idx, renO, zaI, evS, slot, lookR, zaa, ↓reduceIte, reduceCtorEq, if_true, if_false, zaL, zaM, zal, zan, sLoad, readAt, readNeed, Ints_ren, Ints_length, Ints_getD, and_true, true_and, zaA, zaB]) <;> (try rfl))
  · have hn : c = [] := List.length_eq_zero_iff.1 (by omega)
    subst hn
    refine FnSpec.niln (FnSpec.nilrow 1 ?_) (fun ad cc => ?_)
    · refine fnspec_of mixed TT_ok TT_cl ⟨fun _ => false, fun _ => [], 0, fun _ => false, fun _ => false⟩ Try.func82 rfl (by kernel_rfl) rfl 8 rfl [.tmp 2] rfl ?_
      simp only [go_sem, zaa, zae, zaf, zag, zah, zad, ↓reduceIte, reduceCtorEq, zab, zac, zai, zaj, zak]
      repeat' (first
 | exact fs_nil trivial rfl
 | fail)
    · refine fnspec_of mixed TT_ok TT_cl ⟨fun _ => false, fun _ => [], 0, fun _ => false, fun _ => false⟩ Try.func82 rfl (by kernel_rfl) rfl 8 rfl [.tmp 2] rfl ?_
      simp only [go_sem, zaa, zae, zaf, zag, zah, zad, ↓reduceIte, reduceCtorEq, zab, zac, zai, zaj, zak]
      repeat' (first
 | (intros; (try simp only [zau, zax, zat, zas, zap, zaq, decide_eq_true_eq, decide_eq_false_iff_not] at *); omega))
      (refine fs_flat [(5, ⟨[], 1⟩)] (by simp) (by simp only [zal, zan]; decide) (by simp only [go_sem, resV, resS, zaN, zaH, zaw, zbc, zaS, idx, renO, zaI, evS, slot, lookR, zaa, ↓reduceIte, reduceCtorEq, if_true, if_false, zaL, zaM, zal, zan, sLoad, readAt, readNeed, Ints_ren, Ints_length, Ints_getD, and_true, true_and, zaA, zaB]; try decide) ?_ (by simp only [zam, zao, false_implies, implies_true, and_true, zaS, lookR, zaa, if_true, if_false, ↓reduceIte] <;> (repeat' apply zar) <;> (first | rfl | trivial)) (by simp only [zam, zao, false_implies, implies_true, and_true, true_and, flat_cons, flat_nil, flat_ints, flat_bools, flat_app, zaT, and_self, eq_self_iff_true, zav]) ?_ <;> (try simp only [go_sem, resV, resS, zaN, zaH, zaw, zbc, zaS, idx, renO, zaI, evS, slot, lookR, zaa, ↓reduceIte, reduceCtorEq, if_true, if_false, zaL, zaM, zal, zan, sLoad, readAt, readNeed, Ints_ren, Ints_length, Ints_getD, and_true, true_and, zaA, zaB]) <;> (try rfl))
theorem icl_spec (c : List Int) (k : Option Nat) (h1 : c.length ≤ 1000000) : FnSpec Try.prog 82 [gi c k] [] (gi c none) [] := by
  have h := (icl_own c k h1).frz1 (Ints_isG _)
  simpa only [SV.frz, SV.frzL, zbi, zal, zan, if_true] using h
theorem dcl_own : FnSpec Try.prog 83 [nod] [] (.one (.osl 0 0 0 none)) [some ⟨[], 7⟩] := by
  refine FnSpec.niln (FnSpec.nilrow 7 ?_) (fun ad cc => ?_)
  · refine fnspec_of mixed TT_ok TT_cl ⟨fun _ => false, fun _ => [], 0, fun _ => false, fun _ => false⟩ Try.func83 rfl (by kernel_rfl) rfl 8 rfl [.tmp 2] rfl ?_
    simp only [go_sem, zaa, zae, zaf, zag, zah, zad, ↓reduceIte, reduceCtorEq, zab, zac, zai, zaj, zak]
    repeat' (first
 | exact fs_nil trivial rfl
 | fail)
  · refine fnspec_of mixed TT_ok TT_cl ⟨fun _ => false, fun _ => [], 0, fun _ => false, fun _ => false⟩ Try.func83 rfl (by kernel_rfl) rfl 8 rfl [.tmp 2] rfl ?_
    simp only [go_sem, zaa, zae, zaf, zag, zah, zad, ↓reduceIte, reduceCtorEq, zab, zac, zai, zaj, zak]
    repeat' (first
 | (intros; (try simp only [zau, zax, zat, zas, zap, zaq, decide_eq_true_eq, decide_eq_false_iff_not] at *); omega))
    (refine fs_flat [(5, ⟨[], 7⟩)] (by simp) (by simp only [zal, zan]; decide) (by simp only [go_sem, resV, resS, zaN, zaH, zaw, zbc, zaS, idx, renO, zaI, evS, slot, lookR, zaa, ↓reduceIte, reduceCtorEq, if_true, if_false, zaL, zaM, zal, zan, sLoad, readAt, readNeed, Ints_ren, Ints_length, Ints_getD, and_true, true_and, zaA, zaB]; try decide) ?_ (by simp only [zam, zao, false_implies, implies_true, and_true, zaS, lookR, zaa, if_true, if_false, ↓reduceIte] <;> (repeat' apply zar) <;> (first | rfl | trivial)) (by simp only [zam, zao, false_implies, implies_true, and_true, true_and, flat_cons, flat_nil, flat_ints, flat_bools, flat_app, zaT, and_self, eq_self_iff_true, zav]) ?_ <;> (try simp only [go_sem, resV, resS, zaN, zaH, zaw, zbc, zaS, idx, renO, zaI, evS, slot, lookR, zaa, ↓reduceIte, reduceCtorEq, if_true, if_false, zaL, zaM, zal, zan, sLoad, readAt, readNeed, Ints_ren, Ints_length, Ints_getD, and_true, true_and, zaA, zaB]) <;> (try rfl))
theorem dcl_spec : FnSpec Try.prog 83 [nod] [] nod [] := by
  have h := dcl_own.frz1 (by simp)
  simpa only [SV.frz, SV.frzL, zbi, zal, zan, if_true] using h
theorem scp_spec (x : Sg) (h1 : x.cp.length ≤ 1000000) (h2 : x.mm.length ≤ 1000000) : FnSpec Try.prog 58 [sgt x] [] (sgt x) [] := by
  have a1 := fun k => icl_spec x.cp k h1
  have a2 := fun k => icl_spec x.mm k h2
  obtain ⟨pm, w, q, pe, b, c0, c1, cp, mm, pt, m0, m1, m2, m3, m4, mt⟩ := x
  simp only [sgt, sgc] at a1 a2 ⊢
  refine fnspec_of mixed TT_ok TT_cl ⟨fun _ => false, fun _ => [], 0, fun _ => false, fun _ => false⟩ Try.func58 rfl (by kernel_rfl) rfl 16 rfl [.cell 2 47] rfl ?_
  simp only [go_sem, zaa, zae, zaf, zag, zah, zad, ↓reduceIte, reduceCtorEq, zab, zac, zai, zaj, zak]
  repeat' (first
 | with_reducible refine zar ?_ ?_
 | (apply cl_plain
    case hs => rfl
    case ha => (simp only [zal, zan, prepV, prepC, idx, hpL', lookR, zaa, if_true, if_false]; rfl)
    case h => (first | exact a1 .. | exact a2 .. | exact dcl_spec ..))
 | ((first | refine s1_id ?_ | refine swp_id ?_ | refine sops_id ?_ | refine s2_id ?_); simp only [zaE, zaJ, zav, zaK, zaO, zaC, zaD, zaz, zaQ, zaR, zaF, zaP, go_sem, zaa, zae, zaf, zag, zah, zad, ↓reduceIte, reduceCtorEq, zab, zac, zai, zaj, zak, zaN, zaH, zaw, zaI, renO, bk, back, outUpsFrom, Ints_ren])
 | (intros; omega)
 | (apply fs_nil <;> (try simp only [go_sem, resV, resS, zaN, zaH, zaw, zbc, zaS, idx, renO, zaI, evS, slot, lookR, zaa, ↓reduceIte, reduceCtorEq, if_true, if_false, zaL, zaM, zal, zan, sLoad, readAt, readNeed, Ints_ren, Ints_length, Ints_getD, and_true, true_and, zaA, zaB]) <;> (try rfl))
 | fail)
theorem srcp_spec (x : Sg) (h1 : x.cp.length ≤ 1000000) (h2 : x.mm.length ≤ 1000000) : FnSpec Try.prog 51 [sgt x] [] (sgt x) [] := by
  obtain ⟨pm, w, q, pe, b, c0, c1, cp, mm, pt, m0, m1, m2, m3, m4, mt⟩ := x
  simp only [sgt, sgc] at h1 h2 ⊢
  refine fnspec_of mixed TT_ok TT_cl ⟨fun _ => false, fun _ => [], 0, fun _ => false, fun _ => false⟩ Try.func51 rfl (by kernel_rfl) rfl 16 rfl [.cell 2 47] rfl ?_
  simp only [go_sem, zaa, zae, zaf, zag, zah, zad, ↓reduceIte, reduceCtorEq, zab, zac, zai, zaj, zak]
  repeat' (first
 | with_reducible refine zar ?_ ?_
 | (unfold OKC; kernel_rfl)
 | (unfold EDG; kernel_rfl)
 | (intros; omega)
 | (intros; (try simp only [zau, zax, zat, zas, zap, zaq, decide_eq_true_eq, decide_eq_false_iff_not] at *); omega))
  (refine fs_frz 4 ⟨Ints cp, 1⟩ (by simp only [zaS, lookR, zaa, if_true, if_false, ↓reduceIte]) (by first | exact Ints_isG _ | exact Bools_isG _ | exact Cs_isG _ | (simp [Cell.isG]; done)) ?_; simp only [frzTm, SV.frz, SV.frzL, zbi, frzHp, frzO, Ints_frz, Bools_frz, zal, zan, zaa, if_true, if_false, ↓reduceIte])
  (refine fs_frz 7 ⟨Ints mm, 1⟩ (by simp only [zaS, lookR, zaa, if_true, if_false, ↓reduceIte]) (by first | exact Ints_isG _ | exact Bools_isG _ | exact Cs_isG _ | (simp [Cell.isG]; done)) ?_; simp only [frzTm, SV.frz, SV.frzL, zbi, frzHp, frzO, Ints_frz, Bools_frz, zal, zan, zaa, if_true, if_false, ↓reduceIte])
  (refine fs_frz 14 ⟨[], 7⟩ (by simp only [zaS, lookR, zaa, if_true, if_false, ↓reduceIte]) (by first | exact Ints_isG _ | exact Bools_isG _ | exact Cs_isG _ | (simp [Cell.isG]; done)) ?_; simp only [frzTm, SV.frz, SV.frzL, zbi, frzHp, frzO, Ints_frz, Bools_frz, zal, zan, zaa, if_true, if_false, ↓reduceIte])
  repeat' (first
 | (refine fs_w ?h1 (svw_of ?h2); (case h1 => repeat' (first | exact trivial | exact rfl | exact zay rfl | apply zar)); (case h2 => repeat' (first | ((with_reducible refine (?_ : CW _ _)); first | exact cw_gnil | exact cw_rfl _ | exact cw_niln _ _ | exact cw_cap _ _ _ _) | exact trivial | (show _ ∧ SWL _ _; apply zar) | (show _ ∧ CWL _ _; apply zar) | show CW _ _)))
 | fail)
end Go.Proofs.Ytcnilpdlcmpbbab
-- NEWGO
-- PRUNE: cl_lendx cl_use cl_lend
namespace Go.Proofs.Ytcnilpdlcmpbbab
set_option linter.unusedVariables false
set_option linter.unusedSimpArgs false
open Go.Proofs.Ytcnilpdlcmpbbab.Sh
set_option maxRecDepth 20000
theorem nan_spec (a : Int) : FnSpec Try.prog 93 [i1 a] [] (b1 false) [] := by
  refine fnspec_of mixed TT_ok TT_cl ⟨fun _ => false, fun _ => [], 0, fun _ => false, fun _ => false⟩ Try.func93 rfl (by kernel_rfl) rfl 6 rfl [.tmp 2] rfl ?_
  simp only [go_sem, zaa, zae, zaf, zag, zah, zad, ↓reduceIte, reduceCtorEq, zab, zac, zai, zaj, zak]
  repeat' (first
 | exact fs_nil trivial rfl
 | fail)
theorem cmp_spec (a b : Int) : FnSpec Try.prog 91 [i1 a, i1 b] [] (i1 (cmpv a b)) [] := by
  unfold cmpv
  by_cases h1 : a < b
  · rw [if_pos h1]
    refine fnspec_of mixed TT_ok TT_cl ⟨fun _ => false, fun _ => [], 0, fun _ => false, fun _ => false⟩ Try.func91 rfl (by kernel_rfl) rfl 20 rfl [.tmp 4] rfl ?_
    simp only [go_sem, zaa, zae, zaf, zag, zah, zad, ↓reduceIte, reduceCtorEq, zab, zac, zai, zaj, zak]
    repeat' (first
 | (apply cl_plain
    case hs => rfl
    case ha => (simp only [zal, zan, prepV, prepC, idx, hpL', lookR, zaa, if_true, if_false]; rfl)
    case h => (first | exact nan_spec ..))
 | ((first | refine s1_id ?_ | refine swp_id ?_ | refine sops_id ?_ | refine s2_id ?_); simp only [decide_eq_true h1, go_sem, zaa, zae, zaf, zag, zah, zad, ↓reduceIte, reduceCtorEq, zab, zac, zai, zaj, zak, zaN, zaH, zaw, zaI, renO, bk, back, outUpsFrom, Ints_ren])
 | exact fs_nil trivial rfl
 | fail)
  rw [if_neg h1]
  by_cases h2 : b < a
  · rw [if_pos h2]
    refine fnspec_of mixed TT_ok TT_cl ⟨fun _ => false, fun _ => [], 0, fun _ => false, fun _ => false⟩ Try.func91 rfl (by kernel_rfl) rfl 20 rfl [.tmp 4] rfl ?_
    simp only [go_sem, zaa, zae, zaf, zag, zah, zad, ↓reduceIte, reduceCtorEq, zab, zac, zai, zaj, zak]
    repeat' (first
 | (apply cl_plain
    case hs => rfl
    case ha => (simp only [zal, zan, prepV, prepC, idx, hpL', lookR, zaa, if_true, if_false]; rfl)
    case h => (first | exact nan_spec ..))
 | ((first | refine s1_id ?_ | refine swp_id ?_ | refine sops_id ?_ | refine s2_id ?_); simp only [decide_eq_false h1, decide_eq_true h2, go_sem, zaa, zae, zaf, zag, zah, zad, ↓reduceIte, reduceCtorEq, zab, zac, zai, zaj, zak, zaN, zaH, zaw, zaI, renO, bk, back, outUpsFrom, Ints_ren])
 | exact fs_nil trivial rfl
 | fail)
  rw [if_neg h2]
  refine fnspec_of mixed TT_ok TT_cl ⟨fun _ => false, fun _ => [], 0, fun _ => false, fun _ => false⟩ Try.func91 rfl (by kernel_rfl) rfl 20 rfl [.tmp 4] rfl ?_
  simp only [go_sem, zaa, zae, zaf, zag, zah, zad, ↓reduceIte, reduceCtorEq, zab, zac, zai, zaj, zak]
  repeat' (first
 | (apply cl_plain
    case hs => rfl
    case ha => (simp only [zal, zan, prepV, prepC, idx, hpL', lookR, zaa, if_true, if_false]; rfl)
    case h => (first | exact nan_spec ..))
 | ((first | refine s1_id ?_ | refine swp_id ?_ | refine sops_id ?_ | refine s2_id ?_); simp only [decide_eq_false h1, decide_eq_false h2, go_sem, zaa, zae, zaf, zag, zah, zad, ↓reduceIte, reduceCtorEq, zab, zac, zai, zaj, zak, zaN, zaH, zaw, zaI, renO, bk, back, outUpsFrom, Ints_ren])
 | exact fs_nil trivial rfl
 | fail)
end Go.Proofs.Ytcnilpdlcmpbbab
-- NEWGO
-- PRUNE: cl_lendx cl_use cl_lend
-- ISG: Cs_isG
-- FLAT: Cs_flat
namespace Go.Proofs.Ytcnilpdlcmpbbab
set_option linter.unusedVariables false
set_option linter.unusedSimpArgs false
open Go.Proofs.Ytcnilpdlcmpbbab.Sh
set_option maxRecDepth 20000
def CtR (l : List Nd) : Prop := ∀ x ∈ l, -9223372036854775808 ≤ x.c ∧ x.c ≤ 9223372036854775807
theorem inRange_spec (x : Nd) (hc : -9223372036854775808 ≤ x.c ∧ x.c ≤ 9223372036854775807) : FnSpec Try.prog 88 [.agg (ndc x)] [] (b1 (rngOk x)) [] := by
  have h1 := andN_iff x.c hc
  obtain ⟨xi, xp, xn, xc, xk, xo⟩ := x
  simp only [ndc] at h1 ⊢
  unfold rngOk
  have e : (decide (0 ≤ xc) && decide (xc ≤ 31) && (decide (0 ≤ xo) && decide (xo ≤ 1048576))) = (decide (andN xc = 0) && decide (0 ≤ xo) && decide (xo ≤ 1048576)) := by
    rw [decide_eq_decide.2 h1, Bool.decide_and, Bool.and_assoc (decide (0 ≤ xc) && decide (xc ≤ 31))]
  simp only
  rw [e]
  refine fnspec_of mixed TT_ok TT_cl ⟨fun _ => false, fun _ => [], 0, fun _ => false, fun _ => false⟩ Try.func88 rfl (by kernel_rfl) rfl 17 rfl [.tmp 2] rfl ?_
  simp only [go_sem, zaa, zae, zaf, zag, zah, zad, ↓reduceIte, reduceCtorEq, zab, zac, zai, zaj, zak]
  repeat' (first
 | exact fs_nil trivial rfl
 | fail)
theorem isRoot_spec (x : Nd) (hc : -9223372036854775808 ≤ x.c ∧ x.c ≤ 9223372036854775807) : FnSpec Try.prog 76 [.agg (ndc x)] [] (b1 (rootOk x && rngOk x)) [] := by
  have h1 := inRange_spec x hc
  unfold rootOk
  obtain ⟨xi, xp, xn, xc, xk, xo⟩ := x
  simp only [ndc] at h1 ⊢
  generalize rngOk ⟨xi, xp, xn, xc, xk, xo⟩ = r at *
  cases hb : (decide (xi = 1) && decide (xp = 0) && decide (xn = []) && decide (xk = 0)) with
  | false =>
    rw [zbb]
    refine fnspec_of mixed TT_ok TT_cl ⟨fun _ => false, fun _ => [], 0, fun _ => false, fun _ => false⟩ Try.func76 rfl (by kernel_rfl) rfl 25 rfl [.tmp 2] rfl ?_
    simp only [go_sem, zaa, zae, zaf, zag, zah, zad, ↓reduceIte, reduceCtorEq, zab, zac, zai, zaj, zak, hb]
    repeat' (first
 | exact fs_nil trivial rfl
 | fail)
  | true =>
    rw [zaX]
    refine fnspec_of mixed TT_ok TT_cl ⟨fun _ => false, fun _ => [], 0, fun _ => false, fun _ => false⟩ Try.func76 rfl (by kernel_rfl) rfl 25 rfl [.tmp 2] rfl ?_
    simp only [go_sem, zaa, zae, zaf, zag, zah, zad, ↓reduceIte, reduceCtorEq, zab, zac, zai, zaj, zak, hb]
    repeat' (first
 | (apply cg_tp
    case hl => rfl
    case ha => (simp only [zal, zan, prepV, prepC, idx, hpL', lookR, zaa, if_true, if_false]; rfl)
    case hs => rfl
    case h => (first | exact h1 ..))
 | ((first | refine s1_id ?_ | refine swp_id ?_ | refine sops_id ?_ | refine s2_id ?_); simp only [hb, zaE, zaJ, zav, zaK, zaO, zaC, zaD, zaz, zaQ, zaR, zaF, zaP, go_sem, zaa, zae, zaf, zag, zah, zad, ↓reduceIte, reduceCtorEq, zab, zac, zai, zaj, zak, zaN, zaH, zaw, zaI, renO, bk, back, outUpsFrom, Ints_ren])
 | exact fs_nil trivial rfl
 | fail)
theorem isChild_spec (x : Nd) (hc : -9223372036854775808 ≤ x.c ∧ x.c ≤ 9223372036854775807) (hn : x.nm.length ≤ 1000000000) : FnSpec Try.prog 78 [.agg (ndc x)] [] (b1 (nmOk x.nm && kdOk x && rngOk x)) [] := by
  have h1 := inRange_spec x hc
  have h2 := valid_spec x.nm (by omega)
  unfold kdOk
  obtain ⟨xi, xp, xn, xc, xk, xo⟩ := x
  simp only [ndc] at h1 h2 ⊢
  generalize rngOk ⟨xi, xp, xn, xc, xk, xo⟩ = r at *
  cases hv : nmOk xn with
  | false =>
    rw [hv] at h2
    simp only [zbb]
    refine fnspec_of mixed TT_ok TT_cl ⟨fun _ => false, fun _ => [], 0, fun _ => false, fun _ => false⟩ Try.func78 rfl (by kernel_rfl) rfl 20 rfl [.tmp 2] rfl ?_
    simp only [go_sem, zaa, zae, zaf, zag, zah, zad, ↓reduceIte, reduceCtorEq, zab, zac, zai, zaj, zak]
    repeat' (first
 | (apply cl_plain
    case hs => rfl
    case ha => (simp only [zal, zan, prepV, prepC, idx, hpL', lookR, zaa, if_true, if_false]; rfl)
    case h => (first | exact h2 ..))
 | ((first | refine s1_id ?_ | refine swp_id ?_ | refine sops_id ?_ | refine s2_id ?_); simp only [zaE, zaJ, zav, zaK, zaO, zaC, zaD, zaz, zaQ, zaR, zaF, zaP, go_sem, zaa, zae, zaf, zag, zah, zad, ↓reduceIte, reduceCtorEq, zab, zac, zai, zaj, zak, zaN, zaH, zaw, zaI, renO, bk, back, outUpsFrom, Ints_ren])
 | exact fs_nil trivial rfl
 | fail)
  | true =>
    rw [hv] at h2
    simp only [zaX]
    cases hb : (decide (xk = 0) || decide (xk = 1)) with
    | false =>
      rw [zbb]
      refine fnspec_of mixed TT_ok TT_cl ⟨fun _ => false, fun _ => [], 0, fun _ => false, fun _ => false⟩ Try.func78 rfl (by kernel_rfl) rfl 20 rfl [.tmp 2] rfl ?_
      simp only [go_sem, zaa, zae, zaf, zag, zah, zad, ↓reduceIte, reduceCtorEq, zab, zac, zai, zaj, zak, hb]
      repeat' (first
 | (apply cl_plain
    case hs => rfl
    case ha => (simp only [zal, zan, prepV, prepC, idx, hpL', lookR, zaa, if_true, if_false]; rfl)
    case h => (first | exact h1 .. | exact h2 ..))
 | ((first | refine s1_id ?_ | refine swp_id ?_ | refine sops_id ?_ | refine s2_id ?_); simp only [hb, zaE, zaJ, zav, zaK, zaO, zaC, zaD, zaz, zaQ, zaR, zaF, zaP, go_sem, zaa, zae, zaf, zag, zah, zad, ↓reduceIte, reduceCtorEq, zab, zac, zai, zaj, zak, zaN, zaH, zaw, zaI, renO, bk, back, outUpsFrom, Ints_ren])
 | exact fs_nil trivial rfl
 | fail)
    | true =>
      rw [zaX]
      refine fnspec_of mixed TT_ok TT_cl ⟨fun _ => false, fun _ => [], 0, fun _ => false, fun _ => false⟩ Try.func78 rfl (by kernel_rfl) rfl 20 rfl [.tmp 2] rfl ?_
      simp only [go_sem, zaa, zae, zaf, zag, zah, zad, ↓reduceIte, reduceCtorEq, zab, zac, zai, zaj, zak, hb]
      repeat' (first
 | (apply cg_tp
    case hl => rfl
    case ha => (simp only [zal, zan, prepV, prepC, idx, hpL', lookR, zaa, if_true, if_false]; rfl)
    case hs => rfl
    case h => (first | exact h1 .. | exact h2 ..))
 | (apply cl_plain
    case hs => rfl
    case ha => (simp only [zal, zan, prepV, prepC, idx, hpL', lookR, zaa, if_true, if_false]; rfl)
    case h => (first | exact h1 .. | exact h2 ..))
 | ((first | refine s1_id ?_ | refine swp_id ?_ | refine sops_id ?_ | refine s2_id ?_); simp only [hb, zaE, zaJ, zav, zaK, zaO, zaC, zaD, zaz, zaQ, zaR, zaF, zaP, go_sem, zaa, zae, zaf, zag, zah, zad, ↓reduceIte, reduceCtorEq, zab, zac, zai, zaj, zak, zaN, zaH, zaw, zaI, renO, bk, back, outUpsFrom, Ints_ren])
 | exact fs_nil trivial rfl
 | fail)
set_option maxHeartbeats 4000000 in
theorem taken_spec (l : List Nd) (k : Option Nat) (p : Int) (s : Str) (hl : l.length ≤ 1000000) : FnSpec Try.prog 79 [gr l k, i1 p, s1 s] [] (b1 (l.any (same1 p s))) [] := by
  have hnl := nd_len l
  refine fnspec_of mixed TT_ok TT_cl ⟨fun _ => false, fun _ => [], 0, fun _ => false, fun _ => false⟩ Try.func79 rfl (by kernel_rfl) rfl 30 rfl [.tmp 6] rfl ?_
  simp only [go_sem, zaa, zae, zaf, zag, zah, zad, ↓reduceIte, reduceCtorEq, zab, zac, zai, zaj, zak]
  repeat' (first
 | (intros; (try simp only [zau, zax, zat, zas, zap, zaq, decide_eq_true_eq, decide_eq_false_iff_not] at *); omega))
  refine w_loop (ι := Nat) (fun m => ⟨[(0, gr l k), (1, i1 p), (2, s1 s), (9, i1 l.length), (10, i1 m)], [], 0⟩) (fun m => m ≤ l.length ∧ (l.take m).any (same1 p s) = false) (fun m => l.length - m) 0 ?_ ⟨zaU _, rfl⟩ ?_
  · (refine imp_ren _ _ _ [] (by simp) (by simp) (by simp) (zay rfl) ?_ rfl (by simp only [zam, zao, false_implies, implies_true, and_true, zaS, lookR, zaa, if_true, if_false, ↓reduceIte] <;> (repeat' apply zar) <;> (first | rfl | trivial)) (by simp only [zam, zao, false_implies, implies_true, and_true, true_and, flat_cons, flat_nil, flat_ints, flat_bools, flat_app, zaT, and_self, eq_self_iff_true, zav]); simp only [zal, zan, zam, zao, false_implies, implies_true, and_true, lk, slot, zaN, zaw, toN, zaa, if_true, if_false, ↓reduceIte, reduceCtorEq])
    all_goals ((repeat' apply zar) <;> (first | rfl | trivial))
  rintro m ⟨hm, hno⟩
  simp only at hm hno ⊢
  rcases zba m l.length with hlt | hge
  case inr =>
    have c : ¬ (m : Int) < (l.length : Int) := by omega
    rw [zbd hge] at hno
    rw [hno]
    simp only [go_sem, zaa, zae, zaf, zag, zah, zad, ↓reduceIte, reduceCtorEq, zab, zac, zai, zaj, zak, decide_eq_false c]
    repeat' (first
 | exact fs_nil trivial rfl
 | fail)
  have c : (m : Int) < (l.length : Int) := by omega
  obtain ⟨_, g2, _⟩ := nd_f l m hlt (.sc (.int .i64 0))
  have g3 := (nd_f l m hlt (.sc (.string (bs [])))).2.2.1
  have hs2 := any_take_succ l m hlt (same1 p s)
  have hsm : same1 p s (gN l m) = (decide ((gN l m).p = p) && decide ((gN l m).nm = s)) := rfl
  rw [hno, Bool.false_or] at hs2
  cases hdup : same1 p s (gN l m) with
  | true =>
    have hany : l.any (same1 p s) = true := List.any_eq_true.2 ⟨gN l m, getD_mem l m zn hlt, hdup⟩
    rw [hany]
    rw [hsm] at hdup
    simp only [go_sem, zaa, zae, zaf, zag, zah, zad, ↓reduceIte, reduceCtorEq, zab, zac, zai, zaj, zak, decide_eq_true c, g2, g3, hdup]
    repeat' (first
 | with_reducible refine zar ?_ ?_
 | (intros; omega)
 | exact fs_nil trivial rfl
 | fail)
  | false =>
    rw [hdup] at hs2
    rw [hsm] at hdup
    simp only [go_sem, zaa, zae, zaf, zag, zah, zad, ↓reduceIte, reduceCtorEq, zab, zac, zai, zaj, zak, decide_eq_true c, g2, g3, hdup]
    repeat' (first
 | with_reducible refine zar ?_ ?_
 | (intros; omega)
 | (intros; (try simp only [zau, zax, zat, zas, zap, zaq, decide_eq_true_eq, decide_eq_false_iff_not] at *); omega))
    refine le_mk (m + 1) ?_ ⟨hlt, hs2⟩ (by omega)
    (refine imp_ren _ _ _ [] (by simp) (by simp) (by simp) (zay rfl) ?_ rfl (by simp only [zam, zao, false_implies, implies_true, and_true, zaS, lookR, zaa, if_true, if_false, ↓reduceIte] <;> (repeat' apply zar) <;> (first | rfl | trivial)) (by simp only [zam, zao, false_implies, implies_true, and_true, true_and, flat_cons, flat_nil, flat_ints, flat_bools, flat_app, zaT, and_self, eq_self_iff_true, zav]); simp only [zal, zan, zam, zao, false_implies, implies_true, and_true, lk, slot, zaN, zaw, toN, zaa, if_true, if_false, ↓reduceIte, reduceCtorEq])
    all_goals ((repeat' apply zar) <;> (first | rfl | trivial | (simp only [zaG]; done) | (simp only [zaG]; rfl) | (simp only [zaG]; trivial)))
set_option maxHeartbeats 4000000 in
theorem nd_bs (g : FuncId) (xs : List (Nd)) (id : Int) (hg : ∀ x ∈ xs, FnSpec Try.prog g [.agg (Rec.cs x), i1 id] [] (i1 (cmpv (Nd.i x) id)) []) (cap : Option Nat)
    (hl : xs.length ≤ 4611686018427387904) : FnSpec Try.prog 89 [gr xs cap, i1 id, .one (.fn g [])] [] (.tup [i1 (bsV Nd.i xs id), b1 (bsF Nd.i xs id)]) [] := by
  have hil : (Cs xs).length = xs.length * 6 := Cs_len xs
  refine fnspec_of mixed TT_ok TT_cl ⟨fun _ => false, fun _ => [], 0, fun _ => false, fun _ => false⟩ Try.func89 rfl (by kernel_rfl) rfl 49 rfl [.tmp 6, .tmp 7] rfl ?_
  simp only [go_sem, zaa, zae, zaf, zag, zah, zad, ↓reduceIte, reduceCtorEq, zab, zac, zai, zaj, zak]
  repeat' (first
 | (intros; (try simp only [zau, zax, zat, zas, zap, zaq, decide_eq_true_eq, decide_eq_false_iff_not] at *); omega))
  refine w_loop (ι := Nat × Nat) (fun s => ⟨[(0, gr xs cap), (1, i1 id), (2, .one (.fn g [])), (8, i1 xs.length), (9, i1 s.1), (10, i1 s.2)], [], 0⟩) (fun s => s.1 ≤ s.2 ∧ s.2 ≤ xs.length ∧ bsG (fun i => Nd.i (xs.getD i Rec.z)) id (s.2 - s.1) s.1 s.2 = bsV Nd.i xs id) (fun s => s.2 - s.1) (0, xs.length) ?_ ⟨zaU _, zbe _, rfl⟩ ?_
  · (refine imp_ren _ _ _ [] (by simp) (by simp) (by simp) (zay rfl) ?_ rfl (by simp only [zam, zao, false_implies, implies_true, and_true, zaS, lookR, zaa, if_true, if_false, ↓reduceIte] <;> (repeat' apply zar) <;> (first | rfl | trivial)) (by simp only [zam, zao, false_implies, implies_true, and_true, true_and, flat_cons, flat_nil, flat_ints, flat_bools, flat_app, zaT, and_self, eq_self_iff_true, zav]); simp only [zal, zan, zam, zao, false_implies, implies_true, and_true, lk, slot, zaN, zaw, toN, zaa, if_true, if_false, ↓reduceIte, reduceCtorEq])
    all_goals ((repeat' apply zar) <;> (first | rfl | trivial))
  rintro ⟨i, j⟩ ⟨hij, hjl, hb⟩
  simp only at hij hjl hb ⊢
  by_cases hlt : i < j
  · have hlt' : (i : Int) < (j : Int) := by omega
    have hsh : ((i : Int) + j).fdiv (2 ^ min (Int.toNat 1) 64) = (((i + j) / 2 : Nat) : Int) := by
      have e : (2 : Int) ^ min (Int.toNat 1) 64 = 2 := rfl
      rw [e, Int.fdiv_eq_ediv_of_nonneg _ (by omega)]; omega
    obtain ⟨h, hh⟩ : ∃ h, h = (i + j) / 2 := ⟨_, rfl⟩
    rw [← hh] at hsh
    have hhl : h < xs.length := by omega
    have hat : zbf 6 (zbh (h * 6) (Cs xs)) = Rec.cs (xs.getD h Rec.z) := Cs_td xs h hhl
    have hhi : (h : Int) < (xs.length : Int) := by omega
    have hb' := bsG_fuel (fun i => Nd.i (xs.getD i Rec.z)) id (j - i) (j - i - 1 + 1) i j (zbe _) (by omega)
    rw [hb, bsG, if_pos hlt, ← hh] at hb'
    have hix := hg _ (getD_mem xs h Rec.z hhl)
    obtain ⟨b, hbb⟩ : ∃ b, xs.getD h Rec.z = b := ⟨_, rfl⟩
    rw [hbb] at hat hix hb'
    have hcs : Rec.cs b = [int b.i, int b.p, st b.nm, int b.c, int b.k, int b.o] := rfl
    rw [hcs] at hat hix
    have hcl := cmpv_lt (Nd.i b) id
    by_cases hc : Nd.i b < id
    · rw [if_pos hc] at hb'
      rw [decide_eq_true hc] at hcl
      generalize cmpv (Nd.i b) id = cv at *
      simp only [go_sem, zaa, zae, zaf, zag, zah, zad, ↓reduceIte, reduceCtorEq, zab, zac, zai, zaj, zak, decide_eq_true hlt', hsh, hat]
      repeat' (first
 | with_reducible refine zar ?_ ?_
 | (apply cl_plain
    case hs => rfl
    case ha => (simp only [zal, zan, prepV, prepC, idx, hpL', lookR, zaa, if_true, if_false]; rfl)
    case h => (first | exact hix ..))
 | ((first | refine s1_id ?_ | refine swp_id ?_ | refine sops_id ?_ | refine s2_id ?_); simp only [decide_eq_true hlt', hsh, hat, hcl, go_sem, zaa, zae, zaf, zag, zah, zad, ↓reduceIte, reduceCtorEq, zab, zac, zai, zaj, zak, zaN, zaH, zaw, zaI, renO, bk, back, outUpsFrom, Ints_ren])
 | (intros; omega)
 | (intros; (try simp only [zau, zax, zat, zas, zap, zaq, decide_eq_true_eq, decide_eq_false_iff_not] at *); omega))
      refine le_mk (h + 1, j) ?_ ⟨by show h + 1 ≤ j; omega, hjl, by show bsG _ id (j - (h + 1)) (h + 1) j = bsV Nd.i xs id; rw [hb']; exact bsG_fuel _ id _ _ _ _ (zbe _) (by omega)⟩ (by show j - (h + 1) < j - i; omega)
      (refine imp_ren _ _ _ [] (by simp) (by simp) (by simp) (zay rfl) ?_ rfl (by simp only [zam, zao, false_implies, implies_true, and_true, zaS, lookR, zaa, if_true, if_false, ↓reduceIte] <;> (repeat' apply zar) <;> (first | rfl | trivial)) (by simp only [zam, zao, false_implies, implies_true, and_true, true_and, flat_cons, flat_nil, flat_ints, flat_bools, flat_app, zaT, and_self, eq_self_iff_true, zav]); simp only [zal, zan, zam, zao, false_implies, implies_true, and_true, lk, slot, zaN, zaw, toN, zaa, if_true, if_false, ↓reduceIte, reduceCtorEq])
      all_goals ((repeat' apply zar) <;> (first | rfl | trivial | (simp only [zaG]; done) | (simp only [zaG]; rfl) | (simp only [zaG]; trivial)))
    · rw [if_neg hc] at hb'
      rw [decide_eq_false hc] at hcl
      generalize cmpv (Nd.i b) id = cv at *
      simp only [go_sem, zaa, zae, zaf, zag, zah, zad, ↓reduceIte, reduceCtorEq, zab, zac, zai, zaj, zak, decide_eq_true hlt', hsh, hat]
      repeat' (first
 | with_reducible refine zar ?_ ?_
 | (apply cl_plain
    case hs => rfl
    case ha => (simp only [zal, zan, prepV, prepC, idx, hpL', lookR, zaa, if_true, if_false]; rfl)
    case h => (first | exact hix ..))
 | ((first | refine s1_id ?_ | refine swp_id ?_ | refine sops_id ?_ | refine s2_id ?_); simp only [decide_eq_true hlt', hsh, hat, hcl, go_sem, zaa, zae, zaf, zag, zah, zad, ↓reduceIte, reduceCtorEq, zab, zac, zai, zaj, zak, zaN, zaH, zaw, zaI, renO, bk, back, outUpsFrom, Ints_ren])
 | (intros; omega)
 | (intros; (try simp only [zau, zax, zat, zas, zap, zaq, decide_eq_true_eq, decide_eq_false_iff_not] at *); omega))
      refine le_mk (i, h) ?_ ⟨by show i ≤ h; omega, by show h ≤ xs.length; omega, by show bsG _ id (h - i) i h = bsV Nd.i xs id; rw [hb']; exact bsG_fuel _ id _ _ _ _ (zbe _) (by omega)⟩ (by show h - i < j - i; omega)
      (refine imp_ren _ _ _ [] (by simp) (by simp) (by simp) (zay rfl) ?_ rfl (by simp only [zam, zao, false_implies, implies_true, and_true, zaS, lookR, zaa, if_true, if_false, ↓reduceIte] <;> (repeat' apply zar) <;> (first | rfl | trivial)) (by simp only [zam, zao, false_implies, implies_true, and_true, true_and, flat_cons, flat_nil, flat_ints, flat_bools, flat_app, zaT, and_self, eq_self_iff_true, zav]); simp only [zal, zan, zam, zao, false_implies, implies_true, and_true, lk, slot, zaN, zaw, toN, zaa, if_true, if_false, ↓reduceIte, reduceCtorEq])
      all_goals ((repeat' apply zar) <;> (first | rfl | trivial))
  · have hlt' : ¬ (i : Int) < (j : Int) := by omega
    have hi : i = bsV Nd.i xs id := by
      have e : j - i = 0 := by omega
      rw [e] at hb
      exact hb
    subst hi
    unfold bsF
    by_cases hin : bsV Nd.i xs id < xs.length
    · have hin' : ((bsV Nd.i xs id : Nat) : Int) < (xs.length : Int) := by omega
      have hat : zbf 6 (zbh (bsV Nd.i xs id * 6) (Cs xs)) = Rec.cs (xs.getD (bsV Nd.i xs id) Rec.z) := Cs_td xs _ hin
      have hix := hg _ (getD_mem xs (bsV Nd.i xs id) Rec.z hin)
      rw [decide_eq_true hin, zaX]
      obtain ⟨b, hbb⟩ : ∃ b, xs.getD (bsV Nd.i xs id) Rec.z = b := ⟨_, rfl⟩
      rw [hbb] at hat hix ⊢
      have hcs : Rec.cs b = [int b.i, int b.p, st b.nm, int b.c, int b.k, int b.o] := rfl
      rw [hcs] at hat hix
      have hce := cmpv_eq (Nd.i b) id
      generalize cmpv (Nd.i b) id = cv at *
      generalize bsV Nd.i xs id = v at *
      simp only [go_sem, zaa, zae, zaf, zag, zah, zad, ↓reduceIte, reduceCtorEq, zab, zac, zai, zaj, zak, decide_eq_false hlt', decide_eq_true hin', hat]
      repeat' (first
 | with_reducible refine zar ?_ ?_
 | (apply cg_tp
    case hl => rfl
    case ha => (simp only [zal, zan, prepV, prepC, idx, hpL', lookR, zaa, if_true, if_false]; rfl)
    case hs => rfl
    case h => (first | exact hix ..))
 | ((first | refine s1_id ?_ | refine swp_id ?_ | refine sops_id ?_ | refine s2_id ?_); simp only [decide_eq_false hlt', decide_eq_true hin', hat, hce, go_sem, zaa, zae, zaf, zag, zah, zad, ↓reduceIte, reduceCtorEq, zab, zac, zai, zaj, zak, zaN, zaH, zaw, zaI, renO, bk, back, outUpsFrom, Ints_ren])
 | (intros; omega)
 | exact fs_nil trivial rfl
 | fail)
    · have hin' : ¬ ((bsV Nd.i xs id : Nat) : Int) < (xs.length : Int) := by omega
      rw [decide_eq_false hin, zbb]
      generalize bsV Nd.i xs id = v at *
      simp only [go_sem, zaa, zae, zaf, zag, zah, zad, ↓reduceIte, reduceCtorEq, zab, zac, zai, zaj, zak, decide_eq_false hlt', decide_eq_false hin']
      repeat' (first
 | exact fs_nil trivial rfl
 | fail)
theorem tix_spec (x : Nd) (id : Int) : FnSpec Try.prog 90 [.agg (Rec.cs x), i1 id] [] (i1 (cmpv (Nd.i x) id)) [] := by
  show FnSpec Try.prog 90 [.agg (ndc x), i1 id] [] (i1 (cmpv (Nd.i x) id)) []
  obtain ⟨xi, xp, xn, xc, xk, xo⟩ := x
  simp only [ndc]
  have h1 := cmp_spec xi id
  refine fnspec_of mixed TT_ok TT_cl ⟨fun _ => false, fun _ => [], 0, fun _ => false, fun _ => false⟩ Try.func90 rfl (by kernel_rfl) rfl 9 rfl [.tmp 4] rfl ?_
  simp only [go_sem, zaa, zae, zaf, zag, zah, zad, ↓reduceIte, reduceCtorEq, zab, zac, zai, zaj, zak]
  repeat' (first
 | (apply cl_plain
    case hs => rfl
    case ha => (simp only [zal, zan, prepV, prepC, idx, hpL', lookR, zaa, if_true, if_false]; rfl)
    case h => (first | exact h1 ..))
 | ((first | refine s1_id ?_ | refine swp_id ?_ | refine sops_id ?_ | refine s2_id ?_); simp only [zaE, zaJ, zav, zaK, zaO, zaC, zaD, zaz, zaQ, zaR, zaF, zaP, go_sem, zaa, zae, zaf, zag, zah, zad, ↓reduceIte, reduceCtorEq, zab, zac, zai, zaj, zak, zaN, zaH, zaw, zaI, renO, bk, back, outUpsFrom, Ints_ren])
 | exact fs_nil trivial rfl
 | fail)
theorem index_spec (l : List Nd) (k : Option Nat) (id : Int) (hl : l.length ≤ 1000000) : FnSpec Try.prog 77 [gr l k, i1 id] [] (.tup [i1 (bsV Nd.i l id), b1 (bsF Nd.i l id)]) [] := by
  have h1 := nd_bs 90 l id (fun x _ => tix_spec x id) k (by omega)
  refine fnspec_of mixed TT_ok TT_cl ⟨fun _ => false, fun _ => [], 0, fun _ => false, fun _ => false⟩ Try.func77 rfl (by kernel_rfl) rfl 11 rfl [.tmp 4, .tmp 5] rfl ?_
  simp only [go_sem, zaa, zae, zaf, zag, zah, zad, ↓reduceIte, reduceCtorEq, zab, zac, zai, zaj, zak]
  repeat' (first
 | (apply cl_plain
    case hs => rfl
    case ha => (simp only [zal, zan, prepV, prepC, idx, hpL', lookR, zaa, if_true, if_false]; rfl)
    case h => (first | exact h1 ..))
 | ((first | refine s1_id ?_ | refine swp_id ?_ | refine sops_id ?_ | refine s2_id ?_); simp only [go_sem, zaa, zae, zaf, zag, zah, zad, ↓reduceIte, reduceCtorEq, zab, zac, zai, zaj, zak, zaN, zaH, zaw, zaI, renO, bk, back, outUpsFrom, Ints_ren])
 | exact fs_nil trivial rfl
 | fail)
end Go.Proofs.Ytcnilpdlcmpbbab
-- NEWGO
-- PRUNE: cl_lendx cl_use cl_lend
-- ISG: Cs_isG
-- FLAT: Cs_flat
namespace Go.Proofs.Ytcnilpdlcmpbbab
set_option linter.unusedVariables false
set_option linter.unusedSimpArgs false
open Go.Proofs.Ytcnilpdlcmpbbab.Sh
set_option maxRecDepth 20000
structure CkI (l : List Nd) (m : Nat) : Prop where
  le : m ≤ l.length
  p1 : 1 ≤ m
  st : ∀ i, i < m → stOk l i = true
  dp : ∀ i, i < m → (upL (l.take (i + 1)) (gN l i).i).length ≤ 9
theorem CkI.asc {l : List Nd} {m : Nat} (h : CkI l m) : AscI (l.take m) := by
  refine asc_of_step fun i h0 hi => ?_
  rw [zaV] at hi
  rw [gN_take l m _ (by omega), gN_take l m i (by omega)]
  have hle := h.le
  exact (stOk_ch (by omega) h0 (h.st i (by omega))).lt
def dps (l : List Nd) (m : Nat) : List Int := (List.range 64).map fun i => if i < m then (((upL (l.take (i + 1)) (gN l i).i).length : Int) - 1) else 0
theorem dps_len (l : List Nd) (m : Nat) : (dps l m).length = 64 := by simp [dps]
theorem dps_at (l : List Nd) (m i : Nat) (hi : i < 64) : (dps l m).getD i 0 = if i < m then (((upL (l.take (i + 1)) (gN l i).i).length : Int) - 1) else 0 := by
  simp [dps, List.getD_eq_getElem?_getD, hi]
theorem dps_set (l : List Nd) (m : Nat) (hm : m < 64) : (dps l m).set m (((upL (l.take (m + 1)) (gN l m).i).length : Int) - 1) = dps l (m + 1) := by
  apply List.ext_getElem?
  intro i
  by_cases hi : i < 64
  · rw [List.getElem?_set]
    by_cases e : m = i
    · subst e
      simp [dps, hm]
    · rw [if_neg e]
      simp only [dps, List.getElem?_map, List.getElem?_range hi, Option.map_some]
      congr 1
      by_cases c : i < m
      · rw [if_pos c, if_pos (by omega)]
      · rw [if_neg c, if_neg (by omega)]
  · rw [List.getElem?_eq_none (by rw [List.length_set, dps_len]; omega), List.getElem?_eq_none (by rw [dps_len]; omega)]
theorem up_next {l : List Nd} {m j : Nat} (hA : AscI (l.take m)) (hm : m < l.length) (hj : j < m) (e : (gN l j).i = (gN l m).p) : (upL (l.take (m + 1)) (gN l m).i).length = (upL (l.take (j + 1)) (gN l j).i).length + 1 := by
  rw [upL_take l m hm, if_pos rfl, zaF, ← e]
  congr 2
  have h1 := upL_skip (l.take m) (gN l j).i (j + 1) (by rw [zaV]; omega) (fun k hk hk2 => by
    rw [zaV] at hk2
    have := hA j k (by omega) (by rw [zaV]; omega)
    rw [gN_take l m j hj, gN_take l m k (by omega)] at this
    rw [gN_take l m k (by omega)]; omega)
  rw [h1, List.take_take, Nat.min_eq_left (by omega)]
theorem up_takeA {l : List Nd} (hA : AscI l) {i : Nat} (hi : i < l.length) : upL (l.take (i + 1)) (gN l i).i = upL l (gN l i).i := by
  rw [upL_node hA hi, upL_take l i hi, if_pos rfl]
theorem index_take (l : List Nd) (k : Option Nat) (m : Nat) (id : Int) (hm : m ≤ l.length) (hl : l.length ≤ 1000000) : FnSpec Try.prog 77 [.one (.gsl (Cs l) 0 m k), i1 id] [] (.tup [i1 (bsV Nd.i (l.take m) id), b1 (bsF Nd.i (l.take m) id)]) [] := by
  have h1 := index_spec (l.take m) k id (by rw [zaV]; omega)
  have e : (l.take m).length = m := by rw [zaV]; omega
  simp only [gr, e, ← Cs_take] at h1
  exact h1.pre ⟨cw_take _ _ _ _ _, cw_rfl _, trivial⟩
theorem taken_take (l : List Nd) (k : Option Nat) (m : Nat) (p : Int) (s : Str) (hm : m ≤ l.length) (hl : l.length ≤ 1000000) : FnSpec Try.prog 79 [.one (.gsl (Cs l) 0 m k), i1 p, s1 s] [] (b1 ((l.take m).any (same1 p s))) [] := by
  have h1 := taken_spec (l.take m) k p s (by rw [zaV]; omega)
  have e : (l.take m).length = m := by rw [zaV]; omega
  simp only [gr, e, ← Cs_take] at h1
  exact h1.pre ⟨cw_take _ _ _ _ _, cw_rfl _, cw_rfl _, trivial⟩
set_option maxHeartbeats 16000000 in
theorem tchk_spec (l : List Nd) (n : Int) (hl : l.length ≤ 1000000) (hnm : NmR l) (hct : CtR l) : FnSpec Try.prog 50 [trV l none n] [] (b1 (chkT l n)) [] := by
  have hnl := nd_len l
  by_cases h1 : (l.length : Int) < 1
  · rw [chkT_not fun h => by have := h.ne; omega]
    refine fnspec_of mixed TT_ok TT_cl ⟨fun _ => false, fun _ => [], 0, fun _ => false, fun _ => false⟩ Try.func50 rfl (by kernel_rfl) rfl 108 rfl [.tmp 2] rfl ?_
    simp only [go_sem, zaa, zae, zaf, zag, zah, zad, ↓reduceIte, reduceCtorEq, zab, zac, zai, zaj, zak, decide_eq_true h1]
    repeat' (first
 | exact fs_nil trivial rfl
 | fail)
  by_cases h64 : 64 < (l.length : Int)
  · rw [chkT_not fun h => by have := h.le; omega]
    refine fnspec_of mixed TT_ok TT_cl ⟨fun _ => false, fun _ => [], 0, fun _ => false, fun _ => false⟩ Try.func50 rfl (by kernel_rfl) rfl 108 rfl [.tmp 2] rfl ?_
    simp only [go_sem, zaa, zae, zaf, zag, zah, zad, ↓reduceIte, reduceCtorEq, zab, zac, zai, zaj, zak, decide_eq_false h1, decide_eq_true h64]
    repeat' (first
 | exact fs_nil trivial rfl
 | fail)
  have h1' : 1 ≤ l.length := by omega
  have h64' : l.length ≤ 64 := by omega
  have hN0 := nd_td l 0 (by omega)
  have r1 := isRoot_spec (gN l 0) (hct _ (getD_mem l 0 zn (by omega)))
  have e0 : stOk l 0 = (rootOk (gN l 0) && rngOk (gN l 0)) := by
    unfold stOk
    rw [if_pos rfl]
    cases hr : rootOk (gN l 0) with
    | false => rw [Bool.and_false]; rfl
    | true =>
      have hk : kdOk (gN l 0) = true := by
        unfold rootOk at hr
        simp only [zau, decide_eq_true_eq] at hr
        unfold kdOk
        rw [decide_eq_true hr.2]; rfl
      rw [hk, zaX, Bool.and_true]
  rw [← e0] at r1
  have hN0' : zbf 6 (zbh (Int.toNat 0 * 6) (Cs l)) = ndc (gN l 0) := hN0
  cases hs0 : stOk l 0 with
  | false =>
    rw [chkT_not fun h => by have := h.st 0 (by omega); rw [hs0] at this; cases this]
    rw [hs0] at r1
    simp only [ndc] at hN0' r1
    refine fnspec_of mixed TT_ok TT_cl ⟨fun _ => false, fun _ => [], 0, fun _ => false, fun _ => false⟩ Try.func50 rfl (by kernel_rfl) rfl 108 rfl [.tmp 2] rfl ?_
    simp only [go_sem, zaa, zae, zaf, zag, zah, zad, ↓reduceIte, reduceCtorEq, zab, zac, zai, zaj, zak, decide_eq_false h1, decide_eq_false h64, hN0']
    repeat' (first
 | with_reducible refine zar ?_ ?_
 | (apply cg_tp
    case hl => rfl
    case ha => (simp only [zal, zan, prepV, prepC, idx, hpL', lookR, zaa, if_true, if_false]; rfl)
    case hs => rfl
    case h => (first | exact r1 ..))
 | ((first | refine s1_id ?_ | refine swp_id ?_ | refine sops_id ?_ | refine s2_id ?_); simp only [decide_eq_false h1, decide_eq_false h64, hN0', go_sem, zaa, zae, zaf, zag, zah, zad, ↓reduceIte, reduceCtorEq, zab, zac, zai, zaj, zak, zaN, zaH, zaw, zaI, renO, bk, back, outUpsFrom, Ints_ren])
 | (intros; omega)
 | exact fs_nil trivial rfl
 | fail)
  | true =>
  rw [hs0] at r1
  simp only [ndc] at hN0' r1
  refine fnspec_of mixed TT_ok TT_cl ⟨fun _ => false, fun _ => [], 0, fun _ => false, fun _ => false⟩ Try.func50 rfl (by kernel_rfl) rfl 108 rfl [.tmp 2] rfl ?_
  simp only [go_sem, zaa, zae, zaf, zag, zah, zad, ↓reduceIte, reduceCtorEq, zab, zac, zai, zaj, zak, decide_eq_false h1, decide_eq_false h64, hN0']
  repeat' (first
 | with_reducible refine zar ?_ ?_
 | (apply cg_tp
    case hl => rfl
    case ha => (simp only [zal, zan, prepV, prepC, idx, hpL', lookR, zaa, if_true, if_false]; rfl)
    case hs => rfl
    case h => (first | exact r1 ..))
 | ((first | refine s1_id ?_ | refine swp_id ?_ | refine sops_id ?_ | refine s2_id ?_); simp only [decide_eq_false h1, decide_eq_false h64, hN0', go_sem, zaa, zae, zaf, zag, zah, zad, ↓reduceIte, reduceCtorEq, zab, zac, zai, zaj, zak, zaN, zaH, zaw, zaI, renO, bk, back, outUpsFrom, Ints_ren])
 | (intros; omega)
 | (intros; (try simp only [zau, zax, zat, zas, zap, zaq, decide_eq_true_eq, decide_eq_false_iff_not] at *); omega))
  have hu0 : (upL (l.take 1) (gN l 0).i).length = 1 := by rw [upL_take l 0 (by omega), if_pos rfl]; rfl
  have hd1 : dps l 1 = List.replicate 64 0 := by
    apply List.ext_getElem?
    intro i
    by_cases hi : i < 64
    · simp only [dps, List.getElem?_map, List.getElem?_range hi, Option.map_some, List.getElem?_replicate, if_pos hi]
      by_cases c : i < 1
      · have : i = 0 := by omega
        subst this
        rw [if_pos c, hu0]; rfl
      · rw [if_neg c]
    · rw [List.getElem?_eq_none (by rw [dps_len]; omega), List.getElem?_eq_none (by rw [List.length_replicate]; omega)]
  refine w_loop (ι := Nat) (fun m => ⟨[(1, .one (.optr 0 0)), (3, gr l none), (4, .one (.optr 1 0)), (5, i1 m)], [(0, some ⟨[.gsl (Cs l) 0 l.length none, int n], 2⟩), (1, some ⟨Ints (dps l m), 64⟩)], 2⟩) (fun m => CkI l m) (fun m => l.length - m) 1 ?_ ⟨h1', zbe _, fun i hi => by rw [show i = 0 by omega]; exact hs0, fun i hi => by rw [show i = 0 by omega, hu0]; decide⟩ ?_
  · rw [hd1]
    (refine imp_ren _ _ _ [(0, 0, ⟨[.gsl (Cs l) 0 l.length none, int n], 2⟩), (1, 20, ⟨Ints (List.replicate 64 0), 64⟩)] (by simp) (by simp) (by simp) (zay rfl) ?_ rfl (by simp only [zam, zao, false_implies, implies_true, and_true, zaS, lookR, zaa, if_true, if_false, ↓reduceIte] <;> (repeat' apply zar) <;> (first | rfl | trivial)) (by simp only [zam, zao, false_implies, implies_true, and_true, true_and, flat_cons, flat_nil, flat_ints, flat_bools, flat_app, zaT, and_self, eq_self_iff_true, zav]); simp only [zal, zan, zam, zao, false_implies, implies_true, and_true, lk, slot, zaN, zaw, toN, zaa, if_true, if_false, ↓reduceIte, reduceCtorEq])
    all_goals ((repeat' apply zar) <;> (first | rfl | trivial))
  clear r1 hN0 hN0' hd1
  intro m hI
  simp only at hI ⊢
  have hm := hI.le
  have hm1 := hI.p1
  have hA := hI.asc
  rcases zba m l.length with hlt | hge
  case inr =>
    have c : ¬ (m : Int) < (l.length : Int) := by omega
    obtain rfl : m = l.length := by omega
    rw [List.take_length] at hA
    have hin : ((l.length : Int) - 1).toNat = l.length - 1 := by omega
    obtain ⟨g1, _⟩ := nd_f l (l.length - 1) (by omega) (.sc (.int .i64 0))
    have hres : chkT l n = (decide ((gN l (l.length - 1)).i < n) && decide (n ≤ 2147483648)) := by
      unfold chkT
      rw [decide_eq_true h1', decide_eq_true h64', (allN_iff _ _).2 hI.st, (allN_iff _ _).2 fun i hi => decide_eq_true (by rw [← up_takeA hA hi]; exact hI.dp i hi)]
      rfl
    rw [hres]
    simp only [go_sem, zaa, zae, zaf, zag, zah, zad, ↓reduceIte, reduceCtorEq, zab, zac, zai, zaj, zak, decide_eq_false c, hin, g1]
    repeat' (first
 | with_reducible refine zar ?_ ?_
 | (unfold OKC; kernel_rfl)
 | (unfold EDG; kernel_rfl)
 | (intros; omega)
 | exact fs_nil trivial rfl
 | fail)
  have c : (m : Int) < (l.length : Int) := by omega
  have h2 := index_take l none m (gN l m).p hm hl
  have h3 := isChild_spec (gN l m) (hct _ (getD_mem l m zn hlt)) (hnm.at m hlt)
  have h4 := taken_take l none m (gN l m).p (gN l m).nm hm hl
  obtain ⟨g1, g2, _⟩ := nd_f l m hlt (.sc (.int .i64 0))
  have g3 := (nd_f l m hlt (.sc (.string (bs [])))).2.2.1
  have hN := nd_td l m hlt
  obtain ⟨q1, _⟩ := nd_f l (m - 1) (by omega) (.sc (.int .i64 0))
  have hin : ((m : Int) - 1).toNat = m - 1 := by omega
  have hst : stOk l m = (kdOk (gN l m) && rngOk (gN l m) && (decide ((gN l (m - 1)).i < (gN l m).i) && nmOk (gN l m).nm && bsF Nd.i (l.take m) (gN l m).p && !(l.take m).any (same1 (gN l m).p (gN l m).nm))) := by
    unfold stOk
    rw [if_neg (by omega), bs_any Nd.i (l.take m) (fun i j => hA i j)]
    rfl
  have hno : stOk l m = false → chkT l n = false := fun hf => chkT_not fun h => by have := h.st m hlt; rw [hf] at this; cases this
  have hvl := bsV_le Nd.i (l.take m) (gN l m).p
  rw [zaV] at hvl
  cases hf : bsF Nd.i (l.take m) (gN l m).p with
  | false =>
    rw [hno (by rw [hst, hf]; simp)]
    rw [hf] at h2
    generalize bsV Nd.i (l.take m) (gN l m).p = v at *
    simp only [go_sem, zaa, zae, zaf, zag, zah, zad, ↓reduceIte, reduceCtorEq, zab, zac, zai, zaj, zak, decide_eq_true c, g2, zaW, zaY, zaZ]
    repeat' (first
 | with_reducible refine zar ?_ ?_
 | (unfold OKC; kernel_rfl)
 | (unfold EDG; kernel_rfl)
 | (apply cl_plain
    case hs => rfl
    case ha => (simp only [zal, zan, prepV, prepC, idx, hpL', lookR, zaa, if_true, if_false]; rfl)
    case h => (first | exact h2 ..))
 | ((first | refine s1_id ?_ | refine swp_id ?_ | refine sops_id ?_ | refine s2_id ?_); simp only [decide_eq_true c, g2, zaW, zaY, zaZ, go_sem, zaa, zae, zaf, zag, zah, zad, ↓reduceIte, reduceCtorEq, zab, zac, zai, zaj, zak, zaN, zaH, zaw, zaI, renO, bk, back, outUpsFrom, Ints_ren])
 | (intros; omega)
 | exact fs_nil trivial rfl
 | fail)
  | true =>
  obtain ⟨hv1, hv2⟩ := bsF_at Nd.i (l.take m) (gN l m).p hf
  rw [zaV] at hv1
  rw [hf] at h2 hst
  generalize bsV Nd.i (l.take m) (gN l m).p = v at *
  have hvm : v < m := by omega
  have hv3 : (gN l v).i = (gN l m).p := by rw [← gN_take l m v hvm]; exact hv2
  by_cases hle : (gN l m).i ≤ (gN l (m - 1)).i
  · rw [hno (by rw [hst, decide_eq_false (by omega)]; simp)]
    simp only [go_sem, zaa, zae, zaf, zag, zah, zad, ↓reduceIte, reduceCtorEq, zab, zac, zai, zaj, zak, decide_eq_true c, g1, g2, zaW, zaY, zaZ, hin, q1, decide_eq_true hle]
    repeat' (first
 | with_reducible refine zar ?_ ?_
 | (unfold OKC; kernel_rfl)
 | (unfold EDG; kernel_rfl)
 | (apply cl_plain
    case hs => rfl
    case ha => (simp only [zal, zan, prepV, prepC, idx, hpL', lookR, zaa, if_true, if_false]; rfl)
    case h => (first | exact h2 ..))
 | ((first | refine s1_id ?_ | refine swp_id ?_ | refine sops_id ?_ | refine s2_id ?_); simp only [decide_eq_true c, g1, g2, zaW, zaY, zaZ, hin, q1, decide_eq_true hle, go_sem, zaa, zae, zaf, zag, zah, zad, ↓reduceIte, reduceCtorEq, zab, zac, zai, zaj, zak, zaN, zaH, zaw, zaI, renO, bk, back, outUpsFrom, Ints_ren])
 | (intros; omega)
 | exact fs_nil trivial rfl
 | fail)
  rw [decide_eq_true (by omega : (gN l (m - 1)).i < (gN l m).i)] at hst
  cases hcb : (nmOk (gN l m).nm && kdOk (gN l m) && rngOk (gN l m)) with
  | false =>
    rw [hno (by rw [hst]; revert hcb; cases nmOk (gN l m).nm <;> cases kdOk (gN l m) <;> cases rngOk (gN l m) <;> simp)]
    rw [hcb] at h3
    simp only [ndc] at hN h3
    simp only [go_sem, zaa, zae, zaf, zag, zah, zad, ↓reduceIte, reduceCtorEq, zab, zac, zai, zaj, zak, decide_eq_true c, g1, g2, zaW, zaY, zaZ, hin, q1, decide_eq_false hle, hN]
    repeat' (first
 | with_reducible refine zar ?_ ?_
 | (unfold OKC; kernel_rfl)
 | (unfold EDG; kernel_rfl)
 | (apply cg_tp
    case hl => rfl
    case ha => (simp only [zal, zan, prepV, prepC, idx, hpL', lookR, zaa, if_true, if_false]; rfl)
    case hs => rfl
    case h => (first | exact h2 .. | exact h3 ..))
 | (apply cl_plain
    case hs => rfl
    case ha => (simp only [zal, zan, prepV, prepC, idx, hpL', lookR, zaa, if_true, if_false]; rfl)
    case h => (first | exact h2 .. | exact h3 ..))
 | ((first | refine s1_id ?_ | refine swp_id ?_ | refine sops_id ?_ | refine s2_id ?_); simp only [decide_eq_true c, g1, g2, zaW, zaY, zaZ, hin, q1, decide_eq_false hle, hN, go_sem, zaa, zae, zaf, zag, zah, zad, ↓reduceIte, reduceCtorEq, zab, zac, zai, zaj, zak, zaN, zaH, zaw, zaI, renO, bk, back, outUpsFrom, Ints_ren])
 | (intros; omega)
 | exact fs_nil trivial rfl
 | fail)
  | true =>
  rw [hcb] at h3
  cases htk : (l.take m).any (same1 (gN l m).p (gN l m).nm) with
  | true =>
    rw [hno (by rw [hst, htk]; simp)]
    rw [htk] at h4
    simp only [ndc] at hN h3
    simp only [go_sem, zaa, zae, zaf, zag, zah, zad, ↓reduceIte, reduceCtorEq, zab, zac, zai, zaj, zak, decide_eq_true c, g1, g2, g3, zaW, zaY, zaZ, hin, q1, decide_eq_false hle, hN]
    repeat' (first
 | with_reducible refine zar ?_ ?_
 | (unfold OKC; kernel_rfl)
 | (unfold EDG; kernel_rfl)
 | (apply cg_tp
    case hl => rfl
    case ha => (simp only [zal, zan, prepV, prepC, idx, hpL', lookR, zaa, if_true, if_false]; rfl)
    case hs => rfl
    case h => (first | exact h2 .. | exact h3 .. | exact h4 ..))
 | (apply cl_plain
    case hs => rfl
    case ha => (simp only [zal, zan, prepV, prepC, idx, hpL', lookR, zaa, if_true, if_false]; rfl)
    case h => (first | exact h2 .. | exact h3 .. | exact h4 ..))
 | ((first | refine s1_id ?_ | refine swp_id ?_ | refine sops_id ?_ | refine s2_id ?_); simp only [decide_eq_true c, g1, g2, g3, zaW, zaY, zaZ, hin, q1, decide_eq_false hle, hN, go_sem, zaa, zae, zaf, zag, zah, zad, ↓reduceIte, reduceCtorEq, zab, zac, zai, zaj, zak, zaN, zaH, zaw, zaI, renO, bk, back, outUpsFrom, Ints_ren])
 | (intros; omega)
 | exact fs_nil trivial rfl
 | fail)
  | false =>
  have hok : stOk l m = true := by rw [hst, htk]; revert hcb; cases nmOk (gN l m).nm <;> cases kdOk (gN l m) <;> cases rngOk (gN l m) <;> simp
  rw [htk] at h4
  have hun := up_next hA hlt hvm hv3
  have hdv := dps_at l m v (by omega)
  rw [if_pos hvm] at hdv
  have hset := dps_set l m (by omega)
  have hdm := dps_at l (m + 1) m (by omega)
  rw [if_pos (by omega)] at hdm
  have hu1 : 1 ≤ (upL (l.take (v + 1)) (gN l v).i).length := by rw [upL_take l v (by omega), if_pos rfl, zaF]; omega
  have hu9 := hI.dp v hvm
  have hsv : ((upL (l.take (v + 1)) (gN l v).i).length : Int) - 1 + 1 = ((upL (l.take (m + 1)) (gN l m).i).length : Int) - 1 := by rw [hun]; omega
  generalize (upL (l.take (v + 1)) (gN l v).i).length = D at *
  obtain ⟨D2, hD2⟩ : ∃ D2, (upL (l.take (m + 1)) (gN l m).i).length = D2 := ⟨_, rfl⟩
  have hseti : (Ints (dps l m)).set m (int ((D2 : Int) - 1)) = Ints (dps l (m + 1)) := by rw [← hset, hD2]; simp [Ints, List.map_set]
  rw [hD2] at hsv hdm hun
  have hdl := dps_len l m
  have hdl1 := dps_len l (m + 1)
  simp only [ndc] at hN h3
  by_cases h9 : 8 < (D2 : Int) - 1
  · rw [chkT_not fun h => by
      have := h.dp m hlt
      rw [← up_takeA h.asc hlt, hD2] at this; omega]
    simp only [go_sem, zaa, zae, zaf, zag, zah, zad, ↓reduceIte, reduceCtorEq, zab, zac, zai, zaj, zak, decide_eq_true c, g1, g2, g3, zaW, zaY, zaZ, hin, q1, decide_eq_false hle, hN, hdv, hsv, hdm, decide_eq_true h9]
    repeat' (first
 | with_reducible refine zar ?_ ?_
 | (unfold OKC; kernel_rfl)
 | (unfold EDG; kernel_rfl)
 | (apply cg_tp
    case hl => rfl
    case ha => (simp only [zal, zan, prepV, prepC, idx, hpL', lookR, zaa, if_true, if_false]; rfl)
    case hs => rfl
    case h => (first | exact h2 .. | exact h3 .. | exact h4 ..))
 | (apply cl_plain
    case hs => rfl
    case ha => (simp only [zal, zan, prepV, prepC, idx, hpL', lookR, zaa, if_true, if_false]; rfl)
    case h => (first | exact h2 .. | exact h3 .. | exact h4 ..))
 | ((first | refine s1_id ?_ | refine swp_id ?_ | refine sops_id ?_ | refine s2_id ?_); simp only [decide_eq_true c, g1, g2, g3, zaW, zaY, zaZ, hin, q1, decide_eq_false hle, hN, hdv, hsv, hseti, hdm, decide_eq_true h9, go_sem, zaa, zae, zaf, zag, zah, zad, ↓reduceIte, reduceCtorEq, zab, zac, zai, zaj, zak, zaN, zaH, zaw, zaI, renO, bk, back, outUpsFrom, Ints_ren])
 | (intros; omega)
 | exact fs_nil trivial rfl
 | fail)
  · have hst2 : CkI l (m + 1) := ⟨hlt, by omega, fun i hi => by rcases Nat.lt_succ_iff_lt_or_eq.1 hi with h | h; (· exact hI.st i h); (· rw [h]; exact hok), fun i hi => by rcases Nat.lt_succ_iff_lt_or_eq.1 hi with h | h; (· exact hI.dp i h); (· rw [h, hD2]; omega)⟩
    simp only [go_sem, zaa, zae, zaf, zag, zah, zad, ↓reduceIte, reduceCtorEq, zab, zac, zai, zaj, zak, decide_eq_true c, g1, g2, g3, zaW, zaY, zaZ, hin, q1, decide_eq_false hle, hN, hdv, hsv, hdm, decide_eq_false h9]
    repeat' (first
 | with_reducible refine zar ?_ ?_
 | (unfold OKC; kernel_rfl)
 | (unfold EDG; kernel_rfl)
 | (apply cg_tp
    case hl => rfl
    case ha => (simp only [zal, zan, prepV, prepC, idx, hpL', lookR, zaa, if_true, if_false]; rfl)
    case hs => rfl
    case h => (first | exact h2 .. | exact h3 .. | exact h4 ..))
 | (apply cl_plain
    case hs => rfl
    case ha => (simp only [zal, zan, prepV, prepC, idx, hpL', lookR, zaa, if_true, if_false]; rfl)
    case h => (first | exact h2 .. | exact h3 .. | exact h4 ..))
 | ((first | refine s1_id ?_ | refine swp_id ?_ | refine sops_id ?_ | refine s2_id ?_); simp only [decide_eq_true c, g1, g2, g3, zaW, zaY, zaZ, hin, q1, decide_eq_false hle, hN, hdv, hsv, hseti, hdm, decide_eq_false h9, go_sem, zaa, zae, zaf, zag, zah, zad, ↓reduceIte, reduceCtorEq, zab, zac, zai, zaj, zak, zaN, zaH, zaw, zaI, renO, bk, back, outUpsFrom, Ints_ren])
 | (intros; omega)
 | (intros; (try simp only [zau, zax, zat, zas, zap, zaq, decide_eq_true_eq, decide_eq_false_iff_not] at *); omega))
    refine le_mk (m + 1) ?_ hst2 (by omega)
    (refine imp_ren _ _ _ [(0, 0, ⟨[.gsl (Cs l) 0 l.length none, int n], 2⟩), (1, 1, ⟨Ints (dps l (m + 1)), 64⟩)] (by simp) (by simp) (by simp) (zay rfl) ?_ rfl (by simp only [zam, zao, false_implies, implies_true, and_true, zaS, lookR, zaa, if_true, if_false, ↓reduceIte, hseti] <;> (repeat' apply zar) <;> (first | rfl | trivial)) (by simp only [zam, zao, false_implies, implies_true, and_true, true_and, flat_cons, flat_nil, flat_ints, flat_bools, flat_app, zaT, and_self, eq_self_iff_true, zav, hseti]); simp only [zal, zan, zam, zao, false_implies, implies_true, and_true, lk, slot, zaN, zaw, toN, zaa, if_true, if_false, ↓reduceIte, reduceCtorEq])
    all_goals ((repeat' apply zar) <;> (first | rfl | trivial | (simp only [zaG]; done) | (simp only [zaG]; rfl) | (simp only [zaG]; trivial)))
end Go.Proofs.Ytcnilpdlcmpbbab
-- NEWGO
-- PRUNE: cl_lendx cl_use
-- ISG: Cs_isG
-- FLAT: Cs_flat
namespace Go.Proofs.Ytcnilpdlcmpbbab
set_option linter.unusedVariables false
set_option linter.unusedSimpArgs false
open Go.Proofs.Ytcnilpdlcmpbbab.Sh
set_option maxRecDepth 20000
theorem fd_ix {l : List Nd} {n id : Int} (h : VT l n) (hb : bsF Nd.i l id = true) : fdM l n id = (gN l (bsV Nd.i l id), true) := by
  obtain ⟨h1, h2⟩ := bsF_at Nd.i l id hb
  have h2' : (gN l (bsV Nd.i l id)).i = id := h2
  unfold fdM
  rw [(chkT_iff l n).2 h, if_pos rfl]
  have : l.find? (hasI id) = some (gN l (bsV Nd.i l id)) := by
    rw [List.find?_eq_some_iff_getElem]
    refine ⟨decide_eq_true h2', bsV Nd.i l id, h1, (getD_at l _ zn h1).symm, fun j hj => ?_⟩
    have h3 := h.asc j _ hj h1
    rw [h2', show gN l j = l[j] from getD_at l j zn (by omega)] at h3
    simp only [zat, decide_eq_false_iff_not]; omega
  rw [this]
theorem fd_no {l : List Nd} {n id : Int} (h : VT l n) (hb : bsF Nd.i l id = false) : fdM l n id = (zn, false) := by
  unfold fdM
  rw [(chkT_iff l n).2 h, if_pos rfl]
  rw [bs_any Nd.i l (fun i j hij hj => h.asc i j hij hj) id] at hb
  rw [List.find?_eq_none.2 fun x hx e => List.any_eq_false.1 hb x hx e]
theorem hasM_bs {l : List Nd} {n id : Int} (h : VT l n) : hasM l n id = bsF Nd.i l id := by
  rw [bs_any Nd.i l (fun i j hij hj => h.asc i j hij hj) id]
  unfold hasM
  rw [(chkT_iff l n).2 h, zaX]
set_option maxHeartbeats 8000000 in
theorem tfind_spec (l : List Nd) (n id : Int) (hl : l.length ≤ 1000000) (hnm : NmR l) (hct : CtR l) : FnSpec Try.prog 85 [trV l none n, i1 id] [] (.tup [.agg (ndc (fdM l n id).1), b1 (fdM l n id).2]) [] := by
  have h1 := tchk_spec l n hl hnm hct
  have h2 := index_spec l none id hl
  have hnl := nd_len l
  cases hb : bsF Nd.i l id with
  | false =>
    have e : fdM l n id = (zn, false) := by
      cases hc : chkT l n with
      | false => unfold fdM; rw [hc]; rfl
      | true => exact fd_no ((chkT_iff l n).1 hc) hb
    rw [e]
    rw [hb] at h2
    generalize bsV Nd.i l id = v at *
    refine fnspec_of mixed TT_ok TT_cl ⟨fun _ => false, fun _ => [], 0, fun _ => false, fun _ => false⟩ Try.func85 rfl (by kernel_rfl) rfl 28 rfl [.cell 4 37, .tmp 5] rfl ?_
    simp only [go_sem, zaa, zae, zaf, zag, zah, zad, ↓reduceIte, reduceCtorEq, zab, zac, zai, zaj, zak]
    repeat' (first
 | with_reducible refine zar ?_ ?_
 | (apply cl_plain
    case hs => rfl
    case ha => (simp only [zal, zan, prepV, prepC, idx, hpL', lookR, zaa, if_true, if_false]; rfl)
    case h => (first | exact h2 ..))
 | ((first | refine s1_id ?_ | refine swp_id ?_ | refine sops_id ?_ | refine s2_id ?_); simp only [zaE, zaJ, zav, zaK, zaO, zaC, zaD, zaz, zaQ, zaR, zaF, zaP, go_sem, zaa, zae, zaf, zag, zah, zad, ↓reduceIte, reduceCtorEq, zab, zac, zai, zaj, zak, zaN, zaH, zaw, zaI, renO, bk, back, outUpsFrom, Ints_ren])
 | (intros; omega)
 | (apply fs_nil <;> (try simp only [go_sem, resV, resS, zaN, zaH, zaw, zbc, zaS, idx, renO, zaI, evS, slot, lookR, zaa, ↓reduceIte, reduceCtorEq, if_true, if_false, zaL, zaM, zal, zan, sLoad, readAt, readNeed, Ints_ren, Ints_length, Ints_getD, and_true, true_and, zaA, zaB]) <;> (try rfl))
 | fail)
  | true =>
  rw [hb] at h2
  cases hc : chkT l n with
  | false =>
    have e : fdM l n id = (zn, false) := by unfold fdM; rw [hc]; rfl
    rw [e]
    rw [hc] at h1
    generalize bsV Nd.i l id = v at *
    refine fnspec_of mixed TT_ok TT_cl ⟨fun _ => false, fun _ => [], 0, fun _ => false, fun _ => false⟩ Try.func85 rfl (by kernel_rfl) rfl 28 rfl [.cell 4 37, .tmp 5] rfl ?_
    simp only [go_sem, zaa, zae, zaf, zag, zah, zad, ↓reduceIte, reduceCtorEq, zab, zac, zai, zaj, zak]
    repeat' (first
 | with_reducible refine zar ?_ ?_
 | (apply cg_tp
    case hl => rfl
    case ha => (simp only [zal, zan, prepV, prepC, idx, hpL', lookR, zaa, if_true, if_false]; rfl)
    case hs => rfl
    case h => (first | exact h1 .. | exact h2 ..))
 | (apply cl_plain
    case hs => rfl
    case ha => (simp only [zal, zan, prepV, prepC, idx, hpL', lookR, zaa, if_true, if_false]; rfl)
    case h => (first | exact h1 .. | exact h2 ..))
 | ((first | refine s1_id ?_ | refine swp_id ?_ | refine sops_id ?_ | refine s2_id ?_); simp only [zaE, zaJ, zav, zaK, zaO, zaC, zaD, zaz, zaQ, zaR, zaF, zaP, go_sem, zaa, zae, zaf, zag, zah, zad, ↓reduceIte, reduceCtorEq, zab, zac, zai, zaj, zak, zaN, zaH, zaw, zaI, renO, bk, back, outUpsFrom, Ints_ren])
 | (intros; omega)
 | (apply fs_nil <;> (try simp only [go_sem, resV, resS, zaN, zaH, zaw, zbc, zaS, idx, renO, zaI, evS, slot, lookR, zaa, ↓reduceIte, reduceCtorEq, if_true, if_false, zaL, zaM, zal, zan, sLoad, readAt, readNeed, Ints_ren, Ints_length, Ints_getD, and_true, true_and, zaA, zaB]) <;> (try rfl))
 | fail)
  | true =>
  rw [fd_ix ((chkT_iff l n).1 hc) hb]
  rw [hc] at h1
  have hlt := (bsF_at Nd.i l id hb).1
  generalize bsV Nd.i l id = v at *
  have hN := nd_td l v hlt
  generalize gN l v = x at *
  obtain ⟨xi, xp, xn, xc, xk, xo⟩ := x
  simp only [ndc] at hN ⊢
  refine fnspec_of mixed TT_ok TT_cl ⟨fun _ => false, fun _ => [], 0, fun _ => false, fun _ => false⟩ Try.func85 rfl (by kernel_rfl) rfl 28 rfl [.cell 4 37, .tmp 5] rfl ?_
  simp only [go_sem, zaa, zae, zaf, zag, zah, zad, ↓reduceIte, reduceCtorEq, zab, zac, zai, zaj, zak, hN]
  repeat' (first
 | with_reducible refine zar ?_ ?_
 | (apply cg_tp
    case hl => rfl
    case ha => (simp only [zal, zan, prepV, prepC, idx, hpL', lookR, zaa, if_true, if_false]; rfl)
    case hs => rfl
    case h => (first | exact h1 .. | exact h2 ..))
 | (apply cl_plain
    case hs => rfl
    case ha => (simp only [zal, zan, prepV, prepC, idx, hpL', lookR, zaa, if_true, if_false]; rfl)
    case h => (first | exact h1 .. | exact h2 ..))
 | ((first | refine s1_id ?_ | refine swp_id ?_ | refine sops_id ?_ | refine s2_id ?_); simp only [hN, zaE, zaJ, zav, zaK, zaO, zaC, zaD, zaz, zaQ, zaR, zaF, zaP, go_sem, zaa, zae, zaf, zag, zah, zad, ↓reduceIte, reduceCtorEq, zab, zac, zai, zaj, zak, zaN, zaH, zaw, zaI, renO, bk, back, outUpsFrom, Ints_ren])
 | (intros; omega)
 | (apply fs_nil <;> (try simp only [go_sem, resV, resS, zaN, zaH, zaw, zbc, zaS, idx, renO, zaI, evS, slot, lookR, zaa, ↓reduceIte, reduceCtorEq, if_true, if_false, zaL, zaM, zal, zan, sLoad, readAt, readNeed, Ints_ren, Ints_length, Ints_getD, and_true, true_and, zaA, zaB]) <;> (try rfl))
 | fail)
def upT (l : List Nd) (t : Nat) : List Int := if t = 0 then [] else upL l (gN l t).p
theorem VT.upT {l : List Nd} {n : Int} (h : VT l n) {t : Nat} (ht : t < l.length) : upL l (gN l t).i = (gN l t).i :: upT l t := by
  unfold Go.Proofs.Ytcnilpdlcmpbbab.upT
  by_cases h0 : t = 0
  · subst h0
    rw [if_pos rfl, h.root.1, h.up0]
  · rw [if_neg h0, h.up ht h0]
set_option maxHeartbeats 16000000 in
theorem tanc_spec (l : List Nd) (n id : Int) (hl : l.length ≤ 1000000) (hnm : NmR l) (hct : CtR l) : FnSpec Try.prog 62 [trV l none n, i1 id] [] (gi (ancM l n id) none) [] := by
  have h1 := tfind_spec l n id hl hnm hct
  have h2 := fdM_2 l n id
  have hnl := nd_len l
  unfold ancM
  cases hh : hasM l n id with
  | false =>
    rw [hh] at h2
    rw [if_neg Bool.false_ne_true]
    generalize fdM l n id = u at *
    obtain ⟨⟨xi, xp, xn, xc, xk, xo⟩, b⟩ := u
    simp only at h2
    subst h2
    simp only [ndc] at h1
    refine fnspec_of mixed TT_ok TT_cl ⟨fun _ => false, fun _ => [], 0, fun _ => false, fun _ => false⟩ Try.func62 rfl (by kernel_rfl) rfl 42 rfl [.tmp 4] rfl ?_
    simp only [go_sem, zaa, zae, zaf, zag, zah, zad, ↓reduceIte, reduceCtorEq, zab, zac, zai, zaj, zak]
    repeat' (first
 | (apply cl_plain
    case hs => rfl
    case ha => (simp only [zal, zan, prepV, prepC, idx, hpL', lookR, zaa, if_true, if_false]; rfl)
    case h => (first | exact h1 ..))
 | ((first | refine s1_id ?_ | refine swp_id ?_ | refine sops_id ?_ | refine s2_id ?_); simp only [zaE, zaJ, zav, zaK, zaO, zaC, zaD, zaz, zaQ, zaR, zaF, zaP, go_sem, zaa, zae, zaf, zag, zah, zad, ↓reduceIte, reduceCtorEq, zab, zac, zai, zaj, zak, zaN, zaH, zaw, zaI, renO, bk, back, outUpsFrom, Ints_ren])
 | (intros; (try simp only [zau, zax, zat, zas, zap, zaq, decide_eq_true_eq, decide_eq_false_iff_not] at *); omega))
    repeat' (first
 | exact fs_w trivial (svw_of cw_gnil)
 | fail)
  | true =>
  rw [if_pos rfl]
  have hk : chkT l n = true := (hasM_iff.1 hh).1
  have hV := (chkT_iff l n).1 hk
  have hb : bsF Nd.i l id = true := by rw [← hasM_bs hV, hh]
  obtain ⟨b1', b2'⟩ := bsF_at Nd.i l id hb
  rw [fd_ix hV hb] at h1
  generalize bsV Nd.i l id = v at *
  have e0 : (gN l v).i = id := b2'
  have hu := hV.upT b1'
  rw [e0] at hu
  obtain ⟨U, hU⟩ : ∃ U, upL l id = U := ⟨_, rfl⟩
  have hUl : U.length ≤ l.length := by rw [← hU]; have := upR_len l.reverse id; rw [List.length_reverse] at this; exact this
  rw [hU] at hu ⊢
  simp only at h1
  generalize hx : gN l v = x at *
  obtain ⟨xi, xp, xn, xc, xk, xo⟩ := x
  simp only [ndc] at h1
  refine fnspec_of mixed TT_ok TT_cl ⟨fun _ => false, fun _ => [], 0, fun _ => false, fun _ => false⟩ Try.func62 rfl (by kernel_rfl) rfl 42 rfl [.tmp 4] rfl ?_
  simp only [go_sem, zaa, zae, zaf, zag, zah, zad, ↓reduceIte, reduceCtorEq, zab, zac, zai, zaj, zak]
  repeat' (first
 | (apply cl_plain
    case hs => rfl
    case ha => (simp only [zal, zan, prepV, prepC, idx, hpL', lookR, zaa, if_true, if_false]; rfl)
    case h => (first | exact h1 ..))
 | ((first | refine s1_id ?_ | refine swp_id ?_ | refine sops_id ?_ | refine s2_id ?_); simp only [zaE, zaJ, zav, zaK, zaO, zaC, zaD, zaz, zaQ, zaR, zaF, zaP, go_sem, zaa, zae, zaf, zag, zah, zad, ↓reduceIte, reduceCtorEq, zab, zac, zai, zaj, zak, zaN, zaH, zaw, zaI, renO, bk, back, outUpsFrom, Ints_ren])
 | (intros; (try simp only [zau, zax, zat, zas, zap, zaq, decide_eq_true_eq, decide_eq_false_iff_not] at *); omega))
  refine w_loop (ι := Nat × List Int) (fun s => ⟨[(2, .one (.optr 0 0)), (5, .one (.optr 1 0)), (7, .one (.osl 2 0 s.2.length none))], [(0, some ⟨[.gsl (Cs l) 0 l.length none, int n], 2⟩), (1, some ⟨ndc (gN l s.1), 6⟩), (2, some ⟨Ints s.2, 1⟩)], 3⟩) (fun s => s.1 < l.length ∧ U = s.2 ++ upT l s.1) (fun s => s.1) (v, [id]) ?_ ⟨b1', hu⟩ ?_
  · refine Imp.trans (t := ⟨[(2, .one (.optr 0 0)), (5, .one (.optr 1 0)), (7, .one (.osl 2 0 1 (some 1)))], [(0, some ⟨[.gsl (Cs l) 0 l.length none, int n], 2⟩), (1, some ⟨[int xi, int xp, st xn, int xc, int xk, int xo], 6⟩), (2, some ⟨Ints [id], 1⟩)], 3⟩) ?_ (imp_w _ _ _ ?_ (by rw [hx]) (zbe _))
    · skip
      (refine imp_ren _ _ _ [(0, 0, ⟨[.gsl (Cs l) 0 l.length none, int n], 2⟩), (1, 8, ⟨[int xi, int xp, st xn, int xc, int xk, int xo], 6⟩), (2, 14, ⟨Ints [id], 1⟩)] (by simp) (by simp) (by simp) (zay rfl) ?_ rfl (by simp only [zam, zao, false_implies, implies_true, and_true, zaS, lookR, zaa, if_true, if_false, ↓reduceIte] <;> (repeat' apply zar) <;> (first | rfl | trivial)) (by simp only [zam, zao, false_implies, implies_true, and_true, true_and, flat_cons, flat_nil, flat_ints, flat_bools, flat_app, zaT, and_self, eq_self_iff_true, zav]); simp only [zal, zan, zam, zao, false_implies, implies_true, and_true, lk, slot, zaN, zaw, toN, zaa, if_true, if_false, ↓reduceIte, reduceCtorEq])
      all_goals ((repeat' apply zar) <;> (first | rfl | trivial))
    · intro x hx
      simp only [List.mem_cons, zao, or_false] at hx
      rcases hx with rfl | rfl | rfl <;> first | exact ⟨_, rfl, SVW.refl _⟩ | exact ⟨_, rfl, svw_of (cw_ocap _ _ _ _)⟩
  clear h1 hx hu e0
  rintro ⟨t, W⟩ ⟨ht, hW⟩
  simp only at ht hW ⊢
  have hWl : W.length ≤ l.length := by rw [hW, List.length_append] at hUl; omega
  by_cases h0 : t = 0
  · subst h0
    have hr := hV.root.1
    rw [show upT l 0 = [] from rfl, zav] at hW
    subst hW
    generalize gN l 0 = y at *
    obtain ⟨yi, yp, yn, yc, yk, yo⟩ := y
    simp only at hr
    subst hr
    simp only [go_sem, zaa, zae, zaf, zag, zah, zad, ↓reduceIte, reduceCtorEq, zab, zac, zai, zaj, zak, ndc]
    repeat' (first
 | (intros; (try simp only [zau, zax, zat, zas, zap, zaq, decide_eq_true_eq, decide_eq_false_iff_not] at *); omega))
    (refine fs_frz 2 ⟨Ints U, 1⟩ (by simp only [zaS, lookR, zaa, if_true, if_false, ↓reduceIte]) (by first | exact Ints_isG _ | exact Bools_isG _ | exact Cs_isG _ | (simp [Cell.isG]; done)) ?_; simp only [frzTm, SV.frz, SV.frzL, zbi, frzHp, frzO, Ints_frz, Bools_frz, zal, zan, zaa, if_true, if_false, ↓reduceIte])
    apply fs_nil <;> (try simp only [go_sem, resV, resS, zaN, zaH, zaw, zbc, zaS, idx, renO, zaI, evS, slot, lookR, zaa, ↓reduceIte, reduceCtorEq, if_true, if_false, zaL, zaM, zal, zan, sLoad, readAt, readNeed, Ints_ren, Ints_length, Ints_getD, and_true, true_and, zaA, zaB]) <;> (try rfl)
  · have hne : ¬ (gN l t).i = 1 := by
      have := hV.asc 0 t (by omega) ht
      rw [hV.root.1] at this; omega
    obtain ⟨j, hj, hp⟩ := (hV.ch ht h0).par
    obtain ⟨q1, q2⟩ := bs_found Nd.i l (fun i j hij hj => hV.asc i j hij hj) j (by omega)
    have q1' : bsV Nd.i l (gN l j).i = j := q1
    have q2' : bsF Nd.i l (gN l j).i = true := q2
    have h3 := index_spec l none (gN l j).i hl
    rw [q1', q2', hp] at h3
    have hW2 : U = (W ++ [(gN l t).p]) ++ upT l j := by
      rw [hW, show upT l t = upL l (gN l t).p from if_neg h0, ← hp, hV.upT (by omega), List.append_assoc]; rfl
    have hN := nd_td l j (by omega)
    generalize gN l t = y at *
    obtain ⟨yi, yp, yn, yc, yk, yo⟩ := y
    simp only at hne h3 hW2 hp
    have htk : zbf W.length (Ints W) = Ints W := zbd (by rw [Ints_length]; exact zbe _)
    have hpp : Ints W ++ [int yp] = Ints (W ++ [yp]) := by simp [Ints]
    have hla : (W ++ [yp]).length = W.length + 1 := by simp
    simp only [go_sem, zaa, zae, zaf, zag, zah, zad, ↓reduceIte, reduceCtorEq, zab, zac, zai, zaj, zak, ndc, decide_eq_false hne, hN]
    repeat' (first
 | with_reducible refine zar ?_ ?_
 | (apply cl_plain
    case hs => rfl
    case ha => (simp only [zal, zan, prepV, prepC, idx, hpL', lookR, zaa, if_true, if_false]; rfl)
    case h => (first | exact h3 ..))
 | ((first | refine s1_id ?_ | refine swp_id ?_ | refine sops_id ?_ | refine s2_id ?_); simp only [ndc, decide_eq_false hne, htk, hpp, hN, zaE, zaJ, zav, zaK, zaO, zaC, zaD, zaz, zaQ, zaR, zaF, zaP, go_sem, zaa, zae, zaf, zag, zah, zad, ↓reduceIte, reduceCtorEq, zab, zac, zai, zaj, zak, zaN, zaH, zaw, zaI, renO, bk, back, outUpsFrom, Ints_ren])
 | (intros; omega)
 | (intros; (try simp only [zau, zax, zat, zas, zap, zaq, decide_eq_true_eq, decide_eq_false_iff_not] at *); omega))
    refine le_mk (j, W ++ [yp]) ?_ ⟨by omega, hW2⟩ hj
    simp only [hla]
    (refine imp_ren _ _ _ [(0, 0, ⟨[.gsl (Cs l) 0 l.length none, int n], 2⟩), (1, 1, ⟨ndc (gN l j), 6⟩), (2, 10, ⟨Ints (W ++ [yp]), 1⟩)] (by simp) (by simp) (by simp) (zay rfl) ?_ rfl (by simp only [zam, zao, false_implies, implies_true, and_true, zaS, lookR, zaa, if_true, if_false, ↓reduceIte, ndc] <;> (repeat' apply zar) <;> (first | rfl | trivial)) (by simp only [zam, zao, false_implies, implies_true, and_true, true_and, flat_cons, flat_nil, flat_ints, flat_bools, flat_app, zaT, and_self, eq_self_iff_true, zav, ndc]); simp only [zal, zan, zam, zao, false_implies, implies_true, and_true, lk, slot, zaN, zaw, toN, zaa, if_true, if_false, ↓reduceIte, reduceCtorEq])
    all_goals ((repeat' apply zar) <;> (first | rfl | trivial | (simp only [ndc]; done) | (simp only [ndc]; rfl) | (simp only [ndc]; trivial)))
end Go.Proofs.Ytcnilpdlcmpbbab
-- NEWGO
-- PRUNE: cl_lendx cl_use cl_lend
-- ISG: Cs_isG
-- FLAT: Cs_flat
namespace Go.Proofs.Ytcnilpdlcmpbbab
set_option linter.unusedVariables false
set_option linter.unusedSimpArgs false
open Go.Proofs.Ytcnilpdlcmpbbab.Sh
set_option maxRecDepth 20000
structure Cf where
  g : Int
  s : Sg
abbrev cfc (x : Cf) : List Cell := int x.g :: sgc x.s
abbrev zcf : Cf := ⟨0, zsg⟩
instance : Rec Cf := ⟨cfc, 18, zcf, fun _ => rfl, fun x c h => by
  simp only [cfc, sgc, List.mem_cons, zao, or_false] at h
  rcases h with rfl | rfl | rfl | rfl | rfl | rfl | rfl | rfl | rfl | rfl | rfl | rfl | rfl | rfl | rfl | rfl | rfl | rfl <;> rfl⟩
abbrev gCf (l : List Cf) (i : Nat) : Cf := l.getD i zcf
theorem cf_td (l : List Cf) (i : Nat) (h : i < l.length) : zbf 18 (zbh (i * 18) (Cs l)) = cfc (gCf l i) := Cs_td l i h
theorem cf_ts (l : List Cf) (i : Nat) (h : i < l.length) : zbf 17 (zbh (i * 18 + 1) (Cs l)) = sgc (gCf l i).s := by
  have e : zbf 17 (zbh (i * 18 + 1) (Cs l)) = (zbf 18 (zbh (i * 18) (Cs l))).drop 1 := by rw [List.drop_take, List.drop_drop]
  rw [e, cf_td l i h]
  rfl
theorem cf_len (l : List Cf) : (Cs l).length = l.length * 18 := Cs_len l
theorem cf_f0 (l : List Cf) (i : Nat) (h : i < l.length) (d : Cell) : (Cs l).getD (i * 18) d = int (gCf l i).g := Cs_fld l i 0 d h (by decide)
set_option maxHeartbeats 4000000 in
theorem cf_ix (g : FuncId) (c0 : List Cell) (q : Cf → Bool) (xs : List (Cf)) (hg : ∀ x ∈ xs, FnSpec Try.prog g [.agg (Rec.cs x), .one (.gptr c0 0)] [] (b1 (q x)) []) (cap : Option Nat)
    (hs : xs.length ≤ 9223372036854775807) : FnSpec Try.prog 80 [gr xs cap, .one (.fn g [.gptr c0 0])] [] (i1 (ixR q xs 0)) [] := by
  refine fnspec_of mixed TT_ok TT_cl ⟨fun _ => false, fun _ => [], 0, fun _ => false, fun _ => false⟩ Try.func80 rfl (by kernel_rfl) rfl 19 rfl [.tmp 4] rfl ?_
  simp only [go_sem, zaa, zae, zaf, zag, zah, zad, ↓reduceIte, reduceCtorEq, zab, zac, zai, zaj, zak]
  repeat' (first
 | (intros; (try simp only [zau, zax, zat, zas, zap, zaq, decide_eq_true_eq, decide_eq_false_iff_not] at *); omega))
  refine w_loop (ι := Nat) (fun i => ⟨[(0, gr xs cap), (1, .one (.fn g [.gptr c0 0])), (7, i1 xs.length), (8, i1 i)], [], 0⟩) (fun i => i ≤ xs.length ∧ ixR q xs 0 = ixR q (xs.drop i) i) (fun i => xs.length - i) 0 ?_ ⟨zaU _, rfl⟩ ?_
  · (refine imp_sub _ _ _ [] (by simp) (by simp) (by simp) (zaU _) ?_ rfl (by simp); simp only [zam, zao, false_implies, implies_true, and_true, lk, slot, zaN, zaw, zaa, if_true, if_false, ↓reduceIte, reduceCtorEq])
    all_goals ((repeat' apply zar) <;> (first | rfl | trivial))
  rintro i ⟨hi, he⟩
  simp only at hi he ⊢
  rcases zba i xs.length with hlt | hge
  case inr =>
    have hlt' : ¬ (i : Int) < (xs.length : Int) := by omega
    rw [zbg hge] at he
    rw [he]
    simp only [go_sem, zaa, zae, zaf, zag, zah, zad, ↓reduceIte, reduceCtorEq, zab, zac, zai, zaj, zak, decide_eq_false hlt', ixR]
    repeat' (first
 | exact fs_nil trivial rfl
 | fail)
  have hlt' : (i : Int) < (xs.length : Int) := by omega
  have hcl : (Cs xs).length = xs.length * 18 := Cs_len xs
  have hat : zbf 18 (zbh (i * 18) (Cs xs)) = Rec.cs (xs.getD i Rec.z) := Cs_td xs i hlt
  have hm := getD_mem xs i Rec.z hlt
  have hc := hg _ hm
  rw [drop_getD xs i Rec.z hlt, ixR] at he
  have hrl : (Rec.cs (xs.getD i Rec.z)).length = 18 := Rec.len _
  have hrg := Rec.g (xs.getD i Rec.z)
  generalize xs.getD i Rec.z = b at *
  have hcs : Rec.cs b = [int b.g, int b.s.pm, int b.s.w, int b.s.q, int b.s.pe, int b.s.b, int b.s.c0, int b.s.c1, .gsl (Ints b.s.cp) 0 b.s.cp.length none, .gsl (Ints b.s.mm) 0 b.s.mm.length none, int b.s.pt, int b.s.m0, int b.s.m1, int b.s.m2, int b.s.m3, int b.s.m4, bool b.s.mt, .gsl [] 0 0 none] := rfl
  rw [hcs] at hat hc
  clear hrl hrg
  cases hqb : q b with
  | true =>
    rw [hqb] at hc he
    simp only [if_true] at he
    rw [he]
    simp only [go_sem, zaa, zae, zaf, zag, zah, zad, ↓reduceIte, reduceCtorEq, zab, zac, zai, zaj, zak, decide_eq_true hlt', hat]
    repeat' (first
 | with_reducible refine zar ?_ ?_
 | (apply cl_plain
    case hs => rfl
    case ha => (simp only [zal, zan, prepV, prepC, idx, hpL', lookR, zaa, if_true, if_false]; rfl)
    case h => (first | exact hc ..))
 | ((first | refine s1_id ?_ | refine swp_id ?_ | refine sops_id ?_ | refine s2_id ?_); simp only [decide_eq_true hlt', hat, go_sem, zaa, zae, zaf, zag, zah, zad, ↓reduceIte, reduceCtorEq, zab, zac, zai, zaj, zak, zaN, zaH, zaw, zaI, renO, bk, back, outUpsFrom, Ints_ren])
 | (intros; omega)
 | exact fs_nil trivial rfl
 | fail)
  | false =>
    rw [hqb] at hc he
    simp only [Bool.false_eq_true, if_false] at he
    simp only [go_sem, zaa, zae, zaf, zag, zah, zad, ↓reduceIte, reduceCtorEq, zab, zac, zai, zaj, zak, decide_eq_true hlt', hat]
    repeat' (first
 | with_reducible refine zar ?_ ?_
 | (apply cl_plain
    case hs => rfl
    case ha => (simp only [zal, zan, prepV, prepC, idx, hpL', lookR, zaa, if_true, if_false]; rfl)
    case h => (first | exact hc ..))
 | ((first | refine s1_id ?_ | refine swp_id ?_ | refine sops_id ?_ | refine s2_id ?_); simp only [decide_eq_true hlt', hat, go_sem, zaa, zae, zaf, zag, zah, zad, ↓reduceIte, reduceCtorEq, zab, zac, zai, zaj, zak, zaN, zaH, zaw, zaI, renO, bk, back, outUpsFrom, Ints_ren])
 | (intros; omega)
 | (intros; (try simp only [zau, zax, zat, zas, zap, zaq, decide_eq_true_eq, decide_eq_false_iff_not] at *); omega))
    refine le_mk (i + 1) ?_ ⟨by omega, he⟩ (by omega)
    (refine imp_sub _ _ _ [] (by simp) (by simp) (by simp) (zaU _) ?_ rfl (by simp); simp only [zam, zao, false_implies, implies_true, and_true, lk, slot, zaN, zaw, zaa, if_true, if_false, ↓reduceIte, reduceCtorEq])
    all_goals ((repeat' apply zar) <;> (first | rfl | trivial | (simp only [zaG]; done) | (simp only [zaG]; rfl) | (simp only [zaG]; trivial)))
theorem spos1_spec (x : Cf) (g : Int) : FnSpec Try.prog 81 [.agg (Rec.cs x), .one (.gptr [int g] 0)] [] (b1 (decide (x.g = g))) [] := by
  show FnSpec Try.prog 81 [.agg (cfc x), .one (.gptr [int g] 0)] [] (b1 (decide (x.g = g))) []
  obtain ⟨a, pm, w, q, pe, b, c0, c1, cp, mm, pt, m0, m1, m2, m3, m4, mt⟩ := x
  simp only [cfc, sgc]
  refine fnspec_of mixed TT_ok TT_cl ⟨fun _ => false, fun _ => [], 0, fun _ => false, fun _ => false⟩ Try.func81 rfl (by kernel_rfl) rfl 8 rfl [.tmp 3] rfl ?_
  simp only [go_sem, zaa, zae, zaf, zag, zah, zad, ↓reduceIte, reduceCtorEq, zab, zac, zai, zaj, zak]
  repeat' (first
 | exact fs_nil trivial rfl
 | fail)
theorem spos_spec (L : List Cf) (k : Option Nat) (g : Int) (hl : L.length ≤ 1000000) : FnSpec Try.prog 57 [gr L k, i1 g] [] (i1 (ixR (fun x : Cf => decide (x.g = g)) L 0)) [] := by
  have h1 := cf_ix 81 [int g] (fun x => decide (x.g = g)) L (fun x _ => spos1_spec x g) k (by omega)
  generalize ixR (fun x : Cf => decide (x.g = g)) L 0 = v at *
  refine fnspec_of mixed TT_ok TT_cl ⟨fun _ => false, fun _ => [], 0 , fun _ => false, fun i => if i = 1 then true else false⟩ Try.func57 rfl (by kernel_rfl) rfl 8 rfl [.tmp 4] rfl ?_
  simp only [go_sem, zaa, zae, zaf, zag, zah, zad, ↓reduceIte, reduceCtorEq, zab, zac, zai, zaj, zak]
  repeat' (first
 | (intros; (try simp only [zau, zax, zat, zas, zap, zaq, decide_eq_true_eq, decide_eq_false_iff_not] at *); omega))
  (refine rgf_t _ (imp_frz _ _ 0 ⟨[int g], 1⟩ (by simp only [zaS, lookR, zaa, if_true, if_false, ↓reduceIte]) (by first | exact Ints_isG _ | exact Bools_isG _ | exact Cs_isG _ | (simp [Cell.isG]; done))) ?_; simp only [frzTm, SV.frz, SV.frzL, zbi, frzHp, frzO, Ints_frz, Bools_frz, zal, zan, zaa, if_true, if_false, ↓reduceIte])
  simp only [go_sem, zaa, zae, zaf, zag, zah, zad, ↓reduceIte, reduceCtorEq, zab, zac, zai, zaj, zak]
  repeat' (first
 | (apply cl_plain
    case hs => rfl
    case ha => (simp only [zal, zan, prepV, prepC, idx, hpL', lookR, zaa, if_true, if_false]; rfl)
    case h => (first | exact h1 ..))
 | ((first | refine s1_id ?_ | refine swp_id ?_ | refine sops_id ?_ | refine s2_id ?_); simp only [go_sem, zaa, zae, zaf, zag, zah, zad, ↓reduceIte, reduceCtorEq, zab, zac, zai, zaj, zak, zaN, zaH, zaw, zaI, renO, bk, back, outUpsFrom, Ints_ren])
 | exact fs_nil trivial rfl
 | fail)
def SgR (s : Sg) : Prop := s.cp.length ≤ 1000000 ∧ s.mm.length ≤ 1000000
def CfR (L : List Cf) : Prop := ∀ x ∈ L, SgR x.s
def fiOk (l : List Nd) (L : List Cf) (i : Nat) : Bool := decide ((gCf L i).g = (gN l i).i) && ckS (gCf L i).s
def fiC (l : List Nd) (n : Int) (L : List Cf) : Bool := chkT l n && (decide (L.length = l.length) && allN L.length (fiOk l L))
set_option maxHeartbeats 8000000 in
theorem sfits_spec (l : List Nd) (n : Int) (L : List Cf) (k : Option Nat) (hl : l.length ≤ 1000000) (hL : L.length ≤ 1000000) (hnm : NmR l) (hct : CtR l) (hr : CfR L) : FnSpec Try.prog 18 [trV l none n, gr L k] [] (b1 (fiC l n L)) [] := by
  have h1 := tchk_spec l n hl hnm hct
  have hnl := nd_len l
  have hpl := cf_len L
  unfold fiC
  cases hk : chkT l n with
  | false =>
    rw [hk] at h1
    rw [zbb]
    refine fnspec_of mixed TT_ok TT_cl ⟨fun _ => false, fun _ => [], 0, fun _ => false, fun _ => false⟩ Try.func18 rfl (by kernel_rfl) rfl 41 rfl [.tmp 4] rfl ?_
    simp only [go_sem, zaa, zae, zaf, zag, zah, zad, ↓reduceIte, reduceCtorEq, zab, zac, zai, zaj, zak]
    repeat' (first
 | (apply cl_plain
    case hs => rfl
    case ha => (simp only [zal, zan, prepV, prepC, idx, hpL', lookR, zaa, if_true, if_false]; rfl)
    case h => (first | exact h1 ..))
 | ((first | refine s1_id ?_ | refine swp_id ?_ | refine sops_id ?_ | refine s2_id ?_); simp only [go_sem, zaa, zae, zaf, zag, zah, zad, ↓reduceIte, reduceCtorEq, zab, zac, zai, zaj, zak, zaN, zaH, zaw, zaI, renO, bk, back, outUpsFrom, Ints_ren])
 | exact fs_nil trivial rfl
 | fail)
  | true =>
  rw [hk] at h1
  rw [zaX]
  by_cases hle : L.length = l.length
  case neg =>
    have c : ¬ (L.length : Int) = (l.length : Int) := by omega
    rw [decide_eq_false hle, zbb]
    refine fnspec_of mixed TT_ok TT_cl ⟨fun _ => false, fun _ => [], 0, fun _ => false, fun _ => false⟩ Try.func18 rfl (by kernel_rfl) rfl 41 rfl [.tmp 4] rfl ?_
    simp only [go_sem, zaa, zae, zaf, zag, zah, zad, ↓reduceIte, reduceCtorEq, zab, zac, zai, zaj, zak, decide_eq_false c]
    repeat' (first
 | (apply cl_plain
    case hs => rfl
    case ha => (simp only [zal, zan, prepV, prepC, idx, hpL', lookR, zaa, if_true, if_false]; rfl)
    case h => (first | exact h1 ..))
 | ((first | refine s1_id ?_ | refine swp_id ?_ | refine sops_id ?_ | refine s2_id ?_); simp only [decide_eq_false c, go_sem, zaa, zae, zaf, zag, zah, zad, ↓reduceIte, reduceCtorEq, zab, zac, zai, zaj, zak, zaN, zaH, zaw, zaI, renO, bk, back, outUpsFrom, Ints_ren])
 | exact fs_nil trivial rfl
 | fail)
  rw [decide_eq_true hle, zaX]
  have c : (L.length : Int) = (l.length : Int) := by omega
  refine fnspec_of mixed TT_ok TT_cl ⟨fun _ => false, fun _ => [], 0, fun _ => false, fun _ => false⟩ Try.func18 rfl (by kernel_rfl) rfl 41 rfl [.tmp 4] rfl ?_
  simp only [go_sem, zaa, zae, zaf, zag, zah, zad, ↓reduceIte, reduceCtorEq, zab, zac, zai, zaj, zak, decide_eq_true c]
  repeat' (first
 | (apply cl_plain
    case hs => rfl
    case ha => (simp only [zal, zan, prepV, prepC, idx, hpL', lookR, zaa, if_true, if_false]; rfl)
    case h => (first | exact h1 ..))
 | ((first | refine s1_id ?_ | refine swp_id ?_ | refine sops_id ?_ | refine s2_id ?_); simp only [decide_eq_true c, go_sem, zaa, zae, zaf, zag, zah, zad, ↓reduceIte, reduceCtorEq, zab, zac, zai, zaj, zak, zaN, zaH, zaw, zaI, renO, bk, back, outUpsFrom, Ints_ren])
 | (intros; (try simp only [zau, zax, zat, zas, zap, zaq, decide_eq_true_eq, decide_eq_false_iff_not] at *); omega))
  refine w_loop (ι := Nat) (fun m => ⟨[(2, .one (.optr 0 0)), (18, gr L k), (19, i1 L.length), (20, i1 m)], [(0, some ⟨[.gsl (Cs l) 0 l.length none, int n], 2⟩)], 1⟩) (fun m => m ≤ L.length ∧ ∀ i, i < m → fiOk l L i = true) (fun m => L.length - m) 0 ?_ ⟨zaU _, fun i hi => absurd hi (Nat.not_lt_zero _)⟩ ?_
  · (refine imp_ren _ _ _ [(0, 0, ⟨[.gsl (Cs l) 0 l.length none, int n], 2⟩)] (by simp) (by simp) (by simp) (zay rfl) ?_ rfl (by simp only [zam, zao, false_implies, implies_true, and_true, zaS, lookR, zaa, if_true, if_false, ↓reduceIte] <;> (repeat' apply zar) <;> (first | rfl | trivial)) (by simp only [zam, zao, false_implies, implies_true, and_true, true_and, flat_cons, flat_nil, flat_ints, flat_bools, flat_app, zaT, and_self, eq_self_iff_true, zav]); simp only [zal, zan, zam, zao, false_implies, implies_true, and_true, lk, slot, zaN, zaw, toN, zaa, if_true, if_false, ↓reduceIte, reduceCtorEq])
    all_goals ((repeat' apply zar) <;> (first | rfl | trivial))
  clear h1
  rintro m ⟨hm, hok⟩
  simp only at hm hok ⊢
  rcases zba m L.length with hlt | hge
  case inr =>
    have c2 : ¬ (m : Int) < (L.length : Int) := by omega
    obtain rfl : m = L.length := by omega
    rw [(allN_iff _ _).2 hok]
    simp only [go_sem, zaa, zae, zaf, zag, zah, zad, ↓reduceIte, reduceCtorEq, zab, zac, zai, zaj, zak, decide_eq_false c2]
    repeat' (first
 | exact fs_nil trivial rfl
 | fail)
  have c2 : (m : Int) < (L.length : Int) := by omega
  have hT := cf_td L m hlt
  obtain ⟨q1, _⟩ := nd_f l m (by omega) (.sc (.int .i64 0))
  have hmr := hr _ (getD_mem L m zcf hlt)
  have h2 := scheck_spec (gCf L m).s hmr.1 hmr.2
  have hce : fiOk l L m = (decide ((gCf L m).g = (gN l m).i) && ckS (gCf L m).s) := rfl
  have hno : fiOk l L m = false → allN L.length (fiOk l L) = false := fun hf => Bool.eq_false_iff.2 fun h => by have := (allN_iff _ _).1 h m hlt; rw [hf] at this; cases this
  clear hmr
  generalize gCf L m = x at *
  generalize ckS x.s = P at *
  generalize (gN l m).i = id' at *
  obtain ⟨a, pm, w, q, pe, b, c0, c1, cp, mm, pt, m0, m1, m2, m3, m4, mt⟩ := x
  simp only [cfc, sgc, sgt] at hT h2
  simp only at hce
  by_cases k0 : a = id'
  case neg =>
    rw [hno (by rw [hce, decide_eq_false k0]; rfl)]
    simp only [go_sem, zaa, zae, zaf, zag, zah, zad, ↓reduceIte, reduceCtorEq, zab, zac, zai, zaj, zak, decide_eq_true c2, hT, q1, decide_eq_false k0]
    repeat' (first
 | with_reducible refine zar ?_ ?_
 | (unfold OKC; kernel_rfl)
 | (unfold EDG; kernel_rfl)
 | (intros; omega)
 | exact fs_nil trivial rfl
 | fail)
  rw [decide_eq_true k0, zaX] at hce
  cases P with
  | false =>
    rw [hno hce]
    simp only [go_sem, zaa, zae, zaf, zag, zah, zad, ↓reduceIte, reduceCtorEq, zab, zac, zai, zaj, zak, decide_eq_true c2, hT, q1, decide_eq_true k0]
    repeat' (first
 | with_reducible refine zar ?_ ?_
 | (unfold OKC; kernel_rfl)
 | (unfold EDG; kernel_rfl)
 | (apply cg_tp
    case hl => rfl
    case ha => (simp only [zal, zan, prepV, prepC, idx, hpL', lookR, zaa, if_true, if_false]; rfl)
    case hs => rfl
    case h => (first | exact h2 ..))
 | ((first | refine s1_id ?_ | refine swp_id ?_ | refine sops_id ?_ | refine s2_id ?_); simp only [decide_eq_true c2, hT, q1, decide_eq_true k0, zaE, zaJ, zav, zaK, zaO, zaC, zaD, zaz, zaQ, zaR, zaF, zaP, go_sem, zaa, zae, zaf, zag, zah, zad, ↓reduceIte, reduceCtorEq, zab, zac, zai, zaj, zak, zaN, zaH, zaw, zaI, renO, bk, back, outUpsFrom, Ints_ren])
 | (intros; omega)
 | exact fs_nil trivial rfl
 | fail)
  | true =>
  simp only [go_sem, zaa, zae, zaf, zag, zah, zad, ↓reduceIte, reduceCtorEq, zab, zac, zai, zaj, zak, decide_eq_true c2, hT, q1, decide_eq_true k0]
  repeat' (first
 | with_reducible refine zar ?_ ?_
 | (unfold OKC; kernel_rfl)
 | (unfold EDG; kernel_rfl)
 | (apply cg_tp
    case hl => rfl
    case ha => (simp only [zal, zan, prepV, prepC, idx, hpL', lookR, zaa, if_true, if_false]; rfl)
    case hs => rfl
    case h => (first | exact h2 ..))
 | ((first | refine s1_id ?_ | refine swp_id ?_ | refine sops_id ?_ | refine s2_id ?_); simp only [decide_eq_true c2, hT, q1, decide_eq_true k0, zaE, zaJ, zav, zaK, zaO, zaC, zaD, zaz, zaQ, zaR, zaF, zaP, go_sem, zaa, zae, zaf, zag, zah, zad, ↓reduceIte, reduceCtorEq, zab, zac, zai, zaj, zak, zaN, zaH, zaw, zaI, renO, bk, back, outUpsFrom, Ints_ren])
 | (intros; omega)
 | (intros; (try simp only [zau, zax, zat, zas, zap, zaq, decide_eq_true_eq, decide_eq_false_iff_not] at *); omega))
  refine le_mk (m + 1) ?_ ⟨hlt, fun i hi => by rcases Nat.lt_succ_iff_lt_or_eq.1 hi with h | h; (· exact hok i h); (· rw [h]; exact hce)⟩ (by omega)
  (refine imp_ren _ _ _ [(0, 0, ⟨[.gsl (Cs l) 0 l.length none, int n], 2⟩)] (by simp) (by simp) (by simp) (zay rfl) ?_ rfl (by simp only [zam, zao, false_implies, implies_true, and_true, zaS, lookR, zaa, if_true, if_false, ↓reduceIte] <;> (repeat' apply zar) <;> (first | rfl | trivial)) (by simp only [zam, zao, false_implies, implies_true, and_true, true_and, flat_cons, flat_nil, flat_ints, flat_bools, flat_app, zaT, and_self, eq_self_iff_true, zav]); simp only [zal, zan, zam, zao, false_implies, implies_true, and_true, lk, slot, zaN, zaw, toN, zaa, if_true, if_false, ↓reduceIte, reduceCtorEq])
  all_goals ((repeat' apply zar) <;> (first | rfl | trivial | (simp only [zaG]; done) | (simp only [zaG]; rfl) | (simp only [zaG]; trivial)))
end Go.Proofs.Ytcnilpdlcmpbbab
-- NEWGO
-- PRUNE: cl_lendx cl_use cl_lend
-- ISG: Cs_isG
-- FLAT: Cs_flat
namespace Go.Proofs.Ytcnilpdlcmpbbab
set_option linter.unusedVariables false
set_option linter.unusedSimpArgs false
open Go.Proofs.Ytcnilpdlcmpbbab.Sh
set_option maxRecDepth 20000
def sgF (L : List Cf) (g : Int) : Sg := match L.find? (fun x => decide (x.g = g)) with
  | some x => x.s
  | none => dfS
theorem find_dropC {L : List Cf} {m : Nat} (h : m < L.length) (g : Int) : (L.drop m).find? (fun x => decide (x.g = g)) = if (gCf L m).g = g then some (gCf L m) else (L.drop (m + 1)).find? (fun x => decide (x.g = g)) := by
  rw [drop_getD L m zcf h, List.find?_cons]
  by_cases c : (gCf L m).g = g
  · rw [if_pos c, show decide ((L.getD m zcf).g = g) = true from decide_eq_true c]
  · rw [if_neg c, show decide ((L.getD m zcf).g = g) = false from decide_eq_false c]
theorem sgF_ix (L : List Cf) (g : Int) : (ixR (fun x : Cf => decide (x.g = g)) L 0 = -1 ∧ sgF L g = dfS ∧ ∀ x ∈ L, x.g ≠ g) ∨ ∃ t : Nat, ixR (fun x : Cf => decide (x.g = g)) L 0 = t ∧ t < L.length ∧ sgF L g = (gCf L t).s ∧ (gCf L t).g = g ∧ ∀ j, j < t → (gCf L j).g ≠ g := by
  rcases ixR_at (fun x : Cf => decide (x.g = g)) zcf L 0 with ⟨h1, h2⟩ | ⟨k, h1, h2, h3, h4⟩
  · left
    refine ⟨h1, ?_, fun x hx => of_decide_eq_false (h2 x hx)⟩
    unfold sgF
    rw [List.find?_eq_none.2 fun x hx => by rw [h2 x hx]; decide]
  · right
    rw [Nat.zero_add] at h1
    refine ⟨k, h1, h2, ?_, of_decide_eq_true h3, fun j hj => of_decide_eq_false (h4 j hj)⟩
    have : L.find? (fun x => decide (x.g = g)) = some (gCf L k) := by
      rw [List.find?_eq_some_iff_getElem]
      refine ⟨h3, k, h2, (getD_at L k zcf h2).symm, fun j hj => ?_⟩
      have := h4 j hj
      rw [show L.getD j zcf = L[j] from getD_at L j zcf (by omega)] at this
      rw [this]; rfl
    unfold sgF
    rw [this]
set_option maxHeartbeats 8000000 in
theorem sget_spec (L : List Cf) (k : Option Nat) (g : Int) (hl : L.length ≤ 1000000) (hr : CfR L) : FnSpec Try.prog 22 [gr L k, i1 g] [] (sgt (sgF L g)) [] := by
  have hpl := cf_len L
  have h1 := spos_spec L k g hl
  rcases sgF_ix L g with ⟨e1, e2, _⟩ | ⟨t, e1, ht, e2, _⟩
  · rw [e2]
    rw [e1] at h1
    have h3 := sdef_spec
    simp only [sgt, sgc] at h3 ⊢
    refine fnspec_of mixed TT_ok TT_cl ⟨fun _ => false, fun _ => [], 0, fun _ => false, fun _ => false⟩ Try.func22 rfl (by kernel_rfl) rfl 18 rfl [.cell 4 47] rfl ?_
    simp only [go_sem, zaa, zae, zaf, zag, zah, zad, ↓reduceIte, reduceCtorEq, zab, zac, zai, zaj, zak]
    repeat' (first
 | with_reducible refine zar ?_ ?_
 | (apply cl_plain
    case hs => rfl
    case ha => (simp only [zal, zan, prepV, prepC, idx, hpL', lookR, zaa, if_true, if_false]; rfl)
    case h => (first | exact h1 .. | exact h3 ..))
 | ((first | refine s1_id ?_ | refine swp_id ?_ | refine sops_id ?_ | refine s2_id ?_); simp only [zaE, zaJ, zav, zaK, zaO, zaC, zaD, zaz, zaQ, zaR, zaF, zaP, go_sem, zaa, zae, zaf, zag, zah, zad, ↓reduceIte, reduceCtorEq, zab, zac, zai, zaj, zak, zaN, zaH, zaw, zaI, renO, bk, back, outUpsFrom, Ints_ren])
 | (intros; omega)
 | (apply fs_nil <;> (try simp only [go_sem, resV, resS, zaN, zaH, zaw, zbc, zaS, idx, renO, zaI, evS, slot, lookR, zaa, ↓reduceIte, reduceCtorEq, if_true, if_false, zaL, zaM, zal, zan, sLoad, readAt, readNeed, Ints_ren, Ints_length, Ints_getD, and_true, true_and, zaA, zaB]) <;> (try rfl))
 | fail)
  · rw [e2]
    rw [e1] at h1
    have c : ¬ (t : Int) < 0 := by omega
    have hT := cf_ts L t ht
    have hm := hr _ (getD_mem L t zcf ht)
    have h2 := scp_spec (gCf L t).s hm.1 hm.2
    clear hm
    generalize gCf L t = x at *
    obtain ⟨a, pm, w, q, pe, b, c0, c1, cp, mm, pt, m0, m1, m2, m3, m4, mt⟩ := x
    simp only [sgc, sgt] at hT h2 ⊢
    refine fnspec_of mixed TT_ok TT_cl ⟨fun _ => false, fun _ => [], 0, fun _ => false, fun _ => false⟩ Try.func22 rfl (by kernel_rfl) rfl 18 rfl [.cell 4 47] rfl ?_
    simp only [go_sem, zaa, zae, zaf, zag, zah, zad, ↓reduceIte, reduceCtorEq, zab, zac, zai, zaj, zak, decide_eq_false c, hT]
    repeat' (first
 | with_reducible refine zar ?_ ?_
 | (apply cl_plain
    case hs => rfl
    case ha => (simp only [zal, zan, prepV, prepC, idx, hpL', lookR, zaa, if_true, if_false]; rfl)
    case h => (first | exact h1 .. | exact h2 ..))
 | ((first | refine s1_id ?_ | refine swp_id ?_ | refine sops_id ?_ | refine s2_id ?_); simp only [decide_eq_false c, hT, zaE, zaJ, zav, zaK, zaO, zaC, zaD, zaz, zaQ, zaR, zaF, zaP, go_sem, zaa, zae, zaf, zag, zah, zad, ↓reduceIte, reduceCtorEq, zab, zac, zai, zaj, zak, zaN, zaH, zaw, zaI, renO, bk, back, outUpsFrom, Ints_ren])
 | (intros; omega)
 | (apply fs_nil <;> (try simp only [go_sem, resV, resS, zaN, zaH, zaw, zbc, zaS, idx, renO, zaI, evS, slot, lookR, zaa, ↓reduceIte, reduceCtorEq, if_true, if_false, zaL, zaM, zal, zan, sLoad, readAt, readNeed, Ints_ren, Ints_length, Ints_getD, and_true, true_and, zaA, zaB]) <;> (try rfl))
 | fail)
abbrev zsr : Row := ⟨[int 0, int 0, int 0, int 0, int 0, int 0, int 0, .sc (.slice none 0 0), .sc (.slice none 0 0), int 0, int 0, int 0, int 0, int 0, int 0, bool false, .sc (.slice none 0 0)], 17⟩
set_option maxHeartbeats 8000000 in
theorem srget_spec (L : List Cf) (k : Option Nat) (g : Int) (hl : L.length ≤ 1000000) (hr : CfR L) : FnSpec Try.prog 19 [gr L k, i1 g] [] (sgt (sgF L g)) [] := by
  have hpl := cf_len L
  unfold sgF
  refine fnspec_of mixed TT_ok TT_cl ⟨fun _ => false, fun _ => [], 0, fun _ => false, fun _ => false⟩ Try.func19 rfl (by kernel_rfl) rfl 26 rfl [.cell 4 47] rfl ?_
  simp only [go_sem, zaa, zae, zaf, zag, zah, zad, ↓reduceIte, reduceCtorEq, zab, zac, zai, zaj, zak]
  repeat' (first
 | (intros; (try simp only [zau, zax, zat, zas, zap, zaq, decide_eq_true_eq, decide_eq_false_iff_not] at *); omega))
  refine w_loop (ι := Nat) (fun m => ⟨[(0, gr L k), (1, i1 g), (4, .one (.optr 0 0)), (5, i1 m)], [(0, some zsr)], 1⟩) (fun m => m ≤ L.length ∧ L.find? (fun x => decide (x.g = g)) = (L.drop m).find? (fun x => decide (x.g = g))) (fun m => L.length - m) 0 ?_ ⟨zaU _, rfl⟩ ?_
  · (refine imp_ren _ _ _ [(0, 0, zsr)] (by simp) (by simp) (by simp) (zay rfl) ?_ rfl (by simp only [zam, zao, false_implies, implies_true, and_true, zaS, lookR, zaa, if_true, if_false, ↓reduceIte] <;> (repeat' apply zar) <;> (first | rfl | trivial)) (by simp only [zam, zao, false_implies, implies_true, and_true, true_and, flat_cons, flat_nil, flat_ints, flat_bools, flat_app, zaT, and_self, eq_self_iff_true, zav]); simp only [zal, zan, zam, zao, false_implies, implies_true, and_true, lk, slot, zaN, zaw, toN, zaa, if_true, if_false, ↓reduceIte, reduceCtorEq])
    all_goals ((repeat' apply zar) <;> (first | rfl | trivial))
  rintro m ⟨hm, hf⟩
  simp only at hm hf ⊢
  rcases zba m L.length with hlt | hge
  case inr =>
    have c : ¬ (m : Int) < (L.length : Int) := by omega
    rw [zbg hge] at hf
    rw [hf]
    have h3 := srdef_spec
    simp only [sgt, sgc] at h3 ⊢
    simp only [go_sem, zaa, zae, zaf, zag, zah, zad, ↓reduceIte, reduceCtorEq, zab, zac, zai, zaj, zak, decide_eq_false c, zsr, List.find?_nil]
    repeat' (first
 | with_reducible refine zar ?_ ?_
 | (apply cl_plain
    case hs => rfl
    case ha => (simp only [zal, zan, prepV, prepC, idx, hpL', lookR, zaa, if_true, if_false]; rfl)
    case h => (first | exact h3 ..))
 | ((first | refine s1_id ?_ | refine swp_id ?_ | refine sops_id ?_ | refine s2_id ?_); simp only [decide_eq_false c, zsr, zaE, zaJ, zav, zaK, zaO, zaC, zaD, zaz, zaQ, zaR, zaF, zaP, go_sem, zaa, zae, zaf, zag, zah, zad, ↓reduceIte, reduceCtorEq, zab, zac, zai, zaj, zak, zaN, zaH, zaw, zaI, renO, bk, back, outUpsFrom, Ints_ren])
 | (intros; omega)
 | (apply fs_nil <;> (try simp only [go_sem, resV, resS, zaN, zaH, zaw, zbc, zaS, idx, renO, zaI, evS, slot, lookR, zaa, ↓reduceIte, reduceCtorEq, if_true, if_false, zaL, zaM, zal, zan, sLoad, readAt, readNeed, Ints_ren, Ints_length, Ints_getD, and_true, true_and, zaA, zaB]) <;> (try rfl))
 | fail)
  have c : (m : Int) < (L.length : Int) := by omega
  have g1 := cf_f0 L m hlt (.sc (.int .i64 0))
  have hT := cf_ts L m hlt
  have hmr := hr _ (getD_mem L m zcf hlt)
  have h2 := srcp_spec (gCf L m).s hmr.1 hmr.2
  rw [find_dropC hlt] at hf
  clear hmr
  by_cases hid : (gCf L m).g = g
  · rw [if_pos hid] at hf
    rw [hf]
    generalize gCf L m = x at *
    obtain ⟨a, pm, w, q, pe, b, c0, c1, cp, mm, pt, m0, m1, m2, m3, m4, mt⟩ := x
    simp only [sgc, sgt] at hT h2 ⊢
    simp only at g1 hid
    simp only [go_sem, zaa, zae, zaf, zag, zah, zad, ↓reduceIte, reduceCtorEq, zab, zac, zai, zaj, zak, decide_eq_true c, g1, decide_eq_true hid, hT, zsr]
    repeat' (first
 | with_reducible refine zar ?_ ?_
 | (apply cl_plain
    case hs => rfl
    case ha => (simp only [zal, zan, prepV, prepC, idx, hpL', lookR, zaa, if_true, if_false]; rfl)
    case h => (first | exact h2 ..))
 | ((first | refine s1_id ?_ | refine swp_id ?_ | refine sops_id ?_ | refine s2_id ?_); simp only [decide_eq_true c, g1, decide_eq_true hid, hT, zsr, zaE, zaJ, zav, zaK, zaO, zaC, zaD, zaz, zaQ, zaR, zaF, zaP, go_sem, zaa, zae, zaf, zag, zah, zad, ↓reduceIte, reduceCtorEq, zab, zac, zai, zaj, zak, zaN, zaH, zaw, zaI, renO, bk, back, outUpsFrom, Ints_ren])
 | (intros; omega)
 | (apply fs_nil <;> (try simp only [go_sem, resV, resS, zaN, zaH, zaw, zbc, zaS, idx, renO, zaI, evS, slot, lookR, zaa, ↓reduceIte, reduceCtorEq, if_true, if_false, zaL, zaM, zal, zan, sLoad, readAt, readNeed, Ints_ren, Ints_length, Ints_getD, and_true, true_and, zaA, zaB]) <;> (try rfl))
 | fail)
  · rw [if_neg hid] at hf
    simp only [go_sem, zaa, zae, zaf, zag, zah, zad, ↓reduceIte, reduceCtorEq, zab, zac, zai, zaj, zak, decide_eq_true c, g1, decide_eq_false hid, zsr]
    repeat' (first
 | with_reducible refine zar ?_ ?_
 | (intros; omega)
 | (intros; (try simp only [zau, zax, zat, zas, zap, zaq, decide_eq_true_eq, decide_eq_false_iff_not] at *); omega))
    refine le_mk (m + 1) ?_ ⟨hlt, hf⟩ (by omega)
    (refine imp_ren _ _ _ [(0, 0, zsr)] (by simp) (by simp) (by simp) (zay rfl) ?_ rfl (by simp only [zam, zao, false_implies, implies_true, and_true, zaS, lookR, zaa, if_true, if_false, ↓reduceIte] <;> (repeat' apply zar) <;> (first | rfl | trivial)) (by simp only [zam, zao, false_implies, implies_true, and_true, true_and, flat_cons, flat_nil, flat_ints, flat_bools, flat_app, zaT, and_self, eq_self_iff_true, zav]); simp only [zal, zan, zam, zao, false_implies, implies_true, and_true, lk, slot, zaN, zaw, toN, zaa, if_true, if_false, ↓reduceIte, reduceCtorEq])
    all_goals ((repeat' apply zar) <;> (first | rfl | trivial | (simp only [zaG]; done) | (simp only [zaG]; rfl) | (simp only [zaG]; trivial)))
end Go.Proofs.Ytcnilpdlcmpbbab
-- NEWGO
-- PRUNE: cl_lendx cl_use cl_lend
-- ISG: Cs_isG
-- FLAT: Cs_flat
namespace Go.Proofs.Ytcnilpdlcmpbbab
set_option linter.unusedVariables false
set_option linter.unusedSimpArgs false
open Go.Proofs.Ytcnilpdlcmpbbab.Sh
set_option maxRecDepth 20000
def adF (l : List Nd) (L : List Cf) : List Cf := l.map (fun x => ⟨x.i, sgF L x.i⟩)
theorem adF_snoc (l : List Nd) (L : List Cf) (m : Nat) (h : m < l.length) : Cs (adF (l.take m) L) ++ (int (gN l m).i :: sgc (sgF L (gN l m).i)) = Cs (adF (l.take (m + 1)) L) := by
  rw [take_getD l m _ h]
  unfold adF
  rw [List.map_append]
  exact Cs_snoc _ (⟨(gN l m).i, sgF L (gN l m).i⟩ : Cf)
theorem adF_len (l : List Nd) (L : List Cf) : (adF l L).length = l.length := List.length_map _
set_option maxHeartbeats 8000000 in
theorem sadj_own (l : List Nd) (n : Int) (L : List Cf) (k : Option Nat) (hl : l.length ≤ 1000000) (hL : L.length ≤ 1000000) (hnm : NmR l) (hct : CtR l) (hr : CfR L) : FnSpec Try.prog 17 [trV l none n, gr L k] [] (.one (.osl 0 0 (if chkT l n = true then adF l L else []).length none)) [some ⟨Cs (if chkT l n = true then adF l L else []), 18⟩] := by
  have h1 := tchk_spec l n hl hnm hct
  have hnl := nd_len l
  cases hk : chkT l n with
  | false =>
    rw [hk] at h1
    rw [if_neg (by decide)]
    refine FnSpec.nilrow 18 ?_
    refine fnspec_of mixed TT_ok TT_cl ⟨fun _ => false, fun _ => [], 0, fun _ => false, fun _ => false⟩ Try.func17 rfl (by kernel_rfl) rfl 30 rfl [.tmp 4] rfl ?_
    simp only [go_sem, zaa, zae, zaf, zag, zah, zad, ↓reduceIte, reduceCtorEq, zab, zac, zai, zaj, zak]
    repeat' (first
 | (apply cl_plain
    case hs => rfl
    case ha => (simp only [zal, zan, prepV, prepC, idx, hpL', lookR, zaa, if_true, if_false]; rfl)
    case h => (first | exact h1 ..))
 | ((first | refine s1_id ?_ | refine swp_id ?_ | refine sops_id ?_ | refine s2_id ?_); simp only [go_sem, zaa, zae, zaf, zag, zah, zad, ↓reduceIte, reduceCtorEq, zab, zac, zai, zaj, zak, zaN, zaH, zaw, zaI, renO, bk, back, outUpsFrom, Ints_ren])
 | exact fs_nil trivial rfl
 | fail)
  | true =>
  rw [hk] at h1
  rw [if_pos rfl, adF_len]
  refine fnspec_of mixed TT_ok TT_cl ⟨fun _ => false, fun _ => [], 0, fun _ => false, fun _ => false⟩ Try.func17 rfl (by kernel_rfl) rfl 30 rfl [.tmp 4] rfl ?_
  simp only [go_sem, zaa, zae, zaf, zag, zah, zad, ↓reduceIte, reduceCtorEq, zab, zac, zai, zaj, zak]
  repeat' (first
 | (apply cl_plain
    case hs => rfl
    case ha => (simp only [zal, zan, prepV, prepC, idx, hpL', lookR, zaa, if_true, if_false]; rfl)
    case h => (first | exact h1 ..))
 | ((first | refine s1_id ?_ | refine swp_id ?_ | refine sops_id ?_ | refine s2_id ?_); simp only [go_sem, zaa, zae, zaf, zag, zah, zad, ↓reduceIte, reduceCtorEq, zab, zac, zai, zaj, zak, zaN, zaH, zaw, zaI, renO, bk, back, outUpsFrom, Ints_ren])
 | (intros; (try simp only [zau, zax, zat, zas, zap, zaq, decide_eq_true_eq, decide_eq_false_iff_not] at *); omega))
  refine w_loop (ι := Nat) (fun m => ⟨[(1, gr L k), (5, .one (.osl 0 0 m none)), (12, gr l none), (13, i1 l.length), (14, i1 m)], [(0, some ⟨Cs (adF (l.take m) L), 18⟩)], 1⟩) (fun m => m ≤ l.length) (fun m => l.length - m) 0 ?_ (zaU _) ?_
  · (refine Imp.trans (imp_nilA _ _ 5 18 99 (by simp only []; omega) rfl) ?_)
    (refine imp_ren _ _ _ [(0, 99, ⟨[], 18⟩)] (by simp) (by simp) (by simp) (zay rfl) ?_ rfl (by simp only [zam, zao, false_implies, implies_true, and_true, zaS, lookR, zaa, if_true, if_false, ↓reduceIte] <;> (repeat' apply zar) <;> (first | rfl | trivial)) (by simp only [zam, zao, false_implies, implies_true, and_true, true_and, flat_cons, flat_nil, flat_ints, flat_bools, flat_app, zaT, and_self, eq_self_iff_true, zav]); simp only [zal, zan, zam, zao, false_implies, implies_true, and_true, lk, slot, zaN, zaw, toN, zaa, if_true, if_false, ↓reduceIte, reduceCtorEq])
    all_goals ((repeat' apply zar) <;> (first | rfl | trivial))
  clear h1
  intro m hm
  simp only at hm ⊢
  rcases zba m l.length with hlt | hge
  case inr =>
    have c : ¬ (m : Int) < (l.length : Int) := by omega
    obtain rfl : m = l.length := by omega
    rw [List.take_length]
    simp only [go_sem, zaa, zae, zaf, zag, zah, zad, ↓reduceIte, reduceCtorEq, zab, zac, zai, zaj, zak, decide_eq_false c]
    repeat' (first
 | (intros; (try simp only [zau, zax, zat, zas, zap, zaq, decide_eq_true_eq, decide_eq_false_iff_not] at *); omega))
    (refine fs_flat [(0, ⟨Cs (adF l L), 18⟩)] (by simp) (by simp only [zal, zan]; decide) (by simp only [go_sem, resV, resS, zaN, zaH, zaw, zbc, zaS, idx, renO, zaI, evS, slot, lookR, zaa, ↓reduceIte, reduceCtorEq, if_true, if_false, zaL, zaM, zal, zan, sLoad, readAt, readNeed, Ints_ren, Ints_length, Ints_getD, and_true, true_and, zaA, zaB]; try decide) ?_ (by simp only [zam, zao, false_implies, implies_true, and_true, zaS, lookR, zaa, if_true, if_false, ↓reduceIte, Cs_flat] <;> (repeat' apply zar) <;> (first | rfl | trivial)) (by simp only [zam, zao, false_implies, implies_true, and_true, true_and, flat_cons, flat_nil, flat_ints, flat_bools, flat_app, zaT, and_self, eq_self_iff_true, zav, Cs_flat]) ?_ <;> (try simp only [go_sem, resV, resS, zaN, zaH, zaw, zbc, zaS, idx, renO, zaI, evS, slot, lookR, zaa, ↓reduceIte, reduceCtorEq, if_true, if_false, zaL, zaM, zal, zan, sLoad, readAt, readNeed, Ints_ren, Ints_length, Ints_getD, and_true, true_and, zaA, zaB]) <;> (try rfl))
  have c : (m : Int) < (l.length : Int) := by omega
  have q1 := nd_td l m hlt
  obtain ⟨q2, _⟩ := nd_f l m hlt (.sc (.int .i64 0))
  have h2 := sget_spec L k (gN l m).i hL hr
  have hS := adF_snoc l L m hlt
  have htl : (adF (l.take m) L).length = m := by rw [adF_len, zaV]; omega
  have htk : zbf (m * 18) (Cs (adF (l.take m) L)) = Cs (adF (l.take m) L) := Cs_all _ _ (by rw [htl]; exact zbe _)
  have hpt := cf_len (adF (l.take m) L)
  rw [htl] at hpt
  generalize adF (l.take m) L = W at *
  generalize gN l m = y at *
  obtain ⟨id', y1, y2, y3, y4, y5⟩ := y
  simp only at q1 q2 h2 hS
  simp only [sgc, sgt] at h2 hS
  generalize e : sgF L id' = x at *
  clear e
  obtain ⟨pm, w, q, pe, b, c0, c1, cp, mm, pt, m0, m1, m2, m3, m4, mt⟩ := x
  simp only at h2 hS
  simp only [go_sem, zaa, zae, zaf, zag, zah, zad, ↓reduceIte, reduceCtorEq, zab, zac, zai, zaj, zak, decide_eq_true c, q1, q2, hS]
  repeat' (first
 | with_reducible refine zar ?_ ?_
 | (unfold OKC; kernel_rfl)
 | (unfold EDG; kernel_rfl)
 | (apply cl_plain
    case hs => rfl
    case ha => (simp only [zal, zan, prepV, prepC, idx, hpL', lookR, zaa, if_true, if_false]; rfl)
    case h => (first | exact h2 ..))
 | ((first | refine s1_id ?_ | refine swp_id ?_ | refine sops_id ?_ | refine s2_id ?_); simp only [decide_eq_true c, q1, q2, hS, htk, zaE, zaJ, zav, zaK, zaO, zaC, zaD, zaz, zaQ, zaR, zaF, zaP, go_sem, zaa, zae, zaf, zag, zah, zad, ↓reduceIte, reduceCtorEq, zab, zac, zai, zaj, zak, zaN, zaH, zaw, zaI, renO, bk, back, outUpsFrom, Ints_ren])
 | (intros; omega)
 | (intros; (try simp only [zau, zax, zat, zas, zap, zaq, decide_eq_true_eq, decide_eq_false_iff_not] at *); omega))
  refine le_mk (m + 1) ?_ hlt (by omega)
  (refine imp_ren _ _ _ [(0, 15, ⟨Cs (adF (l.take (m + 1)) L), 18⟩)] (by simp) (by simp) (by simp) (zay rfl) ?_ rfl (by simp only [zam, zao, false_implies, implies_true, and_true, zaS, lookR, zaa, if_true, if_false, ↓reduceIte, Cs_flat] <;> (repeat' apply zar) <;> (first | rfl | trivial)) (by simp only [zam, zao, false_implies, implies_true, and_true, true_and, flat_cons, flat_nil, flat_ints, flat_bools, flat_app, zaT, and_self, eq_self_iff_true, zav, Cs_flat]); simp only [zal, zan, zam, zao, false_implies, implies_true, and_true, lk, slot, zaN, zaw, toN, zaa, if_true, if_false, ↓reduceIte, reduceCtorEq])
  all_goals ((repeat' apply zar) <;> (first | rfl | trivial | (simp only [zaG]; done) | (simp only [zaG]; rfl) | (simp only [zaG]; trivial)))
theorem sadj_spec (l : List Nd) (n : Int) (L : List Cf) (k : Option Nat) (hl : l.length ≤ 1000000) (hL : L.length ≤ 1000000) (hnm : NmR l) (hct : CtR l) (hr : CfR L) : FnSpec Try.prog 17 [trV l none n, gr L k] [] (gr (if chkT l n = true then adF l L else []) none) [] := by
  have h := (sadj_own l n L k hl hL hnm hct hr).frz1 (Cs_isG _)
  simpa only [SV.frz, SV.frzL, zbi, zal, zan, if_true] using h
end Go.Proofs.Ytcnilpdlcmpbbab
-- NEWGO
-- PRUNE: cl_lendx cl_use cl_lend
-- ISG: Cs_isG
-- FLAT: Cs_flat
namespace Go.Proofs.Ytcnilpdlcmpbbab
set_option linter.unusedVariables false
set_option linter.unusedSimpArgs false
open Go.Proofs.Ytcnilpdlcmpbbab.Sh
set_option maxRecDepth 20000
theorem cf_cl (xs : List (Cf)) (c : Option Nat) (hl : xs.length ≤ 1000000) : FnSpec Try.prog 84 [gr xs c] [] (.one (.osl 0 0 xs.length none)) [some ⟨Cs xs, 18⟩] := by
  have hts : zbf (xs.length * 18) (Cs xs) = Cs xs := Cs_all xs _ (zbe _)
  have hil : (Cs xs).length = xs.length * 18 := Cs_len xs
  by_cases h0 : 0 < xs.length
  · refine fnspec_of mixed TT_ok TT_cl ⟨fun _ => false, fun _ => [], 0, fun _ => false, fun _ => false⟩ Try.func84 rfl (by kernel_rfl) rfl 8 rfl [.tmp 2] rfl ?_
    simp only [go_sem, zaa, zae, zaf, zag, zah, zad, ↓reduceIte, reduceCtorEq, zab, zac, zai, zaj, zak, hts, hil]
    repeat' (first
 | with_reducible refine zar ?_ ?_
 | (intros; omega)
 | (intros; (try simp only [zau, zax, zat, zas, zap, zaq, decide_eq_true_eq, decide_eq_false_iff_not] at *); omega))
    (refine fs_flat [(5, ⟨Cs xs, 18⟩)] (by simp) (by simp only [zal, zan]; decide) (by simp only [go_sem, resV, resS, zaN, zaH, zaw, zbc, zaS, idx, renO, zaI, evS, slot, lookR, zaa, ↓reduceIte, reduceCtorEq, if_true, if_false, zaL, zaM, zal, zan, sLoad, readAt, readNeed, Ints_ren, Ints_length, Ints_getD, and_true, true_and, zaA, zaB]; try decide) ?_ (by simp only [zam, zao, false_implies, implies_true, and_true, zaS, lookR, zaa, if_true, if_false, ↓reduceIte, Cs_flat] <;> (repeat' apply zar) <;> (first | rfl | trivial)) (by simp only [zam, zao, false_implies, implies_true, and_true, true_and, flat_cons, flat_nil, flat_ints, flat_bools, flat_app, zaT, and_self, eq_self_iff_true, zav, Cs_flat]) ?_ <;> (try simp only [go_sem, resV, resS, zaN, zaH, zaw, zbc, zaS, idx, renO, zaI, evS, slot, lookR, zaa, ↓reduceIte, reduceCtorEq, if_true, if_false, zaL, zaM, zal, zan, sLoad, readAt, readNeed, Ints_ren, Ints_length, Ints_getD, and_true, true_and, zaA, zaB]) <;> (try rfl))
  · have hn : xs = [] := List.length_eq_zero_iff.1 (by omega)
    subst hn
    refine FnSpec.niln (FnSpec.nilrow 18 ?_) (fun ad cc => ?_)
    · refine fnspec_of mixed TT_ok TT_cl ⟨fun _ => false, fun _ => [], 0, fun _ => false, fun _ => false⟩ Try.func84 rfl (by kernel_rfl) rfl 8 rfl [.tmp 2] rfl ?_
      simp only [go_sem, zaa, zae, zaf, zag, zah, zad, ↓reduceIte, reduceCtorEq, zab, zac, zai, zaj, zak]
      repeat' (first
 | exact fs_nil trivial rfl
 | fail)
    · refine fnspec_of mixed TT_ok TT_cl ⟨fun _ => false, fun _ => [], 0, fun _ => false, fun _ => false⟩ Try.func84 rfl (by kernel_rfl) rfl 8 rfl [.tmp 2] rfl ?_
      simp only [go_sem, zaa, zae, zaf, zag, zah, zad, ↓reduceIte, reduceCtorEq, zab, zac, zai, zaj, zak]
      repeat' (first
 | (intros; (try simp only [zau, zax, zat, zas, zap, zaq, decide_eq_true_eq, decide_eq_false_iff_not] at *); omega))
      (refine fs_flat [(5, ⟨[], 18⟩)] (by simp) (by simp only [zal, zan]; decide) (by simp only [go_sem, resV, resS, zaN, zaH, zaw, zbc, zaS, idx, renO, zaI, evS, slot, lookR, zaa, ↓reduceIte, reduceCtorEq, if_true, if_false, zaL, zaM, zal, zan, sLoad, readAt, readNeed, Ints_ren, Ints_length, Ints_getD, and_true, true_and, zaA, zaB]; try decide) ?_ (by simp only [zam, zao, false_implies, implies_true, and_true, zaS, lookR, zaa, if_true, if_false, ↓reduceIte, Cs_flat] <;> (repeat' apply zar) <;> (first | rfl | trivial)) (by simp only [zam, zao, false_implies, implies_true, and_true, true_and, flat_cons, flat_nil, flat_ints, flat_bools, flat_app, zaT, and_self, eq_self_iff_true, zav, Cs_flat]) ?_ <;> (try simp only [go_sem, resV, resS, zaN, zaH, zaw, zbc, zaS, idx, renO, zaI, evS, slot, lookR, zaa, ↓reduceIte, reduceCtorEq, if_true, if_false, zaL, zaM, zal, zan, sLoad, readAt, readNeed, Ints_ren, Ints_length, Ints_getD, and_true, true_and, zaA, zaB]) <;> (try rfl))
theorem cf_self (L : List Cf) (i : Nat) : L.set i (gCf L i) = L := by
  by_cases h : i < L.length
  · rw [show gCf L i = L[i] from getD_at L i zcf h, List.set_getElem_self]
  · rw [List.set_eq_of_length_le (by omega)]
theorem putAt_cons (cs : List Cell) (o : Nat) (c : Cell) (r : List Cell) : putAt cs o (c :: r) = putAt (cs.set o c) (o + 1) r := rfl
theorem cf_put (L : List Cf) (i : Nat) (s : Sg) (h : i < L.length) : putAt (Cs L) (i * 18 + 1) (sgc s) = Cs (L.set i ⟨(gCf L i).g, s⟩) := by
  have h1 : putAt (Cs L) (i * 18) (int (gCf L i).g :: sgc s) = Cs (L.set i ⟨(gCf L i).g, s⟩) := Cs_set L i ⟨(gCf L i).g, s⟩ h
  have h2 : (Cs L).set (i * 18) (int (gCf L i).g) = Cs L := by
    have h3 : (Cs L).set (i * 18 + 0) (int (gCf L i).g) = Cs (L.set i (gCf L i)) := Cs_setf L i 0 (gCf L i) _ h (by decide) rfl
    rw [cf_self] at h3
    exact h3
  rw [putAt_cons, h2] at h1
  exact h1
set_option maxHeartbeats 8000000 in
theorem scfgs_own (L : List Cf) (k : Option Nat) (hl : L.length ≤ 1000000) (hr : CfR L) : FnSpec Try.prog 59 [gr L k] [] (.one (.osl 0 0 L.length none)) [some ⟨Cs L, 18⟩] := by
  have h1 := cf_cl L k hl
  have hpl := cf_len L
  refine fnspec_of mixed TT_ok TT_cl ⟨fun _ => false, fun _ => [], 0, fun _ => false, fun _ => false⟩ Try.func59 rfl (by kernel_rfl) rfl 23 rfl [.tmp 2] rfl ?_
  simp only [go_sem, zaa, zae, zaf, zag, zah, zad, ↓reduceIte, reduceCtorEq, zab, zac, zai, zaj, zak]
  repeat' (first
 | (apply cl_plain
    case hs => rfl
    case ha => (simp only [zal, zan, prepV, prepC, idx, hpL', lookR, zaa, if_true, if_false]; rfl)
    case h => (first | exact h1 ..))
 | ((first | refine s1_id ?_ | refine swp_id ?_ | refine sops_id ?_ | refine s2_id ?_); simp only [go_sem, zaa, zae, zaf, zag, zah, zad, ↓reduceIte, reduceCtorEq, zab, zac, zai, zaj, zak, zaN, zaH, zaw, zaI, renO, bk, back, outUpsFrom, Ints_ren])
 | (intros; (try simp only [zau, zax, zat, zas, zap, zaq, decide_eq_true_eq, decide_eq_false_iff_not] at *); omega))
  refine w_loop (ι := Nat) (fun m => ⟨[(0, .one (.osl 0 0 L.length none)), (7, i1 L.length), (8, i1 m)], [(0, some ⟨Cs L, 18⟩)], 1⟩) (fun m => m ≤ L.length) (fun m => L.length - m) 0 ?_ (zaU _) ?_
  · (refine imp_ren _ _ _ [(0, 2, ⟨Cs L, 18⟩)] (by simp) (by simp) (by simp) (zay rfl) ?_ rfl (by simp only [zam, zao, false_implies, implies_true, and_true, zaS, lookR, zaa, if_true, if_false, ↓reduceIte, Cs_flat] <;> (repeat' apply zar) <;> (first | rfl | trivial)) (by simp only [zam, zao, false_implies, implies_true, and_true, true_and, flat_cons, flat_nil, flat_ints, flat_bools, flat_app, zaT, and_self, eq_self_iff_true, zav, Cs_flat]); simp only [zal, zan, zam, zao, false_implies, implies_true, and_true, lk, slot, zaN, zaw, toN, zaa, if_true, if_false, ↓reduceIte, reduceCtorEq])
    all_goals ((repeat' apply zar) <;> (first | rfl | trivial))
  clear h1
  intro m hm
  simp only at hm ⊢
  rcases zba m L.length with hlt | hge
  case inr =>
    have c : ¬ (m : Int) < (L.length : Int) := by omega
    simp only [go_sem, zaa, zae, zaf, zag, zah, zad, ↓reduceIte, reduceCtorEq, zab, zac, zai, zaj, zak, decide_eq_false c]
    repeat' (first
 | (intros; (try simp only [zau, zax, zat, zas, zap, zaq, decide_eq_true_eq, decide_eq_false_iff_not] at *); omega))
    (refine fs_flat [(0, ⟨Cs L, 18⟩)] (by simp) (by simp only [zal, zan]; decide) (by simp only [go_sem, resV, resS, zaN, zaH, zaw, zbc, zaS, idx, renO, zaI, evS, slot, lookR, zaa, ↓reduceIte, reduceCtorEq, if_true, if_false, zaL, zaM, zal, zan, sLoad, readAt, readNeed, Ints_ren, Ints_length, Ints_getD, and_true, true_and, zaA, zaB]; try decide) ?_ (by simp only [zam, zao, false_implies, implies_true, and_true, zaS, lookR, zaa, if_true, if_false, ↓reduceIte, Cs_flat] <;> (repeat' apply zar) <;> (first | rfl | trivial)) (by simp only [zam, zao, false_implies, implies_true, and_true, true_and, flat_cons, flat_nil, flat_ints, flat_bools, flat_app, zaT, and_self, eq_self_iff_true, zav, Cs_flat]) ?_ <;> (try simp only [go_sem, resV, resS, zaN, zaH, zaw, zbc, zaS, idx, renO, zaI, evS, slot, lookR, zaa, ↓reduceIte, reduceCtorEq, if_true, if_false, zaL, zaM, zal, zan, sLoad, readAt, readNeed, Ints_ren, Ints_length, Ints_getD, and_true, true_and, zaA, zaB]) <;> (try rfl))
  have c : (m : Int) < (L.length : Int) := by omega
  have hT := cf_ts L m hlt
  have hmr := hr _ (getD_mem L m zcf hlt)
  have h2 := scp_spec (gCf L m).s hmr.1 hmr.2
  have hS := cf_put L m (gCf L m).s hlt
  rw [show (⟨(gCf L m).g, (gCf L m).s⟩ : Cf) = gCf L m from rfl, cf_self] at hS
  clear hmr
  generalize (gCf L m).s = x at *
  obtain ⟨pm, w, q, pe, b, c0, c1, cp, mm, pt, m0, m1, m2, m3, m4, mt⟩ := x
  simp only [sgc, sgt] at hT h2 hS
  simp only [go_sem, zaa, zae, zaf, zag, zah, zad, ↓reduceIte, reduceCtorEq, zab, zac, zai, zaj, zak, decide_eq_true c, hT, hS]
  repeat' (first
 | with_reducible refine zar ?_ ?_
 | (apply cl_plain
    case hs => rfl
    case ha => (simp only [zal, zan, prepV, prepC, idx, hpL', lookR, zaa, if_true, if_false]; rfl)
    case h => (first | exact h2 ..))
 | ((first | refine s1_id ?_ | refine swp_id ?_ | refine sops_id ?_ | refine s2_id ?_); simp only [decide_eq_true c, hT, hS, zaE, zaJ, zav, zaK, zaO, zaC, zaD, zaz, zaQ, zaR, zaF, zaP, go_sem, zaa, zae, zaf, zag, zah, zad, ↓reduceIte, reduceCtorEq, zab, zac, zai, zaj, zak, zaN, zaH, zaw, zaI, renO, bk, back, outUpsFrom, Ints_ren])
 | (intros; omega)
 | (intros; (try simp only [zau, zax, zat, zas, zap, zaq, decide_eq_true_eq, decide_eq_false_iff_not] at *); omega))
  refine le_mk (m + 1) ?_ hlt (by omega)
  (refine imp_ren _ _ _ [(0, 0, ⟨Cs L, 18⟩)] (by simp) (by simp) (by simp) (zay rfl) ?_ rfl (by simp only [zam, zao, false_implies, implies_true, and_true, zaS, lookR, zaa, if_true, if_false, ↓reduceIte, Cs_flat] <;> (repeat' apply zar) <;> (first | rfl | trivial)) (by simp only [zam, zao, false_implies, implies_true, and_true, true_and, flat_cons, flat_nil, flat_ints, flat_bools, flat_app, zaT, and_self, eq_self_iff_true, zav, Cs_flat]); simp only [zal, zan, zam, zao, false_implies, implies_true, and_true, lk, slot, zaN, zaw, toN, zaa, if_true, if_false, ↓reduceIte, reduceCtorEq])
  all_goals ((repeat' apply zar) <;> (first | rfl | trivial | (simp only [zaG]; done) | (simp only [zaG]; rfl) | (simp only [zaG]; trivial)))
theorem snew_spec (l : List Nd) (n : Int) (hl : l.length ≤ 1000000) (hnm : NmR l) (hct : CtR l) : FnSpec Try.prog 39 [trV l none n] [] (gr (if chkT l n = true then adF l [] else []) none) [] := by
  have h1 : FnSpec Try.prog 17 [trV l none n, .one (.sc (.slice none 0 0))] [] (gr (if chkT l n = true then adF l [] else []) none) [] := (sadj_spec l n [] none hl (zaU _) hnm hct (fun x hx => by cases hx)).pre ⟨⟨cw_rfl _, cw_rfl _, trivial⟩, cw_niln _ _, trivial⟩
  generalize (if chkT l n = true then adF l [] else []) = R at *
  have hnl := nd_len l
  refine fnspec_of mixed TT_ok TT_cl ⟨fun _ => false, fun _ => [], 0, fun _ => false, fun _ => false⟩ Try.func39 rfl (by kernel_rfl) rfl 5 rfl [.tmp 2] rfl ?_
  simp only [go_sem, zaa, zae, zaf, zag, zah, zad, ↓reduceIte, reduceCtorEq, zab, zac, zai, zaj, zak]
  repeat' (first
 | (apply cl_plain
    case hs => rfl
    case ha => (simp only [zal, zan, prepV, prepC, idx, hpL', lookR, zaa, if_true, if_false]; rfl)
    case h => (first | exact h1 ..))
 | ((first | refine s1_id ?_ | refine swp_id ?_ | refine sops_id ?_ | refine s2_id ?_); simp only [go_sem, zaa, zae, zaf, zag, zah, zad, ↓reduceIte, reduceCtorEq, zab, zac, zai, zaj, zak, zaN, zaH, zaw, zaI, renO, bk, back, outUpsFrom, Ints_ren])
 | exact fs_nil trivial rfl
 | fail)
def setF (L : List Cf) (g : Int) (s : Sg) : List Cf := L.map (fun x => if x.g = g then ⟨g, s⟩ else x)
def stM (l : List Nd) (n : Int) (L : List Cf) (g : Int) (s : Sg) : List Cf × Int := if fiC l n L = true then (if L.any (fun x => decide (x.g = g)) = true then (if ckS s = true then (setF L g s, 0) else ([], 3)) else ([], 4)) else ([], 1)
structure FiP (l : List Nd) (n : Int) (L : List Cf) : Prop where
  vt : VT l n
  len : L.length = l.length
  id : ∀ i, i < L.length → (gCf L i).g = (gN l i).i
  ck : ∀ i, i < L.length → ckS (gCf L i).s = true
theorem fiC_iff (l : List Nd) (n : Int) (L : List Cf) : fiC l n L = true ↔ FiP l n L := by
  unfold fiC fiOk
  simp only [zau, decide_eq_true_eq, allN_iff, chkT_iff]
  exact ⟨fun ⟨a, b, c⟩ => ⟨a, b, fun i hi => (c i hi).1, fun i hi => (c i hi).2⟩, fun ⟨a, b, c, d⟩ => ⟨a, b, fun i hi => ⟨c i hi, d i hi⟩⟩⟩
theorem FiP.inj {l : List Nd} {n : Int} {L : List Cf} (h : FiP l n L) {i j : Nat} (hi : i < L.length) (hj : j < L.length) (e : (gCf L i).g = (gCf L j).g) : i = j := by
  have hle := h.len
  rw [h.id i hi, h.id j hj] at e
  exact h.vt.asc.inj (by omega) (by omega) e
theorem setF_set {l : List Nd} {n : Int} {L : List Cf} (h : FiP l n L) {t : Nat} (ht : t < L.length) (g : Int) (s : Sg) (e : (gCf L t).g = g) : setF L g s = L.set t ⟨g, s⟩ := by
  unfold setF
  refine List.ext_getElem (by rw [List.length_map, List.length_set]) fun i h1 h2 => ?_
  rw [List.getElem_map, List.getElem_set]
  rw [List.length_map] at h1
  have hi : gCf L i = L[i] := getD_at L i zcf h1
  by_cases c : t = i
  · subst c
    rw [if_pos rfl, if_pos (by rw [← hi]; exact e)]
  · rw [if_neg c, if_neg fun h5 => c (h.inj ht h1 (by rw [e, hi, h5]))]
end Go.Proofs.Ytcnilpdlcmpbbab
-- NEWGO
-- PRUNE: cl_lendx cl_use cl_lend
-- ISG: Cs_isG
-- FLAT: Cs_flat
namespace Go.Proofs.Ytcnilpdlcmpbbab
set_option linter.unusedVariables false
set_option linter.unusedSimpArgs false
open Go.Proofs.Ytcnilpdlcmpbbab.Sh
set_option maxRecDepth 20000
set_option maxHeartbeats 8000000 in
theorem sset_spec (l : List Nd) (n : Int) (L : List Cf) (k : Option Nat) (g : Int) (s : Sg) (hl : l.length ≤ 1000000) (hL : L.length ≤ 1000000) (hnm : NmR l) (hct : CtR l) (hr : CfR L) (hs : SgR s) : FnSpec Try.prog 23 [trV l none n, gr L k, i1 g, sgt s] [] (.tup [gr (stM l n L g s).1 none, i1 (stM l n L g s).2]) [] := by
  have h1 := sfits_spec l n L k hl hL hnm hct hr
  have h2 := spos_spec L k g hL
  have h3 := scheck_spec s hs.1 hs.2
  have h4 := scfgs_own L k hL hr
  have h5 := scp_spec s hs.1 hs.2
  have hpl := cf_len L
  have hnl := nd_len l
  unfold stM
  cases hf : fiC l n L with
  | false =>
    rw [hf] at h1
    rw [if_neg (by decide)]
    refine fnspec_of mixed TT_ok TT_cl ⟨fun _ => false, fun _ => [], 0, fun _ => false, fun _ => false⟩ Try.func23 rfl (by kernel_rfl) rfl 33 rfl [.tmp 8, .tmp 9] rfl ?_
    simp only [go_sem, zaa, zae, zaf, zag, zah, zad, ↓reduceIte, reduceCtorEq, zab, zac, zai, zaj, zak]
    repeat' (first
 | (apply cl_plain
    case hs => rfl
    case ha => (simp only [zal, zan, prepV, prepC, idx, hpL', lookR, zaa, if_true, if_false]; rfl)
    case h => (first | exact h1 ..))
 | ((first | refine s1_id ?_ | refine swp_id ?_ | refine sops_id ?_ | refine s2_id ?_); simp only [go_sem, zaa, zae, zaf, zag, zah, zad, ↓reduceIte, reduceCtorEq, zab, zac, zai, zaj, zak, zaN, zaH, zaw, zaI, renO, bk, back, outUpsFrom, Ints_ren])
 | (intros; (try simp only [zau, zax, zat, zas, zap, zaq, decide_eq_true_eq, decide_eq_false_iff_not] at *); omega))
    repeat' (first
 | exact fs_w trivial (svw_of (zar cw_gnil (zar (cw_rfl _) trivial)))
 | fail)
  | true =>
  rw [hf] at h1
  rw [if_pos rfl]
  have hp := (fiC_iff l n L).1 hf
  rcases sgF_ix L g with ⟨e1, _, e3⟩ | ⟨t, e1, ht, _, e4, _⟩
  · rw [e1] at h2
    rw [show L.any (fun x => decide (x.g = g)) = false from List.any_eq_false.2 fun x hx => by rw [decide_eq_false (e3 x hx)]; decide, if_neg (by decide)]
    refine fnspec_of mixed TT_ok TT_cl ⟨fun _ => false, fun _ => [], 0, fun _ => false, fun _ => false⟩ Try.func23 rfl (by kernel_rfl) rfl 33 rfl [.tmp 8, .tmp 9] rfl ?_
    simp only [go_sem, zaa, zae, zaf, zag, zah, zad, ↓reduceIte, reduceCtorEq, zab, zac, zai, zaj, zak]
    repeat' (first
 | (apply cl_plain
    case hs => rfl
    case ha => (simp only [zal, zan, prepV, prepC, idx, hpL', lookR, zaa, if_true, if_false]; rfl)
    case h => (first | exact h1 .. | exact h2 ..))
 | ((first | refine s1_id ?_ | refine swp_id ?_ | refine sops_id ?_ | refine s2_id ?_); simp only [go_sem, zaa, zae, zaf, zag, zah, zad, ↓reduceIte, reduceCtorEq, zab, zac, zai, zaj, zak, zaN, zaH, zaw, zaI, renO, bk, back, outUpsFrom, Ints_ren])
 | (intros; (try simp only [zau, zax, zat, zas, zap, zaq, decide_eq_true_eq, decide_eq_false_iff_not] at *); omega))
    repeat' (first
 | exact fs_w trivial (svw_of (zar cw_gnil (zar (cw_rfl _) trivial)))
 | fail)
  rw [e1] at h2
  rw [show L.any (fun x => decide (x.g = g)) = true from List.any_eq_true.2 ⟨gCf L t, getD_mem L t zcf ht, decide_eq_true e4⟩, if_pos rfl]
  have c : ¬ (t : Int) < 0 := by omega
  cases hc : ckS s with
  | false =>
    rw [hc] at h3
    rw [if_neg (by decide)]
    refine fnspec_of mixed TT_ok TT_cl ⟨fun _ => false, fun _ => [], 0, fun _ => false, fun _ => false⟩ Try.func23 rfl (by kernel_rfl) rfl 33 rfl [.tmp 8, .tmp 9] rfl ?_
    simp only [go_sem, zaa, zae, zaf, zag, zah, zad, ↓reduceIte, reduceCtorEq, zab, zac, zai, zaj, zak, decide_eq_false c]
    repeat' (first
 | (apply cl_plain
    case hs => rfl
    case ha => (simp only [zal, zan, prepV, prepC, idx, hpL', lookR, zaa, if_true, if_false]; rfl)
    case h => (first | exact h1 .. | exact h2 .. | exact h3 ..))
 | ((first | refine s1_id ?_ | refine swp_id ?_ | refine sops_id ?_ | refine s2_id ?_); simp only [decide_eq_false c, go_sem, zaa, zae, zaf, zag, zah, zad, ↓reduceIte, reduceCtorEq, zab, zac, zai, zaj, zak, zaN, zaH, zaw, zaI, renO, bk, back, outUpsFrom, Ints_ren])
 | (intros; (try simp only [zau, zax, zat, zas, zap, zaq, decide_eq_true_eq, decide_eq_false_iff_not] at *); omega))
    repeat' (first
 | exact fs_w trivial (svw_of (zar cw_gnil (zar (cw_rfl _) trivial)))
 | fail)
  | true =>
  rw [hc] at h3
  rw [if_pos rfl, setF_set hp ht g s e4]
  have hS := cf_put L t s ht
  rw [e4] at hS
  have hsl : (L.set t ⟨g, s⟩).length = L.length := List.length_set
  generalize L.set t ⟨g, s⟩ = W at *
  clear hp
  obtain ⟨pm, w, q, pe, b, c0, c1, cp, mm, pt, m0, m1, m2, m3, m4, mt⟩ := s
  simp only [sgc, sgt] at h3 h5 hS ⊢
  refine fnspec_of mixed TT_ok TT_cl ⟨fun _ => false, fun _ => [], 0, fun _ => false, fun _ => false⟩ Try.func23 rfl (by kernel_rfl) rfl 33 rfl [.tmp 8, .tmp 9] rfl ?_
  simp only [go_sem, zaa, zae, zaf, zag, zah, zad, ↓reduceIte, reduceCtorEq, zab, zac, zai, zaj, zak, decide_eq_false c, hS, hsl]
  repeat' (first
 | with_reducible refine zar ?_ ?_
 | (apply cl_plain
    case hs => rfl
    case ha => (simp only [zal, zan, prepV, prepC, idx, hpL', lookR, zaa, if_true, if_false]; rfl)
    case h => (first | exact h1 .. | exact h2 .. | exact h3 .. | exact h4 .. | exact h5 ..))
 | ((first | refine s1_id ?_ | refine swp_id ?_ | refine sops_id ?_ | refine s2_id ?_); simp only [decide_eq_false c, hS, hsl, zaE, zaJ, zav, zaK, zaO, zaC, zaD, zaz, zaQ, zaR, zaF, zaP, go_sem, zaa, zae, zaf, zag, zah, zad, ↓reduceIte, reduceCtorEq, zab, zac, zai, zaj, zak, zaN, zaH, zaw, zaI, renO, bk, back, outUpsFrom, Ints_ren])
 | (intros; omega)
 | (intros; (try simp only [zau, zax, zat, zas, zap, zaq, decide_eq_true_eq, decide_eq_false_iff_not] at *); omega))
  rw [show gr W none = SV.one (.gsl (Cs W) 0 L.length none) from by rw [← hsl]]
  (refine fs_frz 18 ⟨Cs W, 18⟩ (by simp only [zaS, lookR, zaa, if_true, if_false, ↓reduceIte]) (by first | exact Ints_isG _ | exact Bools_isG _ | exact Cs_isG _ | (simp [Cell.isG]; done)) ?_; simp only [frzTm, SV.frz, SV.frzL, zbi, frzHp, frzO, Ints_frz, Bools_frz, zal, zan, zaa, if_true, if_false, ↓reduceIte])
  repeat' (first
 | (refine fs_w ?h1 (svw_of ?h2); (case h1 => repeat' (first | exact trivial | exact rfl | exact zay rfl | apply zar)); (case h2 => repeat' (first | ((with_reducible refine (?_ : CW _ _)); first | exact cw_gnil | exact cw_rfl _ | exact cw_niln _ _ | exact cw_cap _ _ _ _) | exact trivial | (show _ ∧ SWL _ _; apply zar) | (show _ ∧ CWL _ _; apply zar) | show CW _ _)))
 | fail)
end Go.Proofs.Ytcnilpdlcmpbbab
-- NEWGO
-- PRUNE: cl_lendx cl_use cl_lend
-- ISG: Cs_isG
-- FLAT: Cs_flat
namespace Go.Proofs.Ytcnilpdlcmpbbab
set_option linter.unusedVariables false
set_option linter.unusedSimpArgs false
open Go.Proofs.Ytcnilpdlcmpbbab.Sh
set_option maxRecDepth 20000
end Go.Proofs.Ytcnilpdlcmpbbab
-- NEWGO
-- PRUNE: cl_lendx cl_use cl_lend
-- ISG: Cs_isG
-- FLAT: Cs_flat
namespace Go.Proofs.Ytcnilpdlcmpbbab
set_option linter.unusedVariables false
set_option linter.unusedSimpArgs false
open Go.Proofs.Ytcnilpdlcmpbbab.Sh
set_option maxRecDepth 20000
theorem if_minS (a b : Int) : (if b < a then b else a) = min a b := by split <;> omega
theorem upR_mem : ∀ (l : List Nd) (g a : Int), a ∈ upR l g → ∃ x ∈ l, x.i = a
  | [], _, _, h => by cases h
  | x :: r, g, a, h => by
    unfold upR at h
    split at h
    · rename_i e
      rcases List.mem_cons.1 h with rfl | h
      · exact ⟨x, List.mem_cons_self, e⟩
      · obtain ⟨y, hy, e2⟩ := upR_mem r x.p a h
        exact ⟨y, List.mem_cons_of_mem _ hy, e2⟩
    · obtain ⟨y, hy, e2⟩ := upR_mem r g a h
      exact ⟨y, List.mem_cons_of_mem _ hy, e2⟩
theorem upR_hd : ∀ (l : List Nd) (g : Int), upR l g = [] ∨ ∃ r, upR l g = g :: r
  | [], _ => .inl rfl
  | x :: r, g => by
    unfold upR
    split
    · exact .inr ⟨_, rfl⟩
    · exact upR_hd r g
theorem anc_mem {l : List Nd} {n g a : Int} (h : a ∈ ancM l n g) : ∃ x ∈ l, x.i = a := by
  unfold ancM at h
  split at h
  · obtain ⟨x, hx, e⟩ := upR_mem _ _ _ h
    exact ⟨x, List.mem_reverse.1 hx, e⟩
  · cases h
theorem anc_hd (l : List Nd) (n g : Int) : ancM l n g = [] ∨ ∃ r, ancM l n g = g :: r := by
  unfold ancM
  split
  · exact upR_hd _ _
  · exact .inl rfl
def limF (x y : Sg) : Sg := ⟨min x.pm y.pm, x.w, min x.q y.q, x.pe, x.b, x.c0, min x.c1 y.c1, x.cp, x.mm, x.pt, x.m0, x.m1, x.m2, x.m3, x.m4, x.mt⟩
def lowL (L : List Cf) (U : List Int) (s : Sg) : Sg := U.foldl (fun s a => limF s (sgF L a)) s
def finF (x : Sg) : Sg := ⟨x.pm, x.w, x.q, x.pe, x.b, min x.c0 x.c1, x.c1, x.cp, x.mm, x.pt, x.m0, x.m1, x.m2, x.m3, x.m4, x.mt⟩
def lwM (l : List Nd) (n : Int) (L : List Cf) (g : Int) : Sg := if fiC l n L = true ∧ (ancM l n g).length ≠ 0 then finF (lowL L (ancM l n g) (sgF L g)) else zsg
theorem lowL_take (L : List Cf) (U : List Int) (s : Sg) (m : Nat) (h : m < U.length) : lowL L (U.take (m + 1)) s = limF (lowL L (U.take m) s) (sgF L (U.getD m 0)) := by
  unfold lowL
  rw [take_getD U m 0 h, List.foldl_append]; rfl
theorem sg_in {l : List Nd} {n : Int} {L : List Cf} (h : FiP l n L) {g a : Int} (ha : a ∈ ancM l n g) : ∃ t : Nat, ixR (fun x : Cf => decide (x.g = a)) L 0 = t ∧ t < L.length ∧ sgF L a = (gCf L t).s := by
  rcases sgF_ix L a with ⟨_, _, e3⟩ | ⟨t, e1, ht, e2, _, _⟩
  · obtain ⟨x, hx, e⟩ := anc_mem ha
    obtain ⟨i, hi, rfl⟩ := List.getElem_of_mem hx
    have hle := h.len
    have := h.id i (by omega)
    rw [show gN l i = l[i] from getD_at l i zn hi, e] at this
    exact absurd this (e3 _ (getD_mem L i zcf (by omega)))
  · exact ⟨t, e1, ht, e2⟩
set_option maxHeartbeats 16000000 in
theorem slow_spec (l : List Nd) (n : Int) (L : List Cf) (k : Option Nat) (g : Int) (hl : l.length ≤ 1000000) (hL : L.length ≤ 1000000) (hnm : NmR l) (hct : CtR l) (hr : CfR L) : FnSpec Try.prog 26 [trV l none n, gr L k, i1 g] [] (sgt (lwM l n L g)) [] := by
  have h1 := sfits_spec l n L k hl hL hnm hct hr
  have h2 := tanc_spec l n g hl hnm hct
  have h3 := sget_spec L k g hL hr
  have hal := ancM_len l n g
  have hpl := cf_len L
  unfold lwM
  cases hf : fiC l n L with
  | false =>
    rw [hf] at h1
    rw [if_neg (fun h => by cases h.1)]
    by_cases hU : (ancM l n g).length = 0
    · have c0 : ((ancM l n g).length : Int) = 0 := by omega
      generalize ancM l n g = U at *
      refine fnspec_of mixed TT_ok TT_cl ⟨fun _ => false, fun _ => [], 0, fun _ => false, fun _ => false⟩ Try.func26 rfl (by kernel_rfl) rfl 67 rfl [.cell 6 47] rfl ?_
      simp only [go_sem, zaa, zae, zaf, zag, zah, zad, ↓reduceIte, reduceCtorEq, zab, zac, zai, zaj, zak, decide_eq_true c0]
      repeat' (first
 | (apply cl_plain
    case hs => rfl
    case ha => (simp only [zal, zan, prepV, prepC, idx, hpL', lookR, zaa, if_true, if_false]; rfl)
    case h => (first | exact h1 .. | exact h2 ..))
 | ((first | refine s1_id ?_ | refine swp_id ?_ | refine sops_id ?_ | refine s2_id ?_); simp only [decide_eq_true c0, go_sem, zaa, zae, zaf, zag, zah, zad, ↓reduceIte, reduceCtorEq, zab, zac, zai, zaj, zak, zaN, zaH, zaw, zaI, renO, bk, back, outUpsFrom, Ints_ren])
 | (intros; (try simp only [zau, zax, zat, zas, zap, zaq, decide_eq_true_eq, decide_eq_false_iff_not] at *); omega))
      repeat' (first
 | (refine fs_w ?h1 (svw_of ?h2); (case h1 => repeat' (first | exact trivial | exact rfl | exact zay rfl | apply zar)); (case h2 => repeat' (first | ((with_reducible refine (?_ : CW _ _)); first | exact cw_gnil | exact cw_rfl _ | exact cw_niln _ _ | exact cw_cap _ _ _ _) | exact trivial | (show _ ∧ SWL _ _; apply zar) | (show _ ∧ CWL _ _; apply zar) | show CW _ _)))
 | fail)
    · have c0 : ¬ ((ancM l n g).length : Int) = 0 := by omega
      generalize ancM l n g = U at *
      refine fnspec_of mixed TT_ok TT_cl ⟨fun _ => false, fun _ => [], 0, fun _ => false, fun _ => false⟩ Try.func26 rfl (by kernel_rfl) rfl 67 rfl [.cell 6 47] rfl ?_
      simp only [go_sem, zaa, zae, zaf, zag, zah, zad, ↓reduceIte, reduceCtorEq, zab, zac, zai, zaj, zak, decide_eq_false c0]
      repeat' (first
 | (apply cg_tp
    case hl => rfl
    case ha => (simp only [zal, zan, prepV, prepC, idx, hpL', lookR, zaa, if_true, if_false]; rfl)
    case hs => rfl
    case h => (first | exact h1 .. | exact h2 ..))
 | (apply cl_plain
    case hs => rfl
    case ha => (simp only [zal, zan, prepV, prepC, idx, hpL', lookR, zaa, if_true, if_false]; rfl)
    case h => (first | exact h1 .. | exact h2 ..))
 | ((first | refine s1_id ?_ | refine swp_id ?_ | refine sops_id ?_ | refine s2_id ?_); simp only [decide_eq_false c0, go_sem, zaa, zae, zaf, zag, zah, zad, ↓reduceIte, reduceCtorEq, zab, zac, zai, zaj, zak, zaN, zaH, zaw, zaI, renO, bk, back, outUpsFrom, Ints_ren])
 | (intros; (try simp only [zau, zax, zat, zas, zap, zaq, decide_eq_true_eq, decide_eq_false_iff_not] at *); omega))
      repeat' (first
 | (refine fs_w ?h1 (svw_of ?h2); (case h1 => repeat' (first | exact trivial | exact rfl | exact zay rfl | apply zar)); (case h2 => repeat' (first | ((with_reducible refine (?_ : CW _ _)); first | exact cw_gnil | exact cw_rfl _ | exact cw_niln _ _ | exact cw_cap _ _ _ _) | exact trivial | (show _ ∧ SWL _ _; apply zar) | (show _ ∧ CWL _ _; apply zar) | show CW _ _)))
 | fail)
  | true =>
  rw [hf] at h1
  have hp := (fiC_iff l n L).1 hf
  have hin := fun a (ha : a ∈ ancM l n g) => sg_in hp ha
  have hhd := anc_hd l n g
  clear hp
  generalize ancM l n g = U at *
  by_cases hU : U.length = 0
  · rw [if_neg (fun h => h.2 hU)]
    have c0 : (U.length : Int) = 0 := by omega
    refine fnspec_of mixed TT_ok TT_cl ⟨fun _ => false, fun _ => [], 0, fun _ => false, fun _ => false⟩ Try.func26 rfl (by kernel_rfl) rfl 67 rfl [.cell 6 47] rfl ?_
    simp only [go_sem, zaa, zae, zaf, zag, zah, zad, ↓reduceIte, reduceCtorEq, zab, zac, zai, zaj, zak, decide_eq_true c0]
    repeat' (first
 | (apply cl_plain
    case hs => rfl
    case ha => (simp only [zal, zan, prepV, prepC, idx, hpL', lookR, zaa, if_true, if_false]; rfl)
    case h => (first | exact h1 .. | exact h2 ..))
 | ((first | refine s1_id ?_ | refine swp_id ?_ | refine sops_id ?_ | refine s2_id ?_); simp only [decide_eq_true c0, go_sem, zaa, zae, zaf, zag, zah, zad, ↓reduceIte, reduceCtorEq, zab, zac, zai, zaj, zak, zaN, zaH, zaw, zaI, renO, bk, back, outUpsFrom, Ints_ren])
 | (intros; (try simp only [zau, zax, zat, zas, zap, zaq, decide_eq_true_eq, decide_eq_false_iff_not] at *); omega))
    repeat' (first
 | (refine fs_w ?h1 (svw_of ?h2); (case h1 => repeat' (first | exact trivial | exact rfl | exact zay rfl | apply zar)); (case h2 => repeat' (first | ((with_reducible refine (?_ : CW _ _)); first | exact cw_gnil | exact cw_rfl _ | exact cw_niln _ _ | exact cw_cap _ _ _ _) | exact trivial | (show _ ∧ SWL _ _; apply zar) | (show _ ∧ CWL _ _; apply zar) | show CW _ _)))
 | fail)
  have c0 : ¬ (U.length : Int) = 0 := by omega
  rw [if_pos ⟨rfl, hU⟩]
  generalize e0 : sgF L g = s at *
  obtain ⟨S, hS⟩ : ∃ S : Nat → Sg, S = fun m => lowL L (U.take m) s := ⟨_, rfl⟩
  have hS0 : S 0 = s := by rw [hS]; rfl
  have hSn : S U.length = lowL L U s := by rw [hS]; simp only [List.take_length]
  have hSs : ∀ m, m < U.length → S (m + 1) = limF (S m) (sgF L (U.getD m 0)) := fun m hm => by rw [hS]; exact lowL_take L U s m hm
  rw [← hSn]
  clear hS hSn
  rw [← hS0] at h3
  simp only [sgt, sgc] at h3
  refine fnspec_of mixed TT_ok TT_cl ⟨fun _ => false, fun _ => [], 0, fun _ => false, fun _ => false⟩ Try.func26 rfl (by kernel_rfl) rfl 67 rfl [.cell 6 47] rfl ?_
  simp only [go_sem, zaa, zae, zaf, zag, zah, zad, ↓reduceIte, reduceCtorEq, zab, zac, zai, zaj, zak, decide_eq_false c0]
  repeat' (first
 | (apply cg_tp
    case hl => rfl
    case ha => (simp only [zal, zan, prepV, prepC, idx, hpL', lookR, zaa, if_true, if_false]; rfl)
    case hs => rfl
    case h => (first | exact h1 .. | exact h2 .. | exact h3 ..))
 | (apply cl_plain
    case hs => rfl
    case ha => (simp only [zal, zan, prepV, prepC, idx, hpL', lookR, zaa, if_true, if_false]; rfl)
    case h => (first | exact h1 .. | exact h2 .. | exact h3 ..))
 | ((first | refine s1_id ?_ | refine swp_id ?_ | refine sops_id ?_ | refine s2_id ?_); simp only [decide_eq_false c0, zaE, zaJ, zav, zaK, zaO, zaC, zaD, zaz, zaQ, zaR, zaF, zaP, go_sem, zaa, zae, zaf, zag, zah, zad, ↓reduceIte, reduceCtorEq, zab, zac, zai, zaj, zak, zaN, zaH, zaw, zaI, renO, bk, back, outUpsFrom, Ints_ren])
 | (intros; (try simp only [zau, zax, zat, zas, zap, zaq, decide_eq_true_eq, decide_eq_false_iff_not] at *); omega))
  refine w_loop (ι := Nat) (fun m => ⟨[(1, gr L k), (6, .one (.optr 0 0)), (8, .one (.optr 1 0)), (28, gi U none), (29, i1 U.length), (30, i1 m)], [(0, some zsr), (1, some ⟨[int (S m).pm, int (S m).w, int (S m).q, int (S m).pe, int (S m).b, int (S m).c0, int (S m).c1, .gsl (Ints (S m).cp) 0 (S m).cp.length none, .gsl (Ints (S m).mm) 0 (S m).mm.length none, int (S m).pt, int (S m).m0, int (S m).m1, int (S m).m2, int (S m).m3, int (S m).m4, bool (S m).mt, .gsl [] 0 0 none], 17⟩)], 2⟩) (fun m => m ≤ U.length) (fun m => U.length - m) 0 ?_ (zaU _) ?_
  · (refine imp_ren _ _ _ [(0, 1, zsr), (1, 18, ⟨[int (S 0).pm, int (S 0).w, int (S 0).q, int (S 0).pe, int (S 0).b, int (S 0).c0, int (S 0).c1, .gsl (Ints (S 0).cp) 0 (S 0).cp.length none, .gsl (Ints (S 0).mm) 0 (S 0).mm.length none, int (S 0).pt, int (S 0).m0, int (S 0).m1, int (S 0).m2, int (S 0).m3, int (S 0).m4, bool (S 0).mt, .gsl [] 0 0 none], 17⟩)] (by simp) (by simp) (by simp) (zay rfl) ?_ rfl (by simp only [zam, zao, false_implies, implies_true, and_true, zaS, lookR, zaa, if_true, if_false, ↓reduceIte] <;> (repeat' apply zar) <;> (first | rfl | trivial)) (by simp only [zam, zao, false_implies, implies_true, and_true, true_and, flat_cons, flat_nil, flat_ints, flat_bools, flat_app, zaT, and_self, eq_self_iff_true, zav]); simp only [zal, zan, zam, zao, false_implies, implies_true, and_true, lk, slot, zaN, zaw, toN, zaa, if_true, if_false, ↓reduceIte, reduceCtorEq])
    all_goals ((repeat' apply zar) <;> (first | rfl | trivial))
  clear h1 h2 h3
  intro m hm
  simp only at hm ⊢
  rcases zba m U.length with hlt | hge
  case inr =>
    have c : ¬ (m : Int) < (U.length : Int) := by omega
    obtain rfl : m = U.length := by omega
    generalize S U.length = x at *
    obtain ⟨pm, w, q, pe, b, c0, c1, cp, mm, pt, m0, m1, m2, m3, m4, mt⟩ := x
    simp only [finF, sgt, sgc]
    simp only [go_sem, zaa, zae, zaf, zag, zah, zad, ↓reduceIte, reduceCtorEq, zab, zac, zai, zaj, zak, decide_eq_false c, zsr, if_minS]
    repeat' (first
 | with_reducible refine zar ?_ ?_
 | (intros; omega)
 | (apply fs_nil <;> (try simp only [go_sem, resV, resS, zaN, zaH, zaw, zbc, zaS, idx, renO, zaI, evS, slot, lookR, zaa, ↓reduceIte, reduceCtorEq, if_true, if_false, zaL, zaM, zal, zan, sLoad, readAt, readNeed, Ints_ren, Ints_length, Ints_getD, and_true, true_and, zaA, zaB]) <;> (try rfl))
 | fail)
  have c : (m : Int) < (U.length : Int) := by omega
  obtain ⟨t, e1, ht, e2⟩ := hin _ (getD_mem U m 0 hlt)
  have h4 := spos_spec L k (U.getD m 0) hL
  rw [e1] at h4
  have hT := cf_ts L t ht
  rw [← e2] at hT
  clear hin hhd
  have hSm := hSs m hlt
  generalize S m = x at *
  obtain ⟨pm, w, q, pe, b, c0, c1, cp, mm, pt, m0, m1, m2, m3, m4, mt⟩ := x
  generalize sgF L (U.getD m 0) = y at *
  obtain ⟨pm', w', q', pe', b', c0', c1', cp', mm', pt', m0', m1', m2', m3', m4', mt'⟩ := y
  simp only [limF] at hSm
  simp only [sgt, sgc] at h4 hT
  generalize e5 : U.getD m 0 = a at *
  simp only [go_sem, zaa, zae, zaf, zag, zah, zad, ↓reduceIte, reduceCtorEq, zab, zac, zai, zaj, zak, decide_eq_true c, hT, e5, zsr, if_minS]
  repeat' (first
 | with_reducible refine zar ?_ ?_
 | (apply cl_plain
    case hs => rfl
    case ha => (simp only [zal, zan, prepV, prepC, idx, hpL', lookR, zaa, if_true, if_false]; rfl)
    case h => (first | exact h4 ..))
 | ((first | refine s1_id ?_ | refine swp_id ?_ | refine sops_id ?_ | refine s2_id ?_); simp only [decide_eq_true c, hT, e5, zsr, if_minS, zaE, zaJ, zav, zaK, zaO, zaC, zaD, zaz, zaQ, zaR, zaF, zaP, go_sem, zaa, zae, zaf, zag, zah, zad, ↓reduceIte, reduceCtorEq, zab, zac, zai, zaj, zak, zaN, zaH, zaw, zaI, renO, bk, back, outUpsFrom, Ints_ren])
 | (intros; omega)
 | (intros; (try simp only [zau, zax, zat, zas, zap, zaq, decide_eq_true_eq, decide_eq_false_iff_not] at *); omega))
  refine le_mk (m + 1) ?_ hlt (by show U.length - (m + 1) < U.length - m; omega)
  simp only [hSm]
  (refine imp_ren _ _ _ [(0, 0, zsr), (1, 1, ⟨[int (min pm pm'), int w, int (min q q'), int pe, int b, int c0, int (min c1 c1'), .gsl (Ints cp) 0 cp.length none, .gsl (Ints mm) 0 mm.length none, int pt, int m0, int m1, int m2, int m3, int m4, bool mt, .gsl [] 0 0 none], 17⟩)] (by simp) (by simp) (by simp) (zay rfl) ?_ rfl (by simp only [zam, zao, false_implies, implies_true, and_true, zaS, lookR, zaa, if_true, if_false, ↓reduceIte] <;> (repeat' apply zar) <;> (first | rfl | trivial)) (by simp only [zam, zao, false_implies, implies_true, and_true, true_and, flat_cons, flat_nil, flat_ints, flat_bools, flat_app, zaT, and_self, eq_self_iff_true, zav]); simp only [zal, zan, zam, zao, false_implies, implies_true, and_true, lk, slot, zaN, zaw, toN, zaa, if_true, if_false, ↓reduceIte, reduceCtorEq])
  all_goals ((repeat' apply zar) <;> (first | rfl | trivial | (simp only [zaG]; done) | (simp only [zaG]; rfl) | (simp only [zaG]; trivial)))
end Go.Proofs.Ytcnilpdlcmpbbab
-- NEWGO
-- PRUNE: cl_lendx cl_use cl_lend
-- ISG: Cs_isG
-- FLAT: Cs_flat
namespace Go.Proofs.Ytcnilpdlcmpbbab
set_option linter.unusedVariables false
set_option linter.unusedSimpArgs false
open Go.Proofs.Ytcnilpdlcmpbbab.Sh
set_option maxRecDepth 20000
end Go.Proofs.Ytcnilpdlcmpbbab
-- NEWGO
-- PRUNE: cl_lendx cl_use cl_lend
-- ISG: Cs_isG
-- FLAT: Cs_flat
namespace Go.Proofs.Ytcnilpdlcmpbbab
set_option linter.unusedVariables false
set_option linter.unusedSimpArgs false
open Go.Proofs.Ytcnilpdlcmpbbab.Sh
set_option maxRecDepth 20000
theorem smM_refl (x : Sg) : smM x x = true := by
  unfold smM
  simp
theorem smS_refl (x : Sg) : smS x x = true := by
  unfold smS
  rw [smM_refl]
  simp
end Go.Proofs.Ytcnilpdlcmpbbab
