/- Contracts of functions, told of values, on the way to KillExact (part 5). -/
import Derived.Test.YtlajelbiniakpaaKillExactM3
import Derived.Test.YtlajelbiniakpaaKillExactM4
-- short names of the library's lemmas
open Nat renaming reduceEqDiff → zaa, reduceLeDiff → zag, reduceAdd → zaj, reduceSub → zak, reduceMul → zal, reduceLT → zan, le_of_ble_eq_true → zaS, zero_mul → zaY, sub_zero → zaZ, le_refl → zbl
open List renaming map_cons → zab, map_nil → zac, reduceReplicate → zad, forall_mem_cons → zae, not_mem_nil → zah, append_nil → zam, cons_append → zar, nil_append → zas, flatMap_cons → zat, flatMap_nil → zau, length_append → zaC, range' → zaF, getD_cons_zero → zaG, getD_cons_succ → zaH, length_cons → zaI, length_take → zaT, length_range' → zaU, take_succ_cons → zaX, set_cons_zero → zba, set_cons_succ → zbb, flatten_cons → zbc, flatten_nil → zbd, length_singleton → zbe, length_nil → zbf, take_zero → zbg, nodup_cons → zbi, take_nil → zbj, mem_cons_of_mem → zbk, mem_cons_self → zbm, take_of_length_le → zbn
open Int renaming cast_ofNat_Int → zaf, reduceEq → zao, reduceLT → zap, reduceLE → zaq, natCast_add → zaV, toNat_zero → zaW
open Option renaming getD_some → zaL, getD_none → zaM
open Bool renaming and_eq_false_iff → zav, or_eq_false_iff → zaw, not_eq_false' → zay, not_eq_true' → zaz, and_eq_true → zaA, or_eq_true → zaB, true_and → zbo
open And renaming intro → zai
open Go.Proofs.Ytlajelbiniakpaa.Sh.Cell renaming refs → zax, noG → zaD, ren → zaE, isG → zaN
open Go.Proofs.Ytlajelbiniakpaa.Sh.SV renaming refs → zaJ, noGL → zaK, renL → zaO, noG → zaQ, ren → zaR
open Go.Proofs.Ytlajelbiniakpaa.Sh.Row renaming ren → zaP
open Go.Proofs.Ytlajelbiniakpaa.Sh.St renaming hpF → zbh
-- NEWGO
-- PRUNE: cl_lendx cl_use
-- ISG: Cs_isG
-- FLAT: Cs_flat
-- OKC: refine okc_rng (r := r) (f := fun r => [([0], [0]), ([r, 114], [r, 115]), ([], [114]), ([103], []), ([103], []), ([0], []), ([103], []), ([103], []), ([], []), ([103], []), ([103], []), ([], [])]) ?_ hr1 hr2; kernel_rfl
namespace Go.Proofs.Ytlajelbiniakpaa
set_option linter.unusedVariables false
set_option linter.unusedSimpArgs false
open Go.Proofs.Ytlajelbiniakpaa.Sh
set_option maxRecDepth 20000
def kput : KL → Int → Int → KL
  | [], p, d => [(p, [d])]
  | x :: r, p, d => if x.1 = p then (p, x.2 ++ [d]) :: r else x :: kput r p d
def belowM (l : List Nd) : KL := l.foldl (fun ks x => kput ks x.p x.i) []
def kg : KL → Int → List Int
  | [], _ => []
  | x :: r, p => if x.1 = p then x.2 else kg r p
theorem kput_new {p : Int} (d : Int) : ∀ {ks : KL}, (∀ x ∈ ks, x.1 ≠ p) → kput ks p d = ks ++ [(p, [d])]
  | [], _ => rfl
  | x :: r, h => by
    rw [kput, if_neg (h x zbm), kput_new d (fun y hy => h y (zbk _ hy))]; rfl
theorem kput_at {p : Int} (d : Int) (L : List Int) (B : KL) : ∀ {A : KL}, (∀ x ∈ A, x.1 ≠ p) → kput (A ++ (p, L) :: B) p d = A ++ (p, L ++ [d]) :: B
  | [], _ => by show (if p = p then _ else _) = _; rw [if_pos rfl]; rfl
  | x :: r, h => by
    show (if x.1 = p then _ else x :: kput (r ++ (p, L) :: B) p d) = _
    rw [if_neg (h x zbm), kput_at d L B (fun y hy => h y (zbk _ hy))]; rfl
theorem k_split (p : Int) : ∀ (ks : KL), (∀ x ∈ ks, x.1 ≠ p) ∨ ∃ A L B, ks = A ++ (p, L) :: B ∧ ∀ x ∈ A, x.1 ≠ p
  | [] => .inl (fun x hx => by cases hx)
  | x :: r => by
    by_cases c : x.1 = p
    · right; exact ⟨[], x.2, r, by rw [← c]; rfl, fun y hy => by cases hy⟩
    · rcases k_split p r with h | ⟨A, L, B, e, h⟩
      · left; intro y hy
        rcases List.mem_cons.1 hy with rfl | hy
        · exact c
        · exact h y hy
      · right
        refine ⟨x :: A, L, B, by rw [e]; rfl, fun y hy => ?_⟩
        rcases List.mem_cons.1 hy with rfl | hy
        · exact c
        · exact h y hy
theorem kg_put (p d q : Int) : ∀ (ks : KL), kg (kput ks p d) q = if q = p then kg ks p ++ [d] else kg ks q
  | [] => by
    show (if p = q then [d] else []) = _
    by_cases c : q = p
    · rw [if_pos c, if_pos c.symm]; rfl
    · rw [if_neg c, if_neg (fun e => c e.symm)]; rfl
  | x :: r => by
    rw [kput]
    by_cases c : x.1 = p
    · rw [if_pos c]
      show (if p = q then _ else kg r q) = if q = p then (if x.1 = p then x.2 else kg r p) ++ [d] else (if x.1 = q then x.2 else kg r q)
      rw [c]
      by_cases e : q = p
      · rw [if_pos e, if_pos e.symm, if_pos rfl]
      · rw [if_neg e, if_neg (fun h => e h.symm), if_neg (fun h => e h.symm)]
    · rw [if_neg c]
      show (if x.1 = q then x.2 else kg (kput r p d) q) = if q = p then (if x.1 = p then x.2 else kg r p) ++ [d] else (if x.1 = q then x.2 else kg r q)
      rw [kg_put p d q r, if_neg c]
      by_cases e : q = p
      · rw [if_pos e, if_pos e, if_neg (fun h => c (h.trans e))]
      · rw [if_neg e, if_neg e]
theorem kidsL_snoc (l : List Nd) (x : Nd) (q : Int) : kidsL (l ++ [x]) q = if x.p = q then kidsL l q ++ [x.i] else kidsL l q := by
  unfold kidsL
  rw [List.filter_append, List.map_append]
  by_cases c : x.p = q
  · rw [if_pos c, List.filter_cons_of_pos (by simpa using c)]; rfl
  · rw [if_neg c, List.filter_cons_of_neg (by simpa using c)]; simp
theorem belowM_snoc (l : List Nd) (x : Nd) : belowM (l ++ [x]) = kput (belowM l) x.p x.i := by
  unfold belowM; rw [List.foldl_append]; rfl
theorem belowM_kg (l : List Nd) (q : Int) : kg (belowM l) q = kidsL l q := by
  rw [← List.reverse_reverse l]
  induction l.reverse with
  | nil => rfl
  | cons x r ih =>
    rw [List.reverse_cons, belowM_snoc, kg_put, kidsL_snoc]
    by_cases c : q = x.p
    · rw [if_pos c, if_pos c.symm, ← c, ih]
    · rw [if_neg c, if_neg (fun e => c e.symm), ih]
theorem belowM_len (l : List Nd) : (belowM l).length ≤ l.length ∧ ∀ x ∈ belowM l, x.2.length ≤ l.length := by
  rw [← List.reverse_reverse l]
  induction l.reverse with
  | nil => exact ⟨zbl _, fun x hx => by cases hx⟩
  | cons x r ih =>
    rw [List.reverse_cons, belowM_snoc]
    obtain ⟨h1, h2⟩ := ih
    rcases k_split x.p (belowM r.reverse) with h | ⟨A, L, B, e, h⟩
    · rw [kput_new _ h]
      refine ⟨by simp only [zaC, zbe] at h1 ⊢; omega, fun y hy => ?_⟩
      rcases List.mem_append.1 hy with hy | hy
      · have := h2 y hy; rw [zaC]; omega
      · rw [List.mem_singleton.1 hy, zaC]; simp
    · rw [e] at h1 h2 ⊢
      rw [kput_at _ _ _ h]
      refine ⟨by simp only [zaC, zaI, zbe] at h1 ⊢; omega, fun y hy => ?_⟩
      rcases List.mem_append.1 hy with hy | hy
      · have := h2 y (List.mem_append.2 (.inl hy)); rw [zaC]; omega
      rcases List.mem_cons.1 hy with rfl | hy
      · have := h2 (x.p, L) (List.mem_append.2 (.inr zbm))
        simp only [zaC, zbe] at this ⊢; omega
      · have := h2 y (List.mem_append.2 (.inr (zbk _ hy))); rw [zaC]; omega
theorem mget_gc (p : Int) : ∀ (ks : KL), (mget (.int .i64 p) (gcN ks) = none ∧ kg ks p = []) ∨ mget (.int .i64 p) (gcN ks) = some (.gsl (Ints (kg ks p)) 0 (kg ks p).length none)
  | [] => .inl ⟨rfl, rfl⟩
  | x :: r => by
    have hu : mget (.int .i64 p) (gcN (x :: r)) = if keyEq (.int .i64 p) (.int .i64 x.1) = true then some (.gsl (Ints x.2) 0 x.2.length none) else mget (.int .i64 p) (gcN r) := rfl
    rw [hu, keyEq_i]
    by_cases c : x.1 = p
    · right
      rw [if_pos (by rw [c]; simp)]
      show _ = some (Cell.gsl (Ints (if x.1 = p then x.2 else kg r p)) 0 (if x.1 = p then x.2 else kg r p).length none)
      rw [if_pos c]
    · rw [if_neg (by simpa using fun e => c e.symm)]
      show (_ ∧ (if x.1 = p then x.2 else kg r p) = []) ∨ mget _ _ = some (Cell.gsl (Ints (if x.1 = p then x.2 else kg r p)) 0 (if x.1 = p then x.2 else kg r p).length none)
      rw [if_neg c]
      exact mget_gc p r
theorem mkeys_gc : ∀ (ks : KL), mkeys (.int .i64) (gcN ks) = true
  | [] => rfl
  | x :: r => by
    show (keyB (.int .i64) (.int .i64 x.1) && mkeys (.int .i64) (gcN r)) = true
    rw [mkeys_gc r]; rfl
theorem range_nd (n : Nat) : (0 :: zaF 1 n).Nodup := by
  rw [zbi]
  exact ⟨fun h => by have := List.mem_range'.1 h; omega, List.nodup_range'⟩
theorem gcN_flat (ks : KL) : flat (gcN ks) := fun c hc => isG_refs (gcN_g ks c hc)
theorem RowsAt.mid {f : Nat → Option Row} {r : Nat} {x : Int × List Int} {rb : List Nat} {B : KL} : ∀ {ra : List Nat} {A : KL}, ra.length = A.length → RowsAt f (ra ++ r :: rb) (A ++ x :: B) → RowsAt f ra A ∧ RowsAt f rb B
  | [], [], _, h => ⟨trivial, h.2⟩
  | n :: ra, y :: A, hl, h => by
    obtain ⟨h1, h2⟩ := RowsAt.mid (ra := ra) (A := A) (by simpa using hl) h.2
    exact ⟨⟨h.1, h1⟩, h2⟩
theorem okc_rng {all : Array Oper} {f : Nat → List (List Nat × List Nat)} {r : Nat} (h : (List.range 99).all (fun q => okc all (f (q + 1)).reverse) = true) (h1 : 1 ≤ r) (h2 : r < 100) : OKC all (f r) := by
  have := List.all_eq_true.1 h (r - 1) (List.mem_range.2 (by omega))
  rw [show r - 1 + 1 = r by omega] at this
  exact this
set_option maxHeartbeats 16000000 in
theorem below_spec (l : List Nd) (n : Int) (hl : l.length ≤ 64) : FnSpec Try.prog 75 [trV l none n] [] (.one (.mp 0 false)) [some ⟨gcN (belowM l), 0⟩] := by
  have hnl := nd_len l
  refine fnspec_of mixed TT_ok TT_cl ⟨fun _ => false, fun _ => [], 0, fun _ => false, fun _ => false⟩ Try.func75 rfl (by kernel_rfl) rfl 27 rfl [.tmp 2] rfl ?_
  simp only [go_sem, zaa, zaj, zak, zal, zan, zag, ↓reduceIte, reduceCtorEq, zad, zaf, zao, zap, zaq]
  repeat' (first
 | (intros; (try simp only [zaA, zaB, zaz, zay, zav, zaw, decide_eq_true_eq, decide_eq_false_iff_not] at *); omega))
  refine w_loop (ι := Nat) (fun m => ⟨[(3, .one (.mp 0 false)), (8, gr l none), (9, i1 l.length), (10, i1 m)], (0, some ⟨mcN (zaF 1 (belowM (l.take m)).length) (belowM (l.take m)), 0⟩) :: mrN (zaF 1 (belowM (l.take m)).length) (belowM (l.take m)), 100⟩) (fun m => m ≤ l.length) (fun m => l.length - m) 0 ?_ (Nat.zero_le _) ?_
  · (refine imp_ren _ _ _ [(0, 2, ⟨[], 0⟩)] (by simp) (by simp) (by simp) (zaS rfl) ?_ rfl (by simp only [zae, zah, false_implies, implies_true, and_true, zbh, lookR, zaa, if_true, if_false, ↓reduceIte] <;> (repeat' apply zai) <;> (first | rfl | trivial)) (by simp only [zae, zah, false_implies, implies_true, and_true, true_and, flat_cons, flat_nil, flat_ints, flat_bools, flat_app, zax, and_self, eq_self_iff_true, zam]); simp only [zab, zac, zae, zah, false_implies, implies_true, and_true, lk, slot, zaR, zaE, toN, zaa, if_true, if_false, ↓reduceIte, reduceCtorEq])
    all_goals ((repeat' apply zai) <;> (first | rfl | trivial))
  intro m hm
  simp only at hm ⊢
  rcases Nat.lt_or_ge m l.length with hlt | hge
  case inr =>
    have c : ¬ (m : Int) < (l.length : Int) := by omega
    rw [zbn hge]
    simp only [go_sem, zaa, zaj, zak, zal, zan, zag, ↓reduceIte, reduceCtorEq, zad, zaf, zao, zap, zaq, decide_eq_false c]
    repeat' (first
 | (intros; (try simp only [zaA, zaB, zaz, zay, zav, zaw, decide_eq_true_eq, decide_eq_false_iff_not] at *); omega))
    refine fs_imp ⟨[(2, .one (.mp 0 false))], [(0, some ⟨gcN ([] ++ belowM l), 0⟩)], 103⟩ ?_ ?_
    · refine Imp.trans (t := ⟨[(2, .one (.mp 0 false))], (0, some ⟨gcN [] ++ mcN (zaF 1 (belowM l).length) (belowM l), 0⟩) :: mrN (zaF 1 (belowM l).length) (belowM l), 103⟩) (imp_tm _ _ _ (fun x hx => by cases List.mem_singleton.1 hx; rfl) rfl (zbl _)) ?_
      exact imp_gc 0 _ 103 (fun r cs hr => rfl) _ _ [] zaU (range_nd _)
    · rw [zas]
      refine fs_flat [(0, ⟨gcN (belowM l), 0⟩)] (by simp) (fun j hj => absurd hj (Nat.not_lt_zero _)) ?_ ?_ ?_ ?_ rfl
      · simp only [go_sem, resV, resS, zaR, zaO, zaE, St.tmF, zbh, idx, renO, zaP, evS, slot, lookR, zaa, ↓reduceIte, reduceCtorEq, if_true, if_false, zaL, zaM, zab, zac, sLoad, readAt, readNeed, Ints_ren, Ints_length, Ints_getD, and_true, true_and, zaG, zaH]
      · simp only [go_sem, resV, resS, zaR, zaO, zaE, St.tmF, zbh, idx, renO, zaP, evS, slot, lookR, zaa, ↓reduceIte, reduceCtorEq, if_true, if_false, zaL, zaM, zab, zac, sLoad, readAt, readNeed, Ints_ren, Ints_length, Ints_getD, and_true, true_and, zaG, zaH]
      · intro p hp; rw [List.mem_singleton.1 hp]; rfl
      · intro p hp; rw [List.mem_singleton.1 hp]; exact gcN_flat _
  have c : (m : Int) < (l.length : Int) := by omega
  have hat : List.take 6 (List.drop (m * 6) (Cs l)) = ndc (gN l m) := Cs_td l m hlt
  have hst : belowM (l.take (m + 1)) = kput (belowM (l.take m)) (gN l m).p (gN l m).i := by rw [take_getD l m zn hlt, belowM_snoc]
  obtain ⟨hb1, hb2⟩ := belowM_len (l.take m)
  rw [zaT] at hb1 hb2
  generalize belowM (l.take m) = ks at *
  have hmk := mkeys_mcN (zaF 1 ks.length) ks
  rcases k_split (gN l m).p ks with hA | ⟨A, L, B, rfl, hA⟩
  · have hgt := mget_none (zaF 1 ks.length) ks hA
    rw [kput_new _ hA] at hst
    generalize gN l m = x at *
    obtain ⟨xi, xp, xn, xc, xk, xo⟩ := x
    simp only at hA hst hgt
    simp only [go_sem, zaa, zaj, zak, zal, zan, zag, ↓reduceIte, reduceCtorEq, zad, zaf, zao, zap, zaq, decide_eq_true c, hat, hmk, hgt, mval_none]
    repeat' (first
 | with_reducible refine zai ?_ ?_
 | (unfold OKC; kernel_rfl)
 | (unfold EDG; kernel_rfl)
 | (intros; omega)
 | (intros; (try simp only [zaA, zaB, zaz, zay, zav, zaw, decide_eq_true_eq, decide_eq_false_iff_not] at *); omega))
    · rfl
    refine le_mk (m + 1) ?_ hlt (by show l.length - (m + 1) < l.length - m; omega)
    simp only [hst]
    refine imp_kl rfl _ (zaF 1 (ks ++ [(xp, [xi])]).length) (zaF 1 ks.length ++ [115]) (ks ++ [(xp, [xi])]) 100 ?_ zaU ?_ (range_nd _) ?_ ?_ ?_ ?_ (by decide)
    · rw [zaC, zaC, zaU]; rfl
    · rw [zbi, List.nodup_append]
      refine ⟨fun h => ?_, List.nodup_range', by simp, fun a ha b hb e => ?_⟩
      · rcases List.mem_append.1 h with h | h
        · have := List.mem_range'.1 h; omega
        · have := List.mem_singleton.1 h; omega
      · have := List.mem_range'.1 ha
        have := List.mem_singleton.1 hb
        omega
    · intro q hq
      rw [zaC, zbe] at hq
      have := List.mem_range'.1 hq
      omega
    · show some (⟨mset _ _ _, 0⟩ : Row) = _
      rw [mset_new _ _ _ zaU hA, mcN_app zaU]
      rfl
    · refine RowsAt.app (ms := [115]) (B := [(xp, [xi])]) ⟨rfl, trivial⟩ (RowsAt.mono (fun q hq => ?_) (RowsAt.of (zaU (s := 1) (step := 1)) List.nodup_range'))
      have := List.mem_range'.1 hq
      simp only [zbh, lookR]
      repeat rw [if_neg (by omega)]
    · intro x hx
      simp only [List.mem_cons, zah, or_false] at hx
      rcases hx with rfl | rfl | rfl | rfl <;> first | rfl | (simp only [zaV]; rfl)
  · have hB : (A ++ ((gN l m).p, L) :: B).length = A.length + (1 + B.length) := by rw [zaC, zaI]; omega
    have hrg : zaF 1 (A ++ ((gN l m).p, L) :: B).length = zaF 1 A.length ++ (1 + A.length) :: zaF (1 + A.length + 1) B.length := by
      rw [hB, ← List.range'_append_1, Nat.add_comm 1 B.length, List.range'_succ]
    have hra : (zaF 1 A.length).length = A.length := zaU
    have hrb : (zaF (1 + A.length + 1) B.length).length = B.length := zaU
    have hLl := hb2 ((gN l m).p, L) (List.mem_append.2 (.inr zbm))
    rw [kput_at _ _ _ hA] at hst
    rw [hB] at hb1
    clear hB
    have hnd := range_nd (A ++ ((gN l m).p, L) :: B).length
    rw [hrg] at hmk hnd ⊢
    have hma : ∀ q ∈ zaF 1 A.length, 1 ≤ q ∧ q < 1 + A.length := fun q hq => by have := List.mem_range'.1 hq; omega
    have hmb : ∀ q ∈ zaF (1 + A.length + 1) B.length, 1 + A.length < q ∧ q < 2 + A.length + B.length := fun q hq => by have := List.mem_range'.1 hq; omega
    have hro := RowsAt.of (ns := zaF 1 A.length ++ (1 + A.length) :: zaF (1 + A.length + 1) B.length) (ks := A ++ ((gN l m).p, L) :: B) (by rw [zaC, zaC, zaI, zaI, hra, hrb]) (List.nodup_cons.1 hnd).2
    have hlr : lookR (1 + A.length) (mrN (zaF 1 A.length ++ (1 + A.length) :: zaF (1 + A.length + 1) B.length) (A ++ ((gN l m).p, L) :: B)) = some ⟨Ints L, 1⟩ := mrN_at hra (fun h => by have := hma _ h; omega)
    have hmc : mcN (zaF 1 A.length ++ (1 + A.length) :: zaF (1 + A.length + 1) B.length) (A ++ ((gN l m).p, L) :: B) = mcN (zaF 1 A.length) A ++ int (gN l m).p :: .osl (1 + A.length) 0 L.length none :: mcN (zaF (1 + A.length + 1) B.length) B := mcN_app hra _ _
    have hgt := mget_at (p := (gN l m).p) (.osl (1 + A.length) 0 L.length none) (mcN (zaF (1 + A.length + 1) B.length) B) (zaF 1 A.length) A hA
    rw [← hmc] at hgt
    generalize zaF 1 A.length = ra at *
    generalize zaF (1 + A.length + 1) B.length = rb at *
    generalize hr : 1 + A.length = r at *
    have hr1 : 1 ≤ r := by omega
    have hr2 : r < 100 := by omega
    have g0 : (0 = r) = False := eq_false (by omega)
    have g9 : (r = 0) = False := eq_false (by omega)
    have g1 : (103 = r) = False := eq_false (by omega)
    have g2 : (114 = r) = False := eq_false (by omega)
    have g3 : (115 = r) = False := eq_false (by omega)
    have htk : List.take L.length (Ints L) = Ints L := zbn (by rw [Ints_length]; exact zbl _)
    generalize gN l m = x at *
    obtain ⟨xi, xp, xn, xc, xk, xo⟩ := x
    simp only at hA hst hgt hlr hmc hro hLl
    have hpp : Ints L ++ [int xi] = Ints (L ++ [xi]) := by simp [Ints]
    simp only [go_sem, zaa, zaj, zak, zal, zan, zag, ↓reduceIte, reduceCtorEq, zad, zaf, zao, zap, zaq, decide_eq_true c, hat, hmk, hgt, mval_some, g0, g9, g1, g2, g3, hlr, htk, hpp]
    repeat' (first
 | with_reducible refine zai ?_ ?_
 | (refine okc_rng (r := r) (f := fun r => [([0], [0]), ([r, 114], [r, 115]), ([], [114]), ([103], []), ([103], []), ([0], []), ([103], []), ([103], []), ([], []), ([103], []), ([103], []), ([], [])]) ?_ hr1 hr2; kernel_rfl)
 | (unfold EDG; kernel_rfl)
 | (intros; omega)
 | (intros; (try simp only [zaA, zaB, zaz, zay, zav, zaw, decide_eq_true_eq, decide_eq_false_iff_not] at *); omega))
    all_goals try rfl
    refine le_mk (m + 1) ?_ hlt (by show l.length - (m + 1) < l.length - m; omega)
    simp only [hst]
    have hlen : (A ++ (xp, L ++ [xi]) :: B).length = A.length + (1 + B.length) := by rw [zaC, zaI]; omega
    have hnd2 := hnd
    rw [zbi, List.nodup_append, zbi] at hnd2
    obtain ⟨z0, z1, ⟨z2, z3⟩, z4⟩ := hnd2
    have hsep : ∀ q ∈ ra ++ r :: rb, 1 ≤ q ∧ q < 100 := fun q hq => by
      rcases List.mem_append.1 hq with h | h
      · have := hma q h; omega
      rcases List.mem_cons.1 h with rfl | h
      · omega
      · have := hmb q h; omega
    refine imp_kl rfl _ (zaF 1 (A ++ (xp, L ++ [xi]) :: B).length) (ra ++ 115 :: rb) (A ++ (xp, L ++ [xi]) :: B) 100 ?_ zaU ?_ (range_nd _) ?_ ?_ ?_ ?_ (by decide)
    · rw [zaC, zaC, zaI, zaI, hra, hrb]
    · rw [zbi, List.nodup_append, zbi]
      refine ⟨fun h => ?_, z1, ⟨fun h => ?_, z3⟩, fun a ha b hb e => ?_⟩
      · rcases List.mem_append.1 h with h | h
        · have := hma _ h; omega
        rcases List.mem_cons.1 h with h | h
        · omega
        · have := hmb _ h; omega
      · have := hmb _ h; omega
      · rcases List.mem_cons.1 hb with h | h
        · have := hma _ ha; omega
        · exact z4 a ha b (zbk _ h) e
    · intro q hq
      rw [hlen] at hq
      have := List.mem_range'.1 hq
      omega
    · show some (⟨mset _ _ _, 0⟩ : Row) = _
      rw [hmc, mset_at _ _ _ _ _ hra hA, mcN_app hra]
      show _ = some (⟨mcN ra A ++ int xp :: .osl _ 0 (L ++ [xi]).length none :: mcN rb B, 0⟩ : Row)
      rw [zaC, zbe]
    · have hro1 : RowsAt (fun r_1 => lookR r_1 (mrN (ra ++ r :: rb) (A ++ (xp, L) :: B))) ra A ∧ RowsAt (fun r_1 => lookR r_1 (mrN (ra ++ r :: rb) (A ++ (xp, L) :: B))) rb B := RowsAt.mid hra hro
      have hne : ∀ q, q ∈ ra ++ rb → q ≠ r ∧ 1 ≤ q ∧ q < 100 := fun q hq => by
        rcases List.mem_append.1 hq with h | h
        · have := hma q h; omega
        · have := hmb q h; omega
      refine RowsAt.app (ms := 115 :: rb) (B := (xp, L ++ [xi]) :: B) ⟨?_, RowsAt.mono (fun q hq => ?_) hro1.2⟩ (RowsAt.mono (fun q hq => ?_) hro1.1)
      · rfl
      · obtain ⟨w1, w2, w3⟩ := hne q (List.mem_append.2 (.inr hq))
        simp only [zbh, lookR]
        repeat rw [if_neg (by omega)]
      · obtain ⟨w1, w2, w3⟩ := hne q (List.mem_append.2 (.inl hq))
        simp only [zbh, lookR]
        repeat rw [if_neg (by omega)]
    · intro x hx
      simp only [List.mem_cons, zah, or_false] at hx
      rcases hx with rfl | rfl | rfl | rfl <;> first | rfl | (simp only [zaV]; rfl)
end Go.Proofs.Ytlajelbiniakpaa
-- NEWGO
-- PRUNE: cl_lendx cl_use cl_lend
namespace Go.Proofs.Ytlajelbiniakpaa
set_option linter.unusedVariables false
set_option linter.unusedSimpArgs false
open Go.Proofs.Ytlajelbiniakpaa.Sh
set_option maxRecDepth 20000
theorem nan_spec (a : Int) : FnSpec Try.prog 72 [i1 a] [] (b1 false) [] := by
  refine fnspec_of mixed TT_ok TT_cl ⟨fun _ => false, fun _ => [], 0, fun _ => false, fun _ => false⟩ Try.func72 rfl (by kernel_rfl) rfl 6 rfl [.tmp 2] rfl ?_
  simp only [go_sem, zaa, zaj, zak, zal, zan, zag, ↓reduceIte, reduceCtorEq, zad, zaf, zao, zap, zaq]
  repeat' (first
 | exact fs_nil trivial rfl
 | fail)
theorem cmp_spec (a b : Int) : FnSpec Try.prog 56 [i1 a, i1 b] [] (i1 (cmpv a b)) [] := by
  unfold cmpv
  by_cases h1 : a < b
  · rw [if_pos h1]
    refine fnspec_of mixed TT_ok TT_cl ⟨fun _ => false, fun _ => [], 0, fun _ => false, fun _ => false⟩ Try.func56 rfl (by kernel_rfl) rfl 20 rfl [.tmp 4] rfl ?_
    simp only [go_sem, zaa, zaj, zak, zal, zan, zag, ↓reduceIte, reduceCtorEq, zad, zaf, zao, zap, zaq]
    repeat' (first
 | (apply cl_plain
    case hs => rfl
    case ha => (simp only [zab, zac, prepV, prepC, idx, hpL', lookR, zaa, if_true, if_false]; rfl)
    case h => (first | exact nan_spec ..))
 | ((first | refine s1_id ?_ | refine swp_id ?_ | refine sops_id ?_ | refine s2_id ?_); simp only [decide_eq_true h1, go_sem, zaa, zaj, zak, zal, zan, zag, ↓reduceIte, reduceCtorEq, zad, zaf, zao, zap, zaq, zaR, zaO, zaE, zaP, renO, bk, back, outUpsFrom, Ints_ren])
 | exact fs_nil trivial rfl
 | fail)
  rw [if_neg h1]
  by_cases h2 : b < a
  · rw [if_pos h2]
    refine fnspec_of mixed TT_ok TT_cl ⟨fun _ => false, fun _ => [], 0, fun _ => false, fun _ => false⟩ Try.func56 rfl (by kernel_rfl) rfl 20 rfl [.tmp 4] rfl ?_
    simp only [go_sem, zaa, zaj, zak, zal, zan, zag, ↓reduceIte, reduceCtorEq, zad, zaf, zao, zap, zaq]
    repeat' (first
 | (apply cl_plain
    case hs => rfl
    case ha => (simp only [zab, zac, prepV, prepC, idx, hpL', lookR, zaa, if_true, if_false]; rfl)
    case h => (first | exact nan_spec ..))
 | ((first | refine s1_id ?_ | refine swp_id ?_ | refine sops_id ?_ | refine s2_id ?_); simp only [decide_eq_false h1, decide_eq_true h2, go_sem, zaa, zaj, zak, zal, zan, zag, ↓reduceIte, reduceCtorEq, zad, zaf, zao, zap, zaq, zaR, zaO, zaE, zaP, renO, bk, back, outUpsFrom, Ints_ren])
 | exact fs_nil trivial rfl
 | fail)
  rw [if_neg h2]
  refine fnspec_of mixed TT_ok TT_cl ⟨fun _ => false, fun _ => [], 0, fun _ => false, fun _ => false⟩ Try.func56 rfl (by kernel_rfl) rfl 20 rfl [.tmp 4] rfl ?_
  simp only [go_sem, zaa, zaj, zak, zal, zan, zag, ↓reduceIte, reduceCtorEq, zad, zaf, zao, zap, zaq]
  repeat' (first
 | (apply cl_plain
    case hs => rfl
    case ha => (simp only [zab, zac, prepV, prepC, idx, hpL', lookR, zaa, if_true, if_false]; rfl)
    case h => (first | exact nan_spec ..))
 | ((first | refine s1_id ?_ | refine swp_id ?_ | refine sops_id ?_ | refine s2_id ?_); simp only [decide_eq_false h1, decide_eq_false h2, go_sem, zaa, zaj, zak, zal, zan, zag, ↓reduceIte, reduceCtorEq, zad, zaf, zao, zap, zaq, zaR, zaO, zaE, zaP, renO, bk, back, outUpsFrom, Ints_ren])
 | exact fs_nil trivial rfl
 | fail)
end Go.Proofs.Ytlajelbiniakpaa
-- NEWGO
-- PRUNE: cl_lendx cl_use cl_lend
-- ISG: Cs_isG
-- FLAT: Cs_flat
namespace Go.Proofs.Ytlajelbiniakpaa
set_option linter.unusedVariables false
set_option linter.unusedSimpArgs false
open Go.Proofs.Ytlajelbiniakpaa.Sh
set_option maxRecDepth 20000
def CtR (l : List Nd) : Prop := ∀ x ∈ l, -9223372036854775808 ≤ x.c ∧ x.c ≤ 9223372036854775807
theorem inRange_spec (x : Nd) (hc : -9223372036854775808 ≤ x.c ∧ x.c ≤ 9223372036854775807) : FnSpec Try.prog 77 [.agg (ndc x)] [] (b1 (rngOk x)) [] := by
  have h1 := andN_iff x.c hc
  obtain ⟨xi, xp, xn, xc, xk, xo⟩ := x
  simp only [ndc] at h1 ⊢
  unfold rngOk
  have e : (decide (0 ≤ xc) && decide (xc ≤ 31) && (decide (0 ≤ xo) && decide (xo ≤ 1048576))) = (decide (andN xc = 0) && decide (0 ≤ xo) && decide (xo ≤ 1048576)) := by
    rw [decide_eq_decide.2 h1, Bool.decide_and, Bool.and_assoc (decide (0 ≤ xc) && decide (xc ≤ 31))]
  simp only
  rw [e]
  refine fnspec_of mixed TT_ok TT_cl ⟨fun _ => false, fun _ => [], 0, fun _ => false, fun _ => false⟩ Try.func77 rfl (by kernel_rfl) rfl 17 rfl [.tmp 2] rfl ?_
  simp only [go_sem, zaa, zaj, zak, zal, zan, zag, ↓reduceIte, reduceCtorEq, zad, zaf, zao, zap, zaq]
  repeat' (first
 | with_reducible refine zai ?_ ?_
 | (unfold OKC; kernel_rfl)
 | (apply okc_up <;> (first | ((repeat (first | exact Sub.nil | apply Sub.gfp | apply Sub.same)); done) | kernel_rfl))
 | (unfold EDG; kernel_rfl)
 | (refine gt_if (fun h => ?_) (fun h => ?_) <;> (try simp only [h]))
 | (refine pt_if (fun h => ?_) (fun h => ?_) <;> (try simp only [h]))
 | (refine cd_if (fun h => ?_) (fun h => ?_) <;> (try simp only [h]))
 | (apply cg_tp
    case hl => rfl
    case ha => (simp only [zab, zac, prepV, prepC, idx, hpL', lookR, zaa, if_true, if_false]; rfl)
    case hs => rfl
    case h => (first | fail))
 | (apply cg_ts
    case hl => rfl
    case ha => (simp only [zab, zac, prepV, prepC, idx, hpL', lookR, zaa, if_true, if_false]; rfl)
    case hs => (simp only [snaps_nil, zat, zau, zaJ, zax, zas, zar, zam]; rfl)
    case h => (first | fail)
    case hf => ((simp only [zae, zah, false_implies, implies_true, and_true, hpL', lookR, zaa, if_true, if_false]) <;> (repeat' apply zai) <;> (first | exact ⟨_, rfl, Ints_isG _⟩ | exact ⟨_, rfl, Cs_isG _⟩ | exact ⟨_, rfl, by simp [zaN]⟩))
    case hg => simp [zaQ, zaK, zaD])
 | (apply cg_any
    case hl => rfl
    case ha => (intro hb; simp only [zab, zac, cnd, hb, if_true, prepV, prepC, idx, hpL', lookR, zaa, if_false]; rfl)
    case hs => (intro hb; simp only [cnd, hb, if_true]; rfl)
    case h => (first | fail))
 | (apply cg_show
    case hl => rfl
    case ha => (intro hb; simp only [zab, zac, cnd, hb, if_true, prepV, prepC, idx, hpL', lookR, zaa, if_false]; rfl)
    case hs => (intro hb; simp only [cnd, hb, if_true, snaps_nil, zat, zau, zaJ, zax, zas, zar, zam]; rfl)
    case h => (first | fail)
    case hf => ((simp only [zae, zah, false_implies, implies_true, and_true, hpL', lookR, zaa, if_true, if_false]) <;> (repeat' apply zai) <;> (first | exact ⟨_, rfl, Ints_isG _⟩ | exact ⟨_, rfl, Cs_isG _⟩ | exact ⟨_, rfl, by simp [zaN]⟩))
    case hg => simp [zaQ, zaK, zaD])
 | (apply cl_plain
    case hs => rfl
    case ha => (simp only [zab, zac, prepV, prepC, idx, hpL', lookR, zaa, if_true, if_false]; rfl)
    case h => (first | fail))
 | (apply cl_show
    case ha => (simp only [zab, zac, prepV, prepC, idx, hpL', lookR, zaa, if_true, if_false]; rfl)
    case hs => ((simp [snaps, zaJ, zax, idx, hpL', lookR]) <;> (repeat' apply zai) <;> (first | exact Ints_isG _ | exact Cs_isG _))
    case h => (first | fail)
    case hg => ((simp [zaQ, zaK, zaD]) <;> (repeat' apply zai) <;> exact Ints_noG _))
 | ((first | refine s1_id ?_ | refine swp_id ?_ | refine sops_id ?_ | refine s2_id ?_); simp only [zbc, zbd, zam, zar, zas, zba, zbb, zaX, zbg, zbj, zaI, zbf, go_sem, zaa, zaj, zak, zal, zan, zag, ↓reduceIte, reduceCtorEq, zad, zaf, zao, zap, zaq, zaR, zaO, zaE, zaP, renO, bk, back, outUpsFrom, Ints_ren])
 | (intros; omega)
 | (intros; (try simp only [zaA, zaB, zaz, zay, zav, zaw, decide_eq_true_eq, decide_eq_false_iff_not] at *); omega)
 | exact fs_nil trivial rfl
 | (apply fs_nil <;> (try simp only [go_sem, resV, resS, zaR, zaO, zaE, St.tmF, zbh, idx, renO, zaP, evS, slot, lookR, zaa, ↓reduceIte, reduceCtorEq, if_true, if_false, zaL, zaM, zab, zac, sLoad, readAt, readNeed, Ints_ren, Ints_length, Ints_getD, and_true, true_and, zaG, zaH]) <;> (try rfl))
 | fail)
theorem isRoot_spec (x : Nd) (hc : -9223372036854775808 ≤ x.c ∧ x.c ≤ 9223372036854775807) : FnSpec Try.prog 67 [.agg (ndc x)] [] (b1 (rootOk x && rngOk x)) [] := by
  have h1 := inRange_spec x hc
  unfold rootOk
  obtain ⟨xi, xp, xn, xc, xk, xo⟩ := x
  simp only [ndc] at h1 ⊢
  generalize rngOk ⟨xi, xp, xn, xc, xk, xo⟩ = r at *
  cases hb : (decide (xi = 1) && decide (xp = 0) && decide (xn = []) && decide (xk = 0)) with
  | false =>
    rw [Bool.false_and]
    refine fnspec_of mixed TT_ok TT_cl ⟨fun _ => false, fun _ => [], 0, fun _ => false, fun _ => false⟩ Try.func67 rfl (by kernel_rfl) rfl 25 rfl [.tmp 2] rfl ?_
    simp only [go_sem, zaa, zaj, zak, zal, zan, zag, ↓reduceIte, reduceCtorEq, zad, zaf, zao, zap, zaq, hb]
    repeat' (first
 | with_reducible refine zai ?_ ?_
 | (unfold OKC; kernel_rfl)
 | (apply okc_up <;> (first | ((repeat (first | exact Sub.nil | apply Sub.gfp | apply Sub.same)); done) | kernel_rfl))
 | (unfold EDG; kernel_rfl)
 | (refine gt_if (fun h => ?_) (fun h => ?_) <;> (try simp only [h]))
 | (refine pt_if (fun h => ?_) (fun h => ?_) <;> (try simp only [h]))
 | (refine cd_if (fun h => ?_) (fun h => ?_) <;> (try simp only [h]))
 | (apply cg_tp
    case hl => rfl
    case ha => (simp only [zab, zac, prepV, prepC, idx, hpL', lookR, zaa, if_true, if_false]; rfl)
    case hs => rfl
    case h => (first | exact h1 ..))
 | (apply cg_ts
    case hl => rfl
    case ha => (simp only [zab, zac, prepV, prepC, idx, hpL', lookR, zaa, if_true, if_false]; rfl)
    case hs => (simp only [snaps_nil, zat, zau, zaJ, zax, zas, zar, zam]; rfl)
    case h => (first | exact h1 ..)
    case hf => ((simp only [zae, zah, false_implies, implies_true, and_true, hpL', lookR, zaa, if_true, if_false]) <;> (repeat' apply zai) <;> (first | exact ⟨_, rfl, Ints_isG _⟩ | exact ⟨_, rfl, Cs_isG _⟩ | exact ⟨_, rfl, by simp [zaN]⟩))
    case hg => simp [zaQ, zaK, zaD])
 | (apply cg_any
    case hl => rfl
    case ha => (intro hb; simp only [zab, zac, cnd, hb, if_true, prepV, prepC, idx, hpL', lookR, zaa, if_false]; rfl)
    case hs => (intro hb; simp only [cnd, hb, if_true]; rfl)
    case h => (first | exact h1 ..))
 | (apply cg_show
    case hl => rfl
    case ha => (intro hb; simp only [zab, zac, cnd, hb, if_true, prepV, prepC, idx, hpL', lookR, zaa, if_false]; rfl)
    case hs => (intro hb; simp only [cnd, hb, if_true, snaps_nil, zat, zau, zaJ, zax, zas, zar, zam]; rfl)
    case h => (first | exact h1 ..)
    case hf => ((simp only [zae, zah, false_implies, implies_true, and_true, hpL', lookR, zaa, if_true, if_false]) <;> (repeat' apply zai) <;> (first | exact ⟨_, rfl, Ints_isG _⟩ | exact ⟨_, rfl, Cs_isG _⟩ | exact ⟨_, rfl, by simp [zaN]⟩))
    case hg => simp [zaQ, zaK, zaD])
 | (apply cl_plain
    case hs => rfl
    case ha => (simp only [zab, zac, prepV, prepC, idx, hpL', lookR, zaa, if_true, if_false]; rfl)
    case h => (first | exact h1 ..))
 | (apply cl_show
    case ha => (simp only [zab, zac, prepV, prepC, idx, hpL', lookR, zaa, if_true, if_false]; rfl)
    case hs => ((simp [snaps, zaJ, zax, idx, hpL', lookR]) <;> (repeat' apply zai) <;> (first | exact Ints_isG _ | exact Cs_isG _))
    case h => (first | exact h1 ..)
    case hg => ((simp [zaQ, zaK, zaD]) <;> (repeat' apply zai) <;> exact Ints_noG _))
 | ((first | refine s1_id ?_ | refine swp_id ?_ | refine sops_id ?_ | refine s2_id ?_); simp only [hb, zbc, zbd, zam, zar, zas, zba, zbb, zaX, zbg, zbj, zaI, zbf, go_sem, zaa, zaj, zak, zal, zan, zag, ↓reduceIte, reduceCtorEq, zad, zaf, zao, zap, zaq, zaR, zaO, zaE, zaP, renO, bk, back, outUpsFrom, Ints_ren])
 | (intros; omega)
 | (intros; (try simp only [zaA, zaB, zaz, zay, zav, zaw, decide_eq_true_eq, decide_eq_false_iff_not] at *); omega)
 | exact fs_nil trivial rfl
 | (apply fs_nil <;> (try simp only [go_sem, resV, resS, zaR, zaO, zaE, St.tmF, zbh, idx, renO, zaP, evS, slot, lookR, zaa, ↓reduceIte, reduceCtorEq, if_true, if_false, zaL, zaM, zab, zac, sLoad, readAt, readNeed, Ints_ren, Ints_length, Ints_getD, and_true, true_and, zaG, zaH]) <;> (try rfl))
 | fail)
  | true =>
    rw [zbo]
    refine fnspec_of mixed TT_ok TT_cl ⟨fun _ => false, fun _ => [], 0, fun _ => false, fun _ => false⟩ Try.func67 rfl (by kernel_rfl) rfl 25 rfl [.tmp 2] rfl ?_
    simp only [go_sem, zaa, zaj, zak, zal, zan, zag, ↓reduceIte, reduceCtorEq, zad, zaf, zao, zap, zaq, hb]
    repeat' (first
 | with_reducible refine zai ?_ ?_
 | (unfold OKC; kernel_rfl)
 | (apply okc_up <;> (first | ((repeat (first | exact Sub.nil | apply Sub.gfp | apply Sub.same)); done) | kernel_rfl))
 | (unfold EDG; kernel_rfl)
 | (refine gt_if (fun h => ?_) (fun h => ?_) <;> (try simp only [h]))
 | (refine pt_if (fun h => ?_) (fun h => ?_) <;> (try simp only [h]))
 | (refine cd_if (fun h => ?_) (fun h => ?_) <;> (try simp only [h]))
 | (apply cg_tp
    case hl => rfl
    case ha => (simp only [zab, zac, prepV, prepC, idx, hpL', lookR, zaa, if_true, if_false]; rfl)
    case hs => rfl
    case h => (first | exact h1 ..))
 | (apply cg_ts
    case hl => rfl
    case ha => (simp only [zab, zac, prepV, prepC, idx, hpL', lookR, zaa, if_true, if_false]; rfl)
    case hs => (simp only [snaps_nil, zat, zau, zaJ, zax, zas, zar, zam]; rfl)
    case h => (first | exact h1 ..)
    case hf => ((simp only [zae, zah, false_implies, implies_true, and_true, hpL', lookR, zaa, if_true, if_false]) <;> (repeat' apply zai) <;> (first | exact ⟨_, rfl, Ints_isG _⟩ | exact ⟨_, rfl, Cs_isG _⟩ | exact ⟨_, rfl, by simp [zaN]⟩))
    case hg => simp [zaQ, zaK, zaD])
 | (apply cg_any
    case hl => rfl
    case ha => (intro hb; simp only [zab, zac, cnd, hb, if_true, prepV, prepC, idx, hpL', lookR, zaa, if_false]; rfl)
    case hs => (intro hb; simp only [cnd, hb, if_true]; rfl)
    case h => (first | exact h1 ..))
 | (apply cg_show
    case hl => rfl
    case ha => (intro hb; simp only [zab, zac, cnd, hb, if_true, prepV, prepC, idx, hpL', lookR, zaa, if_false]; rfl)
    case hs => (intro hb; simp only [cnd, hb, if_true, snaps_nil, zat, zau, zaJ, zax, zas, zar, zam]; rfl)
    case h => (first | exact h1 ..)
    case hf => ((simp only [zae, zah, false_implies, implies_true, and_true, hpL', lookR, zaa, if_true, if_false]) <;> (repeat' apply zai) <;> (first | exact ⟨_, rfl, Ints_isG _⟩ | exact ⟨_, rfl, Cs_isG _⟩ | exact ⟨_, rfl, by simp [zaN]⟩))
    case hg => simp [zaQ, zaK, zaD])
 | (apply cl_plain
    case hs => rfl
    case ha => (simp only [zab, zac, prepV, prepC, idx, hpL', lookR, zaa, if_true, if_false]; rfl)
    case h => (first | exact h1 ..))
 | (apply cl_show
    case ha => (simp only [zab, zac, prepV, prepC, idx, hpL', lookR, zaa, if_true, if_false]; rfl)
    case hs => ((simp [snaps, zaJ, zax, idx, hpL', lookR]) <;> (repeat' apply zai) <;> (first | exact Ints_isG _ | exact Cs_isG _))
    case h => (first | exact h1 ..)
    case hg => ((simp [zaQ, zaK, zaD]) <;> (repeat' apply zai) <;> exact Ints_noG _))
 | ((first | refine s1_id ?_ | refine swp_id ?_ | refine sops_id ?_ | refine s2_id ?_); simp only [hb, zbc, zbd, zam, zar, zas, zba, zbb, zaX, zbg, zbj, zaI, zbf, go_sem, zaa, zaj, zak, zal, zan, zag, ↓reduceIte, reduceCtorEq, zad, zaf, zao, zap, zaq, zaR, zaO, zaE, zaP, renO, bk, back, outUpsFrom, Ints_ren])
 | (intros; omega)
 | (intros; (try simp only [zaA, zaB, zaz, zay, zav, zaw, decide_eq_true_eq, decide_eq_false_iff_not] at *); omega)
 | exact fs_nil trivial rfl
 | (apply fs_nil <;> (try simp only [go_sem, resV, resS, zaR, zaO, zaE, St.tmF, zbh, idx, renO, zaP, evS, slot, lookR, zaa, ↓reduceIte, reduceCtorEq, if_true, if_false, zaL, zaM, zab, zac, sLoad, readAt, readNeed, Ints_ren, Ints_length, Ints_getD, and_true, true_and, zaG, zaH]) <;> (try rfl))
 | fail)
theorem isChild_spec (x : Nd) (hc : -9223372036854775808 ≤ x.c ∧ x.c ≤ 9223372036854775807) (hn : x.nm.length ≤ 9223372036854775807) : FnSpec Try.prog 68 [.agg (ndc x)] [] (b1 (nmOk x.nm && kdOk x && rngOk x)) [] := by
  have h1 := inRange_spec x hc
  have h2 := valid_spec x.nm (by omega)
  unfold kdOk
  obtain ⟨xi, xp, xn, xc, xk, xo⟩ := x
  simp only [ndc] at h1 h2 ⊢
  generalize rngOk ⟨xi, xp, xn, xc, xk, xo⟩ = r at *
  cases hv : nmOk xn with
  | false =>
    rw [hv] at h2
    simp only [Bool.false_and]
    refine fnspec_of mixed TT_ok TT_cl ⟨fun _ => false, fun _ => [], 0, fun _ => false, fun _ => false⟩ Try.func68 rfl (by kernel_rfl) rfl 20 rfl [.tmp 2] rfl ?_
    simp only [go_sem, zaa, zaj, zak, zal, zan, zag, ↓reduceIte, reduceCtorEq, zad, zaf, zao, zap, zaq]
    repeat' (first
 | with_reducible refine zai ?_ ?_
 | (unfold OKC; kernel_rfl)
 | (apply okc_up <;> (first | ((repeat (first | exact Sub.nil | apply Sub.gfp | apply Sub.same)); done) | kernel_rfl))
 | (unfold EDG; kernel_rfl)
 | (refine gt_if (fun h => ?_) (fun h => ?_) <;> (try simp only [h]))
 | (refine pt_if (fun h => ?_) (fun h => ?_) <;> (try simp only [h]))
 | (refine cd_if (fun h => ?_) (fun h => ?_) <;> (try simp only [h]))
 | (apply cg_tp
    case hl => rfl
    case ha => (simp only [zab, zac, prepV, prepC, idx, hpL', lookR, zaa, if_true, if_false]; rfl)
    case hs => rfl
    case h => (first | exact h2 ..))
 | (apply cg_ts
    case hl => rfl
    case ha => (simp only [zab, zac, prepV, prepC, idx, hpL', lookR, zaa, if_true, if_false]; rfl)
    case hs => (simp only [snaps_nil, zat, zau, zaJ, zax, zas, zar, zam]; rfl)
    case h => (first | exact h2 ..)
    case hf => ((simp only [zae, zah, false_implies, implies_true, and_true, hpL', lookR, zaa, if_true, if_false]) <;> (repeat' apply zai) <;> (first | exact ⟨_, rfl, Ints_isG _⟩ | exact ⟨_, rfl, Cs_isG _⟩ | exact ⟨_, rfl, by simp [zaN]⟩))
    case hg => simp [zaQ, zaK, zaD])
 | (apply cg_any
    case hl => rfl
    case ha => (intro hb; simp only [zab, zac, cnd, hb, if_true, prepV, prepC, idx, hpL', lookR, zaa, if_false]; rfl)
    case hs => (intro hb; simp only [cnd, hb, if_true]; rfl)
    case h => (first | exact h2 ..))
 | (apply cg_show
    case hl => rfl
    case ha => (intro hb; simp only [zab, zac, cnd, hb, if_true, prepV, prepC, idx, hpL', lookR, zaa, if_false]; rfl)
    case hs => (intro hb; simp only [cnd, hb, if_true, snaps_nil, zat, zau, zaJ, zax, zas, zar, zam]; rfl)
    case h => (first | exact h2 ..)
    case hf => ((simp only [zae, zah, false_implies, implies_true, and_true, hpL', lookR, zaa, if_true, if_false]) <;> (repeat' apply zai) <;> (first | exact ⟨_, rfl, Ints_isG _⟩ | exact ⟨_, rfl, Cs_isG _⟩ | exact ⟨_, rfl, by simp [zaN]⟩))
    case hg => simp [zaQ, zaK, zaD])
 | (apply cl_plain
    case hs => rfl
    case ha => (simp only [zab, zac, prepV, prepC, idx, hpL', lookR, zaa, if_true, if_false]; rfl)
    case h => (first | exact h2 ..))
 | (apply cl_show
    case ha => (simp only [zab, zac, prepV, prepC, idx, hpL', lookR, zaa, if_true, if_false]; rfl)
    case hs => ((simp [snaps, zaJ, zax, idx, hpL', lookR]) <;> (repeat' apply zai) <;> (first | exact Ints_isG _ | exact Cs_isG _))
    case h => (first | exact h2 ..)
    case hg => ((simp [zaQ, zaK, zaD]) <;> (repeat' apply zai) <;> exact Ints_noG _))
 | ((first | refine s1_id ?_ | refine swp_id ?_ | refine sops_id ?_ | refine s2_id ?_); simp only [zbc, zbd, zam, zar, zas, zba, zbb, zaX, zbg, zbj, zaI, zbf, go_sem, zaa, zaj, zak, zal, zan, zag, ↓reduceIte, reduceCtorEq, zad, zaf, zao, zap, zaq, zaR, zaO, zaE, zaP, renO, bk, back, outUpsFrom, Ints_ren])
 | (intros; omega)
 | (intros; (try simp only [zaA, zaB, zaz, zay, zav, zaw, decide_eq_true_eq, decide_eq_false_iff_not] at *); omega)
 | exact fs_nil trivial rfl
 | (apply fs_nil <;> (try simp only [go_sem, resV, resS, zaR, zaO, zaE, St.tmF, zbh, idx, renO, zaP, evS, slot, lookR, zaa, ↓reduceIte, reduceCtorEq, if_true, if_false, zaL, zaM, zab, zac, sLoad, readAt, readNeed, Ints_ren, Ints_length, Ints_getD, and_true, true_and, zaG, zaH]) <;> (try rfl))
 | fail)
  | true =>
    rw [hv] at h2
    simp only [zbo]
    cases hb : (decide (xk = 0) || decide (xk = 1)) with
    | false =>
      rw [Bool.false_and]
      refine fnspec_of mixed TT_ok TT_cl ⟨fun _ => false, fun _ => [], 0, fun _ => false, fun _ => false⟩ Try.func68 rfl (by kernel_rfl) rfl 20 rfl [.tmp 2] rfl ?_
      simp only [go_sem, zaa, zaj, zak, zal, zan, zag, ↓reduceIte, reduceCtorEq, zad, zaf, zao, zap, zaq, hb]
      repeat' (first
 | with_reducible refine zai ?_ ?_
 | (unfold OKC; kernel_rfl)
 | (apply okc_up <;> (first | ((repeat (first | exact Sub.nil | apply Sub.gfp | apply Sub.same)); done) | kernel_rfl))
 | (unfold EDG; kernel_rfl)
 | (refine gt_if (fun h => ?_) (fun h => ?_) <;> (try simp only [h]))
 | (refine pt_if (fun h => ?_) (fun h => ?_) <;> (try simp only [h]))
 | (refine cd_if (fun h => ?_) (fun h => ?_) <;> (try simp only [h]))
 | (apply cg_tp
    case hl => rfl
    case ha => (simp only [zab, zac, prepV, prepC, idx, hpL', lookR, zaa, if_true, if_false]; rfl)
    case hs => rfl
    case h => (first | exact h1 .. | exact h2 ..))
 | (apply cg_ts
    case hl => rfl
    case ha => (simp only [zab, zac, prepV, prepC, idx, hpL', lookR, zaa, if_true, if_false]; rfl)
    case hs => (simp only [snaps_nil, zat, zau, zaJ, zax, zas, zar, zam]; rfl)
    case h => (first | exact h1 .. | exact h2 ..)
    case hf => ((simp only [zae, zah, false_implies, implies_true, and_true, hpL', lookR, zaa, if_true, if_false]) <;> (repeat' apply zai) <;> (first | exact ⟨_, rfl, Ints_isG _⟩ | exact ⟨_, rfl, Cs_isG _⟩ | exact ⟨_, rfl, by simp [zaN]⟩))
    case hg => simp [zaQ, zaK, zaD])
 | (apply cg_any
    case hl => rfl
    case ha => (intro hb; simp only [zab, zac, cnd, hb, if_true, prepV, prepC, idx, hpL', lookR, zaa, if_false]; rfl)
    case hs => (intro hb; simp only [cnd, hb, if_true]; rfl)
    case h => (first | exact h1 .. | exact h2 ..))
 | (apply cg_show
    case hl => rfl
    case ha => (intro hb; simp only [zab, zac, cnd, hb, if_true, prepV, prepC, idx, hpL', lookR, zaa, if_false]; rfl)
    case hs => (intro hb; simp only [cnd, hb, if_true, snaps_nil, zat, zau, zaJ, zax, zas, zar, zam]; rfl)
    case h => (first | exact h1 .. | exact h2 ..)
    case hf => ((simp only [zae, zah, false_implies, implies_true, and_true, hpL', lookR, zaa, if_true, if_false]) <;> (repeat' apply zai) <;> (first | exact ⟨_, rfl, Ints_isG _⟩ | exact ⟨_, rfl, Cs_isG _⟩ | exact ⟨_, rfl, by simp [zaN]⟩))
    case hg => simp [zaQ, zaK, zaD])
 | (apply cl_plain
    case hs => rfl
    case ha => (simp only [zab, zac, prepV, prepC, idx, hpL', lookR, zaa, if_true, if_false]; rfl)
    case h => (first | exact h1 .. | exact h2 ..))
 | (apply cl_show
    case ha => (simp only [zab, zac, prepV, prepC, idx, hpL', lookR, zaa, if_true, if_false]; rfl)
    case hs => ((simp [snaps, zaJ, zax, idx, hpL', lookR]) <;> (repeat' apply zai) <;> (first | exact Ints_isG _ | exact Cs_isG _))
    case h => (first | exact h1 .. | exact h2 ..)
    case hg => ((simp [zaQ, zaK, zaD]) <;> (repeat' apply zai) <;> exact Ints_noG _))
 | ((first | refine s1_id ?_ | refine swp_id ?_ | refine sops_id ?_ | refine s2_id ?_); simp only [hb, zbc, zbd, zam, zar, zas, zba, zbb, zaX, zbg, zbj, zaI, zbf, go_sem, zaa, zaj, zak, zal, zan, zag, ↓reduceIte, reduceCtorEq, zad, zaf, zao, zap, zaq, zaR, zaO, zaE, zaP, renO, bk, back, outUpsFrom, Ints_ren])
 | (intros; omega)
 | (intros; (try simp only [zaA, zaB, zaz, zay, zav, zaw, decide_eq_true_eq, decide_eq_false_iff_not] at *); omega)
 | exact fs_nil trivial rfl
 | (apply fs_nil <;> (try simp only [go_sem, resV, resS, zaR, zaO, zaE, St.tmF, zbh, idx, renO, zaP, evS, slot, lookR, zaa, ↓reduceIte, reduceCtorEq, if_true, if_false, zaL, zaM, zab, zac, sLoad, readAt, readNeed, Ints_ren, Ints_length, Ints_getD, and_true, true_and, zaG, zaH]) <;> (try rfl))
 | fail)
    | true =>
      rw [zbo]
      refine fnspec_of mixed TT_ok TT_cl ⟨fun _ => false, fun _ => [], 0, fun _ => false, fun _ => false⟩ Try.func68 rfl (by kernel_rfl) rfl 20 rfl [.tmp 2] rfl ?_
      simp only [go_sem, zaa, zaj, zak, zal, zan, zag, ↓reduceIte, reduceCtorEq, zad, zaf, zao, zap, zaq, hb]
      repeat' (first
 | with_reducible refine zai ?_ ?_
 | (unfold OKC; kernel_rfl)
 | (apply okc_up <;> (first | ((repeat (first | exact Sub.nil | apply Sub.gfp | apply Sub.same)); done) | kernel_rfl))
 | (unfold EDG; kernel_rfl)
 | (refine gt_if (fun h => ?_) (fun h => ?_) <;> (try simp only [h]))
 | (refine pt_if (fun h => ?_) (fun h => ?_) <;> (try simp only [h]))
 | (refine cd_if (fun h => ?_) (fun h => ?_) <;> (try simp only [h]))
 | (apply cg_tp
    case hl => rfl
    case ha => (simp only [zab, zac, prepV, prepC, idx, hpL', lookR, zaa, if_true, if_false]; rfl)
    case hs => rfl
    case h => (first | exact h1 .. | exact h2 ..))
 | (apply cg_ts
    case hl => rfl
    case ha => (simp only [zab, zac, prepV, prepC, idx, hpL', lookR, zaa, if_true, if_false]; rfl)
    case hs => (simp only [snaps_nil, zat, zau, zaJ, zax, zas, zar, zam]; rfl)
    case h => (first | exact h1 .. | exact h2 ..)
    case hf => ((simp only [zae, zah, false_implies, implies_true, and_true, hpL', lookR, zaa, if_true, if_false]) <;> (repeat' apply zai) <;> (first | exact ⟨_, rfl, Ints_isG _⟩ | exact ⟨_, rfl, Cs_isG _⟩ | exact ⟨_, rfl, by simp [zaN]⟩))
    case hg => simp [zaQ, zaK, zaD])
 | (apply cg_any
    case hl => rfl
    case ha => (intro hb; simp only [zab, zac, cnd, hb, if_true, prepV, prepC, idx, hpL', lookR, zaa, if_false]; rfl)
    case hs => (intro hb; simp only [cnd, hb, if_true]; rfl)
    case h => (first | exact h1 .. | exact h2 ..))
 | (apply cg_show
    case hl => rfl
    case ha => (intro hb; simp only [zab, zac, cnd, hb, if_true, prepV, prepC, idx, hpL', lookR, zaa, if_false]; rfl)
    case hs => (intro hb; simp only [cnd, hb, if_true, snaps_nil, zat, zau, zaJ, zax, zas, zar, zam]; rfl)
    case h => (first | exact h1 .. | exact h2 ..)
    case hf => ((simp only [zae, zah, false_implies, implies_true, and_true, hpL', lookR, zaa, if_true, if_false]) <;> (repeat' apply zai) <;> (first | exact ⟨_, rfl, Ints_isG _⟩ | exact ⟨_, rfl, Cs_isG _⟩ | exact ⟨_, rfl, by simp [zaN]⟩))
    case hg => simp [zaQ, zaK, zaD])
 | (apply cl_plain
    case hs => rfl
    case ha => (simp only [zab, zac, prepV, prepC, idx, hpL', lookR, zaa, if_true, if_false]; rfl)
    case h => (first | exact h1 .. | exact h2 ..))
 | (apply cl_show
    case ha => (simp only [zab, zac, prepV, prepC, idx, hpL', lookR, zaa, if_true, if_false]; rfl)
    case hs => ((simp [snaps, zaJ, zax, idx, hpL', lookR]) <;> (repeat' apply zai) <;> (first | exact Ints_isG _ | exact Cs_isG _))
    case h => (first | exact h1 .. | exact h2 ..)
    case hg => ((simp [zaQ, zaK, zaD]) <;> (repeat' apply zai) <;> exact Ints_noG _))
 | ((first | refine s1_id ?_ | refine swp_id ?_ | refine sops_id ?_ | refine s2_id ?_); simp only [hb, zbc, zbd, zam, zar, zas, zba, zbb, zaX, zbg, zbj, zaI, zbf, go_sem, zaa, zaj, zak, zal, zan, zag, ↓reduceIte, reduceCtorEq, zad, zaf, zao, zap, zaq, zaR, zaO, zaE, zaP, renO, bk, back, outUpsFrom, Ints_ren])
 | (intros; omega)
 | (intros; (try simp only [zaA, zaB, zaz, zay, zav, zaw, decide_eq_true_eq, decide_eq_false_iff_not] at *); omega)
 | exact fs_nil trivial rfl
 | (apply fs_nil <;> (try simp only [go_sem, resV, resS, zaR, zaO, zaE, St.tmF, zbh, idx, renO, zaP, evS, slot, lookR, zaa, ↓reduceIte, reduceCtorEq, if_true, if_false, zaL, zaM, zab, zac, sLoad, readAt, readNeed, Ints_ren, Ints_length, Ints_getD, and_true, true_and, zaG, zaH]) <;> (try rfl))
 | fail)
set_option maxHeartbeats 4000000 in
theorem taken_spec (l : List Nd) (k : Option Nat) (p : Int) (s : Str) (hl : l.length ≤ 1000000) : FnSpec Try.prog 69 [gr l k, i1 p, s1 s] [] (b1 (l.any (same1 p s))) [] := by
  have hnl := nd_len l
  refine fnspec_of mixed TT_ok TT_cl ⟨fun _ => false, fun _ => [], 0, fun _ => false, fun _ => false⟩ Try.func69 rfl (by kernel_rfl) rfl 30 rfl [.tmp 6] rfl ?_
  simp only [go_sem, zaa, zaj, zak, zal, zan, zag, ↓reduceIte, reduceCtorEq, zad, zaf, zao, zap, zaq]
  repeat' (first
 | with_reducible refine zai ?_ ?_
 | (unfold OKC; kernel_rfl)
 | (apply okc_up <;> (first | ((repeat (first | exact Sub.nil | apply Sub.gfp | apply Sub.same)); done) | kernel_rfl))
 | (unfold EDG; kernel_rfl)
 | (refine gt_if (fun h => ?_) (fun h => ?_) <;> (try simp only [h]))
 | (refine pt_if (fun h => ?_) (fun h => ?_) <;> (try simp only [h]))
 | (refine cd_if (fun h => ?_) (fun h => ?_) <;> (try simp only [h]))
 | (apply cg_tp
    case hl => rfl
    case ha => (simp only [zab, zac, prepV, prepC, idx, hpL', lookR, zaa, if_true, if_false]; rfl)
    case hs => rfl
    case h => (first | fail))
 | (apply cg_ts
    case hl => rfl
    case ha => (simp only [zab, zac, prepV, prepC, idx, hpL', lookR, zaa, if_true, if_false]; rfl)
    case hs => (simp only [snaps_nil, zat, zau, zaJ, zax, zas, zar, zam]; rfl)
    case h => (first | fail)
    case hf => ((simp only [zae, zah, false_implies, implies_true, and_true, hpL', lookR, zaa, if_true, if_false]) <;> (repeat' apply zai) <;> (first | exact ⟨_, rfl, Ints_isG _⟩ | exact ⟨_, rfl, Cs_isG _⟩ | exact ⟨_, rfl, by simp [zaN]⟩))
    case hg => simp [zaQ, zaK, zaD])
 | (apply cg_any
    case hl => rfl
    case ha => (intro hb; simp only [zab, zac, cnd, hb, if_true, prepV, prepC, idx, hpL', lookR, zaa, if_false]; rfl)
    case hs => (intro hb; simp only [cnd, hb, if_true]; rfl)
    case h => (first | fail))
 | (apply cg_show
    case hl => rfl
    case ha => (intro hb; simp only [zab, zac, cnd, hb, if_true, prepV, prepC, idx, hpL', lookR, zaa, if_false]; rfl)
    case hs => (intro hb; simp only [cnd, hb, if_true, snaps_nil, zat, zau, zaJ, zax, zas, zar, zam]; rfl)
    case h => (first | fail)
    case hf => ((simp only [zae, zah, false_implies, implies_true, and_true, hpL', lookR, zaa, if_true, if_false]) <;> (repeat' apply zai) <;> (first | exact ⟨_, rfl, Ints_isG _⟩ | exact ⟨_, rfl, Cs_isG _⟩ | exact ⟨_, rfl, by simp [zaN]⟩))
    case hg => simp [zaQ, zaK, zaD])
 | (apply cl_plain
    case hs => rfl
    case ha => (simp only [zab, zac, prepV, prepC, idx, hpL', lookR, zaa, if_true, if_false]; rfl)
    case h => (first | fail))
 | (apply cl_show
    case ha => (simp only [zab, zac, prepV, prepC, idx, hpL', lookR, zaa, if_true, if_false]; rfl)
    case hs => ((simp [snaps, zaJ, zax, idx, hpL', lookR]) <;> (repeat' apply zai) <;> (first | exact Ints_isG _ | exact Cs_isG _))
    case h => (first | fail)
    case hg => ((simp [zaQ, zaK, zaD]) <;> (repeat' apply zai) <;> exact Ints_noG _))
 | ((first | refine s1_id ?_ | refine swp_id ?_ | refine sops_id ?_ | refine s2_id ?_); simp only [go_sem, zaa, zaj, zak, zal, zan, zag, ↓reduceIte, reduceCtorEq, zad, zaf, zao, zap, zaq, zaR, zaO, zaE, zaP, renO, bk, back, outUpsFrom, Ints_ren])
 | (intros; omega)
 | (intros; (try simp only [zaA, zaB, zaz, zay, zav, zaw, decide_eq_true_eq, decide_eq_false_iff_not] at *); omega))
  refine w_loop (ι := Nat) (fun m => ⟨[(0, gr l k), (1, i1 p), (2, s1 s), (9, i1 l.length), (10, i1 m)], [], 0⟩) (fun m => m ≤ l.length ∧ (l.take m).any (same1 p s) = false) (fun m => l.length - m) 0 ?_ ⟨Nat.zero_le _, rfl⟩ ?_
  · (refine imp_ren _ _ _ [] (by simp) (by simp) (by simp) (zaS rfl) ?_ rfl (by simp only [zae, zah, false_implies, implies_true, and_true, zbh, lookR, zaa, if_true, if_false, ↓reduceIte] <;> (repeat' apply zai) <;> (first | rfl | trivial)) (by simp only [zae, zah, false_implies, implies_true, and_true, true_and, flat_cons, flat_nil, flat_ints, flat_bools, flat_app, zax, and_self, eq_self_iff_true, zam]); simp only [zab, zac, zae, zah, false_implies, implies_true, and_true, lk, slot, zaR, zaE, toN, zaa, if_true, if_false, ↓reduceIte, reduceCtorEq])
    all_goals ((repeat' apply zai) <;> (first | rfl | trivial))
  rintro m ⟨hm, hno⟩
  simp only at hm hno ⊢
  rcases Nat.lt_or_ge m l.length with hlt | hge
  case inr =>
    have c : ¬ (m : Int) < (l.length : Int) := by omega
    rw [zbn hge] at hno
    rw [hno]
    simp only [go_sem, zaa, zaj, zak, zal, zan, zag, ↓reduceIte, reduceCtorEq, zad, zaf, zao, zap, zaq, decide_eq_false c]
    repeat' (first
 | with_reducible refine zai ?_ ?_
 | (unfold OKC; kernel_rfl)
 | (apply okc_up <;> (first | ((repeat (first | exact Sub.nil | apply Sub.gfp | apply Sub.same)); done) | kernel_rfl))
 | (unfold EDG; kernel_rfl)
 | (refine gt_if (fun h => ?_) (fun h => ?_) <;> (try simp only [h]))
 | (refine pt_if (fun h => ?_) (fun h => ?_) <;> (try simp only [h]))
 | (refine cd_if (fun h => ?_) (fun h => ?_) <;> (try simp only [h]))
 | (apply cg_tp
    case hl => rfl
    case ha => (simp only [zab, zac, prepV, prepC, idx, hpL', lookR, zaa, if_true, if_false]; rfl)
    case hs => rfl
    case h => (first | fail))
 | (apply cg_ts
    case hl => rfl
    case ha => (simp only [zab, zac, prepV, prepC, idx, hpL', lookR, zaa, if_true, if_false]; rfl)
    case hs => (simp only [snaps_nil, zat, zau, zaJ, zax, zas, zar, zam]; rfl)
    case h => (first | fail)
    case hf => ((simp only [zae, zah, false_implies, implies_true, and_true, hpL', lookR, zaa, if_true, if_false]) <;> (repeat' apply zai) <;> (first | exact ⟨_, rfl, Ints_isG _⟩ | exact ⟨_, rfl, Cs_isG _⟩ | exact ⟨_, rfl, by simp [zaN]⟩))
    case hg => simp [zaQ, zaK, zaD])
 | (apply cg_any
    case hl => rfl
    case ha => (intro hb; simp only [zab, zac, cnd, hb, if_true, prepV, prepC, idx, hpL', lookR, zaa, if_false]; rfl)
    case hs => (intro hb; simp only [cnd, hb, if_true]; rfl)
    case h => (first | fail))
 | (apply cg_show
    case hl => rfl
    case ha => (intro hb; simp only [zab, zac, cnd, hb, if_true, prepV, prepC, idx, hpL', lookR, zaa, if_false]; rfl)
    case hs => (intro hb; simp only [cnd, hb, if_true, snaps_nil, zat, zau, zaJ, zax, zas, zar, zam]; rfl)
    case h => (first | fail)
    case hf => ((simp only [zae, zah, false_implies, implies_true, and_true, hpL', lookR, zaa, if_true, if_false]) <;> (repeat' apply zai) <;> (first | exact ⟨_, rfl, Ints_isG _⟩ | exact ⟨_, rfl, Cs_isG _⟩ | exact ⟨_, rfl, by simp [zaN]⟩))
    case hg => simp [zaQ, zaK, zaD])
 | (apply cl_plain
    case hs => rfl
    case ha => (simp only [zab, zac, prepV, prepC, idx, hpL', lookR, zaa, if_true, if_false]; rfl)
    case h => (first | fail))
 | (apply cl_show
    case ha => (simp only [zab, zac, prepV, prepC, idx, hpL', lookR, zaa, if_true, if_false]; rfl)
    case hs => ((simp [snaps, zaJ, zax, idx, hpL', lookR]) <;> (repeat' apply zai) <;> (first | exact Ints_isG _ | exact Cs_isG _))
    case h => (first | fail)
    case hg => ((simp [zaQ, zaK, zaD]) <;> (repeat' apply zai) <;> exact Ints_noG _))
 | ((first | refine s1_id ?_ | refine swp_id ?_ | refine sops_id ?_ | refine s2_id ?_); simp only [decide_eq_false c, go_sem, zaa, zaj, zak, zal, zan, zag, ↓reduceIte, reduceCtorEq, zad, zaf, zao, zap, zaq, zaR, zaO, zaE, zaP, renO, bk, back, outUpsFrom, Ints_ren])
 | (intros; omega)
 | (intros; (try simp only [zaA, zaB, zaz, zay, zav, zaw, decide_eq_true_eq, decide_eq_false_iff_not] at *); omega)
 | exact fs_nil trivial rfl
 | (apply fs_nil <;> (try simp only [go_sem, resV, resS, zaR, zaO, zaE, St.tmF, zbh, idx, renO, zaP, evS, slot, lookR, zaa, ↓reduceIte, reduceCtorEq, if_true, if_false, zaL, zaM, zab, zac, sLoad, readAt, readNeed, Ints_ren, Ints_length, Ints_getD, and_true, true_and, zaG, zaH]) <;> (try rfl))
 | fail)
  have c : (m : Int) < (l.length : Int) := by omega
  obtain ⟨_, g2, _⟩ := nd_f l m hlt (.sc (.int .i64 0))
  have g3 := (nd_f l m hlt (.sc (.string (bs [])))).2.2.1
  have hs2 := any_take_succ l m hlt (same1 p s)
  have hsm : same1 p s (gN l m) = (decide ((gN l m).p = p) && decide ((gN l m).nm = s)) := rfl
  rw [hno, Bool.false_or] at hs2
  cases hdup : same1 p s (gN l m) with
  | true =>
    have hany : l.any (same1 p s) = true := List.any_eq_true.2 ⟨gN l m, getD_mem l m zn hlt, hdup⟩
    rw [hany]
    rw [hsm] at hdup
    simp only [go_sem, zaa, zaj, zak, zal, zan, zag, ↓reduceIte, reduceCtorEq, zad, zaf, zao, zap, zaq, decide_eq_true c, g2, g3, hdup]
    repeat' (first
 | with_reducible refine zai ?_ ?_
 | (unfold OKC; kernel_rfl)
 | (apply okc_up <;> (first | ((repeat (first | exact Sub.nil | apply Sub.gfp | apply Sub.same)); done) | kernel_rfl))
 | (unfold EDG; kernel_rfl)
 | (refine gt_if (fun h => ?_) (fun h => ?_) <;> (try simp only [h]))
 | (refine pt_if (fun h => ?_) (fun h => ?_) <;> (try simp only [h]))
 | (refine cd_if (fun h => ?_) (fun h => ?_) <;> (try simp only [h]))
 | (apply cg_tp
    case hl => rfl
    case ha => (simp only [zab, zac, prepV, prepC, idx, hpL', lookR, zaa, if_true, if_false]; rfl)
    case hs => rfl
    case h => (first | fail))
 | (apply cg_ts
    case hl => rfl
    case ha => (simp only [zab, zac, prepV, prepC, idx, hpL', lookR, zaa, if_true, if_false]; rfl)
    case hs => (simp only [snaps_nil, zat, zau, zaJ, zax, zas, zar, zam]; rfl)
    case h => (first | fail)
    case hf => ((simp only [zae, zah, false_implies, implies_true, and_true, hpL', lookR, zaa, if_true, if_false]) <;> (repeat' apply zai) <;> (first | exact ⟨_, rfl, Ints_isG _⟩ | exact ⟨_, rfl, Cs_isG _⟩ | exact ⟨_, rfl, by simp [zaN]⟩))
    case hg => simp [zaQ, zaK, zaD])
 | (apply cg_any
    case hl => rfl
    case ha => (intro hb; simp only [zab, zac, cnd, hb, if_true, prepV, prepC, idx, hpL', lookR, zaa, if_false]; rfl)
    case hs => (intro hb; simp only [cnd, hb, if_true]; rfl)
    case h => (first | fail))
 | (apply cg_show
    case hl => rfl
    case ha => (intro hb; simp only [zab, zac, cnd, hb, if_true, prepV, prepC, idx, hpL', lookR, zaa, if_false]; rfl)
    case hs => (intro hb; simp only [cnd, hb, if_true, snaps_nil, zat, zau, zaJ, zax, zas, zar, zam]; rfl)
    case h => (first | fail)
    case hf => ((simp only [zae, zah, false_implies, implies_true, and_true, hpL', lookR, zaa, if_true, if_false]) <;> (repeat' apply zai) <;> (first | exact ⟨_, rfl, Ints_isG _⟩ | exact ⟨_, rfl, Cs_isG _⟩ | exact ⟨_, rfl, by simp [zaN]⟩))
    case hg => simp [zaQ, zaK, zaD])
 | (apply cl_plain
    case hs => rfl
    case ha => (simp only [zab, zac, prepV, prepC, idx, hpL', lookR, zaa, if_true, if_false]; rfl)
    case h => (first | fail))
 | (apply cl_show
    case ha => (simp only [zab, zac, prepV, prepC, idx, hpL', lookR, zaa, if_true, if_false]; rfl)
    case hs => ((simp [snaps, zaJ, zax, idx, hpL', lookR]) <;> (repeat' apply zai) <;> (first | exact Ints_isG _ | exact Cs_isG _))
    case h => (first | fail)
    case hg => ((simp [zaQ, zaK, zaD]) <;> (repeat' apply zai) <;> exact Ints_noG _))
 | ((first | refine s1_id ?_ | refine swp_id ?_ | refine sops_id ?_ | refine s2_id ?_); simp only [decide_eq_true c, g2, g3, hdup, go_sem, zaa, zaj, zak, zal, zan, zag, ↓reduceIte, reduceCtorEq, zad, zaf, zao, zap, zaq, zaR, zaO, zaE, zaP, renO, bk, back, outUpsFrom, Ints_ren])
 | (intros; omega)
 | (intros; (try simp only [zaA, zaB, zaz, zay, zav, zaw, decide_eq_true_eq, decide_eq_false_iff_not] at *); omega)
 | exact fs_nil trivial rfl
 | (apply fs_nil <;> (try simp only [go_sem, resV, resS, zaR, zaO, zaE, St.tmF, zbh, idx, renO, zaP, evS, slot, lookR, zaa, ↓reduceIte, reduceCtorEq, if_true, if_false, zaL, zaM, zab, zac, sLoad, readAt, readNeed, Ints_ren, Ints_length, Ints_getD, and_true, true_and, zaG, zaH]) <;> (try rfl))
 | fail)
  | false =>
    rw [hdup] at hs2
    rw [hsm] at hdup
    simp only [go_sem, zaa, zaj, zak, zal, zan, zag, ↓reduceIte, reduceCtorEq, zad, zaf, zao, zap, zaq, decide_eq_true c, g2, g3, hdup]
    repeat' (first
 | with_reducible refine zai ?_ ?_
 | (unfold OKC; kernel_rfl)
 | (apply okc_up <;> (first | ((repeat (first | exact Sub.nil | apply Sub.gfp | apply Sub.same)); done) | kernel_rfl))
 | (unfold EDG; kernel_rfl)
 | (refine gt_if (fun h => ?_) (fun h => ?_) <;> (try simp only [h]))
 | (refine pt_if (fun h => ?_) (fun h => ?_) <;> (try simp only [h]))
 | (refine cd_if (fun h => ?_) (fun h => ?_) <;> (try simp only [h]))
 | (apply cg_tp
    case hl => rfl
    case ha => (simp only [zab, zac, prepV, prepC, idx, hpL', lookR, zaa, if_true, if_false]; rfl)
    case hs => rfl
    case h => (first | fail))
 | (apply cg_ts
    case hl => rfl
    case ha => (simp only [zab, zac, prepV, prepC, idx, hpL', lookR, zaa, if_true, if_false]; rfl)
    case hs => (simp only [snaps_nil, zat, zau, zaJ, zax, zas, zar, zam]; rfl)
    case h => (first | fail)
    case hf => ((simp only [zae, zah, false_implies, implies_true, and_true, hpL', lookR, zaa, if_true, if_false]) <;> (repeat' apply zai) <;> (first | exact ⟨_, rfl, Ints_isG _⟩ | exact ⟨_, rfl, Cs_isG _⟩ | exact ⟨_, rfl, by simp [zaN]⟩))
    case hg => simp [zaQ, zaK, zaD])
 | (apply cg_any
    case hl => rfl
    case ha => (intro hb; simp only [zab, zac, cnd, hb, if_true, prepV, prepC, idx, hpL', lookR, zaa, if_false]; rfl)
    case hs => (intro hb; simp only [cnd, hb, if_true]; rfl)
    case h => (first | fail))
 | (apply cg_show
    case hl => rfl
    case ha => (intro hb; simp only [zab, zac, cnd, hb, if_true, prepV, prepC, idx, hpL', lookR, zaa, if_false]; rfl)
    case hs => (intro hb; simp only [cnd, hb, if_true, snaps_nil, zat, zau, zaJ, zax, zas, zar, zam]; rfl)
    case h => (first | fail)
    case hf => ((simp only [zae, zah, false_implies, implies_true, and_true, hpL', lookR, zaa, if_true, if_false]) <;> (repeat' apply zai) <;> (first | exact ⟨_, rfl, Ints_isG _⟩ | exact ⟨_, rfl, Cs_isG _⟩ | exact ⟨_, rfl, by simp [zaN]⟩))
    case hg => simp [zaQ, zaK, zaD])
 | (apply cl_plain
    case hs => rfl
    case ha => (simp only [zab, zac, prepV, prepC, idx, hpL', lookR, zaa, if_true, if_false]; rfl)
    case h => (first | fail))
 | (apply cl_show
    case ha => (simp only [zab, zac, prepV, prepC, idx, hpL', lookR, zaa, if_true, if_false]; rfl)
    case hs => ((simp [snaps, zaJ, zax, idx, hpL', lookR]) <;> (repeat' apply zai) <;> (first | exact Ints_isG _ | exact Cs_isG _))
    case h => (first | fail)
    case hg => ((simp [zaQ, zaK, zaD]) <;> (repeat' apply zai) <;> exact Ints_noG _))
 | ((first | refine s1_id ?_ | refine swp_id ?_ | refine sops_id ?_ | refine s2_id ?_); simp only [decide_eq_true c, g2, g3, hdup, go_sem, zaa, zaj, zak, zal, zan, zag, ↓reduceIte, reduceCtorEq, zad, zaf, zao, zap, zaq, zaR, zaO, zaE, zaP, renO, bk, back, outUpsFrom, Ints_ren])
 | (intros; omega)
 | (intros; (try simp only [zaA, zaB, zaz, zay, zav, zaw, decide_eq_true_eq, decide_eq_false_iff_not] at *); omega))
    refine le_mk (m + 1) ?_ ⟨hlt, hs2⟩ (by omega)
    (refine imp_ren _ _ _ [] (by simp) (by simp) (by simp) (zaS rfl) ?_ rfl (by simp only [zae, zah, false_implies, implies_true, and_true, zbh, lookR, zaa, if_true, if_false, ↓reduceIte] <;> (repeat' apply zai) <;> (first | rfl | trivial)) (by simp only [zae, zah, false_implies, implies_true, and_true, true_and, flat_cons, flat_nil, flat_ints, flat_bools, flat_app, zax, and_self, eq_self_iff_true, zam]); simp only [zab, zac, zae, zah, false_implies, implies_true, and_true, lk, slot, zaR, zaE, toN, zaa, if_true, if_false, ↓reduceIte, reduceCtorEq])
    all_goals ((repeat' apply zai) <;> (first | rfl | trivial | (simp only [zaV]; done) | (simp only [zaV]; rfl) | (simp only [zaV]; trivial)))
set_option maxHeartbeats 4000000 in
theorem nd_bs (g : FuncId) (xs : List (Nd)) (id : Int) (hg : ∀ x ∈ xs, FnSpec Try.prog g [.agg (Rec.cs x), i1 id] [] (i1 (cmpv (Nd.i x) id)) []) (cap : Option Nat)
    (hl : xs.length ≤ 4611686018427387904) : FnSpec Try.prog 70 [gr xs cap, i1 id, .one (.fn g [])] [] (.tup [i1 (bsV Nd.i xs id), b1 (bsF Nd.i xs id)]) [] := by
  have hil : (Cs xs).length = xs.length * 6 := Cs_len xs
  refine fnspec_of mixed TT_ok TT_cl ⟨fun _ => false, fun _ => [], 0, fun _ => false, fun _ => false⟩ Try.func70 rfl (by kernel_rfl) rfl 49 rfl [.tmp 6, .tmp 7] rfl ?_
  simp only [go_sem, zaa, zaj, zak, zal, zan, zag, ↓reduceIte, reduceCtorEq, zad, zaf, zao, zap, zaq]
  repeat' (first
 | with_reducible refine zai ?_ ?_
 | (unfold OKC; kernel_rfl)
 | (apply okc_up <;> (first | ((repeat (first | exact Sub.nil | apply Sub.gfp | apply Sub.same)); done) | kernel_rfl))
 | (unfold EDG; kernel_rfl)
 | (refine gt_if (fun h => ?_) (fun h => ?_) <;> (try simp only [h]))
 | (refine pt_if (fun h => ?_) (fun h => ?_) <;> (try simp only [h]))
 | (refine cd_if (fun h => ?_) (fun h => ?_) <;> (try simp only [h]))
 | (apply cg_tp
    case hl => rfl
    case ha => (simp only [zab, zac, prepV, prepC, idx, hpL', lookR, zaa, if_true, if_false]; rfl)
    case hs => rfl
    case h => (first | fail))
 | (apply cg_ts
    case hl => rfl
    case ha => (simp only [zab, zac, prepV, prepC, idx, hpL', lookR, zaa, if_true, if_false]; rfl)
    case hs => (simp only [snaps_nil, zat, zau, zaJ, zax, zas, zar, zam]; rfl)
    case h => (first | fail)
    case hf => ((simp only [zae, zah, false_implies, implies_true, and_true, hpL', lookR, zaa, if_true, if_false]) <;> (repeat' apply zai) <;> (first | exact ⟨_, rfl, Ints_isG _⟩ | exact ⟨_, rfl, Cs_isG _⟩ | exact ⟨_, rfl, by simp [zaN]⟩))
    case hg => simp [zaQ, zaK, zaD])
 | (apply cg_any
    case hl => rfl
    case ha => (intro hb; simp only [zab, zac, cnd, hb, if_true, prepV, prepC, idx, hpL', lookR, zaa, if_false]; rfl)
    case hs => (intro hb; simp only [cnd, hb, if_true]; rfl)
    case h => (first | fail))
 | (apply cg_show
    case hl => rfl
    case ha => (intro hb; simp only [zab, zac, cnd, hb, if_true, prepV, prepC, idx, hpL', lookR, zaa, if_false]; rfl)
    case hs => (intro hb; simp only [cnd, hb, if_true, snaps_nil, zat, zau, zaJ, zax, zas, zar, zam]; rfl)
    case h => (first | fail)
    case hf => ((simp only [zae, zah, false_implies, implies_true, and_true, hpL', lookR, zaa, if_true, if_false]) <;> (repeat' apply zai) <;> (first | exact ⟨_, rfl, Ints_isG _⟩ | exact ⟨_, rfl, Cs_isG _⟩ | exact ⟨_, rfl, by simp [zaN]⟩))
    case hg => simp [zaQ, zaK, zaD])
 | (apply cl_plain
    case hs => rfl
    case ha => (simp only [zab, zac, prepV, prepC, idx, hpL', lookR, zaa, if_true, if_false]; rfl)
    case h => (first | fail))
 | (apply cl_show
    case ha => (simp only [zab, zac, prepV, prepC, idx, hpL', lookR, zaa, if_true, if_false]; rfl)
    case hs => ((simp [snaps, zaJ, zax, idx, hpL', lookR]) <;> (repeat' apply zai) <;> (first | exact Ints_isG _ | exact Cs_isG _))
    case h => (first | fail)
    case hg => ((simp [zaQ, zaK, zaD]) <;> (repeat' apply zai) <;> exact Ints_noG _))
 | ((first | refine s1_id ?_ | refine swp_id ?_ | refine sops_id ?_ | refine s2_id ?_); simp only [go_sem, zaa, zaj, zak, zal, zan, zag, ↓reduceIte, reduceCtorEq, zad, zaf, zao, zap, zaq, zaR, zaO, zaE, zaP, renO, bk, back, outUpsFrom, Ints_ren])
 | (intros; omega)
 | (intros; (try simp only [zaA, zaB, zaz, zay, zav, zaw, decide_eq_true_eq, decide_eq_false_iff_not] at *); omega))
  refine w_loop (ι := Nat × Nat) (fun s => ⟨[(0, gr xs cap), (1, i1 id), (2, .one (.fn g [])), (8, i1 xs.length), (9, i1 s.1), (10, i1 s.2)], [], 0⟩) (fun s => s.1 ≤ s.2 ∧ s.2 ≤ xs.length ∧ bsG (fun i => Nd.i (xs.getD i Rec.z)) id (s.2 - s.1) s.1 s.2 = bsV Nd.i xs id) (fun s => s.2 - s.1) (0, xs.length) ?_ ⟨Nat.zero_le _, zbl _, rfl⟩ ?_
  · (refine imp_ren _ _ _ [] (by simp) (by simp) (by simp) (zaS rfl) ?_ rfl (by simp only [zae, zah, false_implies, implies_true, and_true, zbh, lookR, zaa, if_true, if_false, ↓reduceIte] <;> (repeat' apply zai) <;> (first | rfl | trivial)) (by simp only [zae, zah, false_implies, implies_true, and_true, true_and, flat_cons, flat_nil, flat_ints, flat_bools, flat_app, zax, and_self, eq_self_iff_true, zam]); simp only [zab, zac, zae, zah, false_implies, implies_true, and_true, lk, slot, zaR, zaE, toN, zaa, if_true, if_false, ↓reduceIte, reduceCtorEq])
    all_goals ((repeat' apply zai) <;> (first | rfl | trivial))
  rintro ⟨i, j⟩ ⟨hij, hjl, hb⟩
  simp only at hij hjl hb ⊢
  by_cases hlt : i < j
  · have hlt' : (i : Int) < (j : Int) := by omega
    have hsh : ((i : Int) + j).fdiv (2 ^ min (Int.toNat 1) 64) = (((i + j) / 2 : Nat) : Int) := by
      have e : (2 : Int) ^ min (Int.toNat 1) 64 = 2 := rfl
      rw [e, Int.fdiv_eq_ediv_of_nonneg _ (by omega)]; omega
    obtain ⟨h, hh⟩ : ∃ h, h = (i + j) / 2 := ⟨_, rfl⟩
    rw [← hh] at hsh
    have hhl : h < xs.length := by omega
    have hat : List.take 6 (List.drop (h * 6) (Cs xs)) = Rec.cs (xs.getD h Rec.z) := Cs_td xs h hhl
    have hhi : (h : Int) < (xs.length : Int) := by omega
    have hb' := bsG_fuel (fun i => Nd.i (xs.getD i Rec.z)) id (j - i) (j - i - 1 + 1) i j (zbl _) (by omega)
    rw [hb, bsG, if_pos hlt, ← hh] at hb'
    have hix := hg _ (getD_mem xs h Rec.z hhl)
    obtain ⟨b, hbb⟩ : ∃ b, xs.getD h Rec.z = b := ⟨_, rfl⟩
    rw [hbb] at hat hix hb'
    have hcs : Rec.cs b = [int b.i, int b.p, st b.nm, int b.c, int b.k, int b.o] := rfl
    rw [hcs] at hat hix
    have hcl := cmpv_lt (Nd.i b) id
    by_cases hc : Nd.i b < id
    · rw [if_pos hc] at hb'
      rw [decide_eq_true hc] at hcl
      generalize cmpv (Nd.i b) id = cv at *
      simp only [go_sem, zaa, zaj, zak, zal, zan, zag, ↓reduceIte, reduceCtorEq, zad, zaf, zao, zap, zaq, decide_eq_true hlt', hsh, hat]
      repeat' (first
 | with_reducible refine zai ?_ ?_
 | (unfold OKC; kernel_rfl)
 | (apply okc_up <;> (first | ((repeat (first | exact Sub.nil | apply Sub.gfp | apply Sub.same)); done) | kernel_rfl))
 | (unfold EDG; kernel_rfl)
 | (refine gt_if (fun h => ?_) (fun h => ?_) <;> (try simp only [h]))
 | (refine pt_if (fun h => ?_) (fun h => ?_) <;> (try simp only [h]))
 | (refine cd_if (fun h => ?_) (fun h => ?_) <;> (try simp only [h]))
 | (apply cg_tp
    case hl => rfl
    case ha => (simp only [zab, zac, prepV, prepC, idx, hpL', lookR, zaa, if_true, if_false]; rfl)
    case hs => rfl
    case h => (first | exact hix ..))
 | (apply cg_ts
    case hl => rfl
    case ha => (simp only [zab, zac, prepV, prepC, idx, hpL', lookR, zaa, if_true, if_false]; rfl)
    case hs => (simp only [snaps_nil, zat, zau, zaJ, zax, zas, zar, zam]; rfl)
    case h => (first | exact hix ..)
    case hf => ((simp only [zae, zah, false_implies, implies_true, and_true, hpL', lookR, zaa, if_true, if_false]) <;> (repeat' apply zai) <;> (first | exact ⟨_, rfl, Ints_isG _⟩ | exact ⟨_, rfl, Cs_isG _⟩ | exact ⟨_, rfl, by simp [zaN]⟩))
    case hg => simp [zaQ, zaK, zaD])
 | (apply cg_any
    case hl => rfl
    case ha => (intro hb; simp only [zab, zac, cnd, hb, if_true, prepV, prepC, idx, hpL', lookR, zaa, if_false]; rfl)
    case hs => (intro hb; simp only [cnd, hb, if_true]; rfl)
    case h => (first | exact hix ..))
 | (apply cg_show
    case hl => rfl
    case ha => (intro hb; simp only [zab, zac, cnd, hb, if_true, prepV, prepC, idx, hpL', lookR, zaa, if_false]; rfl)
    case hs => (intro hb; simp only [cnd, hb, if_true, snaps_nil, zat, zau, zaJ, zax, zas, zar, zam]; rfl)
    case h => (first | exact hix ..)
    case hf => ((simp only [zae, zah, false_implies, implies_true, and_true, hpL', lookR, zaa, if_true, if_false]) <;> (repeat' apply zai) <;> (first | exact ⟨_, rfl, Ints_isG _⟩ | exact ⟨_, rfl, Cs_isG _⟩ | exact ⟨_, rfl, by simp [zaN]⟩))
    case hg => simp [zaQ, zaK, zaD])
 | (apply cl_plain
    case hs => rfl
    case ha => (simp only [zab, zac, prepV, prepC, idx, hpL', lookR, zaa, if_true, if_false]; rfl)
    case h => (first | exact hix ..))
 | (apply cl_show
    case ha => (simp only [zab, zac, prepV, prepC, idx, hpL', lookR, zaa, if_true, if_false]; rfl)
    case hs => ((simp [snaps, zaJ, zax, idx, hpL', lookR]) <;> (repeat' apply zai) <;> (first | exact Ints_isG _ | exact Cs_isG _))
    case h => (first | exact hix ..)
    case hg => ((simp [zaQ, zaK, zaD]) <;> (repeat' apply zai) <;> exact Ints_noG _))
 | ((first | refine s1_id ?_ | refine swp_id ?_ | refine sops_id ?_ | refine s2_id ?_); simp only [decide_eq_true hlt', hsh, hat, hcl, go_sem, zaa, zaj, zak, zal, zan, zag, ↓reduceIte, reduceCtorEq, zad, zaf, zao, zap, zaq, zaR, zaO, zaE, zaP, renO, bk, back, outUpsFrom, Ints_ren])
 | (intros; omega)
 | (intros; (try simp only [zaA, zaB, zaz, zay, zav, zaw, decide_eq_true_eq, decide_eq_false_iff_not] at *); omega))
      refine le_mk (h + 1, j) ?_ ⟨by show h + 1 ≤ j; omega, hjl, by show bsG _ id (j - (h + 1)) (h + 1) j = bsV Nd.i xs id; rw [hb']; exact bsG_fuel _ id _ _ _ _ (zbl _) (by omega)⟩ (by show j - (h + 1) < j - i; omega)
      (refine imp_ren _ _ _ [] (by simp) (by simp) (by simp) (zaS rfl) ?_ rfl (by simp only [zae, zah, false_implies, implies_true, and_true, zbh, lookR, zaa, if_true, if_false, ↓reduceIte] <;> (repeat' apply zai) <;> (first | rfl | trivial)) (by simp only [zae, zah, false_implies, implies_true, and_true, true_and, flat_cons, flat_nil, flat_ints, flat_bools, flat_app, zax, and_self, eq_self_iff_true, zam]); simp only [zab, zac, zae, zah, false_implies, implies_true, and_true, lk, slot, zaR, zaE, toN, zaa, if_true, if_false, ↓reduceIte, reduceCtorEq])
      all_goals ((repeat' apply zai) <;> (first | rfl | trivial | (simp only [zaV]; done) | (simp only [zaV]; rfl) | (simp only [zaV]; trivial)))
    · rw [if_neg hc] at hb'
      rw [decide_eq_false hc] at hcl
      generalize cmpv (Nd.i b) id = cv at *
      simp only [go_sem, zaa, zaj, zak, zal, zan, zag, ↓reduceIte, reduceCtorEq, zad, zaf, zao, zap, zaq, decide_eq_true hlt', hsh, hat]
      repeat' (first
 | with_reducible refine zai ?_ ?_
 | (unfold OKC; kernel_rfl)
 | (apply okc_up <;> (first | ((repeat (first | exact Sub.nil | apply Sub.gfp | apply Sub.same)); done) | kernel_rfl))
 | (unfold EDG; kernel_rfl)
 | (refine gt_if (fun h => ?_) (fun h => ?_) <;> (try simp only [h]))
 | (refine pt_if (fun h => ?_) (fun h => ?_) <;> (try simp only [h]))
 | (refine cd_if (fun h => ?_) (fun h => ?_) <;> (try simp only [h]))
 | (apply cg_tp
    case hl => rfl
    case ha => (simp only [zab, zac, prepV, prepC, idx, hpL', lookR, zaa, if_true, if_false]; rfl)
    case hs => rfl
    case h => (first | exact hix ..))
 | (apply cg_ts
    case hl => rfl
    case ha => (simp only [zab, zac, prepV, prepC, idx, hpL', lookR, zaa, if_true, if_false]; rfl)
    case hs => (simp only [snaps_nil, zat, zau, zaJ, zax, zas, zar, zam]; rfl)
    case h => (first | exact hix ..)
    case hf => ((simp only [zae, zah, false_implies, implies_true, and_true, hpL', lookR, zaa, if_true, if_false]) <;> (repeat' apply zai) <;> (first | exact ⟨_, rfl, Ints_isG _⟩ | exact ⟨_, rfl, Cs_isG _⟩ | exact ⟨_, rfl, by simp [zaN]⟩))
    case hg => simp [zaQ, zaK, zaD])
 | (apply cg_any
    case hl => rfl
    case ha => (intro hb; simp only [zab, zac, cnd, hb, if_true, prepV, prepC, idx, hpL', lookR, zaa, if_false]; rfl)
    case hs => (intro hb; simp only [cnd, hb, if_true]; rfl)
    case h => (first | exact hix ..))
 | (apply cg_show
    case hl => rfl
    case ha => (intro hb; simp only [zab, zac, cnd, hb, if_true, prepV, prepC, idx, hpL', lookR, zaa, if_false]; rfl)
    case hs => (intro hb; simp only [cnd, hb, if_true, snaps_nil, zat, zau, zaJ, zax, zas, zar, zam]; rfl)
    case h => (first | exact hix ..)
    case hf => ((simp only [zae, zah, false_implies, implies_true, and_true, hpL', lookR, zaa, if_true, if_false]) <;> (repeat' apply zai) <;> (first | exact ⟨_, rfl, Ints_isG _⟩ | exact ⟨_, rfl, Cs_isG _⟩ | exact ⟨_, rfl, by simp [zaN]⟩))
    case hg => simp [zaQ, zaK, zaD])
 | (apply cl_plain
    case hs => rfl
    case ha => (simp only [zab, zac, prepV, prepC, idx, hpL', lookR, zaa, if_true, if_false]; rfl)
    case h => (first | exact hix ..))
 | (apply cl_show
    case ha => (simp only [zab, zac, prepV, prepC, idx, hpL', lookR, zaa, if_true, if_false]; rfl)
    case hs => ((simp [snaps, zaJ, zax, idx, hpL', lookR]) <;> (repeat' apply zai) <;> (first | exact Ints_isG _ | exact Cs_isG _))
    case h => (first | exact hix ..)
    case hg => ((simp [zaQ, zaK, zaD]) <;> (repeat' apply zai) <;> exact Ints_noG _))
 | ((first | refine s1_id ?_ | refine swp_id ?_ | refine sops_id ?_ | refine s2_id ?_); simp only [decide_eq_true hlt', hsh, hat, hcl, go_sem, zaa, zaj, zak, zal, zan, zag, ↓reduceIte, reduceCtorEq, zad, zaf, zao, zap, zaq, zaR, zaO, zaE, zaP, renO, bk, back, outUpsFrom, Ints_ren])
 | (intros; omega)
 | (intros; (try simp only [zaA, zaB, zaz, zay, zav, zaw, decide_eq_true_eq, decide_eq_false_iff_not] at *); omega))
      refine le_mk (i, h) ?_ ⟨by show i ≤ h; omega, by show h ≤ xs.length; omega, by show bsG _ id (h - i) i h = bsV Nd.i xs id; rw [hb']; exact bsG_fuel _ id _ _ _ _ (zbl _) (by omega)⟩ (by show h - i < j - i; omega)
      (refine imp_ren _ _ _ [] (by simp) (by simp) (by simp) (zaS rfl) ?_ rfl (by simp only [zae, zah, false_implies, implies_true, and_true, zbh, lookR, zaa, if_true, if_false, ↓reduceIte] <;> (repeat' apply zai) <;> (first | rfl | trivial)) (by simp only [zae, zah, false_implies, implies_true, and_true, true_and, flat_cons, flat_nil, flat_ints, flat_bools, flat_app, zax, and_self, eq_self_iff_true, zam]); simp only [zab, zac, zae, zah, false_implies, implies_true, and_true, lk, slot, zaR, zaE, toN, zaa, if_true, if_false, ↓reduceIte, reduceCtorEq])
      all_goals ((repeat' apply zai) <;> (first | rfl | trivial))
  · have hlt' : ¬ (i : Int) < (j : Int) := by omega
    have hi : i = bsV Nd.i xs id := by
      have e : j - i = 0 := by omega
      rw [e] at hb
      exact hb
    subst hi
    unfold bsF
    by_cases hin : bsV Nd.i xs id < xs.length
    · have hin' : ((bsV Nd.i xs id : Nat) : Int) < (xs.length : Int) := by omega
      have hat : List.take 6 (List.drop (bsV Nd.i xs id * 6) (Cs xs)) = Rec.cs (xs.getD (bsV Nd.i xs id) Rec.z) := Cs_td xs _ hin
      have hix := hg _ (getD_mem xs (bsV Nd.i xs id) Rec.z hin)
      rw [decide_eq_true hin, zbo]
      obtain ⟨b, hbb⟩ : ∃ b, xs.getD (bsV Nd.i xs id) Rec.z = b := ⟨_, rfl⟩
      rw [hbb] at hat hix ⊢
      have hcs : Rec.cs b = [int b.i, int b.p, st b.nm, int b.c, int b.k, int b.o] := rfl
      rw [hcs] at hat hix
      have hce := cmpv_eq (Nd.i b) id
      generalize cmpv (Nd.i b) id = cv at *
      generalize bsV Nd.i xs id = v at *
      simp only [go_sem, zaa, zaj, zak, zal, zan, zag, ↓reduceIte, reduceCtorEq, zad, zaf, zao, zap, zaq, decide_eq_false hlt', decide_eq_true hin', hat]
      repeat' (first
 | with_reducible refine zai ?_ ?_
 | (unfold OKC; kernel_rfl)
 | (apply okc_up <;> (first | ((repeat (first | exact Sub.nil | apply Sub.gfp | apply Sub.same)); done) | kernel_rfl))
 | (unfold EDG; kernel_rfl)
 | (refine gt_if (fun h => ?_) (fun h => ?_) <;> (try simp only [h]))
 | (refine pt_if (fun h => ?_) (fun h => ?_) <;> (try simp only [h]))
 | (refine cd_if (fun h => ?_) (fun h => ?_) <;> (try simp only [h]))
 | (apply cg_tp
    case hl => rfl
    case ha => (simp only [zab, zac, prepV, prepC, idx, hpL', lookR, zaa, if_true, if_false]; rfl)
    case hs => rfl
    case h => (first | exact hix ..))
 | (apply cg_ts
    case hl => rfl
    case ha => (simp only [zab, zac, prepV, prepC, idx, hpL', lookR, zaa, if_true, if_false]; rfl)
    case hs => (simp only [snaps_nil, zat, zau, zaJ, zax, zas, zar, zam]; rfl)
    case h => (first | exact hix ..)
    case hf => ((simp only [zae, zah, false_implies, implies_true, and_true, hpL', lookR, zaa, if_true, if_false]) <;> (repeat' apply zai) <;> (first | exact ⟨_, rfl, Ints_isG _⟩ | exact ⟨_, rfl, Cs_isG _⟩ | exact ⟨_, rfl, by simp [zaN]⟩))
    case hg => simp [zaQ, zaK, zaD])
 | (apply cg_any
    case hl => rfl
    case ha => (intro hb; simp only [zab, zac, cnd, hb, if_true, prepV, prepC, idx, hpL', lookR, zaa, if_false]; rfl)
    case hs => (intro hb; simp only [cnd, hb, if_true]; rfl)
    case h => (first | exact hix ..))
 | (apply cg_show
    case hl => rfl
    case ha => (intro hb; simp only [zab, zac, cnd, hb, if_true, prepV, prepC, idx, hpL', lookR, zaa, if_false]; rfl)
    case hs => (intro hb; simp only [cnd, hb, if_true, snaps_nil, zat, zau, zaJ, zax, zas, zar, zam]; rfl)
    case h => (first | exact hix ..)
    case hf => ((simp only [zae, zah, false_implies, implies_true, and_true, hpL', lookR, zaa, if_true, if_false]) <;> (repeat' apply zai) <;> (first | exact ⟨_, rfl, Ints_isG _⟩ | exact ⟨_, rfl, Cs_isG _⟩ | exact ⟨_, rfl, by simp [zaN]⟩))
    case hg => simp [zaQ, zaK, zaD])
 | (apply cl_plain
    case hs => rfl
    case ha => (simp only [zab, zac, prepV, prepC, idx, hpL', lookR, zaa, if_true, if_false]; rfl)
    case h => (first | exact hix ..))
 | (apply cl_show
    case ha => (simp only [zab, zac, prepV, prepC, idx, hpL', lookR, zaa, if_true, if_false]; rfl)
    case hs => ((simp [snaps, zaJ, zax, idx, hpL', lookR]) <;> (repeat' apply zai) <;> (first | exact Ints_isG _ | exact Cs_isG _))
    case h => (first | exact hix ..)
    case hg => ((simp [zaQ, zaK, zaD]) <;> (repeat' apply zai) <;> exact Ints_noG _))
 | ((first | refine s1_id ?_ | refine swp_id ?_ | refine sops_id ?_ | refine s2_id ?_); simp only [decide_eq_false hlt', decide_eq_true hin', hat, hce, go_sem, zaa, zaj, zak, zal, zan, zag, ↓reduceIte, reduceCtorEq, zad, zaf, zao, zap, zaq, zaR, zaO, zaE, zaP, renO, bk, back, outUpsFrom, Ints_ren])
 | (intros; omega)
 | (intros; (try simp only [zaA, zaB, zaz, zay, zav, zaw, decide_eq_true_eq, decide_eq_false_iff_not] at *); omega)
 | exact fs_nil trivial rfl
 | (apply fs_nil <;> (try simp only [go_sem, resV, resS, zaR, zaO, zaE, St.tmF, zbh, idx, renO, zaP, evS, slot, lookR, zaa, ↓reduceIte, reduceCtorEq, if_true, if_false, zaL, zaM, zab, zac, sLoad, readAt, readNeed, Ints_ren, Ints_length, Ints_getD, and_true, true_and, zaG, zaH]) <;> (try rfl))
 | fail)
    · have hin' : ¬ ((bsV Nd.i xs id : Nat) : Int) < (xs.length : Int) := by omega
      rw [decide_eq_false hin, Bool.false_and]
      generalize bsV Nd.i xs id = v at *
      simp only [go_sem, zaa, zaj, zak, zal, zan, zag, ↓reduceIte, reduceCtorEq, zad, zaf, zao, zap, zaq, decide_eq_false hlt', decide_eq_false hin']
      repeat' (first
 | with_reducible refine zai ?_ ?_
 | (unfold OKC; kernel_rfl)
 | (apply okc_up <;> (first | ((repeat (first | exact Sub.nil | apply Sub.gfp | apply Sub.same)); done) | kernel_rfl))
 | (unfold EDG; kernel_rfl)
 | (refine gt_if (fun h => ?_) (fun h => ?_) <;> (try simp only [h]))
 | (refine pt_if (fun h => ?_) (fun h => ?_) <;> (try simp only [h]))
 | (refine cd_if (fun h => ?_) (fun h => ?_) <;> (try simp only [h]))
 | (apply cg_tp
    case hl => rfl
    case ha => (simp only [zab, zac, prepV, prepC, idx, hpL', lookR, zaa, if_true, if_false]; rfl)
    case hs => rfl
    case h => (first | fail))
 | (apply cg_ts
    case hl => rfl
    case ha => (simp only [zab, zac, prepV, prepC, idx, hpL', lookR, zaa, if_true, if_false]; rfl)
    case hs => (simp only [snaps_nil, zat, zau, zaJ, zax, zas, zar, zam]; rfl)
    case h => (first | fail)
    case hf => ((simp only [zae, zah, false_implies, implies_true, and_true, hpL', lookR, zaa, if_true, if_false]) <;> (repeat' apply zai) <;> (first | exact ⟨_, rfl, Ints_isG _⟩ | exact ⟨_, rfl, Cs_isG _⟩ | exact ⟨_, rfl, by simp [zaN]⟩))
    case hg => simp [zaQ, zaK, zaD])
 | (apply cg_any
    case hl => rfl
    case ha => (intro hb; simp only [zab, zac, cnd, hb, if_true, prepV, prepC, idx, hpL', lookR, zaa, if_false]; rfl)
    case hs => (intro hb; simp only [cnd, hb, if_true]; rfl)
    case h => (first | fail))
 | (apply cg_show
    case hl => rfl
    case ha => (intro hb; simp only [zab, zac, cnd, hb, if_true, prepV, prepC, idx, hpL', lookR, zaa, if_false]; rfl)
    case hs => (intro hb; simp only [cnd, hb, if_true, snaps_nil, zat, zau, zaJ, zax, zas, zar, zam]; rfl)
    case h => (first | fail)
    case hf => ((simp only [zae, zah, false_implies, implies_true, and_true, hpL', lookR, zaa, if_true, if_false]) <;> (repeat' apply zai) <;> (first | exact ⟨_, rfl, Ints_isG _⟩ | exact ⟨_, rfl, Cs_isG _⟩ | exact ⟨_, rfl, by simp [zaN]⟩))
    case hg => simp [zaQ, zaK, zaD])
 | (apply cl_plain
    case hs => rfl
    case ha => (simp only [zab, zac, prepV, prepC, idx, hpL', lookR, zaa, if_true, if_false]; rfl)
    case h => (first | fail))
 | (apply cl_show
    case ha => (simp only [zab, zac, prepV, prepC, idx, hpL', lookR, zaa, if_true, if_false]; rfl)
    case hs => ((simp [snaps, zaJ, zax, idx, hpL', lookR]) <;> (repeat' apply zai) <;> (first | exact Ints_isG _ | exact Cs_isG _))
    case h => (first | fail)
    case hg => ((simp [zaQ, zaK, zaD]) <;> (repeat' apply zai) <;> exact Ints_noG _))
 | ((first | refine s1_id ?_ | refine swp_id ?_ | refine sops_id ?_ | refine s2_id ?_); simp only [decide_eq_false hlt', decide_eq_false hin', go_sem, zaa, zaj, zak, zal, zan, zag, ↓reduceIte, reduceCtorEq, zad, zaf, zao, zap, zaq, zaR, zaO, zaE, zaP, renO, bk, back, outUpsFrom, Ints_ren])
 | (intros; omega)
 | (intros; (try simp only [zaA, zaB, zaz, zay, zav, zaw, decide_eq_true_eq, decide_eq_false_iff_not] at *); omega)
 | exact fs_nil trivial rfl
 | (apply fs_nil <;> (try simp only [go_sem, resV, resS, zaR, zaO, zaE, St.tmF, zbh, idx, renO, zaP, evS, slot, lookR, zaa, ↓reduceIte, reduceCtorEq, if_true, if_false, zaL, zaM, zab, zac, sLoad, readAt, readNeed, Ints_ren, Ints_length, Ints_getD, and_true, true_and, zaG, zaH]) <;> (try rfl))
 | fail)
theorem tix_spec (x : Nd) (id : Int) : FnSpec Try.prog 73 [.agg (Rec.cs x), i1 id] [] (i1 (cmpv (Nd.i x) id)) [] := by
  show FnSpec Try.prog 73 [.agg (ndc x), i1 id] [] (i1 (cmpv (Nd.i x) id)) []
  obtain ⟨xi, xp, xn, xc, xk, xo⟩ := x
  simp only [ndc]
  have h1 := cmp_spec xi id
  refine fnspec_of mixed TT_ok TT_cl ⟨fun _ => false, fun _ => [], 0, fun _ => false, fun _ => false⟩ Try.func73 rfl (by kernel_rfl) rfl 9 rfl [.tmp 4] rfl ?_
  simp only [go_sem, zaa, zaj, zak, zal, zan, zag, ↓reduceIte, reduceCtorEq, zad, zaf, zao, zap, zaq]
  repeat' (first
 | with_reducible refine zai ?_ ?_
 | (unfold OKC; kernel_rfl)
 | (apply okc_up <;> (first | ((repeat (first | exact Sub.nil | apply Sub.gfp | apply Sub.same)); done) | kernel_rfl))
 | (unfold EDG; kernel_rfl)
 | (refine gt_if (fun h => ?_) (fun h => ?_) <;> (try simp only [h]))
 | (refine pt_if (fun h => ?_) (fun h => ?_) <;> (try simp only [h]))
 | (refine cd_if (fun h => ?_) (fun h => ?_) <;> (try simp only [h]))
 | (apply cg_tp
    case hl => rfl
    case ha => (simp only [zab, zac, prepV, prepC, idx, hpL', lookR, zaa, if_true, if_false]; rfl)
    case hs => rfl
    case h => (first | exact h1 ..))
 | (apply cg_ts
    case hl => rfl
    case ha => (simp only [zab, zac, prepV, prepC, idx, hpL', lookR, zaa, if_true, if_false]; rfl)
    case hs => (simp only [snaps_nil, zat, zau, zaJ, zax, zas, zar, zam]; rfl)
    case h => (first | exact h1 ..)
    case hf => ((simp only [zae, zah, false_implies, implies_true, and_true, hpL', lookR, zaa, if_true, if_false]) <;> (repeat' apply zai) <;> (first | exact ⟨_, rfl, Ints_isG _⟩ | exact ⟨_, rfl, Cs_isG _⟩ | exact ⟨_, rfl, by simp [zaN]⟩))
    case hg => simp [zaQ, zaK, zaD])
 | (apply cg_any
    case hl => rfl
    case ha => (intro hb; simp only [zab, zac, cnd, hb, if_true, prepV, prepC, idx, hpL', lookR, zaa, if_false]; rfl)
    case hs => (intro hb; simp only [cnd, hb, if_true]; rfl)
    case h => (first | exact h1 ..))
 | (apply cg_show
    case hl => rfl
    case ha => (intro hb; simp only [zab, zac, cnd, hb, if_true, prepV, prepC, idx, hpL', lookR, zaa, if_false]; rfl)
    case hs => (intro hb; simp only [cnd, hb, if_true, snaps_nil, zat, zau, zaJ, zax, zas, zar, zam]; rfl)
    case h => (first | exact h1 ..)
    case hf => ((simp only [zae, zah, false_implies, implies_true, and_true, hpL', lookR, zaa, if_true, if_false]) <;> (repeat' apply zai) <;> (first | exact ⟨_, rfl, Ints_isG _⟩ | exact ⟨_, rfl, Cs_isG _⟩ | exact ⟨_, rfl, by simp [zaN]⟩))
    case hg => simp [zaQ, zaK, zaD])
 | (apply cl_plain
    case hs => rfl
    case ha => (simp only [zab, zac, prepV, prepC, idx, hpL', lookR, zaa, if_true, if_false]; rfl)
    case h => (first | exact h1 ..))
 | (apply cl_show
    case ha => (simp only [zab, zac, prepV, prepC, idx, hpL', lookR, zaa, if_true, if_false]; rfl)
    case hs => ((simp [snaps, zaJ, zax, idx, hpL', lookR]) <;> (repeat' apply zai) <;> (first | exact Ints_isG _ | exact Cs_isG _))
    case h => (first | exact h1 ..)
    case hg => ((simp [zaQ, zaK, zaD]) <;> (repeat' apply zai) <;> exact Ints_noG _))
 | ((first | refine s1_id ?_ | refine swp_id ?_ | refine sops_id ?_ | refine s2_id ?_); simp only [zbc, zbd, zam, zar, zas, zba, zbb, zaX, zbg, zbj, zaI, zbf, go_sem, zaa, zaj, zak, zal, zan, zag, ↓reduceIte, reduceCtorEq, zad, zaf, zao, zap, zaq, zaR, zaO, zaE, zaP, renO, bk, back, outUpsFrom, Ints_ren])
 | (intros; omega)
 | (intros; (try simp only [zaA, zaB, zaz, zay, zav, zaw, decide_eq_true_eq, decide_eq_false_iff_not] at *); omega)
 | exact fs_nil trivial rfl
 | (apply fs_nil <;> (try simp only [go_sem, resV, resS, zaR, zaO, zaE, St.tmF, zbh, idx, renO, zaP, evS, slot, lookR, zaa, ↓reduceIte, reduceCtorEq, if_true, if_false, zaL, zaM, zab, zac, sLoad, readAt, readNeed, Ints_ren, Ints_length, Ints_getD, and_true, true_and, zaG, zaH]) <;> (try rfl))
 | fail)
theorem index_spec (l : List Nd) (k : Option Nat) (id : Int) (hl : l.length ≤ 1000000) : FnSpec Try.prog 60 [gr l k, i1 id] [] (.tup [i1 (bsV Nd.i l id), b1 (bsF Nd.i l id)]) [] := by
  have h1 := nd_bs 73 l id (fun x _ => tix_spec x id) k (by omega)
  refine fnspec_of mixed TT_ok TT_cl ⟨fun _ => false, fun _ => [], 0, fun _ => false, fun _ => false⟩ Try.func60 rfl (by kernel_rfl) rfl 11 rfl [.tmp 4, .tmp 5] rfl ?_
  simp only [go_sem, zaa, zaj, zak, zal, zan, zag, ↓reduceIte, reduceCtorEq, zad, zaf, zao, zap, zaq]
  repeat' (first
 | with_reducible refine zai ?_ ?_
 | (unfold OKC; kernel_rfl)
 | (apply okc_up <;> (first | ((repeat (first | exact Sub.nil | apply Sub.gfp | apply Sub.same)); done) | kernel_rfl))
 | (unfold EDG; kernel_rfl)
 | (refine gt_if (fun h => ?_) (fun h => ?_) <;> (try simp only [h]))
 | (refine pt_if (fun h => ?_) (fun h => ?_) <;> (try simp only [h]))
 | (refine cd_if (fun h => ?_) (fun h => ?_) <;> (try simp only [h]))
 | (apply cg_tp
    case hl => rfl
    case ha => (simp only [zab, zac, prepV, prepC, idx, hpL', lookR, zaa, if_true, if_false]; rfl)
    case hs => rfl
    case h => (first | exact h1 ..))
 | (apply cg_ts
    case hl => rfl
    case ha => (simp only [zab, zac, prepV, prepC, idx, hpL', lookR, zaa, if_true, if_false]; rfl)
    case hs => (simp only [snaps_nil, zat, zau, zaJ, zax, zas, zar, zam]; rfl)
    case h => (first | exact h1 ..)
    case hf => ((simp only [zae, zah, false_implies, implies_true, and_true, hpL', lookR, zaa, if_true, if_false]) <;> (repeat' apply zai) <;> (first | exact ⟨_, rfl, Ints_isG _⟩ | exact ⟨_, rfl, Cs_isG _⟩ | exact ⟨_, rfl, by simp [zaN]⟩))
    case hg => simp [zaQ, zaK, zaD])
 | (apply cg_any
    case hl => rfl
    case ha => (intro hb; simp only [zab, zac, cnd, hb, if_true, prepV, prepC, idx, hpL', lookR, zaa, if_false]; rfl)
    case hs => (intro hb; simp only [cnd, hb, if_true]; rfl)
    case h => (first | exact h1 ..))
 | (apply cg_show
    case hl => rfl
    case ha => (intro hb; simp only [zab, zac, cnd, hb, if_true, prepV, prepC, idx, hpL', lookR, zaa, if_false]; rfl)
    case hs => (intro hb; simp only [cnd, hb, if_true, snaps_nil, zat, zau, zaJ, zax, zas, zar, zam]; rfl)
    case h => (first | exact h1 ..)
    case hf => ((simp only [zae, zah, false_implies, implies_true, and_true, hpL', lookR, zaa, if_true, if_false]) <;> (repeat' apply zai) <;> (first | exact ⟨_, rfl, Ints_isG _⟩ | exact ⟨_, rfl, Cs_isG _⟩ | exact ⟨_, rfl, by simp [zaN]⟩))
    case hg => simp [zaQ, zaK, zaD])
 | (apply cl_plain
    case hs => rfl
    case ha => (simp only [zab, zac, prepV, prepC, idx, hpL', lookR, zaa, if_true, if_false]; rfl)
    case h => (first | exact h1 ..))
 | (apply cl_show
    case ha => (simp only [zab, zac, prepV, prepC, idx, hpL', lookR, zaa, if_true, if_false]; rfl)
    case hs => ((simp [snaps, zaJ, zax, idx, hpL', lookR]) <;> (repeat' apply zai) <;> (first | exact Ints_isG _ | exact Cs_isG _))
    case h => (first | exact h1 ..)
    case hg => ((simp [zaQ, zaK, zaD]) <;> (repeat' apply zai) <;> exact Ints_noG _))
 | ((first | refine s1_id ?_ | refine swp_id ?_ | refine sops_id ?_ | refine s2_id ?_); simp only [go_sem, zaa, zaj, zak, zal, zan, zag, ↓reduceIte, reduceCtorEq, zad, zaf, zao, zap, zaq, zaR, zaO, zaE, zaP, renO, bk, back, outUpsFrom, Ints_ren])
 | (intros; omega)
 | (intros; (try simp only [zaA, zaB, zaz, zay, zav, zaw, decide_eq_true_eq, decide_eq_false_iff_not] at *); omega)
 | exact fs_nil trivial rfl
 | (apply fs_nil <;> (try simp only [go_sem, resV, resS, zaR, zaO, zaE, St.tmF, zbh, idx, renO, zaP, evS, slot, lookR, zaa, ↓reduceIte, reduceCtorEq, if_true, if_false, zaL, zaM, zab, zac, sLoad, readAt, readNeed, Ints_ren, Ints_length, Ints_getD, and_true, true_and, zaG, zaH]) <;> (try rfl))
 | fail)
end Go.Proofs.Ytlajelbiniakpaa
-- NEWGO
-- PRUNE: cl_lendx cl_use cl_lend
-- ISG: Cs_isG
-- FLAT: Cs_flat
namespace Go.Proofs.Ytlajelbiniakpaa
set_option linter.unusedVariables false
set_option linter.unusedSimpArgs false
open Go.Proofs.Ytlajelbiniakpaa.Sh
set_option maxRecDepth 20000
structure CkI (l : List Nd) (m : Nat) : Prop where
  le : m ≤ l.length
  p1 : 1 ≤ m
  st : ∀ i, i < m → stOk l i = true
  dp : ∀ i, i < m → (upL (l.take (i + 1)) (gN l i).i).length ≤ 9
theorem CkI.asc {l : List Nd} {m : Nat} (h : CkI l m) : AscI (l.take m) := by
  refine asc_of_step fun i h0 hi => ?_
  rw [zaT] at hi
  rw [gN_take l m _ (by omega), gN_take l m i (by omega)]
  have hle := h.le
  exact (stOk_ch (by omega) h0 (h.st i (by omega))).lt
def dps (l : List Nd) (m : Nat) : List Int := (List.range 64).map fun i => if i < m then (((upL (l.take (i + 1)) (gN l i).i).length : Int) - 1) else 0
theorem dps_len (l : List Nd) (m : Nat) : (dps l m).length = 64 := by simp [dps]
theorem dps_at (l : List Nd) (m i : Nat) (hi : i < 64) : (dps l m).getD i 0 = if i < m then (((upL (l.take (i + 1)) (gN l i).i).length : Int) - 1) else 0 := by
  simp [dps, List.getD_eq_getElem?_getD, hi]
theorem dps_set (l : List Nd) (m : Nat) (hm : m < 64) : (dps l m).set m (((upL (l.take (m + 1)) (gN l m).i).length : Int) - 1) = dps l (m + 1) := by
  apply List.ext_getElem?
  intro i
  by_cases hi : i < 64
  · rw [List.getElem?_set]
    by_cases e : m = i
    · subst e
      simp [dps, hm]
    · rw [if_neg e]
      simp only [dps, List.getElem?_map, List.getElem?_range hi, Option.map_some]
      congr 1
      by_cases c : i < m
      · rw [if_pos c, if_pos (by omega)]
      · rw [if_neg c, if_neg (by omega)]
  · rw [List.getElem?_eq_none (by rw [List.length_set, dps_len]; omega), List.getElem?_eq_none (by rw [dps_len]; omega)]
theorem up_next {l : List Nd} {m j : Nat} (hA : AscI (l.take m)) (hm : m < l.length) (hj : j < m) (e : (gN l j).i = (gN l m).p) : (upL (l.take (m + 1)) (gN l m).i).length = (upL (l.take (j + 1)) (gN l j).i).length + 1 := by
  rw [upL_take l m hm, if_pos rfl, zaI, ← e]
  congr 2
  have h1 := upL_skip (l.take m) (gN l j).i (j + 1) (by rw [zaT]; omega) (fun k hk hk2 => by
    rw [zaT] at hk2
    have := hA j k (by omega) (by rw [zaT]; omega)
    rw [gN_take l m j hj, gN_take l m k (by omega)] at this
    rw [gN_take l m k (by omega)]; omega)
  rw [h1, List.take_take, Nat.min_eq_left (by omega)]
theorem up_takeA {l : List Nd} (hA : AscI l) {i : Nat} (hi : i < l.length) : upL (l.take (i + 1)) (gN l i).i = upL l (gN l i).i := by
  rw [upL_node hA hi, upL_take l i hi, if_pos rfl]
theorem index_take (l : List Nd) (k : Option Nat) (m : Nat) (id : Int) (hm : m ≤ l.length) (hl : l.length ≤ 1000000) : FnSpec Try.prog 60 [.one (.gsl (Cs l) 0 m k), i1 id] [] (.tup [i1 (bsV Nd.i (l.take m) id), b1 (bsF Nd.i (l.take m) id)]) [] := by
  have h1 := index_spec (l.take m) k id (by rw [zaT]; omega)
  have e : (l.take m).length = m := by rw [zaT]; omega
  simp only [gr, e, ← Cs_take] at h1
  exact h1.pre ⟨cw_take _ _ _ _ _, cw_rfl _, trivial⟩
theorem taken_take (l : List Nd) (k : Option Nat) (m : Nat) (p : Int) (s : Str) (hm : m ≤ l.length) (hl : l.length ≤ 1000000) : FnSpec Try.prog 69 [.one (.gsl (Cs l) 0 m k), i1 p, s1 s] [] (b1 ((l.take m).any (same1 p s))) [] := by
  have h1 := taken_spec (l.take m) k p s (by rw [zaT]; omega)
  have e : (l.take m).length = m := by rw [zaT]; omega
  simp only [gr, e, ← Cs_take] at h1
  exact h1.pre ⟨cw_take _ _ _ _ _, cw_rfl _, cw_rfl _, trivial⟩
set_option maxHeartbeats 16000000 in
theorem tchk_spec (l : List Nd) (n : Int) (hl : l.length ≤ 1000000) (hnm : NmR l) (hct : CtR l) : FnSpec Try.prog 52 [trV l none n] [] (b1 (chkT l n)) [] := by
  have hnl := nd_len l
  by_cases h1 : (l.length : Int) < 1
  · rw [chkT_not fun h => by have := h.ne; omega]
    refine fnspec_of mixed TT_ok TT_cl ⟨fun _ => false, fun _ => [], 0, fun _ => false, fun _ => false⟩ Try.func52 rfl (by kernel_rfl) rfl 108 rfl [.tmp 2] rfl ?_
    simp only [go_sem, zaa, zaj, zak, zal, zan, zag, ↓reduceIte, reduceCtorEq, zad, zaf, zao, zap, zaq, decide_eq_true h1]
    repeat' (first
 | exact fs_nil trivial rfl
 | fail)
  by_cases h64 : 64 < (l.length : Int)
  · rw [chkT_not fun h => by have := h.le; omega]
    refine fnspec_of mixed TT_ok TT_cl ⟨fun _ => false, fun _ => [], 0, fun _ => false, fun _ => false⟩ Try.func52 rfl (by kernel_rfl) rfl 108 rfl [.tmp 2] rfl ?_
    simp only [go_sem, zaa, zaj, zak, zal, zan, zag, ↓reduceIte, reduceCtorEq, zad, zaf, zao, zap, zaq, decide_eq_false h1, decide_eq_true h64]
    repeat' (first
 | exact fs_nil trivial rfl
 | fail)
  have h1' : 1 ≤ l.length := by omega
  have h64' : l.length ≤ 64 := by omega
  have hN0 := nd_td l 0 (by omega)
  have r1 := isRoot_spec (gN l 0) (hct _ (getD_mem l 0 zn (by omega)))
  have e0 : stOk l 0 = (rootOk (gN l 0) && rngOk (gN l 0)) := by
    unfold stOk
    rw [if_pos rfl]
    cases hr : rootOk (gN l 0) with
    | false => rw [Bool.and_false]; rfl
    | true =>
      have hk : kdOk (gN l 0) = true := by
        unfold rootOk at hr
        simp only [zaA, decide_eq_true_eq] at hr
        unfold kdOk
        rw [decide_eq_true hr.2]; rfl
      rw [hk, zbo, Bool.and_true]
  rw [← e0] at r1
  have hN0' : List.take 6 (List.drop (Int.toNat 0 * 6) (Cs l)) = ndc (gN l 0) := hN0
  cases hs0 : stOk l 0 with
  | false =>
    rw [chkT_not fun h => by have := h.st 0 (by omega); rw [hs0] at this; cases this]
    rw [hs0] at r1
    simp only [ndc] at hN0' r1
    refine fnspec_of mixed TT_ok TT_cl ⟨fun _ => false, fun _ => [], 0, fun _ => false, fun _ => false⟩ Try.func52 rfl (by kernel_rfl) rfl 108 rfl [.tmp 2] rfl ?_
    simp only [go_sem, zaa, zaj, zak, zal, zan, zag, ↓reduceIte, reduceCtorEq, zad, zaf, zao, zap, zaq, decide_eq_false h1, decide_eq_false h64, hN0']
    repeat' (first
 | with_reducible refine zai ?_ ?_
 | (apply cg_tp
    case hl => rfl
    case ha => (simp only [zab, zac, prepV, prepC, idx, hpL', lookR, zaa, if_true, if_false]; rfl)
    case hs => rfl
    case h => (first | exact r1 ..))
 | ((first | refine s1_id ?_ | refine swp_id ?_ | refine sops_id ?_ | refine s2_id ?_); simp only [decide_eq_false h1, decide_eq_false h64, hN0', go_sem, zaa, zaj, zak, zal, zan, zag, ↓reduceIte, reduceCtorEq, zad, zaf, zao, zap, zaq, zaR, zaO, zaE, zaP, renO, bk, back, outUpsFrom, Ints_ren])
 | (intros; omega)
 | exact fs_nil trivial rfl
 | fail)
  | true =>
  rw [hs0] at r1
  simp only [ndc] at hN0' r1
  refine fnspec_of mixed TT_ok TT_cl ⟨fun _ => false, fun _ => [], 0, fun _ => false, fun _ => false⟩ Try.func52 rfl (by kernel_rfl) rfl 108 rfl [.tmp 2] rfl ?_
  simp only [go_sem, zaa, zaj, zak, zal, zan, zag, ↓reduceIte, reduceCtorEq, zad, zaf, zao, zap, zaq, decide_eq_false h1, decide_eq_false h64, hN0']
  repeat' (first
 | with_reducible refine zai ?_ ?_
 | (apply cg_tp
    case hl => rfl
    case ha => (simp only [zab, zac, prepV, prepC, idx, hpL', lookR, zaa, if_true, if_false]; rfl)
    case hs => rfl
    case h => (first | exact r1 ..))
 | ((first | refine s1_id ?_ | refine swp_id ?_ | refine sops_id ?_ | refine s2_id ?_); simp only [decide_eq_false h1, decide_eq_false h64, hN0', go_sem, zaa, zaj, zak, zal, zan, zag, ↓reduceIte, reduceCtorEq, zad, zaf, zao, zap, zaq, zaR, zaO, zaE, zaP, renO, bk, back, outUpsFrom, Ints_ren])
 | (intros; omega)
 | (intros; (try simp only [zaA, zaB, zaz, zay, zav, zaw, decide_eq_true_eq, decide_eq_false_iff_not] at *); omega))
  have hu0 : (upL (l.take 1) (gN l 0).i).length = 1 := by rw [upL_take l 0 (by omega), if_pos rfl]; rfl
  have hd1 : dps l 1 = List.replicate 64 0 := by
    apply List.ext_getElem?
    intro i
    by_cases hi : i < 64
    · simp only [dps, List.getElem?_map, List.getElem?_range hi, Option.map_some, List.getElem?_replicate, if_pos hi]
      by_cases c : i < 1
      · have : i = 0 := by omega
        subst this
        rw [if_pos c, hu0]; rfl
      · rw [if_neg c]
    · rw [List.getElem?_eq_none (by rw [dps_len]; omega), List.getElem?_eq_none (by rw [List.length_replicate]; omega)]
  refine w_loop (ι := Nat) (fun m => ⟨[(1, .one (.optr 0 0)), (3, gr l none), (4, .one (.optr 1 0)), (5, i1 m)], [(0, some ⟨[.gsl (Cs l) 0 l.length none, int n], 2⟩), (1, some ⟨Ints (dps l m), 64⟩)], 2⟩) (fun m => CkI l m) (fun m => l.length - m) 1 ?_ ⟨h1', zbl _, fun i hi => by rw [show i = 0 by omega]; exact hs0, fun i hi => by rw [show i = 0 by omega, hu0]; decide⟩ ?_
  · rw [hd1]
    (refine imp_ren _ _ _ [(0, 0, ⟨[.gsl (Cs l) 0 l.length none, int n], 2⟩), (1, 20, ⟨Ints (List.replicate 64 0), 64⟩)] (by simp) (by simp) (by simp) (zaS rfl) ?_ rfl (by simp only [zae, zah, false_implies, implies_true, and_true, zbh, lookR, zaa, if_true, if_false, ↓reduceIte] <;> (repeat' apply zai) <;> (first | rfl | trivial)) (by simp only [zae, zah, false_implies, implies_true, and_true, true_and, flat_cons, flat_nil, flat_ints, flat_bools, flat_app, zax, and_self, eq_self_iff_true, zam]); simp only [zab, zac, zae, zah, false_implies, implies_true, and_true, lk, slot, zaR, zaE, toN, zaa, if_true, if_false, ↓reduceIte, reduceCtorEq])
    all_goals ((repeat' apply zai) <;> (first | rfl | trivial))
  clear r1 hN0 hN0' hd1
  intro m hI
  simp only at hI ⊢
  have hm := hI.le
  have hm1 := hI.p1
  have hA := hI.asc
  rcases Nat.lt_or_ge m l.length with hlt | hge
  case inr =>
    have c : ¬ (m : Int) < (l.length : Int) := by omega
    obtain rfl : m = l.length := by omega
    rw [List.take_length] at hA
    have hin : ((l.length : Int) - 1).toNat = l.length - 1 := by omega
    obtain ⟨g1, _⟩ := nd_f l (l.length - 1) (by omega) (.sc (.int .i64 0))
    have hres : chkT l n = (decide ((gN l (l.length - 1)).i < n) && decide (n ≤ 2147483648)) := by
      unfold chkT
      rw [decide_eq_true h1', decide_eq_true h64', (allN_iff _ _).2 hI.st, (allN_iff _ _).2 fun i hi => decide_eq_true (by rw [← up_takeA hA hi]; exact hI.dp i hi)]
      rfl
    rw [hres]
    simp only [go_sem, zaa, zaj, zak, zal, zan, zag, ↓reduceIte, reduceCtorEq, zad, zaf, zao, zap, zaq, decide_eq_false c, hin, g1]
    repeat' (first
 | with_reducible refine zai ?_ ?_
 | (unfold OKC; kernel_rfl)
 | (unfold EDG; kernel_rfl)
 | (intros; omega)
 | exact fs_nil trivial rfl
 | fail)
  have c : (m : Int) < (l.length : Int) := by omega
  have h2 := index_take l none m (gN l m).p hm hl
  have h3 := isChild_spec (gN l m) (hct _ (getD_mem l m zn hlt)) (hnm.at m hlt)
  have h4 := taken_take l none m (gN l m).p (gN l m).nm hm hl
  obtain ⟨g1, g2, _⟩ := nd_f l m hlt (.sc (.int .i64 0))
  have g3 := (nd_f l m hlt (.sc (.string (bs [])))).2.2.1
  have hN := nd_td l m hlt
  obtain ⟨q1, _⟩ := nd_f l (m - 1) (by omega) (.sc (.int .i64 0))
  have hin : ((m : Int) - 1).toNat = m - 1 := by omega
  have hst : stOk l m = (kdOk (gN l m) && rngOk (gN l m) && (decide ((gN l (m - 1)).i < (gN l m).i) && nmOk (gN l m).nm && bsF Nd.i (l.take m) (gN l m).p && !(l.take m).any (same1 (gN l m).p (gN l m).nm))) := by
    unfold stOk
    rw [if_neg (by omega), bs_any Nd.i (l.take m) (fun i j => hA i j)]
    rfl
  have hno : stOk l m = false → chkT l n = false := fun hf => chkT_not fun h => by have := h.st m hlt; rw [hf] at this; cases this
  have hvl := bsV_le Nd.i (l.take m) (gN l m).p
  rw [zaT] at hvl
  cases hf : bsF Nd.i (l.take m) (gN l m).p with
  | false =>
    rw [hno (by rw [hst, hf]; simp)]
    rw [hf] at h2
    generalize bsV Nd.i (l.take m) (gN l m).p = v at *
    simp only [go_sem, zaa, zaj, zak, zal, zan, zag, ↓reduceIte, reduceCtorEq, zad, zaf, zao, zap, zaq, decide_eq_true c, g2, zaW, zaY, zaZ]
    repeat' (first
 | with_reducible refine zai ?_ ?_
 | (unfold OKC; kernel_rfl)
 | (unfold EDG; kernel_rfl)
 | (apply cl_plain
    case hs => rfl
    case ha => (simp only [zab, zac, prepV, prepC, idx, hpL', lookR, zaa, if_true, if_false]; rfl)
    case h => (first | exact h2 ..))
 | ((first | refine s1_id ?_ | refine swp_id ?_ | refine sops_id ?_ | refine s2_id ?_); simp only [decide_eq_true c, g2, zaW, zaY, zaZ, go_sem, zaa, zaj, zak, zal, zan, zag, ↓reduceIte, reduceCtorEq, zad, zaf, zao, zap, zaq, zaR, zaO, zaE, zaP, renO, bk, back, outUpsFrom, Ints_ren])
 | (intros; omega)
 | exact fs_nil trivial rfl
 | fail)
  | true =>
  obtain ⟨hv1, hv2⟩ := bsF_at Nd.i (l.take m) (gN l m).p hf
  rw [zaT] at hv1
  rw [hf] at h2 hst
  generalize bsV Nd.i (l.take m) (gN l m).p = v at *
  have hvm : v < m := by omega
  have hv3 : (gN l v).i = (gN l m).p := by rw [← gN_take l m v hvm]; exact hv2
  by_cases hle : (gN l m).i ≤ (gN l (m - 1)).i
  · rw [hno (by rw [hst, decide_eq_false (by omega)]; simp)]
    simp only [go_sem, zaa, zaj, zak, zal, zan, zag, ↓reduceIte, reduceCtorEq, zad, zaf, zao, zap, zaq, decide_eq_true c, g1, g2, zaW, zaY, zaZ, hin, q1, decide_eq_true hle]
    repeat' (first
 | with_reducible refine zai ?_ ?_
 | (unfold OKC; kernel_rfl)
 | (unfold EDG; kernel_rfl)
 | (apply cl_plain
    case hs => rfl
    case ha => (simp only [zab, zac, prepV, prepC, idx, hpL', lookR, zaa, if_true, if_false]; rfl)
    case h => (first | exact h2 ..))
 | ((first | refine s1_id ?_ | refine swp_id ?_ | refine sops_id ?_ | refine s2_id ?_); simp only [decide_eq_true c, g1, g2, zaW, zaY, zaZ, hin, q1, decide_eq_true hle, go_sem, zaa, zaj, zak, zal, zan, zag, ↓reduceIte, reduceCtorEq, zad, zaf, zao, zap, zaq, zaR, zaO, zaE, zaP, renO, bk, back, outUpsFrom, Ints_ren])
 | (intros; omega)
 | exact fs_nil trivial rfl
 | fail)
  rw [decide_eq_true (by omega : (gN l (m - 1)).i < (gN l m).i)] at hst
  cases hcb : (nmOk (gN l m).nm && kdOk (gN l m) && rngOk (gN l m)) with
  | false =>
    rw [hno (by rw [hst]; revert hcb; cases nmOk (gN l m).nm <;> cases kdOk (gN l m) <;> cases rngOk (gN l m) <;> simp)]
    rw [hcb] at h3
    simp only [ndc] at hN h3
    simp only [go_sem, zaa, zaj, zak, zal, zan, zag, ↓reduceIte, reduceCtorEq, zad, zaf, zao, zap, zaq, decide_eq_true c, g1, g2, zaW, zaY, zaZ, hin, q1, decide_eq_false hle, hN]
    repeat' (first
 | with_reducible refine zai ?_ ?_
 | (unfold OKC; kernel_rfl)
 | (unfold EDG; kernel_rfl)
 | (apply cg_tp
    case hl => rfl
    case ha => (simp only [zab, zac, prepV, prepC, idx, hpL', lookR, zaa, if_true, if_false]; rfl)
    case hs => rfl
    case h => (first | exact h2 .. | exact h3 ..))
 | (apply cl_plain
    case hs => rfl
    case ha => (simp only [zab, zac, prepV, prepC, idx, hpL', lookR, zaa, if_true, if_false]; rfl)
    case h => (first | exact h2 .. | exact h3 ..))
 | ((first | refine s1_id ?_ | refine swp_id ?_ | refine sops_id ?_ | refine s2_id ?_); simp only [decide_eq_true c, g1, g2, zaW, zaY, zaZ, hin, q1, decide_eq_false hle, hN, go_sem, zaa, zaj, zak, zal, zan, zag, ↓reduceIte, reduceCtorEq, zad, zaf, zao, zap, zaq, zaR, zaO, zaE, zaP, renO, bk, back, outUpsFrom, Ints_ren])
 | (intros; omega)
 | exact fs_nil trivial rfl
 | fail)
  | true =>
  rw [hcb] at h3
  cases htk : (l.take m).any (same1 (gN l m).p (gN l m).nm) with
  | true =>
    rw [hno (by rw [hst, htk]; simp)]
    rw [htk] at h4
    simp only [ndc] at hN h3
    simp only [go_sem, zaa, zaj, zak, zal, zan, zag, ↓reduceIte, reduceCtorEq, zad, zaf, zao, zap, zaq, decide_eq_true c, g1, g2, g3, zaW, zaY, zaZ, hin, q1, decide_eq_false hle, hN]
    repeat' (first
 | with_reducible refine zai ?_ ?_
 | (unfold OKC; kernel_rfl)
 | (unfold EDG; kernel_rfl)
 | (apply cg_tp
    case hl => rfl
    case ha => (simp only [zab, zac, prepV, prepC, idx, hpL', lookR, zaa, if_true, if_false]; rfl)
    case hs => rfl
    case h => (first | exact h2 .. | exact h3 .. | exact h4 ..))
 | (apply cl_plain
    case hs => rfl
    case ha => (simp only [zab, zac, prepV, prepC, idx, hpL', lookR, zaa, if_true, if_false]; rfl)
    case h => (first | exact h2 .. | exact h3 .. | exact h4 ..))
 | ((first | refine s1_id ?_ | refine swp_id ?_ | refine sops_id ?_ | refine s2_id ?_); simp only [decide_eq_true c, g1, g2, g3, zaW, zaY, zaZ, hin, q1, decide_eq_false hle, hN, go_sem, zaa, zaj, zak, zal, zan, zag, ↓reduceIte, reduceCtorEq, zad, zaf, zao, zap, zaq, zaR, zaO, zaE, zaP, renO, bk, back, outUpsFrom, Ints_ren])
 | (intros; omega)
 | exact fs_nil trivial rfl
 | fail)
  | false =>
  have hok : stOk l m = true := by rw [hst, htk]; revert hcb; cases nmOk (gN l m).nm <;> cases kdOk (gN l m) <;> cases rngOk (gN l m) <;> simp
  rw [htk] at h4
  have hun := up_next hA hlt hvm hv3
  have hdv := dps_at l m v (by omega)
  rw [if_pos hvm] at hdv
  have hset := dps_set l m (by omega)
  have hdm := dps_at l (m + 1) m (by omega)
  rw [if_pos (by omega)] at hdm
  have hu1 : 1 ≤ (upL (l.take (v + 1)) (gN l v).i).length := by rw [upL_take l v (by omega), if_pos rfl, zaI]; omega
  have hu9 := hI.dp v hvm
  have hsv : ((upL (l.take (v + 1)) (gN l v).i).length : Int) - 1 + 1 = ((upL (l.take (m + 1)) (gN l m).i).length : Int) - 1 := by rw [hun]; omega
  generalize (upL (l.take (v + 1)) (gN l v).i).length = D at *
  obtain ⟨D2, hD2⟩ : ∃ D2, (upL (l.take (m + 1)) (gN l m).i).length = D2 := ⟨_, rfl⟩
  have hseti : (Ints (dps l m)).set m (int ((D2 : Int) - 1)) = Ints (dps l (m + 1)) := by rw [← hset, hD2]; simp [Ints, List.map_set]
  rw [hD2] at hsv hdm hun
  have hdl := dps_len l m
  have hdl1 := dps_len l (m + 1)
  simp only [ndc] at hN h3
  by_cases h9 : 8 < (D2 : Int) - 1
  · rw [chkT_not fun h => by
      have := h.dp m hlt
      rw [← up_takeA h.asc hlt, hD2] at this; omega]
    simp only [go_sem, zaa, zaj, zak, zal, zan, zag, ↓reduceIte, reduceCtorEq, zad, zaf, zao, zap, zaq, decide_eq_true c, g1, g2, g3, zaW, zaY, zaZ, hin, q1, decide_eq_false hle, hN, hdv, hsv, hdm, decide_eq_true h9]
    repeat' (first
 | with_reducible refine zai ?_ ?_
 | (unfold OKC; kernel_rfl)
 | (unfold EDG; kernel_rfl)
 | (apply cg_tp
    case hl => rfl
    case ha => (simp only [zab, zac, prepV, prepC, idx, hpL', lookR, zaa, if_true, if_false]; rfl)
    case hs => rfl
    case h => (first | exact h2 .. | exact h3 .. | exact h4 ..))
 | (apply cl_plain
    case hs => rfl
    case ha => (simp only [zab, zac, prepV, prepC, idx, hpL', lookR, zaa, if_true, if_false]; rfl)
    case h => (first | exact h2 .. | exact h3 .. | exact h4 ..))
 | ((first | refine s1_id ?_ | refine swp_id ?_ | refine sops_id ?_ | refine s2_id ?_); simp only [decide_eq_true c, g1, g2, g3, zaW, zaY, zaZ, hin, q1, decide_eq_false hle, hN, hdv, hsv, hseti, hdm, decide_eq_true h9, go_sem, zaa, zaj, zak, zal, zan, zag, ↓reduceIte, reduceCtorEq, zad, zaf, zao, zap, zaq, zaR, zaO, zaE, zaP, renO, bk, back, outUpsFrom, Ints_ren])
 | (intros; omega)
 | exact fs_nil trivial rfl
 | fail)
  · have hst2 : CkI l (m + 1) := ⟨hlt, by omega, fun i hi => by rcases Nat.lt_succ_iff_lt_or_eq.1 hi with h | h; (· exact hI.st i h); (· rw [h]; exact hok), fun i hi => by rcases Nat.lt_succ_iff_lt_or_eq.1 hi with h | h; (· exact hI.dp i h); (· rw [h, hD2]; omega)⟩
    simp only [go_sem, zaa, zaj, zak, zal, zan, zag, ↓reduceIte, reduceCtorEq, zad, zaf, zao, zap, zaq, decide_eq_true c, g1, g2, g3, zaW, zaY, zaZ, hin, q1, decide_eq_false hle, hN, hdv, hsv, hdm, decide_eq_false h9]
    repeat' (first
 | with_reducible refine zai ?_ ?_
 | (unfold OKC; kernel_rfl)
 | (unfold EDG; kernel_rfl)
 | (apply cg_tp
    case hl => rfl
    case ha => (simp only [zab, zac, prepV, prepC, idx, hpL', lookR, zaa, if_true, if_false]; rfl)
    case hs => rfl
    case h => (first | exact h2 .. | exact h3 .. | exact h4 ..))
 | (apply cl_plain
    case hs => rfl
    case ha => (simp only [zab, zac, prepV, prepC, idx, hpL', lookR, zaa, if_true, if_false]; rfl)
    case h => (first | exact h2 .. | exact h3 .. | exact h4 ..))
 | ((first | refine s1_id ?_ | refine swp_id ?_ | refine sops_id ?_ | refine s2_id ?_); simp only [decide_eq_true c, g1, g2, g3, zaW, zaY, zaZ, hin, q1, decide_eq_false hle, hN, hdv, hsv, hseti, hdm, decide_eq_false h9, go_sem, zaa, zaj, zak, zal, zan, zag, ↓reduceIte, reduceCtorEq, zad, zaf, zao, zap, zaq, zaR, zaO, zaE, zaP, renO, bk, back, outUpsFrom, Ints_ren])
 | (intros; omega)
 | (intros; (try simp only [zaA, zaB, zaz, zay, zav, zaw, decide_eq_true_eq, decide_eq_false_iff_not] at *); omega))
    refine le_mk (m + 1) ?_ hst2 (by omega)
    (refine imp_ren _ _ _ [(0, 0, ⟨[.gsl (Cs l) 0 l.length none, int n], 2⟩), (1, 1, ⟨Ints (dps l (m + 1)), 64⟩)] (by simp) (by simp) (by simp) (zaS rfl) ?_ rfl (by simp only [zae, zah, false_implies, implies_true, and_true, zbh, lookR, zaa, if_true, if_false, ↓reduceIte, hseti] <;> (repeat' apply zai) <;> (first | rfl | trivial)) (by simp only [zae, zah, false_implies, implies_true, and_true, true_and, flat_cons, flat_nil, flat_ints, flat_bools, flat_app, zax, and_self, eq_self_iff_true, zam, hseti]); simp only [zab, zac, zae, zah, false_implies, implies_true, and_true, lk, slot, zaR, zaE, toN, zaa, if_true, if_false, ↓reduceIte, reduceCtorEq])
    all_goals ((repeat' apply zai) <;> (first | rfl | trivial | (simp only [zaV]; done) | (simp only [zaV]; rfl) | (simp only [zaV]; trivial)))
end Go.Proofs.Ytlajelbiniakpaa
