/- Contracts of functions, told of values, on the way to NumberTexts. -/
import Derived.Test.YtfkcolodbjonkabDoorTyEb
import Derived.Test.YtfkcolodbjonkabDoorNb3Eb
import Derived.Test.YtfkcolodbjonkabDoorSfEb
import Derived.Lib.ItoaNum
-- NEWGO
-- PRUNE: cl_lendx cl_use cl_lend
namespace Go.Proofs.YtfkcolodbjonkabDoor
set_option linter.unusedVariables false
set_option linter.unusedSimpArgs false
open Go.Proofs.YtfkcolodbjonkabDoor.Sh
set_option maxRecDepth 20000
abbrev dec (n : Nat) : Str := Lib.decDigits n
theorem dec_lo {n : Nat} (h : n < 10) : dec n = [UInt8.ofNat (48 + n)] := Lib.decDigits_one h
theorem dec_hi {n : Nat} (h : ¬ n < 10) : dec n = dec (n / 10) ++ [UInt8.ofNat (48 + n % 10)] := by
  show Lib.decDigits n = _
  rw [Lib.decDigits, dif_neg h]
theorem itoa_spec (n : Nat) (h : n < 100) : FnSpec Tryd.prog 20 [i1 n] [] (s1 (dec n)) [] := by
  refine FnSpec.of_calls Tryd.func20 (by kernel_rfl) (by kernel_rfl) trivial fun w vals m hm hv => ?_
  generalize hvs : vals.toList = vs at hv
  match vs, hv with
  | [u], ⟨hu, _⟩ =>
    have hvals : vals = #[u] := by apply Array.ext'; exact hvs
    have eu : u = .int .i64 n := by cases hu; rfl
    subst hvals; subst eu
    refine (Tryd.strconv_Itoa_small n h w).mono fun e w' ⟨h1, h2⟩ => ?_
    subst h1; subst h2
    exact ⟨_, rfl, VG.sc _ rfl, RowKit.Below.refl _ _⟩
set_option maxHeartbeats 8000000 in
theorem decimal_spec (n0 : Nat) (h0 : n0 ≤ 4611686018427387904) : FnSpec Tryd.prog 8 [i1 n0] [] (s1 (dec n0)) [] := by
  refine fnspec_of mixed TT_ok TT_cl ⟨fun _ => false, fun _ => [], 0, fun _ => false, fun _ => false⟩ Tryd.func8 rfl (by kernel_rfl) rfl 21 rfl [.tmp 2] rfl ?_
  simp only [go_sem, Nat.reduceEqDiff, Nat.reduceAdd, Nat.reduceSub, Nat.reduceMul, Nat.reduceLT, Nat.reduceLeDiff, ↓reduceIte, reduceCtorEq, List.reduceReplicate, Int.cast_ofNat_Int, Int.reduceEq, Int.reduceLT, Int.reduceLE]
  repeat' (first
    | ((first | refine s1_id ?_ | refine swp_id ?_ | refine sops_id ?_ | refine s2_id ?_); simp only [go_sem, Nat.reduceEqDiff, Nat.reduceAdd, Nat.reduceSub, Nat.reduceMul, Nat.reduceLT, Nat.reduceLeDiff, ↓reduceIte, reduceCtorEq, List.reduceReplicate, Int.cast_ofNat_Int, Int.reduceEq, Int.reduceLT, Int.reduceLE, SV.ren, SV.renL, Cell.ren, Row.ren, renO, bk, back, outUpsFrom, Ints_ren]))
  refine w_loop (ι := Nat × Str) (fun p => ⟨[(0, i1 p.1), (3, s1 p.2)], [], 0⟩) (fun p => p.1 + p.2.length ≤ n0 + 1 ∧ dec n0 = if 0 < p.1 ∨ p.2 = [] then dec p.1 ++ p.2 else p.2) (fun p => p.1 + if p.2 = [] then 1 else 0) (n0, []) ?_ ⟨by show n0 + 0 ≤ n0 + 1; omega, by show dec n0 = if 0 < n0 ∨ ([] : Str) = [] then dec n0 ++ [] else []; rw [if_pos (.inr rfl), List.append_nil]⟩ ?_
  · (refine imp_sub _ _ _ [] (by simp) (by simp) (by simp) (Nat.zero_le _) ?_ rfl (by simp); simp only [List.forall_mem_cons, List.not_mem_nil, false_implies, implies_true, and_true, lk, slot, SV.ren, Cell.ren, Nat.reduceEqDiff, if_true, if_false, ↓reduceIte, reduceCtorEq])
    all_goals ((repeat' apply And.intro) <;> (first | rfl | trivial))
  rintro ⟨n, s⟩ ⟨hl, he⟩
  simp only at hl he ⊢
  have step : (0 < n ∨ s = []) → n / 10 + (UInt8.ofNat (48 + n % 10) :: s).length ≤ n0 + 1 ∧ dec n0 = if 0 < n / 10 ∨ UInt8.ofNat (48 + n % 10) :: s = [] then dec (n / 10) ++ UInt8.ofNat (48 + n % 10) :: s else UInt8.ofNat (48 + n % 10) :: s := by
    intro h
    rw [if_pos h] at he
    refine ⟨?_, ?_⟩
    · rw [List.length_cons]
      rcases h with h | h
      · omega
      · subst h; simp only [List.length_nil] at hl ⊢; omega
    · by_cases h10 : n < 10
      · rw [if_neg (fun q => q.elim (fun q => by omega) (fun q => by cases q)), he, dec_lo h10, show n % 10 = n by omega]
        rfl
      · rw [if_pos (.inl (by omega)), he, dec_hi h10, List.append_assoc]
        rfl
  have hmod : (n : Int).tmod 10 = ((n % 10 : Nat) : Int) := rfl
  have hdiv : (n : Int).tdiv 10 = ((n / 10 : Nat) : Int) := rfl
  have q8 : inR .u8 (48 + ((n % 10 : Nat) : Int)) = True := eq_true (show (0 : Int) ≤ _ ∧ _ ≤ (255 : Int) by omega)
  have htn : (48 + ((n % 10 : Nat) : Int)).toNat = 48 + n % 10 := by omega
  by_cases hn : 0 < n
  · have hn' : 0 < (n : Int) := by omega
    simp only [go_sem, Nat.reduceEqDiff, Nat.reduceAdd, Nat.reduceSub, Nat.reduceMul, Nat.reduceLT, Nat.reduceLeDiff, ↓reduceIte, reduceCtorEq, List.reduceReplicate, Int.cast_ofNat_Int, Int.reduceEq, Int.reduceLT, Int.reduceLE, decide_eq_true hn', hmod, hdiv, q8, htn]
    repeat' (first
    | with_reducible refine And.intro ?_ ?_
    | (intros; (try simp only [Bool.and_eq_true, Bool.or_eq_true, Bool.not_eq_true', Bool.not_eq_false', Bool.and_eq_false_iff, Bool.or_eq_false_iff, decide_eq_true_eq, decide_eq_false_iff_not] at *); omega)
    | ((first | refine s1_id ?_ | refine swp_id ?_ | refine sops_id ?_ | refine s2_id ?_); simp only [decide_eq_true hn', hmod, hdiv, q8, htn, go_sem, Nat.reduceEqDiff, Nat.reduceAdd, Nat.reduceSub, Nat.reduceMul, Nat.reduceLT, Nat.reduceLeDiff, ↓reduceIte, reduceCtorEq, List.reduceReplicate, Int.cast_ofNat_Int, Int.reduceEq, Int.reduceLT, Int.reduceLE, SV.ren, SV.renL, Cell.ren, Row.ren, renO, bk, back, outUpsFrom, Ints_ren]))
    obtain ⟨t1, t2⟩ := step (.inl hn)
    refine le_mk (n / 10, UInt8.ofNat (48 + n % 10) :: s) ?_ ⟨t1, t2⟩ (by show n / 10 + (if UInt8.ofNat (48 + n % 10) :: s = [] then 1 else 0) < n + (if s = [] then 1 else 0); rw [if_neg (by simp)]; omega)
    (refine imp_sub _ _ _ [] (by simp) (by simp) (by simp) (Nat.zero_le _) ?_ rfl (by simp); simp only [List.forall_mem_cons, List.not_mem_nil, false_implies, implies_true, and_true, lk, slot, SV.ren, Cell.ren, Nat.reduceEqDiff, if_true, if_false, ↓reduceIte, reduceCtorEq])
    all_goals ((repeat' apply And.intro) <;> (first | rfl | trivial | (simp only []; done) | (simp only []; rfl) | (simp only []; trivial)))
  · have hn' : ¬ 0 < (n : Int) := by omega
    by_cases hs : s = []
    · simp only [go_sem, Nat.reduceEqDiff, Nat.reduceAdd, Nat.reduceSub, Nat.reduceMul, Nat.reduceLT, Nat.reduceLeDiff, ↓reduceIte, reduceCtorEq, List.reduceReplicate, Int.cast_ofNat_Int, Int.reduceEq, Int.reduceLT, Int.reduceLE, decide_eq_false hn', decide_eq_true hs, hmod, hdiv, q8, htn]
      repeat' (first
    | with_reducible refine And.intro ?_ ?_
    | (intros; (try simp only [Bool.and_eq_true, Bool.or_eq_true, Bool.not_eq_true', Bool.not_eq_false', Bool.and_eq_false_iff, Bool.or_eq_false_iff, decide_eq_true_eq, decide_eq_false_iff_not] at *); omega)
    | ((first | refine s1_id ?_ | refine swp_id ?_ | refine sops_id ?_ | refine s2_id ?_); simp only [decide_eq_false hn', decide_eq_true hs, hmod, hdiv, q8, htn, go_sem, Nat.reduceEqDiff, Nat.reduceAdd, Nat.reduceSub, Nat.reduceMul, Nat.reduceLT, Nat.reduceLeDiff, ↓reduceIte, reduceCtorEq, List.reduceReplicate, Int.cast_ofNat_Int, Int.reduceEq, Int.reduceLT, Int.reduceLE, SV.ren, SV.renL, Cell.ren, Row.ren, renO, bk, back, outUpsFrom, Ints_ren]))
      obtain ⟨t1, t2⟩ := step (.inr hs)
      refine le_mk (n / 10, UInt8.ofNat (48 + n % 10) :: s) ?_ ⟨t1, t2⟩ (by show n / 10 + (if UInt8.ofNat (48 + n % 10) :: s = [] then 1 else 0) < n + (if s = [] then 1 else 0); rw [if_neg (by simp)]; rw [if_pos hs]; omega)
      (refine imp_sub _ _ _ [] (by simp) (by simp) (by simp) (Nat.zero_le _) ?_ rfl (by simp); simp only [List.forall_mem_cons, List.not_mem_nil, false_implies, implies_true, and_true, lk, slot, SV.ren, Cell.ren, Nat.reduceEqDiff, if_true, if_false, ↓reduceIte, reduceCtorEq])
      all_goals ((repeat' apply And.intro) <;> (first | rfl | trivial | (simp only []; done) | (simp only []; rfl) | (simp only []; trivial)))
    · rw [if_neg (fun q => q.elim hn hs)] at he
      rw [he]
      simp only [go_sem, Nat.reduceEqDiff, Nat.reduceAdd, Nat.reduceSub, Nat.reduceMul, Nat.reduceLT, Nat.reduceLeDiff, ↓reduceIte, reduceCtorEq, List.reduceReplicate, Int.cast_ofNat_Int, Int.reduceEq, Int.reduceLT, Int.reduceLE, decide_eq_false hn', decide_eq_false hs]
      repeat' (first
    | (apply fs_nil <;> (try simp only [go_sem, resV, resS, SV.ren, SV.renL, Cell.ren, St.tmF, St.hpF, idx, renO, Row.ren, evS, slot, lookR, Nat.reduceEqDiff, ↓reduceIte, reduceCtorEq, if_true, if_false, Option.getD_some, Option.getD_none, List.map_cons, List.map_nil, sLoad, readAt, readNeed, Ints_ren, Ints_length, Ints_getD, and_true, true_and, List.getD_cons_zero, List.getD_cons_succ]) <;> (try rfl)))
def fm (a : Nat) : Str := dec (a / 100) ++ [46] ++ dec (a % 100 / 10) ++ dec (a % 100 % 10)
theorem dec_len (n : Nat) (h : n < 100) : (dec n).length ≤ 2 := by
  by_cases h10 : n < 10
  · rw [dec_lo h10]; exact Nat.le_of_ble_eq_true rfl
  · rw [dec_hi h10, dec_lo (by omega)]; exact Nat.le_refl _
theorem fmt_spec (a : Nat) (h : a < 10000) : FnSpec Tryd.prog 6 [i1 a] [] (.tup [s1 (fm a), i1 0]) [] := by
  have h1 := itoa_spec (a / 100) (by omega)
  have h2 := itoa_spec (a % 100 / 10) (by omega)
  have h3 := itoa_spec (a % 100 % 10) (by omega)
  have l1 := dec_len (a / 100) (by omega)
  have l2 := dec_len (a % 100 / 10) (by omega)
  have l3 := dec_len (a % 100 % 10) (by omega)
  have e1 : (a : Int).tmod 100 = ((a % 100 : Nat) : Int) := rfl
  have e2 : (a : Int).tdiv 100 = ((a / 100 : Nat) : Int) := rfl
  have e3 : ((a % 100 : Nat) : Int).tdiv 10 = ((a % 100 / 10 : Nat) : Int) := rfl
  have e4 : ((a % 100 : Nat) : Int).tmod 10 = ((a % 100 % 10 : Nat) : Int) := rfl
  have c1 : ¬ (a : Int) < 0 := by omega
  have c2 : ¬ 10000 < (a : Int) := by omega
  have c3 : ¬ (a : Int) = 10000 := by omega
  unfold fm
  generalize dec (a / 100) = x at *
  generalize dec (a % 100 / 10) = y at *
  generalize dec (a % 100 % 10) = z at *
  refine fnspec_of mixed TT_ok TT_cl ⟨fun _ => false, fun _ => [], 0, fun _ => false, fun _ => false⟩ Tryd.func6 rfl (by kernel_rfl) rfl 27 rfl [.tmp 2, .tmp 3] rfl ?_
  simp only [go_sem, Nat.reduceEqDiff, Nat.reduceAdd, Nat.reduceSub, Nat.reduceMul, Nat.reduceLT, Nat.reduceLeDiff, ↓reduceIte, reduceCtorEq, List.reduceReplicate, Int.cast_ofNat_Int, Int.reduceEq, Int.reduceLT, Int.reduceLE, e1, e2, e3, e4, decide_eq_false c1, decide_eq_false c2, decide_eq_false c3]
  repeat' (first
    | with_reducible refine And.intro ?_ ?_
    | (intros; (try simp only [Bool.and_eq_true, Bool.or_eq_true, Bool.not_eq_true', Bool.not_eq_false', Bool.and_eq_false_iff, Bool.or_eq_false_iff, decide_eq_true_eq, decide_eq_false_iff_not] at *); omega)
    | (apply cl_plain
       case hs => rfl
       case ha => (simp only [List.map_cons, List.map_nil, prepV, prepC, idx, hpL', lookR, Nat.reduceEqDiff, if_true, if_false]; rfl)
       case h => (first | exact h1 .. | exact h2 .. | exact h3 ..))
    | ((first | refine s1_id ?_ | refine swp_id ?_ | refine sops_id ?_ | refine s2_id ?_); simp only [e1, e2, e3, e4, decide_eq_false c1, decide_eq_false c2, decide_eq_false c3, go_sem, Nat.reduceEqDiff, Nat.reduceAdd, Nat.reduceSub, Nat.reduceMul, Nat.reduceLT, Nat.reduceLeDiff, ↓reduceIte, reduceCtorEq, List.reduceReplicate, Int.cast_ofNat_Int, Int.reduceEq, Int.reduceLT, Int.reduceLE, SV.ren, SV.renL, Cell.ren, Row.ren, renO, bk, back, outUpsFrom, Ints_ren])
    | (apply fs_nil <;> (try simp only [go_sem, resV, resS, SV.ren, SV.renL, Cell.ren, St.tmF, St.hpF, idx, renO, Row.ren, evS, slot, lookR, Nat.reduceEqDiff, ↓reduceIte, reduceCtorEq, if_true, if_false, Option.getD_some, Option.getD_none, List.map_cons, List.map_nil, sLoad, readAt, readNeed, Ints_ren, Ints_length, Ints_getD, and_true, true_and, List.getD_cons_zero, List.getD_cons_succ]) <;> (try rfl)))
end Go.Proofs.YtfkcolodbjonkabDoor
