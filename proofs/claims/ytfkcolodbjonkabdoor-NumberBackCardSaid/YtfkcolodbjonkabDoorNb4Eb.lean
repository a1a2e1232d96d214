/- Contracts of functions, told of values, on the way to NumberBack. -/
import Derived.Test.YtfkcolodbjonkabDoorTyEb
import Derived.Test.YtfkcolodbjonkabDoorNb3Eb
import Derived.Test.YtfkcolodbjonkabDoorSfEb
import Derived.Lib.ItoaNum
-- NEWGO
-- PRUNE: cl_lendx cl_use cl_lend
namespace Go.Proofs.YtfkcolodbjonkabDoor
set_option linter.unusedVariables false
set_option linter.unusedSimpArgs false
open Go.Proofs.YtfkcolodbjonkabDoor.Sh
set_option maxRecDepth 20000
abbrev dec (n : Nat) : Str := Lib.decDigits n
theorem dec_lo {n : Nat} (h : n < 10) : dec n = [UInt8.ofNat (48 + n)] := Lib.decDigits_one h
theorem dec_hi {n : Nat} (h : ¬ n < 10) : dec n = dec (n / 10) ++ [UInt8.ofNat (48 + n % 10)] := by
  show Lib.decDigits n = _
  rw [Lib.decDigits, dif_neg h]
theorem itoa_spec (n : Nat) (h : n < 100) : FnSpec Tryd.prog 20 [i1 n] [] (s1 (dec n)) [] := by
  refine FnSpec.of_calls Tryd.func20 (by kernel_rfl) (by kernel_rfl) trivial fun w vals m hm hv => ?_
  generalize hvs : vals.toList = vs at hv
  match vs, hv with
  | [u], ⟨hu, _⟩ =>
    have hvals : vals = #[u] := by apply Array.ext'; exact hvs
    have eu : u = .int .i64 n := by cases hu; rfl
    subst hvals; subst eu
    refine (Tryd.strconv_Itoa_small n h w).mono fun e w' ⟨h1, h2⟩ => ?_
    subst h1; subst h2
    exact ⟨_, rfl, VG.sc _ rfl, RowKit.Below.refl _ _⟩
def fm (a : Nat) : Str := dec (a / 100) ++ [46] ++ dec (a % 100 / 10) ++ dec (a % 100 % 10)
theorem dec_len (n : Nat) (h : n < 100) : (dec n).length ≤ 2 := by
  by_cases h10 : n < 10
  · rw [dec_lo h10]; exact Nat.le_of_ble_eq_true rfl
  · rw [dec_hi h10, dec_lo (by omega)]; exact Nat.le_refl _
theorem fmt_spec (a : Nat) (h : a < 10000) : FnSpec Tryd.prog 6 [i1 a] [] (.tup [s1 (fm a), i1 0]) [] := by
  have h1 := itoa_spec (a / 100) (by omega)
  have h2 := itoa_spec (a % 100 / 10) (by omega)
  have h3 := itoa_spec (a % 100 % 10) (by omega)
  have l1 := dec_len (a / 100) (by omega)
  have l2 := dec_len (a % 100 / 10) (by omega)
  have l3 := dec_len (a % 100 % 10) (by omega)
  have e1 : (a : Int).tmod 100 = ((a % 100 : Nat) : Int) := rfl
  have e2 : (a : Int).tdiv 100 = ((a / 100 : Nat) : Int) := rfl
  have e3 : ((a % 100 : Nat) : Int).tdiv 10 = ((a % 100 / 10 : Nat) : Int) := rfl
  have e4 : ((a % 100 : Nat) : Int).tmod 10 = ((a % 100 % 10 : Nat) : Int) := rfl
  have c1 : ¬ (a : Int) < 0 := by omega
  have c2 : ¬ 10000 < (a : Int) := by omega
  have c3 : ¬ (a : Int) = 10000 := by omega
  unfold fm
  generalize dec (a / 100) = x at *
  generalize dec (a % 100 / 10) = y at *
  generalize dec (a % 100 % 10) = z at *
  refine fnspec_of mixed TT_ok TT_cl ⟨fun _ => false, fun _ => [], 0, fun _ => false, fun _ => false⟩ Tryd.func6 rfl (by kernel_rfl) rfl 27 rfl [.tmp 2, .tmp 3] rfl ?_
  simp only [go_sem, Nat.reduceEqDiff, Nat.reduceAdd, Nat.reduceSub, Nat.reduceMul, Nat.reduceLT, Nat.reduceLeDiff, ↓reduceIte, reduceCtorEq, List.reduceReplicate, Int.cast_ofNat_Int, Int.reduceEq, Int.reduceLT, Int.reduceLE, e1, e2, e3, e4, decide_eq_false c1, decide_eq_false c2, decide_eq_false c3]
  repeat' (first
    | with_reducible refine And.intro ?_ ?_
    | (intros; (try simp only [Bool.and_eq_true, Bool.or_eq_true, Bool.not_eq_true', Bool.not_eq_false', Bool.and_eq_false_iff, Bool.or_eq_false_iff, decide_eq_true_eq, decide_eq_false_iff_not] at *); omega)
    | (apply cl_plain
       case hs => rfl
       case ha => (simp only [List.map_cons, List.map_nil, prepV, prepC, idx, hpL', lookR, Nat.reduceEqDiff, if_true, if_false]; rfl)
       case h => (first | exact h1 .. | exact h2 .. | exact h3 ..))
    | ((first | refine s1_id ?_ | refine swp_id ?_ | refine sops_id ?_ | refine s2_id ?_); simp only [e1, e2, e3, e4, decide_eq_false c1, decide_eq_false c2, decide_eq_false c3, go_sem, Nat.reduceEqDiff, Nat.reduceAdd, Nat.reduceSub, Nat.reduceMul, Nat.reduceLT, Nat.reduceLeDiff, ↓reduceIte, reduceCtorEq, List.reduceReplicate, Int.cast_ofNat_Int, Int.reduceEq, Int.reduceLT, Int.reduceLE, SV.ren, SV.renL, Cell.ren, Row.ren, renO, bk, back, outUpsFrom, Ints_ren])
    | (apply fs_nil <;> (try simp only [go_sem, resV, resS, SV.ren, SV.renL, Cell.ren, St.tmF, St.hpF, idx, renO, Row.ren, evS, slot, lookR, Nat.reduceEqDiff, ↓reduceIte, reduceCtorEq, if_true, if_false, Option.getD_some, Option.getD_none, List.map_cons, List.map_nil, sLoad, readAt, readNeed, Ints_ren, Ints_length, Ints_getD, and_true, true_and, List.getD_cons_zero, List.getD_cons_succ]) <;> (try rfl)))
end Go.Proofs.YtfkcolodbjonkabDoor
