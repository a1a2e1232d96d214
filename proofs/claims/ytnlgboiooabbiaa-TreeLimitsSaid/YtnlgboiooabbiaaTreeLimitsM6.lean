/- Contracts of functions, told of values, on the way to TreeLimits (part 6). -/
import Derived.Shelf.Strings.Builder1
import Derived.Shelf.Strings.Builder2
import Derived.Shelf.Strings.OnBuilder
import Derived.Shelf.Small.Wraps
import Derived.Shelf.Strings.BuilderF
import Derived.Shelf.Strings.BuilderK
import Derived.Shelf.Strings.Builder2Cap
import Derived.Shelf.Strings.BuilderCap
import Derived.Ground.Names2Prog
import Derived.Shelf.Slices.ReverseS
import Derived.Shelf.Slices.SearchI
import Derived.Shelf.Slices.Cells
import Derived.Ground.SlgnProg
import Derived.Shelf.SlicesE.Reverse
import Derived.Test.YtnlgboiooabbiaaProg
import Derived.Test.YtnlgboiooabbiaaTreeLimitsM3
import Derived.Test.YtnlgboiooabbiaaTreeLimitsM5
import Derived.Lib.Join
-- namespace Go.Proofs.Ytnlgboiooabbiaa
namespace Go.Proofs
set_option linter.unusedVariables false
set_option linter.unusedSimpArgs false
open Go.Shelf
def Try.lays156_ren : Go.Shelf.Ren := ⟨fun | 156 => 81 | 165 => 85 | 166 => 86 | 169 => 87 | 240 => 89 | 241 => 90 | 276 => 91 | 277 => 92 | n => n, fun | 31 => 91 | 9 => 9 | 3 => 3 | 4 => 4 | 0 => 0 | 20 => 20 | 72 => 107 | 76 => 111 | 70 => 105 | 37 => 31 | 75 => 110 | 127 => 114 | 164 => 115 | 5 => 5 | 80 => 75 | n => n, fun | n => n⟩
theorem Try.lays156 : Go.Proofs.Lays.n156 Try.prog Try.lays156_ren := {
  mixed := by kernel_rfl
  f156 := Try.func81.trans (congrArg some (by kernel_rfl))
  f165 := Try.func85.trans (congrArg some (by kernel_rfl))
  f166 := Try.func86.trans (congrArg some (by kernel_rfl))
  f169 := Try.func87.trans (congrArg some (by kernel_rfl))
  f240 := Try.func89.trans (congrArg some (by kernel_rfl))
  f241 := Try.func90.trans (congrArg some (by kernel_rfl))
  f276 := Try.func91.trans (congrArg some (by kernel_rfl))
  f277 := Try.func92.trans (congrArg some (by kernel_rfl))
  t0 := Try.underlying0
  a0 := Try.isAgg0
  z0 := Try.sizeOf0
  v0 := Try.zeroValue0
  t3 := Try.underlying3
  a3 := Try.isAgg3
  z3 := Try.sizeOf3
  v3 := Try.zeroValue3
  t4 := Try.underlying4
  a4 := Try.isAgg4
  z4 := Try.sizeOf4
  v4 := Try.zeroValue4
  t9 := Try.underlying9
  a9 := Try.isAgg9
  z9 := Try.sizeOf9
  v9 := Try.zeroValue9
  t20 := Try.underlying20
  a20 := Try.isAgg20
  z20 := Try.sizeOf20
  v20 := Try.zeroValue20
  t31 := Try.underlying91
  a31 := Try.isAgg91
  z31 := Try.sizeOf91
  v31 := Try.zeroValue91
  t37 := Try.underlying31
  a37 := Try.isAgg31
  z37 := Try.sizeOf31
  v37 := Try.zeroValue31
  t70 := Try.underlying105
  a70 := Try.isAgg105
  z70 := Try.sizeOf105
  v70 := Try.zeroValue105
  t72 := Try.underlying107
  a72 := Try.isAgg107
  z72 := Try.sizeOf107
  v72 := Try.zeroValue107
  t75 := Try.underlying110
  a75 := Try.isAgg110
  z75 := Try.sizeOf110
  v75 := Try.zeroValue110
  t76 := Try.underlying111
  a76 := Try.isAgg111
  z76 := Try.sizeOf111
  v76 := Try.zeroValue111
  t127 := Try.underlying114
  a127 := Try.isAgg114
  z127 := Try.sizeOf114
  v127 := Try.zeroValue114
  t164 := Try.underlying115
  a164 := Try.isAgg115
  z164 := Try.sizeOf115
  v164 := Try.zeroValue115 }
theorem Try.Builder_Extra_156 : Builder.Extra Try.prog Try.lays156_ren := {
  sizeBuilder := by kernel_rfl
  liesBuilder := by kernel_rfl
  t5 := Try.underlying5
  a5 := Try.isAgg5
  z5 := Try.sizeOf5
  v5 := Try.zeroValue5
  infoByte := by kernel_rfl
  cellsByte := by kernel_rfl
  sizeByte := by kernel_rfl
  neB5 := by decide }
open Go.RowKit in
theorem Try.strings_Join_none (a : Option Addr) (c : Nat) (sep : ByteArray) (w : World) :
    Calls Try.prog 81 #[.slice a 0 c, .string sep] w fun e w' => e = .returned (.string ⟨#[]⟩) ∧ w' = w := Any.strings_Join_none Try.lays156 Try.Builder_Extra_156 a c sep w
open Go.RowKit in
theorem Try.strings_Join (bk o c : Nat) (xs : List ByteArray) (sep : ByteArray) (w : World) (hcells : ∀ (j : Nat) x, xs[j]? = some x → w.cell? ⟨bk, o + j, none⟩ = some (.string x)) (hbk : bk < w.heap.size) (hN : xs.length ≤ 140737488355328) (hcap : xs.length ≤ c) (hlen : (Lib.join (xs.map (·.data.toList)) sep.data.toList).length ≤ 140737488355328) :
    Calls Try.prog 81 #[.slice (some ⟨bk, o, none⟩) xs.length c, .string sep] w fun e w' => e = .returned (.string ⟨(Lib.join (xs.map (·.data.toList)) sep.data.toList).toArray⟩) ∧ Below w.heap.size w w' := Any.strings_Join Try.lays156 Try.Builder_Extra_156 bk o c xs sep w hcells hbk hN hcap hlen

end Go.Proofs
-- NEWGO
-- PRUNE: cl_lendx cl_use cl_lend
-- ISG: Strs_isG
-- FLAT: Strs_flat
namespace Go.Proofs.Ytnlgboiooabbiaa
set_option linter.unusedVariables false
set_option linter.unusedSimpArgs false
open Go.Proofs.Ytnlgboiooabbiaa.Sh
set_option maxRecDepth 20000
def jn (xs : List Str) (sep : Str) : Str := Lib.join xs sep
theorem join_spec (xs : List Str) (sep : Str) (cap : Option Nat) (hN : xs.length ≤ 140737488355328) (hl : (jn xs sep).length ≤ 140737488355328) : FnSpec Try.prog 81 [gs xs cap, s1 sep] [] (s1 (jn xs sep)) [] := by
  refine FnSpec.of_calls Try.func81 (by kernel_rfl) (by kernel_rfl) trivial fun w vals m hm hv => ?_
  generalize hvs : vals.toList = vs at hv
  match vs, hv with
  | [u, v], ⟨hu, hw, _⟩ =>
    have hvals : vals = #[u, v] := by apply Array.ext'; exact hvs
    have ev : v = .string (bs sep) := by cases hw; rfl
    subst hvals; subst ev
    by_cases h0 : xs.length = 0
    · have hx : xs = [] := List.length_eq_zero_iff.1 h0
      subst hx
      have hu2 : ∃ a c, u = .slice a 0 c := by
        cases hu with
        | gsl _ _ _ _ b o c ad f _ _ _ _ _ => exact ⟨_, _, rfl⟩
        | gnil _ _ _ _ => exact ⟨_, _, rfl⟩
      obtain ⟨a, c, rfl⟩ := hu2
      refine (Try.strings_Join_none a c (bs sep) w).mono fun e w' ⟨h1, h2⟩ => ?_
      subst h1; subst h2
      exact ⟨_, rfl, VG.sc _ rfl, RowKit.Below.refl _ _⟩
    · have hu2 : ∃ (b o c : Nat) (f : Nat → Value), u = .slice (some ⟨b, o, none⟩) xs.length c ∧ xs.length ≤ c ∧ (∀ (i : Nat) x, (Strs xs)[i]? = some x → m ⟨b, o + i, none⟩ = some (f i)) ∧ (∀ (i : Nat) x, (Strs xs)[i]? = some x → VG m x (f i)) := by
        obtain ⟨n, hn⟩ : ∃ n, xs.length = n := ⟨_, rfl⟩
        have hu' : VG m (.gsl (Strs xs) 0 n cap) u := by rw [← hn]; exact hu
        rw [hn] at h0 ⊢
        cases hu' with
        | gsl _ _ _ _ b o c ad f hc hlc hm hv ha =>
          have had : ad = ⟨b, o + 0, none⟩ := ha.resolve_right h0
          subst had
          exact ⟨b, o, c, f, rfl, hlc, hm, hv⟩
        | gnil _ _ _ _ => exact absurd rfl h0
      obtain ⟨b, o, c, f, rfl, hlc, hm2, hv2⟩ := hu2
      have hat : ∀ (j : Nat) x, (xs.map bs)[j]? = some x → w.cell? ⟨b, o + j, none⟩ = some (.string x) := by
        intro j x hj
        rw [List.getElem?_map] at hj
        cases hx : xs[j]? with
        | none => rw [hx] at hj; cases hj
        | some y =>
          rw [hx] at hj
          cases hj
          have hs : (Strs xs)[j]? = some (st y) := by simp [Strs, hx]
          have h1 := (hm _ _ (hm2 j _ hs)).2
          have h2 := hv2 j _ hs
          cases h2' : f j <;> rw [h2'] at h2 h1 <;> cases h2
          exact h1
      have hlt : b < w.heap.size := by
        obtain ⟨y, hy⟩ : ∃ y, xs[0]? = some y := ⟨_, List.getElem?_eq_getElem (by omega)⟩
        have := hat 0 (bs y) (by simp [hy])
        exact World.block_lt_of_cell? _ _ this
      have hmap : (xs.map bs).map (·.data.toList) = xs := by
        rw [List.map_map]
        have : ((fun x : ByteArray => x.data.toList) ∘ bs) = id := by funext l; exact bs_data l
        rw [this, List.map_id]
      have hj := Try.strings_Join b o c (xs.map bs) (bs sep) w hat hlt (by simpa using hN) (by simpa using hlc) (by rw [hmap, bs_data]; exact hl)
      rw [hmap, bs_data, List.length_map] at hj
      refine hj.mono fun e w' ⟨h1, h2⟩ => ?_
      subst h1
      exact ⟨_, rfl, VG.sc _ rfl, h2⟩
end Go.Proofs.Ytnlgboiooabbiaa
-- NEWGO
-- PRUNE: cl_lendx cl_use cl_lend
-- ISG: Strs_isG
-- FLAT: Strs_flat
namespace Go.Proofs.Ytnlgboiooabbiaa
set_option linter.unusedVariables false
set_option linter.unusedSimpArgs false
open Go.Proofs.Ytnlgboiooabbiaa.Sh
set_option maxRecDepth 20000
end Go.Proofs.Ytnlgboiooabbiaa
-- NEWGO
-- PRUNE: cl_lendx cl_use cl_lend
-- ISG: Strs_isG
-- FLAT: Strs_flat
namespace Go.Proofs.Ytnlgboiooabbiaa
set_option linter.unusedVariables false
set_option linter.unusedSimpArgs false
open Go.Proofs.Ytnlgboiooabbiaa.Sh
set_option maxRecDepth 20000
def pJn (xs : List Str) : Str × Int := if chkP xs = 0 then (47 :: jn xs [47], 0) else ([], chkP xs)
abbrev rJ (x : Str × Int) : SV := .tup [s1 x.1, i1 x.2]
theorem nmOk_len (s : Str) (h : nmOk s = true) : s.length ≤ 32 := by
  unfold nmOk at h
  simp only [Bool.and_eq_true, decide_eq_true_eq] at h
  omega
theorem chk_ok (xs : List Str) (h : chkP xs = 0) : (∀ s ∈ xs, nmOk s = true) ∧ xs.length ≤ 8 := by
  unfold chkP at h
  cases ha : xs.any (fun s => !nmOk s) with
  | true => rw [ha, if_pos rfl] at h; cases h
  | false =>
    rw [ha, if_neg Bool.false_ne_true] at h
    refine ⟨fun s hs => ?_, ?_⟩
    · have := List.any_eq_false.1 ha s hs
      simpa using this
    · by_cases h8 : 8 < (xs.length : Int)
      · rw [if_pos h8] at h; cases h
      · omega
theorem lens_le (n : Nat) : ∀ xs : List Str, (∀ s ∈ xs, s.length ≤ n) → Lib.lens xs ≤ n * xs.length
  | [], _ => Nat.zero_le _
  | x :: xs, h => by
    have h1 := lens_le n xs fun s hs => h s (List.mem_cons_of_mem _ hs)
    have h2 := h x List.mem_cons_self
    have e : Lib.lens (x :: xs) = x.length + Lib.lens xs := by simp [Lib.lens]
    rw [e, List.length_cons, Nat.mul_succ]
    omega
theorem jn_len (xs : List Str) (h : chkP xs = 0) : (jn xs [47]).length ≤ 300 := by
  obtain ⟨h1, h2⟩ := chk_ok xs h
  have h3 := lens_le 32 xs fun s hs => nmOk_len s (h1 s hs)
  cases xs with
  | nil => exact Nat.zero_le _
  | cons x r =>
    unfold jn
    rw [Lib.join_length]
    simp only [List.length_cons, List.length_nil] at *
    omega
theorem join_p (xs : List Str) (k : Option Nat) (hx : ∀ s ∈ xs, s.length ≤ 9223372036854775807) (hl : xs.length ≤ 140737488355328) : FnSpec Try.prog 70 [gs xs k] [] (rJ (pJn xs)) [] := by
  have h1 := checkN_spec xs hx k (by omega)
  unfold pJn
  by_cases hc : chkP xs = 0
  · have h2 := join_spec xs [47] k hl (by have := jn_len xs hc; omega)
    have h3 := jn_len xs hc
    rw [if_pos hc]
    rw [hc] at h1
    refine fnspec_of mixed TT_ok TT_cl ⟨fun _ => false, fun _ => [], 0, fun _ => false, fun _ => false⟩ Try.func70 rfl (by kernel_rfl) rfl 13 rfl [.tmp 2, .tmp 3] rfl ?_
    simp only [go_sem, Nat.reduceEqDiff, Nat.reduceAdd, Nat.reduceSub, Nat.reduceMul, Nat.reduceLT, Nat.reduceLeDiff, ↓reduceIte, reduceCtorEq, List.reduceReplicate, Int.cast_ofNat_Int, Int.reduceEq, Int.reduceLT, Int.reduceLE]
    repeat' (first
    | with_reducible refine And.intro ?_ ?_
    | (intros; (try simp only [Bool.and_eq_true, Bool.or_eq_true, Bool.not_eq_true', Bool.not_eq_false', Bool.and_eq_false_iff, Bool.or_eq_false_iff, decide_eq_true_eq, decide_eq_false_iff_not] at *); omega)
    | (apply cl_plain
       case hs => rfl
       case ha => (simp only [List.map_cons, List.map_nil, prepV, prepC, idx, hpL', lookR, Nat.reduceEqDiff, if_true, if_false]; rfl)
       case h => (first | exact h1 .. | exact h2 ..))
    | ((first | refine s1_id ?_ | refine swp_id ?_ | refine sops_id ?_ | refine s2_id ?_); simp only [go_sem, Nat.reduceEqDiff, Nat.reduceAdd, Nat.reduceSub, Nat.reduceMul, Nat.reduceLT, Nat.reduceLeDiff, ↓reduceIte, reduceCtorEq, List.reduceReplicate, Int.cast_ofNat_Int, Int.reduceEq, Int.reduceLT, Int.reduceLE, SV.ren, SV.renL, Cell.ren, Row.ren, renO, bk, back, outUpsFrom, Ints_ren])
    | (apply fs_nil <;> (try simp only [go_sem, resV, resS, SV.ren, SV.renL, Cell.ren, St.tmF, St.hpF, idx, renO, Row.ren, evS, slot, lookR, Nat.reduceEqDiff, ↓reduceIte, reduceCtorEq, if_true, if_false, Option.getD_some, Option.getD_none, List.map_cons, List.map_nil, sLoad, readAt, readNeed, Ints_ren, Ints_length, Ints_getD, and_true, true_and, List.getD_cons_zero, List.getD_cons_succ]) <;> (try rfl)))
  · rw [if_neg hc]
    generalize chkP xs = e at *
    refine fnspec_of mixed TT_ok TT_cl ⟨fun _ => false, fun _ => [], 0, fun _ => false, fun _ => false⟩ Try.func70 rfl (by kernel_rfl) rfl 13 rfl [.tmp 2, .tmp 3] rfl ?_
    simp only [go_sem, Nat.reduceEqDiff, Nat.reduceAdd, Nat.reduceSub, Nat.reduceMul, Nat.reduceLT, Nat.reduceLeDiff, ↓reduceIte, reduceCtorEq, List.reduceReplicate, Int.cast_ofNat_Int, Int.reduceEq, Int.reduceLT, Int.reduceLE]
    repeat' (first
    | (apply cl_plain
       case hs => rfl
       case ha => (simp only [List.map_cons, List.map_nil, prepV, prepC, idx, hpL', lookR, Nat.reduceEqDiff, if_true, if_false]; rfl)
       case h => (first | exact h1 ..))
    | ((first | refine s1_id ?_ | refine swp_id ?_ | refine sops_id ?_ | refine s2_id ?_); simp only [decide_eq_false hc, go_sem, Nat.reduceEqDiff, Nat.reduceAdd, Nat.reduceSub, Nat.reduceMul, Nat.reduceLT, Nat.reduceLeDiff, ↓reduceIte, reduceCtorEq, List.reduceReplicate, Int.cast_ofNat_Int, Int.reduceEq, Int.reduceLT, Int.reduceLE, SV.ren, SV.renL, Cell.ren, Row.ren, renO, bk, back, outUpsFrom, Ints_ren])
    | (apply fs_nil <;> (try simp only [go_sem, resV, resS, SV.ren, SV.renL, Cell.ren, St.tmF, St.hpF, idx, renO, Row.ren, evS, slot, lookR, Nat.reduceEqDiff, ↓reduceIte, reduceCtorEq, if_true, if_false, Option.getD_some, Option.getD_none, List.map_cons, List.map_nil, sLoad, readAt, readNeed, Ints_ren, Ints_length, Ints_getD, and_true, true_and, List.getD_cons_zero, List.getD_cons_succ]) <;> (try rfl)))
end Go.Proofs.Ytnlgboiooabbiaa
-- NEWGO
-- PRUNE: cl_use
-- ISG: Strs_isG
-- FLAT: Strs_flat
namespace Go.Proofs.Ytnlgboiooabbiaa
set_option linter.unusedVariables false
set_option linter.unusedSimpArgs false
open Go.Proofs.Ytnlgboiooabbiaa.Sh
set_option maxRecDepth 20000
def rvS (xs : List Str) (k : Nat) : List Str := (List.range xs.length).map fun i => if i < k ∨ xs.length ≤ i + k then xs.getD (xs.length - 1 - i) [] else xs.getD i []
theorem rvS_len (xs : List Str) (k : Nat) : (rvS xs k).length = xs.length := by simp [rvS]
theorem rvS_at (xs : List Str) (k i : Nat) (h : i < xs.length) : (rvS xs k).getD i [] = if i < k ∨ xs.length ≤ i + k then xs.getD (xs.length - 1 - i) [] else xs.getD i [] := by
  unfold rvS
  rw [List.getD_eq_getElem?_getD, List.getElem?_map, List.getElem?_range h]; rfl
theorem ext_getD {a b : List Str} (hl : a.length = b.length) (h : ∀ i, i < a.length → a.getD i [] = b.getD i []) : a = b := by
  refine List.ext_getElem hl fun i h1 h2 => ?_
  have := h i h1
  rwa [getD_at a i [] h1, getD_at b i [] h2] at this
theorem rvS_0 (xs : List Str) : rvS xs 0 = xs := by
  refine ext_getD (rvS_len xs 0) fun i hi => ?_
  rw [rvS_len] at hi
  rw [rvS_at xs 0 i hi, if_neg (by omega)]
theorem rvS_end (xs : List Str) (k : Nat) (h : xs.length ≤ 2 * k + 1) : rvS xs k = xs.reverse := by
  refine ext_getD (by rw [rvS_len, List.length_reverse]) fun i hi => ?_
  rw [rvS_len] at hi
  have e : xs.reverse.getD i [] = xs.getD (xs.length - 1 - i) [] := by
    rw [List.getD_eq_getElem?_getD, List.getElem?_reverse hi, ← List.getD_eq_getElem?_getD]
  rw [rvS_at xs k i hi, e]
  by_cases c : i < k ∨ xs.length ≤ i + k
  · rw [if_pos c]
  · rw [if_neg c, show xs.length - 1 - i = i by omega]
theorem rvS_step (xs : List Str) (k : Nat) (h : 2 * k + 1 < xs.length) : ((rvS xs k).set k (xs.getD (xs.length - 1 - k) [])).set (xs.length - 1 - k) (xs.getD k []) = rvS xs (k + 1) := by
  refine ext_getD (by rw [List.length_set, List.length_set, rvS_len, rvS_len]) fun i hi => ?_
  rw [List.length_set, List.length_set, rvS_len] at hi
  rw [rvS_at xs (k + 1) i hi]
  by_cases c1 : xs.length - 1 - k = i
  · rw [if_pos (by omega), ← c1, getD_set_self _ _ _ _ (by rw [List.length_set, rvS_len]; omega), show xs.length - 1 - (xs.length - 1 - k) = k by omega]
  · rw [List.getD_eq_getElem?_getD, List.getElem?_set_ne c1, ← List.getD_eq_getElem?_getD]
    by_cases c2 : k = i
    · rw [if_pos (by omega), ← c2, getD_set_self _ _ _ _ (by rw [rvS_len]; omega)]
    · rw [List.getD_eq_getElem?_getD, List.getElem?_set_ne c2, ← List.getD_eq_getElem?_getD, rvS_at xs k i hi]
      by_cases c3 : i < k ∨ xs.length ≤ i + k
      · rw [if_pos c3, if_pos (by omega)]
      · rw [if_neg c3, if_neg (by omega)]
set_option maxHeartbeats 8000000 in
theorem rev_spec (xs : List Str) (hl : xs.length ≤ 1000000) : FnSpec Try.prog 69 [.one (.osl 0 0 xs.length none)] [⟨Strs xs, 1⟩] (.tup []) [some ⟨Strs xs.reverse, 1⟩] := by
  refine fnspec_of mixed TT_ok TT_cl ⟨fun _ => false, fun _ => [], 1, fun _ => false, fun _ => false⟩ Try.func69 rfl (by kernel_rfl) rfl 28 rfl [] rfl ?_
  simp only [go_sem, Nat.reduceEqDiff, Nat.reduceAdd, Nat.reduceSub, Nat.reduceMul, Nat.reduceLT, Nat.reduceLeDiff, ↓reduceIte, reduceCtorEq, List.reduceReplicate, Int.cast_ofNat_Int, Int.reduceEq, Int.reduceLT, Int.reduceLE]
  repeat' (first
    | with_reducible refine And.intro ?_ ?_
    | (intros; (try simp only [Bool.and_eq_true, Bool.or_eq_true, Bool.not_eq_true', Bool.not_eq_false', Bool.and_eq_false_iff, Bool.or_eq_false_iff, decide_eq_true_eq, decide_eq_false_iff_not] at *); omega)
    | ((first | refine s1_id ?_ | refine swp_id ?_ | refine sops_id ?_ | refine s2_id ?_); simp only [go_sem, Nat.reduceEqDiff, Nat.reduceAdd, Nat.reduceSub, Nat.reduceMul, Nat.reduceLT, Nat.reduceLeDiff, ↓reduceIte, reduceCtorEq, List.reduceReplicate, Int.cast_ofNat_Int, Int.reduceEq, Int.reduceLT, Int.reduceLE, SV.ren, SV.renL, Cell.ren, Row.ren, renO, bk, back, outUpsFrom, Ints_ren]))
  refine w_loop (ι := Nat) (fun k => ⟨[(0, .one (.osl 0 0 xs.length none)), (2, i1 k), (3, i1 ((xs.length : Int) - 1 - k))], [(0, some ⟨Strs (rvS xs k), 1⟩)], 1⟩) (fun k => 2 * k ≤ xs.length + 1) (fun k => xs.length - k) 0 ?_ (by omega) ?_
  · rw [rvS_0]
    (refine imp_ren _ _ _ [(0, 0, ⟨Strs xs, 1⟩)] (by simp) (by simp) (by simp) (Nat.le_of_ble_eq_true rfl) ?_ rfl (by simp only [List.forall_mem_cons, List.not_mem_nil, false_implies, implies_true, and_true, St.hpF, lookR, Nat.reduceEqDiff, if_true, if_false, ↓reduceIte, Strs_flat] <;> (repeat' apply And.intro) <;> (first | rfl | trivial)) (by simp only [List.forall_mem_cons, List.not_mem_nil, false_implies, implies_true, and_true, true_and, flat_cons, flat_nil, flat_ints, flat_bools, flat_app, Cell.refs, and_self, eq_self_iff_true, List.append_nil, Strs_flat]); simp only [List.map_cons, List.map_nil, List.forall_mem_cons, List.not_mem_nil, false_implies, implies_true, and_true, lk, slot, SV.ren, Cell.ren, toN, Nat.reduceEqDiff, if_true, if_false, ↓reduceIte, reduceCtorEq])
    all_goals ((repeat' apply And.intro) <;> (first | rfl | trivial | (simp only [Int.natCast_zero, Int.sub_zero]; done) | (simp only [Int.natCast_zero, Int.sub_zero]; rfl) | (simp only [Int.natCast_zero, Int.sub_zero]; trivial)))
  intro k hk
  simp only at hk ⊢
  by_cases c : 2 * k + 1 < xs.length
  case neg =>
    have c2 : ¬ (k : Int) < (xs.length : Int) - 1 - k := by omega
    rw [← rvS_end xs k (by omega)]
    simp only [go_sem, Nat.reduceEqDiff, Nat.reduceAdd, Nat.reduceSub, Nat.reduceMul, Nat.reduceLT, Nat.reduceLeDiff, ↓reduceIte, reduceCtorEq, List.reduceReplicate, Int.cast_ofNat_Int, Int.reduceEq, Int.reduceLT, Int.reduceLE, decide_eq_false c2]
    repeat' (first
    | ((first | refine s1_id ?_ | refine swp_id ?_ | refine sops_id ?_ | refine s2_id ?_); simp only [decide_eq_false c2, go_sem, Nat.reduceEqDiff, Nat.reduceAdd, Nat.reduceSub, Nat.reduceMul, Nat.reduceLT, Nat.reduceLeDiff, ↓reduceIte, reduceCtorEq, List.reduceReplicate, Int.cast_ofNat_Int, Int.reduceEq, Int.reduceLT, Int.reduceLE, SV.ren, SV.renL, Cell.ren, Row.ren, renO, bk, back, outUpsFrom, Ints_ren]))
    (refine fs_flat [(0, ⟨Strs (rvS xs k), 1⟩)] (by simp) (by simp only [List.map_cons, List.map_nil]; decide) (by simp only [go_sem, resV, resS, SV.ren, SV.renL, Cell.ren, St.tmF, St.hpF, idx, renO, Row.ren, evS, slot, lookR, Nat.reduceEqDiff, ↓reduceIte, reduceCtorEq, if_true, if_false, Option.getD_some, Option.getD_none, List.map_cons, List.map_nil, sLoad, readAt, readNeed, Ints_ren, Ints_length, Ints_getD, and_true, true_and, List.getD_cons_zero, List.getD_cons_succ]; try decide) ?_ (by simp only [List.forall_mem_cons, List.not_mem_nil, false_implies, implies_true, and_true, St.hpF, lookR, Nat.reduceEqDiff, if_true, if_false, ↓reduceIte, Strs_flat] <;> (repeat' apply And.intro) <;> (first | rfl | trivial)) (by simp only [List.forall_mem_cons, List.not_mem_nil, false_implies, implies_true, and_true, true_and, flat_cons, flat_nil, flat_ints, flat_bools, flat_app, Cell.refs, and_self, eq_self_iff_true, List.append_nil, Strs_flat]) ?_ <;> (try simp only [go_sem, resV, resS, SV.ren, SV.renL, Cell.ren, St.tmF, St.hpF, idx, renO, Row.ren, evS, slot, lookR, Nat.reduceEqDiff, ↓reduceIte, reduceCtorEq, if_true, if_false, Option.getD_some, Option.getD_none, List.map_cons, List.map_nil, sLoad, readAt, readNeed, Ints_ren, Ints_length, Ints_getD, and_true, true_and, List.getD_cons_zero, List.getD_cons_succ]) <;> (try rfl))
  have c2 : (k : Int) < (xs.length : Int) - 1 - k := by omega
  obtain ⟨j, hj, hj2⟩ : ∃ j : Nat, (xs.length : Int) - 1 - k = j ∧ j = xs.length - 1 - k := ⟨xs.length - 1 - k, by omega, rfl⟩
  have hst := rvS_step xs k c
  have hrl := rvS_len xs k
  have hrk := rvS_at xs k k (by omega)
  rw [if_neg (by omega)] at hrk
  have hrj := rvS_at xs k j (by omega)
  rw [if_neg (by omega)] at hrj
  rw [← hj2] at hst
  have hj3 : (xs.length : Int) - 1 - ((k + 1 : Nat) : Int) = (j : Int) - 1 := by omega
  rw [hj] at c2
  generalize rvS xs k = R at *
  have hRl := Strs_length R
  have q1 := Strs_getD' R k (.sc (.string (bs []))) (by omega)
  have q2 := Strs_getD' R j (.sc (.string (bs []))) (by omega)
  rw [hrk] at q1
  rw [hrj] at q2
  generalize xs.getD k [] = a at *
  generalize xs.getD j [] = b at *
  simp only [go_sem, Nat.reduceEqDiff, Nat.reduceAdd, Nat.reduceSub, Nat.reduceMul, Nat.reduceLT, Nat.reduceLeDiff, ↓reduceIte, reduceCtorEq, List.reduceReplicate, Int.cast_ofNat_Int, Int.reduceEq, Int.reduceLT, Int.reduceLE, hj, decide_eq_true c2, q1, q2]
  repeat' (first
    | with_reducible refine And.intro ?_ ?_
    | (unfold OKC; kernel_rfl)
    | (unfold EDG; kernel_rfl)
    | (intros; (try simp only [Bool.and_eq_true, Bool.or_eq_true, Bool.not_eq_true', Bool.not_eq_false', Bool.and_eq_false_iff, Bool.or_eq_false_iff, decide_eq_true_eq, decide_eq_false_iff_not] at *); omega)
    | ((first | refine s1_id ?_ | refine swp_id ?_ | refine sops_id ?_ | refine s2_id ?_); simp only [hj, decide_eq_true c2, q1, q2, hst, go_sem, Nat.reduceEqDiff, Nat.reduceAdd, Nat.reduceSub, Nat.reduceMul, Nat.reduceLT, Nat.reduceLeDiff, ↓reduceIte, reduceCtorEq, List.reduceReplicate, Int.cast_ofNat_Int, Int.reduceEq, Int.reduceLT, Int.reduceLE, SV.ren, SV.renL, Cell.ren, Row.ren, renO, bk, back, outUpsFrom, Ints_ren]))
  refine le_mk (k + 1) ?_ (by omega) (by omega)
  simp only [hj3, ← hst]
  (refine imp_ren _ _ _ [(0, 0, ⟨Strs ((R.set k b).set j a), 1⟩)] (by simp) (by simp) (by simp) (Nat.le_of_ble_eq_true rfl) ?_ rfl (by simp only [List.forall_mem_cons, List.not_mem_nil, false_implies, implies_true, and_true, St.hpF, lookR, Nat.reduceEqDiff, if_true, if_false, ↓reduceIte, Strs_flat] <;> (repeat' apply And.intro) <;> (first | rfl | trivial)) (by simp only [List.forall_mem_cons, List.not_mem_nil, false_implies, implies_true, and_true, true_and, flat_cons, flat_nil, flat_ints, flat_bools, flat_app, Cell.refs, and_self, eq_self_iff_true, List.append_nil, Strs_flat]); simp only [List.map_cons, List.map_nil, List.forall_mem_cons, List.not_mem_nil, false_implies, implies_true, and_true, lk, slot, SV.ren, Cell.ren, toN, Nat.reduceEqDiff, if_true, if_false, ↓reduceIte, reduceCtorEq])
  all_goals ((repeat' apply And.intro) <;> (first | rfl | trivial | (simp only [Int.natCast_add]; done) | (simp only [Int.natCast_add]; rfl) | (simp only [Int.natCast_add]; trivial)))
set_option maxHeartbeats 8000000 in
theorem tsame_spec (l : List Nd) (n : Int) (k k2 : Option Nat) (hl : l.length ≤ 1000000) : FnSpec Try.prog 12 [trV l k n, trV l k2 n] [] (b1 true) [] := by
  have hnl := nd_len l
  have cn : n = n := rfl
  have cl : (l.length : Int) = l.length := rfl
  refine fnspec_of mixed TT_ok TT_cl ⟨fun _ => false, fun _ => [], 0, fun _ => false, fun _ => false⟩ Try.func12 rfl (by kernel_rfl) rfl 38 rfl [.tmp 4] rfl ?_
  simp only [go_sem, Nat.reduceEqDiff, Nat.reduceAdd, Nat.reduceSub, Nat.reduceMul, Nat.reduceLT, Nat.reduceLeDiff, ↓reduceIte, reduceCtorEq, List.reduceReplicate, Int.cast_ofNat_Int, Int.reduceEq, Int.reduceLT, Int.reduceLE, decide_eq_true cn, decide_eq_true cl]
  repeat' (first
    | ((first | refine s1_id ?_ | refine swp_id ?_ | refine sops_id ?_ | refine s2_id ?_); simp only [decide_eq_true cn, decide_eq_true cl, go_sem, Nat.reduceEqDiff, Nat.reduceAdd, Nat.reduceSub, Nat.reduceMul, Nat.reduceLT, Nat.reduceLeDiff, ↓reduceIte, reduceCtorEq, List.reduceReplicate, Int.cast_ofNat_Int, Int.reduceEq, Int.reduceLT, Int.reduceLE, SV.ren, SV.renL, Cell.ren, Row.ren, renO, bk, back, outUpsFrom, Ints_ren]))
  refine w_loop (ι := Nat) (fun m => ⟨[(2, .one (.optr 0 0)), (3, .one (.optr 1 0)), (5, i1 m)], [(0, some ⟨[.gsl (Cs l) 0 l.length k, int n], 2⟩), (1, some ⟨[.gsl (Cs l) 0 l.length k2, int n], 2⟩)], 2⟩) (fun m => m ≤ l.length) (fun m => l.length - m) 0 ?_ (Nat.zero_le _) ?_
  · (refine imp_ren _ _ _ [(0, 0, ⟨[.gsl (Cs l) 0 l.length k, int n], 2⟩), (1, 1, ⟨[.gsl (Cs l) 0 l.length k2, int n], 2⟩)] (by simp) (by simp) (by simp) (Nat.le_of_ble_eq_true rfl) ?_ rfl (by simp only [List.forall_mem_cons, List.not_mem_nil, false_implies, implies_true, and_true, St.hpF, lookR, Nat.reduceEqDiff, if_true, if_false, ↓reduceIte] <;> (repeat' apply And.intro) <;> (first | rfl | trivial)) (by simp only [List.forall_mem_cons, List.not_mem_nil, false_implies, implies_true, and_true, true_and, flat_cons, flat_nil, flat_ints, flat_bools, flat_app, Cell.refs, and_self, eq_self_iff_true, List.append_nil]); simp only [List.map_cons, List.map_nil, List.forall_mem_cons, List.not_mem_nil, false_implies, implies_true, and_true, lk, slot, SV.ren, Cell.ren, toN, Nat.reduceEqDiff, if_true, if_false, ↓reduceIte, reduceCtorEq])
    all_goals ((repeat' apply And.intro) <;> (first | rfl | trivial))
  intro m hm
  simp only at hm ⊢
  rcases Nat.lt_or_ge m l.length with hlt | hge
  case inr =>
    have c : ¬ (m : Int) < (l.length : Int) := by omega
    simp only [go_sem, Nat.reduceEqDiff, Nat.reduceAdd, Nat.reduceSub, Nat.reduceMul, Nat.reduceLT, Nat.reduceLeDiff, ↓reduceIte, reduceCtorEq, List.reduceReplicate, Int.cast_ofNat_Int, Int.reduceEq, Int.reduceLT, Int.reduceLE, decide_eq_false c]
    repeat' (first
    | (apply fs_nil <;> (try simp only [go_sem, resV, resS, SV.ren, SV.renL, Cell.ren, St.tmF, St.hpF, idx, renO, Row.ren, evS, slot, lookR, Nat.reduceEqDiff, ↓reduceIte, reduceCtorEq, if_true, if_false, Option.getD_some, Option.getD_none, List.map_cons, List.map_nil, sLoad, readAt, readNeed, Ints_ren, Ints_length, Ints_getD, and_true, true_and, List.getD_cons_zero, List.getD_cons_succ]) <;> (try rfl)))
  have c : (m : Int) < (l.length : Int) := by omega
  have hN := nd_td l m hlt
  generalize gN l m = x at *
  obtain ⟨xi, xp, xn, xc, xk, xo⟩ := x
  simp only [ndc] at hN
  have r1 : xi = xi := rfl
  have r2 : xp = xp := rfl
  have r3 : xn = xn := rfl
  have r4 : xc = xc := rfl
  have r5 : xk = xk := rfl
  have r6 : xo = xo := rfl
  simp only [go_sem, Nat.reduceEqDiff, Nat.reduceAdd, Nat.reduceSub, Nat.reduceMul, Nat.reduceLT, Nat.reduceLeDiff, ↓reduceIte, reduceCtorEq, List.reduceReplicate, Int.cast_ofNat_Int, Int.reduceEq, Int.reduceLT, Int.reduceLE, decide_eq_true c, hN, decide_eq_true r1, decide_eq_true r2, decide_eq_true r3, decide_eq_true r4, decide_eq_true r5, decide_eq_true r6, beq_self_eq_true]
  repeat' (first
    | with_reducible refine And.intro ?_ ?_
    | (unfold OKC; kernel_rfl)
    | (unfold EDG; kernel_rfl)
    | (intros; (try simp only [Bool.and_eq_true, Bool.or_eq_true, Bool.not_eq_true', Bool.not_eq_false', Bool.and_eq_false_iff, Bool.or_eq_false_iff, decide_eq_true_eq, decide_eq_false_iff_not] at *); omega)
    | ((first | refine s1_id ?_ | refine swp_id ?_ | refine sops_id ?_ | refine s2_id ?_); simp only [decide_eq_true c, hN, decide_eq_true r1, decide_eq_true r2, decide_eq_true r3, decide_eq_true r4, decide_eq_true r5, decide_eq_true r6, beq_self_eq_true, List.flatten_cons, List.flatten_nil, List.append_nil, List.cons_append, List.nil_append, List.set_cons_zero, List.set_cons_succ, List.take_succ_cons, List.take_zero, List.take_nil, List.length_cons, List.length_nil, go_sem, Nat.reduceEqDiff, Nat.reduceAdd, Nat.reduceSub, Nat.reduceMul, Nat.reduceLT, Nat.reduceLeDiff, ↓reduceIte, reduceCtorEq, List.reduceReplicate, Int.cast_ofNat_Int, Int.reduceEq, Int.reduceLT, Int.reduceLE, SV.ren, SV.renL, Cell.ren, Row.ren, renO, bk, back, outUpsFrom, Ints_ren]))
  refine le_mk (m + 1) ?_ hlt (by omega)
  (refine imp_ren _ _ _ [(0, 0, ⟨[.gsl (Cs l) 0 l.length k, int n], 2⟩), (1, 1, ⟨[.gsl (Cs l) 0 l.length k2, int n], 2⟩)] (by simp) (by simp) (by simp) (Nat.le_of_ble_eq_true rfl) ?_ rfl (by simp only [List.forall_mem_cons, List.not_mem_nil, false_implies, implies_true, and_true, St.hpF, lookR, Nat.reduceEqDiff, if_true, if_false, ↓reduceIte] <;> (repeat' apply And.intro) <;> (first | rfl | trivial)) (by simp only [List.forall_mem_cons, List.not_mem_nil, false_implies, implies_true, and_true, true_and, flat_cons, flat_nil, flat_ints, flat_bools, flat_app, Cell.refs, and_self, eq_self_iff_true, List.append_nil]); simp only [List.map_cons, List.map_nil, List.forall_mem_cons, List.not_mem_nil, false_implies, implies_true, and_true, lk, slot, SV.ren, Cell.ren, toN, Nat.reduceEqDiff, if_true, if_false, ↓reduceIte, reduceCtorEq])
  all_goals ((repeat' apply And.intro) <;> (first | rfl | trivial | (simp only [Int.natCast_add]; done) | (simp only [Int.natCast_add]; rfl) | (simp only [Int.natCast_add]; trivial)))
def nmA (l : List Nd) (a : Int) : Str := (gN l (bsV Nd.i l a)).nm
def wayN (l : List Nd) (m : Nat) (U : List Int) : List Str := (U.take m).map (nmA l)
def paM (l : List Nd) (n id : Int) : Str × Bool := if hasM l n id = true then ((pJn (wayN l ((upL l id).length - 1) (upL l id)).reverse).1, decide ((pJn (wayN l ((upL l id).length - 1) (upL l id)).reverse).2 = 0)) else ([], false)
theorem wayN_succ (l : List Nd) (m : Nat) (U : List Int) (h : m < U.length) : wayN l (m + 1) U = wayN l m U ++ [nmA l (U.getD m 0)] := by
  unfold wayN
  rw [take_getD U m 0 h, List.map_append]; rfl
theorem wayN_len (l : List Nd) (m : Nat) (U : List Int) (h : m ≤ U.length) : (wayN l m U).length = m := by
  unfold wayN; rw [List.length_map, List.length_take]; omega
set_option maxHeartbeats 16000000 in
theorem tpath_spec (l : List Nd) (n id : Int) (hl : l.length ≤ 1000000) (hnm : NmR l) (hct : CtR l) : FnSpec Try.prog 47 [trV l none n, i1 id] [] (.tup [s1 (paM l n id).1, b1 (paM l n id).2]) [] := by
  have h1 := tanc_spec l n id hl hnm hct
  have hnl := nd_len l
  unfold paM
  cases hh : hasM l n id with
  | false =>
    have e : ancM l n id = [] := by unfold ancM; rw [hh]; rfl
    rw [e] at h1
    rw [if_neg Bool.false_ne_true]
    refine fnspec_of mixed TT_ok TT_cl ⟨fun _ => false, fun _ => [], 0, fun _ => false, fun _ => false⟩ Try.func47 rfl (by kernel_rfl) rfl 57 rfl [.tmp 4, .tmp 5] rfl ?_
    simp only [go_sem, Nat.reduceEqDiff, Nat.reduceAdd, Nat.reduceSub, Nat.reduceMul, Nat.reduceLT, Nat.reduceLeDiff, ↓reduceIte, reduceCtorEq, List.reduceReplicate, Int.cast_ofNat_Int, Int.reduceEq, Int.reduceLT, Int.reduceLE]
    repeat' (first
    | (apply cl_plain
       case hs => rfl
       case ha => (simp only [List.map_cons, List.map_nil, prepV, prepC, idx, hpL', lookR, Nat.reduceEqDiff, if_true, if_false]; rfl)
       case h => (first | exact h1 ..))
    | ((first | refine s1_id ?_ | refine swp_id ?_ | refine sops_id ?_ | refine s2_id ?_); simp only [List.flatten_cons, List.flatten_nil, List.append_nil, List.cons_append, List.nil_append, List.set_cons_zero, List.set_cons_succ, List.take_succ_cons, List.take_zero, List.take_nil, List.length_cons, List.length_nil, go_sem, Nat.reduceEqDiff, Nat.reduceAdd, Nat.reduceSub, Nat.reduceMul, Nat.reduceLT, Nat.reduceLeDiff, ↓reduceIte, reduceCtorEq, List.reduceReplicate, Int.cast_ofNat_Int, Int.reduceEq, Int.reduceLT, Int.reduceLE, SV.ren, SV.renL, Cell.ren, Row.ren, renO, bk, back, outUpsFrom, Ints_ren])
    | (apply fs_nil <;> (try simp only [go_sem, resV, resS, SV.ren, SV.renL, Cell.ren, St.tmF, St.hpF, idx, renO, Row.ren, evS, slot, lookR, Nat.reduceEqDiff, ↓reduceIte, reduceCtorEq, if_true, if_false, Option.getD_some, Option.getD_none, List.map_cons, List.map_nil, sLoad, readAt, readNeed, Ints_ren, Ints_length, Ints_getD, and_true, true_and, List.getD_cons_zero, List.getD_cons_succ]) <;> (try rfl)))
  | true =>
  have e : ancM l n id = upL l id := by unfold ancM; rw [hh, if_pos rfl]
  rw [e] at h1
  rw [if_pos rfl]
  obtain ⟨hk, y, hy, hyi⟩ := hasM_iff.1 hh
  obtain ⟨v, hv, hve⟩ := gN_mem l y hy
  have hV := (chkT_iff l n).1 hk
  have hvi : (gN l v).i = id := by rw [hve, hyi]
  have hin : ∀ a ∈ upL l id, bsV Nd.i l a < l.length ∧ bsF Nd.i l a = true := fun a ha => by
    rw [← hvi] at ha
    obtain ⟨t, ht, rfl⟩ := up_le hV v hv a ha
    obtain ⟨q1, q2⟩ := bs_found Nd.i l (fun i j hij hj => hV.asc i j hij hj) t (by omega)
    have q1' : bsV Nd.i l (gN l t).i = t := q1
    exact ⟨by rw [q1']; omega, q2⟩
  have hne : 0 < (upL l id).length := by
    rw [← hvi, upL_node hV.asc hv]; exact Nat.succ_pos _
  have hUl : (upL l id).length ≤ l.length := by have := upR_len l.reverse id; rw [List.length_reverse] at this; exact this
  generalize upL l id = U at *
  have cz : ¬ (U.length : Int) = 0 := by omega
  have hU1 : (U.length : Int) - 1 = ((U.length - 1 : Nat) : Int) := by omega
  clear hve hyi hvi hy hv e
  refine fnspec_of mixed TT_ok TT_cl ⟨fun _ => false, fun f => if f = 69 then [0] else [], 0, fun _ => false, fun _ => false⟩ Try.func47 rfl (by kernel_rfl) rfl 57 rfl [.tmp 4, .tmp 5] rfl ?_
  simp only [go_sem, Nat.reduceEqDiff, Nat.reduceAdd, Nat.reduceSub, Nat.reduceMul, Nat.reduceLT, Nat.reduceLeDiff, ↓reduceIte, reduceCtorEq, List.reduceReplicate, Int.cast_ofNat_Int, Int.reduceEq, Int.reduceLT, Int.reduceLE, decide_eq_false cz, hU1]
  repeat' (first
    | with_reducible refine And.intro ?_ ?_
    | (intros; (try simp only [Bool.and_eq_true, Bool.or_eq_true, Bool.not_eq_true', Bool.not_eq_false', Bool.and_eq_false_iff, Bool.or_eq_false_iff, decide_eq_true_eq, decide_eq_false_iff_not] at *); omega)
    | (apply cl_plain
       case hs => rfl
       case ha => (simp only [List.map_cons, List.map_nil, prepV, prepC, idx, hpL', lookR, Nat.reduceEqDiff, if_true, if_false]; rfl)
       case h => (first | exact h1 ..))
    | ((first | refine s1_id ?_ | refine swp_id ?_ | refine sops_id ?_ | refine s2_id ?_); simp only [decide_eq_false cz, hU1, Int.toNat_zero, Int.toNat_natCast, Nat.sub_zero, Nat.zero_mul, go_sem, Nat.reduceEqDiff, Nat.reduceAdd, Nat.reduceSub, Nat.reduceMul, Nat.reduceLT, Nat.reduceLeDiff, ↓reduceIte, reduceCtorEq, List.reduceReplicate, Int.cast_ofNat_Int, Int.reduceEq, Int.reduceLT, Int.reduceLE, SV.ren, SV.renL, Cell.ren, Row.ren, renO, bk, back, outUpsFrom, Ints_ren]))
  refine w_loop (ι := Nat) (fun m => ⟨[(2, .one (.optr 0 0)), (7, .one (.osl 1 0 (wayN l m U).length none)), (24, .one (.gsl (Ints U) 0 (U.length - 1) none)), (25, i1 (U.length - 1 : Nat)), (26, i1 m)], [(0, some ⟨[.gsl (Cs l) 0 l.length none, int n], 2⟩), (1, some ⟨Strs (wayN l m U), 1⟩)], 2⟩) (fun m => m ≤ U.length - 1) (fun m => U.length - 1 - m) 0 ?_ (Nat.zero_le _) ?_
  · (refine Imp.trans (imp_nilA _ _ 7 1 99 (by simp only []; omega) rfl) ?_)
    (refine imp_ren _ _ _ [(0, 0, ⟨[.gsl (Cs l) 0 l.length none, int n], 2⟩), (1, 99, ⟨[], 1⟩)] (by simp) (by simp) (by simp) (Nat.le_of_ble_eq_true rfl) ?_ rfl (by simp only [List.forall_mem_cons, List.not_mem_nil, false_implies, implies_true, and_true, St.hpF, lookR, Nat.reduceEqDiff, if_true, if_false, ↓reduceIte] <;> (repeat' apply And.intro) <;> (first | rfl | trivial)) (by simp only [List.forall_mem_cons, List.not_mem_nil, false_implies, implies_true, and_true, true_and, flat_cons, flat_nil, flat_ints, flat_bools, flat_app, Cell.refs, and_self, eq_self_iff_true, List.append_nil]); simp only [List.map_cons, List.map_nil, List.forall_mem_cons, List.not_mem_nil, false_implies, implies_true, and_true, lk, slot, SV.ren, Cell.ren, toN, Nat.reduceEqDiff, if_true, if_false, ↓reduceIte, reduceCtorEq])
    all_goals ((repeat' apply And.intro) <;> (first | rfl | trivial))
  clear h1
  intro m hm
  simp only at hm ⊢
  have hwl := wayN_len l m U (by omega)
  rcases Nat.lt_or_ge m (U.length - 1) with hlt | hge
  case inr =>
    have c : ¬ (m : Int) < ((U.length - 1 : Nat) : Int) := by omega
    obtain rfl : m = U.length - 1 := by omega
    have hw : ∀ s ∈ wayN l (U.length - 1) U, s.length ≤ 1000000000 := fun s hs => by
      unfold wayN at hs
      obtain ⟨a, ha, rfl⟩ := List.mem_map.1 hs
      exact hnm.at _ (hin a (List.mem_of_mem_take ha)).1
    generalize wayN l (U.length - 1) U = W at *
    have r1 := rev_spec W (by omega)
    have r2 := join_p W.reverse none (fun s hs => by have := hw s (List.mem_reverse.1 hs); omega) (by rw [List.length_reverse]; omega)
    generalize pJn W.reverse = R at *
    obtain ⟨R1, R2⟩ := R
    simp only [rJ] at r2
    have hWr : W.reverse.length = W.length := List.length_reverse
    simp only [gs, hWr] at r2
    simp only [go_sem, Nat.reduceEqDiff, Nat.reduceAdd, Nat.reduceSub, Nat.reduceMul, Nat.reduceLT, Nat.reduceLeDiff, ↓reduceIte, reduceCtorEq, List.reduceReplicate, Int.cast_ofNat_Int, Int.reduceEq, Int.reduceLT, Int.reduceLE, decide_eq_false c]
    repeat' (first
    | (apply cl_lend
       case hr => (simp only [List.map_cons, List.map_nil, hpL', lookR, Nat.reduceEqDiff, if_true, if_false]; first | exact map1 _ | exact map2 _ _ | exact map3 _ _ _)
       case ha => (simp only [List.map_cons, List.map_nil, prepV, prepC, idx, hpL', lookR, Nat.reduceEqDiff, if_true, if_false]; rfl)
       case hs => rfl
       case hn => decide
       case h => (first | exact r1 .. | exact r2 ..)
       case hf => (simp only [List.forall_mem_cons, List.not_mem_nil, false_implies, implies_true, and_true, true_and, flat_cons, flat_nil, flat_ints, flat_bools, flat_app, Strs_flat, Cell.refs, and_self, eq_self_iff_true, List.append_nil])
       case hl => (simp only [List.length_cons, List.length_nil]; decide))
    | (apply cl_show
       case ha => (simp only [List.map_cons, List.map_nil, prepV, prepC, idx, hpL', lookR, Nat.reduceEqDiff, if_true, if_false]; rfl)
       case hs => ((simp [snaps, SV.refs, Cell.refs, idx, hpL', lookR]) <;> (repeat' apply And.intro) <;> (first | exact Ints_isG _ | exact Strs_isG _))
       case h => (first | exact r1 .. | exact r2 ..)
       case hg => ((simp [SV.noG, SV.noGL, Cell.noG]) <;> (repeat' apply And.intro) <;> exact Ints_noG _))
    | ((first | refine s1_id ?_ | refine swp_id ?_ | refine sops_id ?_ | refine s2_id ?_); simp only [decide_eq_false c, Strs_ren, go_sem, Nat.reduceEqDiff, Nat.reduceAdd, Nat.reduceSub, Nat.reduceMul, Nat.reduceLT, Nat.reduceLeDiff, ↓reduceIte, reduceCtorEq, List.reduceReplicate, Int.cast_ofNat_Int, Int.reduceEq, Int.reduceLT, Int.reduceLE, SV.ren, SV.renL, Cell.ren, Row.ren, renO, bk, back, outUpsFrom, Ints_ren])
    | (apply fs_nil <;> (try simp only [go_sem, resV, resS, SV.ren, SV.renL, Cell.ren, St.tmF, St.hpF, idx, renO, Row.ren, evS, slot, lookR, Nat.reduceEqDiff, ↓reduceIte, reduceCtorEq, if_true, if_false, Option.getD_some, Option.getD_none, List.map_cons, List.map_nil, sLoad, readAt, readNeed, Ints_ren, Ints_length, Ints_getD, and_true, true_and, List.getD_cons_zero, List.getD_cons_succ]) <;> (try rfl)))
  have c : (m : Int) < ((U.length - 1 : Nat) : Int) := by omega
  have hmem : U.getD m 0 ∈ U := getD_mem U m 0 (by omega)
  obtain ⟨b1', b2'⟩ := hin _ hmem
  have h3 := index_spec l none (U.getD m 0) hl
  rw [b2'] at h3
  have hws := wayN_succ l m U (by omega)
  have hnmA : nmA l (U.getD m 0) = (gN l (bsV Nd.i l (U.getD m 0))).nm := rfl
  rw [hnmA] at hws
  have hU0 : (Ints U).getD m (.sc (.int .i64 0)) = int (U.getD m 0) := Ints_getD U m
  generalize bsV Nd.i l (U.getD m 0) = v at *
  have g3 := (nd_f l v b1' (.sc (.string (bs [])))).2.2.1
  generalize (gN l v).nm = nm at *
  have hUL := Ints_length U
  generalize wayN l m U = W at *
  have htk : List.take W.length (Strs W) = Strs W := List.take_of_length_le (by rw [Strs_length]; exact Nat.le_refl _)
  have hla : (W ++ [nm]).length = W.length + 1 := by simp
  simp only [go_sem, Nat.reduceEqDiff, Nat.reduceAdd, Nat.reduceSub, Nat.reduceMul, Nat.reduceLT, Nat.reduceLeDiff, ↓reduceIte, reduceCtorEq, List.reduceReplicate, Int.cast_ofNat_Int, Int.reduceEq, Int.reduceLT, Int.reduceLE, decide_eq_true c, g3]
  repeat' (first
    | with_reducible refine And.intro ?_ ?_
    | (intros; (try simp only [Bool.and_eq_true, Bool.or_eq_true, Bool.not_eq_true', Bool.not_eq_false', Bool.and_eq_false_iff, Bool.or_eq_false_iff, decide_eq_true_eq, decide_eq_false_iff_not] at *); omega)
    | (apply cl_plain
       case hs => rfl
       case ha => (simp only [List.map_cons, List.map_nil, prepV, prepC, idx, hpL', lookR, Nat.reduceEqDiff, if_true, if_false]; rfl)
       case h => (first | exact h3 ..))
    | ((first | refine s1_id ?_ | refine swp_id ?_ | refine sops_id ?_ | refine s2_id ?_); simp only [decide_eq_true c, g3, htk, Strs_app, List.flatten_cons, List.flatten_nil, List.append_nil, List.cons_append, List.nil_append, List.set_cons_zero, List.set_cons_succ, List.take_succ_cons, List.take_zero, List.take_nil, List.length_cons, List.length_nil, go_sem, Nat.reduceEqDiff, Nat.reduceAdd, Nat.reduceSub, Nat.reduceMul, Nat.reduceLT, Nat.reduceLeDiff, ↓reduceIte, reduceCtorEq, List.reduceReplicate, Int.cast_ofNat_Int, Int.reduceEq, Int.reduceLT, Int.reduceLE, SV.ren, SV.renL, Cell.ren, Row.ren, renO, bk, back, outUpsFrom, Ints_ren]))
  refine le_mk (m + 1) ?_ hlt (by omega)
  simp only [hws, hla]
  (refine imp_ren _ _ _ [(0, 0, ⟨[.gsl (Cs l) 0 l.length none, int n], 2⟩), (1, 23, ⟨Strs (W ++ [nm]), 1⟩)] (by simp) (by simp) (by simp) (Nat.le_of_ble_eq_true rfl) ?_ rfl (by simp only [List.forall_mem_cons, List.not_mem_nil, false_implies, implies_true, and_true, St.hpF, lookR, Nat.reduceEqDiff, if_true, if_false, ↓reduceIte, Strs_flat] <;> (repeat' apply And.intro) <;> (first | rfl | trivial)) (by simp only [List.forall_mem_cons, List.not_mem_nil, false_implies, implies_true, and_true, true_and, flat_cons, flat_nil, flat_ints, flat_bools, flat_app, Cell.refs, and_self, eq_self_iff_true, List.append_nil, Strs_flat]); simp only [List.map_cons, List.map_nil, List.forall_mem_cons, List.not_mem_nil, false_implies, implies_true, and_true, lk, slot, SV.ren, Cell.ren, toN, Nat.reduceEqDiff, if_true, if_false, ↓reduceIte, reduceCtorEq])
  all_goals ((repeat' apply And.intro) <;> (first | rfl | trivial | (simp only [Int.natCast_add]; done) | (simp only [Int.natCast_add]; rfl) | (simp only [Int.natCast_add]; trivial)))
end Go.Proofs.Ytnlgboiooabbiaa
-- NEWGO
-- PRUNE: cl_use
-- ISG: Cs_isG
-- FLAT: Cs_flat
namespace Go.Proofs.Ytnlgboiooabbiaa
set_option linter.unusedVariables false
set_option linter.unusedSimpArgs false
open Go.Proofs.Ytnlgboiooabbiaa.Sh
set_option maxRecDepth 20000
theorem VT.ctR {l : List Nd} {n : Int} (h : VT l n) : CtR l := fun x hx => by
  have := (h.vl.all x hx).2
  unfold rngOk at this
  simp only [Bool.and_eq_true, decide_eq_true_eq] at this
  omega
set_option maxHeartbeats 4000000 in
theorem same_spec (a b : List Int) (k k2 : Option Nat) (hl : a.length ≤ 9223372036854775806) : FnSpec Try.prog 27 [gi a k, gi b k2] [] (b1 (decide (a = b))) [] := by
  by_cases hlen : a.length = b.length
  case neg =>
    have c : ¬ (a.length : Int) = (b.length : Int) := by omega
    rw [decide_eq_false (fun e => hlen (by rw [e]))]
    refine fnspec_of mixed TT_ok TT_cl ⟨fun _ => false, fun _ => [], 0, fun _ => false, fun _ => false⟩ Try.func27 rfl (by kernel_rfl) rfl 26 rfl [.tmp 4] rfl ?_
    simp only [go_sem, Nat.reduceEqDiff, Nat.reduceAdd, Nat.reduceSub, Nat.reduceMul, Nat.reduceLT, Nat.reduceLeDiff, ↓reduceIte, reduceCtorEq, List.reduceReplicate, Int.cast_ofNat_Int, Int.reduceEq, Int.reduceLT, Int.reduceLE, decide_eq_false c]
    repeat' (first
    | (apply fs_nil <;> (try simp only [go_sem, resV, resS, SV.ren, SV.renL, Cell.ren, St.tmF, St.hpF, idx, renO, Row.ren, evS, slot, lookR, Nat.reduceEqDiff, ↓reduceIte, reduceCtorEq, if_true, if_false, Option.getD_some, Option.getD_none, List.map_cons, List.map_nil, sLoad, readAt, readNeed, Ints_ren, Ints_length, Ints_getD, and_true, true_and, List.getD_cons_zero, List.getD_cons_succ]) <;> (try rfl)))
  have hlen' : (a.length : Int) = (b.length : Int) := by omega
  refine fnspec_of mixed TT_ok TT_cl ⟨fun _ => false, fun _ => [], 0, fun _ => false, fun _ => false⟩ Try.func27 rfl (by kernel_rfl) rfl 26 rfl [.tmp 4] rfl ?_
  simp only [go_sem, Nat.reduceEqDiff, Nat.reduceAdd, Nat.reduceSub, Nat.reduceMul, Nat.reduceLT, Nat.reduceLeDiff, ↓reduceIte, reduceCtorEq, List.reduceReplicate, Int.cast_ofNat_Int, Int.reduceEq, Int.reduceLT, Int.reduceLE, hlen']
  repeat' (first
    | ((first | refine s1_id ?_ | refine swp_id ?_ | refine sops_id ?_ | refine s2_id ?_); simp only [hlen', go_sem, Nat.reduceEqDiff, Nat.reduceAdd, Nat.reduceSub, Nat.reduceMul, Nat.reduceLT, Nat.reduceLeDiff, ↓reduceIte, reduceCtorEq, List.reduceReplicate, Int.cast_ofNat_Int, Int.reduceEq, Int.reduceLT, Int.reduceLE, SV.ren, SV.renL, Cell.ren, Row.ren, renO, bk, back, outUpsFrom, Ints_ren]))
  refine w_loop (ι := Nat) (fun i => ⟨[(0, gi a k), (1, gi b k2), (5, i1 i)], [], 0⟩) (fun i => i ≤ a.length ∧ a.take i = b.take i) (fun i => a.length - i) 0 ?_ ⟨Nat.zero_le _, rfl⟩ ?_
  · (refine imp_sub _ _ _ [] (by simp) (by simp) (by simp) (Nat.zero_le _) ?_ rfl (by simp); simp only [List.forall_mem_cons, List.not_mem_nil, false_implies, implies_true, and_true, lk, slot, SV.ren, Cell.ren, Nat.reduceEqDiff, if_true, if_false, ↓reduceIte, reduceCtorEq])
    all_goals ((repeat' apply And.intro) <;> (first | rfl | trivial))
  rintro i ⟨hi, he⟩
  simp only at hi he ⊢
  rcases Nat.lt_or_ge i a.length with hlt | hge
  case inr =>
    have c : ¬ (i : Int) < (a.length : Int) := by omega
    rw [List.take_of_length_le hge, List.take_of_length_le (by omega)] at he
    rw [decide_eq_true he]
    simp only [go_sem, Nat.reduceEqDiff, Nat.reduceAdd, Nat.reduceSub, Nat.reduceMul, Nat.reduceLT, Nat.reduceLeDiff, ↓reduceIte, reduceCtorEq, List.reduceReplicate, Int.cast_ofNat_Int, Int.reduceEq, Int.reduceLT, Int.reduceLE, decide_eq_false c]
    repeat' (first
    | (apply fs_nil <;> (try simp only [go_sem, resV, resS, SV.ren, SV.renL, Cell.ren, St.tmF, St.hpF, idx, renO, Row.ren, evS, slot, lookR, Nat.reduceEqDiff, ↓reduceIte, reduceCtorEq, if_true, if_false, Option.getD_some, Option.getD_none, List.map_cons, List.map_nil, sLoad, readAt, readNeed, Ints_ren, Ints_length, Ints_getD, and_true, true_and, List.getD_cons_zero, List.getD_cons_succ]) <;> (try rfl)))
  have c : (i : Int) < (a.length : Int) := by omega
  have ha := take_getD a i 0 hlt
  have hb := take_getD b i 0 (by omega)
  by_cases hx : a.getD i 0 = b.getD i 0
  · have hn : a.take (i + 1) = b.take (i + 1) := by rw [ha, hb, he, hx]
    simp only [go_sem, Nat.reduceEqDiff, Nat.reduceAdd, Nat.reduceSub, Nat.reduceMul, Nat.reduceLT, Nat.reduceLeDiff, ↓reduceIte, reduceCtorEq, List.reduceReplicate, Int.cast_ofNat_Int, Int.reduceEq, Int.reduceLT, Int.reduceLE, decide_eq_true c, hx]
    repeat' (first
    | with_reducible refine And.intro ?_ ?_
    | (unfold OKC; kernel_rfl)
    | (unfold EDG; kernel_rfl)
    | (intros; (try simp only [Bool.and_eq_true, Bool.or_eq_true, Bool.not_eq_true', Bool.not_eq_false', Bool.and_eq_false_iff, Bool.or_eq_false_iff, decide_eq_true_eq, decide_eq_false_iff_not] at *); omega)
    | ((first | refine s1_id ?_ | refine swp_id ?_ | refine sops_id ?_ | refine s2_id ?_); simp only [decide_eq_true c, hx, go_sem, Nat.reduceEqDiff, Nat.reduceAdd, Nat.reduceSub, Nat.reduceMul, Nat.reduceLT, Nat.reduceLeDiff, ↓reduceIte, reduceCtorEq, List.reduceReplicate, Int.cast_ofNat_Int, Int.reduceEq, Int.reduceLT, Int.reduceLE, SV.ren, SV.renL, Cell.ren, Row.ren, renO, bk, back, outUpsFrom, Ints_ren]))
    refine le_mk (i + 1) ?_ ⟨hlt, hn⟩ (by omega)
    (refine imp_sub _ _ _ [] (by simp) (by simp) (by simp) (Nat.zero_le _) ?_ rfl (by simp); simp only [List.forall_mem_cons, List.not_mem_nil, false_implies, implies_true, and_true, lk, slot, SV.ren, Cell.ren, Nat.reduceEqDiff, if_true, if_false, ↓reduceIte, reduceCtorEq])
    all_goals ((repeat' apply And.intro) <;> (first | rfl | trivial | (simp only [Int.natCast_add]; done) | (simp only [Int.natCast_add]; rfl) | (simp only [Int.natCast_add]; trivial)))
  · rw [decide_eq_false (fun e => hx (by rw [e]))]
    simp only [go_sem, Nat.reduceEqDiff, Nat.reduceAdd, Nat.reduceSub, Nat.reduceMul, Nat.reduceLT, Nat.reduceLeDiff, ↓reduceIte, reduceCtorEq, List.reduceReplicate, Int.cast_ofNat_Int, Int.reduceEq, Int.reduceLT, Int.reduceLE, decide_eq_true c, decide_eq_false hx]
    repeat' (first
    | with_reducible refine And.intro ?_ ?_
    | (unfold OKC; kernel_rfl)
    | (unfold EDG; kernel_rfl)
    | (intros; (try simp only [Bool.and_eq_true, Bool.or_eq_true, Bool.not_eq_true', Bool.not_eq_false', Bool.and_eq_false_iff, Bool.or_eq_false_iff, decide_eq_true_eq, decide_eq_false_iff_not] at *); omega)
    | (apply fs_nil <;> (try simp only [go_sem, resV, resS, SV.ren, SV.renL, Cell.ren, St.tmF, St.hpF, idx, renO, Row.ren, evS, slot, lookR, Nat.reduceEqDiff, ↓reduceIte, reduceCtorEq, if_true, if_false, Option.getD_some, Option.getD_none, List.map_cons, List.map_nil, sLoad, readAt, readNeed, Ints_ren, Ints_length, Ints_getD, and_true, true_and, List.getD_cons_zero, List.getD_cons_succ]) <;> (try rfl)))
theorem sane5_spec : FnSpec Try.prog 13 [] [] (b1 true) [] := by
  have a1 := tadd_spec [⟨1, 0, [], 0, 0, 0⟩] 2 1 [97] (by decide) (fun x hx => by rw [List.mem_singleton.1 hx]; decide) (fun x hx => by rw [List.mem_singleton.1 hx]; decide) (by decide)
  have e1 : addM [⟨1, 0, [], 0, 0, 0⟩] 2 1 [97] = (([⟨1, 0, [], 0, 0, 0⟩, ⟨2, 1, [97], 0, 0, 0⟩], 3), 2, 0) := by kernel_rfl
  rw [e1] at a1
  have a2 := tadd_spec [⟨1, 0, [], 0, 0, 0⟩, ⟨2, 1, [97], 0, 0, 0⟩] 3 2 [98] (by decide) (fun x hx => by simp only [List.mem_cons, List.not_mem_nil, or_false] at hx; rcases hx with rfl | rfl <;> decide) (fun x hx => by simp only [List.mem_cons, List.not_mem_nil, or_false] at hx; rcases hx with rfl | rfl <;> decide) (by decide)
  obtain ⟨T2, hT2⟩ : ∃ T : List Nd, [⟨1, 0, [], 0, 0, 0⟩, ⟨2, 1, [97], 0, 0, 0⟩, ⟨3, 2, [98], 0, 0, 0⟩] = T := ⟨_, rfl⟩
  have e2 : addM [⟨1, 0, [], 0, 0, 0⟩, ⟨2, 1, [97], 0, 0, 0⟩] 3 2 [98] = ((T2, 4), 3, 0) := by rw [← hT2]; kernel_rfl
  rw [e2] at a2
  have nr : NmR T2 := fun x hx => by rw [← hT2] at hx; simp only [List.mem_cons, List.not_mem_nil, or_false] at hx; rcases hx with rfl | rfl | rfl <;> decide
  have cr : CtR T2 := fun x hx => by rw [← hT2] at hx; simp only [List.mem_cons, List.not_mem_nil, or_false] at hx; rcases hx with rfl | rfl | rfl <;> decide
  have a3 := tpath_spec T2 4 3 (by rw [← hT2]; decide) nr cr
  have e3 : paM T2 4 3 = ([47, 97, 47, 98], true) := by rw [← hT2]; kernel_rfl
  rw [e3] at a3
  have a4 := tanc_spec T2 4 3 (by rw [← hT2]; decide) nr cr
  have e4 : ancM T2 4 3 = [3, 2, 1] := by rw [← hT2]; kernel_rfl
  rw [e4] at a4
  have a5 := same_spec [3, 2, 1] [3, 2, 1] none (some 3) (by decide)
  rw [decide_eq_true rfl] at a5
  simp only [adV] at a1 a2
  obtain ⟨T1, hT1⟩ : ∃ T : List Nd, [⟨1, 0, [], 0, 0, 0⟩, ⟨2, 1, [97], 0, 0, 0⟩] = T := ⟨_, rfl⟩
  rw [hT1] at a1 a2
  clear hT1 hT2 nr cr e1 e2 e3 e4
  refine fnspec_of mixed TT_ok TT_cl ⟨fun _ => false, fun _ => [], 0 , fun i => if i = 41 then true else false, fun _ => false⟩ Try.func13 rfl (by kernel_rfl) rfl 48 rfl [.tmp 0] rfl ?_
  simp only [go_sem, Nat.reduceEqDiff, Nat.reduceAdd, Nat.reduceSub, Nat.reduceMul, Nat.reduceLT, Nat.reduceLeDiff, ↓reduceIte, reduceCtorEq, List.reduceReplicate, Int.cast_ofNat_Int, Int.reduceEq, Int.reduceLT, Int.reduceLE]
  repeat' (first
    | (apply cl_plain
       case hs => rfl
       case ha => (simp only [List.map_cons, List.map_nil, prepV, prepC, idx, hpL', lookR, Nat.reduceEqDiff, if_true, if_false]; rfl)
       case h => (first | exact tnew_spec .. | exact a1 .. | exact a2 .. | exact a3 .. | exact a4 .. | exact a5 ..))
    | (apply cl_show
       case ha => (simp only [List.map_cons, List.map_nil, prepV, prepC, idx, hpL', lookR, Nat.reduceEqDiff, if_true, if_false]; rfl)
       case hs => ((simp [snaps, SV.refs, Cell.refs, idx, hpL', lookR]) <;> (repeat' apply And.intro) <;> (first | exact Ints_isG _ | exact Cs_isG _))
       case h => (first | exact tnew_spec .. | exact a1 .. | exact a2 .. | exact a3 .. | exact a4 .. | exact a5 ..)
       case hg => ((simp [SV.noG, SV.noGL, Cell.noG]) <;> (repeat' apply And.intro) <;> exact Ints_noG _))
    | ((first | refine s1_id ?_ | refine swp_id ?_ | refine sops_id ?_ | refine s2_id ?_); simp only [List.flatten_cons, List.flatten_nil, List.append_nil, List.cons_append, List.nil_append, List.set_cons_zero, List.set_cons_succ, List.take_succ_cons, List.take_zero, List.take_nil, List.length_cons, List.length_nil, go_sem, Nat.reduceEqDiff, Nat.reduceAdd, Nat.reduceSub, Nat.reduceMul, Nat.reduceLT, Nat.reduceLeDiff, ↓reduceIte, reduceCtorEq, List.reduceReplicate, Int.cast_ofNat_Int, Int.reduceEq, Int.reduceLT, Int.reduceLE, SV.ren, SV.renL, Cell.ren, Row.ren, renO, bk, back, outUpsFrom, Ints_ren])
    | (apply fs_nil <;> (try simp only [go_sem, resV, resS, SV.ren, SV.renL, Cell.ren, St.tmF, St.hpF, idx, renO, Row.ren, evS, slot, lookR, Nat.reduceEqDiff, ↓reduceIte, reduceCtorEq, if_true, if_false, Option.getD_some, Option.getD_none, List.map_cons, List.map_nil, sLoad, readAt, readNeed, Ints_ren, Ints_length, Ints_getD, and_true, true_and, List.getD_cons_zero, List.getD_cons_succ]) <;> (try rfl)))
def dpN (i : Nat) : List Nd := (List.range (i + 1)).map fun j : Nat => ⟨(j : Int) + 1, (j : Int), if j = 0 then [] else [97], 0, 0, 0⟩
theorem dp_add0 : addM (dpN 0) 2 1 [97] = ((dpN 1, 3), 2, 0) := by kernel_rfl
theorem dp_add1 : addM (dpN 1) 3 2 [97] = ((dpN 2, 4), 3, 0) := by kernel_rfl
theorem dp_add2 : addM (dpN 2) 4 3 [97] = ((dpN 3, 5), 4, 0) := by kernel_rfl
theorem dp_add3 : addM (dpN 3) 5 4 [97] = ((dpN 4, 6), 5, 0) := by kernel_rfl
theorem dp_add4 : addM (dpN 4) 6 5 [97] = ((dpN 5, 7), 6, 0) := by kernel_rfl
theorem dp_add5 : addM (dpN 5) 7 6 [97] = ((dpN 6, 8), 7, 0) := by kernel_rfl
theorem dp_add6 : addM (dpN 6) 8 7 [97] = ((dpN 7, 9), 8, 0) := by kernel_rfl
theorem dp_add7 : addM (dpN 7) 9 8 [97] = ((dpN 8, 10), 9, 0) := by kernel_rfl
theorem dp_add (i : Nat) (h : i < 8) : addM (dpN i) ((i : Int) + 2) ((i : Int) + 1) [97] = ((dpN (i + 1), (i : Int) + 3), (i : Int) + 2, 0) := by
  have : i = 0 ∨ i = 1 ∨ i = 2 ∨ i = 3 ∨ i = 4 ∨ i = 5 ∨ i = 6 ∨ i = 7 := by omega
  rcases this with rfl | rfl | rfl | rfl | rfl | rfl | rfl | rfl
  · exact dp_add0
  · exact dp_add1
  · exact dp_add2
  · exact dp_add3
  · exact dp_add4
  · exact dp_add5
  · exact dp_add6
  · exact dp_add7
theorem dp_len (i : Nat) : (dpN i).length = i + 1 := by simp [dpN]
theorem dp_nr (i : Nat) : NmR (dpN i) := fun x hx => by
  unfold dpN at hx
  obtain ⟨j, _, rfl⟩ := List.mem_map.1 hx
  show (if j = 0 then ([] : Str) else [97]).length ≤ 1000000000
  split <;> decide
theorem dp_cr (i : Nat) : CtR (dpN i) := fun x hx => by
  unfold dpN at hx
  obtain ⟨j, _, rfl⟩ := List.mem_map.1 hx
  show -9223372036854775808 ≤ (0 : Int) ∧ (0 : Int) ≤ 9223372036854775807
  decide
theorem dp_last (i : Nat) : (gN (dpN i) i).i = (i : Int) + 1 := by
  show ((dpN i).getD i zn).i = _
  unfold dpN
  rw [List.getD_eq_getElem?_getD, List.getElem?_map, List.getElem?_range (Nat.lt_succ_self i)]; rfl
def wn (i : Nat) : Str := [97, (97 + i / 26).toUInt8, (97 + i % 26).toUInt8]
theorem wn_inj : ∀ j, j < 64 → ∀ k, k < 64 → wn j = wn k → j = k := by decide +kernel
theorem wn_ok : ∀ j, j < 64 → nmOk (wn j) = true := by decide +kernel
structure WI (l : List Nd) (m : Nat) : Prop where
  v : VL l ((m : Int) + 2)
  len : l.length = m + 1
  nm : ∀ y ∈ l, y.nm = [] ∨ ∃ j, 1 ≤ j ∧ j ≤ m ∧ y.nm = wn j
theorem WI.nr {l : List Nd} {m : Nat} (h : WI l m) : NmR l := fun x hx => by
  rcases h.nm x hx with e | ⟨j, _, _, e⟩
  · rw [e]; decide
  · rw [e]; show 3 ≤ _; decide
theorem WI.add {l : List Nd} {m : Nat} (h : WI l m) (hm : m < 63) : addM l ((m : Int) + 2) 1 (wn (m + 1)) = ((l ++ [newN ((m : Int) + 2) 1 (wn (m + 1))], (m : Int) + 2 + 1), (m : Int) + 2, 0) ∧ WI (l ++ [newN ((m : Int) + 2) 1 (wn (m + 1))]) (m + 1) := by
  have hV := h.v.vt
  have hlen := h.len
  have hroot := hV.root
  have hok := wn_ok (m + 1) (by omega)
  have hex : ∃ y ∈ l, y.i = 1 := ⟨gN l 0, getD_mem l 0 zn (by omega), hroot.1⟩
  have hup : upL l 1 = [1] := hV.up0
  have hh : hasM l ((m : Int) + 2) 1 = true := hasM_iff.2 ⟨(chkT_iff _ _).2 hV, hex⟩
  have hno : ∀ y ∈ l, ¬ (y.p = 1 ∧ y.nm = wn (m + 1)) := fun y hy ⟨_, e⟩ => by
    rcases h.nm y hy with e2 | ⟨j, h1, h2, e2⟩
    · rw [e2] at e; cases e
    · rw [e2] at e
      have := wn_inj j (by omega) (m + 1) (by omega) e
      omega
  constructor
  · unfold addM
    have ha : l.any (same1 1 (wn (m + 1))) = false := List.any_eq_false.2 fun y hy hs => by
      unfold same1 at hs
      rw [Bool.and_eq_true, decide_eq_true_eq, decide_eq_true_eq] at hs
      exact hno y hy hs
    rw [(chkT_iff _ _).2 hV, hok, hh, ha, if_neg (by decide), if_neg (by decide), if_neg (by decide), if_neg]
    unfold ancM
    rw [hh, if_pos rfl, hup]
    simp only [List.length_singleton]
    omega
  · have hv := VL.add h.v (p := 1) (s := wn (m + 1)) hok hex hno (by rw [hup]; decide) (by omega) (by omega)
    refine ⟨?_, by rw [List.length_append, hlen]; rfl, fun y hy => ?_⟩
    · have e : ((m + 1 : Nat) : Int) + 2 = (m : Int) + 2 + 1 := by omega
      rw [e]; exact hv
    · rw [List.mem_append, List.mem_singleton] at hy
      rcases hy with hy | rfl
      · rcases h.nm y hy with e | ⟨j, h1, h2, e⟩
        · exact Or.inl e
        · exact Or.inr ⟨j, h1, by omega, e⟩
      · exact Or.inr ⟨m + 1, by omega, Nat.le_refl _, rfl⟩
theorem addM_len (l : List Nd) (n p : Int) (s : Str) : (addM l n p s).1.1.length ≤ l.length + 1 := by
  unfold addM
  split
  · exact Nat.zero_le _
  · split
    · exact Nat.zero_le _
    · split
      · exact Nat.zero_le _
      · split
        · exact Nat.zero_le _
        · simp
theorem getT3 (A B D : List Nd × Int) (k : Nat) (hk : k < 3) : List.take 2 (List.drop (k * 2) [Cell.gsl (Cs A.1) 0 A.1.length none, int A.2, Cell.gsl (Cs B.1) 0 B.1.length none, int B.2, Cell.gsl (Cs D.1) 0 D.1.length none, int D.2]) = [Cell.gsl (Cs ([A, B, D].getD k ([], 0)).1) 0 ([A, B, D].getD k ([], 0)).1.length none, int ([A, B, D].getD k ([], 0)).2] := by
  match k, hk with
  | 0, _ => rfl
  | 1, _ => rfl
  | 2, _ => rfl
structure OkT (x : List Nd × Int) : Prop where
  ne : 1 ≤ x.1.length
  le : x.1.length ≤ 64
  nr : NmR x.1
  ct : CtR x.1
set_option maxHeartbeats 16000000 in
theorem limits5_spec (p q : Int) (hp : 0 ≤ p ∧ p < 256) (hq : 0 ≤ q ∧ q < 256) : FnSpec Try.prog 3 [.one (.sc (.int .u8 p)), .one (.sc (.int .u8 q))] [] (b1 true) [] := by
  have rnewO := rnew_spec
  refine fnspec_of mixed TT_ok TT_cl ⟨fun _ => false, fun _ => [], 0, fun _ => false, fun _ => false⟩ Try.func3 rfl (by kernel_rfl) rfl 117 rfl [.tmp 4] rfl ?_
  simp only [go_sem, Nat.reduceEqDiff, Nat.reduceAdd, Nat.reduceSub, Nat.reduceMul, Nat.reduceLT, Nat.reduceLeDiff, ↓reduceIte, reduceCtorEq, List.reduceReplicate, Int.cast_ofNat_Int, Int.reduceEq, Int.reduceLT, Int.reduceLE]
  repeat' (first
    | (apply cl_plain
       case hs => rfl
       case ha => (simp only [List.map_cons, List.map_nil, prepV, prepC, idx, hpL', lookR, Nat.reduceEqDiff, if_true, if_false]; rfl)
       case h => (first | exact rnewO ..))
    | ((first | refine s1_id ?_ | refine swp_id ?_ | refine sops_id ?_ | refine s2_id ?_); simp only [go_sem, Nat.reduceEqDiff, Nat.reduceAdd, Nat.reduceSub, Nat.reduceMul, Nat.reduceLT, Nat.reduceLeDiff, ↓reduceIte, reduceCtorEq, List.reduceReplicate, Int.cast_ofNat_Int, Int.reduceEq, Int.reduceLT, Int.reduceLE, SV.ren, SV.renL, Cell.ren, Row.ren, renO, bk, back, outUpsFrom, Ints_ren]))
  refine w_loop (ι := Nat) (fun i => ⟨[(0, .one (.sc (.int .u8 p))), (1, .one (.sc (.int .u8 q))), (5, .one (.optr 0 0)), (6, .one (.optr 1 0)), (7, i1 i)], [(0, some ⟨[.gsl (Cs (dpN i)) 0 (i + 1) none, int ((i : Int) + 2)], 2⟩), (1, some ⟨[.gsl (Cs ([⟨1, 0, [], 0, 0, 0⟩] : List Nd)) 0 1 none, int 2], 2⟩)], 2⟩) (fun i => i ≤ 8) (fun i => 8 - i) 0 ?_ (Nat.zero_le _) ?_
  · (refine imp_ren _ _ _ [(0, 3, ⟨[.gsl (Cs (dpN 0)) 0 1 none, int 2], 2⟩), (1, 4, ⟨[.gsl (Cs ([⟨1, 0, [], 0, 0, 0⟩] : List Nd)) 0 1 none, int 2], 2⟩)] (by simp) (by simp) (by simp) (Nat.le_of_ble_eq_true rfl) ?_ rfl (by simp only [List.forall_mem_cons, List.not_mem_nil, false_implies, implies_true, and_true, St.hpF, lookR, Nat.reduceEqDiff, if_true, if_false, ↓reduceIte] <;> (repeat' apply And.intro) <;> (first | rfl | trivial)) (by simp only [List.forall_mem_cons, List.not_mem_nil, false_implies, implies_true, and_true, true_and, flat_cons, flat_nil, flat_ints, flat_bools, flat_app, Cell.refs, and_self, eq_self_iff_true, List.append_nil]); simp only [List.map_cons, List.map_nil, List.forall_mem_cons, List.not_mem_nil, false_implies, implies_true, and_true, lk, slot, SV.ren, Cell.ren, toN, Nat.reduceEqDiff, if_true, if_false, ↓reduceIte, reduceCtorEq])
    all_goals ((repeat' apply And.intro) <;> (first | rfl | trivial))
  intro i hi
  simp only at hi ⊢
  rcases Nat.lt_or_ge i 8 with hlt | hge
  case inl =>
    have c : (i : Int) < 8 := by omega
    have hl := dp_len i
    have hl2 := dp_len (i + 1)
    obtain ⟨g1, _⟩ := nd_f (dpN i) i (by omega) (.sc (.int .i64 0))
    rw [dp_last i] at g1
    have hnl := nd_len (dpN i)
    have a1 := radd_spec (dpN i) none ((i : Int) + 2) ((i : Int) + 1) [97] (by omega) (dp_nr i) (by decide)
    rw [dp_add i hlt] at a1
    simp only [adV, trV, hl, hl2] at a1
    have e1 : ((i + 1 : Nat) : Int) - 1 = (i : Int) := by omega
    have e2 : ((i + 1 : Nat) : Int) + 2 = (i : Int) + 3 := by omega
    generalize dpN i = A at *
    simp only [go_sem, Nat.reduceEqDiff, Nat.reduceAdd, Nat.reduceSub, Nat.reduceMul, Nat.reduceLT, Nat.reduceLeDiff, ↓reduceIte, reduceCtorEq, List.reduceReplicate, Int.cast_ofNat_Int, Int.reduceEq, Int.reduceLT, Int.reduceLE, decide_eq_true c, e1, g1]
    repeat' (first
    | with_reducible refine And.intro ?_ ?_
    | (unfold OKC; kernel_rfl)
    | (unfold EDG; kernel_rfl)
    | (intros; (try simp only [Bool.and_eq_true, Bool.or_eq_true, Bool.not_eq_true', Bool.not_eq_false', Bool.and_eq_false_iff, Bool.or_eq_false_iff, decide_eq_true_eq, decide_eq_false_iff_not] at *); omega)
    | (apply cl_plain
       case hs => rfl
       case ha => (simp only [List.map_cons, List.map_nil, prepV, prepC, idx, hpL', lookR, Nat.reduceEqDiff, if_true, if_false]; rfl)
       case h => (first | exact a1 ..))
    | ((first | refine s1_id ?_ | refine swp_id ?_ | refine sops_id ?_ | refine s2_id ?_); simp only [decide_eq_true c, e1, g1, List.flatten_cons, List.flatten_nil, List.append_nil, List.cons_append, List.nil_append, List.set_cons_zero, List.set_cons_succ, List.take_succ_cons, List.take_zero, List.take_nil, List.length_cons, List.length_nil, go_sem, Nat.reduceEqDiff, Nat.reduceAdd, Nat.reduceSub, Nat.reduceMul, Nat.reduceLT, Nat.reduceLeDiff, ↓reduceIte, reduceCtorEq, List.reduceReplicate, Int.cast_ofNat_Int, Int.reduceEq, Int.reduceLT, Int.reduceLE, SV.ren, SV.renL, Cell.ren, Row.ren, renO, bk, back, outUpsFrom, Ints_ren]))
    refine le_mk (i + 1) ?_ hlt (by omega)
    simp only [e2]
    (refine imp_ren _ _ _ [(0, 0, ⟨[.gsl (Cs (dpN (i + 1))) 0 (i + 1 + 1) none, int ((i : Int) + 3)], 2⟩), (1, 1, ⟨[.gsl (Cs ([⟨1, 0, [], 0, 0, 0⟩] : List Nd)) 0 1 none, int 2], 2⟩)] (by simp) (by simp) (by simp) (Nat.le_of_ble_eq_true rfl) ?_ rfl (by simp only [List.forall_mem_cons, List.not_mem_nil, false_implies, implies_true, and_true, St.hpF, lookR, Nat.reduceEqDiff, if_true, if_false, ↓reduceIte] <;> (repeat' apply And.intro) <;> (first | rfl | trivial)) (by simp only [List.forall_mem_cons, List.not_mem_nil, false_implies, implies_true, and_true, true_and, flat_cons, flat_nil, flat_ints, flat_bools, flat_app, Cell.refs, and_self, eq_self_iff_true, List.append_nil]); simp only [List.map_cons, List.map_nil, List.forall_mem_cons, List.not_mem_nil, false_implies, implies_true, and_true, lk, slot, SV.ren, Cell.ren, toN, Nat.reduceEqDiff, if_true, if_false, ↓reduceIte, reduceCtorEq])
    all_goals ((repeat' apply And.intro) <;> (first | rfl | trivial | (simp only [Int.natCast_add]; done) | (simp only [Int.natCast_add]; rfl) | (simp only [Int.natCast_add]; trivial)))
  have c : ¬ (i : Int) < 8 := by omega
  obtain rfl : i = 8 := by omega
  have hOD : OkT (dpN 8, 10) := ⟨by rw [dp_len]; decide, by rw [dp_len]; decide, dp_nr 8, dp_cr 8⟩
  have hDl := dp_len 8
  generalize dpN 8 = DP at *
  simp only [go_sem, Nat.reduceEqDiff, Nat.reduceAdd, Nat.reduceSub, Nat.reduceMul, Nat.reduceLT, Nat.reduceLeDiff, ↓reduceIte, reduceCtorEq, List.reduceReplicate, Int.cast_ofNat_Int, Int.reduceEq, Int.reduceLT, Int.reduceLE, decide_eq_false c]
  repeat' (first
    | ((first | refine s1_id ?_ | refine swp_id ?_ | refine sops_id ?_ | refine s2_id ?_); simp only [decide_eq_false c, go_sem, Nat.reduceEqDiff, Nat.reduceAdd, Nat.reduceSub, Nat.reduceMul, Nat.reduceLT, Nat.reduceLeDiff, ↓reduceIte, reduceCtorEq, List.reduceReplicate, Int.cast_ofNat_Int, Int.reduceEq, Int.reduceLT, Int.reduceLE, SV.ren, SV.renL, Cell.ren, Row.ren, renO, bk, back, outUpsFrom, Ints_ren]))
  refine w_loop (ι := Nat × List Nd) (fun s => ⟨[(0, .one (.sc (.int .u8 p))), (1, .one (.sc (.int .u8 q))), (5, .one (.optr 0 0)), (6, .one (.optr 1 0)), (8, i1 ((s.1 : Int) + 1))], [(0, some ⟨[.gsl (Cs DP) 0 9 none, int 10], 2⟩), (1, some ⟨[.gsl (Cs s.2) 0 s.2.length none, int ((s.1 : Int) + 2)], 2⟩)], 2⟩) (fun s => s.1 ≤ 63 ∧ WI s.2 s.1) (fun s => 63 - s.1) (0, [⟨1, 0, [], 0, 0, 0⟩]) ?_ ⟨Nat.zero_le _, ⟨VL_new, rfl, fun y hy => by rw [List.mem_singleton.1 hy]; exact Or.inl rfl⟩⟩ ?_
  · (refine imp_ren _ _ _ [(0, 0, ⟨[.gsl (Cs DP) 0 9 none, int 10], 2⟩), (1, 1, ⟨[.gsl (Cs ([⟨1, 0, [], 0, 0, 0⟩] : List Nd)) 0 1 none, int 2], 2⟩)] (by simp) (by simp) (by simp) (Nat.le_of_ble_eq_true rfl) ?_ rfl (by simp only [List.forall_mem_cons, List.not_mem_nil, false_implies, implies_true, and_true, St.hpF, lookR, Nat.reduceEqDiff, if_true, if_false, ↓reduceIte] <;> (repeat' apply And.intro) <;> (first | rfl | trivial)) (by simp only [List.forall_mem_cons, List.not_mem_nil, false_implies, implies_true, and_true, true_and, flat_cons, flat_nil, flat_ints, flat_bools, flat_app, Cell.refs, and_self, eq_self_iff_true, List.append_nil]); simp only [List.map_cons, List.map_nil, List.forall_mem_cons, List.not_mem_nil, false_implies, implies_true, and_true, lk, slot, SV.ren, Cell.ren, toN, Nat.reduceEqDiff, if_true, if_false, ↓reduceIte, reduceCtorEq])
    all_goals ((repeat' apply And.intro) <;> (first | rfl | trivial))
  rintro ⟨m, l⟩ ⟨hm, hW⟩
  simp only at hm hW ⊢
  rcases Nat.lt_or_ge m 63 with hlt | hge
  case inl =>
    have c : (m : Int) + 1 < 64 := by omega
    obtain ⟨ea, hW2⟩ := hW.add hlt
    have a1 := radd_spec l none ((m : Int) + 2) 1 (wn (m + 1)) (by have := hW.len; omega) hW.nr (by show 3 ≤ _; decide)
    rw [ea] at a1
    simp only [adV] at a1
    obtain ⟨dd, hd1, hd2, hd3⟩ : ∃ d : Nat, ((m : Int) + 1).tdiv 26 = d ∧ d ≤ 2 ∧ d = (m + 1) / 26 := ⟨(m + 1) / 26, by rw [Int.tdiv_eq_ediv_of_nonneg (by omega)]; omega, by omega, rfl⟩
    obtain ⟨rr, hr1, hr2, hr3⟩ : ∃ d : Nat, ((m : Int) + 1).tmod 26 = d ∧ d < 26 ∧ d = (m + 1) % 26 := ⟨(m + 1) % 26, by rw [Int.tmod_eq_emod_of_nonneg (by omega)]; omega, by omega, rfl⟩
    have hwn : [97, UInt8.ofNat ((97 : Int) + dd).toNat, UInt8.ofNat ((97 : Int) + rr).toNat] = wn (m + 1) := by
      unfold wn
      rw [← hd3, ← hr3, show ((97 : Int) + dd).toNat = 97 + dd by omega, show ((97 : Int) + rr).toNat = 97 + rr by omega]
    have in1 : inR .u8 ((97 : Int) + dd) := ⟨show (0 : Int) ≤ _ by omega, show _ ≤ (255 : Int) by omega⟩
    have in2 : inR .u8 ((97 : Int) + rr) := ⟨show (0 : Int) ≤ _ by omega, show _ ≤ (255 : Int) by omega⟩
    have hcs : ((m + 1 : Nat) : Int) + 1 = (m : Int) + 1 + 1 := by omega
    have hcs2 : ((m + 1 : Nat) : Int) + 2 = (m : Int) + 2 + 1 := by omega
    generalize wn (m + 1) = ww at *
    generalize l ++ [newN ((m : Int) + 2) 1 ww] = l2 at *
    rw [← hwn] at a1
    clear hwn
    simp only [go_sem, Nat.reduceEqDiff, Nat.reduceAdd, Nat.reduceSub, Nat.reduceMul, Nat.reduceLT, Nat.reduceLeDiff, ↓reduceIte, reduceCtorEq, List.reduceReplicate, Int.cast_ofNat_Int, Int.reduceEq, Int.reduceLT, Int.reduceLE, decide_eq_true c, hd1, hr1]
    repeat' (first
    | with_reducible refine And.intro ?_ ?_
    | (intros; (try simp only [Bool.and_eq_true, Bool.or_eq_true, Bool.not_eq_true', Bool.not_eq_false', Bool.and_eq_false_iff, Bool.or_eq_false_iff, decide_eq_true_eq, decide_eq_false_iff_not] at *); omega)
    | (apply cl_plain
       case hs => rfl
       case ha => (simp only [List.map_cons, List.map_nil, prepV, prepC, idx, hpL', lookR, Nat.reduceEqDiff, if_true, if_false]; rfl)
       case h => (first | exact a1 ..))
    | ((first | refine s1_id ?_ | refine swp_id ?_ | refine sops_id ?_ | refine s2_id ?_); simp only [decide_eq_true c, hd1, hr1, List.flatten_cons, List.flatten_nil, List.append_nil, List.cons_append, List.nil_append, List.set_cons_zero, List.set_cons_succ, List.take_succ_cons, List.take_zero, List.take_nil, List.length_cons, List.length_nil, go_sem, Nat.reduceEqDiff, Nat.reduceAdd, Nat.reduceSub, Nat.reduceMul, Nat.reduceLT, Nat.reduceLeDiff, ↓reduceIte, reduceCtorEq, List.reduceReplicate, Int.cast_ofNat_Int, Int.reduceEq, Int.reduceLT, Int.reduceLE, SV.ren, SV.renL, Cell.ren, Row.ren, renO, bk, back, outUpsFrom, Ints_ren]))
    all_goals try exact in1
    all_goals try exact in2
    refine le_mk (m + 1, l2) ?_ ⟨hlt, hW2⟩ (by show 63 - (m + 1) < 63 - m; omega)
    simp only [hcs, hcs2]
    (refine imp_ren _ _ _ [(0, 0, ⟨[.gsl (Cs DP) 0 9 none, int 10], 2⟩), (1, 1, ⟨[.gsl (Cs l2) 0 l2.length none, int ((m : Int) + 2 + 1)], 2⟩)] (by simp) (by simp) (by simp) (Nat.le_of_ble_eq_true rfl) ?_ rfl (by simp only [List.forall_mem_cons, List.not_mem_nil, false_implies, implies_true, and_true, St.hpF, lookR, Nat.reduceEqDiff, if_true, if_false, ↓reduceIte] <;> (repeat' apply And.intro) <;> (first | rfl | trivial)) (by simp only [List.forall_mem_cons, List.not_mem_nil, false_implies, implies_true, and_true, true_and, flat_cons, flat_nil, flat_ints, flat_bools, flat_app, Cell.refs, and_self, eq_self_iff_true, List.append_nil]); simp only [List.map_cons, List.map_nil, List.forall_mem_cons, List.not_mem_nil, false_implies, implies_true, and_true, lk, slot, SV.ren, Cell.ren, toN, Nat.reduceEqDiff, if_true, if_false, ↓reduceIte, reduceCtorEq])
    all_goals ((repeat' apply And.intro) <;> (first | rfl | trivial | (simp only [Int.natCast_add]; done) | (simp only [Int.natCast_add]; rfl) | (simp only [Int.natCast_add]; trivial)))
  have c : ¬ (m : Int) + 1 < 64 := by omega
  obtain rfl : m = 63 := by omega
  have hOW : OkT (l, 65) := ⟨by show 1 ≤ l.length; have := hW.len; omega, by show l.length ≤ 64; have := hW.len; omega, hW.nr, hW.v.vt.ctR⟩
  obtain ⟨q3, hq1, hq2⟩ : ∃ d : Int, q.tmod 3 = d ∧ 0 ≤ d ∧ d < 3 := ⟨q % 3, Int.tmod_eq_emod_of_nonneg hq.1, Int.emod_nonneg _ (by decide), Int.emod_lt_of_pos _ (by decide)⟩
  have hOO : OkT (([⟨1, 0, [], 0, 0, 0⟩] : List Nd), (2147483648 : Int) - q3) := ⟨by show 1 ≤ 1; decide, by show 1 ≤ 64; decide, (fun x hx => by rw [List.mem_singleton.1 hx]; decide), (fun x hx => by rw [List.mem_singleton.1 hx]; decide)⟩
  have h65 : ((63 : Nat) : Int) + 2 = 65 := by decide
  have iq1 : inR .u8 q3 := ⟨show (0 : Int) ≤ _ by omega, show _ ≤ (255 : Int) by omega⟩
  generalize ([⟨1, 0, [], 0, 0, 0⟩] : List Nd) = O at *
  simp only [go_sem, Nat.reduceEqDiff, Nat.reduceAdd, Nat.reduceSub, Nat.reduceMul, Nat.reduceLT, Nat.reduceLeDiff, ↓reduceIte, reduceCtorEq, List.reduceReplicate, Int.cast_ofNat_Int, Int.reduceEq, Int.reduceLT, Int.reduceLE, decide_eq_false c, hq1, h65]
  repeat' (first
    | with_reducible refine And.intro ?_ ?_
    | (intros; (try simp only [Bool.and_eq_true, Bool.or_eq_true, Bool.not_eq_true', Bool.not_eq_false', Bool.and_eq_false_iff, Bool.or_eq_false_iff, decide_eq_true_eq, decide_eq_false_iff_not] at *); omega)
    | (refine gt_if (fun h => ?_) (fun h => ?_) <;> (try simp only [h]))
    | (apply cl_plain
       case hs => rfl
       case ha => (simp only [List.map_cons, List.map_nil, prepV, prepC, idx, hpL', lookR, Nat.reduceEqDiff, if_true, if_false]; rfl)
       case h => (first | exact rnewO ..))
    | ((first | refine s1_id ?_ | refine swp_id ?_ | refine sops_id ?_ | refine s2_id ?_); simp only [decide_eq_false c, hq1, h65, List.flatten_cons, List.flatten_nil, List.append_nil, List.cons_append, List.nil_append, List.set_cons_zero, List.set_cons_succ, List.take_succ_cons, List.take_zero, List.take_nil, List.length_cons, List.length_nil, go_sem, Nat.reduceEqDiff, Nat.reduceAdd, Nat.reduceSub, Nat.reduceMul, Nat.reduceLT, Nat.reduceLeDiff, ↓reduceIte, reduceCtorEq, List.reduceReplicate, Int.cast_ofNat_Int, Int.reduceEq, Int.reduceLT, Int.reduceLE, SV.ren, SV.renL, Cell.ren, Row.ren, renO, bk, back, outUpsFrom, Ints_ren]))
  all_goals try exact iq1
  all_goals try decide
  refine w_loop (ι := Nat) (fun k => ⟨[(0, .one (.sc (.int .u8 p))), (70, .one (.osl 0 0 3 (some 3))), (71, i1 3), (72, i1 k)], [(0, some ⟨[Cell.gsl (Cs DP) 0 DP.length none, int 10, Cell.gsl (Cs l) 0 l.length none, int 65, Cell.gsl (Cs O) 0 O.length none, int (2147483648 - q3)], 2⟩)], 1⟩) (fun k => k ≤ 3) (fun k => 3 - k) 0 ?_ (Nat.zero_le _) ?_
  · simp only [hDl]
    (refine imp_ren _ _ _ [(0, 16, ⟨[Cell.gsl (Cs DP) 0 (8 + 1) none, int 10, Cell.gsl (Cs l) 0 l.length none, int 65, Cell.gsl (Cs O) 0 O.length none, int (2147483648 - q3)], 2⟩)] (by simp) (by simp) (by simp) (Nat.le_of_ble_eq_true rfl) ?_ rfl (by simp only [List.forall_mem_cons, List.not_mem_nil, false_implies, implies_true, and_true, St.hpF, lookR, Nat.reduceEqDiff, if_true, if_false, ↓reduceIte] <;> (repeat' apply And.intro) <;> (first | rfl | trivial)) (by simp only [List.forall_mem_cons, List.not_mem_nil, false_implies, implies_true, and_true, true_and, flat_cons, flat_nil, flat_ints, flat_bools, flat_app, Cell.refs, and_self, eq_self_iff_true, List.append_nil]); simp only [List.map_cons, List.map_nil, List.forall_mem_cons, List.not_mem_nil, false_implies, implies_true, and_true, lk, slot, SV.ren, Cell.ren, toN, Nat.reduceEqDiff, if_true, if_false, ↓reduceIte, reduceCtorEq])
    all_goals ((repeat' apply And.intro) <;> (first | rfl | trivial))
  clear rnewO hW
  intro k hk
  simp only at hk ⊢
  rcases Nat.lt_or_ge k 3 with hlt | hge
  case inr =>
    have c : ¬ (k : Int) < 3 := by omega
    simp only [go_sem, Nat.reduceEqDiff, Nat.reduceAdd, Nat.reduceSub, Nat.reduceMul, Nat.reduceLT, Nat.reduceLeDiff, ↓reduceIte, reduceCtorEq, List.reduceReplicate, Int.cast_ofNat_Int, Int.reduceEq, Int.reduceLT, Int.reduceLE, decide_eq_false c]
    repeat' (first
    | (apply cl_plain
       case hs => rfl
       case ha => (simp only [List.map_cons, List.map_nil, prepV, prepC, idx, hpL', lookR, Nat.reduceEqDiff, if_true, if_false]; rfl)
       case h => (first | exact sane5_spec ..))
    | ((first | refine s1_id ?_ | refine swp_id ?_ | refine sops_id ?_ | refine s2_id ?_); simp only [decide_eq_false c, go_sem, Nat.reduceEqDiff, Nat.reduceAdd, Nat.reduceSub, Nat.reduceMul, Nat.reduceLT, Nat.reduceLeDiff, ↓reduceIte, reduceCtorEq, List.reduceReplicate, Int.cast_ofNat_Int, Int.reduceEq, Int.reduceLT, Int.reduceLE, SV.ren, SV.renL, Cell.ren, Row.ren, renO, bk, back, outUpsFrom, Ints_ren])
    | (apply fs_nil <;> (try simp only [go_sem, resV, resS, SV.ren, SV.renL, Cell.ren, St.tmF, St.hpF, idx, renO, Row.ren, evS, slot, lookR, Nat.reduceEqDiff, ↓reduceIte, reduceCtorEq, if_true, if_false, Option.getD_some, Option.getD_none, List.map_cons, List.map_nil, sLoad, readAt, readNeed, Ints_ren, Ints_length, Ints_getD, and_true, true_and, List.getD_cons_zero, List.getD_cons_succ]) <;> (try rfl)))
  have c : (k : Int) < 3 := by omega
  have hT := getT3 (DP, 10) (l, 65) (O, 2147483648 - q3) k hlt
  have hOK : OkT ([(DP, (10 : Int)), (l, 65), (O, 2147483648 - q3)].getD k ([], 0)) := by
    match k, hlt with
    | 0, _ => exact hOD
    | 1, _ => exact hOW
    | 2, _ => exact hOO
  simp only at hT
  generalize [(DP, (10 : Int)), (l, 65), (O, 2147483648 - q3)].getD k ([], 0) = X at *
  obtain ⟨E, nE⟩ := X
  obtain ⟨o1, o2, o3, o4⟩ := hOK
  simp only at hT o1 o2 o3 o4
  obtain ⟨w, hw1, hw2⟩ : ∃ w : Nat, p.tmod (E.length : Int) = w ∧ w < E.length := by
    refine ⟨(p % (E.length : Int)).toNat, ?_, ?_⟩
    · rw [Int.tmod_eq_emod_of_nonneg hp.1]
      have := Int.emod_nonneg p (show (E.length : Int) ≠ 0 by omega)
      omega
    · have h1 := Int.emod_nonneg p (show (E.length : Int) ≠ 0 by omega)
      have h2 := Int.emod_lt_of_pos p (show (0 : Int) < (E.length : Int) by omega)
      omega
  obtain ⟨g1, _⟩ := nd_f E w hw2 (.sc (.int .i64 0))
  have hnl := nd_len E
  generalize (gN E w).i = gi' at *
  have a1 := tadd_spec E nE gi' [110, 101, 119] (by omega) o3 o4 (by decide)
  have a2 := radd_spec E none nE gi' [110, 101, 119] (by omega) o3 (by decide)
  have hal := addM_len E nE gi' [110, 101, 119]
  generalize addM E nE gi' [110, 101, 119] = R at *
  obtain ⟨⟨la, na⟩, ia, ea⟩ := R
  simp only [adV] at a1 a2 hal
  have a3 := tsame_spec la na none none (by omega)
  have r1 : ia = ia := rfl
  have r2 : ea = ea := rfl
  have cE : ¬ (E.length : Int) = 0 := by omega
  simp only [go_sem, Nat.reduceEqDiff, Nat.reduceAdd, Nat.reduceSub, Nat.reduceMul, Nat.reduceLT, Nat.reduceLeDiff, ↓reduceIte, reduceCtorEq, List.reduceReplicate, Int.cast_ofNat_Int, Int.reduceEq, Int.reduceLT, Int.reduceLE, decide_eq_true c, hT, hw1, g1, decide_eq_true r1, decide_eq_true r2]
  repeat' (first
    | with_reducible refine And.intro ?_ ?_
    | (unfold OKC; kernel_rfl)
    | (unfold EDG; kernel_rfl)
    | (intros; (try simp only [Bool.and_eq_true, Bool.or_eq_true, Bool.not_eq_true', Bool.not_eq_false', Bool.and_eq_false_iff, Bool.or_eq_false_iff, decide_eq_true_eq, decide_eq_false_iff_not] at *); omega)
    | (apply cg_tp
       case hl => rfl
       case ha => (simp only [List.map_cons, List.map_nil, prepV, prepC, idx, hpL', lookR, Nat.reduceEqDiff, if_true, if_false]; rfl)
       case hs => rfl
       case h => (first | exact a1 .. | exact a2 .. | exact a3 ..))
    | (apply cl_plain
       case hs => rfl
       case ha => (simp only [List.map_cons, List.map_nil, prepV, prepC, idx, hpL', lookR, Nat.reduceEqDiff, if_true, if_false]; rfl)
       case h => (first | exact a1 .. | exact a2 .. | exact a3 ..))
    | ((first | refine s1_id ?_ | refine swp_id ?_ | refine sops_id ?_ | refine s2_id ?_); simp only [decide_eq_true c, hT, hw1, g1, decide_eq_true r1, decide_eq_true r2, decide_eq_false cE, List.flatten_cons, List.flatten_nil, List.append_nil, List.cons_append, List.nil_append, List.set_cons_zero, List.set_cons_succ, List.take_succ_cons, List.take_zero, List.take_nil, List.length_cons, List.length_nil, go_sem, Nat.reduceEqDiff, Nat.reduceAdd, Nat.reduceSub, Nat.reduceMul, Nat.reduceLT, Nat.reduceLeDiff, ↓reduceIte, reduceCtorEq, List.reduceReplicate, Int.cast_ofNat_Int, Int.reduceEq, Int.reduceLT, Int.reduceLE, SV.ren, SV.renL, Cell.ren, Row.ren, renO, bk, back, outUpsFrom, Ints_ren]))
  refine le_mk (k + 1) ?_ hlt (by omega)
  (refine imp_ren _ _ _ [(0, 0, ⟨[Cell.gsl (Cs DP) 0 DP.length none, int 10, Cell.gsl (Cs l) 0 l.length none, int 65, Cell.gsl (Cs O) 0 O.length none, int (2147483648 - q3)], 2⟩)] (by simp) (by simp) (by simp) (Nat.le_of_ble_eq_true rfl) ?_ rfl (by simp only [List.forall_mem_cons, List.not_mem_nil, false_implies, implies_true, and_true, St.hpF, lookR, Nat.reduceEqDiff, if_true, if_false, ↓reduceIte] <;> (repeat' apply And.intro) <;> (first | rfl | trivial)) (by simp only [List.forall_mem_cons, List.not_mem_nil, false_implies, implies_true, and_true, true_and, flat_cons, flat_nil, flat_ints, flat_bools, flat_app, Cell.refs, and_self, eq_self_iff_true, List.append_nil]); simp only [List.map_cons, List.map_nil, List.forall_mem_cons, List.not_mem_nil, false_implies, implies_true, and_true, lk, slot, SV.ren, Cell.ren, toN, Nat.reduceEqDiff, if_true, if_false, ↓reduceIte, reduceCtorEq])
  all_goals ((repeat' apply And.intro) <;> (first | rfl | trivial | (simp only [Int.natCast_add]; done) | (simp only [Int.natCast_add]; rfl) | (simp only [Int.natCast_add]; trivial)))
theorem limits5_main (g0 : List Cell) (s0 : GTy Try.prog 12 5 g0) (g1 : List Cell) (s1 : GTy Try.prog 12 5 g1) : FnSpec Try.prog 3 [svOf Try.prog 5 g0, svOf Try.prog 5 g1] [] (b1 true) [] := by
  obtain ⟨a, rfl, ha⟩ := gty_int (n := 11) Try.underlying5 s0
  obtain ⟨b, rfl, hb⟩ := gty_int (n := 11) Try.underlying5 s1
  simp only [svOf, Try.underlying5, Try.underlying5, List.headD_cons]
  simp only [Lit.wf, Bool.and_eq_true, decide_eq_true_eq] at ha hb
  exact limits5_spec a b ⟨ha.1, Int.lt_of_le_of_lt ha.2 (by decide)⟩ ⟨hb.1, Int.lt_of_le_of_lt hb.2 (by decide)⟩
end Go.Proofs.Ytnlgboiooabbiaa
