/- Contracts of functions, told of values, on the way to TreeNever (part 6). -/
import Derived.Shelf.Strings.Builder1
import Derived.Shelf.Strings.Builder2
import Derived.Shelf.Strings.OnBuilder
import Derived.Ground.Names2Prog
import Derived.Shelf.Slices.ReverseS
import Derived.Shelf.Slices.SearchI
import Derived.Shelf.Slices.Cells
import Derived.Test.YtnahpejlhfeleaaProg
import Derived.Test.YtnahpejlhfeleaaTreeNeverM3
import Derived.Test.YtnahpejlhfeleaaTreeNeverM5
import Derived.Lib.Join
import Derived.Test.YtnahpejlhfeleaaTreeNeverM4
-- short names of the library's lemmas
open Nat renaming reduceEqDiff → zaa, reduceLeDiff → zaf, reduceAdd → zai, reduceSub → zaj, reduceMul → zak, reduceLT → zam, le_of_ble_eq_true → zay, zero_le → zaU
open List renaming forall_mem_cons → zab, not_mem_nil → zac, reduceReplicate → zad, map_cons → zag, map_nil → zah, append_nil → zal, length_cons → zav, length_nil → zaz, cons_append → zaB, nil_append → zaD, take_succ_cons → zaF, set_cons_zero → zaG, set_cons_succ → zaH, flatten_cons → zaI, flatten_nil → zaJ, take_zero → zaK, take_nil → zaM, getD_cons_zero → zaP, getD_cons_succ → zaQ, take_of_length_le → zaT, flatMap_cons → zaV, flatMap_nil → zaX, length_reverse → zaY, length_set → zaZ
open Int renaming cast_ofNat_Int → zae, reduceEq → zan, reduceLT → zao, reduceLE → zap, natCast_add → zas
open Option renaming getD_some → zaR, getD_none → zaS
open Bool renaming and_eq_false_iff → zar, or_eq_false_iff → zat, and_eq_true → zau, not_eq_false' → zaw, not_eq_true' → zax, or_eq_true → zaA
open And renaming intro → zaq
open Go.Proofs.Ytnahpejlhfeleaa.Sh.Cell renaming ren → zaC, refs → zaE
open Go.Proofs.Ytnahpejlhfeleaa.Sh.SV renaming ren → zaL, renL → zaN
open Go.Proofs.Ytnahpejlhfeleaa.Sh.Row renaming ren → zaO
open Go.Proofs.Ytnahpejlhfeleaa.Sh.St renaming hpF → zaW
-- namespace Go.Proofs.Ytnahpejlhfeleaa
namespace Go.Proofs
set_option linter.unusedVariables false
set_option linter.unusedSimpArgs false
open Go.Shelf
def Try.lays156_ren : Go.Shelf.Ren := ⟨fun | 156 => 69 | 165 => 79 | 166 => 80 | 169 => 81 | 240 => 84 | 241 => 85 | 276 => 86 | 277 => 87 | n => n, fun | 31 => 51 | 9 => 9 | 3 => 3 | 4 => 4 | 0 => 0 | 20 => 20 | 72 => 103 | 76 => 107 | 70 => 100 | 37 => 101 | 75 => 106 | 127 => 111 | 164 => 112 | 5 => 5 | 80 => 36 | n => n, fun | n => n⟩
theorem Try.lays156 : Go.Proofs.Lays.n156 Try.prog Try.lays156_ren := {
  mixed := by kernel_rfl
  f156 := Try.func69.trans (congrArg some (by kernel_rfl))
  f165 := Try.func79.trans (congrArg some (by kernel_rfl))
  f166 := Try.func80.trans (congrArg some (by kernel_rfl))
  f169 := Try.func81.trans (congrArg some (by kernel_rfl))
  f240 := Try.func84.trans (congrArg some (by kernel_rfl))
  f241 := Try.func85.trans (congrArg some (by kernel_rfl))
  f276 := Try.func86.trans (congrArg some (by kernel_rfl))
  f277 := Try.func87.trans (congrArg some (by kernel_rfl))
  t0 := Try.underlying0
  a0 := Try.isAgg0
  z0 := Try.sizeOf0
  v0 := Try.zeroValue0
  t3 := Try.underlying3
  a3 := Try.isAgg3
  z3 := Try.sizeOf3
  v3 := Try.zeroValue3
  t4 := Try.underlying4
  a4 := Try.isAgg4
  z4 := Try.sizeOf4
  v4 := Try.zeroValue4
  t9 := Try.underlying9
  a9 := Try.isAgg9
  z9 := Try.sizeOf9
  v9 := Try.zeroValue9
  t20 := Try.underlying20
  a20 := Try.isAgg20
  z20 := Try.sizeOf20
  v20 := Try.zeroValue20
  t31 := Try.underlying51
  a31 := Try.isAgg51
  z31 := Try.sizeOf51
  v31 := Try.zeroValue51
  t37 := Try.underlying101
  a37 := Try.isAgg101
  z37 := Try.sizeOf101
  v37 := Try.zeroValue101
  t70 := Try.underlying100
  a70 := Try.isAgg100
  z70 := Try.sizeOf100
  v70 := Try.zeroValue100
  t72 := Try.underlying103
  a72 := Try.isAgg103
  z72 := Try.sizeOf103
  v72 := Try.zeroValue103
  t75 := Try.underlying106
  a75 := Try.isAgg106
  z75 := Try.sizeOf106
  v75 := Try.zeroValue106
  t76 := Try.underlying107
  a76 := Try.isAgg107
  z76 := Try.sizeOf107
  v76 := Try.zeroValue107
  t127 := Try.underlying111
  a127 := Try.isAgg111
  z127 := Try.sizeOf111
  v127 := Try.zeroValue111
  t164 := Try.underlying112
  a164 := Try.isAgg112
  z164 := Try.sizeOf112
  v164 := Try.zeroValue112 }
theorem Try.Builder_Extra_156 : Builder.Extra Try.prog Try.lays156_ren := {
  sizeBuilder := by kernel_rfl
  liesBuilder := by kernel_rfl
  t5 := Try.underlying5
  a5 := Try.isAgg5
  z5 := Try.sizeOf5
  v5 := Try.zeroValue5
  infoByte := by kernel_rfl
  cellsByte := by kernel_rfl
  sizeByte := by kernel_rfl
  neB5 := by decide }
open Go.RowKit in
theorem Try.strings_Join_none (a : Option Addr) (c : Nat) (sep : ByteArray) (w : World) :
    Calls Try.prog 69 #[.slice a 0 c, .string sep] w fun e w' => e = .returned (.string ⟨#[]⟩) ∧ w' = w := Any.strings_Join_none Try.lays156 Try.Builder_Extra_156 a c sep w
open Go.RowKit in
theorem Try.strings_Join (bk o c : Nat) (xs : List ByteArray) (sep : ByteArray) (w : World) (hcells : ∀ (j : Nat) x, xs[j]? = some x → w.cell? ⟨bk, o + j, none⟩ = some (.string x)) (hbk : bk < w.heap.size) (hN : xs.length ≤ 140737488355328) (hcap : xs.length ≤ c) (hlen : (Lib.join (xs.map (·.data.toList)) sep.data.toList).length ≤ 140737488355328) :
    Calls Try.prog 69 #[.slice (some ⟨bk, o, none⟩) xs.length c, .string sep] w fun e w' => e = .returned (.string ⟨(Lib.join (xs.map (·.data.toList)) sep.data.toList).toArray⟩) ∧ Below w.heap.size w w' := Any.strings_Join Try.lays156 Try.Builder_Extra_156 bk o c xs sep w hcells hbk hN hcap hlen

end Go.Proofs
-- NEWGO
-- PRUNE: cl_lendx cl_use cl_lend
-- ISG: Strs_isG
-- FLAT: Strs_flat
namespace Go.Proofs.Ytnahpejlhfeleaa
set_option linter.unusedVariables false
set_option linter.unusedSimpArgs false
open Go.Proofs.Ytnahpejlhfeleaa.Sh
set_option maxRecDepth 20000
def jn (xs : List Str) (sep : Str) : Str := Lib.join xs sep
theorem join_spec (xs : List Str) (sep : Str) (cap : Option Nat) (hN : xs.length ≤ 140737488355328) (hl : (jn xs sep).length ≤ 140737488355328) : FnSpec Try.prog 69 [gs xs cap, s1 sep] [] (s1 (jn xs sep)) [] := by
  refine FnSpec.of_calls Try.func69 (by kernel_rfl) (by kernel_rfl) trivial fun w vals m hm hv => ?_
  generalize hvs : vals.toList = vs at hv
  match vs, hv with
  | [u, v], ⟨hu, hw, _⟩ =>
    have hvals : vals = #[u, v] := by apply Array.ext'; exact hvs
    have ev : v = .string (bs sep) := by cases hw; rfl
    subst hvals; subst ev
    by_cases h0 : xs.length = 0
    · have hx : xs = [] := List.length_eq_zero_iff.1 h0
      subst hx
      have hu2 : ∃ a c, u = .slice a 0 c := by
        cases hu with
        | gsl _ _ _ _ b o c ad f _ _ _ _ _ => exact ⟨_, _, rfl⟩
        | gnil _ _ _ _ => exact ⟨_, _, rfl⟩
      obtain ⟨a, c, rfl⟩ := hu2
      refine (Try.strings_Join_none a c (bs sep) w).mono fun e w' ⟨h1, h2⟩ => ?_
      subst h1; subst h2
      exact ⟨_, rfl, VG.sc _ rfl, RowKit.Below.refl _ _⟩
    · have hu2 : ∃ (b o c : Nat) (f : Nat → Value), u = .slice (some ⟨b, o, none⟩) xs.length c ∧ xs.length ≤ c ∧ (∀ (i : Nat) x, (Strs xs)[i]? = some x → m ⟨b, o + i, none⟩ = some (f i)) ∧ (∀ (i : Nat) x, (Strs xs)[i]? = some x → VG m x (f i)) := by
        obtain ⟨n, hn⟩ : ∃ n, xs.length = n := ⟨_, rfl⟩
        have hu' : VG m (.gsl (Strs xs) 0 n cap) u := by rw [← hn]; exact hu
        rw [hn] at h0 ⊢
        cases hu' with
        | gsl _ _ _ _ b o c ad f hc hlc hm hv ha =>
          have had : ad = ⟨b, o + 0, none⟩ := ha.resolve_right h0
          subst had
          exact ⟨b, o, c, f, rfl, hlc, hm, hv⟩
        | gnil _ _ _ _ => exact absurd rfl h0
      obtain ⟨b, o, c, f, rfl, hlc, hm2, hv2⟩ := hu2
      have hat : ∀ (j : Nat) x, (xs.map bs)[j]? = some x → w.cell? ⟨b, o + j, none⟩ = some (.string x) := by
        intro j x hj
        rw [List.getElem?_map] at hj
        cases hx : xs[j]? with
        | none => rw [hx] at hj; cases hj
        | some y =>
          rw [hx] at hj
          cases hj
          have hs : (Strs xs)[j]? = some (st y) := by simp [Strs, hx]
          have h1 := (hm _ _ (hm2 j _ hs)).2
          have h2 := hv2 j _ hs
          cases h2' : f j <;> rw [h2'] at h2 h1 <;> cases h2
          exact h1
      have hlt : b < w.heap.size := by
        obtain ⟨y, hy⟩ : ∃ y, xs[0]? = some y := ⟨_, List.getElem?_eq_getElem (by omega)⟩
        have := hat 0 (bs y) (by simp [hy])
        exact World.block_lt_of_cell? _ _ this
      have hmap : (xs.map bs).map (·.data.toList) = xs := by
        rw [List.map_map]
        have : ((fun x : ByteArray => x.data.toList) ∘ bs) = id := by funext l; exact bs_data l
        rw [this, List.map_id]
      have hj := Try.strings_Join b o c (xs.map bs) (bs sep) w hat hlt (by simpa using hN) (by simpa using hlc) (by rw [hmap, bs_data]; exact hl)
      rw [hmap, bs_data, List.length_map] at hj
      refine hj.mono fun e w' ⟨h1, h2⟩ => ?_
      subst h1
      exact ⟨_, rfl, VG.sc _ rfl, h2⟩
end Go.Proofs.Ytnahpejlhfeleaa
-- NEWGO
-- PRUNE: cl_lendx cl_use cl_lend
-- ISG: Strs_isG
-- FLAT: Strs_flat
namespace Go.Proofs.Ytnahpejlhfeleaa
set_option linter.unusedVariables false
set_option linter.unusedSimpArgs false
open Go.Proofs.Ytnahpejlhfeleaa.Sh
set_option maxRecDepth 20000
end Go.Proofs.Ytnahpejlhfeleaa
-- NEWGO
-- PRUNE: cl_lendx cl_use cl_lend
-- ISG: Strs_isG
-- FLAT: Strs_flat
namespace Go.Proofs.Ytnahpejlhfeleaa
set_option linter.unusedVariables false
set_option linter.unusedSimpArgs false
open Go.Proofs.Ytnahpejlhfeleaa.Sh
set_option maxRecDepth 20000
def pJn (xs : List Str) : Str × Int := if chkP xs = 0 then (47 :: jn xs [47], 0) else ([], chkP xs)
abbrev rJ (x : Str × Int) : SV := .tup [s1 x.1, i1 x.2]
theorem nmOk_len (s : Str) (h : nmOk s = true) : s.length ≤ 32 := by
  unfold nmOk at h
  simp only [zau, decide_eq_true_eq] at h
  omega
theorem chk_ok (xs : List Str) (h : chkP xs = 0) : (∀ s ∈ xs, nmOk s = true) ∧ xs.length ≤ 8 := by
  unfold chkP at h
  cases ha : xs.any (fun s => !nmOk s) with
  | true => rw [ha, if_pos rfl] at h; cases h
  | false =>
    rw [ha, if_neg Bool.false_ne_true] at h
    refine ⟨fun s hs => ?_, ?_⟩
    · have := List.any_eq_false.1 ha s hs
      simpa using this
    · by_cases h8 : 8 < (xs.length : Int)
      · rw [if_pos h8] at h; cases h
      · omega
theorem lens_le (n : Nat) : ∀ xs : List Str, (∀ s ∈ xs, s.length ≤ n) → Lib.lens xs ≤ n * xs.length
  | [], _ => zaU _
  | x :: xs, h => by
    have h1 := lens_le n xs fun s hs => h s (List.mem_cons_of_mem _ hs)
    have h2 := h x List.mem_cons_self
    have e : Lib.lens (x :: xs) = x.length + Lib.lens xs := by simp [Lib.lens]
    rw [e, zav, Nat.mul_succ]
    omega
theorem jn_len (xs : List Str) (h : chkP xs = 0) : (jn xs [47]).length ≤ 300 := by
  obtain ⟨h1, h2⟩ := chk_ok xs h
  have h3 := lens_le 32 xs fun s hs => nmOk_len s (h1 s hs)
  cases xs with
  | nil => exact zaU _
  | cons x r =>
    unfold jn
    rw [Lib.join_length]
    simp only [zav, zaz] at *
    omega
theorem join_p (xs : List Str) (k : Option Nat) (hx : ∀ s ∈ xs, s.length ≤ 9223372036854775807) (hl : xs.length ≤ 140737488355328) : FnSpec Try.prog 49 [gs xs k] [] (rJ (pJn xs)) [] := by
  have h1 := checkN_spec xs hx k (by omega)
  unfold pJn
  by_cases hc : chkP xs = 0
  · have h2 := join_spec xs [47] k hl (by have := jn_len xs hc; omega)
    have h3 := jn_len xs hc
    rw [if_pos hc]
    rw [hc] at h1
    refine fnspec_of mixed TT_ok TT_cl ⟨fun _ => false, fun _ => [], 0, fun _ => false, fun _ => false⟩ Try.func49 rfl (by kernel_rfl) rfl 13 rfl [.tmp 2, .tmp 3] rfl ?_
    simp only [go_sem, zaa, zai, zaj, zak, zam, zaf, ↓reduceIte, reduceCtorEq, zad, zae, zan, zao, zap]
    repeat' (first
 | with_reducible refine zaq ?_ ?_
 | (apply cl_plain
    case hs => rfl
    case ha => (simp only [zag, zah, prepV, prepC, idx, hpL', lookR, zaa, if_true, if_false]; rfl)
    case h => (first | exact h1 .. | exact h2 ..))
 | ((first | refine s1_id ?_ | refine swp_id ?_ | refine sops_id ?_ | refine s2_id ?_); simp only [go_sem, zaa, zai, zaj, zak, zam, zaf, ↓reduceIte, reduceCtorEq, zad, zae, zan, zao, zap, zaL, zaN, zaC, zaO, renO, bk, back, outUpsFrom, Ints_ren])
 | (intros; omega)
 | exact fs_nil trivial rfl
 | fail)
  · rw [if_neg hc]
    generalize chkP xs = e at *
    refine fnspec_of mixed TT_ok TT_cl ⟨fun _ => false, fun _ => [], 0, fun _ => false, fun _ => false⟩ Try.func49 rfl (by kernel_rfl) rfl 13 rfl [.tmp 2, .tmp 3] rfl ?_
    simp only [go_sem, zaa, zai, zaj, zak, zam, zaf, ↓reduceIte, reduceCtorEq, zad, zae, zan, zao, zap]
    repeat' (first
 | (apply cl_plain
    case hs => rfl
    case ha => (simp only [zag, zah, prepV, prepC, idx, hpL', lookR, zaa, if_true, if_false]; rfl)
    case h => (first | exact h1 ..))
 | ((first | refine s1_id ?_ | refine swp_id ?_ | refine sops_id ?_ | refine s2_id ?_); simp only [decide_eq_false hc, go_sem, zaa, zai, zaj, zak, zam, zaf, ↓reduceIte, reduceCtorEq, zad, zae, zan, zao, zap, zaL, zaN, zaC, zaO, renO, bk, back, outUpsFrom, Ints_ren])
 | exact fs_nil trivial rfl
 | fail)
end Go.Proofs.Ytnahpejlhfeleaa
-- NEWGO
-- PRUNE: cl_use
-- ISG: Strs_isG
-- FLAT: Strs_flat
namespace Go.Proofs.Ytnahpejlhfeleaa
set_option linter.unusedVariables false
set_option linter.unusedSimpArgs false
open Go.Proofs.Ytnahpejlhfeleaa.Sh
set_option maxRecDepth 20000
def rvS (xs : List Str) (k : Nat) : List Str := (List.range xs.length).map fun i => if i < k ∨ xs.length ≤ i + k then xs.getD (xs.length - 1 - i) [] else xs.getD i []
theorem rvS_len (xs : List Str) (k : Nat) : (rvS xs k).length = xs.length := by simp [rvS]
theorem rvS_at (xs : List Str) (k i : Nat) (h : i < xs.length) : (rvS xs k).getD i [] = if i < k ∨ xs.length ≤ i + k then xs.getD (xs.length - 1 - i) [] else xs.getD i [] := by
  unfold rvS
  rw [List.getD_eq_getElem?_getD, List.getElem?_map, List.getElem?_range h]; rfl
theorem ext_getD {a b : List Str} (hl : a.length = b.length) (h : ∀ i, i < a.length → a.getD i [] = b.getD i []) : a = b := by
  refine List.ext_getElem hl fun i h1 h2 => ?_
  have := h i h1
  rwa [getD_at a i [] h1, getD_at b i [] h2] at this
theorem rvS_0 (xs : List Str) : rvS xs 0 = xs := by
  refine ext_getD (rvS_len xs 0) fun i hi => ?_
  rw [rvS_len] at hi
  rw [rvS_at xs 0 i hi, if_neg (by omega)]
theorem rvS_end (xs : List Str) (k : Nat) (h : xs.length ≤ 2 * k + 1) : rvS xs k = xs.reverse := by
  refine ext_getD (by rw [rvS_len, zaY]) fun i hi => ?_
  rw [rvS_len] at hi
  have e : xs.reverse.getD i [] = xs.getD (xs.length - 1 - i) [] := by
    rw [List.getD_eq_getElem?_getD, List.getElem?_reverse hi, ← List.getD_eq_getElem?_getD]
  rw [rvS_at xs k i hi, e]
  by_cases c : i < k ∨ xs.length ≤ i + k
  · rw [if_pos c]
  · rw [if_neg c, show xs.length - 1 - i = i by omega]
theorem rvS_step (xs : List Str) (k : Nat) (h : 2 * k + 1 < xs.length) : ((rvS xs k).set k (xs.getD (xs.length - 1 - k) [])).set (xs.length - 1 - k) (xs.getD k []) = rvS xs (k + 1) := by
  refine ext_getD (by rw [zaZ, zaZ, rvS_len, rvS_len]) fun i hi => ?_
  rw [zaZ, zaZ, rvS_len] at hi
  rw [rvS_at xs (k + 1) i hi]
  by_cases c1 : xs.length - 1 - k = i
  · rw [if_pos (by omega), ← c1, getD_set_self _ _ _ _ (by rw [zaZ, rvS_len]; omega), show xs.length - 1 - (xs.length - 1 - k) = k by omega]
  · rw [List.getD_eq_getElem?_getD, List.getElem?_set_ne c1, ← List.getD_eq_getElem?_getD]
    by_cases c2 : k = i
    · rw [if_pos (by omega), ← c2, getD_set_self _ _ _ _ (by rw [rvS_len]; omega)]
    · rw [List.getD_eq_getElem?_getD, List.getElem?_set_ne c2, ← List.getD_eq_getElem?_getD, rvS_at xs k i hi]
      by_cases c3 : i < k ∨ xs.length ≤ i + k
      · rw [if_pos c3, if_pos (by omega)]
      · rw [if_neg c3, if_neg (by omega)]
set_option maxHeartbeats 8000000 in
theorem rev_spec (xs : List Str) (hl : xs.length ≤ 1000000) : FnSpec Try.prog 48 [.one (.osl 0 0 xs.length none)] [⟨Strs xs, 1⟩] (.tup []) [some ⟨Strs xs.reverse, 1⟩] := by
  refine fnspec_of mixed TT_ok TT_cl ⟨fun _ => false, fun _ => [], 1, fun _ => false, fun _ => false⟩ Try.func48 rfl (by kernel_rfl) rfl 28 rfl [] rfl ?_
  simp only [go_sem, zaa, zai, zaj, zak, zam, zaf, ↓reduceIte, reduceCtorEq, zad, zae, zan, zao, zap]
  repeat' (first
 | with_reducible refine zaq ?_ ?_
 | (intros; omega)
 | (intros; (try simp only [zau, zaA, zax, zaw, zar, zat, decide_eq_true_eq, decide_eq_false_iff_not] at *); omega))
  refine w_loop (ι := Nat) (fun k => ⟨[(0, .one (.osl 0 0 xs.length none)), (2, i1 k), (3, i1 ((xs.length : Int) - 1 - k))], [(0, some ⟨Strs (rvS xs k), 1⟩)], 1⟩) (fun k => 2 * k ≤ xs.length + 1) (fun k => xs.length - k) 0 ?_ (by omega) ?_
  · rw [rvS_0]
    (refine imp_ren _ _ _ [(0, 0, ⟨Strs xs, 1⟩)] (by simp) (by simp) (by simp) (zay rfl) ?_ rfl (by simp only [zab, zac, false_implies, implies_true, and_true, zaW, lookR, zaa, if_true, if_false, ↓reduceIte, Strs_flat] <;> (repeat' apply zaq) <;> (first | rfl | trivial)) (by simp only [zab, zac, false_implies, implies_true, and_true, true_and, flat_cons, flat_nil, flat_ints, flat_bools, flat_app, zaE, and_self, eq_self_iff_true, zal, Strs_flat]); simp only [zag, zah, zab, zac, false_implies, implies_true, and_true, lk, slot, zaL, zaC, toN, zaa, if_true, if_false, ↓reduceIte, reduceCtorEq])
    all_goals ((repeat' apply zaq) <;> (first | rfl | trivial | (simp only [Int.natCast_zero, Int.sub_zero]; done) | (simp only [Int.natCast_zero, Int.sub_zero]; rfl) | (simp only [Int.natCast_zero, Int.sub_zero]; trivial)))
  intro k hk
  simp only at hk ⊢
  by_cases c : 2 * k + 1 < xs.length
  case neg =>
    have c2 : ¬ (k : Int) < (xs.length : Int) - 1 - k := by omega
    rw [← rvS_end xs k (by omega)]
    simp only [go_sem, zaa, zai, zaj, zak, zam, zaf, ↓reduceIte, reduceCtorEq, zad, zae, zan, zao, zap, decide_eq_false c2]
    repeat' (first
 | (intros; (try simp only [zau, zaA, zax, zaw, zar, zat, decide_eq_true_eq, decide_eq_false_iff_not] at *); omega))
    (refine fs_flat [(0, ⟨Strs (rvS xs k), 1⟩)] (by simp) (by simp only [zag, zah]; decide) (by simp only [go_sem, resV, resS, zaL, zaN, zaC, St.tmF, zaW, idx, renO, zaO, evS, slot, lookR, zaa, ↓reduceIte, reduceCtorEq, if_true, if_false, zaR, zaS, zag, zah, sLoad, readAt, readNeed, Ints_ren, Ints_length, Ints_getD, and_true, true_and, zaP, zaQ]; try decide) ?_ (by simp only [zab, zac, false_implies, implies_true, and_true, zaW, lookR, zaa, if_true, if_false, ↓reduceIte, Strs_flat] <;> (repeat' apply zaq) <;> (first | rfl | trivial)) (by simp only [zab, zac, false_implies, implies_true, and_true, true_and, flat_cons, flat_nil, flat_ints, flat_bools, flat_app, zaE, and_self, eq_self_iff_true, zal, Strs_flat]) ?_ <;> (try simp only [go_sem, resV, resS, zaL, zaN, zaC, St.tmF, zaW, idx, renO, zaO, evS, slot, lookR, zaa, ↓reduceIte, reduceCtorEq, if_true, if_false, zaR, zaS, zag, zah, sLoad, readAt, readNeed, Ints_ren, Ints_length, Ints_getD, and_true, true_and, zaP, zaQ]) <;> (try rfl))
  have c2 : (k : Int) < (xs.length : Int) - 1 - k := by omega
  obtain ⟨j, hj, hj2⟩ : ∃ j : Nat, (xs.length : Int) - 1 - k = j ∧ j = xs.length - 1 - k := ⟨xs.length - 1 - k, by omega, rfl⟩
  have hst := rvS_step xs k c
  have hrl := rvS_len xs k
  have hrk := rvS_at xs k k (by omega)
  rw [if_neg (by omega)] at hrk
  have hrj := rvS_at xs k j (by omega)
  rw [if_neg (by omega)] at hrj
  rw [← hj2] at hst
  have hj3 : (xs.length : Int) - 1 - ((k + 1 : Nat) : Int) = (j : Int) - 1 := by omega
  rw [hj] at c2
  generalize rvS xs k = R at *
  have hRl := Strs_length R
  have q1 := Strs_getD' R k (.sc (.string (bs []))) (by omega)
  have q2 := Strs_getD' R j (.sc (.string (bs []))) (by omega)
  rw [hrk] at q1
  rw [hrj] at q2
  generalize xs.getD k [] = a at *
  generalize xs.getD j [] = b at *
  simp only [go_sem, zaa, zai, zaj, zak, zam, zaf, ↓reduceIte, reduceCtorEq, zad, zae, zan, zao, zap, hj, decide_eq_true c2, q1, q2]
  repeat' (first
 | with_reducible refine zaq ?_ ?_
 | (unfold OKC; kernel_rfl)
 | (unfold EDG; kernel_rfl)
 | (intros; omega)
 | (intros; (try simp only [zau, zaA, zax, zaw, zar, zat, decide_eq_true_eq, decide_eq_false_iff_not] at *); omega))
  refine le_mk (k + 1) ?_ (by omega) (by omega)
  simp only [hj3, ← hst]
  (refine imp_ren _ _ _ [(0, 0, ⟨Strs ((R.set k b).set j a), 1⟩)] (by simp) (by simp) (by simp) (zay rfl) ?_ rfl (by simp only [zab, zac, false_implies, implies_true, and_true, zaW, lookR, zaa, if_true, if_false, ↓reduceIte, Strs_flat] <;> (repeat' apply zaq) <;> (first | rfl | trivial)) (by simp only [zab, zac, false_implies, implies_true, and_true, true_and, flat_cons, flat_nil, flat_ints, flat_bools, flat_app, zaE, and_self, eq_self_iff_true, zal, Strs_flat]); simp only [zag, zah, zab, zac, false_implies, implies_true, and_true, lk, slot, zaL, zaC, toN, zaa, if_true, if_false, ↓reduceIte, reduceCtorEq])
  all_goals ((repeat' apply zaq) <;> (first | rfl | trivial | (simp only [zas]; done) | (simp only [zas]; rfl) | (simp only [zas]; trivial)))
def nmA (l : List Nd) (a : Int) : Str := (gN l (bsV Nd.i l a)).nm
def wayN (l : List Nd) (m : Nat) (U : List Int) : List Str := (U.take m).map (nmA l)
def paM (l : List Nd) (n id : Int) : Str × Bool := if hasM l n id = true then ((pJn (wayN l ((upL l id).length - 1) (upL l id)).reverse).1, decide ((pJn (wayN l ((upL l id).length - 1) (upL l id)).reverse).2 = 0)) else ([], false)
theorem wayN_succ (l : List Nd) (m : Nat) (U : List Int) (h : m < U.length) : wayN l (m + 1) U = wayN l m U ++ [nmA l (U.getD m 0)] := by
  unfold wayN
  rw [take_getD U m 0 h, List.map_append]; rfl
theorem wayN_len (l : List Nd) (m : Nat) (U : List Int) (h : m ≤ U.length) : (wayN l m U).length = m := by
  unfold wayN; rw [List.length_map, List.length_take]; omega
set_option maxHeartbeats 16000000 in
theorem tpath_spec (l : List Nd) (n id : Int) (hl : l.length ≤ 1000000) (hnm : NmR l) (hct : CtR l) : FnSpec Try.prog 23 [trV l none n, i1 id] [] (.tup [s1 (paM l n id).1, b1 (paM l n id).2]) [] := by
  have h1 := tanc_spec l n id hl hnm hct
  have hnl := nd_len l
  unfold paM
  cases hh : hasM l n id with
  | false =>
    have e : ancM l n id = [] := by unfold ancM; rw [hh]; rfl
    rw [e] at h1
    rw [if_neg Bool.false_ne_true]
    refine fnspec_of mixed TT_ok TT_cl ⟨fun _ => false, fun _ => [], 0, fun _ => false, fun _ => false⟩ Try.func23 rfl (by kernel_rfl) rfl 57 rfl [.tmp 4, .tmp 5] rfl ?_
    simp only [go_sem, zaa, zai, zaj, zak, zam, zaf, ↓reduceIte, reduceCtorEq, zad, zae, zan, zao, zap]
    repeat' (first
 | (apply cl_plain
    case hs => rfl
    case ha => (simp only [zag, zah, prepV, prepC, idx, hpL', lookR, zaa, if_true, if_false]; rfl)
    case h => (first | exact h1 ..))
 | ((first | refine s1_id ?_ | refine swp_id ?_ | refine sops_id ?_ | refine s2_id ?_); simp only [zaI, zaJ, zal, zaB, zaD, zaG, zaH, zaF, zaK, zaM, zav, zaz, go_sem, zaa, zai, zaj, zak, zam, zaf, ↓reduceIte, reduceCtorEq, zad, zae, zan, zao, zap, zaL, zaN, zaC, zaO, renO, bk, back, outUpsFrom, Ints_ren])
 | exact fs_nil trivial rfl
 | fail)
  | true =>
  have e : ancM l n id = upL l id := by unfold ancM; rw [hh, if_pos rfl]
  rw [e] at h1
  rw [if_pos rfl]
  obtain ⟨hk, y, hy, hyi⟩ := hasM_iff.1 hh
  obtain ⟨v, hv, hve⟩ := gN_mem l y hy
  have hV := (chkT_iff l n).1 hk
  have hvi : (gN l v).i = id := by rw [hve, hyi]
  have hin : ∀ a ∈ upL l id, bsV Nd.i l a < l.length ∧ bsF Nd.i l a = true := fun a ha => by
    rw [← hvi] at ha
    obtain ⟨t, ht, rfl⟩ := up_le hV v hv a ha
    obtain ⟨q1, q2⟩ := bs_found Nd.i l (fun i j hij hj => hV.asc i j hij hj) t (by omega)
    have q1' : bsV Nd.i l (gN l t).i = t := q1
    exact ⟨by rw [q1']; omega, q2⟩
  have hne : 0 < (upL l id).length := by
    rw [← hvi, upL_node hV.asc hv]; exact Nat.succ_pos _
  have hUl : (upL l id).length ≤ l.length := by have := upR_len l.reverse id; rw [zaY] at this; exact this
  generalize upL l id = U at *
  have cz : ¬ (U.length : Int) = 0 := by omega
  have hU1 : (U.length : Int) - 1 = ((U.length - 1 : Nat) : Int) := by omega
  clear hve hyi hvi hy hv e
  refine fnspec_of mixed TT_ok TT_cl ⟨fun _ => false, fun f => if f = 48 then [0] else [], 0, fun _ => false, fun _ => false⟩ Try.func23 rfl (by kernel_rfl) rfl 57 rfl [.tmp 4, .tmp 5] rfl ?_
  simp only [go_sem, zaa, zai, zaj, zak, zam, zaf, ↓reduceIte, reduceCtorEq, zad, zae, zan, zao, zap, decide_eq_false cz, hU1]
  repeat' (first
 | with_reducible refine zaq ?_ ?_
 | (apply cl_plain
    case hs => rfl
    case ha => (simp only [zag, zah, prepV, prepC, idx, hpL', lookR, zaa, if_true, if_false]; rfl)
    case h => (first | exact h1 ..))
 | ((first | refine s1_id ?_ | refine swp_id ?_ | refine sops_id ?_ | refine s2_id ?_); simp only [decide_eq_false cz, hU1, Int.toNat_zero, Int.toNat_natCast, Nat.sub_zero, Nat.zero_mul, go_sem, zaa, zai, zaj, zak, zam, zaf, ↓reduceIte, reduceCtorEq, zad, zae, zan, zao, zap, zaL, zaN, zaC, zaO, renO, bk, back, outUpsFrom, Ints_ren])
 | (intros; omega)
 | (intros; (try simp only [zau, zaA, zax, zaw, zar, zat, decide_eq_true_eq, decide_eq_false_iff_not] at *); omega))
  refine w_loop (ι := Nat) (fun m => ⟨[(2, .one (.optr 0 0)), (7, .one (.osl 1 0 (wayN l m U).length none)), (24, .one (.gsl (Ints U) 0 (U.length - 1) none)), (25, i1 (U.length - 1 : Nat)), (26, i1 m)], [(0, some ⟨[.gsl (Cs l) 0 l.length none, int n], 2⟩), (1, some ⟨Strs (wayN l m U), 1⟩)], 2⟩) (fun m => m ≤ U.length - 1) (fun m => U.length - 1 - m) 0 ?_ (zaU _) ?_
  · (refine Imp.trans (imp_nilA _ _ 7 1 99 (by simp only []; omega) rfl) ?_)
    (refine imp_ren _ _ _ [(0, 0, ⟨[.gsl (Cs l) 0 l.length none, int n], 2⟩), (1, 99, ⟨[], 1⟩)] (by simp) (by simp) (by simp) (zay rfl) ?_ rfl (by simp only [zab, zac, false_implies, implies_true, and_true, zaW, lookR, zaa, if_true, if_false, ↓reduceIte] <;> (repeat' apply zaq) <;> (first | rfl | trivial)) (by simp only [zab, zac, false_implies, implies_true, and_true, true_and, flat_cons, flat_nil, flat_ints, flat_bools, flat_app, zaE, and_self, eq_self_iff_true, zal]); simp only [zag, zah, zab, zac, false_implies, implies_true, and_true, lk, slot, zaL, zaC, toN, zaa, if_true, if_false, ↓reduceIte, reduceCtorEq])
    all_goals ((repeat' apply zaq) <;> (first | rfl | trivial))
  clear h1
  intro m hm
  simp only at hm ⊢
  have hwl := wayN_len l m U (by omega)
  rcases Nat.lt_or_ge m (U.length - 1) with hlt | hge
  case inr =>
    have c : ¬ (m : Int) < ((U.length - 1 : Nat) : Int) := by omega
    obtain rfl : m = U.length - 1 := by omega
    have hw : ∀ s ∈ wayN l (U.length - 1) U, s.length ≤ 1000000000 := fun s hs => by
      unfold wayN at hs
      obtain ⟨a, ha, rfl⟩ := List.mem_map.1 hs
      exact hnm.at _ (hin a (List.mem_of_mem_take ha)).1
    generalize wayN l (U.length - 1) U = W at *
    have r1 := rev_spec W (by omega)
    have r2 := join_p W.reverse none (fun s hs => by have := hw s (List.mem_reverse.1 hs); omega) (by rw [zaY]; omega)
    generalize pJn W.reverse = R at *
    obtain ⟨R1, R2⟩ := R
    simp only [rJ] at r2
    have hWr : W.reverse.length = W.length := zaY
    simp only [gs, hWr] at r2
    simp only [go_sem, zaa, zai, zaj, zak, zam, zaf, ↓reduceIte, reduceCtorEq, zad, zae, zan, zao, zap, decide_eq_false c]
    repeat' (first
 | (apply cl_lend
    case hr => (simp only [zag, zah, hpL', lookR, zaa, if_true, if_false]; first | exact map1 _ | exact map2 _ _ | exact map3 _ _ _)
    case ha => (simp only [zag, zah, prepV, prepC, idx, hpL', lookR, zaa, if_true, if_false]; rfl)
    case hs => rfl
    case hn => decide
    case h => (first | exact r1 .. | exact r2 ..)
    case hf => (simp only [zab, zac, false_implies, implies_true, and_true, true_and, flat_cons, flat_nil, flat_ints, flat_bools, flat_app, Strs_flat, zaE, and_self, eq_self_iff_true, zal])
    case hl => (simp only [zav, zaz]; decide))
 | (apply cl_show
    case ha => (simp only [zag, zah, prepV, prepC, idx, hpL', lookR, zaa, if_true, if_false]; rfl)
    case hs => ((simp [snaps, SV.refs, zaE, idx, hpL', lookR]) <;> (repeat' apply zaq) <;> (first | exact Ints_isG _ | exact Strs_isG _))
    case h => (first | exact r1 .. | exact r2 ..)
    case hg => ((simp [SV.noG, SV.noGL, Cell.noG]) <;> (repeat' apply zaq) <;> exact Ints_noG _))
 | ((first | refine s1_id ?_ | refine swp_id ?_ | refine sops_id ?_ | refine s2_id ?_); simp only [decide_eq_false c, Strs_ren, go_sem, zaa, zai, zaj, zak, zam, zaf, ↓reduceIte, reduceCtorEq, zad, zae, zan, zao, zap, zaL, zaN, zaC, zaO, renO, bk, back, outUpsFrom, Ints_ren])
 | exact fs_nil trivial rfl
 | fail)
  have c : (m : Int) < ((U.length - 1 : Nat) : Int) := by omega
  have hmem : U.getD m 0 ∈ U := getD_mem U m 0 (by omega)
  obtain ⟨b1', b2'⟩ := hin _ hmem
  have h3 := index_spec l none (U.getD m 0) hl
  rw [b2'] at h3
  have hws := wayN_succ l m U (by omega)
  have hnmA : nmA l (U.getD m 0) = (gN l (bsV Nd.i l (U.getD m 0))).nm := rfl
  rw [hnmA] at hws
  have hU0 : (Ints U).getD m (.sc (.int .i64 0)) = int (U.getD m 0) := Ints_getD U m
  generalize bsV Nd.i l (U.getD m 0) = v at *
  have g3 := (nd_f l v b1' (.sc (.string (bs [])))).2.2.1
  generalize (gN l v).nm = nm at *
  have hUL := Ints_length U
  generalize wayN l m U = W at *
  have htk : List.take W.length (Strs W) = Strs W := zaT (by rw [Strs_length]; exact Nat.le_refl _)
  have hla : (W ++ [nm]).length = W.length + 1 := by simp
  simp only [go_sem, zaa, zai, zaj, zak, zam, zaf, ↓reduceIte, reduceCtorEq, zad, zae, zan, zao, zap, decide_eq_true c, g3]
  repeat' (first
 | with_reducible refine zaq ?_ ?_
 | (apply cl_plain
    case hs => rfl
    case ha => (simp only [zag, zah, prepV, prepC, idx, hpL', lookR, zaa, if_true, if_false]; rfl)
    case h => (first | exact h3 ..))
 | ((first | refine s1_id ?_ | refine swp_id ?_ | refine sops_id ?_ | refine s2_id ?_); simp only [decide_eq_true c, g3, htk, Strs_app, zaI, zaJ, zal, zaB, zaD, zaG, zaH, zaF, zaK, zaM, zav, zaz, go_sem, zaa, zai, zaj, zak, zam, zaf, ↓reduceIte, reduceCtorEq, zad, zae, zan, zao, zap, zaL, zaN, zaC, zaO, renO, bk, back, outUpsFrom, Ints_ren])
 | (intros; omega)
 | (intros; (try simp only [zau, zaA, zax, zaw, zar, zat, decide_eq_true_eq, decide_eq_false_iff_not] at *); omega))
  refine le_mk (m + 1) ?_ hlt (by omega)
  simp only [hws, hla]
  (refine imp_ren _ _ _ [(0, 0, ⟨[.gsl (Cs l) 0 l.length none, int n], 2⟩), (1, 23, ⟨Strs (W ++ [nm]), 1⟩)] (by simp) (by simp) (by simp) (zay rfl) ?_ rfl (by simp only [zab, zac, false_implies, implies_true, and_true, zaW, lookR, zaa, if_true, if_false, ↓reduceIte, Strs_flat] <;> (repeat' apply zaq) <;> (first | rfl | trivial)) (by simp only [zab, zac, false_implies, implies_true, and_true, true_and, flat_cons, flat_nil, flat_ints, flat_bools, flat_app, zaE, and_self, eq_self_iff_true, zal, Strs_flat]); simp only [zag, zah, zab, zac, false_implies, implies_true, and_true, lk, slot, zaL, zaC, toN, zaa, if_true, if_false, ↓reduceIte, reduceCtorEq])
  all_goals ((repeat' apply zaq) <;> (first | rfl | trivial | (simp only [zas]; done) | (simp only [zas]; rfl) | (simp only [zas]; trivial)))
end Go.Proofs.Ytnahpejlhfeleaa
-- NEWGO
-- PRUNE: cl_use
-- ISG: Cs_isG
-- FLAT: Cs_flat
namespace Go.Proofs.Ytnahpejlhfeleaa
set_option linter.unusedVariables false
set_option linter.unusedSimpArgs false
open Go.Proofs.Ytnahpejlhfeleaa.Sh
set_option maxRecDepth 20000
theorem VT.ctR {l : List Nd} {n : Int} (h : VT l n) : CtR l := fun x hx => by
  have := (h.vl.all x hx).2
  unfold rngOk at this
  simp only [zau, decide_eq_true_eq] at this
  omega
set_option maxHeartbeats 4000000 in
theorem same_spec (a b : List Int) (k k2 : Option Nat) (hl : a.length ≤ 9223372036854775806) : FnSpec Try.prog 26 [gi a k, gi b k2] [] (b1 (decide (a = b))) [] := by
  by_cases hlen : a.length = b.length
  case neg =>
    have c : ¬ (a.length : Int) = (b.length : Int) := by omega
    rw [decide_eq_false (fun e => hlen (by rw [e]))]
    refine fnspec_of mixed TT_ok TT_cl ⟨fun _ => false, fun _ => [], 0, fun _ => false, fun _ => false⟩ Try.func26 rfl (by kernel_rfl) rfl 26 rfl [.tmp 4] rfl ?_
    simp only [go_sem, zaa, zai, zaj, zak, zam, zaf, ↓reduceIte, reduceCtorEq, zad, zae, zan, zao, zap, decide_eq_false c]
    repeat' (first
 | exact fs_nil trivial rfl
 | fail)
  have hlen' : (a.length : Int) = (b.length : Int) := by omega
  refine fnspec_of mixed TT_ok TT_cl ⟨fun _ => false, fun _ => [], 0, fun _ => false, fun _ => false⟩ Try.func26 rfl (by kernel_rfl) rfl 26 rfl [.tmp 4] rfl ?_
  simp only [go_sem, zaa, zai, zaj, zak, zam, zaf, ↓reduceIte, reduceCtorEq, zad, zae, zan, zao, zap, hlen']
  repeat' (first
 | (intros; (try simp only [zau, zaA, zax, zaw, zar, zat, decide_eq_true_eq, decide_eq_false_iff_not] at *); omega))
  refine w_loop (ι := Nat) (fun i => ⟨[(0, gi a k), (1, gi b k2), (5, i1 i)], [], 0⟩) (fun i => i ≤ a.length ∧ a.take i = b.take i) (fun i => a.length - i) 0 ?_ ⟨zaU _, rfl⟩ ?_
  · (refine imp_sub _ _ _ [] (by simp) (by simp) (by simp) (zaU _) ?_ rfl (by simp); simp only [zab, zac, false_implies, implies_true, and_true, lk, slot, zaL, zaC, zaa, if_true, if_false, ↓reduceIte, reduceCtorEq])
    all_goals ((repeat' apply zaq) <;> (first | rfl | trivial))
  rintro i ⟨hi, he⟩
  simp only at hi he ⊢
  rcases Nat.lt_or_ge i a.length with hlt | hge
  case inr =>
    have c : ¬ (i : Int) < (a.length : Int) := by omega
    rw [zaT hge, zaT (by omega)] at he
    rw [decide_eq_true he]
    simp only [go_sem, zaa, zai, zaj, zak, zam, zaf, ↓reduceIte, reduceCtorEq, zad, zae, zan, zao, zap, decide_eq_false c]
    repeat' (first
 | exact fs_nil trivial rfl
 | fail)
  have c : (i : Int) < (a.length : Int) := by omega
  have ha := take_getD a i 0 hlt
  have hb := take_getD b i 0 (by omega)
  by_cases hx : a.getD i 0 = b.getD i 0
  · have hn : a.take (i + 1) = b.take (i + 1) := by rw [ha, hb, he, hx]
    simp only [go_sem, zaa, zai, zaj, zak, zam, zaf, ↓reduceIte, reduceCtorEq, zad, zae, zan, zao, zap, decide_eq_true c, hx]
    repeat' (first
 | with_reducible refine zaq ?_ ?_
 | (unfold OKC; kernel_rfl)
 | (unfold EDG; kernel_rfl)
 | (intros; omega)
 | (intros; (try simp only [zau, zaA, zax, zaw, zar, zat, decide_eq_true_eq, decide_eq_false_iff_not] at *); omega))
    refine le_mk (i + 1) ?_ ⟨hlt, hn⟩ (by omega)
    (refine imp_sub _ _ _ [] (by simp) (by simp) (by simp) (zaU _) ?_ rfl (by simp); simp only [zab, zac, false_implies, implies_true, and_true, lk, slot, zaL, zaC, zaa, if_true, if_false, ↓reduceIte, reduceCtorEq])
    all_goals ((repeat' apply zaq) <;> (first | rfl | trivial | (simp only [zas]; done) | (simp only [zas]; rfl) | (simp only [zas]; trivial)))
  · rw [decide_eq_false (fun e => hx (by rw [e]))]
    simp only [go_sem, zaa, zai, zaj, zak, zam, zaf, ↓reduceIte, reduceCtorEq, zad, zae, zan, zao, zap, decide_eq_true c, decide_eq_false hx]
    repeat' (first
 | with_reducible refine zaq ?_ ?_
 | (unfold OKC; kernel_rfl)
 | (unfold EDG; kernel_rfl)
 | (intros; omega)
 | exact fs_nil trivial rfl
 | fail)
theorem sane5_spec : FnSpec Try.prog 8 [] [] (b1 true) [] := by
  have a1 := tadd_spec [⟨1, 0, [], 0, 0, 0⟩] 2 1 [97] (by decide) (fun x hx => by rw [List.mem_singleton.1 hx]; decide) (fun x hx => by rw [List.mem_singleton.1 hx]; decide) (by decide)
  have e1 : addM [⟨1, 0, [], 0, 0, 0⟩] 2 1 [97] = (([⟨1, 0, [], 0, 0, 0⟩, ⟨2, 1, [97], 0, 0, 0⟩], 3), 2, 0) := by kernel_rfl
  rw [e1] at a1
  have a2 := tadd_spec [⟨1, 0, [], 0, 0, 0⟩, ⟨2, 1, [97], 0, 0, 0⟩] 3 2 [98] (by decide) (fun x hx => by simp only [List.mem_cons, zac, or_false] at hx; rcases hx with rfl | rfl <;> decide) (fun x hx => by simp only [List.mem_cons, zac, or_false] at hx; rcases hx with rfl | rfl <;> decide) (by decide)
  obtain ⟨T2, hT2⟩ : ∃ T : List Nd, [⟨1, 0, [], 0, 0, 0⟩, ⟨2, 1, [97], 0, 0, 0⟩, ⟨3, 2, [98], 0, 0, 0⟩] = T := ⟨_, rfl⟩
  have e2 : addM [⟨1, 0, [], 0, 0, 0⟩, ⟨2, 1, [97], 0, 0, 0⟩] 3 2 [98] = ((T2, 4), 3, 0) := by rw [← hT2]; kernel_rfl
  rw [e2] at a2
  have nr : NmR T2 := fun x hx => by rw [← hT2] at hx; simp only [List.mem_cons, zac, or_false] at hx; rcases hx with rfl | rfl | rfl <;> decide
  have cr : CtR T2 := fun x hx => by rw [← hT2] at hx; simp only [List.mem_cons, zac, or_false] at hx; rcases hx with rfl | rfl | rfl <;> decide
  have a3 := tpath_spec T2 4 3 (by rw [← hT2]; decide) nr cr
  have e3 : paM T2 4 3 = ([47, 97, 47, 98], true) := by rw [← hT2]; kernel_rfl
  rw [e3] at a3
  have a4 := tanc_spec T2 4 3 (by rw [← hT2]; decide) nr cr
  have e4 : ancM T2 4 3 = [3, 2, 1] := by rw [← hT2]; kernel_rfl
  rw [e4] at a4
  have a5 := same_spec [3, 2, 1] [3, 2, 1] none (some 3) (by decide)
  rw [decide_eq_true rfl] at a5
  simp only [adV] at a1 a2
  obtain ⟨T1, hT1⟩ : ∃ T : List Nd, [⟨1, 0, [], 0, 0, 0⟩, ⟨2, 1, [97], 0, 0, 0⟩] = T := ⟨_, rfl⟩
  rw [hT1] at a1 a2
  clear hT1 hT2 nr cr e1 e2 e3 e4
  refine fnspec_of mixed TT_ok TT_cl ⟨fun _ => false, fun _ => [], 0 , fun i => if i = 41 then true else false, fun _ => false⟩ Try.func8 rfl (by kernel_rfl) rfl 48 rfl [.tmp 0] rfl ?_
  simp only [go_sem, zaa, zai, zaj, zak, zam, zaf, ↓reduceIte, reduceCtorEq, zad, zae, zan, zao, zap]
  repeat' (first
 | (apply cl_plain
    case hs => rfl
    case ha => (simp only [zag, zah, prepV, prepC, idx, hpL', lookR, zaa, if_true, if_false]; rfl)
    case h => (first | exact tnew_spec .. | exact a1 .. | exact a2 .. | exact a3 .. | exact a4 .. | exact a5 ..))
 | (apply cl_show
    case ha => (simp only [zag, zah, prepV, prepC, idx, hpL', lookR, zaa, if_true, if_false]; rfl)
    case hs => ((simp [snaps, SV.refs, zaE, idx, hpL', lookR]) <;> (repeat' apply zaq) <;> (first | exact Ints_isG _ | exact Cs_isG _))
    case h => (first | exact tnew_spec .. | exact a1 .. | exact a2 .. | exact a3 .. | exact a4 .. | exact a5 ..)
    case hg => ((simp [SV.noG, SV.noGL, Cell.noG]) <;> (repeat' apply zaq) <;> exact Ints_noG _))
 | ((first | refine s1_id ?_ | refine swp_id ?_ | refine sops_id ?_ | refine s2_id ?_); simp only [zaI, zaJ, zal, zaB, zaD, zaG, zaH, zaF, zaK, zaM, zav, zaz, go_sem, zaa, zai, zaj, zak, zam, zaf, ↓reduceIte, reduceCtorEq, zad, zae, zan, zao, zap, zaL, zaN, zaC, zaO, renO, bk, back, outUpsFrom, Ints_ren])
 | exact fs_nil trivial rfl
 | fail)
def wn (i : Nat) : Str := [97, (97 + i / 26).toUInt8, (97 + i % 26).toUInt8]
theorem wn_inj : ∀ j, j < 64 → ∀ k, k < 64 → wn j = wn k → j = k := by decide +kernel
theorem wn_ok : ∀ j, j < 64 → nmOk (wn j) = true := by decide +kernel
structure WI (l : List Nd) (m : Nat) : Prop where
  v : VL l ((m : Int) + 2)
  len : l.length = m + 1
  nm : ∀ y ∈ l, y.nm = [] ∨ ∃ j, 1 ≤ j ∧ j ≤ m ∧ y.nm = wn j
theorem WI.nr {l : List Nd} {m : Nat} (h : WI l m) : NmR l := fun x hx => by
  rcases h.nm x hx with e | ⟨j, _, _, e⟩
  · rw [e]; decide
  · rw [e]; show 3 ≤ _; decide
theorem WI.add {l : List Nd} {m : Nat} (h : WI l m) (hm : m < 63) : addM l ((m : Int) + 2) 1 (wn (m + 1)) = ((l ++ [newN ((m : Int) + 2) 1 (wn (m + 1))], (m : Int) + 2 + 1), (m : Int) + 2, 0) ∧ WI (l ++ [newN ((m : Int) + 2) 1 (wn (m + 1))]) (m + 1) := by
  have hV := h.v.vt
  have hlen := h.len
  have hroot := hV.root
  have hok := wn_ok (m + 1) (by omega)
  have hex : ∃ y ∈ l, y.i = 1 := ⟨gN l 0, getD_mem l 0 zn (by omega), hroot.1⟩
  have hup : upL l 1 = [1] := hV.up0
  have hh : hasM l ((m : Int) + 2) 1 = true := hasM_iff.2 ⟨(chkT_iff _ _).2 hV, hex⟩
  have hno : ∀ y ∈ l, ¬ (y.p = 1 ∧ y.nm = wn (m + 1)) := fun y hy ⟨_, e⟩ => by
    rcases h.nm y hy with e2 | ⟨j, h1, h2, e2⟩
    · rw [e2] at e; cases e
    · rw [e2] at e
      have := wn_inj j (by omega) (m + 1) (by omega) e
      omega
  constructor
  · unfold addM
    have ha : l.any (same1 1 (wn (m + 1))) = false := List.any_eq_false.2 fun y hy hs => by
      unfold same1 at hs
      rw [zau, decide_eq_true_eq, decide_eq_true_eq] at hs
      exact hno y hy hs
    rw [(chkT_iff _ _).2 hV, hok, hh, ha, if_neg (by decide), if_neg (by decide), if_neg (by decide), if_neg]
    unfold ancM
    rw [hh, if_pos rfl, hup]
    simp only [List.length_singleton]
    omega
  · have hv := VL.add h.v (p := 1) (s := wn (m + 1)) hok hex hno (by rw [hup]; decide) (by omega) (by omega)
    refine ⟨?_, by rw [List.length_append, hlen]; rfl, fun y hy => ?_⟩
    · have e : ((m + 1 : Nat) : Int) + 2 = (m : Int) + 2 + 1 := by omega
      rw [e]; exact hv
    · rw [List.mem_append, List.mem_singleton] at hy
      rcases hy with hy | rfl
      · rcases h.nm y hy with e | ⟨j, h1, h2, e⟩
        · exact Or.inl e
        · exact Or.inr ⟨j, h1, by omega, e⟩
      · exact Or.inr ⟨m + 1, by omega, Nat.le_refl _, rfl⟩
structure OkT (x : List Nd × Int) : Prop where
  ne : 1 ≤ x.1.length
  le : x.1.length ≤ 64
  nr : NmR x.1
  ct : CtR x.1
end Go.Proofs.Ytnahpejlhfeleaa
-- NEWGO
-- PRUNE: cl_lendx cl_use
-- ISG: Cs_isG
-- FLAT: Cs_flat
namespace Go.Proofs.Ytnahpejlhfeleaa
set_option linter.unusedVariables false
set_option linter.unusedSimpArgs false
open Go.Proofs.Ytnahpejlhfeleaa.Sh
set_option maxRecDepth 20000
def lendD : FuncId → List Nat := fun f => if f = 12 then [0] else if f = 41 then [0] else []
def dgV (L : List Int) (l : List Nd) (j : Nat) : Int := if nxV L j 15 = 14 then nxV L (nxA L j 15) 9 - 1 else (gN l (nxV L (nxA L j 15) l.length).toNat).i
def dgA (L : List Int) (l : List Nd) (j : Nat) : Nat := if nxV L j 15 = 14 then nxA L (nxA L j 15) 9 else nxA L (nxA L j 15) l.length
set_option maxHeartbeats 8000000 in
theorem dgroup_spec (L : List Int) (hl : L.length ≤ 600) (hr : ∀ x ∈ L, -9223372036854775808 ≤ x ∧ x ≤ 9223372036854775807) (j : Nat) (l : List Nd) (n : Int) (h1 : 1 ≤ l.length) (hll : l.length ≤ 64) :
    FnSpec Try.prog 14 [dp, trV l none n] [dice L j] (i1 (dgV L l j)) [some (dice L (dgA L l j))] := by
  have hnl := nd_len l
  have n1 := bool_spec L j 15 hl hr (by decide)
  unfold dgV dgA
  generalize nxA L j 15 = j2 at *
  have c0 : ¬ (l.length : Int) = 0 := by omega
  by_cases hb : nxV L j 15 = 14
  · rw [decide_eq_true (by omega : nxV L j 15 = 15 - 1)] at n1
    have n2 := next_spec L j2 9 hl hr (by decide)
    have r2 := nx_rng L j2 9 (by decide)
    rw [if_pos hb, if_pos hb]
    generalize nxV L j2 9 = v at *
    refine fnspec_of mixed TT_ok TT_cl ⟨fun _ => false, lendD, 1, fun _ => false, fun _ => false⟩ Try.func14 rfl (by kernel_rfl) rfl 26 rfl [.tmp 4] rfl ?_
    simp only [go_sem, zaa, zai, zaj, zak, zam, zaf, ↓reduceIte, reduceCtorEq, zad, zae, zan, zao, zap, lendD]
    repeat' (first
 | with_reducible refine zaq ?_ ?_
 | (apply cl_lend
    case hr => (simp only [zag, zah, hpL', lookR, zaa, if_true, if_false]; first | exact map1 _ | exact map2 _ _ | exact map3 _ _ _)
    case ha => (simp only [zag, zah, prepV, prepC, idx, hpL', lookR, zaa, if_true, if_false]; rfl)
    case hs => rfl
    case hn => decide
    case h => (first | exact n1 .. | exact n2 ..)
    case hf => (simp only [zab, zac, false_implies, implies_true, and_true, true_and, flat_cons, flat_nil, flat_ints, flat_bools, flat_app, Cs_flat, zaE, and_self, eq_self_iff_true, zal])
    case hl => (simp only [zav, zaz]; decide))
 | ((first | refine s1_id ?_ | refine swp_id ?_ | refine sops_id ?_ | refine s2_id ?_); simp only [lendD, dice, go_sem, zaa, zai, zaj, zak, zam, zaf, ↓reduceIte, reduceCtorEq, zad, zae, zan, zao, zap, zaL, zaN, zaC, zaO, renO, bk, back, outUpsFrom, Ints_ren])
 | (intros; omega)
 | (intros; (try simp only [zau, zaA, zax, zaw, zar, zat, decide_eq_true_eq, decide_eq_false_iff_not] at *); omega))
    (refine fs_flat [(0, dice L (nxA L j2 9))] (by simp) (by simp only [zag, zah]; decide) (by simp only [go_sem, resV, resS, zaL, zaN, zaC, St.tmF, zaW, idx, renO, zaO, evS, slot, lookR, zaa, ↓reduceIte, reduceCtorEq, if_true, if_false, zaR, zaS, zag, zah, sLoad, readAt, readNeed, Ints_ren, Ints_length, Ints_getD, and_true, true_and, zaP, zaQ]; try decide) ?_ (by simp only [zab, zac, false_implies, implies_true, and_true, zaW, lookR, zaa, if_true, if_false, ↓reduceIte, dice] <;> (repeat' apply zaq) <;> (first | rfl | trivial)) (by simp only [zab, zac, false_implies, implies_true, and_true, true_and, flat_cons, flat_nil, flat_ints, flat_bools, flat_app, zaE, and_self, eq_self_iff_true, zal, dice]) ?_ <;> (try simp only [go_sem, resV, resS, zaL, zaN, zaC, St.tmF, zaW, idx, renO, zaO, evS, slot, lookR, zaa, ↓reduceIte, reduceCtorEq, if_true, if_false, zaR, zaS, zag, zah, sLoad, readAt, readNeed, Ints_ren, Ints_length, Ints_getD, and_true, true_and, zaP, zaQ]) <;> (try rfl))
  · rw [decide_eq_false (by omega : ¬ nxV L j 15 = 15 - 1)] at n1
    have n2 := next_spec L j2 l.length hl hr (by omega)
    have r2 := nx_rng L j2 l.length (by omega)
    obtain ⟨v, hv⟩ : ∃ v : Nat, nxV L j2 l.length = v := ⟨(nxV L j2 l.length).toNat, by omega⟩
    rw [hv] at n2 r2 ⊢
    obtain ⟨g1, _⟩ := nd_f l v (by omega) (.sc (.int .i64 0))
    rw [if_neg hb, if_neg hb]
    rw [Int.toNat_natCast]
    refine fnspec_of mixed TT_ok TT_cl ⟨fun _ => false, lendD, 1, fun _ => false, fun _ => false⟩ Try.func14 rfl (by kernel_rfl) rfl 26 rfl [.tmp 4] rfl ?_
    simp only [go_sem, zaa, zai, zaj, zak, zam, zaf, ↓reduceIte, reduceCtorEq, zad, zae, zan, zao, zap, lendD, decide_eq_false c0, g1]
    repeat' (first
 | with_reducible refine zaq ?_ ?_
 | (unfold OKC; kernel_rfl)
 | (unfold EDG; kernel_rfl)
 | (apply cl_lend
    case hr => (simp only [zag, zah, hpL', lookR, zaa, if_true, if_false]; first | exact map1 _ | exact map2 _ _ | exact map3 _ _ _)
    case ha => (simp only [zag, zah, prepV, prepC, idx, hpL', lookR, zaa, if_true, if_false]; rfl)
    case hs => rfl
    case hn => decide
    case h => (first | exact n1 .. | exact n2 ..)
    case hf => (simp only [zab, zac, false_implies, implies_true, and_true, true_and, flat_cons, flat_nil, flat_ints, flat_bools, flat_app, Cs_flat, zaE, and_self, eq_self_iff_true, zal])
    case hl => (simp only [zav, zaz]; decide))
 | ((first | refine s1_id ?_ | refine swp_id ?_ | refine sops_id ?_ | refine s2_id ?_); simp only [lendD, dice, decide_eq_false c0, g1, Int.toNat_natCast, go_sem, zaa, zai, zaj, zak, zam, zaf, ↓reduceIte, reduceCtorEq, zad, zae, zan, zao, zap, zaL, zaN, zaC, zaO, renO, bk, back, outUpsFrom, Ints_ren])
 | (intros; omega)
 | (intros; (try simp only [zau, zaA, zax, zaw, zar, zat, decide_eq_true_eq, decide_eq_false_iff_not] at *); omega))
    (refine fs_flat [(0, dice L (nxA L j2 l.length))] (by simp) (by simp only [zag, zah]; decide) (by simp only [go_sem, resV, resS, zaL, zaN, zaC, St.tmF, zaW, idx, renO, zaO, evS, slot, lookR, zaa, ↓reduceIte, reduceCtorEq, if_true, if_false, zaR, zaS, zag, zah, sLoad, readAt, readNeed, Ints_ren, Ints_length, Ints_getD, and_true, true_and, zaP, zaQ]; try decide) ?_ (by simp only [zab, zac, false_implies, implies_true, and_true, zaW, lookR, zaa, if_true, if_false, ↓reduceIte, dice] <;> (repeat' apply zaq) <;> (first | rfl | trivial)) (by simp only [zab, zac, false_implies, implies_true, and_true, true_and, flat_cons, flat_nil, flat_ints, flat_bools, flat_app, zaE, and_self, eq_self_iff_true, zal, dice]) ?_ <;> (try simp only [go_sem, resV, resS, zaL, zaN, zaC, St.tmF, zaW, idx, renO, zaO, evS, slot, lookR, zaa, ↓reduceIte, reduceCtorEq, if_true, if_false, zaR, zaS, zag, zah, sLoad, readAt, readNeed, Ints_ren, Ints_length, Ints_getD, and_true, true_and, zaP, zaQ]) <;> (try rfl))
end Go.Proofs.Ytnahpejlhfeleaa
-- NEWGO
-- PRUNE: cl_lendx cl_use
-- ISG: Cs_isG
-- FLAT: Cs_flat
namespace Go.Proofs.Ytnahpejlhfeleaa
set_option linter.unusedVariables false
set_option linter.unusedSimpArgs false
open Go.Proofs.Ytnahpejlhfeleaa.Sh
set_option maxRecDepth 20000
theorem tleft_spec (l : List Int) (i : Nat) : FnSpec Try.prog 11 [.one (.gptr (dice l i).cells 0)] [] (b1 (decide ((i : Int) < l.length))) [] := by
  refine fnspec_of mixed TT_ok TT_cl ⟨fun _ => false, fun _ => [], 0, fun _ => false, fun _ => false⟩ Try.func11 rfl (by kernel_rfl) rfl 13 rfl [.tmp 2] rfl ?_
  simp only [go_sem, zaa, zai, zaj, zak, zam, zaf, ↓reduceIte, reduceCtorEq, zad, zae, zan, zao, zap]
  repeat' (first
 | with_reducible refine zaq ?_ ?_
 | (unfold OKC; kernel_rfl)
 | (unfold EDG; kernel_rfl)
 | exact fs_nil trivial rfl
 | fail)
theorem anc_step {l : List Nd} {n : Int} (h : VT l n) {i : Nat} (hi : i < l.length) (h0 : (gN l i).i ≠ 1) : (ancM l n (gN l i).i).length = (ancM l n (gN l i).p).length + 1 := by
  have h1 : i ≠ 0 := fun e => h0 (by rw [e]; exact h.root.1)
  obtain ⟨j, hj, ej⟩ := (h.ch hi h1).par
  have hn : ∀ k, k < l.length → ancM l n (gN l k).i = upL l (gN l k).i := fun k hk => by
    unfold ancM
    rw [if_pos (hasM_iff.2 ⟨(chkT_iff l n).2 h, gN l k, getD_mem l k zn hk, rfl⟩)]
  rw [hn i hi, h.up hi h1, zav, ← ej, hn j (by omega)]
theorem anc_one {l : List Nd} {n : Int} (h : VT l n) : (ancM l n 1).length = 1 := by
  have : ancM l n 1 = upL l 1 := by
    unfold ancM
    rw [if_pos (hasM_iff.2 ⟨(chkT_iff l n).2 h, gN l 0, getD_mem l 0 zn h.ne, h.root.1⟩)]
  rw [this, h.up0]; rfl
def lendV : FuncId → List Nat := fun f => if f = 12 then [0] else if f = 14 then [0] else if f = 15 then [0] else if f = 20 then [0] else []
set_option maxHeartbeats 64000000 in
theorem never5_spec (D : List Int) (hr : ∀ x ∈ D, -9223372036854775808 ≤ x ∧ x ≤ 9223372036854775807) : FnSpec Try.prog 3 [gi D none] [] (b1 true) [] := by
  by_cases hlen : (D.length : Int) ≤ 600
  case neg =>
    refine fnspec_of mixed TT_ok TT_cl ⟨fun _ => false, lendV, 0, fun _ => false, fun _ => false⟩ Try.func3 rfl (by kernel_rfl) rfl 104 rfl [.tmp 2] rfl ?_
    simp only [go_sem, zaa, zai, zaj, zak, zam, zaf, ↓reduceIte, reduceCtorEq, zad, zae, zan, zao, zap, decide_eq_false hlen, lendV]
    repeat' (first
 | (apply cl_plain
    case hs => rfl
    case ha => (simp only [zag, zah, prepV, prepC, idx, hpL', lookR, zaa, if_true, if_false]; rfl)
    case h => (first | exact light_spec .. | exact sane5_spec ..))
 | ((first | refine s1_id ?_ | refine swp_id ?_ | refine sops_id ?_ | refine s2_id ?_); simp only [decide_eq_false hlen, lendV, go_sem, zaa, zai, zaj, zak, zam, zaf, ↓reduceIte, reduceCtorEq, zad, zae, zan, zao, zap, zaL, zaN, zaC, zaO, renO, bk, back, outUpsFrom, Ints_ren])
 | exact fs_nil trivial rfl
 | fail)
  have hl : D.length ≤ 600 := by omega
  refine fnspec_of mixed TT_ok TT_cl ⟨fun _ => false, lendV, 0, fun _ => false, fun _ => false⟩ Try.func3 rfl (by kernel_rfl) rfl 104 rfl [.tmp 2] rfl ?_
  simp only [go_sem, zaa, zai, zaj, zak, zam, zaf, ↓reduceIte, reduceCtorEq, zad, zae, zan, zao, zap, decide_eq_true hlen, lendV]
  repeat' (first
 | (apply cl_plain
    case hs => rfl
    case ha => (simp only [zag, zah, prepV, prepC, idx, hpL', lookR, zaa, if_true, if_false]; rfl)
    case h => (first | exact light_spec .. | exact roll_spec .. | exact tnew_spec ..))
 | ((first | refine s1_id ?_ | refine swp_id ?_ | refine sops_id ?_ | refine s2_id ?_); simp only [decide_eq_true hlen, lendV, dice, zaI, zaJ, zal, zaB, zaD, zaG, zaH, zaF, zaK, zaM, zav, zaz, go_sem, zaa, zai, zaj, zak, zam, zaf, ↓reduceIte, reduceCtorEq, zad, zae, zan, zao, zap, zaL, zaN, zaC, zaO, renO, bk, back, outUpsFrom, Ints_ren])
 | (intros; (try simp only [zau, zaA, zax, zaw, zar, zat, decide_eq_true_eq, decide_eq_false_iff_not] at *); omega))
  refine w_loop (ι := Nat × (List Nd × Int) × Nat × List Int) (fun s => ⟨[(3, .one (.optr 0 0)), (4, .one (.optr 1 0)), (5, .one (.osl 2 0 s.2.2.2.length none)), (6, i1 s.1)], [(0, some (dice D s.2.2.1)), (1, some ⟨[.gsl (Cs s.2.1.1) 0 s.2.1.1.length none, int s.2.1.2], 2⟩), (2, some ⟨Ints s.2.2.2, 1⟩)], 3⟩) (fun s => s.1 ≤ 25 ∧ TI s.2.1.1 s.2.1.2 (s.1 + 1) ∧ (∀ g ∈ s.2.2.2, g < s.2.1.2) ∧ s.2.2.2.length ≤ s.1) (fun s => 25 - s.1) (0, ([⟨1, 0, [], 0, 0, 0⟩], 2), 0, []) ?_ ⟨zaU _, TI_new, fun g hg => absurd hg zac, Nat.le_refl _⟩ ?_
  · (refine Imp.trans (imp_nilA _ _ 5 1 99 (by simp only []; omega) rfl) ?_)
    (refine imp_ren _ _ _ [(0, 5, dice D 0), (1, 8, ⟨[.gsl (Cs [(⟨1, 0, [], 0, 0, 0⟩ : Nd)]) 0 1 none, int 2], 2⟩), (2, 99, ⟨[], 1⟩)] (by simp) (by simp) (by simp) (zay rfl) ?_ rfl (by simp only [zab, zac, false_implies, implies_true, and_true, zaW, lookR, zaa, if_true, if_false, ↓reduceIte, dice] <;> (repeat' apply zaq) <;> (first | rfl | trivial)) (by simp only [zab, zac, false_implies, implies_true, and_true, true_and, flat_cons, flat_nil, flat_ints, flat_bools, flat_app, zaE, and_self, eq_self_iff_true, zal, dice]); simp only [zag, zah, zab, zac, false_implies, implies_true, and_true, lk, slot, zaL, zaC, toN, zaa, if_true, if_false, ↓reduceIte, reduceCtorEq])
    all_goals ((repeat' apply zaq) <;> (first | rfl | trivial))
  rintro ⟨m, ⟨l, n⟩, j, G⟩ ⟨hm, hT, hG, hGl⟩
  simp only at hm hT hG hGl ⊢
  have hle := hT.len
  have hnl := nd_len l
  have hnr := hT.nr
  have hV := hT.v.vt
  have hct := hV.ctR
  have dl := tleft_spec D j
  simp only [dice] at dl
  by_cases hgo : (m : Int) < 25 ∧ (j : Int) < (D.length : Int)
  case neg =>
    have hgo' : ¬ (m : Int) < 25 ∨ ((m : Int) < 25 ∧ ¬ (j : Int) < (D.length : Int)) := by omega
    rcases hgo' with c1 | ⟨c1, c2⟩
    focus
      simp only [go_sem, zaa, zai, zaj, zak, zam, zaf, ↓reduceIte, reduceCtorEq, zad, zae, zan, zao, zap, decide_eq_false c1, lendV]
      repeat' (first
 | (intros; (try simp only [zau, zaA, zax, zaw, zar, zat, decide_eq_true_eq, decide_eq_false_iff_not] at *); omega))
      refine w_loop (ι := Nat) (fun i => ⟨[(4, .one (.optr 0 0)), (73, i1 l.length), (74, i1 i)], [(0, some ⟨[.gsl (Cs l) 0 l.length none, int n], 2⟩)], 1⟩) (fun i => i ≤ l.length) (fun i => l.length - i) 0 ?_ (zaU _) ?_
      focus
        (refine imp_ren _ _ _ [(0, 1, ⟨[.gsl (Cs l) 0 l.length none, int n], 2⟩)] (by simp) (by simp) (by simp) (zay rfl) ?_ rfl (by simp only [zab, zac, false_implies, implies_true, and_true, zaW, lookR, zaa, if_true, if_false, ↓reduceIte, dice] <;> (repeat' apply zaq) <;> (first | rfl | trivial)) (by simp only [zab, zac, false_implies, implies_true, and_true, true_and, flat_cons, flat_nil, flat_ints, flat_bools, flat_app, zaE, and_self, eq_self_iff_true, zal, dice]); simp only [zag, zah, zab, zac, false_implies, implies_true, and_true, lk, slot, zaL, zaC, toN, zaa, if_true, if_false, ↓reduceIte, reduceCtorEq])
        all_goals ((repeat' apply zaq) <;> (first | rfl | trivial))
    rotate_left
    focus
      simp only [go_sem, zaa, zai, zaj, zak, zam, zaf, ↓reduceIte, reduceCtorEq, zad, zae, zan, zao, zap, decide_eq_true c1, decide_eq_false c2, lendV]
      repeat' (first
 | (apply cg_ts
    case hl => rfl
    case ha => (simp only [zag, zah, prepV, prepC, idx, hpL', lookR, zaa, if_true, if_false]; rfl)
    case hs => (simp only [snaps_nil, zaV, zaX, SV.refs, zaE, zaD, zaB, zal]; rfl)
    case h => (first | exact dl ..)
    case hf => ((simp only [zab, zac, false_implies, implies_true, and_true, hpL', lookR, zaa, if_true, if_false]) <;> (repeat' apply zaq) <;> (first | exact ⟨_, rfl, Ints_isG _⟩ | exact ⟨_, rfl, Cs_isG _⟩ | exact ⟨_, rfl, by simp [Cell.isG]⟩))
    case hg => simp [SV.noG, SV.noGL, Cell.noG])
 | ((first | refine s1_id ?_ | refine swp_id ?_ | refine sops_id ?_ | refine s2_id ?_); simp only [decide_eq_true c1, decide_eq_false c2, lendV, dice, zaI, zaJ, zal, zaB, zaD, zaG, zaH, zaF, zaK, zaM, zav, zaz, go_sem, zaa, zai, zaj, zak, zam, zaf, ↓reduceIte, reduceCtorEq, zad, zae, zan, zao, zap, zaL, zaN, zaC, zaO, renO, bk, back, outUpsFrom, Ints_ren])
 | (intros; (try simp only [zau, zaA, zax, zaw, zar, zat, decide_eq_true_eq, decide_eq_false_iff_not] at *); omega))
      refine w_loop (ι := Nat) (fun i => ⟨[(4, .one (.optr 0 0)), (73, i1 l.length), (74, i1 i)], [(0, some ⟨[.gsl (Cs l) 0 l.length none, int n], 2⟩)], 1⟩) (fun i => i ≤ l.length) (fun i => l.length - i) 0 ?_ (zaU _) ?_
      focus
        (refine imp_ren _ _ _ [(0, 1, ⟨[.gsl (Cs l) 0 l.length none, int n], 2⟩)] (by simp) (by simp) (by simp) (zay rfl) ?_ rfl (by simp only [zab, zac, false_implies, implies_true, and_true, zaW, lookR, zaa, if_true, if_false, ↓reduceIte, dice] <;> (repeat' apply zaq) <;> (first | rfl | trivial)) (by simp only [zab, zac, false_implies, implies_true, and_true, true_and, flat_cons, flat_nil, flat_ints, flat_bools, flat_app, zaE, and_self, eq_self_iff_true, zal, dice]); simp only [zag, zah, zab, zac, false_implies, implies_true, and_true, lk, slot, zaL, zaC, toN, zaa, if_true, if_false, ↓reduceIte, reduceCtorEq])
        all_goals ((repeat' apply zaq) <;> (first | rfl | trivial))
    rotate_left
    all_goals (
      intro i hi
      simp only at hi ⊢
      rcases Nat.lt_or_ge i l.length with hlt | hge
      case inr =>
        have c : ¬ (i : Int) < (l.length : Int) := by omega
        have d1 := tdepth_spec l n 1 (by omega) hnr hct
        rw [anc_one hV, show (((1 : Nat) : Int) - 1) = 0 from rfl] at d1
        simp only [go_sem, zaa, zai, zaj, zak, zam, zaf, ↓reduceIte, reduceCtorEq, zad, zae, zan, zao, zap, decide_eq_false c, lendV]
        repeat' (first
 | (apply cg_tp
    case hl => rfl
    case ha => (simp only [zag, zah, prepV, prepC, idx, hpL', lookR, zaa, if_true, if_false]; rfl)
    case hs => rfl
    case h => (first | exact d1 .. | exact sane5_spec ..))
 | (apply cl_plain
    case hs => rfl
    case ha => (simp only [zag, zah, prepV, prepC, idx, hpL', lookR, zaa, if_true, if_false]; rfl)
    case h => (first | exact d1 .. | exact sane5_spec ..))
 | ((first | refine s1_id ?_ | refine swp_id ?_ | refine sops_id ?_ | refine s2_id ?_); simp only [decide_eq_false c, lendV, decide_true, zaI, zaJ, zal, zaB, zaD, zaG, zaH, zaF, zaK, zaM, zav, zaz, go_sem, zaa, zai, zaj, zak, zam, zaf, ↓reduceIte, reduceCtorEq, zad, zae, zan, zao, zap, zaL, zaN, zaC, zaO, renO, bk, back, outUpsFrom, Ints_ren])
 | exact fs_nil trivial rfl
 | fail)
      have c : (i : Int) < (l.length : Int) := by omega
      have hat : List.take 6 (List.drop (i * 6) (Cs l)) = ndc (gN l i) := Cs_td l i hlt
      have hst := anc_step hV hlt
      have d1 := tdepth_spec l n (gN l i).i (by omega) hnr hct
      have d2 := tdepth_spec l n (gN l i).p (by omega) hnr hct
      have hu1 := ancM_len l n (gN l i).i
      have hu2 := ancM_len l n (gN l i).p
      generalize ancM l n (gN l i).i = U1 at *
      generalize ancM l n (gN l i).p = U2 at *
      generalize gN l i = x at *
      obtain ⟨xi, xp, xn, xc, xk, xo⟩ := x
      simp only [ndc] at hat hst d1 d2
      by_cases h1 : xi = 1
      · simp only [go_sem, zaa, zai, zaj, zak, zam, zaf, ↓reduceIte, reduceCtorEq, zad, zae, zan, zao, zap, decide_eq_true c, decide_eq_true h1, hat, lendV]
        repeat' (first
 | with_reducible refine zaq ?_ ?_
 | (unfold OKC; kernel_rfl)
 | (unfold EDG; kernel_rfl)
 | (intros; omega)
 | (intros; (try simp only [zau, zaA, zax, zaw, zar, zat, decide_eq_true_eq, decide_eq_false_iff_not] at *); omega))
        refine le_mk (i + 1) ?_ hlt (by show l.length - (i + 1) < l.length - i; omega)
        (refine imp_ren _ _ _ [(0, 0, ⟨[.gsl (Cs l) 0 l.length none, int n], 2⟩)] (by simp) (by simp) (by simp) (zay rfl) ?_ rfl (by simp only [zab, zac, false_implies, implies_true, and_true, zaW, lookR, zaa, if_true, if_false, ↓reduceIte] <;> (repeat' apply zaq) <;> (first | rfl | trivial)) (by simp only [zab, zac, false_implies, implies_true, and_true, true_and, flat_cons, flat_nil, flat_ints, flat_bools, flat_app, zaE, and_self, eq_self_iff_true, zal]); simp only [zag, zah, zab, zac, false_implies, implies_true, and_true, lk, slot, zaL, zaC, toN, zaa, if_true, if_false, ↓reduceIte, reduceCtorEq])
        all_goals ((repeat' apply zaq) <;> (first | rfl | trivial | (simp only [zas]; done) | (simp only [zas]; rfl) | (simp only [zas]; trivial)))
      · have he : ((U1.length : Int) - 1) = (U2.length : Int) - 1 + 1 := by have := hst h1; omega
        simp only [go_sem, zaa, zai, zaj, zak, zam, zaf, ↓reduceIte, reduceCtorEq, zad, zae, zan, zao, zap, decide_eq_true c, decide_eq_false h1, hat, lendV]
        repeat' (first
 | with_reducible refine zaq ?_ ?_
 | (unfold OKC; kernel_rfl)
 | (unfold EDG; kernel_rfl)
 | (apply cg_tp
    case hl => rfl
    case ha => (simp only [zag, zah, prepV, prepC, idx, hpL', lookR, zaa, if_true, if_false]; rfl)
    case hs => rfl
    case h => (first | exact d1 .. | exact d2 ..))
 | ((first | refine s1_id ?_ | refine swp_id ?_ | refine sops_id ?_ | refine s2_id ?_); simp only [decide_eq_true c, decide_eq_false h1, hat, decide_eq_true he, lendV, zaI, zaJ, zal, zaB, zaD, zaG, zaH, zaF, zaK, zaM, zav, zaz, go_sem, zaa, zai, zaj, zak, zam, zaf, ↓reduceIte, reduceCtorEq, zad, zae, zan, zao, zap, zaL, zaN, zaC, zaO, renO, bk, back, outUpsFrom, Ints_ren])
 | (intros; omega)
 | (intros; (try simp only [zau, zaA, zax, zaw, zar, zat, decide_eq_true_eq, decide_eq_false_iff_not] at *); omega))
        refine le_mk (i + 1) ?_ hlt (by show l.length - (i + 1) < l.length - i; omega)
        (refine imp_ren _ _ _ [(0, 0, ⟨[.gsl (Cs l) 0 l.length none, int n], 2⟩)] (by simp) (by simp) (by simp) (zay rfl) ?_ rfl (by simp only [zab, zac, false_implies, implies_true, and_true, zaW, lookR, zaa, if_true, if_false, ↓reduceIte] <;> (repeat' apply zaq) <;> (first | rfl | trivial)) (by simp only [zab, zac, false_implies, implies_true, and_true, true_and, flat_cons, flat_nil, flat_ints, flat_bools, flat_app, zaE, and_self, eq_self_iff_true, zal]); simp only [zag, zah, zab, zac, false_implies, implies_true, and_true, lk, slot, zaL, zaC, toN, zaa, if_true, if_false, ↓reduceIte, reduceCtorEq])
        all_goals ((repeat' apply zaq) <;> (first | rfl | trivial | (simp only [zas]; done) | (simp only [zas]; rfl) | (simp only [zas]; trivial))))
  obtain ⟨c1, c2⟩ := hgo
  have n1 := next_spec D j 3 hl hr (by decide)
  have r1 := nx_rng D j 3 (by decide)
  generalize nxV D j 3 = v at *
  generalize nxA D j 3 = j1 at *
  have g1 := dgroup_spec D hl hr j1 l n hle.1 (by omega)
  generalize dgV D l j1 = gq at *
  generalize dgA D l j1 = j2 at *
  by_cases c3 : 0 < v
  · have s1 := name_spec hl hr j2
    have hsl := nmV_len D j2
    generalize nmV D j2 = s at *
    generalize nxA D j2 6 = j3 at *
    have a1 := tadd_spec l n gq s (by omega) hnr hct (by omega)
    have hTa := fun he => hT.add (p := gq) (s := s) hsl he
    have hok := fun he => (addM_ok (l := l) (n := n) (p := gq) (s := s) he).1
    simp only [adV] at a1
    by_cases he : (addM l n gq s).2.2 = 0
    · have hT2 := hTa he
      rw [hok he] at a1 hT2
      simp only at a1 hT2
      have hV2 := hT2.v.vt
      have k1 := trcheck_spec (l ++ [newN n gq s]) none (n + 1) (by have := hT2.len; omega) hT2.nr
      rw [(chkT_iff _ _).2 hV2] at k1
      have hn2 : ¬ n ≤ 1 := by have := hV.lt hle.1; have := hV.pos hle.1; omega
      have hnG : ¬ n ∈ G := fun h => by have := hG n h; omega
      have b1' := fun k => has_spec G k n (by omega)
      simp only [decide_eq_false hnG] at b1'
      have hG2 : ∀ g ∈ G ++ [n], g < n + 1 := fun g hg => by
        rcases List.mem_append.1 hg with h | h
        · have := hG g h; omega
        · rw [List.mem_singleton.1 h]; omega
      have htk : List.take G.length (Ints G) = Ints G := zaT (by rw [Ints_length]; exact Nat.le_refl _)
      have hpp : Ints G ++ [int n] = Ints (G ++ [n]) := by simp [Ints]
      have hla : (G ++ [n]).length = G.length + 1 := by simp
      clear hTa hok hnG
      generalize l ++ [newN n gq s] = l2 at *
      simp only [go_sem, zaa, zai, zaj, zak, zam, zaf, ↓reduceIte, reduceCtorEq, zad, zae, zan, zao, zap, decide_eq_true c1, decide_eq_true c2, decide_eq_true c3, decide_eq_false hn2, htk, hpp, lendV]
      repeat' (first
 | with_reducible refine zaq ?_ ?_
 | (unfold OKC; kernel_rfl)
 | (unfold EDG; kernel_rfl)
 | (apply cg_ts
    case hl => rfl
    case ha => (simp only [zag, zah, prepV, prepC, idx, hpL', lookR, zaa, if_true, if_false]; rfl)
    case hs => (simp only [snaps_nil, zaV, zaX, SV.refs, zaE, zaD, zaB, zal]; rfl)
    case h => (first | exact dl .. | exact n1 .. | exact g1 .. | exact s1 .. | exact a1 .. | exact b1' .. | exact k1 ..)
    case hf => ((simp only [zab, zac, false_implies, implies_true, and_true, hpL', lookR, zaa, if_true, if_false]) <;> (repeat' apply zaq) <;> (first | exact ⟨_, rfl, Ints_isG _⟩ | exact ⟨_, rfl, Cs_isG _⟩ | exact ⟨_, rfl, by simp [Cell.isG]⟩))
    case hg => simp [SV.noG, SV.noGL, Cell.noG])
 | (apply cl_plain
    case hs => rfl
    case ha => (simp only [zag, zah, prepV, prepC, idx, hpL', lookR, zaa, if_true, if_false]; rfl)
    case h => (first | exact dl .. | exact n1 .. | exact g1 .. | exact s1 .. | exact a1 .. | exact b1' .. | exact k1 ..))
 | (apply cl_lend
    case hr => (simp only [zag, zah, hpL', lookR, zaa, if_true, if_false]; first | exact map1 _ | exact map2 _ _ | exact map3 _ _ _)
    case ha => (simp only [zag, zah, prepV, prepC, idx, hpL', lookR, zaa, if_true, if_false]; rfl)
    case hs => rfl
    case hn => decide
    case h => (first | exact dl .. | exact n1 .. | exact g1 .. | exact s1 .. | exact a1 .. | exact b1' .. | exact k1 ..)
    case hf => (simp only [zab, zac, false_implies, implies_true, and_true, true_and, flat_cons, flat_nil, flat_ints, flat_bools, flat_app, Cs_flat, zaE, and_self, eq_self_iff_true, zal])
    case hl => (simp only [zav, zaz]; decide))
 | (apply cl_show
    case ha => (simp only [zag, zah, prepV, prepC, idx, hpL', lookR, zaa, if_true, if_false]; rfl)
    case hs => ((simp [snaps, SV.refs, zaE, idx, hpL', lookR]) <;> (repeat' apply zaq) <;> (first | exact Ints_isG _ | exact Cs_isG _))
    case h => (first | exact dl .. | exact n1 .. | exact g1 .. | exact s1 .. | exact a1 .. | exact b1' .. | exact k1 ..)
    case hg => ((simp [SV.noG, SV.noGL, Cell.noG]) <;> (repeat' apply zaq) <;> exact Ints_noG _))
 | ((first | refine s1_id ?_ | refine swp_id ?_ | refine sops_id ?_ | refine s2_id ?_); simp only [decide_eq_true c1, decide_eq_true c2, decide_eq_true c3, decide_eq_false hn2, htk, hpp, decide_true, lendV, dice, zaI, zaJ, zal, zaB, zaD, zaG, zaH, zaF, zaK, zaM, zav, zaz, go_sem, zaa, zai, zaj, zak, zam, zaf, ↓reduceIte, reduceCtorEq, zad, zae, zan, zao, zap, zaL, zaN, zaC, zaO, renO, bk, back, outUpsFrom, Ints_ren])
 | (intros; omega)
 | (intros; (try simp only [zau, zaA, zax, zaw, zar, zat, decide_eq_true_eq, decide_eq_false_iff_not] at *); omega))
      refine le_mk (m + 1, (l2, n + 1), j3, G ++ [n]) ?_ ⟨by show m + 1 ≤ 25; omega, hT2, hG2, by show (G ++ [n]).length ≤ m + 1; omega⟩ (by show 25 - (m + 1) < 25 - m; omega)
      simp only [hla]
      (refine imp_ren _ _ _ [(0, 0, dice D j3), (1, 1, ⟨[.gsl (Cs l2) 0 l2.length none, int (n + 1)], 2⟩), (2, 40, ⟨Ints (G ++ [n]), 1⟩)] (by simp) (by simp) (by simp) (zay rfl) ?_ rfl (by simp only [zab, zac, false_implies, implies_true, and_true, zaW, lookR, zaa, if_true, if_false, ↓reduceIte, dice] <;> (repeat' apply zaq) <;> (first | rfl | trivial)) (by simp only [zab, zac, false_implies, implies_true, and_true, true_and, flat_cons, flat_nil, flat_ints, flat_bools, flat_app, zaE, and_self, eq_self_iff_true, zal, dice]); simp only [zag, zah, zab, zac, false_implies, implies_true, and_true, lk, slot, zaL, zaC, toN, zaa, if_true, if_false, ↓reduceIte, reduceCtorEq])
      all_goals ((repeat' apply zaq) <;> (first | rfl | trivial | (simp only [zas]; done) | (simp only [zas]; rfl) | (simp only [zas]; trivial)))
    · have k1 := trcheck_spec l none n (by omega) hnr
      rw [(chkT_iff _ _).2 hV] at k1
      generalize addM l n gq s = R at *
      obtain ⟨⟨l2, n2⟩, id2, e2⟩ := R
      simp only at he a1
      clear hTa hok
      simp only [go_sem, zaa, zai, zaj, zak, zam, zaf, ↓reduceIte, reduceCtorEq, zad, zae, zan, zao, zap, decide_eq_true c1, decide_eq_true c2, decide_eq_true c3, decide_eq_false he, lendV]
      repeat' (first
 | with_reducible refine zaq ?_ ?_
 | (unfold OKC; kernel_rfl)
 | (unfold EDG; kernel_rfl)
 | (apply cg_ts
    case hl => rfl
    case ha => (simp only [zag, zah, prepV, prepC, idx, hpL', lookR, zaa, if_true, if_false]; rfl)
    case hs => (simp only [snaps_nil, zaV, zaX, SV.refs, zaE, zaD, zaB, zal]; rfl)
    case h => (first | exact dl .. | exact n1 .. | exact g1 .. | exact s1 .. | exact a1 .. | exact k1 ..)
    case hf => ((simp only [zab, zac, false_implies, implies_true, and_true, hpL', lookR, zaa, if_true, if_false]) <;> (repeat' apply zaq) <;> (first | exact ⟨_, rfl, Ints_isG _⟩ | exact ⟨_, rfl, Cs_isG _⟩ | exact ⟨_, rfl, by simp [Cell.isG]⟩))
    case hg => simp [SV.noG, SV.noGL, Cell.noG])
 | (apply cl_plain
    case hs => rfl
    case ha => (simp only [zag, zah, prepV, prepC, idx, hpL', lookR, zaa, if_true, if_false]; rfl)
    case h => (first | exact dl .. | exact n1 .. | exact g1 .. | exact s1 .. | exact a1 .. | exact k1 ..))
 | (apply cl_lend
    case hr => (simp only [zag, zah, hpL', lookR, zaa, if_true, if_false]; first | exact map1 _ | exact map2 _ _ | exact map3 _ _ _)
    case ha => (simp only [zag, zah, prepV, prepC, idx, hpL', lookR, zaa, if_true, if_false]; rfl)
    case hs => rfl
    case hn => decide
    case h => (first | exact dl .. | exact n1 .. | exact g1 .. | exact s1 .. | exact a1 .. | exact k1 ..)
    case hf => (simp only [zab, zac, false_implies, implies_true, and_true, true_and, flat_cons, flat_nil, flat_ints, flat_bools, flat_app, Cs_flat, zaE, and_self, eq_self_iff_true, zal])
    case hl => (simp only [zav, zaz]; decide))
 | ((first | refine s1_id ?_ | refine swp_id ?_ | refine sops_id ?_ | refine s2_id ?_); simp only [decide_eq_true c1, decide_eq_true c2, decide_eq_true c3, decide_eq_false he, lendV, dice, zaI, zaJ, zal, zaB, zaD, zaG, zaH, zaF, zaK, zaM, zav, zaz, go_sem, zaa, zai, zaj, zak, zam, zaf, ↓reduceIte, reduceCtorEq, zad, zae, zan, zao, zap, zaL, zaN, zaC, zaO, renO, bk, back, outUpsFrom, Ints_ren])
 | (intros; omega)
 | (intros; (try simp only [zau, zaA, zax, zaw, zar, zat, decide_eq_true_eq, decide_eq_false_iff_not] at *); omega))
      refine le_mk (m + 1, (l, n), j3, G) ?_ ⟨by show m + 1 ≤ 25; omega, hT.mono (Nat.le_succ _), hG, by show G.length ≤ m + 1; omega⟩ (by show 25 - (m + 1) < 25 - m; omega)
      (refine imp_ren _ _ _ [(0, 0, dice D j3), (1, 1, ⟨[.gsl (Cs l) 0 l.length none, int n], 2⟩), (2, 2, ⟨Ints G, 1⟩)] (by simp) (by simp) (by simp) (zay rfl) ?_ rfl (by simp only [zab, zac, false_implies, implies_true, and_true, zaW, lookR, zaa, if_true, if_false, ↓reduceIte, dice] <;> (repeat' apply zaq) <;> (first | rfl | trivial)) (by simp only [zab, zac, false_implies, implies_true, and_true, true_and, flat_cons, flat_nil, flat_ints, flat_bools, flat_app, zaE, and_self, eq_self_iff_true, zal, dice]); simp only [zag, zah, zab, zac, false_implies, implies_true, and_true, lk, slot, zaL, zaC, toN, zaa, if_true, if_false, ↓reduceIte, reduceCtorEq])
      all_goals ((repeat' apply zaq) <;> (first | rfl | trivial | (simp only [zas]; done) | (simp only [zas]; rfl) | (simp only [zas]; trivial)))
  · have a1 := trem_spec l n gq (by omega) hnr hct
    have hTa := fun he => hT.rem (id := gq) he
    have hok := fun he => (rmM_ok (l := l) (n := n) (id := gq) he).1
    simp only [rmV] at a1
    by_cases he : (rmM l n gq).2 = 0
    · have hT2 := hTa he
      rw [hok he] at a1 hT2
      simp only at a1 hT2
      have hV2 := hT2.v.vt
      have k1 := trcheck_spec (rmN l gq) none n (by have := hT2.len; omega) hT2.nr
      rw [(chkT_iff _ _).2 hV2] at k1
      clear hTa hok
      generalize rmN l gq = l2 at *
      simp only [go_sem, zaa, zai, zaj, zak, zam, zaf, ↓reduceIte, reduceCtorEq, zad, zae, zan, zao, zap, decide_eq_true c1, decide_eq_true c2, decide_eq_false c3, lendV]
      repeat' (first
 | with_reducible refine zaq ?_ ?_
 | (unfold OKC; kernel_rfl)
 | (unfold EDG; kernel_rfl)
 | (apply cg_ts
    case hl => rfl
    case ha => (simp only [zag, zah, prepV, prepC, idx, hpL', lookR, zaa, if_true, if_false]; rfl)
    case hs => (simp only [snaps_nil, zaV, zaX, SV.refs, zaE, zaD, zaB, zal]; rfl)
    case h => (first | exact dl .. | exact n1 .. | exact g1 .. | exact a1 .. | exact k1 ..)
    case hf => ((simp only [zab, zac, false_implies, implies_true, and_true, hpL', lookR, zaa, if_true, if_false]) <;> (repeat' apply zaq) <;> (first | exact ⟨_, rfl, Ints_isG _⟩ | exact ⟨_, rfl, Cs_isG _⟩ | exact ⟨_, rfl, by simp [Cell.isG]⟩))
    case hg => simp [SV.noG, SV.noGL, Cell.noG])
 | (apply cl_plain
    case hs => rfl
    case ha => (simp only [zag, zah, prepV, prepC, idx, hpL', lookR, zaa, if_true, if_false]; rfl)
    case h => (first | exact dl .. | exact n1 .. | exact g1 .. | exact a1 .. | exact k1 ..))
 | (apply cl_lend
    case hr => (simp only [zag, zah, hpL', lookR, zaa, if_true, if_false]; first | exact map1 _ | exact map2 _ _ | exact map3 _ _ _)
    case ha => (simp only [zag, zah, prepV, prepC, idx, hpL', lookR, zaa, if_true, if_false]; rfl)
    case hs => rfl
    case hn => decide
    case h => (first | exact dl .. | exact n1 .. | exact g1 .. | exact a1 .. | exact k1 ..)
    case hf => (simp only [zab, zac, false_implies, implies_true, and_true, true_and, flat_cons, flat_nil, flat_ints, flat_bools, flat_app, Cs_flat, zaE, and_self, eq_self_iff_true, zal])
    case hl => (simp only [zav, zaz]; decide))
 | ((first | refine s1_id ?_ | refine swp_id ?_ | refine sops_id ?_ | refine s2_id ?_); simp only [decide_eq_true c1, decide_eq_true c2, decide_eq_false c3, decide_true, lendV, dice, zaI, zaJ, zal, zaB, zaD, zaG, zaH, zaF, zaK, zaM, zav, zaz, go_sem, zaa, zai, zaj, zak, zam, zaf, ↓reduceIte, reduceCtorEq, zad, zae, zan, zao, zap, zaL, zaN, zaC, zaO, renO, bk, back, outUpsFrom, Ints_ren])
 | (intros; omega)
 | (intros; (try simp only [zau, zaA, zax, zaw, zar, zat, decide_eq_true_eq, decide_eq_false_iff_not] at *); omega))
      refine le_mk (m + 1, (l2, n), j2, G) ?_ ⟨by show m + 1 ≤ 25; omega, hT2.mono (Nat.le_succ _), hG, by show G.length ≤ m + 1; omega⟩ (by show 25 - (m + 1) < 25 - m; omega)
      (refine imp_ren _ _ _ [(0, 0, dice D j2), (1, 1, ⟨[.gsl (Cs l2) 0 l2.length none, int n], 2⟩), (2, 2, ⟨Ints G, 1⟩)] (by simp) (by simp) (by simp) (zay rfl) ?_ rfl (by simp only [zab, zac, false_implies, implies_true, and_true, zaW, lookR, zaa, if_true, if_false, ↓reduceIte, dice] <;> (repeat' apply zaq) <;> (first | rfl | trivial)) (by simp only [zab, zac, false_implies, implies_true, and_true, true_and, flat_cons, flat_nil, flat_ints, flat_bools, flat_app, zaE, and_self, eq_self_iff_true, zal, dice]); simp only [zag, zah, zab, zac, false_implies, implies_true, and_true, lk, slot, zaL, zaC, toN, zaa, if_true, if_false, ↓reduceIte, reduceCtorEq])
      all_goals ((repeat' apply zaq) <;> (first | rfl | trivial | (simp only [zas]; done) | (simp only [zas]; rfl) | (simp only [zas]; trivial)))
    · have k1 := trcheck_spec l none n (by omega) hnr
      rw [(chkT_iff _ _).2 hV] at k1
      generalize rmM l n gq = R at *
      obtain ⟨⟨l2, n2⟩, e2⟩ := R
      simp only at he a1
      clear hTa hok
      simp only [go_sem, zaa, zai, zaj, zak, zam, zaf, ↓reduceIte, reduceCtorEq, zad, zae, zan, zao, zap, decide_eq_true c1, decide_eq_true c2, decide_eq_false c3, decide_eq_false he, lendV]
      repeat' (first
 | with_reducible refine zaq ?_ ?_
 | (unfold OKC; kernel_rfl)
 | (unfold EDG; kernel_rfl)
 | (apply cg_ts
    case hl => rfl
    case ha => (simp only [zag, zah, prepV, prepC, idx, hpL', lookR, zaa, if_true, if_false]; rfl)
    case hs => (simp only [snaps_nil, zaV, zaX, SV.refs, zaE, zaD, zaB, zal]; rfl)
    case h => (first | exact dl .. | exact n1 .. | exact g1 .. | exact a1 .. | exact k1 ..)
    case hf => ((simp only [zab, zac, false_implies, implies_true, and_true, hpL', lookR, zaa, if_true, if_false]) <;> (repeat' apply zaq) <;> (first | exact ⟨_, rfl, Ints_isG _⟩ | exact ⟨_, rfl, Cs_isG _⟩ | exact ⟨_, rfl, by simp [Cell.isG]⟩))
    case hg => simp [SV.noG, SV.noGL, Cell.noG])
 | (apply cl_plain
    case hs => rfl
    case ha => (simp only [zag, zah, prepV, prepC, idx, hpL', lookR, zaa, if_true, if_false]; rfl)
    case h => (first | exact dl .. | exact n1 .. | exact g1 .. | exact a1 .. | exact k1 ..))
 | (apply cl_lend
    case hr => (simp only [zag, zah, hpL', lookR, zaa, if_true, if_false]; first | exact map1 _ | exact map2 _ _ | exact map3 _ _ _)
    case ha => (simp only [zag, zah, prepV, prepC, idx, hpL', lookR, zaa, if_true, if_false]; rfl)
    case hs => rfl
    case hn => decide
    case h => (first | exact dl .. | exact n1 .. | exact g1 .. | exact a1 .. | exact k1 ..)
    case hf => (simp only [zab, zac, false_implies, implies_true, and_true, true_and, flat_cons, flat_nil, flat_ints, flat_bools, flat_app, Cs_flat, zaE, and_self, eq_self_iff_true, zal])
    case hl => (simp only [zav, zaz]; decide))
 | ((first | refine s1_id ?_ | refine swp_id ?_ | refine sops_id ?_ | refine s2_id ?_); simp only [decide_eq_true c1, decide_eq_true c2, decide_eq_false c3, decide_eq_false he, lendV, dice, zaI, zaJ, zal, zaB, zaD, zaG, zaH, zaF, zaK, zaM, zav, zaz, go_sem, zaa, zai, zaj, zak, zam, zaf, ↓reduceIte, reduceCtorEq, zad, zae, zan, zao, zap, zaL, zaN, zaC, zaO, renO, bk, back, outUpsFrom, Ints_ren])
 | (intros; omega)
 | (intros; (try simp only [zau, zaA, zax, zaw, zar, zat, decide_eq_true_eq, decide_eq_false_iff_not] at *); omega))
      refine le_mk (m + 1, (l, n), j2, G) ?_ ⟨by show m + 1 ≤ 25; omega, hT.mono (Nat.le_succ _), hG, by show G.length ≤ m + 1; omega⟩ (by show 25 - (m + 1) < 25 - m; omega)
      (refine imp_ren _ _ _ [(0, 0, dice D j2), (1, 1, ⟨[.gsl (Cs l) 0 l.length none, int n], 2⟩), (2, 2, ⟨Ints G, 1⟩)] (by simp) (by simp) (by simp) (zay rfl) ?_ rfl (by simp only [zab, zac, false_implies, implies_true, and_true, zaW, lookR, zaa, if_true, if_false, ↓reduceIte, dice] <;> (repeat' apply zaq) <;> (first | rfl | trivial)) (by simp only [zab, zac, false_implies, implies_true, and_true, true_and, flat_cons, flat_nil, flat_ints, flat_bools, flat_app, zaE, and_self, eq_self_iff_true, zal, dice]); simp only [zag, zah, zab, zac, false_implies, implies_true, and_true, lk, slot, zaL, zaC, toN, zaa, if_true, if_false, ↓reduceIte, reduceCtorEq])
      all_goals ((repeat' apply zaq) <;> (first | rfl | trivial | (simp only [zas]; done) | (simp only [zas]; rfl) | (simp only [zas]; trivial)))
theorem never5_main (g0 : List Cell) (s0 : GTy Try.prog 12 22 g0) : FnSpec Try.prog 3 [svOf Try.prog 22 g0] [] (b1 true) [] := by
  obtain ⟨l, rfl, hl, hr⟩ := gty_ints (n := 10) Try.underlying22 Try.underlying3 s0
  simp only [svOf, Try.underlying22, List.headD_cons]
  exact never5_spec l hr
end Go.Proofs.Ytnahpejlhfeleaa
