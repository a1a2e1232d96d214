/- Contracts of functions, told of values, on the way to TreeApart (part 6). -/
import Derived.Shelf.Strings.Builder1
import Derived.Shelf.Strings.Builder2
import Derived.Shelf.Strings.OnBuilder
import Derived.Ground.Names2Prog
import Derived.Shelf.Slices.ReverseS
import Derived.Shelf.Slices.SearchI
import Derived.Shelf.Slices.Cells
import Derived.Test.YtnahpejlhfeleaaProg
import Derived.Test.YtnahpejlhfeleaaTreeApartM3
import Derived.Test.YtnahpejlhfeleaaTreeApartM5
import Derived.Lib.Join
import Derived.Test.YtnahpejlhfeleaaTreeApartM4
-- short names of the library's lemmas
open Nat renaming reduceEqDiff → zaa, reduceLeDiff → zae, reduceAdd → zah, reduceSub → zai, reduceMul → zaj, reduceLT → zal, le_of_ble_eq_true → zaC, zero_le → zaU
open List renaming reduceReplicate → zab, forall_mem_cons → zad, not_mem_nil → zaf, map_cons → zag, map_nil → zak, append_nil → zap, length_cons → zaq, length_nil → zaw, take_succ_cons → zax, set_cons_zero → zaA, set_cons_succ → zaB, flatten_cons → zaD, flatten_nil → zaG, cons_append → zaH, nil_append → zaI, take_zero → zaJ, take_nil → zaK, length_reverse → zaM, length_set → zaQ, filter_cons_of_pos → zaR, filter_cons_of_neg → zaS, take_of_length_le → zaT, flatMap_cons → zaV
open Int renaming cast_ofNat_Int → zac, reduceEq → zam, reduceLT → zan, reduceLE → zao, natCast_add → zat
open Bool renaming and_eq_false_iff → zas, or_eq_false_iff → zau, and_eq_true → zav, not_eq_false' → zay, not_eq_true' → zaz, or_eq_true → zaF
open And renaming intro → zar
open Go.Proofs.Ytnahpejlhfeleaa.Sh.Cell renaming ren → zaE, refs → zaL
open Go.Proofs.Ytnahpejlhfeleaa.Sh.SV renaming ren → zaN, renL → zaO
open Go.Proofs.Ytnahpejlhfeleaa.Sh.Row renaming ren → zaP
-- namespace Go.Proofs.Ytnahpejlhfeleaa
namespace Go.Proofs
set_option linter.unusedVariables false
set_option linter.unusedSimpArgs false
open Go.Shelf
def Try.lays156_ren : Go.Shelf.Ren := ⟨fun | 156 => 69 | 165 => 79 | 166 => 80 | 169 => 81 | 240 => 84 | 241 => 85 | 276 => 86 | 277 => 87 | n => n, fun | 31 => 51 | 9 => 9 | 3 => 3 | 4 => 4 | 0 => 0 | 20 => 20 | 72 => 103 | 76 => 107 | 70 => 100 | 37 => 101 | 75 => 106 | 127 => 111 | 164 => 112 | 5 => 5 | 80 => 36 | n => n, fun | n => n⟩
theorem Try.lays156 : Go.Proofs.Lays.n156 Try.prog Try.lays156_ren := {
  mixed := by kernel_rfl
  f156 := Try.func69.trans (congrArg some (by kernel_rfl))
  f165 := Try.func79.trans (congrArg some (by kernel_rfl))
  f166 := Try.func80.trans (congrArg some (by kernel_rfl))
  f169 := Try.func81.trans (congrArg some (by kernel_rfl))
  f240 := Try.func84.trans (congrArg some (by kernel_rfl))
  f241 := Try.func85.trans (congrArg some (by kernel_rfl))
  f276 := Try.func86.trans (congrArg some (by kernel_rfl))
  f277 := Try.func87.trans (congrArg some (by kernel_rfl))
  t0 := Try.underlying0
  a0 := Try.isAgg0
  z0 := Try.sizeOf0
  v0 := Try.zeroValue0
  t3 := Try.underlying3
  a3 := Try.isAgg3
  z3 := Try.sizeOf3
  v3 := Try.zeroValue3
  t4 := Try.underlying4
  a4 := Try.isAgg4
  z4 := Try.sizeOf4
  v4 := Try.zeroValue4
  t9 := Try.underlying9
  a9 := Try.isAgg9
  z9 := Try.sizeOf9
  v9 := Try.zeroValue9
  t20 := Try.underlying20
  a20 := Try.isAgg20
  z20 := Try.sizeOf20
  v20 := Try.zeroValue20
  t31 := Try.underlying51
  a31 := Try.isAgg51
  z31 := Try.sizeOf51
  v31 := Try.zeroValue51
  t37 := Try.underlying101
  a37 := Try.isAgg101
  z37 := Try.sizeOf101
  v37 := Try.zeroValue101
  t70 := Try.underlying100
  a70 := Try.isAgg100
  z70 := Try.sizeOf100
  v70 := Try.zeroValue100
  t72 := Try.underlying103
  a72 := Try.isAgg103
  z72 := Try.sizeOf103
  v72 := Try.zeroValue103
  t75 := Try.underlying106
  a75 := Try.isAgg106
  z75 := Try.sizeOf106
  v75 := Try.zeroValue106
  t76 := Try.underlying107
  a76 := Try.isAgg107
  z76 := Try.sizeOf107
  v76 := Try.zeroValue107
  t127 := Try.underlying111
  a127 := Try.isAgg111
  z127 := Try.sizeOf111
  v127 := Try.zeroValue111
  t164 := Try.underlying112
  a164 := Try.isAgg112
  z164 := Try.sizeOf112
  v164 := Try.zeroValue112 }
theorem Try.Builder_Extra_156 : Builder.Extra Try.prog Try.lays156_ren := {
  sizeBuilder := by kernel_rfl
  liesBuilder := by kernel_rfl
  t5 := Try.underlying5
  a5 := Try.isAgg5
  z5 := Try.sizeOf5
  v5 := Try.zeroValue5
  infoByte := by kernel_rfl
  cellsByte := by kernel_rfl
  sizeByte := by kernel_rfl
  neB5 := by decide }
open Go.RowKit in
theorem Try.strings_Join_none (a : Option Addr) (c : Nat) (sep : ByteArray) (w : World) :
    Calls Try.prog 69 #[.slice a 0 c, .string sep] w fun e w' => e = .returned (.string ⟨#[]⟩) ∧ w' = w := Any.strings_Join_none Try.lays156 Try.Builder_Extra_156 a c sep w
open Go.RowKit in
theorem Try.strings_Join (bk o c : Nat) (xs : List ByteArray) (sep : ByteArray) (w : World) (hcells : ∀ (j : Nat) x, xs[j]? = some x → w.cell? ⟨bk, o + j, none⟩ = some (.string x)) (hbk : bk < w.heap.size) (hN : xs.length ≤ 140737488355328) (hcap : xs.length ≤ c) (hlen : (Lib.join (xs.map (·.data.toList)) sep.data.toList).length ≤ 140737488355328) :
    Calls Try.prog 69 #[.slice (some ⟨bk, o, none⟩) xs.length c, .string sep] w fun e w' => e = .returned (.string ⟨(Lib.join (xs.map (·.data.toList)) sep.data.toList).toArray⟩) ∧ Below w.heap.size w w' := Any.strings_Join Try.lays156 Try.Builder_Extra_156 bk o c xs sep w hcells hbk hN hcap hlen

end Go.Proofs
-- NEWGO
-- PRUNE: cl_lendx cl_use cl_lend
-- ISG: Strs_isG
-- FLAT: Strs_flat
namespace Go.Proofs.Ytnahpejlhfeleaa
set_option linter.unusedVariables false
set_option linter.unusedSimpArgs false
open Go.Proofs.Ytnahpejlhfeleaa.Sh
set_option maxRecDepth 20000
def jn (xs : List Str) (sep : Str) : Str := Lib.join xs sep
theorem join_spec (xs : List Str) (sep : Str) (cap : Option Nat) (hN : xs.length ≤ 140737488355328) (hl : (jn xs sep).length ≤ 140737488355328) : FnSpec Try.prog 69 [gs xs cap, s1 sep] [] (s1 (jn xs sep)) [] := by
  refine FnSpec.of_calls Try.func69 (by kernel_rfl) (by kernel_rfl) trivial fun w vals m hm hv => ?_
  generalize hvs : vals.toList = vs at hv
  match vs, hv with
  | [u, v], ⟨hu, hw, _⟩ =>
    have hvals : vals = #[u, v] := by apply Array.ext'; exact hvs
    have ev : v = .string (bs sep) := by cases hw; rfl
    subst hvals; subst ev
    by_cases h0 : xs.length = 0
    · have hx : xs = [] := List.length_eq_zero_iff.1 h0
      subst hx
      have hu2 : ∃ a c, u = .slice a 0 c := by
        cases hu with
        | gsl _ _ _ _ b o c ad f _ _ _ _ _ => exact ⟨_, _, rfl⟩
        | gnil _ _ _ _ => exact ⟨_, _, rfl⟩
      obtain ⟨a, c, rfl⟩ := hu2
      refine (Try.strings_Join_none a c (bs sep) w).mono fun e w' ⟨h1, h2⟩ => ?_
      subst h1; subst h2
      exact ⟨_, rfl, VG.sc _ rfl, RowKit.Below.refl _ _⟩
    · have hu2 : ∃ (b o c : Nat) (f : Nat → Value), u = .slice (some ⟨b, o, none⟩) xs.length c ∧ xs.length ≤ c ∧ (∀ (i : Nat) x, (Strs xs)[i]? = some x → m ⟨b, o + i, none⟩ = some (f i)) ∧ (∀ (i : Nat) x, (Strs xs)[i]? = some x → VG m x (f i)) := by
        obtain ⟨n, hn⟩ : ∃ n, xs.length = n := ⟨_, rfl⟩
        have hu' : VG m (.gsl (Strs xs) 0 n cap) u := by rw [← hn]; exact hu
        rw [hn] at h0 ⊢
        cases hu' with
        | gsl _ _ _ _ b o c ad f hc hlc hm hv ha =>
          have had : ad = ⟨b, o + 0, none⟩ := ha.resolve_right h0
          subst had
          exact ⟨b, o, c, f, rfl, hlc, hm, hv⟩
        | gnil _ _ _ _ => exact absurd rfl h0
      obtain ⟨b, o, c, f, rfl, hlc, hm2, hv2⟩ := hu2
      have hat : ∀ (j : Nat) x, (xs.map bs)[j]? = some x → w.cell? ⟨b, o + j, none⟩ = some (.string x) := by
        intro j x hj
        rw [List.getElem?_map] at hj
        cases hx : xs[j]? with
        | none => rw [hx] at hj; cases hj
        | some y =>
          rw [hx] at hj
          cases hj
          have hs : (Strs xs)[j]? = some (st y) := by simp [Strs, hx]
          have h1 := (hm _ _ (hm2 j _ hs)).2
          have h2 := hv2 j _ hs
          cases h2' : f j <;> rw [h2'] at h2 h1 <;> cases h2
          exact h1
      have hlt : b < w.heap.size := by
        obtain ⟨y, hy⟩ : ∃ y, xs[0]? = some y := ⟨_, List.getElem?_eq_getElem (by omega)⟩
        have := hat 0 (bs y) (by simp [hy])
        exact World.block_lt_of_cell? _ _ this
      have hmap : (xs.map bs).map (·.data.toList) = xs := by
        rw [List.map_map]
        have : ((fun x : ByteArray => x.data.toList) ∘ bs) = id := by funext l; exact bs_data l
        rw [this, List.map_id]
      have hj := Try.strings_Join b o c (xs.map bs) (bs sep) w hat hlt (by simpa using hN) (by simpa using hlc) (by rw [hmap, bs_data]; exact hl)
      rw [hmap, bs_data, List.length_map] at hj
      refine hj.mono fun e w' ⟨h1, h2⟩ => ?_
      subst h1
      exact ⟨_, rfl, VG.sc _ rfl, h2⟩
end Go.Proofs.Ytnahpejlhfeleaa
-- NEWGO
-- PRUNE: cl_lendx cl_use cl_lend
-- ISG: Strs_isG
-- FLAT: Strs_flat
namespace Go.Proofs.Ytnahpejlhfeleaa
set_option linter.unusedVariables false
set_option linter.unusedSimpArgs false
open Go.Proofs.Ytnahpejlhfeleaa.Sh
set_option maxRecDepth 20000
end Go.Proofs.Ytnahpejlhfeleaa
-- NEWGO
-- PRUNE: cl_lendx cl_use cl_lend
-- ISG: Strs_isG
-- FLAT: Strs_flat
namespace Go.Proofs.Ytnahpejlhfeleaa
set_option linter.unusedVariables false
set_option linter.unusedSimpArgs false
open Go.Proofs.Ytnahpejlhfeleaa.Sh
set_option maxRecDepth 20000
def pJn (xs : List Str) : Str × Int := if chkP xs = 0 then (47 :: jn xs [47], 0) else ([], chkP xs)
abbrev rJ (x : Str × Int) : SV := .tup [s1 x.1, i1 x.2]
theorem nmOk_len (s : Str) (h : nmOk s = true) : s.length ≤ 32 := by
  unfold nmOk at h
  simp only [zav, decide_eq_true_eq] at h
  omega
theorem chk_ok (xs : List Str) (h : chkP xs = 0) : (∀ s ∈ xs, nmOk s = true) ∧ xs.length ≤ 8 := by
  unfold chkP at h
  cases ha : xs.any (fun s => !nmOk s) with
  | true => rw [ha, if_pos rfl] at h; cases h
  | false =>
    rw [ha, if_neg Bool.false_ne_true] at h
    refine ⟨fun s hs => ?_, ?_⟩
    · have := List.any_eq_false.1 ha s hs
      simpa using this
    · by_cases h8 : 8 < (xs.length : Int)
      · rw [if_pos h8] at h; cases h
      · omega
theorem lens_le (n : Nat) : ∀ xs : List Str, (∀ s ∈ xs, s.length ≤ n) → Lib.lens xs ≤ n * xs.length
  | [], _ => zaU _
  | x :: xs, h => by
    have h1 := lens_le n xs fun s hs => h s (List.mem_cons_of_mem _ hs)
    have h2 := h x List.mem_cons_self
    have e : Lib.lens (x :: xs) = x.length + Lib.lens xs := by simp [Lib.lens]
    rw [e, zaq, Nat.mul_succ]
    omega
theorem jn_len (xs : List Str) (h : chkP xs = 0) : (jn xs [47]).length ≤ 300 := by
  obtain ⟨h1, h2⟩ := chk_ok xs h
  have h3 := lens_le 32 xs fun s hs => nmOk_len s (h1 s hs)
  cases xs with
  | nil => exact zaU _
  | cons x r =>
    unfold jn
    rw [Lib.join_length]
    simp only [zaq, zaw] at *
    omega
theorem join_p (xs : List Str) (k : Option Nat) (hx : ∀ s ∈ xs, s.length ≤ 9223372036854775807) (hl : xs.length ≤ 140737488355328) : FnSpec Try.prog 49 [gs xs k] [] (rJ (pJn xs)) [] := by
  have h1 := checkN_spec xs hx k (by omega)
  unfold pJn
  by_cases hc : chkP xs = 0
  · have h2 := join_spec xs [47] k hl (by have := jn_len xs hc; omega)
    have h3 := jn_len xs hc
    rw [if_pos hc]
    rw [hc] at h1
    refine fnspec_of mixed TT_ok TT_cl ⟨fun _ => false, fun _ => [], 0, fun _ => false, fun _ => false⟩ Try.func49 rfl (by kernel_rfl) rfl 13 rfl [.tmp 2, .tmp 3] rfl ?_
    simp only [go_sem, zaa, zah, zai, zaj, zal, zae, ↓reduceIte, reduceCtorEq, zab, zac, zam, zan, zao]
    repeat' (first
 | with_reducible refine zar ?_ ?_
 | (apply cl_plain
    case hs => rfl
    case ha => (simp only [zag, zak, prepV, prepC, idx, hpL', lookR, zaa, if_true, if_false]; rfl)
    case h => (first | exact h1 .. | exact h2 ..))
 | ((first | refine s1_id ?_ | refine swp_id ?_ | refine sops_id ?_ | refine s2_id ?_); simp only [go_sem, zaa, zah, zai, zaj, zal, zae, ↓reduceIte, reduceCtorEq, zab, zac, zam, zan, zao, zaN, zaO, zaE, zaP, renO, bk, back, outUpsFrom, Ints_ren])
 | (intros; omega)
 | exact fs_nil trivial rfl
 | fail)
  · rw [if_neg hc]
    generalize chkP xs = e at *
    refine fnspec_of mixed TT_ok TT_cl ⟨fun _ => false, fun _ => [], 0, fun _ => false, fun _ => false⟩ Try.func49 rfl (by kernel_rfl) rfl 13 rfl [.tmp 2, .tmp 3] rfl ?_
    simp only [go_sem, zaa, zah, zai, zaj, zal, zae, ↓reduceIte, reduceCtorEq, zab, zac, zam, zan, zao]
    repeat' (first
 | (apply cl_plain
    case hs => rfl
    case ha => (simp only [zag, zak, prepV, prepC, idx, hpL', lookR, zaa, if_true, if_false]; rfl)
    case h => (first | exact h1 ..))
 | ((first | refine s1_id ?_ | refine swp_id ?_ | refine sops_id ?_ | refine s2_id ?_); simp only [decide_eq_false hc, go_sem, zaa, zah, zai, zaj, zal, zae, ↓reduceIte, reduceCtorEq, zab, zac, zam, zan, zao, zaN, zaO, zaE, zaP, renO, bk, back, outUpsFrom, Ints_ren])
 | exact fs_nil trivial rfl
 | fail)
end Go.Proofs.Ytnahpejlhfeleaa
-- NEWGO
-- PRUNE: cl_use
-- ISG: Strs_isG
-- FLAT: Strs_flat
namespace Go.Proofs.Ytnahpejlhfeleaa
set_option linter.unusedVariables false
set_option linter.unusedSimpArgs false
open Go.Proofs.Ytnahpejlhfeleaa.Sh
set_option maxRecDepth 20000
def rvS (xs : List Str) (k : Nat) : List Str := (List.range xs.length).map fun i => if i < k ∨ xs.length ≤ i + k then xs.getD (xs.length - 1 - i) [] else xs.getD i []
theorem rvS_len (xs : List Str) (k : Nat) : (rvS xs k).length = xs.length := by simp [rvS]
theorem rvS_at (xs : List Str) (k i : Nat) (h : i < xs.length) : (rvS xs k).getD i [] = if i < k ∨ xs.length ≤ i + k then xs.getD (xs.length - 1 - i) [] else xs.getD i [] := by
  unfold rvS
  rw [List.getD_eq_getElem?_getD, List.getElem?_map, List.getElem?_range h]; rfl
theorem ext_getD {a b : List Str} (hl : a.length = b.length) (h : ∀ i, i < a.length → a.getD i [] = b.getD i []) : a = b := by
  refine List.ext_getElem hl fun i h1 h2 => ?_
  have := h i h1
  rwa [getD_at a i [] h1, getD_at b i [] h2] at this
theorem rvS_0 (xs : List Str) : rvS xs 0 = xs := by
  refine ext_getD (rvS_len xs 0) fun i hi => ?_
  rw [rvS_len] at hi
  rw [rvS_at xs 0 i hi, if_neg (by omega)]
theorem rvS_end (xs : List Str) (k : Nat) (h : xs.length ≤ 2 * k + 1) : rvS xs k = xs.reverse := by
  refine ext_getD (by rw [rvS_len, zaM]) fun i hi => ?_
  rw [rvS_len] at hi
  have e : xs.reverse.getD i [] = xs.getD (xs.length - 1 - i) [] := by
    rw [List.getD_eq_getElem?_getD, List.getElem?_reverse hi, ← List.getD_eq_getElem?_getD]
  rw [rvS_at xs k i hi, e]
  by_cases c : i < k ∨ xs.length ≤ i + k
  · rw [if_pos c]
  · rw [if_neg c, show xs.length - 1 - i = i by omega]
theorem rvS_step (xs : List Str) (k : Nat) (h : 2 * k + 1 < xs.length) : ((rvS xs k).set k (xs.getD (xs.length - 1 - k) [])).set (xs.length - 1 - k) (xs.getD k []) = rvS xs (k + 1) := by
  refine ext_getD (by rw [zaQ, zaQ, rvS_len, rvS_len]) fun i hi => ?_
  rw [zaQ, zaQ, rvS_len] at hi
  rw [rvS_at xs (k + 1) i hi]
  by_cases c1 : xs.length - 1 - k = i
  · rw [if_pos (by omega), ← c1, getD_set_self _ _ _ _ (by rw [zaQ, rvS_len]; omega), show xs.length - 1 - (xs.length - 1 - k) = k by omega]
  · rw [List.getD_eq_getElem?_getD, List.getElem?_set_ne c1, ← List.getD_eq_getElem?_getD]
    by_cases c2 : k = i
    · rw [if_pos (by omega), ← c2, getD_set_self _ _ _ _ (by rw [rvS_len]; omega)]
    · rw [List.getD_eq_getElem?_getD, List.getElem?_set_ne c2, ← List.getD_eq_getElem?_getD, rvS_at xs k i hi]
      by_cases c3 : i < k ∨ xs.length ≤ i + k
      · rw [if_pos c3, if_pos (by omega)]
      · rw [if_neg c3, if_neg (by omega)]
set_option maxHeartbeats 8000000 in
theorem rev_spec (xs : List Str) (hl : xs.length ≤ 1000000) : FnSpec Try.prog 48 [.one (.osl 0 0 xs.length none)] [⟨Strs xs, 1⟩] (.tup []) [some ⟨Strs xs.reverse, 1⟩] := by
  refine fnspec_of mixed TT_ok TT_cl ⟨fun _ => false, fun _ => [], 1, fun _ => false, fun _ => false⟩ Try.func48 rfl (by kernel_rfl) rfl 28 rfl [] rfl ?_
  simp only [go_sem, zaa, zah, zai, zaj, zal, zae, ↓reduceIte, reduceCtorEq, zab, zac, zam, zan, zao]
  repeat' (first
 | with_reducible refine zar ?_ ?_
 | (intros; omega)
 | (intros; (try simp only [zav, zaF, zaz, zay, zas, zau, decide_eq_true_eq, decide_eq_false_iff_not] at *); omega))
  refine w_loop (ι := Nat) (fun k => ⟨[(0, .one (.osl 0 0 xs.length none)), (2, i1 k), (3, i1 ((xs.length : Int) - 1 - k))], [(0, some ⟨Strs (rvS xs k), 1⟩)], 1⟩) (fun k => 2 * k ≤ xs.length + 1) (fun k => xs.length - k) 0 ?_ (by omega) ?_
  · rw [rvS_0]
    (refine imp_ren _ _ _ [(0, 0, ⟨Strs xs, 1⟩)] (by simp) (by simp) (by simp) (zaC rfl) ?_ rfl (by simp only [zad, zaf, false_implies, implies_true, and_true, St.hpF, lookR, zaa, if_true, if_false, ↓reduceIte, Strs_flat] <;> (repeat' apply zar) <;> (first | rfl | trivial)) (by simp only [zad, zaf, false_implies, implies_true, and_true, true_and, flat_cons, flat_nil, flat_ints, flat_bools, flat_app, zaL, and_self, eq_self_iff_true, zap, Strs_flat]); simp only [zag, zak, zad, zaf, false_implies, implies_true, and_true, lk, slot, zaN, zaE, toN, zaa, if_true, if_false, ↓reduceIte, reduceCtorEq])
    all_goals ((repeat' apply zar) <;> (first | rfl | trivial | (simp only [Int.natCast_zero, Int.sub_zero]; done) | (simp only [Int.natCast_zero, Int.sub_zero]; rfl) | (simp only [Int.natCast_zero, Int.sub_zero]; trivial)))
  intro k hk
  simp only at hk ⊢
  by_cases c : 2 * k + 1 < xs.length
  case neg =>
    have c2 : ¬ (k : Int) < (xs.length : Int) - 1 - k := by omega
    rw [← rvS_end xs k (by omega)]
    simp only [go_sem, zaa, zah, zai, zaj, zal, zae, ↓reduceIte, reduceCtorEq, zab, zac, zam, zan, zao, decide_eq_false c2]
    repeat' (first
 | (intros; (try simp only [zav, zaF, zaz, zay, zas, zau, decide_eq_true_eq, decide_eq_false_iff_not] at *); omega))
    (refine fs_flat [(0, ⟨Strs (rvS xs k), 1⟩)] (by simp) (by simp only [zag, zak]; decide) (by simp only [go_sem, resV, resS, zaN, zaO, zaE, St.tmF, St.hpF, idx, renO, zaP, evS, slot, lookR, zaa, ↓reduceIte, reduceCtorEq, if_true, if_false, Option.getD_some, Option.getD_none, zag, zak, sLoad, readAt, readNeed, Ints_ren, Ints_length, Ints_getD, and_true, true_and, List.getD_cons_zero, List.getD_cons_succ]; try decide) ?_ (by simp only [zad, zaf, false_implies, implies_true, and_true, St.hpF, lookR, zaa, if_true, if_false, ↓reduceIte, Strs_flat] <;> (repeat' apply zar) <;> (first | rfl | trivial)) (by simp only [zad, zaf, false_implies, implies_true, and_true, true_and, flat_cons, flat_nil, flat_ints, flat_bools, flat_app, zaL, and_self, eq_self_iff_true, zap, Strs_flat]) ?_ <;> (try simp only [go_sem, resV, resS, zaN, zaO, zaE, St.tmF, St.hpF, idx, renO, zaP, evS, slot, lookR, zaa, ↓reduceIte, reduceCtorEq, if_true, if_false, Option.getD_some, Option.getD_none, zag, zak, sLoad, readAt, readNeed, Ints_ren, Ints_length, Ints_getD, and_true, true_and, List.getD_cons_zero, List.getD_cons_succ]) <;> (try rfl))
  have c2 : (k : Int) < (xs.length : Int) - 1 - k := by omega
  obtain ⟨j, hj, hj2⟩ : ∃ j : Nat, (xs.length : Int) - 1 - k = j ∧ j = xs.length - 1 - k := ⟨xs.length - 1 - k, by omega, rfl⟩
  have hst := rvS_step xs k c
  have hrl := rvS_len xs k
  have hrk := rvS_at xs k k (by omega)
  rw [if_neg (by omega)] at hrk
  have hrj := rvS_at xs k j (by omega)
  rw [if_neg (by omega)] at hrj
  rw [← hj2] at hst
  have hj3 : (xs.length : Int) - 1 - ((k + 1 : Nat) : Int) = (j : Int) - 1 := by omega
  rw [hj] at c2
  generalize rvS xs k = R at *
  have hRl := Strs_length R
  have q1 := Strs_getD' R k (.sc (.string (bs []))) (by omega)
  have q2 := Strs_getD' R j (.sc (.string (bs []))) (by omega)
  rw [hrk] at q1
  rw [hrj] at q2
  generalize xs.getD k [] = a at *
  generalize xs.getD j [] = b at *
  simp only [go_sem, zaa, zah, zai, zaj, zal, zae, ↓reduceIte, reduceCtorEq, zab, zac, zam, zan, zao, hj, decide_eq_true c2, q1, q2]
  repeat' (first
 | with_reducible refine zar ?_ ?_
 | (unfold OKC; kernel_rfl)
 | (unfold EDG; kernel_rfl)
 | (intros; omega)
 | (intros; (try simp only [zav, zaF, zaz, zay, zas, zau, decide_eq_true_eq, decide_eq_false_iff_not] at *); omega))
  refine le_mk (k + 1) ?_ (by omega) (by omega)
  simp only [hj3, ← hst]
  (refine imp_ren _ _ _ [(0, 0, ⟨Strs ((R.set k b).set j a), 1⟩)] (by simp) (by simp) (by simp) (zaC rfl) ?_ rfl (by simp only [zad, zaf, false_implies, implies_true, and_true, St.hpF, lookR, zaa, if_true, if_false, ↓reduceIte, Strs_flat] <;> (repeat' apply zar) <;> (first | rfl | trivial)) (by simp only [zad, zaf, false_implies, implies_true, and_true, true_and, flat_cons, flat_nil, flat_ints, flat_bools, flat_app, zaL, and_self, eq_self_iff_true, zap, Strs_flat]); simp only [zag, zak, zad, zaf, false_implies, implies_true, and_true, lk, slot, zaN, zaE, toN, zaa, if_true, if_false, ↓reduceIte, reduceCtorEq])
  all_goals ((repeat' apply zar) <;> (first | rfl | trivial | (simp only [zat]; done) | (simp only [zat]; rfl) | (simp only [zat]; trivial)))
def nmA (l : List Nd) (a : Int) : Str := (gN l (bsV Nd.i l a)).nm
def wayN (l : List Nd) (m : Nat) (U : List Int) : List Str := (U.take m).map (nmA l)
def paM (l : List Nd) (n id : Int) : Str × Bool := if hasM l n id = true then ((pJn (wayN l ((upL l id).length - 1) (upL l id)).reverse).1, decide ((pJn (wayN l ((upL l id).length - 1) (upL l id)).reverse).2 = 0)) else ([], false)
theorem wayN_succ (l : List Nd) (m : Nat) (U : List Int) (h : m < U.length) : wayN l (m + 1) U = wayN l m U ++ [nmA l (U.getD m 0)] := by
  unfold wayN
  rw [take_getD U m 0 h, List.map_append]; rfl
theorem wayN_len (l : List Nd) (m : Nat) (U : List Int) (h : m ≤ U.length) : (wayN l m U).length = m := by
  unfold wayN; rw [List.length_map, List.length_take]; omega
set_option maxHeartbeats 16000000 in
theorem tpath_spec (l : List Nd) (n id : Int) (hl : l.length ≤ 1000000) (hnm : NmR l) (hct : CtR l) : FnSpec Try.prog 23 [trV l none n, i1 id] [] (.tup [s1 (paM l n id).1, b1 (paM l n id).2]) [] := by
  have h1 := tanc_spec l n id hl hnm hct
  have hnl := nd_len l
  unfold paM
  cases hh : hasM l n id with
  | false =>
    have e : ancM l n id = [] := by unfold ancM; rw [hh]; rfl
    rw [e] at h1
    rw [if_neg Bool.false_ne_true]
    refine fnspec_of mixed TT_ok TT_cl ⟨fun _ => false, fun _ => [], 0, fun _ => false, fun _ => false⟩ Try.func23 rfl (by kernel_rfl) rfl 57 rfl [.tmp 4, .tmp 5] rfl ?_
    simp only [go_sem, zaa, zah, zai, zaj, zal, zae, ↓reduceIte, reduceCtorEq, zab, zac, zam, zan, zao]
    repeat' (first
 | (apply cl_plain
    case hs => rfl
    case ha => (simp only [zag, zak, prepV, prepC, idx, hpL', lookR, zaa, if_true, if_false]; rfl)
    case h => (first | exact h1 ..))
 | ((first | refine s1_id ?_ | refine swp_id ?_ | refine sops_id ?_ | refine s2_id ?_); simp only [zaD, zaG, zap, zaH, zaI, zaA, zaB, zax, zaJ, zaK, zaq, zaw, go_sem, zaa, zah, zai, zaj, zal, zae, ↓reduceIte, reduceCtorEq, zab, zac, zam, zan, zao, zaN, zaO, zaE, zaP, renO, bk, back, outUpsFrom, Ints_ren])
 | exact fs_nil trivial rfl
 | fail)
  | true =>
  have e : ancM l n id = upL l id := by unfold ancM; rw [hh, if_pos rfl]
  rw [e] at h1
  rw [if_pos rfl]
  obtain ⟨hk, y, hy, hyi⟩ := hasM_iff.1 hh
  obtain ⟨v, hv, hve⟩ := gN_mem l y hy
  have hV := (chkT_iff l n).1 hk
  have hvi : (gN l v).i = id := by rw [hve, hyi]
  have hin : ∀ a ∈ upL l id, bsV Nd.i l a < l.length ∧ bsF Nd.i l a = true := fun a ha => by
    rw [← hvi] at ha
    obtain ⟨t, ht, rfl⟩ := up_le hV v hv a ha
    obtain ⟨q1, q2⟩ := bs_found Nd.i l (fun i j hij hj => hV.asc i j hij hj) t (by omega)
    have q1' : bsV Nd.i l (gN l t).i = t := q1
    exact ⟨by rw [q1']; omega, q2⟩
  have hne : 0 < (upL l id).length := by
    rw [← hvi, upL_node hV.asc hv]; exact Nat.succ_pos _
  have hUl : (upL l id).length ≤ l.length := by have := upR_len l.reverse id; rw [zaM] at this; exact this
  generalize upL l id = U at *
  have cz : ¬ (U.length : Int) = 0 := by omega
  have hU1 : (U.length : Int) - 1 = ((U.length - 1 : Nat) : Int) := by omega
  clear hve hyi hvi hy hv e
  refine fnspec_of mixed TT_ok TT_cl ⟨fun _ => false, fun f => if f = 48 then [0] else [], 0, fun _ => false, fun _ => false⟩ Try.func23 rfl (by kernel_rfl) rfl 57 rfl [.tmp 4, .tmp 5] rfl ?_
  simp only [go_sem, zaa, zah, zai, zaj, zal, zae, ↓reduceIte, reduceCtorEq, zab, zac, zam, zan, zao, decide_eq_false cz, hU1]
  repeat' (first
 | with_reducible refine zar ?_ ?_
 | (apply cl_plain
    case hs => rfl
    case ha => (simp only [zag, zak, prepV, prepC, idx, hpL', lookR, zaa, if_true, if_false]; rfl)
    case h => (first | exact h1 ..))
 | ((first | refine s1_id ?_ | refine swp_id ?_ | refine sops_id ?_ | refine s2_id ?_); simp only [decide_eq_false cz, hU1, Int.toNat_zero, Int.toNat_natCast, Nat.sub_zero, Nat.zero_mul, go_sem, zaa, zah, zai, zaj, zal, zae, ↓reduceIte, reduceCtorEq, zab, zac, zam, zan, zao, zaN, zaO, zaE, zaP, renO, bk, back, outUpsFrom, Ints_ren])
 | (intros; omega)
 | (intros; (try simp only [zav, zaF, zaz, zay, zas, zau, decide_eq_true_eq, decide_eq_false_iff_not] at *); omega))
  refine w_loop (ι := Nat) (fun m => ⟨[(2, .one (.optr 0 0)), (7, .one (.osl 1 0 (wayN l m U).length none)), (24, .one (.gsl (Ints U) 0 (U.length - 1) none)), (25, i1 (U.length - 1 : Nat)), (26, i1 m)], [(0, some ⟨[.gsl (Cs l) 0 l.length none, int n], 2⟩), (1, some ⟨Strs (wayN l m U), 1⟩)], 2⟩) (fun m => m ≤ U.length - 1) (fun m => U.length - 1 - m) 0 ?_ (zaU _) ?_
  · (refine Imp.trans (imp_nilA _ _ 7 1 99 (by simp only []; omega) rfl) ?_)
    (refine imp_ren _ _ _ [(0, 0, ⟨[.gsl (Cs l) 0 l.length none, int n], 2⟩), (1, 99, ⟨[], 1⟩)] (by simp) (by simp) (by simp) (zaC rfl) ?_ rfl (by simp only [zad, zaf, false_implies, implies_true, and_true, St.hpF, lookR, zaa, if_true, if_false, ↓reduceIte] <;> (repeat' apply zar) <;> (first | rfl | trivial)) (by simp only [zad, zaf, false_implies, implies_true, and_true, true_and, flat_cons, flat_nil, flat_ints, flat_bools, flat_app, zaL, and_self, eq_self_iff_true, zap]); simp only [zag, zak, zad, zaf, false_implies, implies_true, and_true, lk, slot, zaN, zaE, toN, zaa, if_true, if_false, ↓reduceIte, reduceCtorEq])
    all_goals ((repeat' apply zar) <;> (first | rfl | trivial))
  clear h1
  intro m hm
  simp only at hm ⊢
  have hwl := wayN_len l m U (by omega)
  rcases Nat.lt_or_ge m (U.length - 1) with hlt | hge
  case inr =>
    have c : ¬ (m : Int) < ((U.length - 1 : Nat) : Int) := by omega
    obtain rfl : m = U.length - 1 := by omega
    have hw : ∀ s ∈ wayN l (U.length - 1) U, s.length ≤ 1000000000 := fun s hs => by
      unfold wayN at hs
      obtain ⟨a, ha, rfl⟩ := List.mem_map.1 hs
      exact hnm.at _ (hin a (List.mem_of_mem_take ha)).1
    generalize wayN l (U.length - 1) U = W at *
    have r1 := rev_spec W (by omega)
    have r2 := join_p W.reverse none (fun s hs => by have := hw s (List.mem_reverse.1 hs); omega) (by rw [zaM]; omega)
    generalize pJn W.reverse = R at *
    obtain ⟨R1, R2⟩ := R
    simp only [rJ] at r2
    have hWr : W.reverse.length = W.length := zaM
    simp only [gs, hWr] at r2
    simp only [go_sem, zaa, zah, zai, zaj, zal, zae, ↓reduceIte, reduceCtorEq, zab, zac, zam, zan, zao, decide_eq_false c]
    repeat' (first
 | (apply cl_lend
    case hr => (simp only [zag, zak, hpL', lookR, zaa, if_true, if_false]; first | exact map1 _ | exact map2 _ _ | exact map3 _ _ _)
    case ha => (simp only [zag, zak, prepV, prepC, idx, hpL', lookR, zaa, if_true, if_false]; rfl)
    case hs => rfl
    case hn => decide
    case h => (first | exact r1 .. | exact r2 ..)
    case hf => (simp only [zad, zaf, false_implies, implies_true, and_true, true_and, flat_cons, flat_nil, flat_ints, flat_bools, flat_app, Strs_flat, zaL, and_self, eq_self_iff_true, zap])
    case hl => (simp only [zaq, zaw]; decide))
 | (apply cl_show
    case ha => (simp only [zag, zak, prepV, prepC, idx, hpL', lookR, zaa, if_true, if_false]; rfl)
    case hs => ((simp [snaps, SV.refs, zaL, idx, hpL', lookR]) <;> (repeat' apply zar) <;> (first | exact Ints_isG _ | exact Strs_isG _))
    case h => (first | exact r1 .. | exact r2 ..)
    case hg => ((simp [SV.noG, SV.noGL, Cell.noG]) <;> (repeat' apply zar) <;> exact Ints_noG _))
 | ((first | refine s1_id ?_ | refine swp_id ?_ | refine sops_id ?_ | refine s2_id ?_); simp only [decide_eq_false c, Strs_ren, go_sem, zaa, zah, zai, zaj, zal, zae, ↓reduceIte, reduceCtorEq, zab, zac, zam, zan, zao, zaN, zaO, zaE, zaP, renO, bk, back, outUpsFrom, Ints_ren])
 | exact fs_nil trivial rfl
 | fail)
  have c : (m : Int) < ((U.length - 1 : Nat) : Int) := by omega
  have hmem : U.getD m 0 ∈ U := getD_mem U m 0 (by omega)
  obtain ⟨b1', b2'⟩ := hin _ hmem
  have h3 := index_spec l none (U.getD m 0) hl
  rw [b2'] at h3
  have hws := wayN_succ l m U (by omega)
  have hnmA : nmA l (U.getD m 0) = (gN l (bsV Nd.i l (U.getD m 0))).nm := rfl
  rw [hnmA] at hws
  have hU0 : (Ints U).getD m (.sc (.int .i64 0)) = int (U.getD m 0) := Ints_getD U m
  generalize bsV Nd.i l (U.getD m 0) = v at *
  have g3 := (nd_f l v b1' (.sc (.string (bs [])))).2.2.1
  generalize (gN l v).nm = nm at *
  have hUL := Ints_length U
  generalize wayN l m U = W at *
  have htk : List.take W.length (Strs W) = Strs W := zaT (by rw [Strs_length]; exact Nat.le_refl _)
  have hla : (W ++ [nm]).length = W.length + 1 := by simp
  simp only [go_sem, zaa, zah, zai, zaj, zal, zae, ↓reduceIte, reduceCtorEq, zab, zac, zam, zan, zao, decide_eq_true c, g3]
  repeat' (first
 | with_reducible refine zar ?_ ?_
 | (apply cl_plain
    case hs => rfl
    case ha => (simp only [zag, zak, prepV, prepC, idx, hpL', lookR, zaa, if_true, if_false]; rfl)
    case h => (first | exact h3 ..))
 | ((first | refine s1_id ?_ | refine swp_id ?_ | refine sops_id ?_ | refine s2_id ?_); simp only [decide_eq_true c, g3, htk, Strs_app, zaD, zaG, zap, zaH, zaI, zaA, zaB, zax, zaJ, zaK, zaq, zaw, go_sem, zaa, zah, zai, zaj, zal, zae, ↓reduceIte, reduceCtorEq, zab, zac, zam, zan, zao, zaN, zaO, zaE, zaP, renO, bk, back, outUpsFrom, Ints_ren])
 | (intros; omega)
 | (intros; (try simp only [zav, zaF, zaz, zay, zas, zau, decide_eq_true_eq, decide_eq_false_iff_not] at *); omega))
  refine le_mk (m + 1) ?_ hlt (by omega)
  simp only [hws, hla]
  (refine imp_ren _ _ _ [(0, 0, ⟨[.gsl (Cs l) 0 l.length none, int n], 2⟩), (1, 23, ⟨Strs (W ++ [nm]), 1⟩)] (by simp) (by simp) (by simp) (zaC rfl) ?_ rfl (by simp only [zad, zaf, false_implies, implies_true, and_true, St.hpF, lookR, zaa, if_true, if_false, ↓reduceIte, Strs_flat] <;> (repeat' apply zar) <;> (first | rfl | trivial)) (by simp only [zad, zaf, false_implies, implies_true, and_true, true_and, flat_cons, flat_nil, flat_ints, flat_bools, flat_app, zaL, and_self, eq_self_iff_true, zap, Strs_flat]); simp only [zag, zak, zad, zaf, false_implies, implies_true, and_true, lk, slot, zaN, zaE, toN, zaa, if_true, if_false, ↓reduceIte, reduceCtorEq])
  all_goals ((repeat' apply zar) <;> (first | rfl | trivial | (simp only [zat]; done) | (simp only [zat]; rfl) | (simp only [zat]; trivial)))
end Go.Proofs.Ytnahpejlhfeleaa
-- NEWGO
-- PRUNE: cl_use
-- ISG: Cs_isG
-- FLAT: Cs_flat
namespace Go.Proofs.Ytnahpejlhfeleaa
set_option linter.unusedVariables false
set_option linter.unusedSimpArgs false
open Go.Proofs.Ytnahpejlhfeleaa.Sh
set_option maxRecDepth 20000
theorem VT.ctR {l : List Nd} {n : Int} (h : VT l n) : CtR l := fun x hx => by
  have := (h.vl.all x hx).2
  unfold rngOk at this
  simp only [zav, decide_eq_true_eq] at this
  omega
set_option maxHeartbeats 4000000 in
theorem same_spec (a b : List Int) (k k2 : Option Nat) (hl : a.length ≤ 9223372036854775806) : FnSpec Try.prog 26 [gi a k, gi b k2] [] (b1 (decide (a = b))) [] := by
  by_cases hlen : a.length = b.length
  case neg =>
    have c : ¬ (a.length : Int) = (b.length : Int) := by omega
    rw [decide_eq_false (fun e => hlen (by rw [e]))]
    refine fnspec_of mixed TT_ok TT_cl ⟨fun _ => false, fun _ => [], 0, fun _ => false, fun _ => false⟩ Try.func26 rfl (by kernel_rfl) rfl 26 rfl [.tmp 4] rfl ?_
    simp only [go_sem, zaa, zah, zai, zaj, zal, zae, ↓reduceIte, reduceCtorEq, zab, zac, zam, zan, zao, decide_eq_false c]
    repeat' (first
 | exact fs_nil trivial rfl
 | fail)
  have hlen' : (a.length : Int) = (b.length : Int) := by omega
  refine fnspec_of mixed TT_ok TT_cl ⟨fun _ => false, fun _ => [], 0, fun _ => false, fun _ => false⟩ Try.func26 rfl (by kernel_rfl) rfl 26 rfl [.tmp 4] rfl ?_
  simp only [go_sem, zaa, zah, zai, zaj, zal, zae, ↓reduceIte, reduceCtorEq, zab, zac, zam, zan, zao, hlen']
  repeat' (first
 | (intros; (try simp only [zav, zaF, zaz, zay, zas, zau, decide_eq_true_eq, decide_eq_false_iff_not] at *); omega))
  refine w_loop (ι := Nat) (fun i => ⟨[(0, gi a k), (1, gi b k2), (5, i1 i)], [], 0⟩) (fun i => i ≤ a.length ∧ a.take i = b.take i) (fun i => a.length - i) 0 ?_ ⟨zaU _, rfl⟩ ?_
  · (refine imp_sub _ _ _ [] (by simp) (by simp) (by simp) (zaU _) ?_ rfl (by simp); simp only [zad, zaf, false_implies, implies_true, and_true, lk, slot, zaN, zaE, zaa, if_true, if_false, ↓reduceIte, reduceCtorEq])
    all_goals ((repeat' apply zar) <;> (first | rfl | trivial))
  rintro i ⟨hi, he⟩
  simp only at hi he ⊢
  rcases Nat.lt_or_ge i a.length with hlt | hge
  case inr =>
    have c : ¬ (i : Int) < (a.length : Int) := by omega
    rw [zaT hge, zaT (by omega)] at he
    rw [decide_eq_true he]
    simp only [go_sem, zaa, zah, zai, zaj, zal, zae, ↓reduceIte, reduceCtorEq, zab, zac, zam, zan, zao, decide_eq_false c]
    repeat' (first
 | exact fs_nil trivial rfl
 | fail)
  have c : (i : Int) < (a.length : Int) := by omega
  have ha := take_getD a i 0 hlt
  have hb := take_getD b i 0 (by omega)
  by_cases hx : a.getD i 0 = b.getD i 0
  · have hn : a.take (i + 1) = b.take (i + 1) := by rw [ha, hb, he, hx]
    simp only [go_sem, zaa, zah, zai, zaj, zal, zae, ↓reduceIte, reduceCtorEq, zab, zac, zam, zan, zao, decide_eq_true c, hx]
    repeat' (first
 | with_reducible refine zar ?_ ?_
 | (unfold OKC; kernel_rfl)
 | (unfold EDG; kernel_rfl)
 | (intros; omega)
 | (intros; (try simp only [zav, zaF, zaz, zay, zas, zau, decide_eq_true_eq, decide_eq_false_iff_not] at *); omega))
    refine le_mk (i + 1) ?_ ⟨hlt, hn⟩ (by omega)
    (refine imp_sub _ _ _ [] (by simp) (by simp) (by simp) (zaU _) ?_ rfl (by simp); simp only [zad, zaf, false_implies, implies_true, and_true, lk, slot, zaN, zaE, zaa, if_true, if_false, ↓reduceIte, reduceCtorEq])
    all_goals ((repeat' apply zar) <;> (first | rfl | trivial | (simp only [zat]; done) | (simp only [zat]; rfl) | (simp only [zat]; trivial)))
  · rw [decide_eq_false (fun e => hx (by rw [e]))]
    simp only [go_sem, zaa, zah, zai, zaj, zal, zae, ↓reduceIte, reduceCtorEq, zab, zac, zam, zan, zao, decide_eq_true c, decide_eq_false hx]
    repeat' (first
 | with_reducible refine zar ?_ ?_
 | (unfold OKC; kernel_rfl)
 | (unfold EDG; kernel_rfl)
 | (intros; omega)
 | exact fs_nil trivial rfl
 | fail)
theorem sane5_spec : FnSpec Try.prog 8 [] [] (b1 true) [] := by
  have a1 := tadd_spec [⟨1, 0, [], 0, 0, 0⟩] 2 1 [97] (by decide) (fun x hx => by rw [List.mem_singleton.1 hx]; decide) (fun x hx => by rw [List.mem_singleton.1 hx]; decide) (by decide)
  have e1 : addM [⟨1, 0, [], 0, 0, 0⟩] 2 1 [97] = (([⟨1, 0, [], 0, 0, 0⟩, ⟨2, 1, [97], 0, 0, 0⟩], 3), 2, 0) := by kernel_rfl
  rw [e1] at a1
  have a2 := tadd_spec [⟨1, 0, [], 0, 0, 0⟩, ⟨2, 1, [97], 0, 0, 0⟩] 3 2 [98] (by decide) (fun x hx => by simp only [List.mem_cons, zaf, or_false] at hx; rcases hx with rfl | rfl <;> decide) (fun x hx => by simp only [List.mem_cons, zaf, or_false] at hx; rcases hx with rfl | rfl <;> decide) (by decide)
  obtain ⟨T2, hT2⟩ : ∃ T : List Nd, [⟨1, 0, [], 0, 0, 0⟩, ⟨2, 1, [97], 0, 0, 0⟩, ⟨3, 2, [98], 0, 0, 0⟩] = T := ⟨_, rfl⟩
  have e2 : addM [⟨1, 0, [], 0, 0, 0⟩, ⟨2, 1, [97], 0, 0, 0⟩] 3 2 [98] = ((T2, 4), 3, 0) := by rw [← hT2]; kernel_rfl
  rw [e2] at a2
  have nr : NmR T2 := fun x hx => by rw [← hT2] at hx; simp only [List.mem_cons, zaf, or_false] at hx; rcases hx with rfl | rfl | rfl <;> decide
  have cr : CtR T2 := fun x hx => by rw [← hT2] at hx; simp only [List.mem_cons, zaf, or_false] at hx; rcases hx with rfl | rfl | rfl <;> decide
  have a3 := tpath_spec T2 4 3 (by rw [← hT2]; decide) nr cr
  have e3 : paM T2 4 3 = ([47, 97, 47, 98], true) := by rw [← hT2]; kernel_rfl
  rw [e3] at a3
  have a4 := tanc_spec T2 4 3 (by rw [← hT2]; decide) nr cr
  have e4 : ancM T2 4 3 = [3, 2, 1] := by rw [← hT2]; kernel_rfl
  rw [e4] at a4
  have a5 := same_spec [3, 2, 1] [3, 2, 1] none (some 3) (by decide)
  rw [decide_eq_true rfl] at a5
  simp only [adV] at a1 a2
  obtain ⟨T1, hT1⟩ : ∃ T : List Nd, [⟨1, 0, [], 0, 0, 0⟩, ⟨2, 1, [97], 0, 0, 0⟩] = T := ⟨_, rfl⟩
  rw [hT1] at a1 a2
  clear hT1 hT2 nr cr e1 e2 e3 e4
  refine fnspec_of mixed TT_ok TT_cl ⟨fun _ => false, fun _ => [], 0 , fun i => if i = 41 then true else false, fun _ => false⟩ Try.func8 rfl (by kernel_rfl) rfl 48 rfl [.tmp 0] rfl ?_
  simp only [go_sem, zaa, zah, zai, zaj, zal, zae, ↓reduceIte, reduceCtorEq, zab, zac, zam, zan, zao]
  repeat' (first
 | (apply cl_plain
    case hs => rfl
    case ha => (simp only [zag, zak, prepV, prepC, idx, hpL', lookR, zaa, if_true, if_false]; rfl)
    case h => (first | exact tnew_spec .. | exact a1 .. | exact a2 .. | exact a3 .. | exact a4 .. | exact a5 ..))
 | (apply cl_show
    case ha => (simp only [zag, zak, prepV, prepC, idx, hpL', lookR, zaa, if_true, if_false]; rfl)
    case hs => ((simp [snaps, SV.refs, zaL, idx, hpL', lookR]) <;> (repeat' apply zar) <;> (first | exact Ints_isG _ | exact Cs_isG _))
    case h => (first | exact tnew_spec .. | exact a1 .. | exact a2 .. | exact a3 .. | exact a4 .. | exact a5 ..)
    case hg => ((simp [SV.noG, SV.noGL, Cell.noG]) <;> (repeat' apply zar) <;> exact Ints_noG _))
 | ((first | refine s1_id ?_ | refine swp_id ?_ | refine sops_id ?_ | refine s2_id ?_); simp only [zaD, zaG, zap, zaH, zaI, zaA, zaB, zax, zaJ, zaK, zaq, zaw, go_sem, zaa, zah, zai, zaj, zal, zae, ↓reduceIte, reduceCtorEq, zab, zac, zam, zan, zao, zaN, zaO, zaE, zaP, renO, bk, back, outUpsFrom, Ints_ren])
 | exact fs_nil trivial rfl
 | fail)
def wn (i : Nat) : Str := [97, (97 + i / 26).toUInt8, (97 + i % 26).toUInt8]
theorem wn_inj : ∀ j, j < 64 → ∀ k, k < 64 → wn j = wn k → j = k := by decide +kernel
theorem wn_ok : ∀ j, j < 64 → nmOk (wn j) = true := by decide +kernel
structure WI (l : List Nd) (m : Nat) : Prop where
  v : VL l ((m : Int) + 2)
  len : l.length = m + 1
  nm : ∀ y ∈ l, y.nm = [] ∨ ∃ j, 1 ≤ j ∧ j ≤ m ∧ y.nm = wn j
theorem WI.nr {l : List Nd} {m : Nat} (h : WI l m) : NmR l := fun x hx => by
  rcases h.nm x hx with e | ⟨j, _, _, e⟩
  · rw [e]; decide
  · rw [e]; show 3 ≤ _; decide
theorem WI.add {l : List Nd} {m : Nat} (h : WI l m) (hm : m < 63) : addM l ((m : Int) + 2) 1 (wn (m + 1)) = ((l ++ [newN ((m : Int) + 2) 1 (wn (m + 1))], (m : Int) + 2 + 1), (m : Int) + 2, 0) ∧ WI (l ++ [newN ((m : Int) + 2) 1 (wn (m + 1))]) (m + 1) := by
  have hV := h.v.vt
  have hlen := h.len
  have hroot := hV.root
  have hok := wn_ok (m + 1) (by omega)
  have hex : ∃ y ∈ l, y.i = 1 := ⟨gN l 0, getD_mem l 0 zn (by omega), hroot.1⟩
  have hup : upL l 1 = [1] := hV.up0
  have hh : hasM l ((m : Int) + 2) 1 = true := hasM_iff.2 ⟨(chkT_iff _ _).2 hV, hex⟩
  have hno : ∀ y ∈ l, ¬ (y.p = 1 ∧ y.nm = wn (m + 1)) := fun y hy ⟨_, e⟩ => by
    rcases h.nm y hy with e2 | ⟨j, h1, h2, e2⟩
    · rw [e2] at e; cases e
    · rw [e2] at e
      have := wn_inj j (by omega) (m + 1) (by omega) e
      omega
  constructor
  · unfold addM
    have ha : l.any (same1 1 (wn (m + 1))) = false := List.any_eq_false.2 fun y hy hs => by
      unfold same1 at hs
      rw [zav, decide_eq_true_eq, decide_eq_true_eq] at hs
      exact hno y hy hs
    rw [(chkT_iff _ _).2 hV, hok, hh, ha, if_neg (by decide), if_neg (by decide), if_neg (by decide), if_neg]
    unfold ancM
    rw [hh, if_pos rfl, hup]
    simp only [List.length_singleton]
    omega
  · have hv := VL.add h.v (p := 1) (s := wn (m + 1)) hok hex hno (by rw [hup]; decide) (by omega) (by omega)
    refine ⟨?_, by rw [List.length_append, hlen]; rfl, fun y hy => ?_⟩
    · have e : ((m + 1 : Nat) : Int) + 2 = (m : Int) + 2 + 1 := by omega
      rw [e]; exact hv
    · rw [List.mem_append, List.mem_singleton] at hy
      rcases hy with hy | rfl
      · rcases h.nm y hy with e | ⟨j, h1, h2, e⟩
        · exact Or.inl e
        · exact Or.inr ⟨j, h1, by omega, e⟩
      · exact Or.inr ⟨m + 1, by omega, Nat.le_refl _, rfl⟩
structure OkT (x : List Nd × Int) : Prop where
  ne : 1 ≤ x.1.length
  le : x.1.length ≤ 64
  nr : NmR x.1
  ct : CtR x.1
end Go.Proofs.Ytnahpejlhfeleaa
-- NEWGO
-- PRUNE: cl_lendx cl_use
-- ISG: Cs_isG
-- FLAT: Cs_flat
namespace Go.Proofs.Ytnahpejlhfeleaa
set_option linter.unusedVariables false
set_option linter.unusedSimpArgs false
open Go.Proofs.Ytnahpejlhfeleaa.Sh
set_option maxRecDepth 20000
end Go.Proofs.Ytnahpejlhfeleaa
-- NEWGO
-- PRUNE: cl_lendx cl_use
-- ISG: Cs_isG
-- FLAT: Cs_flat
namespace Go.Proofs.Ytnahpejlhfeleaa
set_option linter.unusedVariables false
set_option linter.unusedSimpArgs false
open Go.Proofs.Ytnahpejlhfeleaa.Sh
set_option maxRecDepth 20000
def lendV : FuncId → List Nat := fun f => if f = 12 then [0] else if f = 14 then [0] else if f = 15 then [0] else if f = 20 then [0] else []
end Go.Proofs.Ytnahpejlhfeleaa
-- NEWGO
-- PRUNE: cl_lendx cl_use
-- ISG: Cs_isG
-- FLAT: Cs_flat
namespace Go.Proofs.Ytnahpejlhfeleaa
set_option linter.unusedVariables false
set_option linter.unusedSimpArgs false
open Go.Proofs.Ytnahpejlhfeleaa.Sh
set_option maxRecDepth 20000
theorem nmA_of {l : List Nd} {n : Int} (h : VT l n) {i : Nat} (hi : i < l.length) : nmA l (gN l i).i = (gN l i).nm := by
  obtain ⟨q1, _⟩ := bs_found Nd.i l (fun i j hij hj => h.asc i j hij hj) i hi
  have q1' : bsV Nd.i l (gN l i).i = i := q1
  unfold nmA
  rw [q1']
theorem way_in {l : List Nd} {n : Int} (h : VT l n) : ∀ i, i < l.length → ∀ a ∈ (upL l (gN l i).i).take ((upL l (gN l i).i).length - 1), ∃ j, j < l.length ∧ j ≠ 0 ∧ (gN l j).i = a := fun i => by
  induction i using Nat.strongRecOn with
  | _ i ih =>
    intro hi a ha
    by_cases h0 : i = 0
    · subst h0
      rw [h.root.1, h.up0] at ha
      cases ha
    · obtain ⟨j, hj, hp⟩ := (h.ch hi h0).par
      rw [h.up hi h0, ← hp] at ha
      have hn : (upL l (gN l j).i) ≠ [] := by rw [upL_node h.asc (by omega)]; exact List.cons_ne_nil _ _
      obtain ⟨c, V, e⟩ : ∃ c V, upL l (gN l j).i = c :: V := by
        cases hu : upL l (gN l j).i with
        | nil => exact absurd hu hn
        | cons c V => exact ⟨c, V, rfl⟩
      have hih := ih j hj (by omega)
      rw [e] at ha hih
      have ha' : a ∈ (gN l i).i :: (c :: V).take ((c :: V).length - 1) := by
        have : ((gN l i).i :: c :: V).take (((gN l i).i :: c :: V).length - 1) = (gN l i).i :: (c :: V).take ((c :: V).length - 1) := by
          simp only [zaq, Nat.add_sub_cancel, zax]
        rwa [this] at ha
      rcases List.mem_cons.1 ha' with rfl | ha'
      · exact ⟨i, hi, h0, rfl⟩
      · exact hih a ha'
theorem hasM_node {l : List Nd} {n : Int} (h : VT l n) {i : Nat} (hi : i < l.length) : hasM l n (gN l i).i = true := hasM_iff.2 ⟨(chkT_iff l n).2 h, gN l i, getD_mem l i zn hi, rfl⟩
theorem ancM_nd {l : List Nd} {n : Int} (h : VT l n) {i : Nat} (hi : i < l.length) : ancM l n (gN l i).i = upL l (gN l i).i := by
  unfold ancM
  rw [if_pos (hasM_node h hi)]
theorem pa_ok {l : List Nd} {n : Int} (h : VT l n) {i : Nat} (hi : i < l.length) : (paM l n (gN l i).i).2 = true := by
  unfold paM
  rw [if_pos (hasM_node h hi)]
  have hw := way_in h i hi
  have hd := h.dp i hi
  generalize upL l (gN l i).i = U at *
  have h1 : chkP (wayN l (U.length - 1) U).reverse = 0 := by
    unfold chkP
    rw [if_neg, if_neg]
    · rw [zaM, wayN_len l _ _ (Nat.sub_le _ _)]; omega
    · intro hc
      obtain ⟨s, hs, e⟩ := List.any_eq_true.1 hc
      rw [List.mem_reverse] at hs
      obtain ⟨a, ha, rfl⟩ := List.mem_map.1 hs
      obtain ⟨j, hj, j0, rfl⟩ := hw a ha
      rw [nmA_of h hj, (h.ch hj j0).nm] at e
      cases e
  show decide ((pJn _).2 = 0) = true
  unfold pJn
  rw [if_pos h1]
  rfl
theorem pa_rm {l : List Nd} {n g : Int} (h : VT l n) (hR : VT (rmN l g) n) (hp : ∀ x ∈ l, x.p ≠ g) {m : Nat} (hm : m < (rmN l g).length) : paM (rmN l g) n (gN (rmN l g) m).i = paM l n (gN (rmN l g) m).i := by
  obtain ⟨hxl, hxg⟩ := (rmN_mem l g _).1 (getD_mem (rmN l g) m zn hm)
  obtain ⟨s, hs, es⟩ := gN_mem l _ hxl
  have es : gN l s = gN (rmN l g) m := es
  have hu : upL (rmN l g) (gN (rmN l g) m).i = upL l (gN (rmN l g) m).i := upL_rm l g _ hxg hp
  have hh : hasM l n (gN (rmN l g) m).i = true := by rw [← es]; exact hasM_node h hs
  unfold paM
  rw [if_pos (hasM_node hR hm), if_pos hh, hu]
  have hw : wayN (rmN l g) ((upL l (gN (rmN l g) m).i).length - 1) (upL l (gN (rmN l g) m).i) = wayN l ((upL l (gN (rmN l g) m).i).length - 1) (upL l (gN (rmN l g) m).i) := by
    unfold wayN
    refine List.map_congr_left fun a ha => ?_
    have ha2 : a ∈ upL (rmN l g) (gN (rmN l g) m).i := by rw [hu]; exact List.mem_of_mem_take ha
    obtain ⟨t, ht, rfl⟩ := up_le hR m hm a ha2
    have ht' : t < (rmN l g).length := by omega
    rw [nmA_of hR ht']
    obtain ⟨s2, hs2, es2⟩ := gN_mem l _ ((rmN_mem l g _).1 (getD_mem (rmN l g) t zn ht')).1
    have es2 : gN l s2 = gN (rmN l g) t := es2
    rw [← es2, nmA_of h hs2]
  rw [hw]
theorem kidsL_rm (l : List Nd) (g q : Int) : kidsL (rmN l g) q = (kidsL l q).filter (fun x => !decide (x = g)) := by
  unfold kidsL rmN
  rw [List.filter_map, List.filter_filter, List.filter_filter]
  congr 1
  refine List.filter_congr fun x _ => ?_
  simp only [Function.comp]
  exact Bool.and_comm _ _
theorem subF_rm {l : List Nd} {g : Int} (hp : ∀ x ∈ l, x.p ≠ g) : ∀ (f : Nat) (q : Int), q ≠ g → (subF l f q).filter (fun x => !decide (x = g)) = subF (rmN l g) f q
  | 0, q, _ => rfl
  | f + 1, q, hq => by
    show (q :: (kidsL l q).flatMap (subF l f)).filter _ = q :: (kidsL (rmN l g) q).flatMap (subF (rmN l g) f)
    rw [zaR (by simpa using hq), kidsL_rm]
    congr 1
    induction kidsL l q with
    | nil => rfl
    | cons c r ih =>
      rw [zaV, List.filter_append, ih]
      by_cases hc : c = g
      · rw [zaS (by simpa using hc)]
        have : (subF l f c).filter (fun x => !decide (x = g)) = [] := by
          subst hc
          cases f with
          | zero => rfl
          | succ f =>
            have hk : kidsL l c = [] := by
              unfold kidsL
              rw [List.filter_eq_nil_iff.2 fun x hx => by simpa using hp x hx]; rfl
            show (c :: (kidsL l c).flatMap (subF l f)).filter _ = []
            rw [hk, zaS (by simp)]; rfl
        rw [this]; rfl
      · rw [zaR (by simpa using hc), zaV, subF_rm hp f c hc]
theorem fm_congr {f g : Int → List Int} : ∀ (L : List Int), (∀ x ∈ L, f x = g x) → L.flatMap f = L.flatMap g
  | [], _ => rfl
  | x :: r, h => by rw [zaV, zaV, h x List.mem_cons_self, fm_congr r (fun y hy => h y (List.mem_cons_of_mem _ hy))]
theorem subF_fuel {l : List Nd} {n : Int} (h : VT l n) : ∀ (f1 f2 i : Nat), i < l.length → l.length - i ≤ f1 → l.length - i ≤ f2 → subF l f1 (gN l i).i = subF l f2 (gN l i).i
  | 0, _, i, hi, h1, _ => absurd h1 (by omega)
  | _ + 1, 0, i, hi, _, h2 => absurd h2 (by omega)
  | f1 + 1, f2 + 1, i, hi, h1, h2 => by
    show (gN l i).i :: (kidsL l (gN l i).i).flatMap (subF l f1) = (gN l i).i :: (kidsL l (gN l i).i).flatMap (subF l f2)
    congr 1
    refine fm_congr _ fun x hx => ?_
    obtain ⟨j, hj, hpj, rfl⟩ := kidsL_mem.1 hx
    have := h.kid hi hj hpj
    exact subF_fuel h f1 f2 j hj (by omega) (by omega)
theorem filter_ne_len (g : Int) : ∀ (S : List Int), S.Nodup → (S.filter (fun x => !decide (x = g))).length + (if g ∈ S then 1 else 0) = S.length
  | [], _ => rfl
  | x :: r, h => by
    rw [List.nodup_cons] at h
    have ih := filter_ne_len g r h.2
    by_cases c : x = g
    · subst c
      rw [zaS (by simp), if_pos List.mem_cons_self, zaq]
      rw [if_neg h.1] at ih
      omega
    · rw [zaR (by simpa using c), zaq, zaq]
      have : (g ∈ x :: r) ↔ g ∈ r := ⟨fun hm => (List.mem_cons.1 hm).resolve_left (fun e => c e.symm), List.mem_cons_of_mem _⟩
      by_cases hm : g ∈ r
      · rw [if_pos (this.2 hm)]; rw [if_pos hm] at ih; omega
      · rw [if_neg (fun e => hm (this.1 e))]; rw [if_neg hm] at ih; omega
theorem sub_gone {l : List Nd} {n : Int} {t : Nat} (h : VT l n) (ht : t < l.length) (hR : VT (rmN l (gN l t).i) n) (hp : ∀ x ∈ l, x.p ≠ (gN l t).i) {m : Nat} (hm : m < (rmN l (gN l t).i).length) : (subM (rmN l (gN l t).i) n (gN (rmN l (gN l t).i) m).i).length + (if (gN (rmN l (gN l t).i) m).i ∈ ancM l n (gN l t).i then 1 else 0) = (subM l n (gN (rmN l (gN l t).i) m).i).length := by
  obtain ⟨hxl, hxg⟩ := (rmN_mem l _ _).1 (getD_mem (rmN l (gN l t).i) m zn hm)
  obtain ⟨s, hs, es⟩ := gN_mem l _ hxl
  have es : gN l s = gN (rmN l (gN l t).i) m := es
  have hh : hasM l n (gN (rmN l (gN l t).i) m).i = true := by rw [← es]; exact hasM_node h hs
  unfold subM
  rw [if_pos (hasM_node hR hm), if_pos hh, ancM_nd h ht]
  have hlen : (rmN l (gN l t).i).length ≤ l.length := rmN_len l _
  rw [subF_fuel hR _ l.length m hm (by omega) (by omega), ← subF_rm hp l.length _ hxg]
  have hnd : (subF l l.length (gN (rmN l (gN l t).i) m).i).Nodup := by rw [← es]; exact subF_nodup h _ s hs
  have := filter_ne_len (gN l t).i _ hnd
  have hiff : (gN l t).i ∈ subF l l.length (gN (rmN l (gN l t).i) m).i ↔ (gN (rmN l (gN l t).i) m).i ∈ upL l (gN l t).i := by
    rw [← es]
    constructor
    · intro hx
      obtain ⟨i, _, _, _, hu⟩ := subF_ge h l.length s _ hs hx
      exact hu
    · intro hx
      exact subF_up h hs (by omega) t ht hx
  by_cases c : (gN l t).i ∈ subF l l.length (gN (rmN l (gN l t).i) m).i
  · rw [if_pos c] at this
    rw [if_pos (hiff.1 c)]
    exact this
  · rw [if_neg c] at this
    rw [if_neg (fun e => c (hiff.2 e))]
    exact this
theorem rmM_no {l : List Nd} {n g : Int} (h : VT l n) (hg : hasM l n g = true) (he : (rmM l n g).2 ≠ 0) : g = 1 ∨ 0 < ((chM l n g).length : Int) := by
  unfold rmM at he
  rw [(chkT_iff l n).2 h, hg, if_neg (by decide), if_neg (by decide)] at he
  by_cases c : g = 1
  · exact .inl c
  · rw [if_neg c] at he
    by_cases c2 : 0 < ((chM l n g).length : Int)
    · exact .inr c2
    · rw [if_neg c2] at he
      exact absurd rfl he
end Go.Proofs.Ytnahpejlhfeleaa
-- NEWGO
-- PRUNE: cl_lendx cl_use
-- ISG: Cs_isG
-- FLAT: Cs_flat
namespace Go.Proofs.Ytnahpejlhfeleaa
set_option linter.unusedVariables false
set_option linter.unusedSimpArgs false
open Go.Proofs.Ytnahpejlhfeleaa.Sh
set_option maxRecDepth 20000
set_option maxHeartbeats 64000000 in
theorem apart5_spec (D : List Int) (hr : ∀ x ∈ D, -9223372036854775808 ≤ x ∧ x ≤ 9223372036854775807) : FnSpec Try.prog 4 [gi D none] [] (b1 true) [] := by
  by_cases hlen : (D.length : Int) ≤ 600
  case neg =>
    refine fnspec_of mixed TT_ok TT_cl ⟨fun _ => false, lendV, 0, fun _ => false, fun _ => false⟩ Try.func4 rfl (by kernel_rfl) rfl 128 rfl [.tmp 2] rfl ?_
    simp only [go_sem, zaa, zah, zai, zaj, zal, zae, ↓reduceIte, reduceCtorEq, zab, zac, zam, zan, zao, decide_eq_false hlen, lendV]
    repeat' (first
 | (apply cl_plain
    case hs => rfl
    case ha => (simp only [zag, zak, prepV, prepC, idx, hpL', lookR, zaa, if_true, if_false]; rfl)
    case h => (first | exact light_spec .. | exact sane5_spec ..))
 | ((first | refine s1_id ?_ | refine swp_id ?_ | refine sops_id ?_ | refine s2_id ?_); simp only [decide_eq_false hlen, lendV, go_sem, zaa, zah, zai, zaj, zal, zae, ↓reduceIte, reduceCtorEq, zab, zac, zam, zan, zao, zaN, zaO, zaE, zaP, renO, bk, back, outUpsFrom, Ints_ren])
 | exact fs_nil trivial rfl
 | fail)
  have hl : D.length ≤ 600 := by omega
  have t1 := tree_spec D hl hr 0 9 (by decide)
  have hti := mkT_ok D 0 9
  generalize mkT D 0 9 = T at *
  obtain ⟨⟨l, n⟩, j1⟩ := T
  simp only at t1 hti
  have hV := hti.v.vt
  have hle := hti.len
  have hnl := nd_len l
  have hct := hV.ctR
  have hnr := hti.nr
  have n1 := next_spec D j1 l.length hl hr (by omega)
  have r1 := nx_rng D j1 l.length (by omega)
  generalize nxV D j1 l.length = v at *
  generalize nxA D j1 l.length = j2 at *
  obtain ⟨t, rfl⟩ : ∃ t : Nat, v = t := ⟨v.toNat, by omega⟩
  have ht : t < l.length := by omega
  obtain ⟨q1, _⟩ := nd_f l t ht (.sc (.int .i64 0))
  have a1 := trem_spec l n (gN l t).i (by omega) hnr hct
  have hh := hasM_node hV ht
  have u1 := ranc_spec l none n (gN l t).i (by omega) hnr
  have hul := ancM_len l n (gN l t).i
  simp only [rmV] at a1
  by_cases he : (rmM l n (gN l t).i).2 = 0
  case neg =>
    have hno := rmM_no hV hh he
    have k1 := rkids_spec l none n (gN l t).i (by omega) hnr
    generalize rmM l n (gN l t).i = R at *
    obtain ⟨⟨l2, n2⟩, e2⟩ := R
    simp only at he a1
    generalize chM l n (gN l t).i = K at *
    generalize (gN l t).i = g at *
    by_cases h1 : g = 1
    · refine fnspec_of mixed TT_ok TT_cl ⟨fun _ => false, lendV, 0, fun _ => false, fun _ => false⟩ Try.func4 rfl (by kernel_rfl) rfl 128 rfl [.tmp 2] rfl ?_
      simp only [go_sem, zaa, zah, zai, zaj, zal, zae, ↓reduceIte, reduceCtorEq, zab, zac, zam, zan, zao, decide_eq_true hlen, decide_eq_false he, decide_eq_true h1, q1, lendV]
      repeat' (first
 | with_reducible refine zar ?_ ?_
 | (unfold OKC; kernel_rfl)
 | (unfold EDG; kernel_rfl)
 | (apply cg_tp
    case hl => rfl
    case ha => (simp only [zag, zak, prepV, prepC, idx, hpL', lookR, zaa, if_true, if_false]; rfl)
    case hs => rfl
    case h => (first | exact light_spec .. | exact roll_spec .. | exact t1 .. | exact n1 .. | exact a1 .. | exact sane5_spec ..))
 | (apply cl_plain
    case hs => rfl
    case ha => (simp only [zag, zak, prepV, prepC, idx, hpL', lookR, zaa, if_true, if_false]; rfl)
    case h => (first | exact light_spec .. | exact roll_spec .. | exact t1 .. | exact n1 .. | exact a1 .. | exact sane5_spec ..))
 | (apply cl_lend
    case hr => (simp only [zag, zak, hpL', lookR, zaa, if_true, if_false]; first | exact map1 _ | exact map2 _ _ | exact map3 _ _ _)
    case ha => (simp only [zag, zak, prepV, prepC, idx, hpL', lookR, zaa, if_true, if_false]; rfl)
    case hs => rfl
    case hn => decide
    case h => (first | exact light_spec .. | exact roll_spec .. | exact t1 .. | exact n1 .. | exact a1 .. | exact sane5_spec ..)
    case hf => (simp only [zad, zaf, false_implies, implies_true, and_true, true_and, flat_cons, flat_nil, flat_ints, flat_bools, flat_app, Cs_flat, zaL, and_self, eq_self_iff_true, zap])
    case hl => (simp only [zaq, zaw]; decide))
 | ((first | refine s1_id ?_ | refine swp_id ?_ | refine sops_id ?_ | refine s2_id ?_); simp only [decide_eq_true hlen, decide_eq_false he, decide_eq_true h1, q1, lendV, dice, zaD, zaG, zap, zaH, zaI, zaA, zaB, zax, zaJ, zaK, zaq, zaw, go_sem, zaa, zah, zai, zaj, zal, zae, ↓reduceIte, reduceCtorEq, zab, zac, zam, zan, zao, zaN, zaO, zaE, zaP, renO, bk, back, outUpsFrom, Ints_ren])
 | (intros; omega)
 | exact fs_nil trivial rfl
 | fail)
    · have h2 : 0 < (K.length : Int) := hno.resolve_left h1
      refine fnspec_of mixed TT_ok TT_cl ⟨fun _ => false, lendV, 0, fun _ => false, fun _ => false⟩ Try.func4 rfl (by kernel_rfl) rfl 128 rfl [.tmp 2] rfl ?_
      simp only [go_sem, zaa, zah, zai, zaj, zal, zae, ↓reduceIte, reduceCtorEq, zab, zac, zam, zan, zao, decide_eq_true hlen, decide_eq_false he, decide_eq_false h1, decide_eq_true h2, q1, lendV]
      repeat' (first
 | with_reducible refine zar ?_ ?_
 | (unfold OKC; kernel_rfl)
 | (unfold EDG; kernel_rfl)
 | (apply cg_tp
    case hl => rfl
    case ha => (simp only [zag, zak, prepV, prepC, idx, hpL', lookR, zaa, if_true, if_false]; rfl)
    case hs => rfl
    case h => (first | exact light_spec .. | exact roll_spec .. | exact t1 .. | exact n1 .. | exact a1 .. | exact k1 .. | exact sane5_spec ..))
 | (apply cl_plain
    case hs => rfl
    case ha => (simp only [zag, zak, prepV, prepC, idx, hpL', lookR, zaa, if_true, if_false]; rfl)
    case h => (first | exact light_spec .. | exact roll_spec .. | exact t1 .. | exact n1 .. | exact a1 .. | exact k1 .. | exact sane5_spec ..))
 | (apply cl_lend
    case hr => (simp only [zag, zak, hpL', lookR, zaa, if_true, if_false]; first | exact map1 _ | exact map2 _ _ | exact map3 _ _ _)
    case ha => (simp only [zag, zak, prepV, prepC, idx, hpL', lookR, zaa, if_true, if_false]; rfl)
    case hs => rfl
    case hn => decide
    case h => (first | exact light_spec .. | exact roll_spec .. | exact t1 .. | exact n1 .. | exact a1 .. | exact k1 .. | exact sane5_spec ..)
    case hf => (simp only [zad, zaf, false_implies, implies_true, and_true, true_and, flat_cons, flat_nil, flat_ints, flat_bools, flat_app, Cs_flat, zaL, and_self, eq_self_iff_true, zap])
    case hl => (simp only [zaq, zaw]; decide))
 | ((first | refine s1_id ?_ | refine swp_id ?_ | refine sops_id ?_ | refine s2_id ?_); simp only [decide_eq_true hlen, decide_eq_false he, decide_eq_false h1, decide_eq_true h2, q1, lendV, dice, zaD, zaG, zap, zaH, zaI, zaA, zaB, zax, zaJ, zaK, zaq, zaw, go_sem, zaa, zah, zai, zaj, zal, zae, ↓reduceIte, reduceCtorEq, zab, zac, zam, zan, zao, zaN, zaO, zaE, zaP, renO, bk, back, outUpsFrom, Ints_ren])
 | (intros; omega)
 | exact fs_nil trivial rfl
 | fail)
  obtain ⟨e, h1, _, h3, h4⟩ := rmM_ok he
  have hT2 := hti.rem he
  rw [e] at a1 hT2
  simp only at a1 hT2
  have hV2 := hT2.v.vt
  have hle2 := hT2.len
  have hnl2 := nd_len (rmN l (gN l t).i)
  have hct2 := hV2.ctR
  have hnr2 := hT2.nr
  have hgone := fun m (hm : m < (rmN l (gN l t).i).length) => sub_gone hV ht hV2 h4 hm
  have hpa := fun m (hm : m < (rmN l (gN l t).i).length) => pa_rm hV hV2 h4 hm
  have hpo := fun m (hm : m < (rmN l (gN l t).i).length) => pa_ok hV2 hm
  have hanc := fun m (hm : m < (rmN l (gN l t).i).length) => (ancM_nd hV2 hm).trans ((upL_rm l (gN l t).i (gN (rmN l (gN l t).i) m).i ((rmN_mem l _ _).1 (getD_mem (rmN l (gN l t).i) m zn hm)).2 h4).trans (show upL l (gN (rmN l (gN l t).i) m).i = ancM l n (gN (rmN l (gN l t).i) m).i from by
    obtain ⟨s, hs, es⟩ := gN_mem l _ ((rmN_mem l _ _).1 (getD_mem (rmN l (gN l t).i) m zn hm)).1
    have es : gN l s = gN (rmN l (gN l t).i) m := es
    rw [← es, ancM_nd hV hs]))
  have hend : ancM (rmN l (gN l t).i) n (gN l t).i = [] := by
    unfold ancM
    rw [if_neg]
    intro hc
    obtain ⟨_, y, hy, ey⟩ := hasM_iff.1 hc
    exact ((rmN_mem l _ y).1 hy).2 ey
  have z1 := tanc_spec (rmN l (gN l t).i) n (gN l t).i (by omega) hnr2 hct2
  rw [hend] at z1
  generalize ancM l n (gN l t).i = U at *
  generalize (gN l t).i = g at *
  clear e h1 h3 h4 hend he hh
  generalize rmN l g = R at *
  refine fnspec_of mixed TT_ok TT_cl ⟨fun _ => false, lendV, 0, fun _ => false, fun _ => false⟩ Try.func4 rfl (by kernel_rfl) rfl 128 rfl [.tmp 2] rfl ?_
  simp only [go_sem, zaa, zah, zai, zaj, zal, zae, ↓reduceIte, reduceCtorEq, zab, zac, zam, zan, zao, decide_eq_true hlen, q1, lendV]
  repeat' (first
 | with_reducible refine zar ?_ ?_
 | (unfold OKC; kernel_rfl)
 | (unfold EDG; kernel_rfl)
 | (apply cl_plain
    case hs => rfl
    case ha => (simp only [zag, zak, prepV, prepC, idx, hpL', lookR, zaa, if_true, if_false]; rfl)
    case h => (first | exact light_spec .. | exact roll_spec .. | exact t1 .. | exact n1 .. | exact a1 .. | exact u1 ..))
 | (apply cl_lend
    case hr => (simp only [zag, zak, hpL', lookR, zaa, if_true, if_false]; first | exact map1 _ | exact map2 _ _ | exact map3 _ _ _)
    case ha => (simp only [zag, zak, prepV, prepC, idx, hpL', lookR, zaa, if_true, if_false]; rfl)
    case hs => rfl
    case hn => decide
    case h => (first | exact light_spec .. | exact roll_spec .. | exact t1 .. | exact n1 .. | exact a1 .. | exact u1 ..)
    case hf => (simp only [zad, zaf, false_implies, implies_true, and_true, true_and, flat_cons, flat_nil, flat_ints, flat_bools, flat_app, Cs_flat, zaL, and_self, eq_self_iff_true, zap])
    case hl => (simp only [zaq, zaw]; decide))
 | ((first | refine s1_id ?_ | refine swp_id ?_ | refine sops_id ?_ | refine s2_id ?_); simp only [decide_eq_true hlen, decide_true, q1, lendV, dice, zaD, zaG, zap, zaH, zaI, zaA, zaB, zax, zaJ, zaK, zaq, zaw, go_sem, zaa, zah, zai, zaj, zal, zae, ↓reduceIte, reduceCtorEq, zab, zac, zam, zan, zao, zaN, zaO, zaE, zaP, renO, bk, back, outUpsFrom, Ints_ren])
 | (intros; omega)
 | (intros; (try simp only [zav, zaF, zaz, zay, zas, zau, decide_eq_true_eq, decide_eq_false_iff_not] at *); omega))
  refine w_loop (ι := Nat) (fun m => ⟨[(4, .one (.optr 0 0)), (5, i1 g), (6, .one (.optr 1 0)), (8, gi U none), (59, i1 R.length), (60, i1 m)], [(0, some ⟨[.gsl (Cs l) 0 l.length none, int n], 2⟩), (1, some ⟨[.gsl (Cs R) 0 R.length none, int n], 2⟩)], 2⟩) (fun m => m ≤ R.length) (fun m => R.length - m) 0 ?_ (zaU _) ?_
  · (refine imp_ren _ _ _ [(0, 9, ⟨[.gsl (Cs l) 0 l.length none, int n], 2⟩), (1, 28, ⟨[.gsl (Cs R) 0 R.length none, int n], 2⟩)] (by simp) (by simp) (by simp) (zaC rfl) ?_ rfl (by simp only [zad, zaf, false_implies, implies_true, and_true, St.hpF, lookR, zaa, if_true, if_false, ↓reduceIte] <;> (repeat' apply zar) <;> (first | rfl | trivial)) (by simp only [zad, zaf, false_implies, implies_true, and_true, true_and, flat_cons, flat_nil, flat_ints, flat_bools, flat_app, zaL, and_self, eq_self_iff_true, zap]); simp only [zag, zak, zad, zaf, false_implies, implies_true, and_true, lk, slot, zaN, zaE, toN, zaa, if_true, if_false, ↓reduceIte, reduceCtorEq])
    all_goals ((repeat' apply zar) <;> (first | rfl | trivial))
  clear t1 n1 a1 u1
  intro m hm
  simp only at hm ⊢
  rcases Nat.lt_or_ge m R.length with hlt | hge
  case inr =>
    have c : ¬ (m : Int) < (R.length : Int) := by omega
    simp only [go_sem, zaa, zah, zai, zaj, zal, zae, ↓reduceIte, reduceCtorEq, zab, zac, zam, zan, zao, decide_eq_false c, lendV]
    repeat' (first
 | (apply cg_tp
    case hl => rfl
    case ha => (simp only [zag, zak, prepV, prepC, idx, hpL', lookR, zaa, if_true, if_false]; rfl)
    case hs => rfl
    case h => (first | exact z1 .. | exact sane5_spec ..))
 | (apply cl_plain
    case hs => rfl
    case ha => (simp only [zag, zak, prepV, prepC, idx, hpL', lookR, zaa, if_true, if_false]; rfl)
    case h => (first | exact z1 .. | exact sane5_spec ..))
 | ((first | refine s1_id ?_ | refine swp_id ?_ | refine sops_id ?_ | refine s2_id ?_); simp only [decide_eq_false c, decide_true, lendV, zaD, zaG, zap, zaH, zaI, zaA, zaB, zax, zaJ, zaK, zaq, zaw, go_sem, zaa, zah, zai, zaj, zal, zae, ↓reduceIte, reduceCtorEq, zab, zac, zam, zan, zao, zaN, zaO, zaE, zaP, renO, bk, back, outUpsFrom, Ints_ren])
 | exact fs_nil trivial rfl
 | fail)
  have c : (m : Int) < (R.length : Int) := by omega
  obtain ⟨q2, _⟩ := nd_f R m hlt (.sc (.int .i64 0))
  have y1 := tpath_spec l n (gN R m).i (by omega) hnr hct
  have y2 := tpath_spec R n (gN R m).i (by omega) hnr2 hct2
  have y3 := rsub_spec l none n (gN R m).i (by omega) hnr
  have y4 := tsub_spec R n (gN R m).i (by omega) hnr2 hct2
  have y5 := tanc_spec R n (gN R m).i (by omega) hnr2 hct2
  have y6 := ranc_spec l none n (gN R m).i (by omega) hnr
  have hgo := hgone m hlt
  have hal := ancM_len l n (gN R m).i
  rw [hpo m hlt, hpa m hlt] at y2
  rw [hanc m hlt] at y5
  have hs1 := subM_len l n (gN R m).i
  have hs2 := subM_len R n (gN R m).i
  have y7 := fun k k2 => same_spec (ancM l n (gN R m).i) (ancM l n (gN R m).i) k k2 (by omega)
  simp only [decide_true] at y7
  have y8 := has_spec U none (gN R m).i (by omega)
  clear hpo hpa hanc hgone
  generalize (paM l n (gN R m).i).1 = P at *
  generalize (paM l n (gN R m).i).2 = P2 at *
  generalize ancM l n (gN R m).i = W at *
  generalize subM l n (gN R m).i = S1 at *
  generalize subM R n (gN R m).i = S2 at *
  generalize (gN R m).i = k at *
  by_cases hB : k ∈ U
  · rw [if_pos hB] at hgo
    rw [decide_eq_true hB] at y8
    have e1 : (S1.length : Int) - S2.length = 1 := by omega
    have e2 : ¬ 1 < (S1.length : Int) - S2.length := by omega
    simp only [go_sem, zaa, zah, zai, zaj, zal, zae, ↓reduceIte, reduceCtorEq, zab, zac, zam, zan, zao, decide_eq_true c, q2, lendV, decide_eq_true e1, decide_eq_false e2]
    repeat' (first
 | with_reducible refine zar ?_ ?_
 | (unfold OKC; kernel_rfl)
 | (unfold EDG; kernel_rfl)
 | (apply cg_tp
    case hl => rfl
    case ha => (simp only [zag, zak, prepV, prepC, idx, hpL', lookR, zaa, if_true, if_false]; rfl)
    case hs => rfl
    case h => (first | exact y1 .. | exact y2 .. | exact y3 .. | exact y4 .. | exact y5 .. | exact y6 .. | exact y7 .. | exact y8 ..))
 | (apply cl_plain
    case hs => rfl
    case ha => (simp only [zag, zak, prepV, prepC, idx, hpL', lookR, zaa, if_true, if_false]; rfl)
    case h => (first | exact y1 .. | exact y2 .. | exact y3 .. | exact y4 .. | exact y5 .. | exact y6 .. | exact y7 .. | exact y8 ..))
 | ((first | refine s1_id ?_ | refine swp_id ?_ | refine sops_id ?_ | refine s2_id ?_); simp only [decide_eq_true c, q2, lendV, decide_eq_true e1, decide_eq_false e2, decide_true, beq_self_eq_true, Bool.not_true, zaD, zaG, zap, zaH, zaI, zaA, zaB, zax, zaJ, zaK, zaq, zaw, go_sem, zaa, zah, zai, zaj, zal, zae, ↓reduceIte, reduceCtorEq, zab, zac, zam, zan, zao, zaN, zaO, zaE, zaP, renO, bk, back, outUpsFrom, Ints_ren])
 | (intros; omega)
 | (intros; (try simp only [zav, zaF, zaz, zay, zas, zau, decide_eq_true_eq, decide_eq_false_iff_not] at *); omega))
    refine le_mk (m + 1) ?_ hlt (by show R.length - (m + 1) < R.length - m; omega)
    (refine imp_ren _ _ _ [(0, 0, ⟨[.gsl (Cs l) 0 l.length none, int n], 2⟩), (1, 1, ⟨[.gsl (Cs R) 0 R.length none, int n], 2⟩)] (by simp) (by simp) (by simp) (zaC rfl) ?_ rfl (by simp only [zad, zaf, false_implies, implies_true, and_true, St.hpF, lookR, zaa, if_true, if_false, ↓reduceIte] <;> (repeat' apply zar) <;> (first | rfl | trivial)) (by simp only [zad, zaf, false_implies, implies_true, and_true, true_and, flat_cons, flat_nil, flat_ints, flat_bools, flat_app, zaL, and_self, eq_self_iff_true, zap]); simp only [zag, zak, zad, zaf, false_implies, implies_true, and_true, lk, slot, zaN, zaE, toN, zaa, if_true, if_false, ↓reduceIte, reduceCtorEq])
    all_goals ((repeat' apply zar) <;> (first | rfl | trivial | (simp only [zat]; done) | (simp only [zat]; rfl) | (simp only [zat]; trivial)))
  · rw [if_neg hB] at hgo
    rw [decide_eq_false hB] at y8
    have e1 : ¬ (S1.length : Int) - S2.length = 1 := by omega
    have e2 : ¬ 1 < (S1.length : Int) - S2.length := by omega
    simp only [go_sem, zaa, zah, zai, zaj, zal, zae, ↓reduceIte, reduceCtorEq, zab, zac, zam, zan, zao, decide_eq_true c, q2, lendV, decide_eq_false e1, decide_eq_false e2]
    repeat' (first
 | with_reducible refine zar ?_ ?_
 | (unfold OKC; kernel_rfl)
 | (unfold EDG; kernel_rfl)
 | (apply cg_tp
    case hl => rfl
    case ha => (simp only [zag, zak, prepV, prepC, idx, hpL', lookR, zaa, if_true, if_false]; rfl)
    case hs => rfl
    case h => (first | exact y1 .. | exact y2 .. | exact y3 .. | exact y4 .. | exact y5 .. | exact y6 .. | exact y7 .. | exact y8 ..))
 | (apply cl_plain
    case hs => rfl
    case ha => (simp only [zag, zak, prepV, prepC, idx, hpL', lookR, zaa, if_true, if_false]; rfl)
    case h => (first | exact y1 .. | exact y2 .. | exact y3 .. | exact y4 .. | exact y5 .. | exact y6 .. | exact y7 .. | exact y8 ..))
 | ((first | refine s1_id ?_ | refine swp_id ?_ | refine sops_id ?_ | refine s2_id ?_); simp only [decide_eq_true c, q2, lendV, decide_eq_false e1, decide_eq_false e2, decide_true, beq_self_eq_true, Bool.not_true, zaD, zaG, zap, zaH, zaI, zaA, zaB, zax, zaJ, zaK, zaq, zaw, go_sem, zaa, zah, zai, zaj, zal, zae, ↓reduceIte, reduceCtorEq, zab, zac, zam, zan, zao, zaN, zaO, zaE, zaP, renO, bk, back, outUpsFrom, Ints_ren])
 | (intros; omega)
 | (intros; (try simp only [zav, zaF, zaz, zay, zas, zau, decide_eq_true_eq, decide_eq_false_iff_not] at *); omega))
    refine le_mk (m + 1) ?_ hlt (by show R.length - (m + 1) < R.length - m; omega)
    (refine imp_ren _ _ _ [(0, 0, ⟨[.gsl (Cs l) 0 l.length none, int n], 2⟩), (1, 1, ⟨[.gsl (Cs R) 0 R.length none, int n], 2⟩)] (by simp) (by simp) (by simp) (zaC rfl) ?_ rfl (by simp only [zad, zaf, false_implies, implies_true, and_true, St.hpF, lookR, zaa, if_true, if_false, ↓reduceIte] <;> (repeat' apply zar) <;> (first | rfl | trivial)) (by simp only [zad, zaf, false_implies, implies_true, and_true, true_and, flat_cons, flat_nil, flat_ints, flat_bools, flat_app, zaL, and_self, eq_self_iff_true, zap]); simp only [zag, zak, zad, zaf, false_implies, implies_true, and_true, lk, slot, zaN, zaE, toN, zaa, if_true, if_false, ↓reduceIte, reduceCtorEq])
    all_goals ((repeat' apply zar) <;> (first | rfl | trivial | (simp only [zat]; done) | (simp only [zat]; rfl) | (simp only [zat]; trivial)))
theorem apart5_main (g0 : List Cell) (s0 : GTy Try.prog 12 22 g0) : FnSpec Try.prog 4 [svOf Try.prog 22 g0] [] (b1 true) [] := by
  obtain ⟨l, rfl, hl, hr⟩ := gty_ints (n := 10) Try.underlying22 Try.underlying3 s0
  simp only [svOf, Try.underlying22, List.headD_cons]
  exact apart5_spec l hr
end Go.Proofs.Ytnahpejlhfeleaa
