/- Contracts of functions, told of values, on the way to TreeChanges (part 6). -/
import Derived.Shelf.Strings.Builder1
import Derived.Shelf.Strings.Builder2
import Derived.Shelf.Strings.OnBuilder
import Derived.Ground.Names2Prog
import Derived.Shelf.Slices.ReverseS
import Derived.Shelf.Slices.SearchI
import Derived.Shelf.Slices.Cells
import Derived.Test.YtnahpejlhfeleaaProg
import Derived.Test.YtnahpejlhfeleaaTreeChangesM3
import Derived.Test.YtnahpejlhfeleaaTreeChangesM5
import Derived.Lib.Join
import Derived.Test.YtnahpejlhfeleaaTreeChangesM4
-- short names of the library's lemmas
open Nat renaming reduceEqDiff → zaa, reduceLeDiff → zah, reduceAdd → zak, reduceSub → zal, reduceMul → zam, reduceLT → zan, le_of_ble_eq_true → zaT, zero_le → zaZ
open List renaming map_cons → zab, forall_mem_cons → zac, map_nil → zad, reduceReplicate → zae, not_mem_nil → zaf, append_nil → zai, getD_cons_zero → zaq, getD_cons_succ → zar, length_cons → zas, length_nil → zau, take_succ_cons → zaE, set_cons_zero → zaF, set_cons_succ → zaG, flatten_cons → zaI, flatten_nil → zaM, cons_append → zaN, nil_append → zaO, take_zero → zaQ, take_nil → zaR, length_set → zaU, take_of_length_le → zbb, length_reverse → zbd
open Int renaming cast_ofNat_Int → zag, reduceEq → zaj, reduceLT → zao, reduceLE → zap, natCast_add → zaS, toNat_natCast → zbc
open Option renaming getD_some → zaw, getD_none → zax
open Bool renaming and_eq_false_iff → zat, or_eq_false_iff → zav, not_eq_false' → zay, and_eq_true → zaA, not_eq_true' → zaB, or_eq_true → zaD
open And renaming intro → zaz
open Go.Proofs.Ytnahpejlhfeleaa.Sh.Cell renaming ren → zaC, refs → zaH, isG → zaV, frz → zaW
open Go.Proofs.Ytnahpejlhfeleaa.Sh.SV renaming renL → zaJ, ren → zaP, frzL → zaY, frz → zba
open Go.Proofs.Ytnahpejlhfeleaa.Sh.Row renaming ren → zaK
open Go.Proofs.Ytnahpejlhfeleaa.Sh.St renaming hpF → zaL, tmF → zaX
-- namespace Go.Proofs.Ytnahpejlhfeleaa
namespace Go.Proofs
set_option linter.unusedVariables false
set_option linter.unusedSimpArgs false
open Go.Shelf
def Try.lays156_ren : Go.Shelf.Ren := ⟨fun | 156 => 69 | 165 => 79 | 166 => 80 | 169 => 81 | 240 => 84 | 241 => 85 | 276 => 86 | 277 => 87 | n => n, fun | 31 => 51 | 9 => 9 | 3 => 3 | 4 => 4 | 0 => 0 | 20 => 20 | 72 => 103 | 76 => 107 | 70 => 100 | 37 => 101 | 75 => 106 | 127 => 111 | 164 => 112 | 5 => 5 | 80 => 36 | n => n, fun | n => n⟩
theorem Try.lays156 : Go.Proofs.Lays.n156 Try.prog Try.lays156_ren := {
  mixed := by kernel_rfl
  f156 := Try.func69.trans (congrArg some (by kernel_rfl))
  f165 := Try.func79.trans (congrArg some (by kernel_rfl))
  f166 := Try.func80.trans (congrArg some (by kernel_rfl))
  f169 := Try.func81.trans (congrArg some (by kernel_rfl))
  f240 := Try.func84.trans (congrArg some (by kernel_rfl))
  f241 := Try.func85.trans (congrArg some (by kernel_rfl))
  f276 := Try.func86.trans (congrArg some (by kernel_rfl))
  f277 := Try.func87.trans (congrArg some (by kernel_rfl))
  t0 := Try.underlying0
  a0 := Try.isAgg0
  z0 := Try.sizeOf0
  v0 := Try.zeroValue0
  t3 := Try.underlying3
  a3 := Try.isAgg3
  z3 := Try.sizeOf3
  v3 := Try.zeroValue3
  t4 := Try.underlying4
  a4 := Try.isAgg4
  z4 := Try.sizeOf4
  v4 := Try.zeroValue4
  t9 := Try.underlying9
  a9 := Try.isAgg9
  z9 := Try.sizeOf9
  v9 := Try.zeroValue9
  t20 := Try.underlying20
  a20 := Try.isAgg20
  z20 := Try.sizeOf20
  v20 := Try.zeroValue20
  t31 := Try.underlying51
  a31 := Try.isAgg51
  z31 := Try.sizeOf51
  v31 := Try.zeroValue51
  t37 := Try.underlying101
  a37 := Try.isAgg101
  z37 := Try.sizeOf101
  v37 := Try.zeroValue101
  t70 := Try.underlying100
  a70 := Try.isAgg100
  z70 := Try.sizeOf100
  v70 := Try.zeroValue100
  t72 := Try.underlying103
  a72 := Try.isAgg103
  z72 := Try.sizeOf103
  v72 := Try.zeroValue103
  t75 := Try.underlying106
  a75 := Try.isAgg106
  z75 := Try.sizeOf106
  v75 := Try.zeroValue106
  t76 := Try.underlying107
  a76 := Try.isAgg107
  z76 := Try.sizeOf107
  v76 := Try.zeroValue107
  t127 := Try.underlying111
  a127 := Try.isAgg111
  z127 := Try.sizeOf111
  v127 := Try.zeroValue111
  t164 := Try.underlying112
  a164 := Try.isAgg112
  z164 := Try.sizeOf112
  v164 := Try.zeroValue112 }
theorem Try.Builder_Extra_156 : Builder.Extra Try.prog Try.lays156_ren := {
  sizeBuilder := by kernel_rfl
  liesBuilder := by kernel_rfl
  t5 := Try.underlying5
  a5 := Try.isAgg5
  z5 := Try.sizeOf5
  v5 := Try.zeroValue5
  infoByte := by kernel_rfl
  cellsByte := by kernel_rfl
  sizeByte := by kernel_rfl
  neB5 := by decide }
open Go.RowKit in
theorem Try.strings_Join_none (a : Option Addr) (c : Nat) (sep : ByteArray) (w : World) :
    Calls Try.prog 69 #[.slice a 0 c, .string sep] w fun e w' => e = .returned (.string ⟨#[]⟩) ∧ w' = w := Any.strings_Join_none Try.lays156 Try.Builder_Extra_156 a c sep w
open Go.RowKit in
theorem Try.strings_Join (bk o c : Nat) (xs : List ByteArray) (sep : ByteArray) (w : World) (hcells : ∀ (j : Nat) x, xs[j]? = some x → w.cell? ⟨bk, o + j, none⟩ = some (.string x)) (hbk : bk < w.heap.size) (hN : xs.length ≤ 140737488355328) (hcap : xs.length ≤ c) (hlen : (Lib.join (xs.map (·.data.toList)) sep.data.toList).length ≤ 140737488355328) :
    Calls Try.prog 69 #[.slice (some ⟨bk, o, none⟩) xs.length c, .string sep] w fun e w' => e = .returned (.string ⟨(Lib.join (xs.map (·.data.toList)) sep.data.toList).toArray⟩) ∧ Below w.heap.size w w' := Any.strings_Join Try.lays156 Try.Builder_Extra_156 bk o c xs sep w hcells hbk hN hcap hlen

end Go.Proofs
-- NEWGO
-- PRUNE: cl_lendx cl_use cl_lend
-- ISG: Strs_isG
-- FLAT: Strs_flat
namespace Go.Proofs.Ytnahpejlhfeleaa
set_option linter.unusedVariables false
set_option linter.unusedSimpArgs false
open Go.Proofs.Ytnahpejlhfeleaa.Sh
set_option maxRecDepth 20000
def jn (xs : List Str) (sep : Str) : Str := Lib.join xs sep
theorem join_spec (xs : List Str) (sep : Str) (cap : Option Nat) (hN : xs.length ≤ 140737488355328) (hl : (jn xs sep).length ≤ 140737488355328) : FnSpec Try.prog 69 [gs xs cap, s1 sep] [] (s1 (jn xs sep)) [] := by
  refine FnSpec.of_calls Try.func69 (by kernel_rfl) (by kernel_rfl) trivial fun w vals m hm hv => ?_
  generalize hvs : vals.toList = vs at hv
  match vs, hv with
  | [u, v], ⟨hu, hw, _⟩ =>
    have hvals : vals = #[u, v] := by apply Array.ext'; exact hvs
    have ev : v = .string (bs sep) := by cases hw; rfl
    subst hvals; subst ev
    by_cases h0 : xs.length = 0
    · have hx : xs = [] := List.length_eq_zero_iff.1 h0
      subst hx
      have hu2 : ∃ a c, u = .slice a 0 c := by
        cases hu with
        | gsl _ _ _ _ b o c ad f _ _ _ _ _ => exact ⟨_, _, rfl⟩
        | gnil _ _ _ _ => exact ⟨_, _, rfl⟩
      obtain ⟨a, c, rfl⟩ := hu2
      refine (Try.strings_Join_none a c (bs sep) w).mono fun e w' ⟨h1, h2⟩ => ?_
      subst h1; subst h2
      exact ⟨_, rfl, VG.sc _ rfl, RowKit.Below.refl _ _⟩
    · have hu2 : ∃ (b o c : Nat) (f : Nat → Value), u = .slice (some ⟨b, o, none⟩) xs.length c ∧ xs.length ≤ c ∧ (∀ (i : Nat) x, (Strs xs)[i]? = some x → m ⟨b, o + i, none⟩ = some (f i)) ∧ (∀ (i : Nat) x, (Strs xs)[i]? = some x → VG m x (f i)) := by
        obtain ⟨n, hn⟩ : ∃ n, xs.length = n := ⟨_, rfl⟩
        have hu' : VG m (.gsl (Strs xs) 0 n cap) u := by rw [← hn]; exact hu
        rw [hn] at h0 ⊢
        cases hu' with
        | gsl _ _ _ _ b o c ad f hc hlc hm hv ha =>
          have had : ad = ⟨b, o + 0, none⟩ := ha.resolve_right h0
          subst had
          exact ⟨b, o, c, f, rfl, hlc, hm, hv⟩
        | gnil _ _ _ _ => exact absurd rfl h0
      obtain ⟨b, o, c, f, rfl, hlc, hm2, hv2⟩ := hu2
      have hat : ∀ (j : Nat) x, (xs.map bs)[j]? = some x → w.cell? ⟨b, o + j, none⟩ = some (.string x) := by
        intro j x hj
        rw [List.getElem?_map] at hj
        cases hx : xs[j]? with
        | none => rw [hx] at hj; cases hj
        | some y =>
          rw [hx] at hj
          cases hj
          have hs : (Strs xs)[j]? = some (st y) := by simp [Strs, hx]
          have h1 := (hm _ _ (hm2 j _ hs)).2
          have h2 := hv2 j _ hs
          cases h2' : f j <;> rw [h2'] at h2 h1 <;> cases h2
          exact h1
      have hlt : b < w.heap.size := by
        obtain ⟨y, hy⟩ : ∃ y, xs[0]? = some y := ⟨_, List.getElem?_eq_getElem (by omega)⟩
        have := hat 0 (bs y) (by simp [hy])
        exact World.block_lt_of_cell? _ _ this
      have hmap : (xs.map bs).map (·.data.toList) = xs := by
        rw [List.map_map]
        have : ((fun x : ByteArray => x.data.toList) ∘ bs) = id := by funext l; exact bs_data l
        rw [this, List.map_id]
      have hj := Try.strings_Join b o c (xs.map bs) (bs sep) w hat hlt (by simpa using hN) (by simpa using hlc) (by rw [hmap, bs_data]; exact hl)
      rw [hmap, bs_data, List.length_map] at hj
      refine hj.mono fun e w' ⟨h1, h2⟩ => ?_
      subst h1
      exact ⟨_, rfl, VG.sc _ rfl, h2⟩
end Go.Proofs.Ytnahpejlhfeleaa
-- NEWGO
-- PRUNE: cl_lendx cl_use cl_lend
-- ISG: Strs_isG
-- FLAT: Strs_flat
namespace Go.Proofs.Ytnahpejlhfeleaa
set_option linter.unusedVariables false
set_option linter.unusedSimpArgs false
open Go.Proofs.Ytnahpejlhfeleaa.Sh
set_option maxRecDepth 20000
end Go.Proofs.Ytnahpejlhfeleaa
-- NEWGO
-- PRUNE: cl_lendx cl_use cl_lend
-- ISG: Strs_isG
-- FLAT: Strs_flat
namespace Go.Proofs.Ytnahpejlhfeleaa
set_option linter.unusedVariables false
set_option linter.unusedSimpArgs false
open Go.Proofs.Ytnahpejlhfeleaa.Sh
set_option maxRecDepth 20000
def pJn (xs : List Str) : Str × Int := if chkP xs = 0 then (47 :: jn xs [47], 0) else ([], chkP xs)
abbrev rJ (x : Str × Int) : SV := .tup [s1 x.1, i1 x.2]
theorem nmOk_len (s : Str) (h : nmOk s = true) : s.length ≤ 32 := by
  unfold nmOk at h
  simp only [zaA, decide_eq_true_eq] at h
  omega
theorem chk_ok (xs : List Str) (h : chkP xs = 0) : (∀ s ∈ xs, nmOk s = true) ∧ xs.length ≤ 8 := by
  unfold chkP at h
  cases ha : xs.any (fun s => !nmOk s) with
  | true => rw [ha, if_pos rfl] at h; cases h
  | false =>
    rw [ha, if_neg Bool.false_ne_true] at h
    refine ⟨fun s hs => ?_, ?_⟩
    · have := List.any_eq_false.1 ha s hs
      simpa using this
    · by_cases h8 : 8 < (xs.length : Int)
      · rw [if_pos h8] at h; cases h
      · omega
theorem lens_le (n : Nat) : ∀ xs : List Str, (∀ s ∈ xs, s.length ≤ n) → Lib.lens xs ≤ n * xs.length
  | [], _ => zaZ _
  | x :: xs, h => by
    have h1 := lens_le n xs fun s hs => h s (List.mem_cons_of_mem _ hs)
    have h2 := h x List.mem_cons_self
    have e : Lib.lens (x :: xs) = x.length + Lib.lens xs := by simp [Lib.lens]
    rw [e, zas, Nat.mul_succ]
    omega
theorem jn_len (xs : List Str) (h : chkP xs = 0) : (jn xs [47]).length ≤ 300 := by
  obtain ⟨h1, h2⟩ := chk_ok xs h
  have h3 := lens_le 32 xs fun s hs => nmOk_len s (h1 s hs)
  cases xs with
  | nil => exact zaZ _
  | cons x r =>
    unfold jn
    rw [Lib.join_length]
    simp only [zas, zau] at *
    omega
theorem join_p (xs : List Str) (k : Option Nat) (hx : ∀ s ∈ xs, s.length ≤ 9223372036854775807) (hl : xs.length ≤ 140737488355328) : FnSpec Try.prog 49 [gs xs k] [] (rJ (pJn xs)) [] := by
  have h1 := checkN_spec xs hx k (by omega)
  unfold pJn
  by_cases hc : chkP xs = 0
  · have h2 := join_spec xs [47] k hl (by have := jn_len xs hc; omega)
    have h3 := jn_len xs hc
    rw [if_pos hc]
    rw [hc] at h1
    refine fnspec_of mixed TT_ok TT_cl ⟨fun _ => false, fun _ => [], 0, fun _ => false, fun _ => false⟩ Try.func49 rfl (by kernel_rfl) rfl 13 rfl [.tmp 2, .tmp 3] rfl ?_
    simp only [go_sem, zaa, zak, zal, zam, zan, zah, ↓reduceIte, reduceCtorEq, zae, zag, zaj, zao, zap]
    repeat' (first
 | with_reducible refine zaz ?_ ?_
 | (apply cl_plain
    case hs => rfl
    case ha => (simp only [zab, zad, prepV, prepC, idx, hpL', lookR, zaa, if_true, if_false]; rfl)
    case h => (first | exact h1 .. | exact h2 ..))
 | ((first | refine s1_id ?_ | refine swp_id ?_ | refine sops_id ?_ | refine s2_id ?_); simp only [go_sem, zaa, zak, zal, zam, zan, zah, ↓reduceIte, reduceCtorEq, zae, zag, zaj, zao, zap, zaP, zaJ, zaC, zaK, renO, bk, back, outUpsFrom, Ints_ren])
 | (intros; omega)
 | exact fs_nil trivial rfl
 | fail)
  · rw [if_neg hc]
    generalize chkP xs = e at *
    refine fnspec_of mixed TT_ok TT_cl ⟨fun _ => false, fun _ => [], 0, fun _ => false, fun _ => false⟩ Try.func49 rfl (by kernel_rfl) rfl 13 rfl [.tmp 2, .tmp 3] rfl ?_
    simp only [go_sem, zaa, zak, zal, zam, zan, zah, ↓reduceIte, reduceCtorEq, zae, zag, zaj, zao, zap]
    repeat' (first
 | (apply cl_plain
    case hs => rfl
    case ha => (simp only [zab, zad, prepV, prepC, idx, hpL', lookR, zaa, if_true, if_false]; rfl)
    case h => (first | exact h1 ..))
 | ((first | refine s1_id ?_ | refine swp_id ?_ | refine sops_id ?_ | refine s2_id ?_); simp only [decide_eq_false hc, go_sem, zaa, zak, zal, zam, zan, zah, ↓reduceIte, reduceCtorEq, zae, zag, zaj, zao, zap, zaP, zaJ, zaC, zaK, renO, bk, back, outUpsFrom, Ints_ren])
 | exact fs_nil trivial rfl
 | fail)
end Go.Proofs.Ytnahpejlhfeleaa
-- NEWGO
-- PRUNE: cl_use
-- ISG: Strs_isG
-- FLAT: Strs_flat
namespace Go.Proofs.Ytnahpejlhfeleaa
set_option linter.unusedVariables false
set_option linter.unusedSimpArgs false
open Go.Proofs.Ytnahpejlhfeleaa.Sh
set_option maxRecDepth 20000
def rvS (xs : List Str) (k : Nat) : List Str := (List.range xs.length).map fun i => if i < k ∨ xs.length ≤ i + k then xs.getD (xs.length - 1 - i) [] else xs.getD i []
theorem rvS_len (xs : List Str) (k : Nat) : (rvS xs k).length = xs.length := by simp [rvS]
theorem rvS_at (xs : List Str) (k i : Nat) (h : i < xs.length) : (rvS xs k).getD i [] = if i < k ∨ xs.length ≤ i + k then xs.getD (xs.length - 1 - i) [] else xs.getD i [] := by
  unfold rvS
  rw [List.getD_eq_getElem?_getD, List.getElem?_map, List.getElem?_range h]; rfl
theorem ext_getD {a b : List Str} (hl : a.length = b.length) (h : ∀ i, i < a.length → a.getD i [] = b.getD i []) : a = b := by
  refine List.ext_getElem hl fun i h1 h2 => ?_
  have := h i h1
  rwa [getD_at a i [] h1, getD_at b i [] h2] at this
theorem rvS_0 (xs : List Str) : rvS xs 0 = xs := by
  refine ext_getD (rvS_len xs 0) fun i hi => ?_
  rw [rvS_len] at hi
  rw [rvS_at xs 0 i hi, if_neg (by omega)]
theorem rvS_end (xs : List Str) (k : Nat) (h : xs.length ≤ 2 * k + 1) : rvS xs k = xs.reverse := by
  refine ext_getD (by rw [rvS_len, zbd]) fun i hi => ?_
  rw [rvS_len] at hi
  have e : xs.reverse.getD i [] = xs.getD (xs.length - 1 - i) [] := by
    rw [List.getD_eq_getElem?_getD, List.getElem?_reverse hi, ← List.getD_eq_getElem?_getD]
  rw [rvS_at xs k i hi, e]
  by_cases c : i < k ∨ xs.length ≤ i + k
  · rw [if_pos c]
  · rw [if_neg c, show xs.length - 1 - i = i by omega]
theorem rvS_step (xs : List Str) (k : Nat) (h : 2 * k + 1 < xs.length) : ((rvS xs k).set k (xs.getD (xs.length - 1 - k) [])).set (xs.length - 1 - k) (xs.getD k []) = rvS xs (k + 1) := by
  refine ext_getD (by rw [zaU, zaU, rvS_len, rvS_len]) fun i hi => ?_
  rw [zaU, zaU, rvS_len] at hi
  rw [rvS_at xs (k + 1) i hi]
  by_cases c1 : xs.length - 1 - k = i
  · rw [if_pos (by omega), ← c1, getD_set_self _ _ _ _ (by rw [zaU, rvS_len]; omega), show xs.length - 1 - (xs.length - 1 - k) = k by omega]
  · rw [List.getD_eq_getElem?_getD, List.getElem?_set_ne c1, ← List.getD_eq_getElem?_getD]
    by_cases c2 : k = i
    · rw [if_pos (by omega), ← c2, getD_set_self _ _ _ _ (by rw [rvS_len]; omega)]
    · rw [List.getD_eq_getElem?_getD, List.getElem?_set_ne c2, ← List.getD_eq_getElem?_getD, rvS_at xs k i hi]
      by_cases c3 : i < k ∨ xs.length ≤ i + k
      · rw [if_pos c3, if_pos (by omega)]
      · rw [if_neg c3, if_neg (by omega)]
set_option maxHeartbeats 8000000 in
theorem rev_spec (xs : List Str) (hl : xs.length ≤ 1000000) : FnSpec Try.prog 48 [.one (.osl 0 0 xs.length none)] [⟨Strs xs, 1⟩] (.tup []) [some ⟨Strs xs.reverse, 1⟩] := by
  refine fnspec_of mixed TT_ok TT_cl ⟨fun _ => false, fun _ => [], 1, fun _ => false, fun _ => false⟩ Try.func48 rfl (by kernel_rfl) rfl 28 rfl [] rfl ?_
  simp only [go_sem, zaa, zak, zal, zam, zan, zah, ↓reduceIte, reduceCtorEq, zae, zag, zaj, zao, zap]
  repeat' (first
 | with_reducible refine zaz ?_ ?_
 | (intros; omega)
 | (intros; (try simp only [zaA, zaD, zaB, zay, zat, zav, decide_eq_true_eq, decide_eq_false_iff_not] at *); omega))
  refine w_loop (ι := Nat) (fun k => ⟨[(0, .one (.osl 0 0 xs.length none)), (2, i1 k), (3, i1 ((xs.length : Int) - 1 - k))], [(0, some ⟨Strs (rvS xs k), 1⟩)], 1⟩) (fun k => 2 * k ≤ xs.length + 1) (fun k => xs.length - k) 0 ?_ (by omega) ?_
  · rw [rvS_0]
    (refine imp_ren _ _ _ [(0, 0, ⟨Strs xs, 1⟩)] (by simp) (by simp) (by simp) (zaT rfl) ?_ rfl (by simp only [zac, zaf, false_implies, implies_true, and_true, zaL, lookR, zaa, if_true, if_false, ↓reduceIte, Strs_flat] <;> (repeat' apply zaz) <;> (first | rfl | trivial)) (by simp only [zac, zaf, false_implies, implies_true, and_true, true_and, flat_cons, flat_nil, flat_ints, flat_bools, flat_app, zaH, and_self, eq_self_iff_true, zai, Strs_flat]); simp only [zab, zad, zac, zaf, false_implies, implies_true, and_true, lk, slot, zaP, zaC, toN, zaa, if_true, if_false, ↓reduceIte, reduceCtorEq])
    all_goals ((repeat' apply zaz) <;> (first | rfl | trivial | (simp only [Int.natCast_zero, Int.sub_zero]; done) | (simp only [Int.natCast_zero, Int.sub_zero]; rfl) | (simp only [Int.natCast_zero, Int.sub_zero]; trivial)))
  intro k hk
  simp only at hk ⊢
  by_cases c : 2 * k + 1 < xs.length
  case neg =>
    have c2 : ¬ (k : Int) < (xs.length : Int) - 1 - k := by omega
    rw [← rvS_end xs k (by omega)]
    simp only [go_sem, zaa, zak, zal, zam, zan, zah, ↓reduceIte, reduceCtorEq, zae, zag, zaj, zao, zap, decide_eq_false c2]
    repeat' (first
 | (intros; (try simp only [zaA, zaD, zaB, zay, zat, zav, decide_eq_true_eq, decide_eq_false_iff_not] at *); omega))
    (refine fs_flat [(0, ⟨Strs (rvS xs k), 1⟩)] (by simp) (by simp only [zab, zad]; decide) (by simp only [go_sem, resV, resS, zaP, zaJ, zaC, zaX, zaL, idx, renO, zaK, evS, slot, lookR, zaa, ↓reduceIte, reduceCtorEq, if_true, if_false, zaw, zax, zab, zad, sLoad, readAt, readNeed, Ints_ren, Ints_length, Ints_getD, and_true, true_and, zaq, zar]; try decide) ?_ (by simp only [zac, zaf, false_implies, implies_true, and_true, zaL, lookR, zaa, if_true, if_false, ↓reduceIte, Strs_flat] <;> (repeat' apply zaz) <;> (first | rfl | trivial)) (by simp only [zac, zaf, false_implies, implies_true, and_true, true_and, flat_cons, flat_nil, flat_ints, flat_bools, flat_app, zaH, and_self, eq_self_iff_true, zai, Strs_flat]) ?_ <;> (try simp only [go_sem, resV, resS, zaP, zaJ, zaC, zaX, zaL, idx, renO, zaK, evS, slot, lookR, zaa, ↓reduceIte, reduceCtorEq, if_true, if_false, zaw, zax, zab, zad, sLoad, readAt, readNeed, Ints_ren, Ints_length, Ints_getD, and_true, true_and, zaq, zar]) <;> (try rfl))
  have c2 : (k : Int) < (xs.length : Int) - 1 - k := by omega
  obtain ⟨j, hj, hj2⟩ : ∃ j : Nat, (xs.length : Int) - 1 - k = j ∧ j = xs.length - 1 - k := ⟨xs.length - 1 - k, by omega, rfl⟩
  have hst := rvS_step xs k c
  have hrl := rvS_len xs k
  have hrk := rvS_at xs k k (by omega)
  rw [if_neg (by omega)] at hrk
  have hrj := rvS_at xs k j (by omega)
  rw [if_neg (by omega)] at hrj
  rw [← hj2] at hst
  have hj3 : (xs.length : Int) - 1 - ((k + 1 : Nat) : Int) = (j : Int) - 1 := by omega
  rw [hj] at c2
  generalize rvS xs k = R at *
  have hRl := Strs_length R
  have q1 := Strs_getD' R k (.sc (.string (bs []))) (by omega)
  have q2 := Strs_getD' R j (.sc (.string (bs []))) (by omega)
  rw [hrk] at q1
  rw [hrj] at q2
  generalize xs.getD k [] = a at *
  generalize xs.getD j [] = b at *
  simp only [go_sem, zaa, zak, zal, zam, zan, zah, ↓reduceIte, reduceCtorEq, zae, zag, zaj, zao, zap, hj, decide_eq_true c2, q1, q2]
  repeat' (first
 | with_reducible refine zaz ?_ ?_
 | (unfold OKC; kernel_rfl)
 | (unfold EDG; kernel_rfl)
 | (intros; omega)
 | (intros; (try simp only [zaA, zaD, zaB, zay, zat, zav, decide_eq_true_eq, decide_eq_false_iff_not] at *); omega))
  refine le_mk (k + 1) ?_ (by omega) (by omega)
  simp only [hj3, ← hst]
  (refine imp_ren _ _ _ [(0, 0, ⟨Strs ((R.set k b).set j a), 1⟩)] (by simp) (by simp) (by simp) (zaT rfl) ?_ rfl (by simp only [zac, zaf, false_implies, implies_true, and_true, zaL, lookR, zaa, if_true, if_false, ↓reduceIte, Strs_flat] <;> (repeat' apply zaz) <;> (first | rfl | trivial)) (by simp only [zac, zaf, false_implies, implies_true, and_true, true_and, flat_cons, flat_nil, flat_ints, flat_bools, flat_app, zaH, and_self, eq_self_iff_true, zai, Strs_flat]); simp only [zab, zad, zac, zaf, false_implies, implies_true, and_true, lk, slot, zaP, zaC, toN, zaa, if_true, if_false, ↓reduceIte, reduceCtorEq])
  all_goals ((repeat' apply zaz) <;> (first | rfl | trivial | (simp only [zaS]; done) | (simp only [zaS]; rfl) | (simp only [zaS]; trivial)))
set_option maxHeartbeats 8000000 in
theorem tsame_spec (l : List Nd) (n : Int) (k k2 : Option Nat) (hl : l.length ≤ 1000000) : FnSpec Try.prog 32 [trV l k n, trV l k2 n] [] (b1 true) [] := by
  have hnl := nd_len l
  have cn : n = n := rfl
  have cl : (l.length : Int) = l.length := rfl
  refine fnspec_of mixed TT_ok TT_cl ⟨fun _ => false, fun _ => [], 0, fun _ => false, fun _ => false⟩ Try.func32 rfl (by kernel_rfl) rfl 38 rfl [.tmp 4] rfl ?_
  simp only [go_sem, zaa, zak, zal, zam, zan, zah, ↓reduceIte, reduceCtorEq, zae, zag, zaj, zao, zap, decide_eq_true cn, decide_eq_true cl]
  repeat' (first
 | (intros; (try simp only [zaA, zaD, zaB, zay, zat, zav, decide_eq_true_eq, decide_eq_false_iff_not] at *); omega))
  refine w_loop (ι := Nat) (fun m => ⟨[(2, .one (.optr 0 0)), (3, .one (.optr 1 0)), (5, i1 m)], [(0, some ⟨[.gsl (Cs l) 0 l.length k, int n], 2⟩), (1, some ⟨[.gsl (Cs l) 0 l.length k2, int n], 2⟩)], 2⟩) (fun m => m ≤ l.length) (fun m => l.length - m) 0 ?_ (zaZ _) ?_
  · (refine imp_ren _ _ _ [(0, 0, ⟨[.gsl (Cs l) 0 l.length k, int n], 2⟩), (1, 1, ⟨[.gsl (Cs l) 0 l.length k2, int n], 2⟩)] (by simp) (by simp) (by simp) (zaT rfl) ?_ rfl (by simp only [zac, zaf, false_implies, implies_true, and_true, zaL, lookR, zaa, if_true, if_false, ↓reduceIte] <;> (repeat' apply zaz) <;> (first | rfl | trivial)) (by simp only [zac, zaf, false_implies, implies_true, and_true, true_and, flat_cons, flat_nil, flat_ints, flat_bools, flat_app, zaH, and_self, eq_self_iff_true, zai]); simp only [zab, zad, zac, zaf, false_implies, implies_true, and_true, lk, slot, zaP, zaC, toN, zaa, if_true, if_false, ↓reduceIte, reduceCtorEq])
    all_goals ((repeat' apply zaz) <;> (first | rfl | trivial))
  intro m hm
  simp only at hm ⊢
  rcases Nat.lt_or_ge m l.length with hlt | hge
  case inr =>
    have c : ¬ (m : Int) < (l.length : Int) := by omega
    simp only [go_sem, zaa, zak, zal, zam, zan, zah, ↓reduceIte, reduceCtorEq, zae, zag, zaj, zao, zap, decide_eq_false c]
    repeat' (first
 | exact fs_nil trivial rfl
 | fail)
  have c : (m : Int) < (l.length : Int) := by omega
  have hN := nd_td l m hlt
  generalize gN l m = x at *
  obtain ⟨xi, xp, xn, xc, xk, xo⟩ := x
  simp only [ndc] at hN
  have r1 : xi = xi := rfl
  have r2 : xp = xp := rfl
  have r3 : xn = xn := rfl
  have r4 : xc = xc := rfl
  have r5 : xk = xk := rfl
  have r6 : xo = xo := rfl
  simp only [go_sem, zaa, zak, zal, zam, zan, zah, ↓reduceIte, reduceCtorEq, zae, zag, zaj, zao, zap, decide_eq_true c, hN, decide_eq_true r1, decide_eq_true r2, decide_eq_true r3, decide_eq_true r4, decide_eq_true r5, decide_eq_true r6, beq_self_eq_true]
  repeat' (first
 | with_reducible refine zaz ?_ ?_
 | (unfold OKC; kernel_rfl)
 | (unfold EDG; kernel_rfl)
 | (intros; omega)
 | (intros; (try simp only [zaA, zaD, zaB, zay, zat, zav, decide_eq_true_eq, decide_eq_false_iff_not] at *); omega))
  refine le_mk (m + 1) ?_ hlt (by omega)
  (refine imp_ren _ _ _ [(0, 0, ⟨[.gsl (Cs l) 0 l.length k, int n], 2⟩), (1, 1, ⟨[.gsl (Cs l) 0 l.length k2, int n], 2⟩)] (by simp) (by simp) (by simp) (zaT rfl) ?_ rfl (by simp only [zac, zaf, false_implies, implies_true, and_true, zaL, lookR, zaa, if_true, if_false, ↓reduceIte] <;> (repeat' apply zaz) <;> (first | rfl | trivial)) (by simp only [zac, zaf, false_implies, implies_true, and_true, true_and, flat_cons, flat_nil, flat_ints, flat_bools, flat_app, zaH, and_self, eq_self_iff_true, zai]); simp only [zab, zad, zac, zaf, false_implies, implies_true, and_true, lk, slot, zaP, zaC, toN, zaa, if_true, if_false, ↓reduceIte, reduceCtorEq])
  all_goals ((repeat' apply zaz) <;> (first | rfl | trivial | (simp only [zaS]; done) | (simp only [zaS]; rfl) | (simp only [zaS]; trivial)))
def nmA (l : List Nd) (a : Int) : Str := (gN l (bsV Nd.i l a)).nm
def wayN (l : List Nd) (m : Nat) (U : List Int) : List Str := (U.take m).map (nmA l)
def paM (l : List Nd) (n id : Int) : Str × Bool := if hasM l n id = true then ((pJn (wayN l ((upL l id).length - 1) (upL l id)).reverse).1, decide ((pJn (wayN l ((upL l id).length - 1) (upL l id)).reverse).2 = 0)) else ([], false)
theorem wayN_succ (l : List Nd) (m : Nat) (U : List Int) (h : m < U.length) : wayN l (m + 1) U = wayN l m U ++ [nmA l (U.getD m 0)] := by
  unfold wayN
  rw [take_getD U m 0 h, List.map_append]; rfl
theorem wayN_len (l : List Nd) (m : Nat) (U : List Int) (h : m ≤ U.length) : (wayN l m U).length = m := by
  unfold wayN; rw [List.length_map, List.length_take]; omega
set_option maxHeartbeats 16000000 in
theorem tpath_spec (l : List Nd) (n id : Int) (hl : l.length ≤ 1000000) (hnm : NmR l) (hct : CtR l) : FnSpec Try.prog 23 [trV l none n, i1 id] [] (.tup [s1 (paM l n id).1, b1 (paM l n id).2]) [] := by
  have h1 := tanc_spec l n id hl hnm hct
  have hnl := nd_len l
  unfold paM
  cases hh : hasM l n id with
  | false =>
    have e : ancM l n id = [] := by unfold ancM; rw [hh]; rfl
    rw [e] at h1
    rw [if_neg Bool.false_ne_true]
    refine fnspec_of mixed TT_ok TT_cl ⟨fun _ => false, fun _ => [], 0, fun _ => false, fun _ => false⟩ Try.func23 rfl (by kernel_rfl) rfl 57 rfl [.tmp 4, .tmp 5] rfl ?_
    simp only [go_sem, zaa, zak, zal, zam, zan, zah, ↓reduceIte, reduceCtorEq, zae, zag, zaj, zao, zap]
    repeat' (first
 | (apply cl_plain
    case hs => rfl
    case ha => (simp only [zab, zad, prepV, prepC, idx, hpL', lookR, zaa, if_true, if_false]; rfl)
    case h => (first | exact h1 ..))
 | ((first | refine s1_id ?_ | refine swp_id ?_ | refine sops_id ?_ | refine s2_id ?_); simp only [zaI, zaM, zai, zaN, zaO, zaF, zaG, zaE, zaQ, zaR, zas, zau, go_sem, zaa, zak, zal, zam, zan, zah, ↓reduceIte, reduceCtorEq, zae, zag, zaj, zao, zap, zaP, zaJ, zaC, zaK, renO, bk, back, outUpsFrom, Ints_ren])
 | exact fs_nil trivial rfl
 | fail)
  | true =>
  have e : ancM l n id = upL l id := by unfold ancM; rw [hh, if_pos rfl]
  rw [e] at h1
  rw [if_pos rfl]
  obtain ⟨hk, y, hy, hyi⟩ := hasM_iff.1 hh
  obtain ⟨v, hv, hve⟩ := gN_mem l y hy
  have hV := (chkT_iff l n).1 hk
  have hvi : (gN l v).i = id := by rw [hve, hyi]
  have hin : ∀ a ∈ upL l id, bsV Nd.i l a < l.length ∧ bsF Nd.i l a = true := fun a ha => by
    rw [← hvi] at ha
    obtain ⟨t, ht, rfl⟩ := up_le hV v hv a ha
    obtain ⟨q1, q2⟩ := bs_found Nd.i l (fun i j hij hj => hV.asc i j hij hj) t (by omega)
    have q1' : bsV Nd.i l (gN l t).i = t := q1
    exact ⟨by rw [q1']; omega, q2⟩
  have hne : 0 < (upL l id).length := by
    rw [← hvi, upL_node hV.asc hv]; exact Nat.succ_pos _
  have hUl : (upL l id).length ≤ l.length := by have := upR_len l.reverse id; rw [zbd] at this; exact this
  generalize upL l id = U at *
  have cz : ¬ (U.length : Int) = 0 := by omega
  have hU1 : (U.length : Int) - 1 = ((U.length - 1 : Nat) : Int) := by omega
  clear hve hyi hvi hy hv e
  refine fnspec_of mixed TT_ok TT_cl ⟨fun _ => false, fun f => if f = 48 then [0] else [], 0, fun _ => false, fun _ => false⟩ Try.func23 rfl (by kernel_rfl) rfl 57 rfl [.tmp 4, .tmp 5] rfl ?_
  simp only [go_sem, zaa, zak, zal, zam, zan, zah, ↓reduceIte, reduceCtorEq, zae, zag, zaj, zao, zap, decide_eq_false cz, hU1]
  repeat' (first
 | with_reducible refine zaz ?_ ?_
 | (apply cl_plain
    case hs => rfl
    case ha => (simp only [zab, zad, prepV, prepC, idx, hpL', lookR, zaa, if_true, if_false]; rfl)
    case h => (first | exact h1 ..))
 | ((first | refine s1_id ?_ | refine swp_id ?_ | refine sops_id ?_ | refine s2_id ?_); simp only [decide_eq_false cz, hU1, Int.toNat_zero, zbc, Nat.sub_zero, Nat.zero_mul, go_sem, zaa, zak, zal, zam, zan, zah, ↓reduceIte, reduceCtorEq, zae, zag, zaj, zao, zap, zaP, zaJ, zaC, zaK, renO, bk, back, outUpsFrom, Ints_ren])
 | (intros; omega)
 | (intros; (try simp only [zaA, zaD, zaB, zay, zat, zav, decide_eq_true_eq, decide_eq_false_iff_not] at *); omega))
  refine w_loop (ι := Nat) (fun m => ⟨[(2, .one (.optr 0 0)), (7, .one (.osl 1 0 (wayN l m U).length none)), (24, .one (.gsl (Ints U) 0 (U.length - 1) none)), (25, i1 (U.length - 1 : Nat)), (26, i1 m)], [(0, some ⟨[.gsl (Cs l) 0 l.length none, int n], 2⟩), (1, some ⟨Strs (wayN l m U), 1⟩)], 2⟩) (fun m => m ≤ U.length - 1) (fun m => U.length - 1 - m) 0 ?_ (zaZ _) ?_
  · (refine Imp.trans (imp_nilA _ _ 7 1 99 (by simp only []; omega) rfl) ?_)
    (refine imp_ren _ _ _ [(0, 0, ⟨[.gsl (Cs l) 0 l.length none, int n], 2⟩), (1, 99, ⟨[], 1⟩)] (by simp) (by simp) (by simp) (zaT rfl) ?_ rfl (by simp only [zac, zaf, false_implies, implies_true, and_true, zaL, lookR, zaa, if_true, if_false, ↓reduceIte] <;> (repeat' apply zaz) <;> (first | rfl | trivial)) (by simp only [zac, zaf, false_implies, implies_true, and_true, true_and, flat_cons, flat_nil, flat_ints, flat_bools, flat_app, zaH, and_self, eq_self_iff_true, zai]); simp only [zab, zad, zac, zaf, false_implies, implies_true, and_true, lk, slot, zaP, zaC, toN, zaa, if_true, if_false, ↓reduceIte, reduceCtorEq])
    all_goals ((repeat' apply zaz) <;> (first | rfl | trivial))
  clear h1
  intro m hm
  simp only at hm ⊢
  have hwl := wayN_len l m U (by omega)
  rcases Nat.lt_or_ge m (U.length - 1) with hlt | hge
  case inr =>
    have c : ¬ (m : Int) < ((U.length - 1 : Nat) : Int) := by omega
    obtain rfl : m = U.length - 1 := by omega
    have hw : ∀ s ∈ wayN l (U.length - 1) U, s.length ≤ 1000000000 := fun s hs => by
      unfold wayN at hs
      obtain ⟨a, ha, rfl⟩ := List.mem_map.1 hs
      exact hnm.at _ (hin a (List.mem_of_mem_take ha)).1
    generalize wayN l (U.length - 1) U = W at *
    have r1 := rev_spec W (by omega)
    have r2 := join_p W.reverse none (fun s hs => by have := hw s (List.mem_reverse.1 hs); omega) (by rw [zbd]; omega)
    generalize pJn W.reverse = R at *
    obtain ⟨R1, R2⟩ := R
    simp only [rJ] at r2
    have hWr : W.reverse.length = W.length := zbd
    simp only [gs, hWr] at r2
    simp only [go_sem, zaa, zak, zal, zam, zan, zah, ↓reduceIte, reduceCtorEq, zae, zag, zaj, zao, zap, decide_eq_false c]
    repeat' (first
 | (apply cl_lend
    case hr => (simp only [zab, zad, hpL', lookR, zaa, if_true, if_false]; first | exact map1 _ | exact map2 _ _ | exact map3 _ _ _)
    case ha => (simp only [zab, zad, prepV, prepC, idx, hpL', lookR, zaa, if_true, if_false]; rfl)
    case hs => rfl
    case hn => decide
    case h => (first | exact r1 .. | exact r2 ..)
    case hf => (simp only [zac, zaf, false_implies, implies_true, and_true, true_and, flat_cons, flat_nil, flat_ints, flat_bools, flat_app, Strs_flat, zaH, and_self, eq_self_iff_true, zai])
    case hl => (simp only [zas, zau]; decide))
 | (apply cl_show
    case ha => (simp only [zab, zad, prepV, prepC, idx, hpL', lookR, zaa, if_true, if_false]; rfl)
    case hs => ((simp [snaps, SV.refs, zaH, idx, hpL', lookR]) <;> (repeat' apply zaz) <;> (first | exact Ints_isG _ | exact Strs_isG _))
    case h => (first | exact r1 .. | exact r2 ..)
    case hg => ((simp [SV.noG, SV.noGL, Cell.noG]) <;> (repeat' apply zaz) <;> exact Ints_noG _))
 | ((first | refine s1_id ?_ | refine swp_id ?_ | refine sops_id ?_ | refine s2_id ?_); simp only [decide_eq_false c, Strs_ren, go_sem, zaa, zak, zal, zam, zan, zah, ↓reduceIte, reduceCtorEq, zae, zag, zaj, zao, zap, zaP, zaJ, zaC, zaK, renO, bk, back, outUpsFrom, Ints_ren])
 | exact fs_nil trivial rfl
 | fail)
  have c : (m : Int) < ((U.length - 1 : Nat) : Int) := by omega
  have hmem : U.getD m 0 ∈ U := getD_mem U m 0 (by omega)
  obtain ⟨b1', b2'⟩ := hin _ hmem
  have h3 := index_spec l none (U.getD m 0) hl
  rw [b2'] at h3
  have hws := wayN_succ l m U (by omega)
  have hnmA : nmA l (U.getD m 0) = (gN l (bsV Nd.i l (U.getD m 0))).nm := rfl
  rw [hnmA] at hws
  have hU0 : (Ints U).getD m (.sc (.int .i64 0)) = int (U.getD m 0) := Ints_getD U m
  generalize bsV Nd.i l (U.getD m 0) = v at *
  have g3 := (nd_f l v b1' (.sc (.string (bs [])))).2.2.1
  generalize (gN l v).nm = nm at *
  have hUL := Ints_length U
  generalize wayN l m U = W at *
  have htk : List.take W.length (Strs W) = Strs W := zbb (by rw [Strs_length]; exact Nat.le_refl _)
  have hla : (W ++ [nm]).length = W.length + 1 := by simp
  simp only [go_sem, zaa, zak, zal, zam, zan, zah, ↓reduceIte, reduceCtorEq, zae, zag, zaj, zao, zap, decide_eq_true c, g3]
  repeat' (first
 | with_reducible refine zaz ?_ ?_
 | (apply cl_plain
    case hs => rfl
    case ha => (simp only [zab, zad, prepV, prepC, idx, hpL', lookR, zaa, if_true, if_false]; rfl)
    case h => (first | exact h3 ..))
 | ((first | refine s1_id ?_ | refine swp_id ?_ | refine sops_id ?_ | refine s2_id ?_); simp only [decide_eq_true c, g3, htk, Strs_app, zaI, zaM, zai, zaN, zaO, zaF, zaG, zaE, zaQ, zaR, zas, zau, go_sem, zaa, zak, zal, zam, zan, zah, ↓reduceIte, reduceCtorEq, zae, zag, zaj, zao, zap, zaP, zaJ, zaC, zaK, renO, bk, back, outUpsFrom, Ints_ren])
 | (intros; omega)
 | (intros; (try simp only [zaA, zaD, zaB, zay, zat, zav, decide_eq_true_eq, decide_eq_false_iff_not] at *); omega))
  refine le_mk (m + 1) ?_ hlt (by omega)
  simp only [hws, hla]
  (refine imp_ren _ _ _ [(0, 0, ⟨[.gsl (Cs l) 0 l.length none, int n], 2⟩), (1, 23, ⟨Strs (W ++ [nm]), 1⟩)] (by simp) (by simp) (by simp) (zaT rfl) ?_ rfl (by simp only [zac, zaf, false_implies, implies_true, and_true, zaL, lookR, zaa, if_true, if_false, ↓reduceIte, Strs_flat] <;> (repeat' apply zaz) <;> (first | rfl | trivial)) (by simp only [zac, zaf, false_implies, implies_true, and_true, true_and, flat_cons, flat_nil, flat_ints, flat_bools, flat_app, zaH, and_self, eq_self_iff_true, zai, Strs_flat]); simp only [zab, zad, zac, zaf, false_implies, implies_true, and_true, lk, slot, zaP, zaC, toN, zaa, if_true, if_false, ↓reduceIte, reduceCtorEq])
  all_goals ((repeat' apply zaz) <;> (first | rfl | trivial | (simp only [zaS]; done) | (simp only [zaS]; rfl) | (simp only [zaS]; trivial)))
end Go.Proofs.Ytnahpejlhfeleaa
-- NEWGO
-- PRUNE: cl_use
-- ISG: Cs_isG
-- FLAT: Cs_flat
namespace Go.Proofs.Ytnahpejlhfeleaa
set_option linter.unusedVariables false
set_option linter.unusedSimpArgs false
open Go.Proofs.Ytnahpejlhfeleaa.Sh
set_option maxRecDepth 20000
theorem VT.ctR {l : List Nd} {n : Int} (h : VT l n) : CtR l := fun x hx => by
  have := (h.vl.all x hx).2
  unfold rngOk at this
  simp only [zaA, decide_eq_true_eq] at this
  omega
set_option maxHeartbeats 4000000 in
theorem same_spec (a b : List Int) (k k2 : Option Nat) (hl : a.length ≤ 9223372036854775806) : FnSpec Try.prog 26 [gi a k, gi b k2] [] (b1 (decide (a = b))) [] := by
  by_cases hlen : a.length = b.length
  case neg =>
    have c : ¬ (a.length : Int) = (b.length : Int) := by omega
    rw [decide_eq_false (fun e => hlen (by rw [e]))]
    refine fnspec_of mixed TT_ok TT_cl ⟨fun _ => false, fun _ => [], 0, fun _ => false, fun _ => false⟩ Try.func26 rfl (by kernel_rfl) rfl 26 rfl [.tmp 4] rfl ?_
    simp only [go_sem, zaa, zak, zal, zam, zan, zah, ↓reduceIte, reduceCtorEq, zae, zag, zaj, zao, zap, decide_eq_false c]
    repeat' (first
 | exact fs_nil trivial rfl
 | fail)
  have hlen' : (a.length : Int) = (b.length : Int) := by omega
  refine fnspec_of mixed TT_ok TT_cl ⟨fun _ => false, fun _ => [], 0, fun _ => false, fun _ => false⟩ Try.func26 rfl (by kernel_rfl) rfl 26 rfl [.tmp 4] rfl ?_
  simp only [go_sem, zaa, zak, zal, zam, zan, zah, ↓reduceIte, reduceCtorEq, zae, zag, zaj, zao, zap, hlen']
  repeat' (first
 | (intros; (try simp only [zaA, zaD, zaB, zay, zat, zav, decide_eq_true_eq, decide_eq_false_iff_not] at *); omega))
  refine w_loop (ι := Nat) (fun i => ⟨[(0, gi a k), (1, gi b k2), (5, i1 i)], [], 0⟩) (fun i => i ≤ a.length ∧ a.take i = b.take i) (fun i => a.length - i) 0 ?_ ⟨zaZ _, rfl⟩ ?_
  · (refine imp_sub _ _ _ [] (by simp) (by simp) (by simp) (zaZ _) ?_ rfl (by simp); simp only [zac, zaf, false_implies, implies_true, and_true, lk, slot, zaP, zaC, zaa, if_true, if_false, ↓reduceIte, reduceCtorEq])
    all_goals ((repeat' apply zaz) <;> (first | rfl | trivial))
  rintro i ⟨hi, he⟩
  simp only at hi he ⊢
  rcases Nat.lt_or_ge i a.length with hlt | hge
  case inr =>
    have c : ¬ (i : Int) < (a.length : Int) := by omega
    rw [zbb hge, zbb (by omega)] at he
    rw [decide_eq_true he]
    simp only [go_sem, zaa, zak, zal, zam, zan, zah, ↓reduceIte, reduceCtorEq, zae, zag, zaj, zao, zap, decide_eq_false c]
    repeat' (first
 | exact fs_nil trivial rfl
 | fail)
  have c : (i : Int) < (a.length : Int) := by omega
  have ha := take_getD a i 0 hlt
  have hb := take_getD b i 0 (by omega)
  by_cases hx : a.getD i 0 = b.getD i 0
  · have hn : a.take (i + 1) = b.take (i + 1) := by rw [ha, hb, he, hx]
    simp only [go_sem, zaa, zak, zal, zam, zan, zah, ↓reduceIte, reduceCtorEq, zae, zag, zaj, zao, zap, decide_eq_true c, hx]
    repeat' (first
 | with_reducible refine zaz ?_ ?_
 | (unfold OKC; kernel_rfl)
 | (unfold EDG; kernel_rfl)
 | (intros; omega)
 | (intros; (try simp only [zaA, zaD, zaB, zay, zat, zav, decide_eq_true_eq, decide_eq_false_iff_not] at *); omega))
    refine le_mk (i + 1) ?_ ⟨hlt, hn⟩ (by omega)
    (refine imp_sub _ _ _ [] (by simp) (by simp) (by simp) (zaZ _) ?_ rfl (by simp); simp only [zac, zaf, false_implies, implies_true, and_true, lk, slot, zaP, zaC, zaa, if_true, if_false, ↓reduceIte, reduceCtorEq])
    all_goals ((repeat' apply zaz) <;> (first | rfl | trivial | (simp only [zaS]; done) | (simp only [zaS]; rfl) | (simp only [zaS]; trivial)))
  · rw [decide_eq_false (fun e => hx (by rw [e]))]
    simp only [go_sem, zaa, zak, zal, zam, zan, zah, ↓reduceIte, reduceCtorEq, zae, zag, zaj, zao, zap, decide_eq_true c, decide_eq_false hx]
    repeat' (first
 | with_reducible refine zaz ?_ ?_
 | (unfold OKC; kernel_rfl)
 | (unfold EDG; kernel_rfl)
 | (intros; omega)
 | exact fs_nil trivial rfl
 | fail)
theorem sane5_spec : FnSpec Try.prog 8 [] [] (b1 true) [] := by
  have a1 := tadd_spec [⟨1, 0, [], 0, 0, 0⟩] 2 1 [97] (by decide) (fun x hx => by rw [List.mem_singleton.1 hx]; decide) (fun x hx => by rw [List.mem_singleton.1 hx]; decide) (by decide)
  have e1 : addM [⟨1, 0, [], 0, 0, 0⟩] 2 1 [97] = (([⟨1, 0, [], 0, 0, 0⟩, ⟨2, 1, [97], 0, 0, 0⟩], 3), 2, 0) := by kernel_rfl
  rw [e1] at a1
  have a2 := tadd_spec [⟨1, 0, [], 0, 0, 0⟩, ⟨2, 1, [97], 0, 0, 0⟩] 3 2 [98] (by decide) (fun x hx => by simp only [List.mem_cons, zaf, or_false] at hx; rcases hx with rfl | rfl <;> decide) (fun x hx => by simp only [List.mem_cons, zaf, or_false] at hx; rcases hx with rfl | rfl <;> decide) (by decide)
  obtain ⟨T2, hT2⟩ : ∃ T : List Nd, [⟨1, 0, [], 0, 0, 0⟩, ⟨2, 1, [97], 0, 0, 0⟩, ⟨3, 2, [98], 0, 0, 0⟩] = T := ⟨_, rfl⟩
  have e2 : addM [⟨1, 0, [], 0, 0, 0⟩, ⟨2, 1, [97], 0, 0, 0⟩] 3 2 [98] = ((T2, 4), 3, 0) := by rw [← hT2]; kernel_rfl
  rw [e2] at a2
  have nr : NmR T2 := fun x hx => by rw [← hT2] at hx; simp only [List.mem_cons, zaf, or_false] at hx; rcases hx with rfl | rfl | rfl <;> decide
  have cr : CtR T2 := fun x hx => by rw [← hT2] at hx; simp only [List.mem_cons, zaf, or_false] at hx; rcases hx with rfl | rfl | rfl <;> decide
  have a3 := tpath_spec T2 4 3 (by rw [← hT2]; decide) nr cr
  have e3 : paM T2 4 3 = ([47, 97, 47, 98], true) := by rw [← hT2]; kernel_rfl
  rw [e3] at a3
  have a4 := tanc_spec T2 4 3 (by rw [← hT2]; decide) nr cr
  have e4 : ancM T2 4 3 = [3, 2, 1] := by rw [← hT2]; kernel_rfl
  rw [e4] at a4
  have a5 := same_spec [3, 2, 1] [3, 2, 1] none (some 3) (by decide)
  rw [decide_eq_true rfl] at a5
  simp only [adV] at a1 a2
  obtain ⟨T1, hT1⟩ : ∃ T : List Nd, [⟨1, 0, [], 0, 0, 0⟩, ⟨2, 1, [97], 0, 0, 0⟩] = T := ⟨_, rfl⟩
  rw [hT1] at a1 a2
  clear hT1 hT2 nr cr e1 e2 e3 e4
  refine fnspec_of mixed TT_ok TT_cl ⟨fun _ => false, fun _ => [], 0 , fun i => if i = 41 then true else false, fun _ => false⟩ Try.func8 rfl (by kernel_rfl) rfl 48 rfl [.tmp 0] rfl ?_
  simp only [go_sem, zaa, zak, zal, zam, zan, zah, ↓reduceIte, reduceCtorEq, zae, zag, zaj, zao, zap]
  repeat' (first
 | (apply cl_plain
    case hs => rfl
    case ha => (simp only [zab, zad, prepV, prepC, idx, hpL', lookR, zaa, if_true, if_false]; rfl)
    case h => (first | exact tnew_spec .. | exact a1 .. | exact a2 .. | exact a3 .. | exact a4 .. | exact a5 ..))
 | (apply cl_show
    case ha => (simp only [zab, zad, prepV, prepC, idx, hpL', lookR, zaa, if_true, if_false]; rfl)
    case hs => ((simp [snaps, SV.refs, zaH, idx, hpL', lookR]) <;> (repeat' apply zaz) <;> (first | exact Ints_isG _ | exact Cs_isG _))
    case h => (first | exact tnew_spec .. | exact a1 .. | exact a2 .. | exact a3 .. | exact a4 .. | exact a5 ..)
    case hg => ((simp [SV.noG, SV.noGL, Cell.noG]) <;> (repeat' apply zaz) <;> exact Ints_noG _))
 | ((first | refine s1_id ?_ | refine swp_id ?_ | refine sops_id ?_ | refine s2_id ?_); simp only [zaI, zaM, zai, zaN, zaO, zaF, zaG, zaE, zaQ, zaR, zas, zau, go_sem, zaa, zak, zal, zam, zan, zah, ↓reduceIte, reduceCtorEq, zae, zag, zaj, zao, zap, zaP, zaJ, zaC, zaK, renO, bk, back, outUpsFrom, Ints_ren])
 | exact fs_nil trivial rfl
 | fail)
def wn (i : Nat) : Str := [97, (97 + i / 26).toUInt8, (97 + i % 26).toUInt8]
theorem wn_inj : ∀ j, j < 64 → ∀ k, k < 64 → wn j = wn k → j = k := by decide +kernel
theorem wn_ok : ∀ j, j < 64 → nmOk (wn j) = true := by decide +kernel
structure WI (l : List Nd) (m : Nat) : Prop where
  v : VL l ((m : Int) + 2)
  len : l.length = m + 1
  nm : ∀ y ∈ l, y.nm = [] ∨ ∃ j, 1 ≤ j ∧ j ≤ m ∧ y.nm = wn j
theorem WI.nr {l : List Nd} {m : Nat} (h : WI l m) : NmR l := fun x hx => by
  rcases h.nm x hx with e | ⟨j, _, _, e⟩
  · rw [e]; decide
  · rw [e]; show 3 ≤ _; decide
theorem WI.add {l : List Nd} {m : Nat} (h : WI l m) (hm : m < 63) : addM l ((m : Int) + 2) 1 (wn (m + 1)) = ((l ++ [newN ((m : Int) + 2) 1 (wn (m + 1))], (m : Int) + 2 + 1), (m : Int) + 2, 0) ∧ WI (l ++ [newN ((m : Int) + 2) 1 (wn (m + 1))]) (m + 1) := by
  have hV := h.v.vt
  have hlen := h.len
  have hroot := hV.root
  have hok := wn_ok (m + 1) (by omega)
  have hex : ∃ y ∈ l, y.i = 1 := ⟨gN l 0, getD_mem l 0 zn (by omega), hroot.1⟩
  have hup : upL l 1 = [1] := hV.up0
  have hh : hasM l ((m : Int) + 2) 1 = true := hasM_iff.2 ⟨(chkT_iff _ _).2 hV, hex⟩
  have hno : ∀ y ∈ l, ¬ (y.p = 1 ∧ y.nm = wn (m + 1)) := fun y hy ⟨_, e⟩ => by
    rcases h.nm y hy with e2 | ⟨j, h1, h2, e2⟩
    · rw [e2] at e; cases e
    · rw [e2] at e
      have := wn_inj j (by omega) (m + 1) (by omega) e
      omega
  constructor
  · unfold addM
    have ha : l.any (same1 1 (wn (m + 1))) = false := List.any_eq_false.2 fun y hy hs => by
      unfold same1 at hs
      rw [zaA, decide_eq_true_eq, decide_eq_true_eq] at hs
      exact hno y hy hs
    rw [(chkT_iff _ _).2 hV, hok, hh, ha, if_neg (by decide), if_neg (by decide), if_neg (by decide), if_neg]
    unfold ancM
    rw [hh, if_pos rfl, hup]
    simp only [List.length_singleton]
    omega
  · have hv := VL.add h.v (p := 1) (s := wn (m + 1)) hok hex hno (by rw [hup]; decide) (by omega) (by omega)
    refine ⟨?_, by rw [List.length_append, hlen]; rfl, fun y hy => ?_⟩
    · have e : ((m + 1 : Nat) : Int) + 2 = (m : Int) + 2 + 1 := by omega
      rw [e]; exact hv
    · rw [List.mem_append, List.mem_singleton] at hy
      rcases hy with hy | rfl
      · rcases h.nm y hy with e | ⟨j, h1, h2, e⟩
        · exact Or.inl e
        · exact Or.inr ⟨j, h1, by omega, e⟩
      · exact Or.inr ⟨m + 1, by omega, Nat.le_refl _, rfl⟩
structure OkT (x : List Nd × Int) : Prop where
  ne : 1 ≤ x.1.length
  le : x.1.length ≤ 64
  nr : NmR x.1
  ct : CtR x.1
end Go.Proofs.Ytnahpejlhfeleaa
-- NEWGO
-- PRUNE: cl_lendx cl_use
-- ISG: Cs_isG
-- FLAT: Cs_flat
namespace Go.Proofs.Ytnahpejlhfeleaa
set_option linter.unusedVariables false
set_option linter.unusedSimpArgs false
open Go.Proofs.Ytnahpejlhfeleaa.Sh
set_option maxRecDepth 20000
def lendD : FuncId → List Nat := fun f => if f = 12 then [0] else if f = 41 then [0] else []
def dgV (L : List Int) (l : List Nd) (j : Nat) : Int := if nxV L j 15 = 14 then nxV L (nxA L j 15) 9 - 1 else (gN l (nxV L (nxA L j 15) l.length).toNat).i
def dgA (L : List Int) (l : List Nd) (j : Nat) : Nat := if nxV L j 15 = 14 then nxA L (nxA L j 15) 9 else nxA L (nxA L j 15) l.length
set_option maxHeartbeats 8000000 in
theorem dgroup_spec (L : List Int) (hl : L.length ≤ 600) (hr : ∀ x ∈ L, -9223372036854775808 ≤ x ∧ x ≤ 9223372036854775807) (j : Nat) (l : List Nd) (n : Int) (h1 : 1 ≤ l.length) (hll : l.length ≤ 64) :
    FnSpec Try.prog 14 [dp, trV l none n] [dice L j] (i1 (dgV L l j)) [some (dice L (dgA L l j))] := by
  have hnl := nd_len l
  have n1 := bool_spec L j 15 hl hr (by decide)
  unfold dgV dgA
  generalize nxA L j 15 = j2 at *
  have c0 : ¬ (l.length : Int) = 0 := by omega
  by_cases hb : nxV L j 15 = 14
  · rw [decide_eq_true (by omega : nxV L j 15 = 15 - 1)] at n1
    have n2 := next_spec L j2 9 hl hr (by decide)
    have r2 := nx_rng L j2 9 (by decide)
    rw [if_pos hb, if_pos hb]
    generalize nxV L j2 9 = v at *
    refine fnspec_of mixed TT_ok TT_cl ⟨fun _ => false, lendD, 1, fun _ => false, fun _ => false⟩ Try.func14 rfl (by kernel_rfl) rfl 26 rfl [.tmp 4] rfl ?_
    simp only [go_sem, zaa, zak, zal, zam, zan, zah, ↓reduceIte, reduceCtorEq, zae, zag, zaj, zao, zap, lendD]
    repeat' (first
 | with_reducible refine zaz ?_ ?_
 | (apply cl_lend
    case hr => (simp only [zab, zad, hpL', lookR, zaa, if_true, if_false]; first | exact map1 _ | exact map2 _ _ | exact map3 _ _ _)
    case ha => (simp only [zab, zad, prepV, prepC, idx, hpL', lookR, zaa, if_true, if_false]; rfl)
    case hs => rfl
    case hn => decide
    case h => (first | exact n1 .. | exact n2 ..)
    case hf => (simp only [zac, zaf, false_implies, implies_true, and_true, true_and, flat_cons, flat_nil, flat_ints, flat_bools, flat_app, Cs_flat, zaH, and_self, eq_self_iff_true, zai])
    case hl => (simp only [zas, zau]; decide))
 | ((first | refine s1_id ?_ | refine swp_id ?_ | refine sops_id ?_ | refine s2_id ?_); simp only [lendD, dice, go_sem, zaa, zak, zal, zam, zan, zah, ↓reduceIte, reduceCtorEq, zae, zag, zaj, zao, zap, zaP, zaJ, zaC, zaK, renO, bk, back, outUpsFrom, Ints_ren])
 | (intros; omega)
 | (intros; (try simp only [zaA, zaD, zaB, zay, zat, zav, decide_eq_true_eq, decide_eq_false_iff_not] at *); omega))
    (refine fs_flat [(0, dice L (nxA L j2 9))] (by simp) (by simp only [zab, zad]; decide) (by simp only [go_sem, resV, resS, zaP, zaJ, zaC, zaX, zaL, idx, renO, zaK, evS, slot, lookR, zaa, ↓reduceIte, reduceCtorEq, if_true, if_false, zaw, zax, zab, zad, sLoad, readAt, readNeed, Ints_ren, Ints_length, Ints_getD, and_true, true_and, zaq, zar]; try decide) ?_ (by simp only [zac, zaf, false_implies, implies_true, and_true, zaL, lookR, zaa, if_true, if_false, ↓reduceIte, dice] <;> (repeat' apply zaz) <;> (first | rfl | trivial)) (by simp only [zac, zaf, false_implies, implies_true, and_true, true_and, flat_cons, flat_nil, flat_ints, flat_bools, flat_app, zaH, and_self, eq_self_iff_true, zai, dice]) ?_ <;> (try simp only [go_sem, resV, resS, zaP, zaJ, zaC, zaX, zaL, idx, renO, zaK, evS, slot, lookR, zaa, ↓reduceIte, reduceCtorEq, if_true, if_false, zaw, zax, zab, zad, sLoad, readAt, readNeed, Ints_ren, Ints_length, Ints_getD, and_true, true_and, zaq, zar]) <;> (try rfl))
  · rw [decide_eq_false (by omega : ¬ nxV L j 15 = 15 - 1)] at n1
    have n2 := next_spec L j2 l.length hl hr (by omega)
    have r2 := nx_rng L j2 l.length (by omega)
    obtain ⟨v, hv⟩ : ∃ v : Nat, nxV L j2 l.length = v := ⟨(nxV L j2 l.length).toNat, by omega⟩
    rw [hv] at n2 r2 ⊢
    obtain ⟨g1, _⟩ := nd_f l v (by omega) (.sc (.int .i64 0))
    rw [if_neg hb, if_neg hb]
    rw [zbc]
    refine fnspec_of mixed TT_ok TT_cl ⟨fun _ => false, lendD, 1, fun _ => false, fun _ => false⟩ Try.func14 rfl (by kernel_rfl) rfl 26 rfl [.tmp 4] rfl ?_
    simp only [go_sem, zaa, zak, zal, zam, zan, zah, ↓reduceIte, reduceCtorEq, zae, zag, zaj, zao, zap, lendD, decide_eq_false c0, g1]
    repeat' (first
 | with_reducible refine zaz ?_ ?_
 | (unfold OKC; kernel_rfl)
 | (unfold EDG; kernel_rfl)
 | (apply cl_lend
    case hr => (simp only [zab, zad, hpL', lookR, zaa, if_true, if_false]; first | exact map1 _ | exact map2 _ _ | exact map3 _ _ _)
    case ha => (simp only [zab, zad, prepV, prepC, idx, hpL', lookR, zaa, if_true, if_false]; rfl)
    case hs => rfl
    case hn => decide
    case h => (first | exact n1 .. | exact n2 ..)
    case hf => (simp only [zac, zaf, false_implies, implies_true, and_true, true_and, flat_cons, flat_nil, flat_ints, flat_bools, flat_app, Cs_flat, zaH, and_self, eq_self_iff_true, zai])
    case hl => (simp only [zas, zau]; decide))
 | ((first | refine s1_id ?_ | refine swp_id ?_ | refine sops_id ?_ | refine s2_id ?_); simp only [lendD, dice, decide_eq_false c0, g1, zbc, go_sem, zaa, zak, zal, zam, zan, zah, ↓reduceIte, reduceCtorEq, zae, zag, zaj, zao, zap, zaP, zaJ, zaC, zaK, renO, bk, back, outUpsFrom, Ints_ren])
 | (intros; omega)
 | (intros; (try simp only [zaA, zaD, zaB, zay, zat, zav, decide_eq_true_eq, decide_eq_false_iff_not] at *); omega))
    (refine fs_flat [(0, dice L (nxA L j2 l.length))] (by simp) (by simp only [zab, zad]; decide) (by simp only [go_sem, resV, resS, zaP, zaJ, zaC, zaX, zaL, idx, renO, zaK, evS, slot, lookR, zaa, ↓reduceIte, reduceCtorEq, if_true, if_false, zaw, zax, zab, zad, sLoad, readAt, readNeed, Ints_ren, Ints_length, Ints_getD, and_true, true_and, zaq, zar]; try decide) ?_ (by simp only [zac, zaf, false_implies, implies_true, and_true, zaL, lookR, zaa, if_true, if_false, ↓reduceIte, dice] <;> (repeat' apply zaz) <;> (first | rfl | trivial)) (by simp only [zac, zaf, false_implies, implies_true, and_true, true_and, flat_cons, flat_nil, flat_ints, flat_bools, flat_app, zaH, and_self, eq_self_iff_true, zai, dice]) ?_ <;> (try simp only [go_sem, resV, resS, zaP, zaJ, zaC, zaX, zaL, idx, renO, zaK, evS, slot, lookR, zaa, ↓reduceIte, reduceCtorEq, if_true, if_false, zaw, zax, zab, zad, sLoad, readAt, readNeed, Ints_ren, Ints_length, Ints_getD, and_true, true_and, zaq, zar]) <;> (try rfl))
end Go.Proofs.Ytnahpejlhfeleaa
-- NEWGO
-- PRUNE: cl_lendx cl_use
-- ISG: Cs_isG
-- FLAT: Cs_flat
namespace Go.Proofs.Ytnahpejlhfeleaa
set_option linter.unusedVariables false
set_option linter.unusedSimpArgs false
open Go.Proofs.Ytnahpejlhfeleaa.Sh
set_option maxRecDepth 20000
end Go.Proofs.Ytnahpejlhfeleaa
-- NEWGO
-- PRUNE: cl_lendx cl_use
-- ISG: Cs_isG
-- FLAT: Cs_flat
namespace Go.Proofs.Ytnahpejlhfeleaa
set_option linter.unusedVariables false
set_option linter.unusedSimpArgs false
open Go.Proofs.Ytnahpejlhfeleaa.Sh
set_option maxRecDepth 20000
def ctV (D : List Int) (j : Nat) : Int := [1, 9, 31, 2, 25, 4, 0, 32, -1].getD (nxV D j 9).toNat 0
def usV (D : List Int) (j : Nat) : Int := [0, 1, 2, 1, 7, -1, 1048576, 1048577].getD (nxV D j 8).toNat 0
theorem ctV_rng (D : List Int) (j : Nat) : -1 ≤ ctV D j ∧ ctV D j ≤ 32 := by
  unfold ctV
  have := nx_rng D j 9 (by decide)
  generalize nxV D j 9 = a at *
  obtain ⟨k, rfl⟩ : ∃ k : Nat, a = k := ⟨a.toNat, by omega⟩
  rw [zbc]
  rcases k with _ | _ | _ | _ | _ | _ | _ | _ | _ | k <;> simp only [zaq, zar] <;> omega
theorem ctl_spec (D : List Int) (j : Nat) (hl : D.length ≤ 600) (hr : ∀ x ∈ D, -9223372036854775808 ≤ x ∧ x ≤ 9223372036854775807) : FnSpec Try.prog 71 [dp] [dice D j] (i1 (ctV D j)) [some (dice D (nxA D j 9))] := by
  have h2 := nx_rng D j 9 (by omega)
  refine fnspec_of mixed TT_ok TT_cl ⟨fun _ => false, fun f => if f = 12 then [0] else [], 1, fun _ => false, fun _ => false⟩ Try.func71 rfl (by kernel_rfl) rfl 8 rfl [.tmp 2] rfl ?_
  simp only [go_sem, zaa, zak, zal, zam, zan, zah, ↓reduceIte, reduceCtorEq, zae, zag, zaj, zao, zap]
  repeat' (first
 | with_reducible refine zaz ?_ ?_
 | (apply cl_lend
    case hr => (simp only [zab, zad, hpL', lookR, zaa, if_true, if_false]; first | exact map1 _ | exact map2 _ _ | exact map3 _ _ _)
    case ha => (simp only [zab, zad, prepV, prepC, idx, hpL', lookR, zaa, if_true, if_false]; rfl)
    case hs => rfl
    case hn => decide
    case h => (first | exact next_spec _ _ _ hl hr (by omega))
    case hf => (simp only [zac, zaf, false_implies, implies_true, and_true, true_and, flat_cons, flat_nil, flat_ints, flat_bools, flat_app, Cs_flat, zaH, and_self, eq_self_iff_true, zai])
    case hl => (simp only [zas, zau]; decide))
 | ((first | refine s1_id ?_ | refine swp_id ?_ | refine sops_id ?_ | refine s2_id ?_); simp only [go_sem, zaa, zak, zal, zam, zan, zah, ↓reduceIte, reduceCtorEq, zae, zag, zaj, zao, zap, zaP, zaJ, zaC, zaK, renO, bk, back, outUpsFrom, Ints_ren])
 | (intros; omega)
 | (intros; (try simp only [zaA, zaD, zaB, zay, zat, zav, decide_eq_true_eq, decide_eq_false_iff_not] at *); omega))
  (refine fs_flat [(0, dice D (nxA D j 9))] (by simp) (by simp only [zab, zad]; decide) (by simp only [go_sem, resV, resS, zaP, zaJ, zaC, zaX, zaL, idx, renO, zaK, evS, slot, lookR, zaa, ↓reduceIte, reduceCtorEq, if_true, if_false, zaw, zax, zab, zad, sLoad, readAt, readNeed, Ints_ren, Ints_length, Ints_getD, and_true, true_and, zaq, zar]; try decide) ?_ (by simp only [zac, zaf, false_implies, implies_true, and_true, zaL, lookR, zaa, if_true, if_false, ↓reduceIte, dice] <;> (repeat' apply zaz) <;> (first | rfl | trivial)) (by simp only [zac, zaf, false_implies, implies_true, and_true, true_and, flat_cons, flat_nil, flat_ints, flat_bools, flat_app, zaH, and_self, eq_self_iff_true, zai, dice]) ?_ <;> (try simp only [go_sem, resV, resS, zaP, zaJ, zaC, zaX, zaL, idx, renO, zaK, evS, slot, lookR, zaa, ↓reduceIte, reduceCtorEq, if_true, if_false, zaw, zax, zab, zad, sLoad, readAt, readNeed, Ints_ren, Ints_length, Ints_getD, and_true, true_and, zaq, zar]) <;> (try rfl))
theorem usr_spec (D : List Int) (j : Nat) (hl : D.length ≤ 600) (hr : ∀ x ∈ D, -9223372036854775808 ≤ x ∧ x ≤ 9223372036854775807) : FnSpec Try.prog 72 [dp] [dice D j] (i1 (usV D j)) [some (dice D (nxA D j 8))] := by
  have h2 := nx_rng D j 8 (by omega)
  refine fnspec_of mixed TT_ok TT_cl ⟨fun _ => false, fun f => if f = 12 then [0] else [], 1, fun _ => false, fun _ => false⟩ Try.func72 rfl (by kernel_rfl) rfl 8 rfl [.tmp 2] rfl ?_
  simp only [go_sem, zaa, zak, zal, zam, zan, zah, ↓reduceIte, reduceCtorEq, zae, zag, zaj, zao, zap]
  repeat' (first
 | with_reducible refine zaz ?_ ?_
 | (apply cl_lend
    case hr => (simp only [zab, zad, hpL', lookR, zaa, if_true, if_false]; first | exact map1 _ | exact map2 _ _ | exact map3 _ _ _)
    case ha => (simp only [zab, zad, prepV, prepC, idx, hpL', lookR, zaa, if_true, if_false]; rfl)
    case hs => rfl
    case hn => decide
    case h => (first | exact next_spec _ _ _ hl hr (by omega))
    case hf => (simp only [zac, zaf, false_implies, implies_true, and_true, true_and, flat_cons, flat_nil, flat_ints, flat_bools, flat_app, Cs_flat, zaH, and_self, eq_self_iff_true, zai])
    case hl => (simp only [zas, zau]; decide))
 | ((first | refine s1_id ?_ | refine swp_id ?_ | refine sops_id ?_ | refine s2_id ?_); simp only [go_sem, zaa, zak, zal, zam, zan, zah, ↓reduceIte, reduceCtorEq, zae, zag, zaj, zao, zap, zaP, zaJ, zaC, zaK, renO, bk, back, outUpsFrom, Ints_ren])
 | (intros; omega)
 | (intros; (try simp only [zaA, zaD, zaB, zay, zat, zav, decide_eq_true_eq, decide_eq_false_iff_not] at *); omega))
  (refine fs_flat [(0, dice D (nxA D j 8))] (by simp) (by simp only [zab, zad]; decide) (by simp only [go_sem, resV, resS, zaP, zaJ, zaC, zaX, zaL, idx, renO, zaK, evS, slot, lookR, zaa, ↓reduceIte, reduceCtorEq, if_true, if_false, zaw, zax, zab, zad, sLoad, readAt, readNeed, Ints_ren, Ints_length, Ints_getD, and_true, true_and, zaq, zar]; try decide) ?_ (by simp only [zac, zaf, false_implies, implies_true, and_true, zaL, lookR, zaa, if_true, if_false, ↓reduceIte, dice] <;> (repeat' apply zaz) <;> (first | rfl | trivial)) (by simp only [zac, zaf, false_implies, implies_true, and_true, true_and, flat_cons, flat_nil, flat_ints, flat_bools, flat_app, zaH, and_self, eq_self_iff_true, zai, dice]) ?_ <;> (try simp only [go_sem, resV, resS, zaP, zaJ, zaC, zaX, zaL, idx, renO, zaK, evS, slot, lookR, zaa, ↓reduceIte, reduceCtorEq, if_true, if_false, zaw, zax, zab, zad, sLoad, readAt, readNeed, Ints_ren, Ints_length, Ints_getD, and_true, true_and, zaq, zar]) <;> (try rfl))
theorem hword_spec (l : List Int) (i : Nat) (hl : l.length ≤ 600) (hr : ∀ x ∈ l, -9223372036854775808 ≤ x ∧ x ≤ 9223372036854775807) : FnSpec Try.prog 29 [dp] [dice l i] (s1 (wdV l i)) [some (dice l (nxA l i 12))] := by
  have h1 := next_spec l i 12 hl hr (by omega)
  have h2 := nx_rng l i 12 (by omega)
  have hat := Strs_getD' wdL (nxV l i 12).toNat (.sc (.string (bs []))) (by show _ < 12; omega)
  simp only [Strs, wdL, zab, zad, zae] at hat
  unfold wdV wdL
  generalize nxV l i 12 = x at *
  generalize nxA l i 12 = j at *
  refine fnspec_of mixed TT_ok TT_cl ⟨fun _ => false, fun f => if f = 12 then [0] else [], 1, fun _ => false, fun _ => false⟩ Try.func29 rfl (by kernel_rfl) rfl 8 rfl [.tmp 2] rfl ?_
  simp only [go_sem, zaa, zak, zal, zam, zan, zah, ↓reduceIte, reduceCtorEq, zae, zag, zaj, zao, zap]
  repeat' (first
 | with_reducible refine zaz ?_ ?_
 | (apply cl_lend
    case hr => (simp only [zab, zad, hpL', lookR, zaa, if_true, if_false]; first | exact map1 _ | exact map2 _ _ | exact map3 _ _ _)
    case ha => (simp only [zab, zad, prepV, prepC, idx, hpL', lookR, zaa, if_true, if_false]; rfl)
    case hs => rfl
    case hn => decide
    case h => (first | exact h1 ..)
    case hf => (simp only [zac, zaf, false_implies, implies_true, and_true, true_and, flat_cons, flat_nil, flat_ints, flat_bools, flat_app, Cs_flat, zaH, and_self, eq_self_iff_true, zai])
    case hl => (simp only [zas, zau]; decide))
 | ((first | refine s1_id ?_ | refine swp_id ?_ | refine sops_id ?_ | refine s2_id ?_); simp only [hat, dice, zae, go_sem, zaa, zak, zal, zam, zan, zah, ↓reduceIte, reduceCtorEq, zae, zag, zaj, zao, zap, zaP, zaJ, zaC, zaK, renO, bk, back, outUpsFrom, Ints_ren])
 | (intros; omega)
 | fail)
  (refine fs_flat [(0, dice l j)] (by simp) (by simp only [zab, zad]; decide) (by simp only [go_sem, resV, resS, zaP, zaJ, zaC, zaX, zaL, idx, renO, zaK, evS, slot, lookR, zaa, ↓reduceIte, reduceCtorEq, if_true, if_false, zaw, zax, zab, zad, sLoad, readAt, readNeed, Ints_ren, Ints_length, Ints_getD, and_true, true_and, zaq, zar]; try decide) ?_ (by simp only [zac, zaf, false_implies, implies_true, and_true, zaL, lookR, zaa, if_true, if_false, ↓reduceIte] <;> (repeat' apply zaz) <;> (first | rfl | trivial)) (by simp only [zac, zaf, false_implies, implies_true, and_true, true_and, flat_cons, flat_nil, flat_ints, flat_bools, flat_app, zaH, and_self, eq_self_iff_true, zai]) ?_ <;> (try simp only [go_sem, resV, resS, zaP, zaJ, zaC, zaX, zaL, idx, renO, zaK, evS, slot, lookR, zaa, ↓reduceIte, reduceCtorEq, if_true, if_false, zaw, zax, zab, zad, sLoad, readAt, readNeed, Ints_ren, Ints_length, Ints_getD, and_true, true_and, zaq, zar]) <;> (try rfl))
theorem hcopy_spec (l : List Nd) (k : Option Nat) (n h : Int) (h1 : 1 ≤ l.length) (hl : l.length ≤ 1000000) : FnSpec Try.prog 70 [.agg [.gsl (Cs l) 0 l.length k, int n, .sc (.slice none 0 0), int h]] [] (.agg [.osl 0 0 l.length none, int n, .osl 1 0 0 none, int h]) [some ⟨Cs l, 6⟩, some ⟨[], 4⟩] := by
  have c1 := trcopy_spec l k n h1 hl
  refine fnspec_of mixed TT_ok TT_cl ⟨fun _ => false, fun _ => [], 0, fun _ => false, fun _ => false⟩ Try.func70 rfl (by kernel_rfl) rfl 12 rfl [.cell 2 76] rfl ?_
  simp only [go_sem, zaa, zak, zal, zam, zan, zah, ↓reduceIte, reduceCtorEq, zae, zag, zaj, zao, zap]
  repeat' (first
 | with_reducible refine zaz ?_ ?_
 | (unfold OKC; kernel_rfl)
 | (unfold EDG; kernel_rfl)
 | (apply cl_plain
    case hs => rfl
    case ha => (simp only [zab, zad, prepV, prepC, idx, hpL', lookR, zaa, if_true, if_false]; rfl)
    case h => (first | exact c1 ..))
 | ((first | refine s1_id ?_ | refine swp_id ?_ | refine sops_id ?_ | refine s2_id ?_); simp only [zaI, zaM, zai, zaN, zaO, zaF, zaG, zaE, zaQ, zaR, zas, zau, go_sem, zaa, zak, zal, zam, zan, zah, ↓reduceIte, reduceCtorEq, zae, zag, zaj, zao, zap, zaP, zaJ, zaC, zaK, renO, bk, back, outUpsFrom, Ints_ren])
 | (intros; (try simp only [zaA, zaD, zaB, zay, zat, zav, decide_eq_true_eq, decide_eq_false_iff_not] at *); omega))
  (refine fs_flat [(4, ⟨Cs l, 6⟩), (7, ⟨[], 4⟩)] (by simp) (by simp only [zab, zad]; decide) (by simp only [go_sem, resV, resS, zaP, zaJ, zaC, zaX, zaL, idx, renO, zaK, evS, slot, lookR, zaa, ↓reduceIte, reduceCtorEq, if_true, if_false, zaw, zax, zab, zad, sLoad, readAt, readNeed, Ints_ren, Ints_length, Ints_getD, and_true, true_and, zaq, zar]; try decide) ?_ (by simp only [zac, zaf, false_implies, implies_true, and_true, zaL, lookR, zaa, if_true, if_false, ↓reduceIte, Cs_flat] <;> (repeat' apply zaz) <;> (first | rfl | trivial)) (by simp only [zac, zaf, false_implies, implies_true, and_true, true_and, flat_cons, flat_nil, flat_ints, flat_bools, flat_app, zaH, and_self, eq_self_iff_true, zai, Cs_flat]) ?_ <;> (try simp only [go_sem, resV, resS, zaP, zaJ, zaC, zaX, zaL, idx, renO, zaK, evS, slot, lookR, zaa, ↓reduceIte, reduceCtorEq, if_true, if_false, zaw, zax, zab, zad, sLoad, readAt, readNeed, Ints_ren, Ints_length, Ints_getD, and_true, true_and, zaq, zar]) <;> (try rfl))
def ohK (D : List Int) (j : Nat) (l : List Nd) (n : Int) (t : Nat) (v : Int) : ((List Nd × Int) × Int) × Nat :=
  if v = 0 then (((l.set t { gN l t with i := nxV D j 9 }, n), 0), nxA D j 9)
  else if v = 1 then (((l.set t { gN l t with p := nxV D j 9 }, n), 0), nxA D j 9)
  else if v = 2 then (((l.set t { gN l t with nm := wdV D j }, n), 0), nxA D j 12)
  else if v = 3 then (((l.set t { gN l t with c := ctV D j }, n), 0), nxA D j 9)
  else if v = 4 then (((l.set t { gN l t with k := nxV D j 4 - 1 }, n), 0), nxA D j 4)
  else if v = 5 then (((l.set t { gN l t with o := usV D j }, n), 0), nxA D j 8)
  else if v = 6 then (((l, nxV D j 9), 0), nxA D j 9)
  else if v = 7 then (((l, n), nxV D j 9), nxA D j 9)
  else if v = 8 then (((l ++ [gN l t], n), 0), j)
  else (((l, n), 0), j)
def ohM (D : List Int) (j : Nat) (l : List Nd) (n : Int) : ((List Nd × Int) × Int) × Nat :=
  ohK D (nxA D (nxA D j l.length) 12) l n (nxV D j l.length).toNat (nxV D (nxA D j l.length) 12)
theorem oh_len (D : List Int) (j : Nat) (l : List Nd) (n : Int) : l.length ≤ (ohM D j l n).1.1.1.length ∧ (ohM D j l n).1.1.1.length ≤ l.length + 1 := by
  unfold ohM ohK
  repeat' split
  all_goals simp only [zaU, List.length_append, List.length_singleton] <;> omega
def lendH : FuncId → List Nat := fun f => if f = 12 then [0] else if f = 29 then [0] else if f = 71 then [0] else if f = 72 then [0] else []
theorem nd_setf (l : List Nd) (t o : Nat) (v : Nd) (c : Cell) (ht : t < l.length) (ho : o < 6) (h : ndc v = (ndc (gN l t)).set o c) : (Cs l).set (t * 6 + o) c = Cs (l.set t v) := Cs_setf l t o v c ht ho h
set_option maxHeartbeats 32000000 in
theorem oddh_spec (D : List Int) (hl : D.length ≤ 600) (hr : ∀ x ∈ D, -9223372036854775808 ≤ x ∧ x ≤ 9223372036854775807) (j : Nat) (l : List Nd) (n : Int) (h1 : 1 ≤ l.length) (hL : l.length ≤ 1000) : FnSpec Try.prog 52 [dp, .agg [.gsl (Cs l) 0 l.length none, int n, .sc (.slice none 0 0), int 0]] [dice D j] (.agg [.gsl (Cs (ohM D j l n).1.1.1) 0 (ohM D j l n).1.1.1.length none, int (ohM D j l n).1.1.2, .gsl [] 0 0 none, int (ohM D j l n).1.2]) [some (dice D (ohM D j l n).2)] := by
  have c1 := hcopy_spec l none n 0 h1 (by omega)
  have n1 := next_spec D j l.length hl hr (by omega)
  have r1 := nx_rng D j l.length (by omega)
  unfold ohM
  obtain ⟨t, ht⟩ : ∃ t : Nat, nxV D j l.length = t := ⟨(nxV D j l.length).toNat, by omega⟩
  rw [ht] at n1 r1 ⊢
  rw [zbc]
  generalize nxA D j l.length = j1 at *
  have n2 := next_spec D j1 12 hl hr (by omega)
  have r2 := nx_rng D j1 12 (by omega)
  generalize nxV D j1 12 = v at *
  generalize nxA D j1 12 = j2 at *
  have htl : t < l.length := by omega
  have hnl := nd_len l
  have hv : v = 0 ∨ v = 1 ∨ v = 2 ∨ v = 3 ∨ v = 4 ∨ v = 5 ∨ v = 6 ∨ v = 7 ∨ v = 8 ∨ v = 9 ∨ v = 10 ∨ v = 11 := by omega
  have n9 := next_spec D j2 9 hl hr (by decide)
  have r9 := nx_rng D j2 9 (by decide)
  have n4 := next_spec D j2 4 hl hr (by decide)
  have r4 := nx_rng D j2 4 (by decide)
  have w2 := hword_spec D j2 hl hr
  have w3 := ctl_spec D j2 hl hr
  have w5 := usr_spec D j2 hl hr
  rcases hv with rfl | rfl | rfl | rfl | rfl | rfl | rfl | rfl | rfl | rfl | rfl | rfl
  · simp only [ohK, if_pos, if_neg, zaj, if_false, if_true, ↓reduceIte]
    have s1 := nd_setf l t 0 { gN l t with i := nxV D j2 9 } (int (nxV D j2 9)) htl (by decide) rfl
    rw [Nat.add_zero] at s1
    have hRl : (l.set t { gN l t with i := nxV D j2 9 }).length = l.length := zaU
    generalize l.set t { gN l t with i := nxV D j2 9 } = R at *
    refine fnspec_of mixed TT_ok TT_cl ⟨fun _ => false, lendH, 1, fun _ => false, fun _ => false⟩ Try.func52 rfl (by kernel_rfl) rfl 131 rfl [.cell 4 76] rfl ?_
    simp only [go_sem, zaa, zak, zal, zam, zan, zah, ↓reduceIte, reduceCtorEq, zae, zag, zaj, zao, zap, lendH, ht, s1]
    repeat' (first
 | with_reducible refine zaz ?_ ?_
 | (unfold OKC; kernel_rfl)
 | (unfold EDG; kernel_rfl)
 | (apply cl_plain
    case hs => rfl
    case ha => (simp only [zab, zad, prepV, prepC, idx, hpL', lookR, zaa, if_true, if_false]; rfl)
    case h => (first | exact c1 .. | exact n1 .. | exact n2 .. | exact n9 .. | exact n4 .. | exact w2 .. | exact w3 .. | exact w5 ..))
 | (apply cl_lend
    case hr => (simp only [zab, zad, hpL', lookR, zaa, if_true, if_false]; first | exact map1 _ | exact map2 _ _ | exact map3 _ _ _)
    case ha => (simp only [zab, zad, prepV, prepC, idx, hpL', lookR, zaa, if_true, if_false]; rfl)
    case hs => rfl
    case hn => decide
    case h => (first | exact c1 .. | exact n1 .. | exact n2 .. | exact n9 .. | exact n4 .. | exact w2 .. | exact w3 .. | exact w5 ..)
    case hf => (simp only [zac, zaf, false_implies, implies_true, and_true, true_and, flat_cons, flat_nil, flat_ints, flat_bools, flat_app, Cs_flat, zaH, and_self, eq_self_iff_true, zai])
    case hl => (simp only [zas, zau]; decide))
 | ((first | refine s1_id ?_ | refine swp_id ?_ | refine sops_id ?_ | refine s2_id ?_); simp only [lendH, dice, ht, s1, zaI, zaM, zai, zaN, zaO, zaF, zaG, zaE, zaQ, zaR, zas, zau, go_sem, zaa, zak, zal, zam, zan, zah, ↓reduceIte, reduceCtorEq, zae, zag, zaj, zao, zap, zaP, zaJ, zaC, zaK, renO, bk, back, outUpsFrom, Ints_ren])
 | (intros; omega)
 | (intros; (try simp only [zaA, zaD, zaB, zay, zat, zav, decide_eq_true_eq, decide_eq_false_iff_not] at *); omega))
    rw [hRl]
    (refine fs_frz 4 ⟨Cs R, 6⟩ (by simp only [zaL, lookR, zaa, if_true, if_false, ↓reduceIte]) (by first | exact Ints_isG _ | exact Bools_isG _ | exact Cs_isG _ | (simp [zaV]; done)) ?_; simp only [frzTm, zba, zaY, zaW, frzHp, frzO, Ints_frz, Bools_frz, zab, zad, zaa, if_true, if_false, ↓reduceIte])
    (refine fs_frz 5 ⟨[], 4⟩ (by simp only [zaL, lookR, zaa, if_true, if_false, ↓reduceIte]) (by first | exact Ints_isG _ | exact Bools_isG _ | exact Cs_isG _ | (simp [zaV]; done)) ?_; simp only [frzTm, zba, zaY, zaW, frzHp, frzO, Ints_frz, Bools_frz, zab, zad, zaa, if_true, if_false, ↓reduceIte])
    (refine fs_flat [(0, dice D (nxA D j2 9))] (by simp) (by simp only [zab, zad]; decide) (by simp only [go_sem, resV, resS, zaP, zaJ, zaC, zaX, zaL, idx, renO, zaK, evS, slot, lookR, zaa, ↓reduceIte, reduceCtorEq, if_true, if_false, zaw, zax, zab, zad, sLoad, readAt, readNeed, Ints_ren, Ints_length, Ints_getD, and_true, true_and, zaq, zar]; try decide) ?_ (by simp only [zac, zaf, false_implies, implies_true, and_true, zaL, lookR, zaa, if_true, if_false, ↓reduceIte, dice] <;> (repeat' apply zaz) <;> (first | rfl | trivial)) (by simp only [zac, zaf, false_implies, implies_true, and_true, true_and, flat_cons, flat_nil, flat_ints, flat_bools, flat_app, zaH, and_self, eq_self_iff_true, zai, dice]) ?_ <;> (try simp only [go_sem, resV, resS, zaP, zaJ, zaC, zaX, zaL, idx, renO, zaK, evS, slot, lookR, zaa, ↓reduceIte, reduceCtorEq, if_true, if_false, zaw, zax, zab, zad, sLoad, readAt, readNeed, Ints_ren, Ints_length, Ints_getD, and_true, true_and, zaq, zar]) <;> (try rfl))
  · simp only [ohK, if_pos, if_neg, zaj, if_false, if_true, ↓reduceIte]
    have s1 := nd_setf l t 1 { gN l t with p := nxV D j2 9 } (int (nxV D j2 9)) htl (by decide) rfl
    have hRl : (l.set t { gN l t with p := nxV D j2 9 }).length = l.length := zaU
    generalize l.set t { gN l t with p := nxV D j2 9 } = R at *
    refine fnspec_of mixed TT_ok TT_cl ⟨fun _ => false, lendH, 1, fun _ => false, fun _ => false⟩ Try.func52 rfl (by kernel_rfl) rfl 131 rfl [.cell 4 76] rfl ?_
    simp only [go_sem, zaa, zak, zal, zam, zan, zah, ↓reduceIte, reduceCtorEq, zae, zag, zaj, zao, zap, lendH, ht, s1]
    repeat' (first
 | with_reducible refine zaz ?_ ?_
 | (unfold OKC; kernel_rfl)
 | (unfold EDG; kernel_rfl)
 | (apply cl_plain
    case hs => rfl
    case ha => (simp only [zab, zad, prepV, prepC, idx, hpL', lookR, zaa, if_true, if_false]; rfl)
    case h => (first | exact c1 .. | exact n1 .. | exact n2 .. | exact n9 .. | exact n4 .. | exact w2 .. | exact w3 .. | exact w5 ..))
 | (apply cl_lend
    case hr => (simp only [zab, zad, hpL', lookR, zaa, if_true, if_false]; first | exact map1 _ | exact map2 _ _ | exact map3 _ _ _)
    case ha => (simp only [zab, zad, prepV, prepC, idx, hpL', lookR, zaa, if_true, if_false]; rfl)
    case hs => rfl
    case hn => decide
    case h => (first | exact c1 .. | exact n1 .. | exact n2 .. | exact n9 .. | exact n4 .. | exact w2 .. | exact w3 .. | exact w5 ..)
    case hf => (simp only [zac, zaf, false_implies, implies_true, and_true, true_and, flat_cons, flat_nil, flat_ints, flat_bools, flat_app, Cs_flat, zaH, and_self, eq_self_iff_true, zai])
    case hl => (simp only [zas, zau]; decide))
 | ((first | refine s1_id ?_ | refine swp_id ?_ | refine sops_id ?_ | refine s2_id ?_); simp only [lendH, dice, ht, s1, zaI, zaM, zai, zaN, zaO, zaF, zaG, zaE, zaQ, zaR, zas, zau, go_sem, zaa, zak, zal, zam, zan, zah, ↓reduceIte, reduceCtorEq, zae, zag, zaj, zao, zap, zaP, zaJ, zaC, zaK, renO, bk, back, outUpsFrom, Ints_ren])
 | (intros; omega)
 | (intros; (try simp only [zaA, zaD, zaB, zay, zat, zav, decide_eq_true_eq, decide_eq_false_iff_not] at *); omega))
    rw [hRl]
    (refine fs_frz 4 ⟨Cs R, 6⟩ (by simp only [zaL, lookR, zaa, if_true, if_false, ↓reduceIte]) (by first | exact Ints_isG _ | exact Bools_isG _ | exact Cs_isG _ | (simp [zaV]; done)) ?_; simp only [frzTm, zba, zaY, zaW, frzHp, frzO, Ints_frz, Bools_frz, zab, zad, zaa, if_true, if_false, ↓reduceIte])
    (refine fs_frz 5 ⟨[], 4⟩ (by simp only [zaL, lookR, zaa, if_true, if_false, ↓reduceIte]) (by first | exact Ints_isG _ | exact Bools_isG _ | exact Cs_isG _ | (simp [zaV]; done)) ?_; simp only [frzTm, zba, zaY, zaW, frzHp, frzO, Ints_frz, Bools_frz, zab, zad, zaa, if_true, if_false, ↓reduceIte])
    (refine fs_flat [(0, dice D (nxA D j2 9))] (by simp) (by simp only [zab, zad]; decide) (by simp only [go_sem, resV, resS, zaP, zaJ, zaC, zaX, zaL, idx, renO, zaK, evS, slot, lookR, zaa, ↓reduceIte, reduceCtorEq, if_true, if_false, zaw, zax, zab, zad, sLoad, readAt, readNeed, Ints_ren, Ints_length, Ints_getD, and_true, true_and, zaq, zar]; try decide) ?_ (by simp only [zac, zaf, false_implies, implies_true, and_true, zaL, lookR, zaa, if_true, if_false, ↓reduceIte, dice] <;> (repeat' apply zaz) <;> (first | rfl | trivial)) (by simp only [zac, zaf, false_implies, implies_true, and_true, true_and, flat_cons, flat_nil, flat_ints, flat_bools, flat_app, zaH, and_self, eq_self_iff_true, zai, dice]) ?_ <;> (try simp only [go_sem, resV, resS, zaP, zaJ, zaC, zaX, zaL, idx, renO, zaK, evS, slot, lookR, zaa, ↓reduceIte, reduceCtorEq, if_true, if_false, zaw, zax, zab, zad, sLoad, readAt, readNeed, Ints_ren, Ints_length, Ints_getD, and_true, true_and, zaq, zar]) <;> (try rfl))
  · simp only [ohK, if_pos, if_neg, zaj, if_false, if_true, ↓reduceIte]
    have s1 := nd_setf l t 2 { gN l t with nm := wdV D j2 } (st (wdV D j2)) htl (by decide) rfl
    have hRl : (l.set t { gN l t with nm := wdV D j2 }).length = l.length := zaU
    generalize l.set t { gN l t with nm := wdV D j2 } = R at *
    refine fnspec_of mixed TT_ok TT_cl ⟨fun _ => false, lendH, 1, fun _ => false, fun _ => false⟩ Try.func52 rfl (by kernel_rfl) rfl 131 rfl [.cell 4 76] rfl ?_
    simp only [go_sem, zaa, zak, zal, zam, zan, zah, ↓reduceIte, reduceCtorEq, zae, zag, zaj, zao, zap, lendH, ht, s1]
    repeat' (first
 | with_reducible refine zaz ?_ ?_
 | (unfold OKC; kernel_rfl)
 | (unfold EDG; kernel_rfl)
 | (apply cl_plain
    case hs => rfl
    case ha => (simp only [zab, zad, prepV, prepC, idx, hpL', lookR, zaa, if_true, if_false]; rfl)
    case h => (first | exact c1 .. | exact n1 .. | exact n2 .. | exact n9 .. | exact n4 .. | exact w2 .. | exact w3 .. | exact w5 ..))
 | (apply cl_lend
    case hr => (simp only [zab, zad, hpL', lookR, zaa, if_true, if_false]; first | exact map1 _ | exact map2 _ _ | exact map3 _ _ _)
    case ha => (simp only [zab, zad, prepV, prepC, idx, hpL', lookR, zaa, if_true, if_false]; rfl)
    case hs => rfl
    case hn => decide
    case h => (first | exact c1 .. | exact n1 .. | exact n2 .. | exact n9 .. | exact n4 .. | exact w2 .. | exact w3 .. | exact w5 ..)
    case hf => (simp only [zac, zaf, false_implies, implies_true, and_true, true_and, flat_cons, flat_nil, flat_ints, flat_bools, flat_app, Cs_flat, zaH, and_self, eq_self_iff_true, zai])
    case hl => (simp only [zas, zau]; decide))
 | ((first | refine s1_id ?_ | refine swp_id ?_ | refine sops_id ?_ | refine s2_id ?_); simp only [lendH, dice, ht, s1, zaI, zaM, zai, zaN, zaO, zaF, zaG, zaE, zaQ, zaR, zas, zau, go_sem, zaa, zak, zal, zam, zan, zah, ↓reduceIte, reduceCtorEq, zae, zag, zaj, zao, zap, zaP, zaJ, zaC, zaK, renO, bk, back, outUpsFrom, Ints_ren])
 | (intros; omega)
 | (intros; (try simp only [zaA, zaD, zaB, zay, zat, zav, decide_eq_true_eq, decide_eq_false_iff_not] at *); omega))
    rw [hRl]
    (refine fs_frz 4 ⟨Cs R, 6⟩ (by simp only [zaL, lookR, zaa, if_true, if_false, ↓reduceIte]) (by first | exact Ints_isG _ | exact Bools_isG _ | exact Cs_isG _ | (simp [zaV]; done)) ?_; simp only [frzTm, zba, zaY, zaW, frzHp, frzO, Ints_frz, Bools_frz, zab, zad, zaa, if_true, if_false, ↓reduceIte])
    (refine fs_frz 5 ⟨[], 4⟩ (by simp only [zaL, lookR, zaa, if_true, if_false, ↓reduceIte]) (by first | exact Ints_isG _ | exact Bools_isG _ | exact Cs_isG _ | (simp [zaV]; done)) ?_; simp only [frzTm, zba, zaY, zaW, frzHp, frzO, Ints_frz, Bools_frz, zab, zad, zaa, if_true, if_false, ↓reduceIte])
    (refine fs_flat [(0, dice D (nxA D j2 12))] (by simp) (by simp only [zab, zad]; decide) (by simp only [go_sem, resV, resS, zaP, zaJ, zaC, zaX, zaL, idx, renO, zaK, evS, slot, lookR, zaa, ↓reduceIte, reduceCtorEq, if_true, if_false, zaw, zax, zab, zad, sLoad, readAt, readNeed, Ints_ren, Ints_length, Ints_getD, and_true, true_and, zaq, zar]; try decide) ?_ (by simp only [zac, zaf, false_implies, implies_true, and_true, zaL, lookR, zaa, if_true, if_false, ↓reduceIte, dice] <;> (repeat' apply zaz) <;> (first | rfl | trivial)) (by simp only [zac, zaf, false_implies, implies_true, and_true, true_and, flat_cons, flat_nil, flat_ints, flat_bools, flat_app, zaH, and_self, eq_self_iff_true, zai, dice]) ?_ <;> (try simp only [go_sem, resV, resS, zaP, zaJ, zaC, zaX, zaL, idx, renO, zaK, evS, slot, lookR, zaa, ↓reduceIte, reduceCtorEq, if_true, if_false, zaw, zax, zab, zad, sLoad, readAt, readNeed, Ints_ren, Ints_length, Ints_getD, and_true, true_and, zaq, zar]) <;> (try rfl))
  · simp only [ohK, if_pos, if_neg, zaj, if_false, if_true, ↓reduceIte]
    have s1 := nd_setf l t 3 { gN l t with c := ctV D j2 } (int (ctV D j2)) htl (by decide) rfl
    have hRl : (l.set t { gN l t with c := ctV D j2 }).length = l.length := zaU
    generalize l.set t { gN l t with c := ctV D j2 } = R at *
    refine fnspec_of mixed TT_ok TT_cl ⟨fun _ => false, lendH, 1, fun _ => false, fun _ => false⟩ Try.func52 rfl (by kernel_rfl) rfl 131 rfl [.cell 4 76] rfl ?_
    simp only [go_sem, zaa, zak, zal, zam, zan, zah, ↓reduceIte, reduceCtorEq, zae, zag, zaj, zao, zap, lendH, ht, s1]
    repeat' (first
 | with_reducible refine zaz ?_ ?_
 | (unfold OKC; kernel_rfl)
 | (unfold EDG; kernel_rfl)
 | (apply cl_plain
    case hs => rfl
    case ha => (simp only [zab, zad, prepV, prepC, idx, hpL', lookR, zaa, if_true, if_false]; rfl)
    case h => (first | exact c1 .. | exact n1 .. | exact n2 .. | exact n9 .. | exact n4 .. | exact w2 .. | exact w3 .. | exact w5 ..))
 | (apply cl_lend
    case hr => (simp only [zab, zad, hpL', lookR, zaa, if_true, if_false]; first | exact map1 _ | exact map2 _ _ | exact map3 _ _ _)
    case ha => (simp only [zab, zad, prepV, prepC, idx, hpL', lookR, zaa, if_true, if_false]; rfl)
    case hs => rfl
    case hn => decide
    case h => (first | exact c1 .. | exact n1 .. | exact n2 .. | exact n9 .. | exact n4 .. | exact w2 .. | exact w3 .. | exact w5 ..)
    case hf => (simp only [zac, zaf, false_implies, implies_true, and_true, true_and, flat_cons, flat_nil, flat_ints, flat_bools, flat_app, Cs_flat, zaH, and_self, eq_self_iff_true, zai])
    case hl => (simp only [zas, zau]; decide))
 | ((first | refine s1_id ?_ | refine swp_id ?_ | refine sops_id ?_ | refine s2_id ?_); simp only [lendH, dice, ht, s1, zaI, zaM, zai, zaN, zaO, zaF, zaG, zaE, zaQ, zaR, zas, zau, go_sem, zaa, zak, zal, zam, zan, zah, ↓reduceIte, reduceCtorEq, zae, zag, zaj, zao, zap, zaP, zaJ, zaC, zaK, renO, bk, back, outUpsFrom, Ints_ren])
 | (intros; omega)
 | (intros; (try simp only [zaA, zaD, zaB, zay, zat, zav, decide_eq_true_eq, decide_eq_false_iff_not] at *); omega))
    rw [hRl]
    (refine fs_frz 4 ⟨Cs R, 6⟩ (by simp only [zaL, lookR, zaa, if_true, if_false, ↓reduceIte]) (by first | exact Ints_isG _ | exact Bools_isG _ | exact Cs_isG _ | (simp [zaV]; done)) ?_; simp only [frzTm, zba, zaY, zaW, frzHp, frzO, Ints_frz, Bools_frz, zab, zad, zaa, if_true, if_false, ↓reduceIte])
    (refine fs_frz 5 ⟨[], 4⟩ (by simp only [zaL, lookR, zaa, if_true, if_false, ↓reduceIte]) (by first | exact Ints_isG _ | exact Bools_isG _ | exact Cs_isG _ | (simp [zaV]; done)) ?_; simp only [frzTm, zba, zaY, zaW, frzHp, frzO, Ints_frz, Bools_frz, zab, zad, zaa, if_true, if_false, ↓reduceIte])
    (refine fs_flat [(0, dice D (nxA D j2 9))] (by simp) (by simp only [zab, zad]; decide) (by simp only [go_sem, resV, resS, zaP, zaJ, zaC, zaX, zaL, idx, renO, zaK, evS, slot, lookR, zaa, ↓reduceIte, reduceCtorEq, if_true, if_false, zaw, zax, zab, zad, sLoad, readAt, readNeed, Ints_ren, Ints_length, Ints_getD, and_true, true_and, zaq, zar]; try decide) ?_ (by simp only [zac, zaf, false_implies, implies_true, and_true, zaL, lookR, zaa, if_true, if_false, ↓reduceIte, dice] <;> (repeat' apply zaz) <;> (first | rfl | trivial)) (by simp only [zac, zaf, false_implies, implies_true, and_true, true_and, flat_cons, flat_nil, flat_ints, flat_bools, flat_app, zaH, and_self, eq_self_iff_true, zai, dice]) ?_ <;> (try simp only [go_sem, resV, resS, zaP, zaJ, zaC, zaX, zaL, idx, renO, zaK, evS, slot, lookR, zaa, ↓reduceIte, reduceCtorEq, if_true, if_false, zaw, zax, zab, zad, sLoad, readAt, readNeed, Ints_ren, Ints_length, Ints_getD, and_true, true_and, zaq, zar]) <;> (try rfl))
  · simp only [ohK, if_pos, if_neg, zaj, if_false, if_true, ↓reduceIte]
    have s1 := nd_setf l t 4 { gN l t with k := nxV D j2 4 - 1 } (int (nxV D j2 4 - 1)) htl (by decide) rfl
    have hRl : (l.set t { gN l t with k := nxV D j2 4 - 1 }).length = l.length := zaU
    generalize l.set t { gN l t with k := nxV D j2 4 - 1 } = R at *
    refine fnspec_of mixed TT_ok TT_cl ⟨fun _ => false, lendH, 1, fun _ => false, fun _ => false⟩ Try.func52 rfl (by kernel_rfl) rfl 131 rfl [.cell 4 76] rfl ?_
    simp only [go_sem, zaa, zak, zal, zam, zan, zah, ↓reduceIte, reduceCtorEq, zae, zag, zaj, zao, zap, lendH, ht, s1]
    repeat' (first
 | with_reducible refine zaz ?_ ?_
 | (unfold OKC; kernel_rfl)
 | (unfold EDG; kernel_rfl)
 | (apply cl_plain
    case hs => rfl
    case ha => (simp only [zab, zad, prepV, prepC, idx, hpL', lookR, zaa, if_true, if_false]; rfl)
    case h => (first | exact c1 .. | exact n1 .. | exact n2 .. | exact n9 .. | exact n4 .. | exact w2 .. | exact w3 .. | exact w5 ..))
 | (apply cl_lend
    case hr => (simp only [zab, zad, hpL', lookR, zaa, if_true, if_false]; first | exact map1 _ | exact map2 _ _ | exact map3 _ _ _)
    case ha => (simp only [zab, zad, prepV, prepC, idx, hpL', lookR, zaa, if_true, if_false]; rfl)
    case hs => rfl
    case hn => decide
    case h => (first | exact c1 .. | exact n1 .. | exact n2 .. | exact n9 .. | exact n4 .. | exact w2 .. | exact w3 .. | exact w5 ..)
    case hf => (simp only [zac, zaf, false_implies, implies_true, and_true, true_and, flat_cons, flat_nil, flat_ints, flat_bools, flat_app, Cs_flat, zaH, and_self, eq_self_iff_true, zai])
    case hl => (simp only [zas, zau]; decide))
 | ((first | refine s1_id ?_ | refine swp_id ?_ | refine sops_id ?_ | refine s2_id ?_); simp only [lendH, dice, ht, s1, zaI, zaM, zai, zaN, zaO, zaF, zaG, zaE, zaQ, zaR, zas, zau, go_sem, zaa, zak, zal, zam, zan, zah, ↓reduceIte, reduceCtorEq, zae, zag, zaj, zao, zap, zaP, zaJ, zaC, zaK, renO, bk, back, outUpsFrom, Ints_ren])
 | (intros; omega)
 | (intros; (try simp only [zaA, zaD, zaB, zay, zat, zav, decide_eq_true_eq, decide_eq_false_iff_not] at *); omega))
    rw [hRl]
    (refine fs_frz 4 ⟨Cs R, 6⟩ (by simp only [zaL, lookR, zaa, if_true, if_false, ↓reduceIte]) (by first | exact Ints_isG _ | exact Bools_isG _ | exact Cs_isG _ | (simp [zaV]; done)) ?_; simp only [frzTm, zba, zaY, zaW, frzHp, frzO, Ints_frz, Bools_frz, zab, zad, zaa, if_true, if_false, ↓reduceIte])
    (refine fs_frz 5 ⟨[], 4⟩ (by simp only [zaL, lookR, zaa, if_true, if_false, ↓reduceIte]) (by first | exact Ints_isG _ | exact Bools_isG _ | exact Cs_isG _ | (simp [zaV]; done)) ?_; simp only [frzTm, zba, zaY, zaW, frzHp, frzO, Ints_frz, Bools_frz, zab, zad, zaa, if_true, if_false, ↓reduceIte])
    (refine fs_flat [(0, dice D (nxA D j2 4))] (by simp) (by simp only [zab, zad]; decide) (by simp only [go_sem, resV, resS, zaP, zaJ, zaC, zaX, zaL, idx, renO, zaK, evS, slot, lookR, zaa, ↓reduceIte, reduceCtorEq, if_true, if_false, zaw, zax, zab, zad, sLoad, readAt, readNeed, Ints_ren, Ints_length, Ints_getD, and_true, true_and, zaq, zar]; try decide) ?_ (by simp only [zac, zaf, false_implies, implies_true, and_true, zaL, lookR, zaa, if_true, if_false, ↓reduceIte, dice] <;> (repeat' apply zaz) <;> (first | rfl | trivial)) (by simp only [zac, zaf, false_implies, implies_true, and_true, true_and, flat_cons, flat_nil, flat_ints, flat_bools, flat_app, zaH, and_self, eq_self_iff_true, zai, dice]) ?_ <;> (try simp only [go_sem, resV, resS, zaP, zaJ, zaC, zaX, zaL, idx, renO, zaK, evS, slot, lookR, zaa, ↓reduceIte, reduceCtorEq, if_true, if_false, zaw, zax, zab, zad, sLoad, readAt, readNeed, Ints_ren, Ints_length, Ints_getD, and_true, true_and, zaq, zar]) <;> (try rfl))
  · simp only [ohK, if_pos, if_neg, zaj, if_false, if_true, ↓reduceIte]
    have s1 := nd_setf l t 5 { gN l t with o := usV D j2 } (int (usV D j2)) htl (by decide) rfl
    have hRl : (l.set t { gN l t with o := usV D j2 }).length = l.length := zaU
    generalize l.set t { gN l t with o := usV D j2 } = R at *
    refine fnspec_of mixed TT_ok TT_cl ⟨fun _ => false, lendH, 1, fun _ => false, fun _ => false⟩ Try.func52 rfl (by kernel_rfl) rfl 131 rfl [.cell 4 76] rfl ?_
    simp only [go_sem, zaa, zak, zal, zam, zan, zah, ↓reduceIte, reduceCtorEq, zae, zag, zaj, zao, zap, lendH, ht, s1]
    repeat' (first
 | with_reducible refine zaz ?_ ?_
 | (unfold OKC; kernel_rfl)
 | (unfold EDG; kernel_rfl)
 | (apply cl_plain
    case hs => rfl
    case ha => (simp only [zab, zad, prepV, prepC, idx, hpL', lookR, zaa, if_true, if_false]; rfl)
    case h => (first | exact c1 .. | exact n1 .. | exact n2 .. | exact n9 .. | exact n4 .. | exact w2 .. | exact w3 .. | exact w5 ..))
 | (apply cl_lend
    case hr => (simp only [zab, zad, hpL', lookR, zaa, if_true, if_false]; first | exact map1 _ | exact map2 _ _ | exact map3 _ _ _)
    case ha => (simp only [zab, zad, prepV, prepC, idx, hpL', lookR, zaa, if_true, if_false]; rfl)
    case hs => rfl
    case hn => decide
    case h => (first | exact c1 .. | exact n1 .. | exact n2 .. | exact n9 .. | exact n4 .. | exact w2 .. | exact w3 .. | exact w5 ..)
    case hf => (simp only [zac, zaf, false_implies, implies_true, and_true, true_and, flat_cons, flat_nil, flat_ints, flat_bools, flat_app, Cs_flat, zaH, and_self, eq_self_iff_true, zai])
    case hl => (simp only [zas, zau]; decide))
 | ((first | refine s1_id ?_ | refine swp_id ?_ | refine sops_id ?_ | refine s2_id ?_); simp only [lendH, dice, ht, s1, zaI, zaM, zai, zaN, zaO, zaF, zaG, zaE, zaQ, zaR, zas, zau, go_sem, zaa, zak, zal, zam, zan, zah, ↓reduceIte, reduceCtorEq, zae, zag, zaj, zao, zap, zaP, zaJ, zaC, zaK, renO, bk, back, outUpsFrom, Ints_ren])
 | (intros; omega)
 | (intros; (try simp only [zaA, zaD, zaB, zay, zat, zav, decide_eq_true_eq, decide_eq_false_iff_not] at *); omega))
    rw [hRl]
    (refine fs_frz 4 ⟨Cs R, 6⟩ (by simp only [zaL, lookR, zaa, if_true, if_false, ↓reduceIte]) (by first | exact Ints_isG _ | exact Bools_isG _ | exact Cs_isG _ | (simp [zaV]; done)) ?_; simp only [frzTm, zba, zaY, zaW, frzHp, frzO, Ints_frz, Bools_frz, zab, zad, zaa, if_true, if_false, ↓reduceIte])
    (refine fs_frz 5 ⟨[], 4⟩ (by simp only [zaL, lookR, zaa, if_true, if_false, ↓reduceIte]) (by first | exact Ints_isG _ | exact Bools_isG _ | exact Cs_isG _ | (simp [zaV]; done)) ?_; simp only [frzTm, zba, zaY, zaW, frzHp, frzO, Ints_frz, Bools_frz, zab, zad, zaa, if_true, if_false, ↓reduceIte])
    (refine fs_flat [(0, dice D (nxA D j2 8))] (by simp) (by simp only [zab, zad]; decide) (by simp only [go_sem, resV, resS, zaP, zaJ, zaC, zaX, zaL, idx, renO, zaK, evS, slot, lookR, zaa, ↓reduceIte, reduceCtorEq, if_true, if_false, zaw, zax, zab, zad, sLoad, readAt, readNeed, Ints_ren, Ints_length, Ints_getD, and_true, true_and, zaq, zar]; try decide) ?_ (by simp only [zac, zaf, false_implies, implies_true, and_true, zaL, lookR, zaa, if_true, if_false, ↓reduceIte, dice] <;> (repeat' apply zaz) <;> (first | rfl | trivial)) (by simp only [zac, zaf, false_implies, implies_true, and_true, true_and, flat_cons, flat_nil, flat_ints, flat_bools, flat_app, zaH, and_self, eq_self_iff_true, zai, dice]) ?_ <;> (try simp only [go_sem, resV, resS, zaP, zaJ, zaC, zaX, zaL, idx, renO, zaK, evS, slot, lookR, zaa, ↓reduceIte, reduceCtorEq, if_true, if_false, zaw, zax, zab, zad, sLoad, readAt, readNeed, Ints_ren, Ints_length, Ints_getD, and_true, true_and, zaq, zar]) <;> (try rfl))
  · simp only [ohK, if_pos, if_neg, zaj, if_false, if_true, ↓reduceIte]
    refine fnspec_of mixed TT_ok TT_cl ⟨fun _ => false, lendH, 1, fun _ => false, fun _ => false⟩ Try.func52 rfl (by kernel_rfl) rfl 131 rfl [.cell 4 76] rfl ?_
    simp only [go_sem, zaa, zak, zal, zam, zan, zah, ↓reduceIte, reduceCtorEq, zae, zag, zaj, zao, zap, lendH, ht]
    repeat' (first
 | with_reducible refine zaz ?_ ?_
 | (unfold OKC; kernel_rfl)
 | (unfold EDG; kernel_rfl)
 | (apply cl_plain
    case hs => rfl
    case ha => (simp only [zab, zad, prepV, prepC, idx, hpL', lookR, zaa, if_true, if_false]; rfl)
    case h => (first | exact c1 .. | exact n1 .. | exact n2 .. | exact n9 .. | exact n4 .. | exact w2 .. | exact w3 .. | exact w5 ..))
 | (apply cl_lend
    case hr => (simp only [zab, zad, hpL', lookR, zaa, if_true, if_false]; first | exact map1 _ | exact map2 _ _ | exact map3 _ _ _)
    case ha => (simp only [zab, zad, prepV, prepC, idx, hpL', lookR, zaa, if_true, if_false]; rfl)
    case hs => rfl
    case hn => decide
    case h => (first | exact c1 .. | exact n1 .. | exact n2 .. | exact n9 .. | exact n4 .. | exact w2 .. | exact w3 .. | exact w5 ..)
    case hf => (simp only [zac, zaf, false_implies, implies_true, and_true, true_and, flat_cons, flat_nil, flat_ints, flat_bools, flat_app, Cs_flat, zaH, and_self, eq_self_iff_true, zai])
    case hl => (simp only [zas, zau]; decide))
 | ((first | refine s1_id ?_ | refine swp_id ?_ | refine sops_id ?_ | refine s2_id ?_); simp only [lendH, dice, ht, zaI, zaM, zai, zaN, zaO, zaF, zaG, zaE, zaQ, zaR, zas, zau, go_sem, zaa, zak, zal, zam, zan, zah, ↓reduceIte, reduceCtorEq, zae, zag, zaj, zao, zap, zaP, zaJ, zaC, zaK, renO, bk, back, outUpsFrom, Ints_ren])
 | (intros; omega)
 | (intros; (try simp only [zaA, zaD, zaB, zay, zat, zav, decide_eq_true_eq, decide_eq_false_iff_not] at *); omega))
    (refine fs_frz 4 ⟨Cs l, 6⟩ (by simp only [zaL, lookR, zaa, if_true, if_false, ↓reduceIte]) (by first | exact Ints_isG _ | exact Bools_isG _ | exact Cs_isG _ | (simp [zaV]; done)) ?_; simp only [frzTm, zba, zaY, zaW, frzHp, frzO, Ints_frz, Bools_frz, zab, zad, zaa, if_true, if_false, ↓reduceIte])
    (refine fs_frz 5 ⟨[], 4⟩ (by simp only [zaL, lookR, zaa, if_true, if_false, ↓reduceIte]) (by first | exact Ints_isG _ | exact Bools_isG _ | exact Cs_isG _ | (simp [zaV]; done)) ?_; simp only [frzTm, zba, zaY, zaW, frzHp, frzO, Ints_frz, Bools_frz, zab, zad, zaa, if_true, if_false, ↓reduceIte])
    (refine fs_flat [(0, dice D (nxA D j2 9))] (by simp) (by simp only [zab, zad]; decide) (by simp only [go_sem, resV, resS, zaP, zaJ, zaC, zaX, zaL, idx, renO, zaK, evS, slot, lookR, zaa, ↓reduceIte, reduceCtorEq, if_true, if_false, zaw, zax, zab, zad, sLoad, readAt, readNeed, Ints_ren, Ints_length, Ints_getD, and_true, true_and, zaq, zar]; try decide) ?_ (by simp only [zac, zaf, false_implies, implies_true, and_true, zaL, lookR, zaa, if_true, if_false, ↓reduceIte, dice] <;> (repeat' apply zaz) <;> (first | rfl | trivial)) (by simp only [zac, zaf, false_implies, implies_true, and_true, true_and, flat_cons, flat_nil, flat_ints, flat_bools, flat_app, zaH, and_self, eq_self_iff_true, zai, dice]) ?_ <;> (try simp only [go_sem, resV, resS, zaP, zaJ, zaC, zaX, zaL, idx, renO, zaK, evS, slot, lookR, zaa, ↓reduceIte, reduceCtorEq, if_true, if_false, zaw, zax, zab, zad, sLoad, readAt, readNeed, Ints_ren, Ints_length, Ints_getD, and_true, true_and, zaq, zar]) <;> (try rfl))
  · simp only [ohK, if_pos, if_neg, zaj, if_false, if_true, ↓reduceIte]
    refine fnspec_of mixed TT_ok TT_cl ⟨fun _ => false, lendH, 1, fun _ => false, fun _ => false⟩ Try.func52 rfl (by kernel_rfl) rfl 131 rfl [.cell 4 76] rfl ?_
    simp only [go_sem, zaa, zak, zal, zam, zan, zah, ↓reduceIte, reduceCtorEq, zae, zag, zaj, zao, zap, lendH, ht]
    repeat' (first
 | with_reducible refine zaz ?_ ?_
 | (unfold OKC; kernel_rfl)
 | (unfold EDG; kernel_rfl)
 | (apply cl_plain
    case hs => rfl
    case ha => (simp only [zab, zad, prepV, prepC, idx, hpL', lookR, zaa, if_true, if_false]; rfl)
    case h => (first | exact c1 .. | exact n1 .. | exact n2 .. | exact n9 .. | exact n4 .. | exact w2 .. | exact w3 .. | exact w5 ..))
 | (apply cl_lend
    case hr => (simp only [zab, zad, hpL', lookR, zaa, if_true, if_false]; first | exact map1 _ | exact map2 _ _ | exact map3 _ _ _)
    case ha => (simp only [zab, zad, prepV, prepC, idx, hpL', lookR, zaa, if_true, if_false]; rfl)
    case hs => rfl
    case hn => decide
    case h => (first | exact c1 .. | exact n1 .. | exact n2 .. | exact n9 .. | exact n4 .. | exact w2 .. | exact w3 .. | exact w5 ..)
    case hf => (simp only [zac, zaf, false_implies, implies_true, and_true, true_and, flat_cons, flat_nil, flat_ints, flat_bools, flat_app, Cs_flat, zaH, and_self, eq_self_iff_true, zai])
    case hl => (simp only [zas, zau]; decide))
 | ((first | refine s1_id ?_ | refine swp_id ?_ | refine sops_id ?_ | refine s2_id ?_); simp only [lendH, dice, ht, zaI, zaM, zai, zaN, zaO, zaF, zaG, zaE, zaQ, zaR, zas, zau, go_sem, zaa, zak, zal, zam, zan, zah, ↓reduceIte, reduceCtorEq, zae, zag, zaj, zao, zap, zaP, zaJ, zaC, zaK, renO, bk, back, outUpsFrom, Ints_ren])
 | (intros; omega)
 | (intros; (try simp only [zaA, zaD, zaB, zay, zat, zav, decide_eq_true_eq, decide_eq_false_iff_not] at *); omega))
    (refine fs_frz 4 ⟨Cs l, 6⟩ (by simp only [zaL, lookR, zaa, if_true, if_false, ↓reduceIte]) (by first | exact Ints_isG _ | exact Bools_isG _ | exact Cs_isG _ | (simp [zaV]; done)) ?_; simp only [frzTm, zba, zaY, zaW, frzHp, frzO, Ints_frz, Bools_frz, zab, zad, zaa, if_true, if_false, ↓reduceIte])
    (refine fs_frz 5 ⟨[], 4⟩ (by simp only [zaL, lookR, zaa, if_true, if_false, ↓reduceIte]) (by first | exact Ints_isG _ | exact Bools_isG _ | exact Cs_isG _ | (simp [zaV]; done)) ?_; simp only [frzTm, zba, zaY, zaW, frzHp, frzO, Ints_frz, Bools_frz, zab, zad, zaa, if_true, if_false, ↓reduceIte])
    (refine fs_flat [(0, dice D (nxA D j2 9))] (by simp) (by simp only [zab, zad]; decide) (by simp only [go_sem, resV, resS, zaP, zaJ, zaC, zaX, zaL, idx, renO, zaK, evS, slot, lookR, zaa, ↓reduceIte, reduceCtorEq, if_true, if_false, zaw, zax, zab, zad, sLoad, readAt, readNeed, Ints_ren, Ints_length, Ints_getD, and_true, true_and, zaq, zar]; try decide) ?_ (by simp only [zac, zaf, false_implies, implies_true, and_true, zaL, lookR, zaa, if_true, if_false, ↓reduceIte, dice] <;> (repeat' apply zaz) <;> (first | rfl | trivial)) (by simp only [zac, zaf, false_implies, implies_true, and_true, true_and, flat_cons, flat_nil, flat_ints, flat_bools, flat_app, zaH, and_self, eq_self_iff_true, zai, dice]) ?_ <;> (try simp only [go_sem, resV, resS, zaP, zaJ, zaC, zaX, zaL, idx, renO, zaK, evS, slot, lookR, zaa, ↓reduceIte, reduceCtorEq, if_true, if_false, zaw, zax, zab, zad, sLoad, readAt, readNeed, Ints_ren, Ints_length, Ints_getD, and_true, true_and, zaq, zar]) <;> (try rfl))
  · simp only [ohK, if_pos, if_neg, zaj, if_false, if_true, ↓reduceIte]
    have hat : List.take 6 (List.drop (t * 6) (Cs l)) = ndc (gN l t) := Cs_td l t htl
    have htk : List.take (l.length * 6) (Cs l) = Cs l := zbb (by rw [hnl]; exact Nat.le_refl _)
    have hpp : Cs l ++ ndc (gN l t) = Cs (l ++ [gN l t]) := Cs_snoc l (gN l t)
    have hRl : (l ++ [gN l t]).length = l.length + 1 := by simp
    generalize l ++ [gN l t] = R at *
    generalize gN l t = x at *
    obtain ⟨xi, xp, xn, xc, xk, xo⟩ := x
    simp only [ndc] at hat hpp
    refine fnspec_of mixed TT_ok TT_cl ⟨fun _ => false, lendH, 1, fun _ => false, fun _ => false⟩ Try.func52 rfl (by kernel_rfl) rfl 131 rfl [.cell 4 76] rfl ?_
    simp only [go_sem, zaa, zak, zal, zam, zan, zah, ↓reduceIte, reduceCtorEq, zae, zag, zaj, zao, zap, lendH, ht, hat, htk, hpp]
    repeat' (first
 | with_reducible refine zaz ?_ ?_
 | (unfold OKC; kernel_rfl)
 | (unfold EDG; kernel_rfl)
 | (apply cl_plain
    case hs => rfl
    case ha => (simp only [zab, zad, prepV, prepC, idx, hpL', lookR, zaa, if_true, if_false]; rfl)
    case h => (first | exact c1 .. | exact n1 .. | exact n2 .. | exact n9 .. | exact n4 .. | exact w2 .. | exact w3 .. | exact w5 ..))
 | (apply cl_lend
    case hr => (simp only [zab, zad, hpL', lookR, zaa, if_true, if_false]; first | exact map1 _ | exact map2 _ _ | exact map3 _ _ _)
    case ha => (simp only [zab, zad, prepV, prepC, idx, hpL', lookR, zaa, if_true, if_false]; rfl)
    case hs => rfl
    case hn => decide
    case h => (first | exact c1 .. | exact n1 .. | exact n2 .. | exact n9 .. | exact n4 .. | exact w2 .. | exact w3 .. | exact w5 ..)
    case hf => (simp only [zac, zaf, false_implies, implies_true, and_true, true_and, flat_cons, flat_nil, flat_ints, flat_bools, flat_app, Cs_flat, zaH, and_self, eq_self_iff_true, zai])
    case hl => (simp only [zas, zau]; decide))
 | ((first | refine s1_id ?_ | refine swp_id ?_ | refine sops_id ?_ | refine s2_id ?_); simp only [lendH, dice, ht, hat, htk, hpp, zaI, zaM, zai, zaN, zaO, zaF, zaG, zaE, zaQ, zaR, zas, zau, go_sem, zaa, zak, zal, zam, zan, zah, ↓reduceIte, reduceCtorEq, zae, zag, zaj, zao, zap, zaP, zaJ, zaC, zaK, renO, bk, back, outUpsFrom, Ints_ren])
 | (intros; omega)
 | (intros; (try simp only [zaA, zaD, zaB, zay, zat, zav, decide_eq_true_eq, decide_eq_false_iff_not] at *); omega))
    rw [hRl]
    (refine fs_frz 46 ⟨Cs R, 6⟩ (by simp only [zaL, lookR, zaa, if_true, if_false, ↓reduceIte]) (by first | exact Ints_isG _ | exact Bools_isG _ | exact Cs_isG _ | (simp [zaV]; done)) ?_; simp only [frzTm, zba, zaY, zaW, frzHp, frzO, Ints_frz, Bools_frz, zab, zad, zaa, if_true, if_false, ↓reduceIte])
    (refine fs_frz 5 ⟨[], 4⟩ (by simp only [zaL, lookR, zaa, if_true, if_false, ↓reduceIte]) (by first | exact Ints_isG _ | exact Bools_isG _ | exact Cs_isG _ | (simp [zaV]; done)) ?_; simp only [frzTm, zba, zaY, zaW, frzHp, frzO, Ints_frz, Bools_frz, zab, zad, zaa, if_true, if_false, ↓reduceIte])
    (refine fs_flat [(0, dice D j2)] (by simp) (by simp only [zab, zad]; decide) (by simp only [go_sem, resV, resS, zaP, zaJ, zaC, zaX, zaL, idx, renO, zaK, evS, slot, lookR, zaa, ↓reduceIte, reduceCtorEq, if_true, if_false, zaw, zax, zab, zad, sLoad, readAt, readNeed, Ints_ren, Ints_length, Ints_getD, and_true, true_and, zaq, zar]; try decide) ?_ (by simp only [zac, zaf, false_implies, implies_true, and_true, zaL, lookR, zaa, if_true, if_false, ↓reduceIte, dice] <;> (repeat' apply zaz) <;> (first | rfl | trivial)) (by simp only [zac, zaf, false_implies, implies_true, and_true, true_and, flat_cons, flat_nil, flat_ints, flat_bools, flat_app, zaH, and_self, eq_self_iff_true, zai, dice]) ?_ <;> (try simp only [go_sem, resV, resS, zaP, zaJ, zaC, zaX, zaL, idx, renO, zaK, evS, slot, lookR, zaa, ↓reduceIte, reduceCtorEq, if_true, if_false, zaw, zax, zab, zad, sLoad, readAt, readNeed, Ints_ren, Ints_length, Ints_getD, and_true, true_and, zaq, zar]) <;> (try rfl))
  · simp only [ohK, if_pos, if_neg, zaj, if_false, if_true, ↓reduceIte]
    refine fnspec_of mixed TT_ok TT_cl ⟨fun _ => false, lendH, 1, fun _ => false, fun _ => false⟩ Try.func52 rfl (by kernel_rfl) rfl 131 rfl [.cell 4 76] rfl ?_
    simp only [go_sem, zaa, zak, zal, zam, zan, zah, ↓reduceIte, reduceCtorEq, zae, zag, zaj, zao, zap, lendH, ht]
    repeat' (first
 | with_reducible refine zaz ?_ ?_
 | (unfold OKC; kernel_rfl)
 | (unfold EDG; kernel_rfl)
 | (apply cl_plain
    case hs => rfl
    case ha => (simp only [zab, zad, prepV, prepC, idx, hpL', lookR, zaa, if_true, if_false]; rfl)
    case h => (first | exact c1 .. | exact n1 .. | exact n2 .. | exact n9 .. | exact n4 .. | exact w2 .. | exact w3 .. | exact w5 ..))
 | (apply cl_lend
    case hr => (simp only [zab, zad, hpL', lookR, zaa, if_true, if_false]; first | exact map1 _ | exact map2 _ _ | exact map3 _ _ _)
    case ha => (simp only [zab, zad, prepV, prepC, idx, hpL', lookR, zaa, if_true, if_false]; rfl)
    case hs => rfl
    case hn => decide
    case h => (first | exact c1 .. | exact n1 .. | exact n2 .. | exact n9 .. | exact n4 .. | exact w2 .. | exact w3 .. | exact w5 ..)
    case hf => (simp only [zac, zaf, false_implies, implies_true, and_true, true_and, flat_cons, flat_nil, flat_ints, flat_bools, flat_app, Cs_flat, zaH, and_self, eq_self_iff_true, zai])
    case hl => (simp only [zas, zau]; decide))
 | ((first | refine s1_id ?_ | refine swp_id ?_ | refine sops_id ?_ | refine s2_id ?_); simp only [lendH, dice, ht, zaI, zaM, zai, zaN, zaO, zaF, zaG, zaE, zaQ, zaR, zas, zau, go_sem, zaa, zak, zal, zam, zan, zah, ↓reduceIte, reduceCtorEq, zae, zag, zaj, zao, zap, zaP, zaJ, zaC, zaK, renO, bk, back, outUpsFrom, Ints_ren])
 | (intros; omega)
 | (intros; (try simp only [zaA, zaD, zaB, zay, zat, zav, decide_eq_true_eq, decide_eq_false_iff_not] at *); omega))
    (refine fs_frz 4 ⟨Cs l, 6⟩ (by simp only [zaL, lookR, zaa, if_true, if_false, ↓reduceIte]) (by first | exact Ints_isG _ | exact Bools_isG _ | exact Cs_isG _ | (simp [zaV]; done)) ?_; simp only [frzTm, zba, zaY, zaW, frzHp, frzO, Ints_frz, Bools_frz, zab, zad, zaa, if_true, if_false, ↓reduceIte])
    (refine fs_frz 5 ⟨[], 4⟩ (by simp only [zaL, lookR, zaa, if_true, if_false, ↓reduceIte]) (by first | exact Ints_isG _ | exact Bools_isG _ | exact Cs_isG _ | (simp [zaV]; done)) ?_; simp only [frzTm, zba, zaY, zaW, frzHp, frzO, Ints_frz, Bools_frz, zab, zad, zaa, if_true, if_false, ↓reduceIte])
    (refine fs_flat [(0, dice D j2)] (by simp) (by simp only [zab, zad]; decide) (by simp only [go_sem, resV, resS, zaP, zaJ, zaC, zaX, zaL, idx, renO, zaK, evS, slot, lookR, zaa, ↓reduceIte, reduceCtorEq, if_true, if_false, zaw, zax, zab, zad, sLoad, readAt, readNeed, Ints_ren, Ints_length, Ints_getD, and_true, true_and, zaq, zar]; try decide) ?_ (by simp only [zac, zaf, false_implies, implies_true, and_true, zaL, lookR, zaa, if_true, if_false, ↓reduceIte, dice] <;> (repeat' apply zaz) <;> (first | rfl | trivial)) (by simp only [zac, zaf, false_implies, implies_true, and_true, true_and, flat_cons, flat_nil, flat_ints, flat_bools, flat_app, zaH, and_self, eq_self_iff_true, zai, dice]) ?_ <;> (try simp only [go_sem, resV, resS, zaP, zaJ, zaC, zaX, zaL, idx, renO, zaK, evS, slot, lookR, zaa, ↓reduceIte, reduceCtorEq, if_true, if_false, zaw, zax, zab, zad, sLoad, readAt, readNeed, Ints_ren, Ints_length, Ints_getD, and_true, true_and, zaq, zar]) <;> (try rfl))
  · simp only [ohK, if_pos, if_neg, zaj, if_false, if_true, ↓reduceIte]
    refine fnspec_of mixed TT_ok TT_cl ⟨fun _ => false, lendH, 1, fun _ => false, fun _ => false⟩ Try.func52 rfl (by kernel_rfl) rfl 131 rfl [.cell 4 76] rfl ?_
    simp only [go_sem, zaa, zak, zal, zam, zan, zah, ↓reduceIte, reduceCtorEq, zae, zag, zaj, zao, zap, lendH, ht]
    repeat' (first
 | with_reducible refine zaz ?_ ?_
 | (unfold OKC; kernel_rfl)
 | (unfold EDG; kernel_rfl)
 | (apply cl_plain
    case hs => rfl
    case ha => (simp only [zab, zad, prepV, prepC, idx, hpL', lookR, zaa, if_true, if_false]; rfl)
    case h => (first | exact c1 .. | exact n1 .. | exact n2 .. | exact n9 .. | exact n4 .. | exact w2 .. | exact w3 .. | exact w5 ..))
 | (apply cl_lend
    case hr => (simp only [zab, zad, hpL', lookR, zaa, if_true, if_false]; first | exact map1 _ | exact map2 _ _ | exact map3 _ _ _)
    case ha => (simp only [zab, zad, prepV, prepC, idx, hpL', lookR, zaa, if_true, if_false]; rfl)
    case hs => rfl
    case hn => decide
    case h => (first | exact c1 .. | exact n1 .. | exact n2 .. | exact n9 .. | exact n4 .. | exact w2 .. | exact w3 .. | exact w5 ..)
    case hf => (simp only [zac, zaf, false_implies, implies_true, and_true, true_and, flat_cons, flat_nil, flat_ints, flat_bools, flat_app, Cs_flat, zaH, and_self, eq_self_iff_true, zai])
    case hl => (simp only [zas, zau]; decide))
 | ((first | refine s1_id ?_ | refine swp_id ?_ | refine sops_id ?_ | refine s2_id ?_); simp only [lendH, dice, ht, zaI, zaM, zai, zaN, zaO, zaF, zaG, zaE, zaQ, zaR, zas, zau, go_sem, zaa, zak, zal, zam, zan, zah, ↓reduceIte, reduceCtorEq, zae, zag, zaj, zao, zap, zaP, zaJ, zaC, zaK, renO, bk, back, outUpsFrom, Ints_ren])
 | (intros; omega)
 | (intros; (try simp only [zaA, zaD, zaB, zay, zat, zav, decide_eq_true_eq, decide_eq_false_iff_not] at *); omega))
    (refine fs_frz 4 ⟨Cs l, 6⟩ (by simp only [zaL, lookR, zaa, if_true, if_false, ↓reduceIte]) (by first | exact Ints_isG _ | exact Bools_isG _ | exact Cs_isG _ | (simp [zaV]; done)) ?_; simp only [frzTm, zba, zaY, zaW, frzHp, frzO, Ints_frz, Bools_frz, zab, zad, zaa, if_true, if_false, ↓reduceIte])
    (refine fs_frz 5 ⟨[], 4⟩ (by simp only [zaL, lookR, zaa, if_true, if_false, ↓reduceIte]) (by first | exact Ints_isG _ | exact Bools_isG _ | exact Cs_isG _ | (simp [zaV]; done)) ?_; simp only [frzTm, zba, zaY, zaW, frzHp, frzO, Ints_frz, Bools_frz, zab, zad, zaa, if_true, if_false, ↓reduceIte])
    (refine fs_flat [(0, dice D j2)] (by simp) (by simp only [zab, zad]; decide) (by simp only [go_sem, resV, resS, zaP, zaJ, zaC, zaX, zaL, idx, renO, zaK, evS, slot, lookR, zaa, ↓reduceIte, reduceCtorEq, if_true, if_false, zaw, zax, zab, zad, sLoad, readAt, readNeed, Ints_ren, Ints_length, Ints_getD, and_true, true_and, zaq, zar]; try decide) ?_ (by simp only [zac, zaf, false_implies, implies_true, and_true, zaL, lookR, zaa, if_true, if_false, ↓reduceIte, dice] <;> (repeat' apply zaz) <;> (first | rfl | trivial)) (by simp only [zac, zaf, false_implies, implies_true, and_true, true_and, flat_cons, flat_nil, flat_ints, flat_bools, flat_app, zaH, and_self, eq_self_iff_true, zai, dice]) ?_ <;> (try simp only [go_sem, resV, resS, zaP, zaJ, zaC, zaX, zaL, idx, renO, zaK, evS, slot, lookR, zaa, ↓reduceIte, reduceCtorEq, if_true, if_false, zaw, zax, zab, zad, sLoad, readAt, readNeed, Ints_ren, Ints_length, Ints_getD, and_true, true_and, zaq, zar]) <;> (try rfl))
  · simp only [ohK, if_pos, if_neg, zaj, if_false, if_true, ↓reduceIte]
    refine fnspec_of mixed TT_ok TT_cl ⟨fun _ => false, lendH, 1, fun _ => false, fun _ => false⟩ Try.func52 rfl (by kernel_rfl) rfl 131 rfl [.cell 4 76] rfl ?_
    simp only [go_sem, zaa, zak, zal, zam, zan, zah, ↓reduceIte, reduceCtorEq, zae, zag, zaj, zao, zap, lendH, ht]
    repeat' (first
 | with_reducible refine zaz ?_ ?_
 | (unfold OKC; kernel_rfl)
 | (unfold EDG; kernel_rfl)
 | (apply cl_plain
    case hs => rfl
    case ha => (simp only [zab, zad, prepV, prepC, idx, hpL', lookR, zaa, if_true, if_false]; rfl)
    case h => (first | exact c1 .. | exact n1 .. | exact n2 .. | exact n9 .. | exact n4 .. | exact w2 .. | exact w3 .. | exact w5 ..))
 | (apply cl_lend
    case hr => (simp only [zab, zad, hpL', lookR, zaa, if_true, if_false]; first | exact map1 _ | exact map2 _ _ | exact map3 _ _ _)
    case ha => (simp only [zab, zad, prepV, prepC, idx, hpL', lookR, zaa, if_true, if_false]; rfl)
    case hs => rfl
    case hn => decide
    case h => (first | exact c1 .. | exact n1 .. | exact n2 .. | exact n9 .. | exact n4 .. | exact w2 .. | exact w3 .. | exact w5 ..)
    case hf => (simp only [zac, zaf, false_implies, implies_true, and_true, true_and, flat_cons, flat_nil, flat_ints, flat_bools, flat_app, Cs_flat, zaH, and_self, eq_self_iff_true, zai])
    case hl => (simp only [zas, zau]; decide))
 | ((first | refine s1_id ?_ | refine swp_id ?_ | refine sops_id ?_ | refine s2_id ?_); simp only [lendH, dice, ht, zaI, zaM, zai, zaN, zaO, zaF, zaG, zaE, zaQ, zaR, zas, zau, go_sem, zaa, zak, zal, zam, zan, zah, ↓reduceIte, reduceCtorEq, zae, zag, zaj, zao, zap, zaP, zaJ, zaC, zaK, renO, bk, back, outUpsFrom, Ints_ren])
 | (intros; omega)
 | (intros; (try simp only [zaA, zaD, zaB, zay, zat, zav, decide_eq_true_eq, decide_eq_false_iff_not] at *); omega))
    (refine fs_frz 4 ⟨Cs l, 6⟩ (by simp only [zaL, lookR, zaa, if_true, if_false, ↓reduceIte]) (by first | exact Ints_isG _ | exact Bools_isG _ | exact Cs_isG _ | (simp [zaV]; done)) ?_; simp only [frzTm, zba, zaY, zaW, frzHp, frzO, Ints_frz, Bools_frz, zab, zad, zaa, if_true, if_false, ↓reduceIte])
    (refine fs_frz 5 ⟨[], 4⟩ (by simp only [zaL, lookR, zaa, if_true, if_false, ↓reduceIte]) (by first | exact Ints_isG _ | exact Bools_isG _ | exact Cs_isG _ | (simp [zaV]; done)) ?_; simp only [frzTm, zba, zaY, zaW, frzHp, frzO, Ints_frz, Bools_frz, zab, zad, zaa, if_true, if_false, ↓reduceIte])
    (refine fs_flat [(0, dice D j2)] (by simp) (by simp only [zab, zad]; decide) (by simp only [go_sem, resV, resS, zaP, zaJ, zaC, zaX, zaL, idx, renO, zaK, evS, slot, lookR, zaa, ↓reduceIte, reduceCtorEq, if_true, if_false, zaw, zax, zab, zad, sLoad, readAt, readNeed, Ints_ren, Ints_length, Ints_getD, and_true, true_and, zaq, zar]; try decide) ?_ (by simp only [zac, zaf, false_implies, implies_true, and_true, zaL, lookR, zaa, if_true, if_false, ↓reduceIte, dice] <;> (repeat' apply zaz) <;> (first | rfl | trivial)) (by simp only [zac, zaf, false_implies, implies_true, and_true, true_and, flat_cons, flat_nil, flat_ints, flat_bools, flat_app, zaH, and_self, eq_self_iff_true, zai, dice]) ?_ <;> (try simp only [go_sem, resV, resS, zaP, zaJ, zaC, zaX, zaL, idx, renO, zaK, evS, slot, lookR, zaa, ↓reduceIte, reduceCtorEq, if_true, if_false, zaw, zax, zab, zad, sLoad, readAt, readNeed, Ints_ren, Ints_length, Ints_getD, and_true, true_and, zaq, zar]) <;> (try rfl))
def odT (D : List Int) (j : Nat) (l : List Nd) (n : Int) : (List Nd × Int) × Nat := ((ohM D j l n).1.1, (ohM D j l n).2)
theorem odd5_spec (D : List Int) (hl : D.length ≤ 600) (hr : ∀ x ∈ D, -9223372036854775808 ≤ x ∧ x ≤ 9223372036854775807) (j : Nat) (l : List Nd) (n : Int) (h1 : 1 ≤ l.length) (hL : l.length ≤ 1000) : FnSpec Try.prog 28 [dp, trV l none n] [dice D j] (trV (odT D j l n).1.1 none (odT D j l n).1.2) [some (dice D (odT D j l n).2)] := by
  have h2 := oddh_spec D hl hr j l n h1 hL
  unfold odT
  generalize ohM D j l n = q at *
  obtain ⟨⟨⟨l2, n2⟩, h⟩, j2⟩ := q
  simp only at h2 ⊢
  refine fnspec_of mixed TT_ok TT_cl ⟨fun _ => false, fun f => if f = 52 then [0] else [], 1, fun _ => false, fun _ => false⟩ Try.func28 rfl (by kernel_rfl) rfl 10 rfl [.cell 4 29] rfl ?_
  simp only [go_sem, zaa, zak, zal, zam, zan, zah, ↓reduceIte, reduceCtorEq, zae, zag, zaj, zao, zap]
  repeat' (first
 | (apply cl_lend
    case hr => (simp only [zab, zad, hpL', lookR, zaa, if_true, if_false]; first | exact map1 _ | exact map2 _ _ | exact map3 _ _ _)
    case ha => (simp only [zab, zad, prepV, prepC, idx, hpL', lookR, zaa, if_true, if_false]; rfl)
    case hs => rfl
    case hn => decide
    case h => (first | exact h2 ..)
    case hf => (simp only [zac, zaf, false_implies, implies_true, and_true, true_and, flat_cons, flat_nil, flat_ints, flat_bools, flat_app, Cs_flat, zaH, and_self, eq_self_iff_true, zai])
    case hl => (simp only [zas, zau]; decide))
 | ((first | refine s1_id ?_ | refine swp_id ?_ | refine sops_id ?_ | refine s2_id ?_); simp only [dice, zaI, zaM, zai, zaN, zaO, zaF, zaG, zaE, zaQ, zaR, zas, zau, go_sem, zaa, zak, zal, zam, zan, zah, ↓reduceIte, reduceCtorEq, zae, zag, zaj, zao, zap, zaP, zaJ, zaC, zaK, renO, bk, back, outUpsFrom, Ints_ren])
 | (intros; (try simp only [zaA, zaD, zaB, zay, zat, zav, decide_eq_true_eq, decide_eq_false_iff_not] at *); omega))
  (refine fs_flat [(0, dice D j2)] (by simp) (by simp only [zab, zad]; decide) (by simp only [go_sem, resV, resS, zaP, zaJ, zaC, zaX, zaL, idx, renO, zaK, evS, slot, lookR, zaa, ↓reduceIte, reduceCtorEq, if_true, if_false, zaw, zax, zab, zad, sLoad, readAt, readNeed, Ints_ren, Ints_length, Ints_getD, and_true, true_and, zaq, zar]; try decide) ?_ (by simp only [zac, zaf, false_implies, implies_true, and_true, zaL, lookR, zaa, if_true, if_false, ↓reduceIte, dice] <;> (repeat' apply zaz) <;> (first | rfl | trivial)) (by simp only [zac, zaf, false_implies, implies_true, and_true, true_and, flat_cons, flat_nil, flat_ints, flat_bools, flat_app, zaH, and_self, eq_self_iff_true, zai, dice]) ?_ <;> (try simp only [go_sem, resV, resS, zaP, zaJ, zaC, zaX, zaL, idx, renO, zaK, evS, slot, lookR, zaa, ↓reduceIte, reduceCtorEq, if_true, if_false, zaw, zax, zab, zad, sLoad, readAt, readNeed, Ints_ren, Ints_length, Ints_getD, and_true, true_and, zaq, zar]) <;> (try rfl))
theorem gN_out {l : List Nd} {t : Nat} (h : ¬ t < l.length) : gN l t = zn := by
  show l.getD t zn = zn
  rw [List.getD_eq_getElem?_getD, List.getElem?_eq_none (by omega)]; rfl
theorem ohK_in (P : Nd → Prop) (D : List Int) (j : Nat) (l : List Nd) (n : Int) (t : Nat) (v : Int) (hl : ∀ x ∈ l, P x) (hz : P zn)
    (h0 : ∀ x y, P x → P { x with i := y }) (h1 : ∀ x y, P x → P { x with p := y }) (h2 : ∀ x, P x → P { x with nm := wdV D j }) (h3 : ∀ x, P x → P { x with c := ctV D j }) (h4 : ∀ x y, P x → P { x with k := y }) (h5 : ∀ x y, P x → P { x with o := y }) : ∀ x ∈ (ohK D j l n t v).1.1.1, P x := by
  have hg : P (gN l t) := by
    by_cases c : t < l.length
    · exact hl _ (getD_mem l t zn c)
    · rw [gN_out c]; exact hz
  have hset : ∀ y, P y → ∀ x ∈ l.set t y, P x := fun y hy x hx => by
    rcases List.mem_or_eq_of_mem_set hx with h | rfl
    · exact hl x h
    · exact hy
  unfold ohK
  by_cases c0 : v = 0
  · rw [if_pos c0]; exact hset _ (h0 _ _ hg)
  rw [if_neg c0]
  by_cases c1 : v = 1
  · rw [if_pos c1]; exact hset _ (h1 _ _ hg)
  rw [if_neg c1]
  by_cases c2 : v = 2
  · rw [if_pos c2]; exact hset _ (h2 _ hg)
  rw [if_neg c2]
  by_cases c3 : v = 3
  · rw [if_pos c3]; exact hset _ (h3 _ hg)
  rw [if_neg c3]
  by_cases c4 : v = 4
  · rw [if_pos c4]; exact hset _ (h4 _ _ hg)
  rw [if_neg c4]
  by_cases c5 : v = 5
  · rw [if_pos c5]; exact hset _ (h5 _ _ hg)
  rw [if_neg c5]
  by_cases c6 : v = 6
  · rw [if_pos c6]; exact hl
  rw [if_neg c6]
  by_cases c7 : v = 7
  · rw [if_pos c7]; exact hl
  rw [if_neg c7]
  by_cases c8 : v = 8
  · rw [if_pos c8]
    intro x hx
    rcases List.mem_append.1 hx with h | h
    · exact hl x h
    · rw [List.mem_singleton.1 h]; exact hg
  rw [if_neg c8]
  exact hl
theorem odT_ok (D : List Int) (j : Nat) {l : List Nd} (n : Int) (hn : NmR l) (hc : CtR l) : NmR (odT D j l n).1.1 ∧ CtR (odT D j l n).1.1 ∧ l.length ≤ (odT D j l n).1.1.length ∧ (odT D j l n).1.1.length ≤ l.length + 1 := by
  refine ⟨?_, ?_, oh_len D j l n⟩
  · refine ohK_in (fun x => x.nm.length ≤ 1000000000) D _ l n _ _ hn (by decide) (fun _ _ h => h) (fun _ _ h => h) (fun _ _ => ?_) (fun _ h => h) (fun _ _ h => h) (fun _ _ h => h)
    exact Nat.le_trans (wdV_len D _) (by decide)
  · refine ohK_in (fun x => -9223372036854775808 ≤ x.c ∧ x.c ≤ 9223372036854775807) D _ l n _ _ hc (by decide) (fun _ _ h => h) (fun _ _ h => h) (fun _ h => h) (fun _ _ => ?_) (fun _ _ h => h) (fun _ _ h => h)
    have := ctV_rng D (nxA D (nxA D j l.length) 12)
    exact ⟨by show _ ≤ ctV _ _; omega, by show ctV _ _ ≤ _; omega⟩
end Go.Proofs.Ytnahpejlhfeleaa
-- NEWGO
-- PRUNE: cl_lendx cl_use
-- ISG: Cs_isG
-- FLAT: Cs_flat
namespace Go.Proofs.Ytnahpejlhfeleaa
set_option linter.unusedVariables false
set_option linter.unusedSimpArgs false
open Go.Proofs.Ytnahpejlhfeleaa.Sh
set_option maxRecDepth 20000
theorem addM_len5 (l : List Nd) (n p : Int) (s : Str) : (addM l n p s).1.1.length ≤ l.length + 1 := by
  unfold addM
  repeat' split
  all_goals simp only [zau, List.length_append, List.length_singleton] <;> omega
theorem rmM_len5 (l : List Nd) (n p : Int) : (rmM l n p).1.1.length ≤ l.length := by
  unfold rmM
  repeat' split
  all_goals first | exact zaZ _ | exact rmN_len _ _
def lendC5 : FuncId → List Nat := fun f => if f = 12 then [0] else if f = 14 then [0] else if f = 15 then [0] else if f = 29 then [0] else if f = 20 then [0] else if f = 28 then [0] else []
set_option maxHeartbeats 64000000 in
theorem changes5_spec (D : List Int) (raw : Str) (hr : ∀ x ∈ D, -9223372036854775808 ≤ x ∧ x ≤ 9223372036854775807) (hrl : raw.length ≤ 9223372036854775807) : FnSpec Try.prog 5 [gi D none, s1 raw] [] (b1 true) [] := by
  by_cases hlen : (D.length : Int) ≤ 600
  case neg =>
    refine fnspec_of mixed TT_ok TT_cl ⟨fun _ => false, lendC5, 0, fun _ => false, fun _ => false⟩ Try.func5 rfl (by kernel_rfl) rfl 115 rfl [.tmp 4] rfl ?_
    simp only [go_sem, zaa, zak, zal, zam, zan, zah, ↓reduceIte, reduceCtorEq, zae, zag, zaj, zao, zap, decide_eq_false hlen, lendC5]
    repeat' (first
 | (apply cl_plain
    case hs => rfl
    case ha => (simp only [zab, zad, prepV, prepC, idx, hpL', lookR, zaa, if_true, if_false]; rfl)
    case h => (first | exact light_spec .. | exact sane5_spec ..))
 | ((first | refine s1_id ?_ | refine swp_id ?_ | refine sops_id ?_ | refine s2_id ?_); simp only [decide_eq_false hlen, lendC5, go_sem, zaa, zak, zal, zam, zan, zah, ↓reduceIte, reduceCtorEq, zae, zag, zaj, zao, zap, zaP, zaJ, zaC, zaK, renO, bk, back, outUpsFrom, Ints_ren])
 | exact fs_nil trivial rfl
 | fail)
  have hl : D.length ≤ 600 := by omega
  by_cases hr1 : 100 < (raw.length : Int)
  · refine fnspec_of mixed TT_ok TT_cl ⟨fun _ => false, lendC5, 0, fun _ => false, fun _ => false⟩ Try.func5 rfl (by kernel_rfl) rfl 115 rfl [.tmp 4] rfl ?_
    simp only [go_sem, zaa, zak, zal, zam, zan, zah, ↓reduceIte, reduceCtorEq, zae, zag, zaj, zao, zap, decide_eq_true hlen, decide_eq_true hr1, lendC5]
    repeat' (first
 | (apply cl_plain
    case hs => rfl
    case ha => (simp only [zab, zad, prepV, prepC, idx, hpL', lookR, zaa, if_true, if_false]; rfl)
    case h => (first | exact light_spec .. | exact sane5_spec ..))
 | ((first | refine s1_id ?_ | refine swp_id ?_ | refine sops_id ?_ | refine s2_id ?_); simp only [decide_eq_true hlen, decide_eq_true hr1, lendC5, go_sem, zaa, zak, zal, zam, zan, zah, ↓reduceIte, reduceCtorEq, zae, zag, zaj, zao, zap, zaP, zaJ, zaC, zaK, renO, bk, back, outUpsFrom, Ints_ren])
 | exact fs_nil trivial rfl
 | fail)
  have t1 := tree_spec D hl hr 0 9 (by decide)
  have hti := mkT_ok D 0 9
  generalize mkT D 0 9 = T at *
  obtain ⟨⟨l, n⟩, j1⟩ := T
  simp only at t1 hti
  have hV := hti.v.vt
  have hle := hti.len
  have hlb := hti.b
  have hct := hV.ctR
  have hnr := hti.nr
  have o1 := odd5_spec D hl hr j1 l n hle.1 (by omega)
  obtain ⟨hnr2, hct2, ho1, ho2⟩ := odT_ok D j1 n hnr hct
  generalize odT D j1 l n = q at *
  obtain ⟨⟨l2, n2⟩, j2⟩ := q
  simp only at o1 hnr2 hct2 ho1 ho2
  refine fnspec_of mixed TT_ok TT_cl ⟨fun _ => false, lendC5, 0, fun _ => false, fun _ => false⟩ Try.func5 rfl (by kernel_rfl) rfl 115 rfl [.tmp 4] rfl ?_
  simp only [go_sem, zaa, zak, zal, zam, zan, zah, ↓reduceIte, reduceCtorEq, zae, zag, zaj, zao, zap, decide_eq_true hlen, decide_eq_false hr1, lendC5]
  repeat' (first
 | with_reducible refine zaz ?_ ?_
 | (unfold OKC; kernel_rfl)
 | (unfold EDG; kernel_rfl)
 | (apply cl_plain
    case hs => rfl
    case ha => (simp only [zab, zad, prepV, prepC, idx, hpL', lookR, zaa, if_true, if_false]; rfl)
    case h => (first | exact light_spec .. | exact roll_spec .. | exact t1 .. | exact o1 ..))
 | (apply cl_lend
    case hr => (simp only [zab, zad, hpL', lookR, zaa, if_true, if_false]; first | exact map1 _ | exact map2 _ _ | exact map3 _ _ _)
    case ha => (simp only [zab, zad, prepV, prepC, idx, hpL', lookR, zaa, if_true, if_false]; rfl)
    case hs => rfl
    case hn => decide
    case h => (first | exact light_spec .. | exact roll_spec .. | exact t1 .. | exact o1 ..)
    case hf => (simp only [zac, zaf, false_implies, implies_true, and_true, true_and, flat_cons, flat_nil, flat_ints, flat_bools, flat_app, Cs_flat, zaH, and_self, eq_self_iff_true, zai])
    case hl => (simp only [zas, zau]; decide))
 | ((first | refine s1_id ?_ | refine swp_id ?_ | refine sops_id ?_ | refine s2_id ?_); simp only [decide_eq_true hlen, decide_eq_false hr1, lendC5, dice, zaI, zaM, zai, zaN, zaO, zaF, zaG, zaE, zaQ, zaR, zas, zau, go_sem, zaa, zak, zal, zam, zan, zah, ↓reduceIte, reduceCtorEq, zae, zag, zaj, zao, zap, zaP, zaJ, zaC, zaK, renO, bk, back, outUpsFrom, Ints_ren])
 | (intros; (try simp only [zaA, zaD, zaB, zay, zat, zav, decide_eq_true_eq, decide_eq_false_iff_not] at *); omega))
  refine w_loop (ι := Nat × Nat) (fun s => ⟨[(1, s1 raw), (5, .one (.optr 0 0)), (39, .one (.gsl [.gsl (Cs l) 0 l.length none, int n, .gsl (Cs l2) 0 l2.length none, int n2] 0 2 (some 2))), (40, i1 (2 : Nat)), (41, i1 s.1)], [(0, some (dice D s.2))], 1⟩) (fun s => s.1 ≤ 2) (fun s => 2 - s.1) (0, j2) ?_ (zaZ _) ?_
  · (refine Imp.trans (imp_frz _ _ 20 ⟨[.gsl (Cs l) 0 l.length none, int n, .gsl (Cs l2) 0 l2.length none, int n2], 2⟩ (by simp only [zaL, lookR, zaa, if_true, if_false, ↓reduceIte]) (by first | exact Ints_isG _ | exact Bools_isG _ | exact Cs_isG _ | (simp [zaV]; done))) ?_; simp only [frzTm, zba, zaY, zaW, frzHp, frzO, Ints_frz, Bools_frz, zab, zad, zaa, if_true, if_false, ↓reduceIte])
    (refine imp_ren _ _ _ [(0, 10, dice D j2)] (by simp) (by simp) (by simp) (zaT rfl) ?_ rfl (by simp only [zac, zaf, false_implies, implies_true, and_true, zaL, lookR, zaa, if_true, if_false, ↓reduceIte, dice] <;> (repeat' apply zaz) <;> (first | rfl | trivial)) (by simp only [zac, zaf, false_implies, implies_true, and_true, true_and, flat_cons, flat_nil, flat_ints, flat_bools, flat_app, zaH, and_self, eq_self_iff_true, zai, dice]); simp only [zab, zad, zac, zaf, false_implies, implies_true, and_true, lk, slot, zaP, zaC, toN, zaa, if_true, if_false, ↓reduceIte, reduceCtorEq])
    all_goals ((repeat' apply zaz) <;> (first | rfl | trivial))
  clear t1 o1
  rintro ⟨m, j⟩ hm
  simp only at hm ⊢
  rcases Nat.lt_or_ge m 2 with hlt | hge
  case inr =>
    have c : ¬ (m : Int) < ((2 : Nat) : Int) := by omega
    simp only [go_sem, zaa, zak, zal, zam, zan, zah, ↓reduceIte, reduceCtorEq, zae, zag, zaj, zao, zap, decide_eq_false c, lendC5]
    repeat' (first
 | with_reducible refine zaz ?_ ?_
 | (refine gt_if (fun h => ?_) (fun h => ?_) <;> (try simp only [h]))
 | (apply cl_plain
    case hs => rfl
    case ha => (simp only [zab, zad, prepV, prepC, idx, hpL', lookR, zaa, if_true, if_false]; rfl)
    case h => (first | exact sane5_spec ..))
 | ((first | refine s1_id ?_ | refine swp_id ?_ | refine sops_id ?_ | refine s2_id ?_); simp only [decide_eq_false c, lendC5, zaI, zaM, zai, zaN, zaO, zaF, zaG, zaE, zaQ, zaR, zas, zau, go_sem, zaa, zak, zal, zam, zan, zah, ↓reduceIte, reduceCtorEq, zae, zag, zaj, zao, zap, zaP, zaJ, zaC, zaK, renO, bk, back, outUpsFrom, Ints_ren])
 | (intros; omega)
 | (intros; (try simp only [zaA, zaD, zaB, zay, zat, zav, decide_eq_true_eq, decide_eq_false_iff_not] at *); omega)
 | exact fs_nil trivial rfl
 | fail)
  have c : (m : Int) < ((2 : Nat) : Int) := by omega
  obtain ⟨K, kn, hK, hK1, hK2, hKn, hKc⟩ : ∃ (K : List Nd) (kn : Int), List.take 2 (List.drop (m * 2) [Cell.gsl (Cs l) 0 l.length none, int n, .gsl (Cs l2) 0 l2.length none, int n2]) = [.gsl (Cs K) 0 K.length none, int kn] ∧ 1 ≤ K.length ∧ K.length ≤ 20 ∧ NmR K ∧ CtR K := by
    have hm2 : m = 0 ∨ m = 1 := by omega
    rcases hm2 with rfl | rfl
    · exact ⟨l, n, rfl, hle.1, by omega, hnr, hct⟩
    · exact ⟨l2, n2, rfl, by omega, by omega, hnr2, hct2⟩
  have w1 := hword_spec D j hl hr
  have w1l := wdV_len D j
  generalize wdV D j = wd at *
  generalize nxA D j 12 = ja at *
  have w2 := name_spec hl hr ja
  have w2l := nmV_len D ja
  generalize nmV D ja = nm at *
  generalize nxA D ja 6 = jb at *
  simp only [go_sem, zaa, zak, zal, zam, zan, zah, ↓reduceIte, reduceCtorEq, zae, zag, zaj, zao, zap, decide_eq_true c, hK, lendC5]
  repeat' (first
 | with_reducible refine zaz ?_ ?_
 | (refine gt_if (fun h => ?_) (fun h => ?_) <;> (try simp only [h]))
 | (apply cl_lend
    case hr => (simp only [zab, zad, hpL', lookR, zaa, if_true, if_false]; first | exact map1 _ | exact map2 _ _ | exact map3 _ _ _)
    case ha => (simp only [zab, zad, prepV, prepC, idx, hpL', lookR, zaa, if_true, if_false]; rfl)
    case hs => rfl
    case hn => decide
    case h => (first | exact w1 .. | exact w2 ..)
    case hf => (simp only [zac, zaf, false_implies, implies_true, and_true, true_and, flat_cons, flat_nil, flat_ints, flat_bools, flat_app, Cs_flat, zaH, and_self, eq_self_iff_true, zai])
    case hl => (simp only [zas, zau]; decide))
 | ((first | refine s1_id ?_ | refine swp_id ?_ | refine sops_id ?_ | refine s2_id ?_); simp only [decide_eq_true c, hK, lendC5, dice, zaI, zaM, zai, zaN, zaO, zaF, zaG, zaE, zaQ, zaR, zas, zau, go_sem, zaa, zak, zal, zam, zan, zah, ↓reduceIte, reduceCtorEq, zae, zag, zaj, zao, zap, zaP, zaJ, zaC, zaK, renO, bk, back, outUpsFrom, Ints_ren])
 | (intros; omega)
 | (intros; (try simp only [zaA, zaD, zaB, zay, zat, zav, decide_eq_true_eq, decide_eq_false_iff_not] at *); omega))
  refine w_loop (ι := Nat × Nat) (fun s => ⟨[(1, s1 raw), (5, .one (.optr 0 0)), (8, .one (.optr 1 0)), (39, .one (.gsl [.gsl (Cs l) 0 l.length none, int n, .gsl (Cs l2) 0 l2.length none, int n2] 0 2 (some 2))), (40, i1 (2 : Nat)), (41, i1 m), (50, .one (.gsl [st wd, st nm, st raw] 0 3 (some 3))), (51, i1 (3 : Nat)), (52, i1 s.1)], [(0, some (dice D s.2)), (1, some ⟨[.gsl (Cs K) 0 K.length none, int kn], 2⟩)], 2⟩) (fun s => s.1 ≤ 3) (fun s => 3 - s.1) (0, jb) ?_ (zaZ _) ?_
  · (refine Imp.trans (imp_frz _ _ 11 ⟨[st wd, st nm, st raw], 1⟩ (by simp only [zaL, lookR, zaa, if_true, if_false, ↓reduceIte]) (by first | exact Ints_isG _ | exact Bools_isG _ | exact Cs_isG _ | (simp [zaV]; done))) ?_; simp only [frzTm, zba, zaY, zaW, frzHp, frzO, Ints_frz, Bools_frz, zab, zad, zaa, if_true, if_false, ↓reduceIte])
    (refine imp_ren _ _ _ [(0, 0, dice D jb), (1, 4, ⟨[.gsl (Cs K) 0 K.length none, int kn], 2⟩)] (by simp) (by simp) (by simp) (zaT rfl) ?_ rfl (by simp only [zac, zaf, false_implies, implies_true, and_true, zaL, lookR, zaa, if_true, if_false, ↓reduceIte, dice] <;> (repeat' apply zaz) <;> (first | rfl | trivial)) (by simp only [zac, zaf, false_implies, implies_true, and_true, true_and, flat_cons, flat_nil, flat_ints, flat_bools, flat_app, zaH, and_self, eq_self_iff_true, zai, dice]); simp only [zab, zad, zac, zaf, false_implies, implies_true, and_true, lk, slot, zaP, zaC, toN, zaa, if_true, if_false, ↓reduceIte, reduceCtorEq])
    all_goals ((repeat' apply zaz) <;> (first | rfl | trivial))
  clear w1 w2
  rintro ⟨i, j3⟩ hi
  simp only at hi ⊢
  rcases Nat.lt_or_ge i 3 with hilt | hige
  case inr =>
    have c2 : ¬ (i : Int) < ((3 : Nat) : Int) := by omega
    simp only [go_sem, zaa, zak, zal, zam, zan, zah, ↓reduceIte, reduceCtorEq, zae, zag, zaj, zao, zap, decide_eq_false c2, lendC5]
    repeat' (first
 | with_reducible refine zaz ?_ ?_
 | (refine gt_if (fun h => ?_) (fun h => ?_) <;> (try simp only [h]))
 | ((first | refine s1_id ?_ | refine swp_id ?_ | refine sops_id ?_ | refine s2_id ?_); simp only [decide_eq_false c2, lendC5, zaI, zaM, zai, zaN, zaO, zaF, zaG, zaE, zaQ, zaR, zas, zau, go_sem, zaa, zak, zal, zam, zan, zah, ↓reduceIte, reduceCtorEq, zae, zag, zaj, zao, zap, zaP, zaJ, zaC, zaK, renO, bk, back, outUpsFrom, Ints_ren])
 | (intros; omega)
 | (intros; (try simp only [zaA, zaD, zaB, zay, zat, zav, decide_eq_true_eq, decide_eq_false_iff_not] at *); omega))
    refine le_mk (m + 1, j3) ?_ hlt (by show 2 - (m + 1) < 2 - m; omega)
    (refine imp_ren _ _ _ [(0, 0, dice D j3)] (by simp) (by simp) (by simp) (zaT rfl) ?_ rfl (by simp only [zac, zaf, false_implies, implies_true, and_true, zaL, lookR, zaa, if_true, if_false, ↓reduceIte, dice] <;> (repeat' apply zaz) <;> (first | rfl | trivial)) (by simp only [zac, zaf, false_implies, implies_true, and_true, true_and, flat_cons, flat_nil, flat_ints, flat_bools, flat_app, zaH, and_self, eq_self_iff_true, zai, dice]); simp only [zab, zad, zac, zaf, false_implies, implies_true, and_true, lk, slot, zaP, zaC, toN, zaa, if_true, if_false, ↓reduceIte, reduceCtorEq])
    all_goals ((repeat' apply zaz) <;> (first | rfl | trivial | (simp only [zaS]; done) | (simp only [zaS]; rfl) | (simp only [zaS]; trivial)))
  have c2 : (i : Int) < ((3 : Nat) : Int) := by omega
  obtain ⟨s, hs, hsl⟩ : ∃ s : Str, (∀ d, [st wd, st nm, st raw].getD i d = st s) ∧ s.length ≤ 100 := by
    have hi3 : i = 0 ∨ i = 1 ∨ i = 2 := by omega
    rcases hi3 with rfl | rfl | rfl
    · exact ⟨wd, fun _ => rfl, by omega⟩
    · exact ⟨nm, fun _ => rfl, by omega⟩
    · exact ⟨raw, fun _ => rfl, by omega⟩
  have g1 := dgroup_spec D hl hr j3 K kn hK1 (by omega)
  generalize dgV D K j3 = g at *
  generalize dgA D K j3 = j4 at *
  have a1 := tadd_spec K kn g s (by omega) hKn hKc (by omega)
  have a2 := radd_spec K none kn g s (by omega) hKn (by omega)
  have a3 := trem_spec K kn g (by omega) hKn hKc
  have a4 := rrem_spec K none kn g (by omega) hKn
  have l1 := addM_len5 K kn g s
  have l2' := rmM_len5 K kn g
  generalize addM K kn g s = R1 at *
  generalize rmM K kn g = R2 at *
  obtain ⟨⟨y1, yn1⟩, id1, e1⟩ := R1
  obtain ⟨⟨y2, yn2⟩, e2⟩ := R2
  simp only at l1 l2'
  simp only [adV, rmV] at a1 a2 a3 a4
  have b1' := tsame_spec y1 yn1 none none (by omega)
  have b2 := tsame_spec y2 yn2 none none (by omega)
  simp only [go_sem, zaa, zak, zal, zam, zan, zah, ↓reduceIte, reduceCtorEq, zae, zag, zaj, zao, zap, decide_eq_true c2, hs, lendC5]
  repeat' (first
 | with_reducible refine zaz ?_ ?_
 | (refine gt_if (fun h => ?_) (fun h => ?_) <;> (try simp only [h]))
 | (apply cg_tp
    case hl => rfl
    case ha => (simp only [zab, zad, prepV, prepC, idx, hpL', lookR, zaa, if_true, if_false]; rfl)
    case hs => rfl
    case h => (first | exact g1 .. | exact a1 .. | exact a2 .. | exact a3 .. | exact a4 .. | exact b1' .. | exact b2 ..))
 | (apply cl_plain
    case hs => rfl
    case ha => (simp only [zab, zad, prepV, prepC, idx, hpL', lookR, zaa, if_true, if_false]; rfl)
    case h => (first | exact g1 .. | exact a1 .. | exact a2 .. | exact a3 .. | exact a4 .. | exact b1' .. | exact b2 ..))
 | (apply cl_lend
    case hr => (simp only [zab, zad, hpL', lookR, zaa, if_true, if_false]; first | exact map1 _ | exact map2 _ _ | exact map3 _ _ _)
    case ha => (simp only [zab, zad, prepV, prepC, idx, hpL', lookR, zaa, if_true, if_false]; rfl)
    case hs => rfl
    case hn => decide
    case h => (first | exact g1 .. | exact a1 .. | exact a2 .. | exact a3 .. | exact a4 .. | exact b1' .. | exact b2 ..)
    case hf => (simp only [zac, zaf, false_implies, implies_true, and_true, true_and, flat_cons, flat_nil, flat_ints, flat_bools, flat_app, Cs_flat, zaH, and_self, eq_self_iff_true, zai])
    case hl => (simp only [zas, zau]; decide))
 | ((first | refine s1_id ?_ | refine swp_id ?_ | refine sops_id ?_ | refine s2_id ?_); simp only [decide_eq_true c2, hs, decide_true, Bool.not_true, lendC5, dice, zaI, zaM, zai, zaN, zaO, zaF, zaG, zaE, zaQ, zaR, zas, zau, go_sem, zaa, zak, zal, zam, zan, zah, ↓reduceIte, reduceCtorEq, zae, zag, zaj, zao, zap, zaP, zaJ, zaC, zaK, renO, bk, back, outUpsFrom, Ints_ren])
 | (intros; omega)
 | (intros; (try simp only [zaA, zaD, zaB, zay, zat, zav, decide_eq_true_eq, decide_eq_false_iff_not] at *); omega))
  refine le_mk (i + 1, j4) ?_ hilt (by show 3 - (i + 1) < 3 - i; omega)
  (refine imp_ren _ _ _ [(0, 0, dice D j4), (1, 1, ⟨[.gsl (Cs K) 0 K.length none, int kn], 2⟩)] (by simp) (by simp) (by simp) (zaT rfl) ?_ rfl (by simp only [zac, zaf, false_implies, implies_true, and_true, zaL, lookR, zaa, if_true, if_false, ↓reduceIte, dice] <;> (repeat' apply zaz) <;> (first | rfl | trivial)) (by simp only [zac, zaf, false_implies, implies_true, and_true, true_and, flat_cons, flat_nil, flat_ints, flat_bools, flat_app, zaH, and_self, eq_self_iff_true, zai, dice]); simp only [zab, zad, zac, zaf, false_implies, implies_true, and_true, lk, slot, zaP, zaC, toN, zaa, if_true, if_false, ↓reduceIte, reduceCtorEq])
  all_goals ((repeat' apply zaz) <;> (first | rfl | trivial | (simp only [zaS]; done) | (simp only [zaS]; rfl) | (simp only [zaS]; trivial)))
theorem changes5_main (g0 : List Cell) (s0 : GTy Try.prog 12 22 g0) (g1 : List Cell) (s1 : GTy Try.prog 12 9 g1) : FnSpec Try.prog 5 [svOf Try.prog 22 g0, svOf Try.prog 9 g1] [] (b1 true) [] := by
  obtain ⟨l, rfl, hl, hr⟩ := gty_ints (n := 10) Try.underlying22 Try.underlying3 s0
  obtain ⟨a, rfl, ha⟩ := gty_str (n := 11) Try.underlying9 s1
  simp only [svOf, Try.underlying22, Try.underlying9, List.headD_cons]
  rw [bs_of a] at ha ⊢
  rw [bs_size] at ha
  exact changes5_spec l _ hr (Nat.le_trans ha (by decide))
end Go.Proofs.Ytnahpejlhfeleaa
