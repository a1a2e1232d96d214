/- Contracts of functions, told of values, on the way to NamePaths. -/
import Derived.Test.YtfkcolodbjonkaaDoorTyEa
import Derived.Test.YtfkcolodbjonkaaDoorNa4Ea
import Derived.Test.YtfkcolodbjonkaaDoorSfEa
import Derived.Lib.Join
-- NEWGO
-- PRUNE: cl_lendx cl_use cl_lend
-- ISG: Strs_isG
-- FLAT: Strs_flat
namespace Go.Proofs.YtfkcolodbjonkaaDoor
set_option linter.unusedVariables false
set_option linter.unusedSimpArgs false
open Go.Proofs.YtfkcolodbjonkaaDoor.Sh
set_option maxRecDepth 20000
def jn (xs : List Str) (sep : Str) : Str := Lib.join xs sep
theorem join_spec (xs : List Str) (sep : Str) (cap : Option Nat) (hN : xs.length ≤ 140737488355328) (hl : (jn xs sep).length ≤ 140737488355328) : FnSpec Tryd.prog 33 [gs xs cap, s1 sep] [] (s1 (jn xs sep)) [] := by
  refine FnSpec.of_calls Tryd.func33 (by kernel_rfl) (by kernel_rfl) trivial fun w vals m hm hv => ?_
  generalize hvs : vals.toList = vs at hv
  match vs, hv with
  | [u, v], ⟨hu, hw, _⟩ =>
    have hvals : vals = #[u, v] := by apply Array.ext'; exact hvs
    have ev : v = .string (bs sep) := by cases hw; rfl
    subst hvals; subst ev
    by_cases h0 : xs.length = 0
    · have hx : xs = [] := List.length_eq_zero_iff.1 h0
      subst hx
      have hu2 : ∃ a c, u = .slice a 0 c := by
        cases hu with
        | gsl _ _ _ _ b o c ad f _ _ _ _ _ => exact ⟨_, _, rfl⟩
        | gnil _ _ _ _ => exact ⟨_, _, rfl⟩
      obtain ⟨a, c, rfl⟩ := hu2
      refine (Tryd.strings_Join_none a c (bs sep) w).mono fun e w' ⟨h1, h2⟩ => ?_
      subst h1; subst h2
      exact ⟨_, rfl, VG.sc _ rfl, RowKit.Below.refl _ _⟩
    · have hu2 : ∃ (b o c : Nat) (f : Nat → Value), u = .slice (some ⟨b, o, none⟩) xs.length c ∧ xs.length ≤ c ∧ (∀ (i : Nat) x, (Strs xs)[i]? = some x → m ⟨b, o + i, none⟩ = some (f i)) ∧ (∀ (i : Nat) x, (Strs xs)[i]? = some x → VG m x (f i)) := by
        obtain ⟨n, hn⟩ : ∃ n, xs.length = n := ⟨_, rfl⟩
        have hu' : VG m (.gsl (Strs xs) 0 n cap) u := by rw [← hn]; exact hu
        rw [hn] at h0 ⊢
        cases hu' with
        | gsl _ _ _ _ b o c ad f hc hlc hm hv ha =>
          have had : ad = ⟨b, o + 0, none⟩ := ha.resolve_right h0
          subst had
          exact ⟨b, o, c, f, rfl, hlc, hm, hv⟩
        | gnil _ _ _ _ => exact absurd rfl h0
      obtain ⟨b, o, c, f, rfl, hlc, hm2, hv2⟩ := hu2
      have hat : ∀ (j : Nat) x, (xs.map bs)[j]? = some x → w.cell? ⟨b, o + j, none⟩ = some (.string x) := by
        intro j x hj
        rw [List.getElem?_map] at hj
        cases hx : xs[j]? with
        | none => rw [hx] at hj; cases hj
        | some y =>
          rw [hx] at hj
          cases hj
          have hs : (Strs xs)[j]? = some (st y) := by simp [Strs, hx]
          have h1 := (hm _ _ (hm2 j _ hs)).2
          have h2 := hv2 j _ hs
          cases h2' : f j <;> rw [h2'] at h2 h1 <;> cases h2
          exact h1
      have hlt : b < w.heap.size := by
        obtain ⟨y, hy⟩ : ∃ y, xs[0]? = some y := ⟨_, List.getElem?_eq_getElem (by omega)⟩
        have := hat 0 (bs y) (by simp [hy])
        exact World.block_lt_of_cell? _ _ this
      have hmap : (xs.map bs).map (·.data.toList) = xs := by
        rw [List.map_map]
        have : ((fun x : ByteArray => x.data.toList) ∘ bs) = id := by funext l; exact bs_data l
        rw [this, List.map_id]
      have hj := Tryd.strings_Join b o c (xs.map bs) (bs sep) w hat hlt (by simpa using hN) (by simpa using hlc) (by rw [hmap, bs_data]; exact hl)
      rw [hmap, bs_data, List.length_map] at hj
      refine hj.mono fun e w' ⟨h1, h2⟩ => ?_
      subst h1
      exact ⟨_, rfl, VG.sc _ rfl, h2⟩
end Go.Proofs.YtfkcolodbjonkaaDoor
