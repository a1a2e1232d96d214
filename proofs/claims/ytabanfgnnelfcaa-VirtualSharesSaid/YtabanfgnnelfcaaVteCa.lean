/- Contracts of functions, told of values, on the way to VirtualShares. -/
import Derived.Test.YtabanfgnnelfcaaTyCa
import Derived.Test.YtabanfgnnelfcaaDiceCa
import Derived.Test.YtabanfgnnelfcaaVtdCa
-- NEWGO
-- PRUNE: cl_lendx
-- ISG: Its_isG
namespace Go.Proofs.Ytabanfgnnelfcaa
set_option linter.unusedVariables false
set_option linter.unusedSimpArgs false
open Go.Proofs.Ytabanfgnnelfcaa.Sh
set_option maxRecDepth 20000
section
variable {w0 : Base} {A : Nat → Prop} {N : Nat} {Fr : Nat → Prop} {tm : Nat → Option SV} {hp : Nat → Option Row} {a : Act} {w : World} {m : Mem} {π : Plc}
theorem CWL_get : ∀ {cs ds : List Cell}, CWL cs ds → ∀ (i : Nat) d, ds[i]? = some d → ∃ c, cs[i]? = some c ∧ CW c d
  | [], [], _, i, d, h => by simp at h
  | c :: cs, d :: ds, h, 0, x, hx => ⟨c, rfl, by simp at hx; exact hx ▸ h.1⟩
  | c :: cs, d :: ds, h, i + 1, x, hx => by simpa using CWL_get h.2 i x (by simpa using hx)
  | [], _ :: _, h, _, _, _ => h.elim
  | _ :: _, [], h, _, _, _ => h.elim
theorem CWL_len : ∀ {cs ds : List Cell}, CWL cs ds → cs.length = ds.length
  | [], [], _ => rfl
  | _ :: cs, _ :: ds, h => by simp [CWL_len h.2]
  | [], _ :: _, h => h.elim
  | _ :: _, [], h => h.elim
theorem RelAt_wrow (h : RelAt w0 A N Fr tm hp a w m π) {r : Nat} {cs ds : List Cell} {e : Nat} (hr : hp r = some ⟨cs, e⟩) (hw : CWL cs ds) (hs : ∀ d ∈ ds, d ≠ .un) : RelAt w0 A N Fr tm (upd hp r (some ⟨ds, e⟩)) a w m π := by
  have hl := CWL_len hw
  refine { h with rows := fun q row hq => ?_, rcl := fun q row hq => ?_, rsol := fun q row hq => ?_, live := fun q hq => ?_, fresh := fun q hq => ?_ }
  · unfold upd at hq
    by_cases e1 : q = r
    · subst e1
      simp only [↓reduceIte, Option.some.injEq] at hq
      subst hq
      have := h.rows q _ hr
      unfold RowOk at this ⊢
      cases hπ : π q with
      | none => rw [hπ] at this; exact this
      | some x =>
        rw [hπ] at this
        cases x with
        | none =>
          simp only at this ⊢
          rw [this] at hl
          exact List.length_eq_zero_iff.1 hl.symm
        | some p =>
          obtain ⟨k1, k2, arr, ty, k3, k4, k5, k6⟩ := this
          refine ⟨k1, k2, arr, ty, k3, k4, ⟨fun hz => by have := k5.1 hz; simp only at this ⊢; omega, fun hz => by have := k5.2 hz; simp only at this ⊢; omega⟩, fun i c hi => ?_⟩
          obtain ⟨c0, g1, g2⟩ := CWL_get hw i c hi
          obtain ⟨x, g3, g4⟩ := k6 i c0 g1
          exact ⟨x, g3, g2.1 _ _ _ g4⟩
    · simp only [e1, ↓reduceIte] at hq
      exact h.rows q row hq
  · unfold upd at hq
    by_cases e1 : q = r
    · subst e1
      simp only [↓reduceIte, Option.some.injEq] at hq
      subst hq
      exact CWL.cl hw (h.rcl q _ hr)
    · simp only [e1, ↓reduceIte] at hq
      exact h.rcl q row hq
  · unfold upd at hq
    by_cases e1 : q = r
    · subst e1
      simp only [↓reduceIte, Option.some.injEq] at hq
      subst hq
      exact hs
    · simp only [e1, ↓reduceIte] at hq
      exact h.rsol q row hq
  · unfold upd at hq
    by_cases e1 : q = r
    · simp [e1] at hq
    · simp only [e1, ↓reduceIte] at hq; exact h.live q hq
  · unfold upd
    have := h.fresh q hq
    by_cases e1 : q = r
    · subst e1; rw [hr] at this; cases this
    · simp only [e1, ↓reduceIte]; exact this
end
theorem imp_wrow (k : Nat) (s : St) (r : Nat) {cs ds : List Cell} {e : Nat} (hr : s.hpF r = some ⟨cs, e⟩) (hw : CWL cs ds) (hs : ∀ d ∈ ds, d ≠ .un) : Imp k s ⟨s.tm, (r, some ⟨ds, e⟩) :: s.hp, s.nx⟩ := by
  intro w0 A N a w m π hk h
  refine ⟨m, π, ?_⟩
  have e : (St.hpF ⟨s.tm, (r, some ⟨ds, e⟩) :: s.hp, s.nx⟩) = upd s.hpF r (some ⟨ds, e⟩) := by
    funext q
    simp only [St.hpF, lookR, upd]
    by_cases e1 : r = q
    · simp [e1]
    · simp [e1, Ne.symm e1]
  rw [e]
  exact RelAt_wrow h hr hw hs
theorem nxV_rng (l : List Int) (i : Nat) (n : Int) (h : 0 < n) : 0 ≤ nxV l i n ∧ nxV l i n < n := by
  unfold nxV
  split
  · omega
  · exact ⟨Int.emod_nonneg _ (by omega), Int.emod_lt_of_pos _ h⟩
def lendQ (f : Nat) : List Nat := if f = 24 then [0] else if f = 25 then [0] else if f = 41 then [0] else if f = 42 then [0] else if f = 13 then [0] else if f = 38 then [0] else if f = 20 then [0] else []
end Go.Proofs.Ytabanfgnnelfcaa
