/- From a contract that says 'true' to the walk that a statement's proof asks for. -/
import Derived.Test.YtfkcolodbjonkabDoorShT
import Derived.Below
namespace Go.Proofs.YtfkcolodbjonkabDoor.Sh
open Go.RowKit
set_option linter.unusedVariables false
set_option linter.unusedSimpArgs false

def memW (w : World) : Mem := fun ad => if ad.spot = none ∧ ad.block < w.heap.size then w.cell? ad else none

theorem memW_some {w : World} {ad : Addr} {v : Value} (h : w.cell? ad = some v) : memW w ad = some v := by
  unfold memW
  have h0 := h
  unfold World.cell? at h
  split at h
  · rename_i c e f hb
    split at h
    · cases h
    · rename_i hs
      rw [if_pos ⟨by simpa using hs, (Array.getElem?_eq_some_iff.1 hb).1⟩]
      exact h0
  · cases h

theorem GL.none {P : Program} {A : Nat → Prop} {w : World} (h : (tabs.all fun t => (P.globalNamed t.1).isNone) = true) : GL P A w := by
  intro t ht b hb
  have := List.all_eq_true.1 h t ht
  rw [hb] at this
  cases this
theorem GL.of {P : Program} {w : World} (h : ∀ t ∈ tabs, ∀ b, P.globalNamed t.1 = some b → Lib.TabIs P w t.1 t.2.1 t.2.2) : GL P (fun b => w.heap.size ≤ b) w := by
  intro t ht b hb
  refine ⟨fun hle => ?_, h t ht b hb⟩
  have h2 : w.var? P t.1 = some _ := h t ht b hb
  unfold World.var? at h2
  rw [hb] at h2
  simp only [Option.bind_some, Array.getElem?_eq_none hle] at h2
  cases h2
theorem entry {P : Program} {f : FuncId} {args : List SV} (h : FnSpec P f args [] (b1 true) []) (w : World) (vals : Array Value) (hv : VSL (memW w) (fun _ => none) args vals.toList) (hcl : SV.clL (0 ≤ ·) args) (hg : GL P (fun b => w.heap.size ≤ b) w) :
    Calls P f vals w fun e w' => e = .returned (.bool true) ∧ Below w.heap.size w w' := by
  have hrel : RelAt P (base w (memW w) (fun _ => none) 0 (fun b => w.heap.size ≤ b)) (fun b => w.heap.size ≤ b) 0 (0 ≤ ·) (fun _ => none) (hpL (([] : List Row).map some)) ⟨#[], []⟩ w (memW w) (fun _ => none) :=
    { defers := rfl, size := rfl, tms := fun k v hk => by simp at hk, tcl := fun k v hk => by simp at hk, rows := fun r row hr => by simp [hpL] at hr, rcl := fun r row hr => by simp [hpL] at hr,
      rsol := fun r row hr => by simp [hpL] at hr, live := fun r _ => rfl, fresh := fun r _ => by simp [hpL], inj := fun r r' p p' hr => by simp at hr,
      mok := fun ad v hm => by
        unfold memW at hm
        split at hm
        · rename_i hs; exact ⟨hs.1, hm⟩
        · cases hm
      dis := fun r p ad v hr => by simp at hr, new := fun b hb => hb, keep := ⟨rfl, rfl, rfl, Nat.le_refl _, fun _ _ _ => rfl⟩,
      mg := fun ad v hm => .inl (by rw [hm]; rfl), gnew := fun ad ha => .inr ha, org := fun r _ => .inr rfl, frk := fun r hr => hr, gl := hg }
  refine (h.2 w vals (memW w) (fun _ => none) (fun b => w.heap.size ≤ b) (fun b => by simp) hrel hv hcl).mono ?_
  rintro e w' ⟨v, m', π', rfl, h1, h2, h3⟩
  have hv := (vs_sc h2).1
  subst hv
  refine ⟨rfl, h1.keep.os, h1.keep.tape, h1.keep.output, h1.keep.size, fun k hk => h1.keep.block k hk (by simpa using hk)⟩

theorem wf_i64 {n : Int} (h : (Lit.int .i64 n).wf = true) : -9223372036854775808 ≤ n ∧ n ≤ 9223372036854775807 := by
  have : IntKind.i64.min ≤ n ∧ n ≤ IntKind.i64.max := by simpa [Lit.wf] using h
  exact this
end Go.Proofs.YtfkcolodbjonkabDoor.Sh
