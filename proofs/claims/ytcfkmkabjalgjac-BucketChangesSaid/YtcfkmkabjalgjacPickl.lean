/- Picking one of a list of numbers by dice. -/
import Derived.Test.YtcfkmkabjalgjacPick
namespace Go.Proofs.Ytcfkmkabjalgjac
open Go.RowKit
set_option linter.unusedVariables false
set_option linter.unusedSimpArgs false

def PickL (b : Nat) (l : List Int) (w : World) (e : Ending) (w' : World) : Prop :=
  ∃ v : Int, v ∈ l ∧ e = .returned (.int .i64 v) ∧ DiceAt w' b ∧ Rolled b w w'

theorem pick_list (b a : Nat) (l : List Int) (w : World) (hD : DiceAt w b) (hn : 1 ≤ l.length) (hn9 : l.length ≤ 1000) (hab : a ≠ b) (hc : ∀ i, i < l.length → w.cell? ⟨a, i, none⟩ = some (.int .i64 (l.getD i 0))) :
    Calls Try.prog 12 #[.pointer (some ⟨b, 0, none⟩), .slice (some ⟨a, 0, none⟩) l.length l.length] w (PickL b l w) :=
  (pick_any b a l.length (fun i => l.getD i 0) w hD hn hn9 hab hc).mono fun e w' ⟨i, hi, he, hd, hr⟩ =>
    ⟨l.getD i 0, by simp [List.getD, hi], he, hd, hr⟩
end Go.Proofs.Ytcfkmkabjalgjac
