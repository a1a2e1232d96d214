/- Picking one of some numbers by dice. -/
import Derived.Test.YtcfkmkabjalgjacDice
namespace Go.Proofs.Ytcfkmkabjalgjac
open Go.RowKit
set_option linter.unusedVariables false
set_option linter.unusedSimpArgs false

def Picks (b n : Nat) (f : Nat → Int) (w : World) (e : Ending) (w' : World) : Prop :=
  ∃ i : Nat, i < n ∧ e = .returned (.int .i64 (f i)) ∧ DiceAt w' b ∧ Rolled b w w'

set_option maxHeartbeats 400000 in
theorem pick_any (b a n : Nat) (f : Nat → Int) (w : World) (hD : DiceAt w b) (hn : 1 ≤ n) (hn9 : n ≤ 1000) (hab : a ≠ b) (hc : ∀ i, i < n → w.cell? ⟨a, i, none⟩ = some (.int .i64 (f i))) :
    Calls Try.prog 12 #[.pointer (some ⟨b, 0, none⟩), .slice (some ⟨a, 0, none⟩) n n] w (Picks b n f w) := by
  have HD := Lib.hid hD
  have HC := Lib.hid hc
  clear hD hc
  go_enter Try.func12, Try.ntmps12
  go_wp2_with fail
  refine (next_any b n w HD.out (by omega)).mono ?_
  rintro e w1 ⟨k, k0, k1, rfl, hd, hr⟩
  obtain ⟨i, rfl⟩ := Int.eq_ofNat_of_zero_le k0
  have hi : i < n := by omega
  have hcell : w1.cell? ⟨a, i, none⟩ = some (.int .i64 (f i)) := by rw [hr.cell (p := ⟨a, i, none⟩) hab]; exact HC.out i hi
  have HR := Lib.hid hr
  have HDD := Lib.hid hd
  clear k0 k1 hr hd
  go_wp2
  go_ret
  exact ⟨i, hi, rfl, HDD.out, HR.out⟩
end Go.Proofs.Ytcfkmkabjalgjac
