/- The dice of the statements (groupcontrolmade): a list of numbers and a place in it. Contracts of Light, Roll and Next. -/
import Derived.Test.YtcfkmkabjalgjacRows
import Derived.WalkKit
import Derived.WalkSpells
import Derived.WalkLawsBesides
import Derived.Lib.Hide
import Derived.Deep.QuietTactic
import Derived.BigQuiet
import Derived.OpenShut
namespace Go.Proofs.Ytcfkmkabjalgjac
open Go.RowKit
set_option linter.unusedVariables false
set_option linter.unusedSimpArgs false

/-- A slice of integers: nil, or a row of cells. -/
def IsRow (k : IntKind) (w : World) (a : Option Addr) (len cap : Nat) (zs : List Int) : Prop :=
  (a = none ∧ len = 0 ∧ cap = 0 ∧ zs = []) ∨
  ∃ x, a = some x ∧ len ≤ cap ∧ cap ≤ maxLen ∧ zs.length = cap ∧ (∀ i, i < zs.length → w.cell? (x.add i) = some (.int k (zs.getD i 0))) ∧ ∀ n ∈ zs, (Lit.int k n).wf = true

/-- Only block b has turned. -/
structure Rolled (b : Nat) (w w' : World) : Prop where
  os : w'.os = w.os
  tape : w'.tape = w.tape
  output : w'.output = w.output
  size : w'.heap.size = w.heap.size
  block : ∀ k, k ≠ b → w'.heap[k]? = w.heap[k]?

theorem Rolled.below {b B : Nat} {w w' : World} (h : Rolled b w w') (hb : B ≤ b) : Below B w w' :=
  ⟨h.os, h.tape, h.output, by rw [h.size]; exact Nat.le_refl _, fun k hk => h.block k (by omega)⟩
theorem Rolled.cell {b : Nat} {w w' : World} (h : Rolled b w w') {p : Addr} (hp : p.block ≠ b) : w'.cell? p = w.cell? p := World.cell?_of_block (w := w) (h.block p.block hp)
theorem Rolled.frozen {b : Nat} {w w' : World} (h : Rolled b w w') {p : Addr} (hp : p.block ≠ b) : w'.frozen? p = w.frozen? p := World.frozen?_of_block (w := w) (h.block p.block hp)
theorem Rolled.trans {b : Nat} {u v w : World} (h : Rolled b u v) (k : Rolled b v w) : Rolled b u w :=
  ⟨k.os.trans h.os, k.tape.trans h.tape, k.output.trans h.output, k.size.trans h.size, fun i hi => (k.block i hi).trans (h.block i hi)⟩
theorem Rolled.drewN {b : Nat} (w : World) (n : Nat) : Rolled b w (w.drewN n) := ⟨rfl, rfl, rfl, rfl, fun _ _ => rfl⟩
theorem Rolled.setCell {b o : Nat} (w : World) (v : Value) : Rolled b w (w.setCell ⟨b, o, none⟩ v) :=
  ⟨rfl, rfl, rfl, by simp [World.setCell], fun k hk => Below.heap_setCell _ _ _ _ hk⟩

/-- Block b holds dice over a list that lies below. -/
def DiceAt (w : World) (b : Nat) : Prop :=
  ∃ (a : Option Addr) (len cap t : Nat) (zs : List Int), w.cell? ⟨b, 0, none⟩ = some (.slice a len cap) ∧ w.cell? ⟨b, 1, none⟩ = some (.int .i64 t) ∧ w.frozen? ⟨b, 1, none⟩ = false ∧
    IsRow .i64 w a len cap zs ∧ (∀ x, a = some x → 0 < cap → x.block < b) ∧ b < w.heap.size

theorem IsRow.keep {k : IntKind} {w w' : World} {a : Option Addr} {len cap : Nat} {zs : List Int} (h : IsRow k w a len cap zs) (hc : ∀ x i, a = some x → i < cap → w'.cell? (x.add i) = w.cell? (x.add i)) : IsRow k w' a len cap zs := by
  rcases h with h | ⟨x, rfl, h1, h2, h3, h4, h5⟩
  · exact .inl h
  · exact .inr ⟨x, rfl, h1, h2, h3, fun i hi => by rw [hc x i rfl (by omega)]; exact h4 i hi, h5⟩

theorem add_block (x : Addr) (i : Nat) : (x.add i).block = x.block := by unfold Addr.add; split <;> rfl

/-- What a call of Next leaves. -/
def Rolls (b : Nat) (n : Int) (w : World) (e : Ending) (w' : World) : Prop :=
  ∃ k : Int, 0 ≤ k ∧ (k < n ∨ k = 0) ∧ e = .returned (.int .i64 k) ∧ DiceAt w' b ∧ Rolled b w w'

/-- Dice stay while another block turns. -/
theorem DiceAt.keep {w w' : World} {b : Nat} (h : DiceAt w b) (hb : ∀ k, k ≤ b → w'.heap[k]? = w.heap[k]?) (hs : w.heap.size ≤ w'.heap.size) : DiceAt w' b := by
  obtain ⟨a, len, cap, t, zs, h0, h1, h2, h3, h4, h5⟩ := h
  refine ⟨a, len, cap, t, zs, ?_, ?_, ?_, ?_, h4, by omega⟩
  · rw [World.cell?_of_block (w := w) (hb b (Nat.le_refl _))]; exact h0
  · rw [World.cell?_of_block (w := w) (hb b (Nat.le_refl _))]; exact h1
  · rw [World.frozen?_of_block (w := w) (hb b (Nat.le_refl _))]; exact h2
  · exact h3.keep fun x i hx hi => World.cell?_of_block (w := w) (by rw [add_block]; exact hb x.block (Nat.le_of_lt (h4 x hx (by omega))))

theorem tmod_bd (z n : Int) (h : 0 < n) : -n < z.tmod n ∧ z.tmod n < n := by
  rcases Int.le_total 0 z with hz | hz
  · have h1 := Int.tmod_nonneg n hz
    have h2 := Int.tmod_lt_of_pos z h
    omega
  · obtain ⟨y, rfl⟩ : ∃ y, z = -y := ⟨-z, by omega⟩
    have h1 := Int.tmod_nonneg n (show 0 ≤ y by omega)
    have h2 := Int.tmod_lt_of_pos y h
    rw [Int.neg_tmod]
    omega

set_option maxHeartbeats 1000000 in
theorem next_none (b : Nat) (n : Int) (w : World) (a : Option Addr) (len cap t : Nat) (h0 : w.cell? ⟨b, 0, none⟩ = some (.slice a len cap)) (h1 : w.cell? ⟨b, 1, none⟩ = some (.int .i64 t)) (hn : len ≤ t ∨ n < 1) :
    Calls Try.prog 14 #[.pointer (some ⟨b, 0, none⟩), .int .i64 n] w fun e w' => e = .returned (.int .i64 0) ∧ ∃ q, w' = w.drewN q := by
  by_cases hl : len ≤ t
  · have hg : decide ((len : Int) ≤ (t : Int)) = true := by simp; omega
    go_enter Try.func14, Try.ntmps14
    go_wp2
    go_quiet (fail)
    go_wp2
    go_ret
    exact ⟨rfl, _, rfl⟩
  · have hn1 : n < 1 := by omega
    have hg : decide ((len : Int) ≤ (t : Int)) = false := by simp; omega
    have hg2 : decide (n < 1) = true := by simp; omega
    go_enter Try.func14, Try.ntmps14
    go_wp2
    go_quiet (fail)
    go_wp2
    go_ret
    exact ⟨rfl, _, rfl⟩

set_option maxHeartbeats 1000000 in
theorem next_some (b : Nat) (n : Int) (w : World) (ab ao : Nat) (len cap t : Nat) (z : Int) (h0 : w.cell? ⟨b, 0, none⟩ = some (.slice (some ⟨ab, ao, none⟩) len cap)) (h1 : w.cell? ⟨b, 1, none⟩ = some (.int .i64 t)) (hf : w.frozen? ⟨b, 1, none⟩ = false)
    (hz : w.cell? ⟨ab, ao + t, none⟩ = some (.int .i64 z)) (hab : ab < b) (ht : t < len) (hlen : len ≤ 9223372036854775807) (hn : 1 ≤ n) (hn9 : n ≤ 4611686018427387904) :
    Calls Try.prog 14 #[.pointer (some ⟨b, 0, none⟩), .int .i64 n] w fun e w' => e = .returned (.int .i64 (if z.tmod n < 0 then z.tmod n + n else z.tmod n)) ∧ ∃ q q2, w' = ((w.drewN q).setCell ⟨b, 1, none⟩ (.int .i64 (t + 1 : Nat))).drewN q2 := by
  have hg : decide ((len : Int) ≤ (t : Int)) = false := by simp; omega
  have hg2 : decide (n < 1) = false := by simp; omega
  have hnz : (n == 0) = false := by simp; omega
  obtain ⟨m0, m1⟩ := tmod_bd z n (by omega)
  obtain ⟨r, hr⟩ : ∃ r, z.tmod n = r := ⟨_, rfl⟩
  rw [hr] at m0 m1 ⊢
  have hne : ab ≠ b := by omega
  by_cases hs : r < 0
  · rw [if_pos hs]
    go_enter Try.func14, Try.ntmps14
    go_wp2
    go_quiet (fail)
    go_wp2
    go_quiet (fail)
    go_wp2
    go_ret
    exact ⟨rfl, _, _, rfl⟩
  · rw [if_neg hs]
    have hs0 : 0 ≤ r := by omega
    go_enter Try.func14, Try.ntmps14
    go_wp2
    go_quiet (fail)
    go_wp2
    go_quiet (fail)
    go_wp2
    go_ret
    exact ⟨rfl, _, _, rfl⟩

theorem next_any (b : Nat) (n : Int) (w : World) (hD : DiceAt w b) (hn9 : n ≤ 4611686018427387904) :
    Calls Try.prog 14 #[.pointer (some ⟨b, 0, none⟩), .int .i64 n] w (Rolls b n w) := by
  have hD' := hD
  obtain ⟨a, len, cap, t, zs, h0, h1, h2, h3, h4, h5⟩ := hD
  by_cases hn : len ≤ t ∨ n < 1
  · refine (next_none b n w a len cap t h0 h1 hn).mono fun e w' ⟨he, q, hw⟩ => ?_
    subst hw
    exact ⟨0, Int.le_refl _, .inr rfl, he, hD'.keep (fun _ _ => rfl) (Nat.le_refl _), Rolled.drewN w q⟩
  · rcases h3 with ⟨rfl, rfl, rfl, rfl⟩ | ⟨x, rfl, hl, hm, hz, hc, hwf⟩
    · exfalso; omega
    · obtain ⟨ab, ao, rfl, hcs⟩ := ints_at hc (by omega)
      have hcell' := hcs t (by omega)
      have hab : ab < b := h4 _ rfl (by omega)
      have hn1 : 1 ≤ n := by omega
      have hlm : len ≤ 9223372036854775807 := by unfold maxLen at hm; omega
      refine (next_some b n w ab ao len cap t _ h0 h1 h2 hcell' hab (by omega) hlm hn1 hn9).mono fun e w' ⟨he, q, q2, hw⟩ => ?_
      obtain ⟨m0, m1⟩ := tmod_bd (zs.getD t 0) n (by omega)
      have hR : Rolled b w w' := by
        subst hw
        exact ((Rolled.drewN w q).trans (Rolled.setCell _ _)).trans (Rolled.drewN _ q2)
      refine ⟨_, ?_, ?_, he, ?_, hR⟩
      · split <;> omega
      · left; split <;> omega
      · refine ⟨some ⟨ab, ao, none⟩, len, cap, t + 1, zs, ?_, ?_, ?_, .inr ⟨_, rfl, hl, hm, hz, fun i hi => ?_, hwf⟩, ?_, by rw [hR.size]; exact h5⟩
        · subst hw; simp [go_sem, h0]
        · subst hw; simp [go_sem, h1]
        · subst hw; simp [go_sem, h2]
        · rw [hR.cell (by rw [add_block]; show ab ≠ b; omega)]; exact hc i hi
        · intro x hx _; cases hx; exact hab

theorem IsRow.lt {k : IntKind} {w : World} {a : Option Addr} {len cap : Nat} {zs : List Int} (h : IsRow k w a len cap zs) : ∀ x, a = some x → 0 < cap → x.block < w.heap.size := by
  intro x hx hcap
  rcases h with ⟨rfl, _⟩ | ⟨y, rfl, h1, h2, h3, h4, h5⟩
  · cases hx
  · cases hx
    have := World.block_lt_of_cell? w _ (h4 0 (by omega))
    rwa [add_block] at this

theorem dice_new {w : World} {a : Option Addr} {len cap : Nat} {zs : List Int} (h : IsRow .i64 w a len cap zs) (T : TypeId) : DiceAt (w.alloc (.cells #[.slice a len cap, .int .i64 0] T)) w.heap.size := by
  refine ⟨a, len, cap, 0, zs, ?_, ?_, ?_, ?_, h.lt, by simp⟩
  · simp [go_sem]
  · simp [go_sem]
  · simp [go_sem]
  · refine h.keep fun x i hx hi => World.cell?_of_block (w := w) ?_
    rw [add_block]
    exact Below.heap_alloc _ _ _ (h.lt x hx (by omega))

set_option maxHeartbeats 400000 in
theorem light_any (a : Option Addr) (len cap : Nat) (w : World) :
    Calls Try.prog 8 #[.slice a len cap] w fun e w' => e = .returned (.bool (decide (len ≤ 600))) ∧ w = w' := by
  by_cases h : len ≤ 600
  · go_enter Try.func8, Try.ntmps8
    go_wp2
    go_ret
    exact ⟨by simp [h]; omega, rfl⟩
  · go_enter Try.func8, Try.ntmps8
    go_wp2
    go_ret
    exact ⟨by simp [h]; omega, rfl⟩

/-- What a call of Roll leaves: dice in a new block. -/
def Rolling (w : World) (e : Ending) (w' : World) : Prop :=
  e = .returned (.pointer (some ⟨w.heap.size, 0, none⟩)) ∧ DiceAt w' w.heap.size ∧ Below w.heap.size w w' ∧ w'.heap.size = w.heap.size + 1

set_option maxHeartbeats 400000 in
theorem roll_any (a : Option Addr) (len cap : Nat) (zs : List Int) (w : World) (h : IsRow .i64 w a len cap zs) :
    Calls Try.prog 10 #[.slice a len cap] w (Rolling w) := by
  have HD := Lib.hid (dice_new h)
  clear h
  go_enter Try.func10, Try.ntmps10
  go_wp2
  go_ret
  exact ⟨rfl, HD.out _, (Below.refl _ _).alloc (Nat.le_refl _) _, by simp⟩
end Go.Proofs.Ytcfkmkabjalgjac
