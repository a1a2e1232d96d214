/- From a contract that says 'true' to the walk that a statement's proof asks for. -/
import Derived.Test.YtdpekegikbbeoaaShT
import Derived.Below
namespace Go.Proofs.Ytdpekegikbbeoaa.Sh
open Go.RowKit
set_option linter.unusedVariables false
set_option linter.unusedSimpArgs false

/-- all that is there, as data that were given -/
def memW (w : World) : Mem := fun ad => if ad.spot = none ∧ ad.block < w.heap.size then w.cell? ad else none

def RowIs (k : IntKind) (w : World) (a : Option Addr) (len cap : Nat) (zs : List Int) : Prop :=
  (a = none ∧ len = 0 ∧ cap = 0 ∧ zs = []) ∨
  ∃ x, a = some x ∧ len ≤ cap ∧ cap ≤ maxLen ∧ zs.length = cap ∧ (∀ i, i < zs.length → w.cell? (x.add i) = some (.int k (zs.getD i 0))) ∧ ∀ n ∈ zs, (Lit.int k n).wf = true

theorem memW_some {w : World} {ad : Addr} {v : Value} (h : w.cell? ad = some v) : memW w ad = some v := by
  unfold memW
  have h0 := h
  unfold World.cell? at h
  split at h
  · rename_i c e f hb
    split at h
    · cases h
    · rename_i hs
      rw [if_pos ⟨by simpa using hs, (Array.getElem?_eq_some_iff.1 hb).1⟩]
      exact h0
  · cases h

theorem entry {P : Program} {f : FuncId} {args : List SV} (h : FnSpec P f args [] (b1 true) []) (w : World) (vals : Array Value) (hv : VSL (memW w) (fun _ => none) args vals.toList) (hcl : SV.clL (0 ≤ ·) args) :
    Calls P f vals w fun e w' => e = .returned (.bool true) ∧ Below w.heap.size w w' := by
  have hrel : RelAt (base w (memW w) (fun _ => none) 0 (fun b => w.heap.size ≤ b)) (fun b => w.heap.size ≤ b) 0 (0 ≤ ·) (fun _ => none) (hpL (([] : List Row).map some)) ⟨#[], []⟩ w (memW w) (fun _ => none) :=
    { defers := rfl, size := rfl, tms := fun k v hk => by simp at hk, tcl := fun k v hk => by simp at hk, rows := fun r row hr => by simp [hpL] at hr, rcl := fun r row hr => by simp [hpL] at hr,
      rsol := fun r row hr => by simp [hpL] at hr, live := fun r _ => rfl, fresh := fun r _ => by simp [hpL], inj := fun r r' p p' hr => by simp at hr,
      mok := fun ad v hm => by
        unfold memW at hm
        split at hm
        · rename_i hs; exact ⟨hs.1, hm⟩
        · cases hm
      dis := fun r p ad v hr => by simp at hr, new := fun b hb => hb, keep := ⟨rfl, rfl, rfl, Nat.le_refl _, fun _ _ _ => rfl⟩,
      mg := fun ad v hm => .inl (by rw [hm]; rfl), gnew := fun ad ha => .inr ha, org := fun r _ => .inr rfl, frk := fun r hr => hr }
  refine (h.2 w vals (memW w) (fun _ => none) (fun b => w.heap.size ≤ b) (fun b => by simp) hrel hv hcl).mono ?_
  rintro e w' ⟨v, m', π', rfl, h1, h2, h3⟩
  have hv := (vs_sc h2).1
  subst hv
  refine ⟨rfl, h1.keep.os, h1.keep.tape, h1.keep.output, h1.keep.size, fun k hk => h1.keep.block k hk (by simpa using hk)⟩

theorem add_block (x : Addr) (i : Nat) : (x.add i).block = x.block := by unfold Addr.add; split <;> rfl

theorem vs_row {w : World} {a : Option Addr} {len cap : Nat} {zs : List Int} (h : RowIs .i64 w a len cap zs) : VS (memW w) (fun _ => none) (gi (zs.take len) none) (.slice a len cap) := by
  rcases h with ⟨rfl, rfl, rfl, rfl⟩ | ⟨x, rfl, hl, hm, hz, hc, hw⟩
  · exact VG.gnil _ _ _ (fun k hk => by cases hk)
  · have hlen : (zs.take len).length = len := by rw [List.length_take]; omega
    show VG (memW w) (.gsl (Ints (zs.take len)) 0 (zs.take len).length none) (.slice (some x) len cap)
    rw [hlen]
    have hx : 0 < len → x = ⟨x.block, x.off, none⟩ := by
      intro h0
      have := hc 0 (by omega)
      unfold Addr.add at this
      rw [if_pos rfl] at this
      unfold World.cell? at this
      split at this
      · split at this
        · cases this
        · rename_i hs
          cases x
          simp at hs ⊢
          exact hs
      · cases this
    refine VG.gsl _ 0 len none x.block x.off cap x (fun i => .int .i64 (zs.getD i 0)) (fun k hk => by cases hk) hl ?_ ?_ ?_
    · intro i c hi
      have hlt : i < len := by
        have := (List.getElem?_eq_some_iff.1 hi).1
        rw [Ints_length, hlen] at this; exact this
      have h1 := hc i (by omega)
      have h2 := hx (by omega)
      rw [h2, addr_add] at h1
      exact memW_some h1
    · intro i c hi
      unfold Ints at hi
      rw [List.getElem?_map] at hi
      have hlt : i < len := by
        cases hq : (zs.take len)[i]? with
        | none => rw [hq] at hi; cases hi
        | some q => have := (List.getElem?_eq_some_iff.1 hq).1; omega
      rw [List.getElem?_take_of_lt hlt] at hi
      have : c = int (zs.getD i 0) := by
        rw [List.getD_eq_getElem?_getD]
        cases hq : zs[i]? with
        | none => rw [hq] at hi; cases hi
        | some q => rw [hq] at hi; simp at hi; exact hi.symm
      subst this
      exact .sc _ rfl
    · rcases Nat.eq_zero_or_pos len with h0 | h0
      · exact .inr h0
      · left; simpa using hx h0

theorem wf_i64 {n : Int} (h : (Lit.int .i64 n).wf = true) : -9223372036854775808 ≤ n ∧ n ≤ 9223372036854775807 := by
  have : IntKind.i64.min ≤ n ∧ n ≤ IntKind.i64.max := by simpa [Lit.wf] using h
  exact this
theorem wf_u16 {n : Int} (h : (Lit.int .u16 n).wf = true) : 0 ≤ n ∧ n ≤ 65535 := by
  have : IntKind.u16.min ≤ n ∧ n ≤ IntKind.u16.max := by simpa [Lit.wf] using h
  exact this
theorem wf_u8 {n : Int} (h : (Lit.int .u8 n).wf = true) : 0 ≤ n ∧ n ≤ 255 := by
  have : IntKind.u8.min ≤ n ∧ n ≤ IntKind.u8.max := by simpa [Lit.wf] using h
  exact this
theorem wf_u32 {n : Int} (h : (Lit.int .u32 n).wf = true) : 0 ≤ n ∧ n ≤ 4294967295 := by
  have : IntKind.u32.min ≤ n ∧ n ≤ IntKind.u32.max := by simpa [Lit.wf] using h
  exact this
theorem row_rng {w : World} {a : Option Addr} {len cap : Nat} {zs : List Int} (h : RowIs .i64 w a len cap zs) : ∀ x ∈ zs.take len, -9223372036854775808 ≤ x ∧ x ≤ 9223372036854775807 := by
  intro x hx
  rcases h with ⟨rfl, rfl, rfl, rfl⟩ | ⟨y, rfl, hl, hm, hz, hc, hw⟩
  · simp at hx
  · exact wf_i64 (hw x (List.mem_of_mem_take hx))
theorem vs_int (m : Mem) (π : Plc) (k : IntKind) (n : Int) : VS m π (.one (.sc (.int k n))) (.int k n) := VG.sc _ rfl
theorem vs_bool (m : Mem) (π : Plc) (b : Bool) : VS m π (.one (.sc (.bool b))) (.bool b) := VG.sc _ rfl
theorem vs_str (m : Mem) (π : Plc) (b : ByteArray) : VS m π (.one (.sc (.string b))) (.string b) := VG.sc _ rfl

end Go.Proofs.Ytdpekegikbbeoaa.Sh
