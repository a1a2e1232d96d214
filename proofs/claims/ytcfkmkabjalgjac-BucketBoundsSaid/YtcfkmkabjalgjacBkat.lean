/- A bucket in memory. -/
import Derived.Test.YtcfkmkabjalgjacBkz
import Derived.Deep.DeepCutAuto
namespace Go.Proofs.Ytcfkmkabjalgjac
open Go.RowKit
set_option linter.unusedVariables false
set_option linter.unusedSimpArgs false

/-- Block h holds the bucket b. -/
structure BkAt (w : World) (h : Nat) (b : Bk) : Prop where
  c0 : w.cell? ⟨h, 0, none⟩ = some (.int .i64 b.r)
  c1 : w.cell? ⟨h, 1, none⟩ = some (.int .i64 b.p)
  c2 : w.cell? ⟨h, 2, none⟩ = some (.int .i64 b.s)
  c3 : w.cell? ⟨h, 3, none⟩ = some (.int .i64 b.l)
  c4 : w.cell? ⟨h, 4, none⟩ = some (.int .i64 b.t)
  f0 : w.frozen? ⟨h, 0, none⟩ = false
  f1 : w.frozen? ⟨h, 1, none⟩ = false
  f2 : w.frozen? ⟨h, 2, none⟩ = false
  f3 : w.frozen? ⟨h, 3, none⟩ = false
  f4 : w.frozen? ⟨h, 4, none⟩ = false
  lt : h < w.heap.size

theorem BkAt.below {w w' : World} {h B : Nat} {b : Bk} (k : BkAt w h b) (hb : Below B w w') (hB : h < B) : BkAt w' h b :=
  ⟨by rw [hb.cell (p := ⟨h, 0, none⟩) hB]; exact k.c0, by rw [hb.cell (p := ⟨h, 1, none⟩) hB]; exact k.c1, by rw [hb.cell (p := ⟨h, 2, none⟩) hB]; exact k.c2, by rw [hb.cell (p := ⟨h, 3, none⟩) hB]; exact k.c3, by rw [hb.cell (p := ⟨h, 4, none⟩) hB]; exact k.c4,
   by rw [hb.frozen (p := ⟨h, 0, none⟩) hB]; exact k.f0, by rw [hb.frozen (p := ⟨h, 1, none⟩) hB]; exact k.f1, by rw [hb.frozen (p := ⟨h, 2, none⟩) hB]; exact k.f2, by rw [hb.frozen (p := ⟨h, 3, none⟩) hB]; exact k.f3, by rw [hb.frozen (p := ⟨h, 4, none⟩) hB]; exact k.f4,
   Nat.lt_of_lt_of_le k.lt hb.size⟩

/-- A store of one cell. -/
theorem BkAt.set0 {w : World} {h : Nat} {b : Bk} (k : BkAt w h b) (v : Int) : BkAt (w.setCell ⟨h, 0, none⟩ (.int .i64 v)) h { b with r := v } := by
  obtain ⟨c0, c1, c2, c3, c4, f0, f1, f2, f3, f4, lt⟩ := k
  constructor <;> simp [go_sem, *]
theorem BkAt.set1 {w : World} {h : Nat} {b : Bk} (k : BkAt w h b) (v : Int) : BkAt (w.setCell ⟨h, 1, none⟩ (.int .i64 v)) h { b with p := v } := by
  obtain ⟨c0, c1, c2, c3, c4, f0, f1, f2, f3, f4, lt⟩ := k
  constructor <;> simp [go_sem, *]
theorem BkAt.set2 {w : World} {h : Nat} {b : Bk} (k : BkAt w h b) (v : Int) : BkAt (w.setCell ⟨h, 2, none⟩ (.int .i64 v)) h { b with s := v } := by
  obtain ⟨c0, c1, c2, c3, c4, f0, f1, f2, f3, f4, lt⟩ := k
  constructor <;> simp [go_sem, *]
theorem BkAt.set3 {w : World} {h : Nat} {b : Bk} (k : BkAt w h b) (v : Int) : BkAt (w.setCell ⟨h, 3, none⟩ (.int .i64 v)) h { b with l := v } := by
  obtain ⟨c0, c1, c2, c3, c4, f0, f1, f2, f3, f4, lt⟩ := k
  constructor <;> simp [go_sem, *]
theorem BkAt.set4 {w : World} {h : Nat} {b : Bk} (k : BkAt w h b) (v : Int) : BkAt (w.setCell ⟨h, 4, none⟩ (.int .i64 v)) h { b with t := v } := by
  obtain ⟨c0, c1, c2, c3, c4, f0, f1, f2, f3, f4, lt⟩ := k
  constructor <;> simp [go_sem, *]
/-- A store elsewhere. -/
theorem BkAt.far {w : World} {h g o : Nat} {b : Bk} (k : BkAt w h b) (v : Value) (hn : g ≠ h) : BkAt (w.setCell ⟨g, o, none⟩ v) h b := by
  have e : ∀ i, (⟨g, o, none⟩ : Addr) ≠ ⟨h, i, none⟩ := fun i e => hn (by cases e; rfl)
  obtain ⟨c0, c1, c2, c3, c4, f0, f1, f2, f3, f4, lt⟩ := k
  constructor <;> first | (rw [World.cell?_setCell_other _ _ _ _ (e _)]; assumption) | (rw [World.frozen?_setCell]; assumption) | (simpa [World.setCell] using lt)
/-- A whole bucket stored. -/
theorem BkAt.store {w : World} {h : Nat} {b : Bk} (k : BkAt w h b) (c : Bk) : BkAt (((((w.setCell ⟨h, 0, none⟩ (.int .i64 c.r)).setCell ⟨h, 1, none⟩ (.int .i64 c.p)).setCell ⟨h, 2, none⟩ (.int .i64 c.s)).setCell ⟨h, 3, none⟩ (.int .i64 c.l)).setCell ⟨h, 4, none⟩ (.int .i64 c.t)) h c :=
  ((((k.set0 c.r).set1 c.p).set2 c.s).set3 c.l).set4 c.t
theorem BkAt.afar {w : World} {h g : Nat} {b : Bk} (k : BkAt w h b) (v0 v1 v2 v3 v4 : Value) (hn : g ≠ h) : BkAt (((((w.setCell ⟨g, 0, none⟩ v0).setCell ⟨g, 1, none⟩ v1).setCell ⟨g, 2, none⟩ v2).setCell ⟨g, 3, none⟩ v3).setCell ⟨g, 4, none⟩ v4) h b :=
  ((((k.far v0 hn).far v1 hn).far v2 hn).far v3 hn).far v4 hn
theorem BkAt.new (w : World) (b : Bk) (T : TypeId) : BkAt (w.alloc (.cells #[.int .i64 b.r, .int .i64 b.p, .int .i64 b.s, .int .i64 b.l, .int .i64 b.t] T)) w.heap.size b := by
  constructor <;> simp [go_sem]
theorem BkAt.alloc {w : World} {h : Nat} {b : Bk} (k : BkAt w h b) (o : Obj) : BkAt (w.alloc o) h b :=
  k.below (Below.alloc (Below.refl w.heap.size w) (Nat.le_refl _) o) k.lt
end Go.Proofs.Ytcfkmkabjalgjac
