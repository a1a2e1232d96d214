/- A LAYER OF DATA OVER THE WALK: what a call's slots and its own memory hold, told as data, and how that stands to a world. -/
import Derived.WalkKit
import Derived.Lib.LaidTab
import Derived.Lib.ItoaNum
namespace Go.Proofs.YtfkcolodbjonkabDoor.Sh
open Go.RowKit
set_option linter.unusedVariables false
set_option linter.unusedSimpArgs false

inductive Cell where
  | sc (v : Value)
  | gsl (cs : List Cell) (off len : Nat) (cap : Option Nat)
  | gptr (cs : List Cell) (off : Nat)
  | fn (f : FuncId) (caps : List Cell)
  | osl (r off len : Nat) (cap : Option Nat)
  | optr (r off : Nat)
  | mp (r : Nat) (it : Bool)
  | un

inductive SV where
  | one (c : Cell)
  | agg (cs : List Cell)
  | tup (vs : List SV)

structure Row where
  cells : List Cell
  esz : Nat

structure Place where
  b : Nat
  o : Nat
  tot : Nat
  esz : Nat

abbrev Mem := Addr → Option Value
abbrev Plc := Nat → Option (Option Place)

inductive VG (m : Mem) : Cell → Value → Prop
  | sc (v : Value) (h : v.oneCell' = true) : VG m (.sc v) v
  | gsl (cs : List Cell) (off len : Nat) (cap : Option Nat) (b o c : Nat) (ad : Addr) (vals : Nat → Value)
      (hc : ∀ k, cap = some k → c = k) (hlc : len ≤ c)
      (hm : ∀ (i : Nat) x, cs[i]? = some x → m ⟨b, o + i, none⟩ = some (vals i))
      (hv : ∀ (i : Nat) x, cs[i]? = some x → VG m x (vals i))
      (ha : ad = ⟨b, o + off, none⟩ ∨ len = 0) : VG m (.gsl cs off len cap) (.slice (some ad) len c)
  | gnil (cs : List Cell) (off : Nat) (cap : Option Nat) (hc : ∀ k, cap = some k → k = 0) : VG m (.gsl cs off 0 cap) (.slice none 0 0)
  | gptr (cs : List Cell) (off : Nat) (b o : Nat) (vals : Nat → Value)
      (hm : ∀ (i : Nat) x, cs[i]? = some x → m ⟨b, o + i, none⟩ = some (vals i))
      (hv : ∀ (i : Nat) x, cs[i]? = some x → VG m x (vals i)) : VG m (.gptr cs off) (.pointer (some ⟨b, o + off, none⟩))
  | fn (f : FuncId) (caps : List Cell) (vals : Array Value) (hl : vals.size = caps.length)
      (hv : ∀ (i : Nat) x (hi : i < vals.size), caps[i]? = some x → VG m x vals[i]) : VG m (.fn f caps) (.func (.func f) #[] vals)

theorem VG.mono {m m' : Mem} (h : ∀ a v, m a = some v → m' a = some v) {c : Cell} {v : Value} (hv : VG m c v) : VG m' c v := by
  induction hv with
  | sc v h1 => exact .sc v h1
  | gsl cs off len cap b o c ad vals hc hlc hm hv ha ih => exact .gsl cs off len cap b o c ad vals hc hlc (fun i x hx => h _ _ (hm i x hx)) ih ha
  | gnil cs off cap hc => exact .gnil cs off cap hc
  | gptr cs off b o vals hm hv ih => exact .gptr cs off b o vals (fun i x hx => h _ _ (hm i x hx)) ih
  | fn f caps vals hl hv ih => exact .fn f caps vals hl ih

theorem VG.one {m : Mem} {c : Cell} {v : Value} (h : VG m c v) : v.oneCell' = true := by cases h <;> first | assumption | rfl

def VC (m : Mem) (π : Plc) : Cell → Value → Prop
  | .osl r off len cap, v => v.oneCell' = true ∧ match π r with
    | none => True
    | some none => len = 0 ∧ (∀ k, cap = some k → k = 0) ∧ ∃ ad, v = .slice ad 0 0
    | some (some p) => p.esz ≠ 0 ∧ ∃ ad c, v = .slice (some ad) len c ∧ len ≤ c ∧ (∀ k, cap = some k → c = k) ∧ ((len = 0 ∧ c = 0) ∨ (ad = ⟨p.b, p.o + off, none⟩ ∧ off + c * p.esz ≤ p.tot))
  | .optr r off, v => v.oneCell' = true ∧ match π r with
    | none => True
    | some none => False
    | some (some p) => p.esz ≠ 0 ∧ v = .pointer (some ⟨p.b, p.o + off, none⟩)
  | .mp r kk, v => v.oneCell' = true ∧ match π r with
    | none => True
    | some none => False
    | some (some p) => p.esz = 0 ∧ v = (match kk with
      | false => .map (some p.b)
      | true => .pointer (some ⟨p.b, 0, none⟩))
  | .un, _ => True
  | .sc u, v => VG m (.sc u) v
  | .gsl a b c d, v => VG m (.gsl a b c d) v
  | .gptr a b, v => VG m (.gptr a b) v
  | .fn a b, v => VG m (.fn a b) v

def Cell.cl (Fr : Nat → Prop) : Cell → Prop
  | .osl r _ _ _ => ¬ Fr r
  | .optr r _ => ¬ Fr r
  | .mp r kk => ¬ Fr r
  | _ => True

theorem Cell.cl.mono {Fr Fr' : Nat → Prop} (h : ∀ r, Fr' r → Fr r) {c : Cell} (hc : c.cl Fr) : c.cl Fr' := by
  cases c <;> first | trivial | exact fun k => hc (h _ k)

theorem VC.one {m : Mem} {π : Plc} {c : Cell} {v : Value} (h : VC m π c v) (hu : c ≠ .un) : v.oneCell' = true := by
  cases c with
  | un => exact absurd rfl hu
  | osl r off len cap => exact h.1
  | optr r off => exact h.1
  | mp r kk => exact h.1
  | sc u => exact VG.one h
  | gsl a b c d => exact VG.one h
  | gptr a b => exact VG.one h
  | fn a b => exact VG.one h

theorem VC.mono {m m' : Mem} {π π' : Plc} {Fr : Nat → Prop} (h : ∀ a v, m a = some v → m' a = some v) (hπ : ∀ r, ¬ Fr r → π' r = π r ∨ π' r = none)
    {c : Cell} {v : Value} (hc : c.cl Fr) (hv : VC m π c v) : VC m' π' c v := by
  cases c with
  | un => trivial
  | osl r off len cap =>
    obtain ⟨h1, h2⟩ := hv
    refine ⟨h1, ?_⟩
    rcases hπ r hc with e | e
    · rw [e]; exact h2
    · rw [e]; trivial
  | optr r off =>
    obtain ⟨h1, h2⟩ := hv
    refine ⟨h1, ?_⟩
    rcases hπ r hc with e | e
    · rw [e]; exact h2
    · rw [e]; trivial
  | mp r kk =>
    obtain ⟨h1, h2⟩ := hv
    refine ⟨h1, ?_⟩
    rcases hπ r hc with e | e
    · rw [e]; exact h2
    · rw [e]; trivial
  | sc u => exact VG.mono h hv
  | gsl a b c d => exact VG.mono h hv
  | gptr a b => exact VG.mono h hv
  | fn a b => exact VG.mono h hv

def VL (m : Mem) (π : Plc) : List Cell → List Value → Prop
  | [], [] => True
  | c :: cs, v :: vs => VC m π c v ∧ VL m π cs vs
  | _, _ => False

theorem VL.length {m : Mem} {π : Plc} : ∀ {cs : List Cell} {vs : List Value}, VL m π cs vs → vs.length = cs.length
  | [], [], _ => rfl
  | _ :: _, _ :: _, h => by simp [VL.length h.2]

theorem VL.get {m : Mem} {π : Plc} : ∀ {cs : List Cell} {vs : List Value}, VL m π cs vs → ∀ (i : Nat) c, cs[i]? = some c → ∃ v, vs[i]? = some v ∧ VC m π c v
  | _ :: _, v :: _, h, 0, c, hc => ⟨v, by simp, by simp at hc; exact hc ▸ h.1⟩
  | _ :: _, _ :: _, h, i + 1, c, hc => by simpa using VL.get h.2 i c (by simpa using hc)

theorem VL.of {m : Mem} {π : Plc} : ∀ {cs : List Cell} {vs : List Value}, vs.length = cs.length → (∀ (i : Nat) c v, cs[i]? = some c → vs[i]? = some v → VC m π c v) → VL m π cs vs
  | [], [], _, _ => trivial
  | c :: cs, v :: vs, hl, h => ⟨h 0 c v (by simp) (by simp), VL.of (by simpa using hl) (fun i c v hc hv => h (i + 1) c v (by simpa using hc) (by simpa using hv))⟩

theorem VL.mono {m m' : Mem} {π π' : Plc} {Fr : Nat → Prop} (h : ∀ a v, m a = some v → m' a = some v) (hπ : ∀ r, ¬ Fr r → π' r = π r ∨ π' r = none) :
    ∀ {cs : List Cell} {vs : List Value}, (∀ c ∈ cs, c.cl Fr) → VL m π cs vs → VL m' π' cs vs
  | [], [], _, _ => trivial
  | c :: cs, v :: vs, hc, hv => ⟨VC.mono h hπ (hc c (by simp)) hv.1, VL.mono h hπ (fun c hx => hc c (by simp [hx])) hv.2⟩

mutual
def VS (m : Mem) (π : Plc) : SV → Value → Prop
  | .one c, v => VC m π c v
  | .agg cs, v => ∃ arr : Array Value, v = .agg arr ∧ VL m π cs arr.toList
  | .tup vs, v => ∃ arr : Array Value, v = .tuple arr ∧ VSL m π vs arr.toList
def VSL (m : Mem) (π : Plc) : List SV → List Value → Prop
  | [], [] => True
  | s :: ss, v :: vs => VS m π s v ∧ VSL m π ss vs
  | _, _ => False
end

mutual
def SV.cl (Fr : Nat → Prop) : SV → Prop
  | .one c => c.cl Fr
  | .agg cs => ∀ c ∈ cs, c.cl Fr
  | .tup vs => SV.clL Fr vs
def SV.clL (Fr : Nat → Prop) : List SV → Prop
  | [] => True
  | s :: ss => s.cl Fr ∧ SV.clL Fr ss
end

mutual
theorem SV.cl.mono {Fr Fr' : Nat → Prop} (h : ∀ r, Fr' r → Fr r) : ∀ {s : SV}, s.cl Fr → s.cl Fr'
  | .one c, hs => Cell.cl.mono h hs
  | .agg cs, hs => fun c hc => Cell.cl.mono h (hs c hc)
  | .tup vs, hs => SV.clL.mono h (ss := vs) hs
theorem SV.clL.mono {Fr Fr' : Nat → Prop} (h : ∀ r, Fr' r → Fr r) : ∀ {ss : List SV}, SV.clL Fr ss → SV.clL Fr' ss
  | [], _ => trivial
  | s :: ss, hs => ⟨SV.cl.mono h hs.1, SV.clL.mono h hs.2⟩
end

mutual
theorem VS.mono {m m' : Mem} {π π' : Plc} {Fr : Nat → Prop} (h : ∀ a v, m a = some v → m' a = some v) (hπ : ∀ r, ¬ Fr r → π' r = π r ∨ π' r = none) :
    ∀ {s : SV} {v : Value}, s.cl Fr → VS m π s v → VS m' π' s v
  | .one c, v, hc, hv => VC.mono h hπ hc hv
  | .agg cs, v, hc, hv => by
    obtain ⟨arr, rfl, hl⟩ := hv
    exact ⟨arr, rfl, VL.mono h hπ hc hl⟩
  | .tup vs, v, hc, hv => by
    obtain ⟨arr, rfl, hl⟩ := hv
    exact ⟨arr, rfl, VSL.mono h hπ (ss := vs) hc hl⟩
theorem VSL.mono {m m' : Mem} {π π' : Plc} {Fr : Nat → Prop} (h : ∀ a v, m a = some v → m' a = some v) (hπ : ∀ r, ¬ Fr r → π' r = π r ∨ π' r = none) :
    ∀ {ss : List SV} {vs : List Value}, SV.clL Fr ss → VSL m π ss vs → VSL m' π' ss vs
  | [], [], _, _ => trivial
  | s :: ss, v :: vs, hc, hv => ⟨VS.mono h hπ hc.1 hv.1, VSL.mono h hπ hc.2 hv.2⟩
end

theorem VSL.length {m : Mem} {π : Plc} : ∀ {cs : List SV} {vs : List Value}, VSL m π cs vs → vs.length = cs.length
  | [], [], _ => rfl
  | _ :: _, _ :: _, h => by simp [VSL.length h.2]

theorem VSL.get {m : Mem} {π : Plc} : ∀ {cs : List SV} {vs : List Value}, VSL m π cs vs → ∀ (i : Nat) c, cs[i]? = some c → ∃ v, vs[i]? = some v ∧ VS m π c v
  | _ :: _, v :: _, h, 0, c, hc => ⟨v, by simp, by simp at hc; exact hc ▸ h.1⟩
  | _ :: _, _ :: _, h, i + 1, c, hc => by simpa using VSL.get h.2 i c (by simpa using hc)

def SV.cells : SV → List Cell
  | .one c => [c]
  | .agg cs => cs
  | .tup _ => [.un]

def SV.solid : SV → Prop
  | .one c => c ≠ .un
  | .agg cs => ∀ c ∈ cs, c ≠ .un
  | .tup _ => False

theorem VS.cells {m : Mem} {π : Plc} {s : SV} {v : Value} (h : VS m π s v) (hs : s.solid) : VL m π s.cells v.cells.toList ∧ ∀ x ∈ v.cells.toList, x.oneCell' = true := by
  cases s with
  | tup vs => exact hs.elim
  | one c =>
    have h1 : v.oneCell' = true := VC.one h hs
    have hv : v.cells = #[v] := by cases v <;> simp [Value.cells, Value.oneCell'] at h1 ⊢
    rw [hv]
    exact ⟨⟨h, trivial⟩, by simpa using h1⟩
  | agg cs =>
    obtain ⟨arr, rfl, hl⟩ := h
    refine ⟨hl, fun x hx => ?_⟩
    simp only [Value.cells] at hx
    obtain ⟨i, hi, rfl⟩ := List.mem_iff_getElem.1 hx
    have hlen := hl.length
    have hic : i < cs.length := by omega
    obtain ⟨v, hv1, hv2⟩ := hl.get i cs[i] (by simp [hic])
    rw [List.getElem?_eq_getElem hi] at hv1
    cases hv1
    exact VC.one hv2 (hs _ (List.getElem_mem hic))

structure Keep (A : Nat → Prop) (w0 w : World) : Prop where
  os : w.os = w0.os
  tape : w.tape = w0.tape
  output : w.output = w0.output
  size : w0.heap.size ≤ w.heap.size
  block : ∀ b, b < w0.heap.size → ¬ A b → w.heap[b]? = w0.heap[b]?

structure Base where
  w : World
  g : Addr → Prop
  k : Nat
  o : Nat → Option (Option Place)

def mapArr (es : Array MapEntry) : List Value := es.toList.flatMap fun e => [e.key, e.val]

def objArr : Obj → Option (List Value)
  | .map es _ => some (mapArr es)
  | .stringIter s pos => some [.string s, .int .i64 pos, .bool true]
  | _ => none

def ObjAt (w : World) (b esz : Nat) (arr : Array Value) (e : TypeId) : Prop :=
  (esz ≠ 0 ∧ w.heap[b]? = some (.cells arr e (0, 0))) ∨ (esz = 0 ∧ ∃ o, w.heap[b]? = some o ∧ objArr o = some arr.toList)

theorem ObjAt.cells {w : World} {b esz : Nat} {arr : Array Value} {e : TypeId} (h : ObjAt w b esz arr e) (hz : esz ≠ 0) : w.heap[b]? = some (.cells arr e (0, 0)) := by
  rcases h with h | h
  · exact h.2
  · exact absurd h.1 hz
theorem ObjAt.mk {w : World} {b esz : Nat} {arr : Array Value} {e : TypeId} (hz : esz ≠ 0) (h : w.heap[b]? = some (.cells arr e (0, 0))) : ObjAt w b esz arr e := .inl ⟨hz, h⟩
theorem ObjAt.same {w w' : World} {b esz : Nat} {arr : Array Value} {e : TypeId} (h : ObjAt w b esz arr e) (hs : w'.heap[b]? = w.heap[b]?) : ObjAt w' b esz arr e := by
  unfold ObjAt at h ⊢
  rw [hs]
  exact h
theorem ObjAt.lt {w : World} {b esz : Nat} {arr : Array Value} {e : TypeId} (h : ObjAt w b esz arr e) : b < w.heap.size := by
  rcases h with ⟨_, h⟩ | ⟨_, o, h, _⟩ <;> exact (Array.getElem?_eq_some_iff.1 h).1

def SzOk (p : Place) (arr : Array Value) : Prop := (p.esz ≠ 0 → arr.size = p.o + p.tot) ∧ (p.esz = 0 → p.o = 0)
def LnOk (p : Place) (row : Row) (arr : Array Value) : Prop := (p.esz ≠ 0 → row.cells.length ≤ p.tot) ∧ (p.esz = 0 → arr.size = row.cells.length)

def RowOk (A : Nat → Prop) (m : Mem) (π : Plc) (w : World) (r : Nat) (row : Row) : Prop :=
  match π r with
  | none => False
  | some none => row.cells = []
  | some (some p) => A p.b ∧ p.esz = row.esz ∧ ∃ (arr : Array Value) (e : TypeId), ObjAt w p.b p.esz arr e ∧ SzOk p arr ∧ LnOk p row arr ∧
      ∀ (i : Nat) c, row.cells[i]? = some c → ∃ x, arr[p.o + i]? = some x ∧ VC m π c x

def tabs : List (String × IntKind × List Int) := [("internal/strconv.uint64pow10", .u64, Lib.pow10Tab)]
def GL (P : Program) (A : Nat → Prop) (w : World) : Prop := ∀ t ∈ tabs, ∀ b, P.globalNamed t.1 = some b → ¬ A b ∧ Lib.TabIs P w t.1 t.2.1 t.2.2
theorem GL.lt {P : Program} {A : Nat → Prop} {w : World} (h : GL P A w) {t : String × IntKind × List Int} (ht : t ∈ tabs) {b : Nat} (hb : P.globalNamed t.1 = some b) : b < w.heap.size := by
  have h2 : w.var? P t.1 = some _ := (h t ht b hb).2
  unfold World.var? at h2
  rw [hb] at h2
  by_cases hl : b < w.heap.size
  · exact hl
  · simp only [Option.bind_some, Array.getElem?_eq_none (Nat.le_of_not_lt hl)] at h2
    cases h2
theorem GL.keep {P : Program} {A A' : Nat → Prop} {w w' : World} (h : GL P A w) (hk : Keep A w w') (hA : ∀ b, b < w.heap.size → ¬ A b → ¬ A' b) : GL P A' w' := by
  intro t ht b hb
  obtain ⟨h1, h2⟩ := h t ht b hb
  have hl := h.lt ht hb
  refine ⟨hA b hl h1, ?_⟩
  have h3 : w.var? P t.1 = some _ := h2
  show w'.var? P t.1 = some _
  unfold World.var? at h3 ⊢
  rw [hb] at h3 ⊢
  simp only [Option.bind_some] at h3 ⊢
  rw [hk.block b hl h1]
  exact h3
structure RelAt (P : Program) (w0 : Base) (A : Nat → Prop) (N : Nat) (Fr : Nat → Prop) (tm : Nat → Option SV) (hp : Nat → Option Row) (a : Act) (w : World) (m : Mem) (π : Plc) : Prop where
  defers : a.defers = []
  size : a.tmps.size = N
  tms : ∀ k v, tm k = some v → VS m π v (a.tmps.getD k undef)
  tcl : ∀ k v, tm k = some v → v.cl Fr
  rows : ∀ r row, hp r = some row → RowOk A m π w r row
  rcl : ∀ r row, hp r = some row → ∀ c ∈ row.cells, c.cl Fr
  rsol : ∀ r row, hp r = some row → ∀ c ∈ row.cells, c ≠ .un
  live : ∀ r, hp r = none → π r = none
  fresh : ∀ r, Fr r → hp r = none
  inj : ∀ r r' p p', π r = some (some p) → π r' = some (some p') → p.b = p'.b → r = r'
  mok : ∀ ad v, m ad = some v → ad.spot = none ∧ w.cell? ad = some v
  dis : ∀ r p ad v, π r = some (some p) → m ad = some v → ad.block ≠ p.b
  new : ∀ b, w0.w.heap.size ≤ b → A b
  keep : Keep A w0.w w
  mg : ∀ ad v, m ad = some v → w0.g ad
  gnew : ∀ ad : Addr, A ad.block → w0.g ad
  org : ∀ r, r < w0.k → π r = w0.o r ∨ π r = none
  frk : ∀ r, Fr r → w0.k ≤ r
  gl : GL P A w0.w

def upd {α : Type} (f : Nat → Option α) (k : Nat) (v : Option α) : Nat → Option α := fun j => if j = k then v else f j
theorem upd_same {α : Type} (f : Nat → Option α) (k : Nat) (v : Option α) : upd f k v k = v := by simp [upd]
theorem upd_ne {α : Type} (f : Nat → Option α) (k j : Nat) (v : Option α) (h : j ≠ k) : upd f k v j = f j := by simp [upd, h]

section
variable {P : Program} {w0 : Base} {A : Nat → Prop} {N : Nat} {Fr : Nat → Prop} {tm : Nat → Option SV} {hp : Nat → Option Row} {a : Act} {w : World} {m : Mem} {π : Plc}

theorem RelAt.lt (h : RelAt P w0 A N Fr tm hp a w m π) {r : Nat} {p : Place} (hr : π r = some (some p)) : p.b < w.heap.size := by
  cases hh : hp r with
  | none => rw [h.live r hh] at hr; cases hr
  | some row =>
    have := h.rows r row hh
    unfold RowOk at this
    rw [hr] at this
    obtain ⟨_, _, arr, e, hb, _⟩ := this
    exact hb.lt

theorem RelAt.put (h : RelAt P w0 A N Fr tm hp a w m π) (d : Option Tmp) (hd : ∀ k, d = some k → k < N) {s : SV} {v : Value} (hv : VS m π s v) (hc : s.cl Fr) :
    RelAt P w0 A N Fr (match d with | some k => upd tm k (some s) | none => tm) hp (a.put d v) w m π := by
  cases d with
  | none => exact h
  | some k =>
    have hk := hd k rfl
    refine { h with size := by simp [Act.put, h.size], tms := fun j x hx => ?_, tcl := fun j x hx => ?_ }
    · simp only [upd] at hx
      by_cases e : j = k
      · subst e
        simp only [↓reduceIte, Option.some.injEq] at hx
        subst hx
        have : j < a.tmps.size := by rw [h.size]; exact hk
        simp [Act.put, Array.getD, this, hv]
      · simp only [e, ↓reduceIte] at hx
        have := h.tms j x hx
        simpa [Act.put, Array.getD_eq_getD_getElem?, Array.getElem?_setIfInBounds_ne (Ne.symm e)] using this
    · simp only [upd] at hx
      by_cases e : j = k
      · simp only [e, ↓reduceIte, Option.some.injEq] at hx; exact hx ▸ hc
      · simp only [e, ↓reduceIte] at hx; exact h.tcl j x hx

theorem RelAt.drew (h : RelAt P w0 A N Fr tm hp a w m π) (n : Nat) : RelAt P w0 A N Fr tm hp a { w with drawn := n } m π :=
  { h with rows := h.rows, mok := h.mok, keep := ⟨h.keep.os, h.keep.tape, h.keep.output, h.keep.size, h.keep.block⟩ }

theorem RelAt.kill (h : RelAt P w0 A N Fr tm hp a w m π) (r : Nat) : RelAt P w0 A N Fr tm (upd hp r none) a w m (upd π r none) := by
  have hπ : ∀ q, ¬ Fr q → upd π r none q = π q ∨ upd π r none q = none := fun q _ => by
    unfold upd; split <;> simp
  have hm : ∀ a v, m a = some v → m a = some v := fun _ _ h => h
  refine { h with tms := fun k v hk => VS.mono hm hπ (h.tcl k v hk) (h.tms k v hk), rows := fun q row hq => ?_, rcl := fun q row hq => ?_, rsol := fun q row hq => ?_, live := fun q hq => ?_, fresh := fun q hq => ?_, inj := fun q q' p p' h1 h2 => ?_, dis := fun q p ad v h1 => ?_, org := fun q hq => ?_ }
  · unfold upd at hq
    by_cases e : q = r
    · simp [e] at hq
    · simp only [e, ↓reduceIte] at hq
      have := h.rows q row hq
      unfold RowOk at this ⊢
      rw [upd_ne _ _ _ _ e]
      cases hq2 : π q with
      | none => rw [hq2] at this; exact this
      | some x =>
        rw [hq2] at this
        cases x with
        | none => exact this
        | some p =>
          obtain ⟨h1, h2, arr, e', h3, h4, h5, h6⟩ := this
          refine ⟨h1, h2, arr, e', h3, h4, h5, fun i c hc => ?_⟩
          obtain ⟨x, hx, hv⟩ := h6 i c hc
          exact ⟨x, hx, VC.mono hm hπ (h.rcl q row hq c (List.mem_of_getElem? hc)) hv⟩
  · unfold upd at hq
    split at hq
    · cases hq
    · exact h.rcl q row hq
  · unfold upd at hq
    split at hq
    · cases hq
    · exact h.rsol q row hq
  · unfold upd at hq ⊢
    split
    · rfl
    · rename_i e; simp only [e, ↓reduceIte] at hq; exact h.live q hq
  · unfold upd; split
    · rfl
    · exact h.fresh q hq
  · unfold upd at h1 h2
    split at h1
    · cases h1
    · split at h2
      · cases h2
      · exact h.inj q q' p p' h1 h2
  · unfold upd at h1
    split at h1
    · cases h1
    · exact h.dis q p ad v h1
  · unfold upd
    split
    · exact .inr rfl
    · exact h.org q hq

end
end Go.Proofs.YtfkcolodbjonkabDoor.Sh
