/- Contracts of functions, told of values, on the way to MemberChanges (part 1). -/
import Derived.WalkKit
import Derived.Lib.LaidTab
import Derived.Lib.ItoaNum
import Derived.ChangeKeysEq
-- short names of the library's lemmas
open Nat renaming add_assoc → zad, ne_of_gt → zae, add_mul → zag, le_refl → zai
open List renaming mem_of_mem_drop → zaa, mem_of_mem_take → zab, drop_of_length_le → zaf, getElem_mem → zah, replicate → zaj, all_eq_true → zak
open Bool renaming and_eq_true → zac
set_option linter.unusedSimpArgs false
set_option linter.unusedVariables false
namespace Go.Proofs.YtnahpejlhfeleabGreat.Sh
open Go.RowKit
inductive Cell where
  | sc (v : Value)
  | gsl (cs : List Cell) (off len : Nat) (cap : Option Nat)
  | gptr (cs : List Cell) (off : Nat)
  | fn (f : FuncId) (caps : List Cell)
  | osl (r off len : Nat) (cap : Option Nat)
  | optr (r off : Nat)
  | mp (r : Nat) (it : Bool)
  | un
inductive SV where
  | one (c : Cell)
  | agg (cs : List Cell)
  | tup (vs : List SV)
structure Row where
  cells : List Cell
  esz : Nat
structure Place where
  b : Nat
  o : Nat
  tot : Nat
  esz : Nat
abbrev Mem := Addr → Option Value
abbrev Plc := Nat → Option (Option Place)
inductive VG (m : Mem) : Cell → Value → Prop
  | sc (v : Value) (h : v.oneCell' = true) : VG m (.sc v) v
  | gsl (cs : List Cell) (off len : Nat) (cap : Option Nat) (b o c : Nat) (ad : Addr) (vals : Nat → Value)
      (hc : ∀ k, cap = some k → c = k) (hlc : len ≤ c)
      (hm : ∀ (i : Nat) x, cs[i]? = some x → m ⟨b, o + i, none⟩ = some (vals i))
      (hv : ∀ (i : Nat) x, cs[i]? = some x → VG m x (vals i))
      (ha : ad = ⟨b, o + off, none⟩ ∨ len = 0) : VG m (.gsl cs off len cap) (.slice (some ad) len c)
  | gnil (cs : List Cell) (off : Nat) (cap : Option Nat) (hc : ∀ k, cap = some k → k = 0) : VG m (.gsl cs off 0 cap) (.slice none 0 0)
  | gptr (cs : List Cell) (off : Nat) (b o : Nat) (vals : Nat → Value)
      (hm : ∀ (i : Nat) x, cs[i]? = some x → m ⟨b, o + i, none⟩ = some (vals i))
      (hv : ∀ (i : Nat) x, cs[i]? = some x → VG m x (vals i)) : VG m (.gptr cs off) (.pointer (some ⟨b, o + off, none⟩))
  | fn (f : FuncId) (caps : List Cell) (vals : Array Value) (hl : vals.size = caps.length)
      (hv : ∀ (i : Nat) x (hi : i < vals.size), caps[i]? = some x → VG m x vals[i]) : VG m (.fn f caps) (.func (.func f) #[] vals)
theorem VG.mono {m m' : Mem} (h : ∀ a v, m a = some v → m' a = some v) {c : Cell} {v : Value} (hv : VG m c v) : VG m' c v := by
 induction hv with
 | sc v h1 => exact .sc v h1
 | gsl cs off len cap b o c ad vals hc hlc hm hv ha ih => exact .gsl cs off len cap b o c ad vals hc hlc (fun i x hx => h _ _ (hm i x hx)) ih ha
 | gnil cs off cap hc => exact .gnil cs off cap hc
 | gptr cs off b o vals hm hv ih => exact .gptr cs off b o vals (fun i x hx => h _ _ (hm i x hx)) ih
 | fn f caps vals hl hv ih => exact .fn f caps vals hl ih
theorem VG.one {m : Mem} {c : Cell} {v : Value} (h : VG m c v) : v.oneCell' = true := by cases h <;> first | assumption | rfl
def VC (m : Mem) (π : Plc) : Cell → Value → Prop
  | .osl r off len cap, v => v.oneCell' = true ∧ match π r with
    | none => True
    | some none => len = 0 ∧ (∀ k, cap = some k → k = 0) ∧ ∃ ad, v = .slice ad 0 0
    | some (some p) => p.esz ≠ 0 ∧ ∃ ad c, v = .slice (some ad) len c ∧ len ≤ c ∧ (∀ k, cap = some k → c = k) ∧ ((len = 0 ∧ c = 0) ∨ (ad = ⟨p.b, p.o + off, none⟩ ∧ off + c * p.esz ≤ p.tot))
  | .optr r off, v => v.oneCell' = true ∧ match π r with
    | none => True
    | some none => False
    | some (some p) => p.esz ≠ 0 ∧ v = .pointer (some ⟨p.b, p.o + off, none⟩)
  | .mp r kk, v => v.oneCell' = true ∧ match π r with
    | none => True
    | some none => False
    | some (some p) => p.esz = 0 ∧ v = (match kk with
      | false => .map (some p.b)
      | true => .pointer (some ⟨p.b, 0, none⟩))
  | .un, _ => True
  | .sc u, v => VG m (.sc u) v
  | .gsl a b c d, v => VG m (.gsl a b c d) v
  | .gptr a b, v => VG m (.gptr a b) v
  | .fn a b, v => VG m (.fn a b) v
def Cell.cl (Fr : Nat → Prop) : Cell → Prop
  | .osl r _ _ _ => ¬ Fr r
  | .optr r _ => ¬ Fr r
  | .mp r kk => ¬ Fr r
  | _ => True
theorem Cell.cl.mono {Fr Fr' : Nat → Prop} (h : ∀ r, Fr' r → Fr r) {c : Cell} (hc : c.cl Fr) : c.cl Fr' := by
 cases c <;> first | trivial | exact fun k => hc (h _ k)
theorem VC.one {m : Mem} {π : Plc} {c : Cell} {v : Value} (h : VC m π c v) (hu : c ≠ .un) : v.oneCell' = true := by
 cases c with
 | un => exact absurd rfl hu
 | osl r off len cap => exact h.1
 | optr r off => exact h.1
 | mp r kk => exact h.1
 | sc u => exact VG.one h
 | gsl a b c d => exact VG.one h
 | gptr a b => exact VG.one h
 | fn a b => exact VG.one h
theorem VC.mono {m m' : Mem} {π π' : Plc} {Fr : Nat → Prop} (h : ∀ a v, m a = some v → m' a = some v) (hπ : ∀ r, ¬ Fr r → π' r = π r ∨ π' r = none) {c : Cell} {v : Value} (hc : c.cl Fr) (hv : VC m π c v) : VC m' π' c v := by
 cases c with
 | un => trivial
 | osl r off len cap =>
   obtain ⟨h1, h2⟩ := hv
   refine ⟨h1, ?_⟩
   rcases hπ r hc with e | e
   · rw [e]; exact h2
   · rw [e]; trivial
 | optr r off =>
   obtain ⟨h1, h2⟩ := hv
   refine ⟨h1, ?_⟩
   rcases hπ r hc with e | e
   · rw [e]; exact h2
   · rw [e]; trivial
 | mp r kk =>
   obtain ⟨h1, h2⟩ := hv
   refine ⟨h1, ?_⟩
   rcases hπ r hc with e | e
   · rw [e]; exact h2
   · rw [e]; trivial
 | sc u => exact VG.mono h hv
 | gsl a b c d => exact VG.mono h hv
 | gptr a b => exact VG.mono h hv
 | fn a b => exact VG.mono h hv
def VL (m : Mem) (π : Plc) : List Cell → List Value → Prop
  | [], [] => True
  | c :: cs, v :: vs => VC m π c v ∧ VL m π cs vs
  | _, _ => False
theorem VL.length {m : Mem} {π : Plc} : ∀ {cs : List Cell} {vs : List Value}, VL m π cs vs → vs.length = cs.length
  | [], [], _ => rfl
  | _ :: _, _ :: _, h => by simp [VL.length h.2]
theorem VL.get {m : Mem} {π : Plc} : ∀ {cs : List Cell} {vs : List Value}, VL m π cs vs → ∀ (i : Nat) c, cs[i]? = some c → ∃ v, vs[i]? = some v ∧ VC m π c v
  | _ :: _, v :: _, h, 0, c, hc => ⟨v, by simp, by simp at hc; exact hc ▸ h.1⟩
  | _ :: _, _ :: _, h, i + 1, c, hc => by simpa using VL.get h.2 i c (by simpa using hc)
theorem VL.of {m : Mem} {π : Plc} : ∀ {cs : List Cell} {vs : List Value}, vs.length = cs.length → (∀ (i : Nat) c v, cs[i]? = some c → vs[i]? = some v → VC m π c v) → VL m π cs vs
  | [], [], _, _ => trivial
  | c :: cs, v :: vs, hl, h => ⟨h 0 c v (by simp) (by simp), VL.of (by simpa using hl) (fun i c v hc hv => h (i + 1) c v (by simpa using hc) (by simpa using hv))⟩
theorem VL.mono {m m' : Mem} {π π' : Plc} {Fr : Nat → Prop} (h : ∀ a v, m a = some v → m' a = some v) (hπ : ∀ r, ¬ Fr r → π' r = π r ∨ π' r = none) : ∀ {cs : List Cell} {vs : List Value}, (∀ c ∈ cs, c.cl Fr) → VL m π cs vs → VL m' π' cs vs
  | [], [], _, _ => trivial
  | c :: cs, v :: vs, hc, hv => ⟨VC.mono h hπ (hc c (by simp)) hv.1, VL.mono h hπ (fun c hx => hc c (by simp [hx])) hv.2⟩
mutual
def VS (m : Mem) (π : Plc) : SV → Value → Prop
  | .one c, v => VC m π c v
  | .agg cs, v => ∃ arr : Array Value, v = .agg arr ∧ VL m π cs arr.toList
  | .tup vs, v => ∃ arr : Array Value, v = .tuple arr ∧ VSL m π vs arr.toList
def VSL (m : Mem) (π : Plc) : List SV → List Value → Prop
  | [], [] => True
  | s :: ss, v :: vs => VS m π s v ∧ VSL m π ss vs
  | _, _ => False
end
mutual
def SV.cl (Fr : Nat → Prop) : SV → Prop
  | .one c => c.cl Fr
  | .agg cs => ∀ c ∈ cs, c.cl Fr
  | .tup vs => SV.clL Fr vs
def SV.clL (Fr : Nat → Prop) : List SV → Prop
  | [] => True
  | s :: ss => s.cl Fr ∧ SV.clL Fr ss
end
mutual
theorem SV.cl.mono {Fr Fr' : Nat → Prop} (h : ∀ r, Fr' r → Fr r) : ∀ {s : SV}, s.cl Fr → s.cl Fr'
  | .one c, hs => Cell.cl.mono h hs
  | .agg cs, hs => fun c hc => Cell.cl.mono h (hs c hc)
  | .tup vs, hs => SV.clL.mono h (ss := vs) hs
theorem SV.clL.mono {Fr Fr' : Nat → Prop} (h : ∀ r, Fr' r → Fr r) : ∀ {ss : List SV}, SV.clL Fr ss → SV.clL Fr' ss
  | [], _ => trivial
  | s :: ss, hs => ⟨SV.cl.mono h hs.1, SV.clL.mono h hs.2⟩
end
mutual
theorem VS.mono {m m' : Mem} {π π' : Plc} {Fr : Nat → Prop} (h : ∀ a v, m a = some v → m' a = some v) (hπ : ∀ r, ¬ Fr r → π' r = π r ∨ π' r = none) : ∀ {s : SV} {v : Value}, s.cl Fr → VS m π s v → VS m' π' s v
  | .one c, v, hc, hv => VC.mono h hπ hc hv
  | .agg cs, v, hc, hv => by
    obtain ⟨arr, rfl, hl⟩ := hv
    exact ⟨arr, rfl, VL.mono h hπ hc hl⟩
  | .tup vs, v, hc, hv => by
    obtain ⟨arr, rfl, hl⟩ := hv
    exact ⟨arr, rfl, VSL.mono h hπ (ss := vs) hc hl⟩
theorem VSL.mono {m m' : Mem} {π π' : Plc} {Fr : Nat → Prop} (h : ∀ a v, m a = some v → m' a = some v) (hπ : ∀ r, ¬ Fr r → π' r = π r ∨ π' r = none) : ∀ {ss : List SV} {vs : List Value}, SV.clL Fr ss → VSL m π ss vs → VSL m' π' ss vs
  | [], [], _, _ => trivial
  | s :: ss, v :: vs, hc, hv => ⟨VS.mono h hπ hc.1 hv.1, VSL.mono h hπ hc.2 hv.2⟩
end
theorem VSL.length {m : Mem} {π : Plc} : ∀ {cs : List SV} {vs : List Value}, VSL m π cs vs → vs.length = cs.length
  | [], [], _ => rfl
  | _ :: _, _ :: _, h => by simp [VSL.length h.2]
theorem VSL.get {m : Mem} {π : Plc} : ∀ {cs : List SV} {vs : List Value}, VSL m π cs vs → ∀ (i : Nat) c, cs[i]? = some c → ∃ v, vs[i]? = some v ∧ VS m π c v
  | _ :: _, v :: _, h, 0, c, hc => ⟨v, by simp, by simp at hc; exact hc ▸ h.1⟩
  | _ :: _, _ :: _, h, i + 1, c, hc => by simpa using VSL.get h.2 i c (by simpa using hc)
def SV.cells : SV → List Cell
  | .one c => [c]
  | .agg cs => cs
  | .tup _ => [.un]
def SV.solid : SV → Prop
  | .one c => c ≠ .un
  | .agg cs => ∀ c ∈ cs, c ≠ .un
  | .tup _ => False
theorem VS.cells {m : Mem} {π : Plc} {s : SV} {v : Value} (h : VS m π s v) (hs : s.solid) : VL m π s.cells v.cells.toList ∧ ∀ x ∈ v.cells.toList, x.oneCell' = true := by
 cases s with
 | tup vs => exact hs.elim
 | one c =>
   have h1 : v.oneCell' = true := VC.one h hs
   have hv : v.cells = #[v] := by cases v <;> simp [Value.cells, Value.oneCell'] at h1 ⊢
   rw [hv]
   exact ⟨⟨h, trivial⟩, by simpa using h1⟩
 | agg cs =>
   obtain ⟨arr, rfl, hl⟩ := h
   refine ⟨hl, fun x hx => ?_⟩
   simp only [Value.cells] at hx
   obtain ⟨i, hi, rfl⟩ := List.mem_iff_getElem.1 hx
   have hlen := hl.length
   have hic : i < cs.length := by omega
   obtain ⟨v, hv1, hv2⟩ := hl.get i cs[i] (by simp [hic])
   rw [List.getElem?_eq_getElem hi] at hv1
   cases hv1
   exact VC.one hv2 (hs _ (zah hic))
structure Keep (A : Nat → Prop) (w0 w : World) : Prop where
  os : w.os = w0.os
  tape : w.tape = w0.tape
  output : w.output = w0.output
  size : w0.heap.size ≤ w.heap.size
  block : ∀ b, b < w0.heap.size → ¬ A b → w.heap[b]? = w0.heap[b]?
structure Base where
  w : World
  g : Addr → Prop
  k : Nat
  o : Nat → Option (Option Place)
def mapArr (es : Array MapEntry) : List Value := es.toList.flatMap fun e => [e.key, e.val]
def objArr : Obj → Option (List Value)
  | .map es _ => some (mapArr es)
  | .stringIter s pos => some [.string s, .int .i64 pos, .bool true]
  | _ => none
def ObjAt (w : World) (b esz : Nat) (arr : Array Value) (e : TypeId) : Prop :=
  (esz ≠ 0 ∧ w.heap[b]? = some (.cells arr e (0, 0))) ∨ (esz = 0 ∧ ∃ o, w.heap[b]? = some o ∧ objArr o = some arr.toList)
theorem ObjAt.cells {w : World} {b esz : Nat} {arr : Array Value} {e : TypeId} (h : ObjAt w b esz arr e) (hz : esz ≠ 0) : w.heap[b]? = some (.cells arr e (0, 0)) := by
 rcases h with h | h
 · exact h.2
 · exact absurd h.1 hz
theorem ObjAt.mk {w : World} {b esz : Nat} {arr : Array Value} {e : TypeId} (hz : esz ≠ 0) (h : w.heap[b]? = some (.cells arr e (0, 0))) : ObjAt w b esz arr e := .inl ⟨hz, h⟩
theorem ObjAt.same {w w' : World} {b esz : Nat} {arr : Array Value} {e : TypeId} (h : ObjAt w b esz arr e) (hs : w'.heap[b]? = w.heap[b]?) : ObjAt w' b esz arr e := by
 unfold ObjAt at h ⊢
 rw [hs]
 exact h
theorem ObjAt.lt {w : World} {b esz : Nat} {arr : Array Value} {e : TypeId} (h : ObjAt w b esz arr e) : b < w.heap.size := by
 rcases h with ⟨_, h⟩ | ⟨_, o, h, _⟩ <;> exact (Array.getElem?_eq_some_iff.1 h).1
def SzOk (p : Place) (arr : Array Value) : Prop := (p.esz ≠ 0 → arr.size = p.o + p.tot) ∧ (p.esz = 0 → p.o = 0)
def LnOk (p : Place) (row : Row) (arr : Array Value) : Prop := (p.esz ≠ 0 → row.cells.length ≤ p.tot) ∧ (p.esz = 0 → arr.size = row.cells.length)
def RowOk (A : Nat → Prop) (m : Mem) (π : Plc) (w : World) (r : Nat) (row : Row) : Prop :=
  match π r with
  | none => False
  | some none => row.cells = []
  | some (some p) => A p.b ∧ p.esz = row.esz ∧ ∃ (arr : Array Value) (e : TypeId), ObjAt w p.b p.esz arr e ∧ SzOk p arr ∧ LnOk p row arr ∧
      ∀ (i : Nat) c, row.cells[i]? = some c → ∃ x, arr[p.o + i]? = some x ∧ VC m π c x
def tabs : List (String × IntKind × List Int) := [("internal/strconv.uint64pow10", .u64, Lib.pow10Tab)]
def GL (P : Program) (A : Nat → Prop) (w : World) : Prop := ∀ t ∈ tabs, ∀ b, P.globalNamed t.1 = some b → ¬ A b ∧ Lib.TabIs P w t.1 t.2.1 t.2.2
theorem GL.lt {P : Program} {A : Nat → Prop} {w : World} (h : GL P A w) {t : String × IntKind × List Int} (ht : t ∈ tabs) {b : Nat} (hb : P.globalNamed t.1 = some b) : b < w.heap.size := by
 have h2 : w.var? P t.1 = some _ := (h t ht b hb).2
 unfold World.var? at h2
 rw [hb] at h2
 by_cases hl : b < w.heap.size
 · exact hl
 · simp only [Option.bind_some, Array.getElem?_eq_none (Nat.le_of_not_lt hl)] at h2
   cases h2
theorem GL.keep {P : Program} {A A' : Nat → Prop} {w w' : World} (h : GL P A w) (hk : Keep A w w') (hA : ∀ b, b < w.heap.size → ¬ A b → ¬ A' b) : GL P A' w' := by
 intro t ht b hb
 obtain ⟨h1, h2⟩ := h t ht b hb
 have hl := h.lt ht hb
 refine ⟨hA b hl h1, ?_⟩
 have h3 : w.var? P t.1 = some _ := h2
 show w'.var? P t.1 = some _
 unfold World.var? at h3 ⊢
 rw [hb] at h3 ⊢
 simp only [Option.bind_some] at h3 ⊢
 rw [hk.block b hl h1]
 exact h3
structure RelAt (P : Program) (w0 : Base) (A : Nat → Prop) (N : Nat) (Fr : Nat → Prop) (tm : Nat → Option SV) (hp : Nat → Option Row) (a : Act) (w : World) (m : Mem) (π : Plc) : Prop where
  defers : a.defers = []
  size : a.tmps.size = N
  tms : ∀ k v, tm k = some v → VS m π v (a.tmps.getD k undef)
  tcl : ∀ k v, tm k = some v → v.cl Fr
  rows : ∀ r row, hp r = some row → RowOk A m π w r row
  rcl : ∀ r row, hp r = some row → ∀ c ∈ row.cells, c.cl Fr
  rsol : ∀ r row, hp r = some row → ∀ c ∈ row.cells, c ≠ .un
  live : ∀ r, hp r = none → π r = none
  fresh : ∀ r, Fr r → hp r = none
  inj : ∀ r r' p p', π r = some (some p) → π r' = some (some p') → p.b = p'.b → r = r'
  mok : ∀ ad v, m ad = some v → ad.spot = none ∧ w.cell? ad = some v
  dis : ∀ r p ad v, π r = some (some p) → m ad = some v → ad.block ≠ p.b
  new : ∀ b, w0.w.heap.size ≤ b → A b
  keep : Keep A w0.w w
  mg : ∀ ad v, m ad = some v → w0.g ad
  gnew : ∀ ad : Addr, A ad.block → w0.g ad
  org : ∀ r, r < w0.k → π r = w0.o r ∨ π r = none
  frk : ∀ r, Fr r → w0.k ≤ r
  gl : GL P A w0.w
def upd {α : Type} (f : Nat → Option α) (k : Nat) (v : Option α) : Nat → Option α := fun j => if j = k then v else f j
theorem upd_same {α : Type} (f : Nat → Option α) (k : Nat) (v : Option α) : upd f k v k = v := by simp [upd]
theorem upd_ne {α : Type} (f : Nat → Option α) (k j : Nat) (v : Option α) (h : j ≠ k) : upd f k v j = f j := by simp [upd, h]
section
variable {P : Program} {w0 : Base} {A : Nat → Prop} {N : Nat} {Fr : Nat → Prop} {tm : Nat → Option SV} {hp : Nat → Option Row} {a : Act} {w : World} {m : Mem} {π : Plc}
theorem RelAt.lt (h : RelAt P w0 A N Fr tm hp a w m π) {r : Nat} {p : Place} (hr : π r = some (some p)) : p.b < w.heap.size := by
 cases hh : hp r with
 | none => rw [h.live r hh] at hr; cases hr
 | some row =>
   have := h.rows r row hh
   unfold RowOk at this
   rw [hr] at this
   obtain ⟨_, _, arr, e, hb, _⟩ := this
   exact hb.lt
theorem RelAt.put (h : RelAt P w0 A N Fr tm hp a w m π) (d : Option Tmp) (hd : ∀ k, d = some k → k < N) {s : SV} {v : Value} (hv : VS m π s v) (hc : s.cl Fr) :
    RelAt P w0 A N Fr (match d with | some k => upd tm k (some s) | none => tm) hp (a.put d v) w m π := by
  cases d with
  | none => exact h
  | some k =>
    have hk := hd k rfl
    refine { h with size := by simp [Act.put, h.size], tms := fun j x hx => ?_, tcl := fun j x hx => ?_ }
    · simp only [upd] at hx
      by_cases e : j = k
      · subst e
        simp only [↓reduceIte, Option.some.injEq] at hx
        subst hx
        have : j < a.tmps.size := by rw [h.size]; exact hk
        simp [Act.put, Array.getD, this, hv]
      · simp only [e, ↓reduceIte] at hx
        have := h.tms j x hx
        simpa [Act.put, Array.getD_eq_getD_getElem?, Array.getElem?_setIfInBounds_ne (Ne.symm e)] using this
    · simp only [upd] at hx
      by_cases e : j = k
      · simp only [e, ↓reduceIte, Option.some.injEq] at hx; exact hx ▸ hc
      · simp only [e, ↓reduceIte] at hx; exact h.tcl j x hx
theorem RelAt.weaken (h : RelAt P w0 A N Fr tm hp a w m π) {tm' : Nat → Option SV} (ht : ∀ k v, tm' k = some v → tm k = some v) : RelAt P w0 A N Fr tm' hp a w m π :=
  { h with tms := fun k v hk => h.tms k v (ht k v hk), tcl := fun k v hk => h.tcl k v (ht k v hk) }
theorem RelAt.drew (h : RelAt P w0 A N Fr tm hp a w m π) (n : Nat) : RelAt P w0 A N Fr tm hp a { w with drawn := n } m π :=
  { h with rows := h.rows, mok := h.mok, keep := ⟨h.keep.os, h.keep.tape, h.keep.output, h.keep.size, h.keep.block⟩ }
theorem RelAt.kill (h : RelAt P w0 A N Fr tm hp a w m π) (r : Nat) : RelAt P w0 A N Fr tm (upd hp r none) a w m (upd π r none) := by
 have hπ : ∀ q, ¬ Fr q → upd π r none q = π q ∨ upd π r none q = none := fun q _ => by
   unfold upd; split <;> simp
 have hm : ∀ a v, m a = some v → m a = some v := fun _ _ h => h
 refine { h with tms := fun k v hk => VS.mono hm hπ (h.tcl k v hk) (h.tms k v hk), rows := fun q row hq => ?_, rcl := fun q row hq => ?_, rsol := fun q row hq => ?_, live := fun q hq => ?_, fresh := fun q hq => ?_, inj := fun q q' p p' h1 h2 => ?_, dis := fun q p ad v h1 => ?_, org := fun q hq => ?_ }
 · unfold upd at hq
   by_cases e : q = r
   · simp [e] at hq
   · simp only [e, ↓reduceIte] at hq
     have := h.rows q row hq
     unfold RowOk at this ⊢
     rw [upd_ne _ _ _ _ e]
     cases hq2 : π q with
     | none => rw [hq2] at this; exact this
     | some x =>
       rw [hq2] at this
       cases x with
       | none => exact this
       | some p =>
         obtain ⟨h1, h2, arr, e', h3, h4, h5, h6⟩ := this
         refine ⟨h1, h2, arr, e', h3, h4, h5, fun i c hc => ?_⟩
         obtain ⟨x, hx, hv⟩ := h6 i c hc
         exact ⟨x, hx, VC.mono hm hπ (h.rcl q row hq c (List.mem_of_getElem? hc)) hv⟩
 · unfold upd at hq
   split at hq
   · cases hq
   · exact h.rcl q row hq
 · unfold upd at hq
   split at hq
   · cases hq
   · exact h.rsol q row hq
 · unfold upd at hq ⊢
   split
   · rfl
   · rename_i e; simp only [e, ↓reduceIte] at hq; exact h.live q hq
 · unfold upd; split
   · rfl
   · exact h.fresh q hq
 · unfold upd at h1 h2
   split at h1
   · cases h1
   · split at h2
     · cases h2
     · exact h.inj q q' p p' h1 h2
 · unfold upd at h1
   split at h1
   · cases h1
   · exact h.dis q p ad v h1
 · unfold upd
   split
   · exact .inr rfl
   · exact h.org q hq
end
end Go.Proofs.YtnahpejlhfeleabGreat.Sh
namespace Go.Proofs.YtnahpejlhfeleabGreat.Sh
open Go.RowKit
theorem cell_of_block {w : World} {b : Nat} {arr : Array Value} {e : TypeId} {fz : Nat × Nat} (h : w.heap[b]? = some (.cells arr e fz)) (i : Nat) : w.cell? ⟨b, i, none⟩ = arr[i]? := by
 simp [World.cell?, h]
theorem cell_same {w w' : World} {ad : Addr} (h : w'.heap[ad.block]? = w.heap[ad.block]?) : w'.cell? ad = w.cell? ad := by
 simp only [World.cell?, h]
section
variable {P : Program} {w0 : Base} {A : Nat → Prop} {N : Nat} {Fr : Nat → Prop} {tm : Nat → Option SV} {hp : Nat → Option Row} {a : Act} {w : World} {m : Mem} {π : Plc}
theorem RelAt.world (h : RelAt P w0 A N Fr tm hp a w m π) {w' : World} (F : Nat → Prop) (h1 : w'.os = w.os) (h2 : w'.tape = w.tape) (h3 : w'.output = w.output) (hs : w.heap.size ≤ w'.heap.size) (hb : ∀ b, b < w.heap.size → ¬ F b → w'.heap[b]? = w.heap[b]?) (hA : ∀ b, F b → A b) (hF : ∀ r p, π r = some (some p) → ¬ F p.b) (hG : ∀ ad v, m ad = some v → ¬ F ad.block) : RelAt P w0 A N Fr tm hp a w' m π := by
 refine { h with rows := fun r row hr => ?_, mok := fun ad v hv => ?_, keep := ⟨h1.trans h.keep.os, h2.trans h.keep.tape, h3.trans h.keep.output, Nat.le_trans h.keep.size hs, fun b hb0 hA0 => ?_⟩ }
 · have := h.rows r row hr
   unfold RowOk at this ⊢
   cases hq : π r with
   | none => rw [hq] at this; exact this
   | some x =>
     rw [hq] at this
     cases x with
     | none => exact this
     | some p =>
       obtain ⟨g1, g2, arr, e, g3, g4, g5, g6⟩ := this
       exact ⟨g1, g2, arr, e, g3.same (hb _ (h.lt hq) (hF r p hq)), g4, g5, g6⟩
 · obtain ⟨g1, g2⟩ := h.mok ad v hv
   exact ⟨g1, by rw [cell_same (hb _ (World.block_lt_of_cell? _ _ g2) (hG ad v hv))]; exact g2⟩
 · rw [hb b (Nat.lt_of_lt_of_le hb0 h.keep.size) (fun hf => hA0 (hA b hf))]
   exact h.keep.block b hb0 hA0
theorem RelAt.adopt0 (h : RelAt P w0 A N Fr tm hp a w m π) (n : Nat) (hn : Fr n) (p : Place) (row : Row) (arr : Array Value) (e : TypeId) (hA : A p.b) (he : p.esz = row.esz) (hb : ObjAt w p.b p.esz arr e) (hsz : SzOk p arr) (hl : LnOk p row arr) (hc : ∀ (i : Nat) c, row.cells[i]? = some c → ∃ x, arr[p.o + i]? = some x ∧ VC m π c x) (hcl : ∀ c ∈ row.cells, c.cl Fr) (hso : ∀ c ∈ row.cells, c ≠ .un) (hfree : ∀ r q, π r = some (some q) → q.b ≠ p.b) (hm : ∀ ad v, m ad = some v → ad.block ≠ p.b) : RelAt P w0 A N (fun r => Fr r ∧ r ≠ n) tm (upd hp n (some row)) a w m (upd π n (some (some p))) := by
 have hπ : ∀ q, ¬ Fr q → upd π n (some (some p)) q = π q ∨ upd π n (some (some p)) q = none := fun q hq => by
   left; exact upd_ne _ _ _ _ (fun e => hq (e ▸ hn))
 have hm0 : ∀ a v, m a = some v → m a = some v := fun _ _ h => h
 have hFr : ∀ r, (Fr r ∧ r ≠ n) → Fr r := fun r h => h.1
 refine { h with tms := fun k v hk => VS.mono hm0 hπ (h.tcl k v hk) (h.tms k v hk), tcl := fun k v hk => SV.cl.mono hFr (h.tcl k v hk), rows := fun q r hq => ?_, rcl := fun q r hq => ?_, rsol := fun q r hq => ?_, live := fun q hq => ?_, fresh := fun q hq => ?_, inj := fun q q' p1 p2 g1 g2 => ?_, dis := fun q p1 ad v g1 => ?_, org := fun q hq => ?_, frk := fun q hq => h.frk q hq.1 }
 · unfold upd at hq
   by_cases e1 : q = n
   · subst e1
     simp only [↓reduceIte, Option.some.injEq] at hq
     subst hq
     unfold RowOk
     rw [upd_same]
     exact ⟨hA, he, arr, e, hb, hsz, hl, fun i c hi => by
       obtain ⟨x, hx, hv⟩ := hc i c hi
       exact ⟨x, hx, VC.mono hm0 hπ (hcl c (List.mem_of_getElem? hi)) hv⟩⟩
   · simp only [e1, ↓reduceIte] at hq
     have := h.rows q r hq
     unfold RowOk at this ⊢
     rw [upd_ne _ _ _ _ e1]
     cases hq2 : π q with
     | none => rw [hq2] at this; exact this
     | some x =>
       rw [hq2] at this
       cases x with
       | none => exact this
       | some p1 =>
         obtain ⟨g1, g2, arr, e', g3, g4, g5, g6⟩ := this
         refine ⟨g1, g2, arr, e', g3, g4, g5, fun i c hi => ?_⟩
         obtain ⟨x, hx, hv⟩ := g6 i c hi
         exact ⟨x, hx, VC.mono hm0 hπ (h.rcl q r hq c (List.mem_of_getElem? hi)) hv⟩
 · unfold upd at hq
   intro c hc2
   by_cases e1 : q = n
   · subst e1
     simp only [↓reduceIte, Option.some.injEq] at hq
     subst hq
     exact Cell.cl.mono hFr (hcl c hc2)
   · simp only [e1, ↓reduceIte] at hq
     exact Cell.cl.mono hFr (h.rcl q r hq c hc2)
 · unfold upd at hq
   intro c hc2
   by_cases e1 : q = n
   · subst e1
     simp only [↓reduceIte, Option.some.injEq] at hq
     subst hq
     exact hso c hc2
   · simp only [e1, ↓reduceIte] at hq
     exact h.rsol q r hq c hc2
 · unfold upd at hq ⊢
   by_cases e1 : q = n
   · simp [e1] at hq
   · simp only [e1, ↓reduceIte] at hq ⊢; exact h.live q hq
 · rw [upd_ne _ _ _ _ hq.2]; exact h.fresh q hq.1
 · unfold upd at g1 g2
   intro hbb
   by_cases e1 : q = n
   · by_cases e2 : q' = n
     · rw [e1, e2]
     · simp only [e1, e2, ↓reduceIte, Option.some.injEq] at g1 g2
       subst g1
       exact absurd hbb.symm (hfree q' p2 g2)
   · by_cases e2 : q' = n
     · simp only [e1, e2, ↓reduceIte, Option.some.injEq] at g1 g2
       subst g2
       exact absurd hbb (hfree q p1 g1)
     · simp only [e1, e2, ↓reduceIte] at g1 g2
       exact h.inj q q' p1 p2 g1 g2 hbb
 · unfold upd at g1
   intro hv
   by_cases e1 : q = n
   · simp only [e1, ↓reduceIte, Option.some.injEq] at g1
     subst g1
     exact hm ad v hv
   · simp only [e1, ↓reduceIte] at g1
     exact h.dis q p1 ad v g1 hv
 · have := h.frk n hn
   rw [upd_ne _ _ _ _ (by omega)]
   exact h.org q hq
theorem RelAt.adopt (h : RelAt P w0 A N Fr tm hp a w m π) (n : Nat) (hn : Fr n) (p : Place) (row : Row) (arr : Array Value) (e : TypeId) (hA : A p.b) (hz : row.esz ≠ 0) (he : p.esz = row.esz) (hb : w.heap[p.b]? = some (.cells arr e (0, 0))) (hsz : arr.size = p.o + p.tot) (hl : row.cells.length ≤ p.tot) (hc : ∀ (i : Nat) c, row.cells[i]? = some c → ∃ x, arr[p.o + i]? = some x ∧ VC m π c x) (hcl : ∀ c ∈ row.cells, c.cl Fr) (hso : ∀ c ∈ row.cells, c ≠ .un) (hfree : ∀ r q, π r = some (some q) → q.b ≠ p.b) (hm : ∀ ad v, m ad = some v → ad.block ≠ p.b) : RelAt P w0 A N (fun r => Fr r ∧ r ≠ n) tm (upd hp n (some row)) a w m (upd π n (some (some p))) :=
  h.adopt0 n hn p row arr e hA he (.mk (by rw [he]; exact hz) hb) ⟨fun _ => hsz, fun e0 => absurd (he ▸ e0) hz⟩ ⟨fun _ => hl, fun e0 => absurd (he ▸ e0) hz⟩ hc hcl hso hfree hm
theorem RelAt.nilrow (h : RelAt P w0 A N Fr tm hp a w m π) (n : Nat) (hn : Fr n) (esz : Nat) : RelAt P w0 A N (fun r => Fr r ∧ r ≠ n) tm (upd hp n (some ⟨[], esz⟩)) a w m (upd π n (some none)) := by
 have hπ : ∀ q, ¬ Fr q → upd π n (some none) q = π q ∨ upd π n (some none) q = none := fun q hq => by
   left; exact upd_ne _ _ _ _ (fun e => hq (e ▸ hn))
 have hm0 : ∀ a v, m a = some v → m a = some v := fun _ _ h => h
 have hFr : ∀ r, (Fr r ∧ r ≠ n) → Fr r := fun r h => h.1
 refine { h with tms := fun k v hk => VS.mono hm0 hπ (h.tcl k v hk) (h.tms k v hk), tcl := fun k v hk => SV.cl.mono hFr (h.tcl k v hk), rows := fun q r hq => ?_, rcl := fun q r hq => ?_, rsol := fun q r hq => ?_, live := fun q hq => ?_, fresh := fun q hq => ?_, inj := fun q q' p1 p2 g1 g2 => ?_, dis := fun q p1 ad v g1 => ?_, org := fun q hq => ?_, frk := fun q hq => h.frk q hq.1 }
 · unfold upd at hq
   by_cases e1 : q = n
   · subst e1
     simp only [↓reduceIte, Option.some.injEq] at hq
     subst hq
     unfold RowOk
     rw [upd_same]
   · simp only [e1, ↓reduceIte] at hq
     have := h.rows q r hq
     unfold RowOk at this ⊢
     rw [upd_ne _ _ _ _ e1]
     cases hq2 : π q with
     | none => rw [hq2] at this; exact this
     | some x =>
       rw [hq2] at this
       cases x with
       | none => exact this
       | some p1 =>
         obtain ⟨g1, g2, arr, e', g3, g4, g5, g6⟩ := this
         refine ⟨g1, g2, arr, e', g3, g4, g5, fun i c hi => ?_⟩
         obtain ⟨x, hx, hv⟩ := g6 i c hi
         exact ⟨x, hx, VC.mono hm0 hπ (h.rcl q r hq c (List.mem_of_getElem? hi)) hv⟩
 · unfold upd at hq
   intro c hc2
   by_cases e1 : q = n
   · subst e1
     simp only [↓reduceIte, Option.some.injEq] at hq
     subst hq
     simp at hc2
   · simp only [e1, ↓reduceIte] at hq
     exact Cell.cl.mono hFr (h.rcl q r hq c hc2)
 · unfold upd at hq
   intro c hc2
   by_cases e1 : q = n
   · subst e1
     simp only [↓reduceIte, Option.some.injEq] at hq
     subst hq
     simp at hc2
   · simp only [e1, ↓reduceIte] at hq
     exact h.rsol q r hq c hc2
 · unfold upd at hq ⊢
   by_cases e1 : q = n
   · simp [e1] at hq
   · simp only [e1, ↓reduceIte] at hq ⊢; exact h.live q hq
 · rw [upd_ne _ _ _ _ hq.2]; exact h.fresh q hq.1
 · unfold upd at g1 g2
   intro hbb
   by_cases e1 : q = n
   · simp [e1] at g1
   · by_cases e2 : q' = n
     · simp [e2] at g2
     · simp only [e1, e2, ↓reduceIte] at g1 g2
       exact h.inj q q' p1 p2 g1 g2 hbb
 · unfold upd at g1
   intro hv
   by_cases e1 : q = n
   · simp [e1] at g1
   · simp only [e1, ↓reduceIte] at g1
     exact h.dis q p1 ad v g1 hv
 · have := h.frk n hn
   rw [upd_ne _ _ _ _ (by omega)]
   exact h.org q hq
theorem RelAt.alloc (h : RelAt P w0 A N Fr tm hp a w m π) (n : Nat) (hn : Fr n) (row : Row) (hz : row.esz ≠ 0) (arr : Array Value) (e : TypeId) (hl : row.cells.length ≤ arr.size) (hc : ∀ (i : Nat) c, row.cells[i]? = some c → ∃ x, arr[i]? = some x ∧ VC m π c x) (hcl : ∀ c ∈ row.cells, c.cl Fr) (hso : ∀ c ∈ row.cells, c ≠ .un) : RelAt P w0 A N (fun r => Fr r ∧ r ≠ n) tm (upd hp n (some row)) a (w.alloc (.cells arr e)) m (upd π n (some (some ⟨w.heap.size, 0, arr.size, row.esz⟩))) := by
 have h1 : RelAt P w0 A N Fr tm hp a (w.alloc (.cells arr e)) m π :=
   h.world (fun _ => False) rfl rfl rfl (by simp) (fun b hb _ => Below.heap_alloc _ _ _ hb) (fun b hb => hb.elim) (fun _ _ _ hb => hb) (fun _ _ _ hb => hb)
 refine h1.adopt n hn ⟨w.heap.size, 0, arr.size, row.esz⟩ row arr e (h.new _ h.keep.size) hz rfl ?_ (by simp) hl ?_ hcl hso ?_ ?_
 · show (w.heap.push _)[w.heap.size]? = _
   simp
 · intro i c hi
   simpa using hc i c hi
 · intro r q hq
   have := h.lt hq
   show q.b ≠ w.heap.size
   omega
 · intro ad v hv
   have := World.block_lt_of_cell? _ _ (h.mok ad v hv).2
   show ad.block ≠ w.heap.size
   omega
def putAt (cs : List Cell) (off : Nat) : List Cell → List Cell
  | [] => cs
  | c :: r => putAt (cs.set off c) (off + 1) r
theorem putAt_length : ∀ (new : List Cell) (cs : List Cell) (off : Nat), (putAt cs off new).length = cs.length
  | [], _, _ => rfl
  | c :: r, cs, off => by simp [putAt, putAt_length r]
theorem putAt_get : ∀ (new : List Cell) (cs : List Cell) (off : Nat) (i : Nat) (c : Cell), off + new.length ≤ cs.length → (putAt cs off new)[i]? = some c → (∃ j, i = off + j ∧ new[j]? = some c) ∨ ((i < off ∨ off + new.length ≤ i) ∧ cs[i]? = some c)
  | [], cs, off, i, c, _, h => by
    right
    refine ⟨by simp; omega, h⟩
  | d :: r, cs, off, i, c, hl, h => by
    simp only [List.length_cons] at hl
    rcases putAt_get r (cs.set off d) (off + 1) i c (by simp; omega) h with ⟨j, rfl, hj⟩ | ⟨hi, hj⟩
    · exact .inl ⟨j + 1, by omega, by simpa using hj⟩
    · rw [List.getElem?_set] at hj
      by_cases e : off = i
      · subst e
        have : off < cs.length := by omega
        simp [this] at hj
        exact .inl ⟨0, by omega, by simp [hj]⟩
      · simp only [e, ↓reduceIte] at hj
        exact .inr ⟨by simp only [List.length_cons]; omega, hj⟩
theorem RelAt.store (P : Program) (h : RelAt P w0 A N Fr tm hp a w m π) {r : Nat} {row : Row} {p : Place} (hr : hp r = some row) (hp' : π r = some (some p)) (hz : p.esz ≠ 0) (off : Nat) (cs : List Cell) (vals : List Value) (hv : VL m π cs vals) (h1 : ∀ x ∈ vals, x.oneCell' = true) (hcl : ∀ c ∈ cs, c.cl Fr) (hso : ∀ c ∈ cs, c ≠ .un) (hoff : off + cs.length ≤ row.cells.length) : ∃ w', (storeCells ⟨p.b, p.o + off, none⟩ vals).run P w = .ok () w' ∧ RelAt P w0 A N Fr tm (upd hp r (some ⟨putAt row.cells off cs, row.esz⟩)) a w' m π := by
 have hrow := h.rows r row hr
 unfold RowOk at hrow
 rw [hp'] at hrow
 obtain ⟨g1, g2, arr, e, g3, g4, g5, g6⟩ := hrow
 replace g3 := g3.cells hz
 replace g4 := g4.1 hz
 replace g5 := g5.1 hz
 have hlen := hv.length
 have hrun := run_storeCells_at (P := P) p.b (p.o + off) e vals 0 arr w g3 (by omega) h1
 simp only [Nat.add_zero] at hrun
 refine ⟨_, hrun, ?_⟩
 generalize hnew : (arr.toList.take (p.o + off) ++ vals ++ arr.toList.drop (p.o + off + vals.length)).toArray = arr'
 have hsz : arr'.size = arr.size := by rw [← hnew]; simp; omega
 have hget : ∀ i, arr'[i]? = if i < p.o + off then arr[i]? else if i < p.o + off + vals.length then vals[i - (p.o + off)]? else arr[i]? := by
   intro i
   rw [← hnew]
   simp only [List.getElem?_toArray, List.append_assoc]
   have ht : (arr.toList.take (p.o + off)).length = p.o + off := by simp; omega
   by_cases c1 : i < p.o + off
   · rw [if_pos c1, List.getElem?_append_left (by omega), List.getElem?_take_of_lt c1]; simp
   · rw [if_neg c1, List.getElem?_append_right (by omega), ht]
     by_cases c2 : i < p.o + off + vals.length
     · rw [if_pos c2, List.getElem?_append_left (by omega)]
     · rw [if_neg c2, List.getElem?_append_right (by omega), List.getElem?_drop]
       simp only [Array.getElem?_toList]
       congr 1; omega
 refine { h with rows := fun q rw' hq => ?_, rcl := fun q rw' hq => ?_, rsol := fun q rw' hq => ?_, live := fun q hq => ?_, fresh := fun q hq => ?_, mok := fun ad v hv' => ?_, keep := ⟨h.keep.os, h.keep.tape, h.keep.output, by simpa using h.keep.size, fun b hb hA => ?_⟩ }
 · unfold upd at hq
   unfold RowOk
   by_cases e1 : q = r
   · subst e1
     simp only [↓reduceIte, Option.some.injEq] at hq
     subst hq
     rw [hp']
     refine ⟨g1, g2, arr', e, .mk hz (setRow_heap _ _ _ _ _ _ g3), ⟨fun _ => by rw [hsz]; exact g4, fun e0 => absurd e0 hz⟩, ⟨fun _ => by simpa [putAt_length] using g5, fun e0 => absurd e0 hz⟩, fun i c hc => ?_⟩
     rcases putAt_get cs row.cells off i c hoff hc with ⟨j, rfl, hj⟩ | ⟨hi, hj⟩
     · obtain ⟨v, hv1, hv2⟩ := hv.get j c hj
       have hjl : j < cs.length := (List.getElem?_eq_some_iff.1 hj).1
       refine ⟨v, ?_, hv2⟩
       rw [hget, if_neg (by omega), if_pos (by omega)]
       rw [show p.o + (off + j) - (p.o + off) = j by omega]; exact hv1
     · obtain ⟨x, hx, hvx⟩ := g6 i c hj
       refine ⟨x, ?_, hvx⟩
       rw [hget]
       split
       · exact hx
       · split
         · omega
         · exact hx
   · simp only [e1, ↓reduceIte] at hq
     have := h.rows q rw' hq
     unfold RowOk at this
     cases hq2 : π q with
     | none => rw [hq2] at this; exact this
     | some x =>
       rw [hq2] at this
       cases x with
       | none => exact this
       | some p1 =>
         obtain ⟨k1, k2, arr1, e', k3, k4, k5, k6⟩ := this
         refine ⟨k1, k2, arr1, e', ?_, k4, k5, k6⟩
         exact k3.same (setRow_other _ _ _ _ (fun e2 => e1 (h.inj q r p1 p hq2 hp' e2)))
 · unfold upd at hq
   by_cases e1 : q = r
   · subst e1
     simp only [↓reduceIte, Option.some.injEq] at hq
     subst hq
     intro c hc
     obtain ⟨i, hi, rfl⟩ := List.mem_iff_getElem.1 hc
     rcases putAt_get cs row.cells off i _ hoff (List.getElem?_eq_getElem hi) with ⟨j, _, hj⟩ | ⟨_, hj⟩
     · exact hcl _ (List.mem_of_getElem? hj)
     · exact h.rcl q row hr _ (List.mem_of_getElem? hj)
   · simp only [e1, ↓reduceIte] at hq
     exact h.rcl q rw' hq
 · unfold upd at hq
   by_cases e1 : q = r
   · subst e1
     simp only [↓reduceIte, Option.some.injEq] at hq
     subst hq
     intro c hc
     obtain ⟨i, hi, rfl⟩ := List.mem_iff_getElem.1 hc
     rcases putAt_get cs row.cells off i _ hoff (List.getElem?_eq_getElem hi) with ⟨j, _, hj⟩ | ⟨_, hj⟩
     · exact hso _ (List.mem_of_getElem? hj)
     · exact h.rsol q row hr _ (List.mem_of_getElem? hj)
   · simp only [e1, ↓reduceIte] at hq
     exact h.rsol q rw' hq
 · unfold upd at hq
   by_cases e1 : q = r
   · simp [e1] at hq
   · simp only [e1, ↓reduceIte] at hq; exact h.live q hq
 · unfold upd
   have := h.fresh q hq
   by_cases e1 : q = r
   · subst e1; rw [hr] at this; cases this
   · simp only [e1, ↓reduceIte]; exact this
 · obtain ⟨k1, k2⟩ := h.mok ad v hv'
   refine ⟨k1, ?_⟩
   rw [cell_setRow_other _ _ _ _ (h.dis r p ad v hp' hv')]
   exact k2
 · rw [setRow_other _ _ _ _ (fun e2 => hA (by rw [e2]; exact g1))]
   exact h.keep.block b hb hA
theorem RelAt.reobj (h : RelAt P w0 A N Fr tm hp a w m π) {r : Nat} {row : Row} {p : Place} (hr : hp r = some row) (hp' : π r = some (some p)) (o : Obj) (cs : List Cell) (arr : Array Value) (e : TypeId) (hm : ∀ ad v, m ad = some v → ad.block ≠ p.b) (ho : ObjAt { w with heap := w.heap.setIfInBounds p.b o } p.b p.esz arr e) (hs : SzOk p arr) (hl : LnOk p ⟨cs, row.esz⟩ arr)
    (hc : ∀ (i : Nat) c, cs[i]? = some c → ∃ x, arr[p.o + i]? = some x ∧ VC m π c x) (hcl : ∀ c ∈ cs, c.cl Fr) (hso : ∀ c ∈ cs, c ≠ .un) :
    RelAt P w0 A N Fr tm (upd hp r (some ⟨cs, row.esz⟩)) a { w with heap := w.heap.setIfInBounds p.b o } m π := by
  have hrow := h.rows r row hr
  unfold RowOk at hrow
  rw [hp'] at hrow
  obtain ⟨g1, g2, _, _, _, _, _, _⟩ := hrow
  have hoth : ∀ b, b ≠ p.b → ({ w with heap := w.heap.setIfInBounds p.b o } : World).heap[b]? = w.heap[b]? := fun b hb => by
    show (w.heap.setIfInBounds p.b o)[b]? = _
    exact Array.getElem?_setIfInBounds_ne (Ne.symm hb)
  refine { h with rows := fun q rw' hq => ?_, rcl := fun q rw' hq => ?_, rsol := fun q rw' hq => ?_, live := fun q hq => ?_, fresh := fun q hq => ?_, mok := fun ad v hv' => ?_, keep := ⟨h.keep.os, h.keep.tape, h.keep.output, by simpa using h.keep.size, fun b hb hA => ?_⟩ }
  · unfold upd at hq
    unfold RowOk
    by_cases e1 : q = r
    · subst e1
      simp only [↓reduceIte, Option.some.injEq] at hq
      subst hq
      rw [hp']
      exact ⟨g1, g2, arr, e, ho, hs, hl, hc⟩
    · simp only [e1, ↓reduceIte] at hq
      have := h.rows q rw' hq
      unfold RowOk at this
      cases hq2 : π q with
      | none => rw [hq2] at this; exact this
      | some x =>
        rw [hq2] at this
        cases x with
        | none => exact this
        | some p1 =>
          obtain ⟨k1, k2, arr1, e', k3, k4, k5, k6⟩ := this
          exact ⟨k1, k2, arr1, e', k3.same (hoth _ (fun e2 => e1 (h.inj q r p1 p hq2 hp' e2))), k4, k5, k6⟩
  · unfold upd at hq
    by_cases e1 : q = r
    · simp only [e1, ↓reduceIte, Option.some.injEq] at hq
      subst hq
      exact hcl
    · simp only [e1, ↓reduceIte] at hq
      exact h.rcl q rw' hq
  · unfold upd at hq
    by_cases e1 : q = r
    · simp only [e1, ↓reduceIte, Option.some.injEq] at hq
      subst hq
      exact hso
    · simp only [e1, ↓reduceIte] at hq
      exact h.rsol q rw' hq
  · unfold upd at hq
    by_cases e1 : q = r
    · simp [e1] at hq
    · simp only [e1, ↓reduceIte] at hq; exact h.live q hq
  · unfold upd
    have := h.fresh q hq
    by_cases e1 : q = r
    · subst e1; rw [hr] at this; cases this
    · simp only [e1, ↓reduceIte]; exact this
  · obtain ⟨k1, k2⟩ := h.mok ad v hv'
    refine ⟨k1, ?_⟩
    rw [cell_same (hoth _ (hm ad v hv'))]
    exact k2
  · rw [hoth b (fun e2 => hA (by rw [e2]; exact g1))]
    exact h.keep.block b hb hA
end
end Go.Proofs.YtnahpejlhfeleabGreat.Sh
namespace Go.Proofs.YtnahpejlhfeleabGreat.Sh
open Go.RowKit
def sameK : Value → Value → Bool
  | .int k _, .int k' _ => decide (k = k')
  | .bool _, .bool _ => true
  | .string _, .string _ => true
  | _, _ => false
def eqV : Value → Value → Bool
  | .int _ a, .int _ b => decide (a = b)
  | .bool a, .bool b => a == b
  | .string a, .string b => a.toList == b.toList
  | _, _ => false
def sameKL : List Value → List Value → Bool
  | [], [] => true
  | x :: xs, y :: ys => sameK x y && sameKL xs ys
  | _, _ => false
def eqVL : List Value → List Value → Bool
  | [], [] => true
  | x :: xs, y :: ys => eqV x y && eqVL xs ys
  | _, _ => false
def tiles (P : Program) : Nat → List Field → Nat → Bool
  | o, [], n => decide (o = n)
  | o, f :: fs, n => decide (f.offset = o) && tiles P (o + P.cellsOf f.type) fs n
def okL (P : Program) : Nat → TypeId → List Value → Bool
  | 0, _, _ => false
  | d + 1, t, cs => match P.underlying t with
    | some .bool => (match cs with
      | [.bool _] => true
      | _ => false)
    | some (.int q) => (match cs with
      | [.int q' _] => decide (q' = q)
      | _ => false)
    | some .string => (match cs with
      | [.string _] => true
      | _ => false)
    | some (.array n e) => decide (cs.length = n * P.cellsOf e) && ((P.info? e).isSome && (List.range n).all fun i => okL P d e ((cs.drop (i * P.cellsOf e)).take (P.cellsOf e)))
    | some (.struct fs) => tiles P 0 fs.toList cs.length && (!P.stoodInHeld t && fs.toList.all fun f => f.name != "_" && okL P d f.type ((cs.drop f.offset).take (P.cellsOf f.type)))
    | _ => false
def mkV (P : Program) (t : TypeId) (cs : List Value) : Value := match P.underlying t with
  | some (.array _ _) => .agg cs.toArray
  | some (.struct _) => .agg cs.toArray
  | _ => cs.headD (.bool false)
theorem sameKL_length : ∀ {xs ys : List Value}, sameKL xs ys = true → xs.length = ys.length
  | [], [], _ => rfl
  | x :: xs, y :: ys, h => by
    simp only [sameKL, zac] at h
    simp [sameKL_length h.2]
  | [], _ :: _, h => by cases h
  | _ :: _, [], h => by cases h
theorem sameKL_drop : ∀ {n : Nat} {xs ys : List Value}, sameKL xs ys = true → sameKL (xs.drop n) (ys.drop n) = true
  | 0, _, _, h => h
  | n + 1, [], [], h => rfl
  | n + 1, x :: xs, y :: ys, h => by
    simp only [sameKL, zac] at h
    exact sameKL_drop (n := n) h.2
  | n + 1, [], _ :: _, h => by cases h
  | n + 1, _ :: _, [], h => by cases h
theorem sameKL_take : ∀ {n : Nat} {xs ys : List Value}, sameKL xs ys = true → sameKL (xs.take n) (ys.take n) = true
  | 0, _, _, h => rfl
  | n + 1, [], [], h => rfl
  | n + 1, x :: xs, y :: ys, h => by
    simp only [sameKL, zac] at h
    simp only [List.take_succ_cons, sameKL, zac]
    exact ⟨h.1, sameKL_take (n := n) h.2⟩
  | n + 1, [], _ :: _, h => by cases h
  | n + 1, _ :: _, [], h => by cases h
theorem okL_same (P : Program) : ∀ (d : Nat) (t : TypeId) (xs ys : List Value), okL P d t ys = true → sameKL xs ys = true → okL P d t xs = true
  | 0, _, _, _, h, _ => by cases h
  | d + 1, t, xs, ys, h, hs => by
    have hl := sameKL_length hs
    unfold okL at h ⊢
    cases hu : P.underlying t with
    | none => simp [hu] at h
    | some k =>
      cases k <;> simp only [hu] at h ⊢ <;> try (cases h; done)
      case bool =>
        split at h
        · rename_i b
          match xs, hs with
          | [x], hs => cases x <;> simp_all [sameKL, sameK]
        · cases h
      case int q =>
        split at h
        · rename_i q' n
          match xs, hs with
          | [x], hs => cases x <;> simp_all [sameKL, sameK]
        · cases h
      case string =>
        split at h
        · rename_i b
          match xs, hs with
          | [x], hs => cases x <;> simp_all [sameKL, sameK]
        · cases h
      case array n e =>
        simp only [zac, decide_eq_true_eq, zak] at h ⊢
        exact ⟨by rw [hl]; exact h.1, h.2.1, fun i hi => okL_same P d e _ _ (h.2.2 i hi) (sameKL_take (sameKL_drop hs))⟩
      case struct fs =>
        simp only [zac, zak] at h ⊢
        exact ⟨by rw [hl]; exact h.1, h.2.1, fun f hf => ⟨(h.2.2 f hf).1, okL_same P d f.type _ _ (h.2.2 f hf).2 (sameKL_take (sameKL_drop hs))⟩⟩
theorem eqVL_append : ∀ {a b c d : List Value}, a.length = b.length → eqVL (a ++ c) (b ++ d) = (eqVL a b && eqVL c d)
  | [], [], _, _, _ => by simp [eqVL]
  | x :: a, y :: b, c, d, h => by
    simp only [List.cons_append, eqVL, Bool.and_assoc]
    rw [eqVL_append (a := a) (b := b) (by simpa using h)]
  | [], _ :: _, _, _, h => by cases h
  | _ :: _, [], _, _, h => by cases h
section
variable {P : Program} (w : World)
theorem okL_info {d : Nat} {e : TypeId} {cs : List Value} (h : okL P d e cs = true) : ∃ i, P.info? e = some i := by
 cases d with
 | zero => cases h
 | succ d =>
   unfold okL at h
   cases hu : P.underlying e with
   | none => simp [hu] at h
   | some k => exact info_of_underlying hu
theorem part_mk {d : Nat} {e : TypeId} {off : Nat} {xs : Array Value} (h : okL P d e ((xs.toList.drop off).take (P.cellsOf e)) = true) : (part e xs off).run P w = .ok (mkV P e ((xs.toList.drop off).take (P.cellsOf e))) w := by
 obtain ⟨i, hi⟩ := okL_info h
 cases d with
 | zero => cases h
 | succ d =>
   unfold okL at h
   have hex : (xs.extract off (off + P.cellsOf e)) = ((xs.toList.drop off).take (P.cellsOf e)).toArray := by
     apply Array.ext'
     rw [Array.toList_extract]
     simp [List.extract]
   have one : ∀ v, (xs.toList.drop off).take (P.cellsOf e) = [v] → P.plainKey e = true → mkV P e [v] = v → (part e xs off).run P w = .ok (mkV P e ((xs.toList.drop off).take (P.cellsOf e))) w := by
     intro v hv hp hm
     rw [hv, hm]
     exact run_part_plain w hp (getElem?_of_chunk hv)
   cases hu : P.underlying e with
   | none => simp [hu] at h
   | some k =>
     cases k <;> simp only [hu] at h <;> try (cases h; done)
     case bool =>
       split at h
       · rename_i b hb; exact one _ hb (by simp [Program.plainKey, hu]) (by simp [mkV, hu])
       · cases h
     case int q =>
       split at h
       · rename_i b hb; exact one _ hb (by simp [Program.plainKey, hu]) (by simp [mkV, hu])
       · cases h
     case string =>
       split at h
       · rename_i b hb; exact one _ hb (by simp [Program.plainKey, hu]) (by simp [mkV, hu])
       · cases h
     case array n e' => simp [part, isAgg, run_underlying hu, run_sizeOf w hi, mkV, hu, hex]
     case struct fs => simp [part, isAgg, run_underlying hu, run_sizeOf w hi, mkV, hu, hex]
def EqIn (P : Program) (D : Nat) (d : Nat) (t : TypeId) : Prop := ∀ (w : World) (xs ys : List Value), okL P d t xs = true → okL P d t ys = true → (Op.equalIn D t (mkV P t xs) (mkV P t ys)).run P w = .ok (eqVL xs ys) w
theorem fields_ok {D d n : Nat} {xs ys : Array Value} (hx : xs.toList.length = n) (hy : ys.toList.length = n) : ∀ (fs : List Field) (o : Nat), tiles P o fs n = true → (∀ f ∈ fs, f.name ≠ "_" ∧ okL P d f.type ((xs.toList.drop f.offset).take (P.cellsOf f.type)) = true ∧ okL P d f.type ((ys.toList.drop f.offset).take (P.cellsOf f.type)) = true ∧ EqIn P D d f.type) → (Op.eqFields D xs ys fs).run P w = .ok (eqVL (xs.toList.drop o) (ys.toList.drop o)) w
  | [], o, ht, _ => by
    simp only [tiles, decide_eq_true_eq] at ht
    rw [zaf (by omega), zaf (by omega)]
    simp [Op.eqFields, eqVL]
  | f :: fs, o, ht, hf => by
    simp only [tiles, zac, decide_eq_true_eq] at ht
    obtain ⟨rfl, ht⟩ := ht
    obtain ⟨hn, h1, h2, h3⟩ := hf f (by simp)
    have ih := fields_ok hx hy fs (f.offset + P.cellsOf f.type) ht (fun g hg => hf g (by simp [hg]))
    have e : ∀ l : List Value, l.drop f.offset = (l.drop f.offset).take (P.cellsOf f.type) ++ l.drop (f.offset + P.cellsOf f.type) := fun l => by
      rw [← List.drop_drop, List.take_append_drop]
    rw [e xs.toList, e ys.toList, eqVL_append (by simp only [List.length_take, List.length_drop]; omega)]
    simp only [Op.eqFields, hn, ne_eq, not_false_eq_true, if_true, Sem.run_bind, part_mk w h1, part_mk w h2, h3 w _ _ h1 h2, Result.andThen_ok]
    cases eqVL (List.take (P.cellsOf f.type) (List.drop f.offset xs.toList)) (List.take (P.cellsOf f.type) (List.drop f.offset ys.toList)) with
    | true => simpa using ih
    | false => simp
theorem items_ok {D d c : Nat} {e : TypeId} {xs ys : Array Value} (hc : c = P.cellsOf e) (hxy : xs.toList.length = ys.toList.length) (h3 : EqIn P D d e) : ∀ (k o : Nat), (o + k) * c = xs.toList.length → (∀ i, i < o + k → okL P d e ((xs.toList.drop (i * c)).take c) = true ∧ okL P d e ((ys.toList.drop (i * c)).take c) = true) → (Op.eqItems D e c xs ys (List.range' o k)).run P w = .ok (eqVL (xs.toList.drop (o * c)) (ys.toList.drop (o * c))) w
  | 0, o, hl, _ => by
    rw [Nat.add_zero] at hl
    rw [zaf (by omega), zaf (by omega)]
    simp [Op.eqItems, eqVL]
  | k + 1, o, hl, hf => by
    obtain ⟨h1, h2⟩ := hf o (by omega)
    have ih := items_ok hc hxy h3 k (o + 1) (by rw [← hl]; congr 1; omega) (fun i hi => hf i (by omega))
    have e : ∀ l : List Value, l.drop (o * c) = (l.drop (o * c)).take c ++ l.drop ((o + 1) * c) := fun l => by
      rw [zag, Nat.one_mul, ← List.drop_drop, List.take_append_drop]
    rw [e xs.toList, e ys.toList, eqVL_append (by simp only [List.length_take, List.length_drop]; omega), List.range'_succ]
    subst hc
    simp only [Op.eqItems, Sem.run_bind, part_mk w h1, part_mk w h2, h3 w _ _ h1 h2, Result.andThen_ok]
    cases eqVL (List.take (P.cellsOf _) (List.drop (o * P.cellsOf _) xs.toList)) (List.take (P.cellsOf _) (List.drop (o * P.cellsOf _) ys.toList)) with
    | true => simpa using ih
    | false => simp
end
theorem eqIn_ok (P : Program) (D : Nat) : ∀ (m : Nat) (t : TypeId), EqIn P (D + m) m t
  | 0, _, _, _, _, h, _ => by cases h
  | m + 1, t, w, xs, ys, hx, hy => by
    have hx0 := hx
    have hy0 := hy
    unfold okL at hx hy
    rw [show D + (m + 1) = (D + m) + 1 from rfl]
    cases hu : P.underlying t with
    | none => simp [hu] at hx
    | some k =>
      cases k <;> simp only [hu] at hx hy <;> try (cases hx; done)
      case bool =>
        split at hx <;> split at hy <;> first | (cases hx; done) | (cases hy; done) | skip
        simp [mkV, hu, run_equalIn_bool w (D + m) t _ _ hu, eqVL, eqV]
      case int q =>
        split at hx <;> split at hy <;> first | (cases hx; done) | (cases hy; done) | skip
        simp only [decide_eq_true_eq] at hx hy
        subst hx
        subst hy
        simp [mkV, hu, run_equalIn_int w (D + m) t _ _ _ _ hu, eqVL, eqV]
        try rfl
      case string =>
        split at hx <;> split at hy <;> first | (cases hx; done) | (cases hy; done) | skip
        simp [mkV, hu, run_equalIn_string w (D + m) t _ _ hu, eqVL, eqV]
      case array n e =>
        simp only [zac, decide_eq_true_eq, zak, List.mem_range] at hx hy
        obtain ⟨i, hi⟩ := Option.isSome_iff_exists.1 hx.2.1
        simp only [mkV, hu]
        rw [run_equalIn_array w (D + m) _ _ hu hi, List.range_eq_range']
        have := items_ok (P := P) w (D := D + m) (d := m) (c := P.cellsOf e) (e := e) (xs := xs.toArray) (ys := ys.toArray) rfl (by simp only [List.toList_toArray]; omega) (eqIn_ok P D m e) n 0 (by simp only [List.toList_toArray, Nat.zero_add]; omega) (fun i hi => ⟨hx.2.2 i (by omega), hy.2.2 i (by omega)⟩)
        simpa using this
      case struct fs =>
        simp only [zac, zak, Bool.not_eq_true', bne_iff_ne, ne_eq] at hx hy
        simp only [mkV, hu]
        have hfs : P.fieldsOf t = fs := by simp [Program.fieldsOf, hu]
        have hl : xs.length = ys.length := by
          have key : ∀ (fs : List Field) (o n m : Nat), tiles P o fs n = true → tiles P o fs m = true → n = m := by
            intro fs
            induction fs with
            | nil => intro o n m h1 h2; simp only [tiles, decide_eq_true_eq] at h1 h2; omega
            | cons f fs ih => intro o n m h1 h2; simp only [tiles, zac] at h1 h2; exact ih _ _ _ h1.2 h2.2
          exact key _ _ _ _ hx.1 hy.1
        rw [run_equalIn_struct w (D + m) t _ _ (by rw [hfs]; exact hu) hx.2.1, hfs]
        have := fields_ok (P := P) w (D := D + m) (d := m) (xs := xs.toArray) (ys := ys.toArray) (n := xs.length) (by simp) (by simp [hl]) fs.toList 0 hx.1 (fun f hf => ⟨(hx.2.2 f hf).1, (hx.2.2 f hf).2, (hy.2.2 f hf).2, eqIn_ok P D m f.type⟩)
        simpa using this
def EqOk (P : Program) (t : TypeId) (zs : List Value) : Prop := P.eqGuardType P.depth t = false ∧ (∃ d, P.underlying t = some d ∧ ((∃ n e, d = .array n e) ∨ ∃ fs, d = .struct fs)) ∧
  ∀ (w : World) (xs ys : List Value), sameKL xs zs = true → sameKL ys zs = true → (Op.equal t (.agg xs.toArray) (.agg ys.toArray)).run P w = .ok (eqVL xs ys) w
def eqChk (P : Program) (t : TypeId) (zs : List Value) : Bool := !P.eqGuardType P.depth t && (okL P 12 t zs && match P.underlying t with
  | some (.array _ _) => true
  | some (.struct _) => true
  | _ => false)
theorem eqChk_ok {P : Program} {t : TypeId} {zs : List Value} (h : eqChk P t zs = true) : EqOk P t zs := by
 simp only [eqChk, zac, Bool.not_eq_true'] at h
 obtain ⟨h1, h2, h3⟩ := h
 have hagg : ∃ d, P.underlying t = some d ∧ ((∃ n e, d = .array n e) ∨ ∃ fs, d = .struct fs) := by
   split at h3
   · rename_i n e hu; exact ⟨_, hu, .inl ⟨_, _, rfl⟩⟩
   · rename_i fs hu; exact ⟨_, hu, .inr ⟨_, rfl⟩⟩
   · cases h3
 refine ⟨h1, hagg, fun w xs ys hx hy => ?_⟩
 have := eqIn_ok P 9988 12 t w xs ys (okL_same P 12 t xs zs h2 hx) (okL_same P 12 t ys zs h2 hy)
 have hm : ∀ l, mkV P t l = .agg l.toArray := fun l => by
   obtain ⟨d, hu, hd⟩ := hagg
   rcases hd with ⟨n, e, rfl⟩ | ⟨fs, rfl⟩ <;> simp [mkV, hu]
 rw [hm, hm] at this
 exact this
end Go.Proofs.YtnahpejlhfeleabGreat.Sh
namespace Go.Proofs.YtnahpejlhfeleabGreat.Sh
open Go.RowKit
def slot {α : Type} (k : Nat) : List (Nat × α) → Option α
  | [] => none
  | (j, x) :: r => if j = k then some x else slot k r
inductive TK where
  | int (k : IntKind)
  | bool
  | str
  | ptr
  | slice (e : Nat)
  | array (n e : Nat)
  | map (k e : Nat)
  | struct (fs : List (Nat × Nat))
  | oth
def TK.isAgg : TK → Bool
  | .array _ _ => true
  | .struct _ => true
  | _ => false
structure TI where
  size : Nat
  bytes : Nat
  kind : TK
  zero : List Value
  eq : Bool
structure Tab where
  ts : List (Nat × TI)
  wr : Bool
def TK.fits : TK → TypeDesc → Prop
  | .int k, .int k' => k' = k
  | .bool, .bool => True
  | .str, .string => True
  | .ptr, .pointer _ => True
  | .slice e, .slice e' => e' = e
  | .array n e, .array n' e' => n' = n ∧ e' = e
  | .map k e, .map k' e' => k' = k ∧ e' = e
  | .struct fs, .struct fl => fl.toList.map (fun f => (f.offset, f.type)) = fs
  | .oth, .struct _ => False
  | .oth, .array _ _ => False
  | .oth, .slice _ => False
  | .oth, _ => True
  | _, _ => False
structure TIok (P : Program) (t : Nat) (ti : TI) : Prop where
  ex : ∃ i d z, P.info? t = some i ∧ P.underlying t = some d ∧ i.size = ti.size ∧ i.bytes = ti.bytes ∧ ti.kind.fits d ∧ i.zero = some z ∧ z.cells.toList = ti.zero ∧ ti.zero.length = ti.size ∧ (∀ x ∈ ti.zero, x.oneCell' = true)
  eqs : ti.eq = true → EqOk P t ti.zero
  flt : ti.kind.isAgg = false → ∀ i z, P.info? t = some i → i.zero = some z → z.oneCell' = true
def TOk (P : Program) (T : Tab) : Prop := ∀ t ti, slot t T.ts = some ti → TIok P t ti
section
variable {P : Program} {t : Nat} {ti : TI} (w : World)
theorem TIok.size (h : TIok P t ti) : (sizeOf t).run P w = .ok ti.size w := by
 obtain ⟨i, d, z, h1, h2, h3, _⟩ := h.ex
 simp [sizeOf, typeInfo, h1, h3]
theorem TIok.isAgg (h : TIok P t ti) : (Go.isAgg t).run P w = .ok ti.kind.isAgg w := by
 obtain ⟨i, d, z, h1, h2, h3, h4, h5, _⟩ := h.ex
 simp only [Go.isAgg, underlying, Sem.run_bind, run_program, Result.andThen_ok, h2, Sem.run_pure]
 revert h5
 cases ti.kind <;> cases d <;> simp [TK.fits, TK.isAgg]
theorem TIok.zero (h : TIok P t ti) : ∃ z, (zeroValue t).run P w = .ok z w ∧ z.cells.toList = ti.zero := by
 obtain ⟨i, d, z, h1, h2, h3, h4, h5, h6, h7, _⟩ := h.ex
 exact ⟨z, by simp [zeroValue, typeInfo, h1, h6], h7⟩
theorem TIok.bytes (h : TIok P t ti) : ∃ i, P.info? t = some i ∧ i.bytes = ti.bytes := by
 obtain ⟨i, d, z, h1, h2, h3, h4, _⟩ := h.ex
 exact ⟨i, h1, h4⟩
theorem TIok.slice (h : TIok P t ti) {e : Nat} (hk : ti.kind = .slice e) : P.underlying t = some (.slice e) := by
 obtain ⟨i, d, z, h1, h2, h3, h4, h5, _⟩ := h.ex
 rw [hk] at h5
 cases d <;> simp [TK.fits] at h5
 subst h5; exact h2
theorem TIok.array (h : TIok P t ti) {n e : Nat} (hk : ti.kind = .array n e) : P.underlying t = some (.array n e) := by
 obtain ⟨i, d, z, h1, h2, h3, h4, h5, _⟩ := h.ex
 rw [hk] at h5
 cases d <;> simp [TK.fits] at h5
 obtain ⟨rfl, rfl⟩ := h5; exact h2
theorem TIok.struct (h : TIok P t ti) {fs : List (Nat × Nat)} (hk : ti.kind = .struct fs) : ∃ fl, P.underlying t = some (.struct fl) ∧ fl.toList.map (fun f => (f.offset, f.type)) = fs := by
 obtain ⟨i, d, z, h1, h2, h3, h4, h5, _⟩ := h.ex
 rw [hk] at h5
 cases d <;> simp [TK.fits] at h5
 exact ⟨_, h2, by simpa using h5⟩
theorem TIok.int (h : TIok P t ti) {k : IntKind} (hk : ti.kind = .int k) : P.underlying t = some (.int k) := by
 obtain ⟨i, d, z, h1, h2, h3, h4, h5, _⟩ := h.ex
 rw [hk] at h5
 cases d <;> simp [TK.fits] at h5
 subst h5; exact h2
theorem TIok.str (h : TIok P t ti) (hk : ti.kind = .str) : P.underlying t = some .string := by
 obtain ⟨i, d, z, h1, h2, h3, h4, h5, _⟩ := h.ex
 rw [hk] at h5
 cases d <;> simp [TK.fits] at h5
 exact h2
theorem TIok.und (h : TIok P t ti) : ∃ d, P.underlying t = some d ∧ ti.kind.fits d := by
 obtain ⟨i, d, z, h1, h2, h3, h4, h5, _⟩ := h.ex
 exact ⟨d, h2, h5⟩
end
structure Res where
  need : Prop
  val : SV
  ups : List (Nat × Option Row)
  new : Nat
def bad : Res := ⟨False, .one .un, [], 0⟩
def SV.ref : SV → List Nat
  | .one (.osl r _ _ _) => [r]
  | .one (.optr r _) => [r]
  | .one (.mp r _) => [r]
  | _ => []
def readAt (ti : TI) (cells : List Cell) (off : Nat) : SV :=
  match ti.kind with
  | .array _ _ => .agg ((cells.drop off).take ti.size)
  | .struct _ => .agg ((cells.drop off).take ti.size)
  | _ => .one (cells.getD off (.sc (ti.zero.headD (.bool false))))
def readNeed (ti : TI) (cells : List Cell) (off : Nat) : Prop :=
  match ti.kind with
  | .array _ _ => off + ti.size ≤ cells.length ∧ 0 < ti.size
  | .struct _ => off + ti.size ≤ cells.length ∧ 0 < ti.size
  | _ => off < cells.length
def sLoad (T : Tab) (get : Nat → Option Row) (t : Nat) (p : SV) : Res :=
  match slot t T.ts with
  | none => bad
  | some ti => match p with
    | .one (.optr r off) => match get r with
      | some row => ⟨readNeed ti row.cells off, readAt ti row.cells off, [], 0⟩
      | none => bad
    | .one (.gptr cs off) => ⟨readNeed ti cs off, readAt ti cs off, [], 0⟩
    | _ => bad
def sStore (T : Tab) (get : Nat → Option Row) (t : Nat) (p v : SV) : Res :=
  match slot t T.ts with
  | none => bad
  | some ti => match p with
    | .one (.optr r off) => match get r with
      | some row => ⟨v.solid ∧ v.cells.length = ti.size ∧ off + ti.size ≤ row.cells.length ∧ 0 < ti.size, .one .un, [(r, some ⟨putAt row.cells off v.cells, row.esz⟩)], 0⟩
      | none => bad
    | _ => bad
def upds (hp : Nat → Option Row) : List (Nat × Option Row) → (Nat → Option Row)
  | [] => hp
  | (r, x) :: l => upds (upd hp r x) l
def Good (P : Program) (o : Oper) (w0 : Base) (A : Nat → Prop) (N : Nat) (Fr : Nat → Prop) (tm : Nat → Option SV) (hp : Nat → Option Row) (a : Act) (w : World) (n : Nat) (res : Res) : Prop :=
  ∃ v w' m' π', ((execOp a.eval o).run P w = .ok (.value v) w' ∨ ((execOp a.eval o).run P w = .ok .skip w' ∧ v = undef)) ∧
    RelAt P w0 A N (fun r => Fr r ∧ ¬ (n ≤ r ∧ r < n + res.new)) tm (upds hp res.ups) a w' m' π' ∧ VS m' π' res.val v ∧ res.val.cl (fun r => Fr r ∧ ¬ (n ≤ r ∧ r < n + res.new))
section
variable {P : Program} {o : Oper} {w0 : Base} {A : Nat → Prop} {N : Nat} {Fr : Nat → Prop} {tm : Nat → Option SV} {hp : Nat → Option Row} {a : Act} {w : World} {m : Mem} {π : Plc} {n : Nat}
theorem RelAt.frmono {Fr' : Nat → Prop} (h : RelAt P w0 A N Fr tm hp a w m π) (hf : ∀ r, Fr' r → Fr r) : RelAt P w0 A N Fr' tm hp a w m π :=
  { h with tcl := fun k v hk => SV.cl.mono hf (h.tcl k v hk), rcl := fun r row hr c hc => Cell.cl.mono hf (h.rcl r row hr c hc), fresh := fun r hr => h.fresh r (hf r hr), frk := fun r hr => h.frk r (hf r hr) }
theorem good_pure (h : RelAt P w0 A N Fr tm hp a w m π) {v : Value} {s : SV} {need : Prop} (hr : (execOp a.eval o).run P w = .ok (.value v) w) (hv : VS m π s v) (hc : s.cl Fr) : Good P o w0 A N Fr tm hp a w n ⟨need, s, [], 0⟩ :=
  ⟨v, w, m, π, .inl hr, h.frmono (fun r hr => hr.1), hv, SV.cl.mono (fun r hr => hr.1) hc⟩
theorem addr_add (b o k : Nat) : (⟨b, o, none⟩ : Addr).add k = ⟨b, o + k, none⟩ := by
 unfold Addr.add
 split
 · rename_i h; subst h; rfl
 · rfl
theorem run_loadVar_agg {t : Nat} {ti : TI} (hT : TIok P t ti) (hk : ti.kind.isAgg = true) (b o : Nat) (vals : List Value) (hl : vals.length = ti.size) (hc : ∀ j x, vals[j]? = some x → w.cell? ⟨b, o + j, none⟩ = some x) : (loadVar t ⟨b, o, none⟩).run P w = .ok (.agg vals.toArray) w := by
 have h1 := run_loadCells_list (P := P) w ⟨b, o, none⟩ vals (fun j v hj => by rw [addr_add]; exact hc j v hj)
 simp only [loadVar, Sem.run_bind, hT.isAgg, Result.andThen_ok, hk, ↓reduceIte, hT.size, ← hl, h1, Sem.run_pure]
theorem run_loadVar_one {t : Nat} {ti : TI} (hT : TIok P t ti) (hk : ti.kind.isAgg = false) (ad : Addr) (x : Value) (hc : w.cell? ad = some x) : (loadVar t ad).run P w = .ok x w := by
 simp only [loadVar, Sem.run_bind, hT.isAgg, Result.andThen_ok, hk, Bool.false_eq_true, ↓reduceIte, run_load, hc]
theorem read_ok {t : Nat} {ti : TI} (hT : TIok P t ti) (cells : List Cell) (b o off : Nat) (hcl : ∀ c ∈ cells, c.cl Fr) (hc : ∀ (i : Nat) c, cells[i]? = some c → ∃ x, w.cell? ⟨b, o + i, none⟩ = some x ∧ VC m π c x) (hn : readNeed ti cells off) : ∃ v, (loadVar t ⟨b, o + off, none⟩).run P w = .ok v w ∧ VS m π (readAt ti cells off) v ∧ (readAt ti cells off).cl Fr := by
 have hagg : ti.kind.isAgg = true → off + ti.size ≤ cells.length → ∃ v, (loadVar t ⟨b, o + off, none⟩).run P w = .ok v w ∧ VS m π (.agg ((cells.drop off).take ti.size)) v ∧ (SV.agg ((cells.drop off).take ti.size)).cl Fr := by
   intro hk hn
   have hex : ∀ j, j < ti.size → ∃ x, w.cell? ⟨b, o + off + j, none⟩ = some x ∧ ∀ c, cells[off + j]? = some c → VC m π c x := by
     intro j hj
     have hlt : off + j < cells.length := by omega
     obtain ⟨x, h1, h2⟩ := hc (off + j) cells[off + j] (by simp [hlt])
     refine ⟨x, by rw [show o + off + j = o + (off + j) by omega]; exact h1, fun c hc' => ?_⟩
     rw [List.getElem?_eq_getElem hlt] at hc'
     cases hc'
     exact h2
   let f : Nat → Value := fun j => (w.cell? ⟨b, o + off + j, none⟩).getD undef
   have hf : ∀ j, j < ti.size → w.cell? ⟨b, o + off + j, none⟩ = some (f j) ∧ ∀ c, cells[off + j]? = some c → VC m π c (f j) := by
     intro j hj
     obtain ⟨x, h1, h2⟩ := hex j hj
     have : f j = x := by simp [f, h1]
     rw [this]; exact ⟨h1, h2⟩
   refine ⟨_, run_loadVar_agg hT hk b (o + off) ((List.range ti.size).map f) (by simp) ?_, ⟨_, rfl, ?_⟩, ?_⟩
   · intro j x hj
     have hjl : j < ti.size := by
       have := (List.getElem?_eq_some_iff.1 hj).1
       simpa using this
     simp [hjl] at hj
     rw [← hj]; exact (hf j hjl).1
   · refine VL.of (by simp; omega) (fun i c v hi hv => ?_)
     have hil : i < ti.size := by
       have := (List.getElem?_eq_some_iff.1 hi).1
       simp at this; omega
     simp [hil] at hv
     rw [← hv]
     refine (hf i hil).2 c ?_
     rw [List.getElem?_take_of_lt hil, List.getElem?_drop] at hi
     exact hi
   · intro c hc'
     exact hcl c (zaa (zab hc'))
 have hone : ti.kind.isAgg = false → off < cells.length → ∃ v, (loadVar t ⟨b, o + off, none⟩).run P w = .ok v w ∧ VS m π (.one (cells.getD off (.sc (ti.zero.headD (.bool false))))) v ∧ (SV.one (cells.getD off (.sc (ti.zero.headD (.bool false))))).cl Fr := by
   intro hk hn
   obtain ⟨x, h1, h2⟩ := hc off cells[off] (by simp [hn])
   have e : cells.getD off (.sc (ti.zero.headD (.bool false))) = cells[off] := by simp [List.getD, hn]
   rw [e]
   exact ⟨x, run_loadVar_one hT hk _ x h1, h2, hcl _ (zah hn)⟩
 unfold readNeed at hn
 unfold readAt
 cases hk : ti.kind <;> simp only [hk] at hn ⊢ <;> first
   | exact hagg (by simp [hk, TK.isAgg]) hn.1
   | exact hone (by simp [hk, TK.isAgg]) hn
theorem rowcells {r : Nat} {row : Row} {p : Place} (h : RelAt P w0 A N Fr tm hp a w m π) (hr : hp r = some row) (hp' : π r = some (some p)) (hz : p.esz ≠ 0) : ∀ (i : Nat) c, row.cells[i]? = some c → ∃ x, w.cell? ⟨p.b, p.o + i, none⟩ = some x ∧ VC m π c x := by
 intro i c hi
 have := h.rows r row hr
 unfold RowOk at this
 rw [hp'] at this
 obtain ⟨_, _, arr, e, g3, _, _, g6⟩ := this
 obtain ⟨x, hx, hv⟩ := g6 i c hi
 exact ⟨x, by rw [cell_of_block (g3.cells hz)]; exact hx, hv⟩
theorem vg_ptr_cells (h : RelAt P w0 A N Fr tm hp a w m π) {cs : List Cell} {b o : Nat} {vals : Nat → Value} (hm : ∀ (i : Nat) x, cs[i]? = some x → m ⟨b, o + i, none⟩ = some (vals i)) (hv : ∀ (i : Nat) x, cs[i]? = some x → VG m x (vals i)) : (∀ (i : Nat) c, cs[i]? = some c → ∃ x, w.cell? ⟨b, o + i, none⟩ = some x ∧ VC m π c x) ∧ (∀ c ∈ cs, c.cl Fr) := by
 constructor
 · intro i c hi
   refine ⟨vals i, (h.mok _ _ (hm i c hi)).2, ?_⟩
   have := hv i c hi
   cases c <;> first | exact this | cases this
 · intro c hc
   obtain ⟨i, hi, rfl⟩ := List.mem_iff_getElem.1 hc
   have := hv i _ (List.getElem?_eq_getElem hi)
   cases hcs : cs[i] <;> rw [hcs] at this <;> first | trivial | cases this
theorem sLoad_ok (T : Tab) (hT : TOk P T) (h : RelAt P w0 A N Fr tm hp a w m π) {t : Nat} {x : Operand} (ho : o.op = .load t x) {p : SV} (hp' : VS m π p (a.eval x)) (hn : (sLoad T hp t p).need) : Good P o w0 A N Fr tm hp a w n (sLoad T hp t p) := by
 have hex : execOp a.eval o = (do pure (.value (← Instr.loadAt t (a.eval x)))) := by unfold execOp; rw [ho]
 unfold sLoad at hn ⊢
 cases hl : slot t T.ts with
 | none => rw [hl] at hn; exact hn.elim
 | some ti =>
   rw [hl] at hn
   have hti := hT t ti hl
   cases p with
   | agg cs => exact hn.elim
   | tup vs => exact hn.elim
   | one c =>
     cases c with
     | sc u => exact hn.elim
     | gsl a b c d => exact hn.elim
     | fn f caps => exact hn.elim
     | un => exact hn.elim
     | osl a b c d => exact hn.elim
     | mp _ _ => exact hn.elim
     | optr r off =>
       simp only at hn ⊢
       cases hr : hp r with
       | none => rw [hr] at hn; exact hn.elim
       | some row =>
         rw [hr] at hn
         simp only at hn ⊢
         have hrow := h.rows r row hr
         unfold RowOk at hrow
         obtain ⟨h1, h2⟩ := hp'
         cases hπ : π r with
         | none => rw [hπ] at hrow; exact hrow.elim
         | some q =>
           cases q with
           | none => rw [hπ] at h2; exact h2.elim
           | some pl =>
             rw [hπ] at h2
             simp only at h2
             obtain ⟨v, hv1, hv2, hv3⟩ := read_ok (P := P) hti row.cells pl.b pl.o off (h.rcl r row hr) (rowcells h hr hπ h2.1) hn
             refine good_pure h (v := v) ?_ hv2 hv3
             rw [hex, h2.2]
             simp only [Instr.loadAt, Instr.sureAddr, Sem.run_bind, Sem.run_pure, Result.andThen_ok, hv1]
     | gptr cs off =>
       simp only at hn ⊢
       generalize hev : a.eval x = u at hp'
       cases hp' with
       | gptr _ _ b o vals hm hv =>
         obtain ⟨g1, g2⟩ := vg_ptr_cells h hm hv
         obtain ⟨v, hv1, hv2, hv3⟩ := read_ok (P := P) hti cs b o off g2 g1 hn
         refine good_pure h (v := v) ?_ hv2 hv3
         rw [hex, hev]
         simp only [Instr.loadAt, Instr.sureAddr, Sem.run_bind, Sem.run_pure, Result.andThen_ok, hv1]
end
end Go.Proofs.YtnahpejlhfeleabGreat.Sh
namespace Go.Proofs.YtnahpejlhfeleabGreat.Sh
open Go.RowKit
def live (get : Nat → Option Row) (r : Nat) : Prop := (get r).isSome = true
def sIndexAddr (T : Tab) (get : Nat → Option Row) (t : Nat) (x i : SV) : Res :=
  match slot t T.ts, i with
  | some ti, .one (.sc (.int k n)) =>
    (match ti.kind with
    | .slice e =>
      (match slot e T.ts with
      | none => bad
      | some te =>
        (match x with
        | .one (.osl r off len cap) => ⟨0 ≤ n ∧ n < (len : Int) ∧ live get r, .one (.optr r (off + n.toNat * te.size)), [], 0⟩
        | .one (.gsl cs off len cap) => ⟨0 ≤ n ∧ n < (len : Int), .one (.gptr cs (off + n.toNat * te.size)), [], 0⟩
        | _ => bad))
    | .array cnt e =>
      (match slot e T.ts with
      | none => bad
      | some te =>
        (match x with
        | .one (.optr r off) => ⟨0 ≤ n ∧ n < (cnt : Int) ∧ live get r, .one (.optr r (off + n.toNat * te.size)), [], 0⟩
        | .one (.gptr cs off) => ⟨0 ≤ n ∧ n < (cnt : Int), .one (.gptr cs (off + n.toNat * te.size)), [], 0⟩
        | _ => bad))
    | _ => bad)
  | _, _ => bad
def sFieldAddr (T : Tab) (get : Nat → Option Row) (t : Nat) (x : SV) (f : Nat) : Res :=
  match slot t T.ts with
  | none => bad
  | some ti =>
    (match ti.kind with
    | .struct fs =>
      (match fs[f]? with
      | none => bad
      | some (fo, ft) =>
        (match slot ft T.ts with
        | none => bad
        | some te =>
          (match x with
          | .one (.optr r off) => ⟨te.size ≠ 0 ∧ live get r, .one (.optr r (off + fo)), [], 0⟩
          | .one (.gptr cs off) => ⟨te.size ≠ 0, .one (.gptr cs (off + fo)), [], 0⟩
          | _ => bad)))
    | _ => bad)
def sNil (get : Nat → Option Row) (x : SV) : Res :=
  match x with
  | .one (.optr r off) => ⟨live get r, .one (.optr r off), [], 0⟩
  | .one (.gptr cs off) => ⟨True, .one (.gptr cs off), [], 0⟩
  | .one (.fn f caps) => ⟨True, .one (.fn f caps), [], 0⟩
  | _ => bad
def sAlloc (T : Tab) (t n : Nat) : Res :=
  match slot t T.ts with
  | none => bad
  | some ti => ⟨0 < ti.size, .one (.optr n 0), [(n, some ⟨ti.zero.map .sc, ti.size⟩)], 1⟩
def sBox (x : SV) (n : Nat) : Res := ⟨x.solid ∧ 0 < x.cells.length, .one (.optr n 0), [(n, some ⟨x.cells, x.cells.length⟩)], 1⟩
section
variable {P : Program} {o : Oper} {w0 : Base} {A : Nat → Prop} {N : Nat} {Fr : Nat → Prop} {tm : Nat → Option SV} {hp : Nat → Option Row} {a : Act} {w : World} {m : Mem} {π : Plc} {n : Nat}
theorem live_row (h : RelAt P w0 A N Fr tm hp a w m π) {r : Nat} (hl : live hp r) : ∃ row q, hp r = some row ∧ π r = some q ∧ (q = none → row.cells = []) := by
 unfold live at hl
 obtain ⟨row, hr⟩ := Option.isSome_iff_exists.1 hl
 have := h.rows r row hr
 unfold RowOk at this
 cases hq : π r with
 | none => rw [hq] at this; exact this.elim
 | some q =>
   refine ⟨row, q, hr, rfl, fun e => ?_⟩
   subst e
   rw [hq] at this
   exact this
theorem sNil_ok (h : RelAt P w0 A N Fr tm hp a w m π) {x : Operand} (ho : o.op = .nilCheck x) {p : SV} (hp' : VS m π p (a.eval x)) (hcl : p.cl Fr) (hn : (sNil hp p).need) : Good P o w0 A N Fr tm hp a w n (sNil hp p) := by
 unfold sNil at hn ⊢
 cases p with
 | agg cs => exact hn.elim
 | tup vs => exact hn.elim
 | one c =>
   cases c with
   | sc u => exact hn.elim
   | gsl a b c d => exact hn.elim
   | un => exact hn.elim
   | mp _ _ => exact hn.elim
   | osl a b c d => exact hn.elim
   | fn f caps =>
     simp only at hn ⊢
     refine good_pure h (v := a.eval x) ?_ hp' hcl
     generalize hev : a.eval x = u at hp'
     cases hp' with
     | fn _ _ vals hl hv =>
       unfold execOp
       simp [ho, hev]
   | gptr cs off =>
     simp only at hn ⊢
     refine good_pure h (v := a.eval x) ?_ hp' hcl
     generalize hev : a.eval x = u at hp'
     cases hp' with
     | gptr _ _ b o vals hm hv =>
       unfold execOp
       simp [ho, hev]
   | optr r off =>
     simp only at hn ⊢
     obtain ⟨row, q, hr, hq, hq2⟩ := live_row h hn
     obtain ⟨h1, h2⟩ := hp'
     rw [hq] at h2
     cases q with
     | none => exact h2.elim
     | some pl =>
       simp only at h2
       refine good_pure h (v := a.eval x) ?_ ⟨h1, by rw [hq]; exact h2⟩ hcl
       unfold execOp
       simp [ho, h2.2]
theorem sFieldAddr_ok (T : Tab) (hT : TOk P T) (h : RelAt P w0 A N Fr tm hp a w m π) {t : Nat} {x : Operand} {f : Nat} (ho : o.op = .fieldAddr t x f) {p : SV} (hp' : VS m π p (a.eval x)) (hcl : p.cl Fr) (hn : (sFieldAddr T hp t p f).need) : Good P o w0 A N Fr tm hp a w n (sFieldAddr T hp t p f) := by
 have hex : execOp a.eval o = (do pure (.value (← Instr.fieldAt t (a.eval x) f))) := by unfold execOp; rw [ho]
 unfold sFieldAddr at hn ⊢
 cases hl : slot t T.ts with
 | none => rw [hl] at hn; exact hn.elim
 | some ti =>
   rw [hl] at hn
   simp only at hn ⊢
   have hti := hT t ti hl
   cases hk : ti.kind with
   | struct fs =>
     rw [hk] at hn
     simp only at hn ⊢
     cases hfs : fs[f]? with
     | none => rw [hfs] at hn; exact hn.elim
     | some fo =>
       obtain ⟨fo, ft⟩ := fo
       rw [hfs] at hn
       simp only at hn ⊢
       cases hl2 : slot ft T.ts with
       | none => rw [hl2] at hn; exact hn.elim
       | some te =>
         rw [hl2] at hn
         simp only at hn ⊢
         have hte := hT ft te hl2
         obtain ⟨fl, hu, hfl⟩ := hti.struct hk
         have hfld : ∃ fd, fl[f]? = some fd ∧ fd.offset = fo ∧ fd.type = ft := by
           rw [← hfl, List.getElem?_map] at hfs
           simp only [Array.getElem?_toList] at hfs
           cases hq : fl[f]? with
           | none => rw [hq] at hfs; simp at hfs
           | some fd => rw [hq] at hfs; simp at hfs; exact ⟨fd, rfl, hfs.1, hfs.2⟩
         obtain ⟨fd, hfd, rfl, rfl⟩ := hfld
         have hrun : ∀ b oo, te.size ≠ 0 → (Instr.fieldAt t (.pointer (some ⟨b, oo, none⟩)) f).run P w = .ok (.pointer (some ⟨b, oo + fd.offset, none⟩)) w := by
           intro b oo hne
           simp [Instr.fieldAt, underlying, hu, hfd, Instr.sureAddr, fieldPlace, hte.size, hne, addr_add]
         cases p with
         | agg cs => exact hn.elim
         | tup vs => exact hn.elim
         | one c =>
           cases c with
           | sc u => exact hn.elim
           | gsl a b c d => exact hn.elim
           | un => exact hn.elim
           | mp _ _ => exact hn.elim
           | osl a b c d => exact hn.elim
           | fn f caps => exact hn.elim
           | gptr cs off =>
             simp only at hn ⊢
             generalize hev : a.eval x = u at hp'
             cases hp' with
             | gptr _ _ b o vals hm hv =>
               refine good_pure h (v := .pointer (some ⟨b, o + (off + fd.offset), none⟩)) ?_ (VG.gptr cs (off + fd.offset) b o vals hm hv) trivial
               rw [hex, hev]
               simp [hrun b (o + off) hn, zad]
           | optr r off =>
             simp only at hn ⊢
             obtain ⟨row, q, hr, hq, hq2⟩ := live_row h hn.2
             obtain ⟨h1, h2⟩ := hp'
             rw [hq] at h2
             cases q with
             | none => exact h2.elim
             | some pl =>
               simp only at h2
               refine good_pure h (v := .pointer (some ⟨pl.b, pl.o + (off + fd.offset), none⟩)) ?_ ⟨rfl, by rw [hq]; exact ⟨h2.1, rfl⟩⟩ hcl
               rw [hex, h2.2]
               simp [hrun pl.b (pl.o + off) hn.1, zad]
   | _ => rw [hk] at hn; exact hn.elim
theorem sIndexAddr_ok (T : Tab) (hT : TOk P T) (h : RelAt P w0 A N Fr tm hp a w m π) {t : Nat} {x i : Operand} (ho : o.op = .indexAddr t x i) {p q : SV} (hp' : VS m π p (a.eval x)) (hq' : VS m π q (a.eval i)) (hcl : p.cl Fr) (hn : (sIndexAddr T hp t p q).need) : Good P o w0 A N Fr tm hp a w n (sIndexAddr T hp t p q) := by
 have hex : execOp a.eval o = (do pure (.value (← Instr.indexAt t (a.eval x) (a.eval i)))) := by unfold execOp; rw [ho]
 unfold sIndexAddr at hn ⊢
 cases hl : slot t T.ts with
 | none => rw [hl] at hn; exact hn.elim
 | some ti =>
   rw [hl] at hn
   have hti := hT t ti hl
   cases q with
   | agg cs => exact hn.elim
   | tup vs => exact hn.elim
   | one c =>
   cases c with
   | gsl _ _ _ _ => exact hn.elim
   | un => exact hn.elim
   | mp _ _ => exact hn.elim
   | osl _ _ _ _ => exact hn.elim
   | fn _ _ => exact hn.elim
   | gptr _ _ => exact hn.elim
   | optr _ _ => exact hn.elim
   | sc u =>
   have hei : a.eval i = u := by generalize a.eval i = z at hq'; cases hq'; rfl
   cases u with
   | int k k0 =>
     simp only at hn ⊢
     cases hk : ti.kind with
     | slice e =>
       rw [hk] at hn
       simp only at hn ⊢
       cases hl2 : slot e T.ts with
       | none => rw [hl2] at hn; exact hn.elim
       | some te =>
         rw [hl2] at hn
         simp only at hn ⊢
         have hte := hT e te hl2
         have hu := hti.slice hk
         have hrun : ∀ ad len c, 0 ≤ k0 → k0 < (len : Nat) → (Instr.indexAt t (.slice (some ad) len c) (.int k k0)).run P w = .ok (.pointer (some (ad.add (k0.toNat * te.size)))) w := by
           intro ad len c h0 h1
           simp [Instr.indexAt, asIntOf, underlying, hu, h0, h1, hte.size]
         cases p with
         | agg cs => exact hn.elim
         | tup vs => exact hn.elim
         | one c =>
           cases c with
           | sc u => exact hn.elim
           | optr _ _ => exact hn.elim
           | un => exact hn.elim
           | mp _ _ => exact hn.elim
           | gptr _ _ => exact hn.elim
           | fn f caps => exact hn.elim
           | gsl cs off len cap =>
             simp only at hn ⊢
             generalize hev : a.eval x = u at hp'
             cases hp' with
             | gnil _ _ _ hc => omega
             | gsl _ _ _ _ b o c ad vals hc hlc hm hv ha =>
               obtain ⟨h0, h1⟩ := hn
               have had : ad = ⟨b, o + off, none⟩ := ha.resolve_right (by omega)
               subst had
               refine good_pure h (v := .pointer (some ⟨b, o + (off + k0.toNat * te.size), none⟩)) ?_ (VG.gptr cs _ b o vals hm hv) trivial
               rw [hex, hev, hei]
               simp [hrun _ len c h0 h1, addr_add, zad]
           | osl r off len cap =>
             simp only at hn ⊢
             obtain ⟨h0, h1, hlv⟩ := hn
             obtain ⟨row, q, hr, hq, hq2⟩ := live_row h hlv
             obtain ⟨g1, g2⟩ := hp'
             rw [hq] at g2
             cases q with
             | none => simp only at g2; omega
             | some pl =>
               simp only at g2
               obtain ⟨gz, ad, c, hv, hlc, hc, hor⟩ := g2
               have had : ad = ⟨pl.b, pl.o + off, none⟩ := by
                 rcases hor with ⟨e1, _⟩ | ⟨e1, _⟩
                 · omega
                 · exact e1
               subst had
               refine good_pure h (v := .pointer (some ⟨pl.b, pl.o + (off + k0.toNat * te.size), none⟩)) ?_ ⟨rfl, by rw [hq]; exact ⟨gz, rfl⟩⟩ hcl
               rw [hex, hv, hei]
               simp [hrun _ len c h0 h1, addr_add, zad]
     | array cnt e =>
       rw [hk] at hn
       simp only at hn ⊢
       cases hl2 : slot e T.ts with
       | none => rw [hl2] at hn; exact hn.elim
       | some te =>
         rw [hl2] at hn
         simp only at hn ⊢
         have hte := hT e te hl2
         have hu := hti.array hk
         have hrun : ∀ ad, 0 ≤ k0 → k0 < (cnt : Nat) → (Instr.indexAt t (.pointer (some ad)) (.int k k0)).run P w = .ok (.pointer (some (ad.add (k0.toNat * te.size)))) w := by
           intro ad h0 h1
           simp [Instr.indexAt, asIntOf, underlying, hu, h0, h1, hte.size, Instr.sureAddr]
         cases p with
         | agg cs => exact hn.elim
         | tup vs => exact hn.elim
         | one c =>
           cases c with
           | sc u => exact hn.elim
           | gsl a b c d => exact hn.elim
           | un => exact hn.elim
           | mp _ _ => exact hn.elim
           | osl a b c d => exact hn.elim
           | fn f caps => exact hn.elim
           | gptr cs off =>
             simp only at hn ⊢
             generalize hev : a.eval x = u at hp'
             cases hp' with
             | gptr _ _ b o vals hm hv =>
               refine good_pure h (v := .pointer (some ⟨b, o + (off + k0.toNat * te.size), none⟩)) ?_ (VG.gptr cs _ b o vals hm hv) trivial
               rw [hex, hev, hei]
               simp [hrun _ hn.1 hn.2, addr_add, zad]
           | optr r off =>
             simp only at hn ⊢
             obtain ⟨h0, h1, hlv⟩ := hn
             obtain ⟨row, q, hr, hq, hq2⟩ := live_row h hlv
             obtain ⟨g1, g2⟩ := hp'
             rw [hq] at g2
             cases q with
             | none => exact g2.elim
             | some pl =>
               simp only at g2
               refine good_pure h (v := .pointer (some ⟨pl.b, pl.o + (off + k0.toNat * te.size), none⟩)) ?_ ⟨rfl, by rw [hq]; exact ⟨g2.1, rfl⟩⟩ hcl
               rw [hex, g2.2, hei]
               simp [hrun _ h0 h1, addr_add, zad]
     | _ => rw [hk] at hn; exact hn.elim
   | _ => exact hn.elim
theorem good_alloc (h : RelAt P w0 A N Fr tm hp a w m π) (hn : Fr n) {arr : Array Value} {e : TypeId} {row : Row} {need : Prop} {v : Value} {s : SV} (hr : (execOp a.eval o).run P w = .ok (.value v) (w.alloc (.cells arr e))) (hz : row.esz ≠ 0) (hl : row.cells.length ≤ arr.size) (hc : ∀ (i : Nat) c, row.cells[i]? = some c → ∃ x, arr[i]? = some x ∧ VC m π c x) (hcl : ∀ c ∈ row.cells, c.cl Fr) (hso : ∀ c ∈ row.cells, c ≠ .un) (hv : VS m (upd π n (some (some ⟨w.heap.size, 0, arr.size, row.esz⟩))) s v) (hs : s.cl (fun r => Fr r ∧ r ≠ n)) :
    Good P o w0 A N Fr tm hp a w n ⟨need, s, [(n, some row)], 1⟩ := by
  refine ⟨v, _, m, _, .inl hr, (h.alloc n hn row hz arr e hl hc hcl hso).frmono (fun r hr => ⟨hr.1, fun e => hr.2 (by simp only; omega)⟩), hv, SV.cl.mono (fun r hr => ⟨hr.1, fun e => hr.2 (by simp only; omega)⟩) hs⟩
theorem zero_cells (π : Plc) (zs : List Value) (h1 : ∀ x ∈ zs, x.oneCell' = true) : ∀ (i : Nat) c, (zs.map Cell.sc)[i]? = some c → ∃ x, zs[i]? = some x ∧ VC m π c x := by
 intro i c hi
 rw [List.getElem?_map] at hi
 cases hz : zs[i]? with
 | none => rw [hz] at hi; cases hi
 | some x =>
   rw [hz] at hi
   cases hi
   exact ⟨x, rfl, VG.sc x (h1 x (List.mem_of_getElem? hz))⟩
theorem cl_sc (zs : List Value) : ∀ c ∈ zs.map Cell.sc, c.cl Fr := by
 intro c hc
 obtain ⟨x, _, rfl⟩ := List.mem_map.1 hc
 trivial
theorem un_sc (zs : List Value) : ∀ c ∈ zs.map Cell.sc, c ≠ .un := by
 intro c hc
 obtain ⟨x, _, rfl⟩ := List.mem_map.1 hc
 exact fun h => by cases h
theorem cells_un {s : SV} (hs : s.solid) : ∀ c ∈ s.cells, c ≠ .un := by
 cases s with
 | one c => intro d hd; simp [SV.cells] at hd; subst hd; exact hs
 | agg cs => exact hs
 | tup vs => exact hs.elim
theorem sAlloc_ok (T : Tab) (hT : TOk P T) (h : RelAt P w0 A N Fr tm hp a w m π) (hf : Fr n) {t : Nat} (ho : o.op = .alloc t) (hn : (sAlloc T t n).need) : Good P o w0 A N Fr tm hp a w n (sAlloc T t n) := by
 have hex : execOp a.eval o = (do pure (.value (← Instr.alloc t true (.tuple #[])))) := by unfold execOp; rw [ho]
 unfold sAlloc at hn ⊢
 cases hl : slot t T.ts with
 | none => rw [hl] at hn; exact hn.elim
 | some ti =>
   rw [hl] at hn
   simp only at hn ⊢
   have hti := hT t ti hl
   obtain ⟨i, d, z, g1, g2, g3, g4, g5, g6, g7, g8, g9⟩ := hti.ex
   have hz : (zeroValue t).run P w = .ok z w := by simp [zeroValue, typeInfo, g1, g6]
   refine good_alloc h hf (arr := z.cells) (e := t) (v := .pointer (some ⟨w.heap.size, 0, none⟩)) ?_ (zae hn) ?_ ?_ ?_ ?_ ?_ ?_
   · rw [hex]
     simp only [Instr.alloc, newVar, newRow, Sem.run_bind, hz, Result.andThen_ok, run_newObj, Sem.run_pure]
     rfl
   · simp [← g7]
   · intro i c hi
     have := zero_cells (m := m) π ti.zero g9 i c hi
     rw [← g7] at this
     simpa using this
   · exact cl_sc _
   · exact un_sc _
   · refine ⟨rfl, ?_⟩
     rw [upd_same]
     exact ⟨zae hn, rfl⟩
   · exact fun hq => hq.2 rfl
theorem sBox_ok (h : RelAt P w0 A N Fr tm hp a w m π) (hf : Fr n) {t : Nat} {x : Operand} (ho : o.op = .box t x) {p : SV} (hp' : VS m π p (a.eval x)) (hcl : p.cl Fr) (hn : (sBox p n).need) : Good P o w0 A N Fr tm hp a w n (sBox p n) := by
 have hex : execOp a.eval o = (do pure (.value (← Instr.box t (a.eval x)))) := by unfold execOp; rw [ho]
 unfold sBox at hn ⊢
 obtain ⟨h1, h2⟩ := VS.cells hp' hn.1
 refine good_alloc h hf (arr := (a.eval x).cells) (e := t) (v := .pointer (some ⟨w.heap.size, 0, none⟩)) ?_ (zae hn.2) ?_ ?_ ?_ ?_ ?_ ?_
 · rw [hex]
   simp only [Instr.box, newVar, newRow, Sem.run_bind, Result.andThen_ok, run_newObj, Sem.run_pure]
   rfl
 · have := h1.length
   simp at this
   show p.cells.length ≤ _
   omega
 · intro i c hi
   obtain ⟨v, hv1, hv2⟩ := h1.get i c hi
   exact ⟨v, by simpa using hv1, hv2⟩
 · show ∀ c ∈ p.cells, c.cl Fr
   cases p with
   | one c => intro d hd; simp [SV.cells] at hd; subst hd; exact hcl
   | agg cs => exact hcl
   | tup vs => exact hn.1.elim
 · exact cells_un hn.1
 · refine ⟨rfl, ?_⟩
   rw [upd_same]
   exact ⟨zae hn.2, rfl⟩
 · exact fun hq => hq.2 rfl
theorem cells_cl {s : SV} (hs : s.solid) (hcl : s.cl Fr) : ∀ c ∈ s.cells, c.cl Fr := by
 cases s with
 | one c => intro d hd; simp [SV.cells] at hd; subst hd; exact hcl
 | agg cs => exact hcl
 | tup vs => exact hs.elim
theorem sStore_ok (T : Tab) (hT : TOk P T) (h : RelAt P w0 A N Fr tm hp a w m π) {t : Nat} {x y : Operand} (ho : o.op = .store t x y) {p s : SV} (hp' : VS m π p (a.eval x)) (hs' : VS m π s (a.eval y)) (hcl : s.cl Fr) (hn : (sStore T hp t p s).need) : Good P o w0 A N Fr tm hp a w n (sStore T hp t p s) := by
 have hex : execOp a.eval o = (do Instr.storeAt t (a.eval x) (a.eval y); pure .skip) := by unfold execOp; rw [ho]
 unfold sStore at hn ⊢
 cases hl : slot t T.ts with
 | none => rw [hl] at hn; exact hn.elim
 | some ti =>
   rw [hl] at hn
   have hti := hT t ti hl
   cases p with
   | agg cs => exact hn.elim
   | tup vs => exact hn.elim
   | one c =>
     cases c with
     | sc u => exact hn.elim
     | gsl a b c d => exact hn.elim
     | fn f caps => exact hn.elim
     | un => exact hn.elim
     | mp _ _ => exact hn.elim
     | osl a b c d => exact hn.elim
     | gptr _ _ => exact hn.elim
     | optr r off =>
       simp only at hn ⊢
       cases hr : hp r with
       | none => rw [hr] at hn; exact hn.elim
       | some row =>
         rw [hr] at hn
         simp only at hn ⊢
         obtain ⟨n1, n2, n3, n4⟩ := hn
         obtain ⟨h1, h2⟩ := hp'
         cases hπ : π r with
         | none => have := h.rows r row hr; unfold RowOk at this; rw [hπ] at this; exact this.elim
         | some q =>
           rw [hπ] at h2
           cases q with
           | none => exact h2.elim
           | some pl =>
             simp only at h2
             obtain ⟨g1, g2⟩ := VS.cells hs' n1
             obtain ⟨w', k1, k2⟩ := h.store P hr hπ h2.1 off s.cells _ g1 g2 (cells_cl n1 hcl) (cells_un n1) (by omega)
             refine ⟨undef, w', m, π, .inr ⟨?_, rfl⟩, k2.frmono (fun r hr => hr.1), trivial, trivial⟩
             have hsz : (a.eval y).cells.size = ti.size := by have := g1.length; simp at this; omega
             rw [hex, h2.2]
             simp [Instr.storeAt, Instr.sureAddr, storeVar, hti.size, hsz, k1]
end
end Go.Proofs.YtnahpejlhfeleabGreat.Sh
namespace Go.Proofs.YtnahpejlhfeleabGreat.Sh
open Go.RowKit
def slc (sz : Nat) (get : Nat → Option Row) : SV → Option (List Cell × Nat)
  | .one (.osl r off len _) => (match get r with
    | some row => some ((row.cells.drop off).take (len * sz), len)
    | none => none)
  | .one (.gsl cs off len _) => some ((cs.drop off).take (len * sz), len)
  | .one (.sc (.slice none 0 0)) => some ([], 0)
  | .one (.sc (.slice (some _) 0 _)) => some ([], 0)
  | _ => none
def sAppend (T : Tab) (get : Nat → Option Row) (t : Nat) (s x : SV) (n : Nat) : Res :=
  match slot t T.ts with
  | none => bad
  | some ti =>
    (match ti.kind with
    | .slice e =>
      (match slot e T.ts with
      | none => bad
      | some te =>
        (match slc te.size get x with
        | none => bad
        | some (xc, k) =>
          (match s with
          | .one (.sc (.slice none 0 0)) => ⟨xc.length = k * te.size ∧ 0 < te.size ∧ 0 < te.bytes ∧ k * te.bytes ≤ 281474976710656, .one (.osl n 0 k none), [(n, some ⟨xc, te.size⟩)], 1⟩
          | .one (.osl r off len (some 0)) => ⟨xc.length = k * te.size ∧ 0 < te.size ∧ 0 < te.bytes ∧ k * te.bytes ≤ 281474976710656 ∧ live get r, .one (.osl n 0 k none), [(n, some ⟨xc, te.size⟩)], 1⟩
          | .one (.gsl cs off len (some 0)) => ⟨xc.length = k * te.size ∧ 0 < te.size ∧ 0 < te.bytes ∧ k * te.bytes ≤ 281474976710656, .one (.osl n 0 k none), [(n, some ⟨xc, te.size⟩)], 1⟩
          | .one (.osl r off len cap) =>
            (match get r with
            | none => bad
            | some row => ⟨xc.length = k * te.size ∧ 0 < te.size ∧ 0 < te.bytes ∧ (len + k) * te.bytes ≤ 140737488355328 ∧ row.esz = te.size ∧ off + len * te.size ≤ row.cells.length,
                .one (.osl n 0 (len + k) none), [(r, none), (n, some ⟨(row.cells.drop off).take (len * te.size) ++ xc, te.size⟩)], 1⟩)
          | _ => bad)))
    | _ => bad)
section
variable {P : Program} {o : Oper} {w0 : Base} {A : Nat → Prop} {N : Nat} {Fr : Nat → Prop} {tm : Nat → Option SV} {hp : Nat → Option Row} {a : Act} {w : World} {m : Mem} {π : Plc} {n : Nat}
theorem slc_ok (h : RelAt P w0 A N Fr tm hp a w m π) {x : SV} {v : Value} (hx : VS m π x v) (hcl : x.cl Fr) {sz : Nat} {xc : List Cell} {k : Nat} (hs : slc sz hp x = some (xc, k)) (hl : xc.length = k * sz) (hz : 0 < sz) : ∃ (ad : Option Addr) (c : Nat) (vals : List Value), v = .slice ad k c ∧ VL m π xc vals ∧ (∀ u ∈ vals, u.oneCell' = true) ∧ (∀ c ∈ xc, c.cl Fr) ∧ (∀ c ∈ xc, c ≠ .un) ∧ (∀ d, ad = some d → ∀ (j : Nat) u, vals[j]? = some u → w.cell? (d.add j) = some u) ∧ (ad = none → k = 0 ∧ c = 0) ∧ k ≤ c := by
 have hzero : k = 0 → xc = [] := fun e => List.length_eq_zero_iff.1 (by rw [hl, e]; simp)
 cases x with
 | agg cs => cases hs
 | tup vs => cases hs
 | one cc =>
   cases cc with
   | optr _ _ => cases hs
   | un => cases hs
   | mp _ _ => cases hs
   | gptr _ _ => cases hs
   | fn f caps => cases hs
   | sc u =>
     unfold slc at hs
     split at hs
     case h_3 heq =>
       cases heq
       cases hs
       cases hx
       exact ⟨none, 0, [], rfl, trivial, by simp, by simp, by simp, by simp, fun _ => ⟨rfl, rfl⟩, zai _⟩
     case h_4 ad c heq =>
       cases heq
       cases hs
       cases hx
       exact ⟨some ad, c, [], rfl, trivial, by simp, by simp, by simp, by simp, fun h => (by cases h), Nat.zero_le _⟩
     case h_5 => cases hs
     all_goals (rename_i heq; cases heq)
   | gsl cs off len cap =>
     simp only [slc, Option.some.injEq, Prod.mk.injEq] at hs
     obtain ⟨rfl, rfl⟩ := hs
     cases hx with
     | gnil _ _ _ hc =>
       have := hzero rfl
       rw [this]
       exact ⟨none, 0, [], rfl, trivial, by simp, by simp, by simp, by simp, fun _ => ⟨rfl, rfl⟩, zai _⟩
     | gsl _ _ _ _ b o c ad vals hc hlc hm hv ha =>
       by_cases h0 : len = 0
       · have := hzero h0
         rw [this]
         exact ⟨some ad, c, [], rfl, trivial, by simp, by simp, by simp, by simp, fun h => (by cases h), hlc⟩
       · have had : ad = ⟨b, o + off, none⟩ := ha.resolve_right h0
         subst had
         have hlen : len * sz ≤ cs.length - off := by simp at hl; omega
         have hget : ∀ (j : Nat), j < len * sz → ∃ cj, cs[off + j]? = some cj := fun j hj => by
           exact ⟨_, List.getElem?_eq_getElem (by omega)⟩
         refine ⟨_, c, (List.range (len * sz)).map (fun j => vals (off + j)), rfl, ?_, ?_, ?_, ?_, ?_, fun h => (by cases h), hlc⟩
         · refine VL.of (by simp; omega) (fun i c v hi hv' => ?_)
           have hil : i < len * sz := by have := (List.getElem?_eq_some_iff.1 hi).1; omega
           rw [List.getElem?_take_of_lt hil, List.getElem?_drop] at hi
           simp [hil] at hv'
           rw [← hv']
           have := hv _ _ hi
           cases c <;> first | exact this | cases this
         · intro u hu
           obtain ⟨j, hj, rfl⟩ := List.mem_map.1 hu
           obtain ⟨cj, hcj⟩ := hget j (by simpa using hj)
           exact (hv _ _ hcj).one
         · exact fun c hc => (vg_ptr_cells (Fr := Fr) (h := h) hm hv).2 c (zaa (zab hc))
         · intro c hc e
           subst e
           obtain ⟨i, hi, hie⟩ := List.mem_iff_getElem.1 (zaa (zab hc))
           have := hv i _ (List.getElem?_eq_getElem hi)
           rw [hie] at this
           cases this
         · intro d hd j u hj
           cases hd
           have hjl : j < len * sz := by have := (List.getElem?_eq_some_iff.1 hj).1; simpa using this
           simp [hjl] at hj
           obtain ⟨cj, hcj⟩ := hget j hjl
           rw [addr_add, ← hj, zad]
           exact (h.mok _ _ (hm _ _ hcj)).2
   | osl r off len cap =>
     simp only [slc] at hs
     cases hr : hp r with
     | none => rw [hr] at hs; cases hs
     | some row =>
       rw [hr] at hs
       simp only [Option.some.injEq, Prod.mk.injEq] at hs
       obtain ⟨rfl, rfl⟩ := hs
       have hrow := h.rows r row hr
       unfold RowOk at hrow
       obtain ⟨h1, h2⟩ := hx
       cases hπ : π r with
       | none => rw [hπ] at hrow; exact hrow.elim
       | some q =>
         rw [hπ] at h2 hrow
         cases q with
         | none =>
           simp only at h2
           obtain ⟨rfl, _, ad, rfl⟩ := h2
           have := hzero rfl
           rw [this]
           exact ⟨ad, 0, [], rfl, trivial, by simp, by simp, by simp, by simp, fun _ => ⟨rfl, rfl⟩, zai _⟩
         | some p =>
           simp only at h2
           obtain ⟨gz, ad, c, rfl, hlc, hc, hor⟩ := h2
           by_cases h0 : len = 0
           · have := hzero h0
             rw [this]
             exact ⟨some ad, c, [], rfl, trivial, by simp, by simp, by simp, by simp, fun h => (by cases h), hlc⟩
           · have had : ad = ⟨p.b, p.o + off, none⟩ := by
               rcases hor with ⟨e, _⟩ | ⟨e, _⟩
               · omega
               · exact e
             subst had
             have hlen : len * sz ≤ row.cells.length - off := by simp at hl; omega
             have hrc := rowcells h hr hπ gz
             have hex : ∀ j, j < len * sz → ∃ x, w.cell? ⟨p.b, p.o + off + j, none⟩ = some x ∧ ∀ c, row.cells[off + j]? = some c → VC m π c x := by
               intro j hj
               have hlt : off + j < row.cells.length := by omega
               obtain ⟨x, k1, k2⟩ := hrc (off + j) row.cells[off + j] (by simp [hlt])
               refine ⟨x, by rw [show p.o + off + j = p.o + (off + j) by omega]; exact k1, fun c hc' => ?_⟩
               rw [List.getElem?_eq_getElem hlt] at hc'
               cases hc'
               exact k2
             let f : Nat → Value := fun j => (w.cell? ⟨p.b, p.o + off + j, none⟩).getD undef
             have hf : ∀ j, j < len * sz → w.cell? ⟨p.b, p.o + off + j, none⟩ = some (f j) ∧ ∀ c, row.cells[off + j]? = some c → VC m π c (f j) := by
               intro j hj
               obtain ⟨x, k1, k2⟩ := hex j hj
               have : f j = x := by simp [f, k1]
               rw [this]; exact ⟨k1, k2⟩
             refine ⟨_, c, (List.range (len * sz)).map f, rfl, ?_, ?_, ?_, ?_, ?_, fun h => (by cases h), hlc⟩
             · refine VL.of (by simp; omega) (fun i c v hi hv' => ?_)
               have hil : i < len * sz := by have := (List.getElem?_eq_some_iff.1 hi).1; omega
               rw [List.getElem?_take_of_lt hil, List.getElem?_drop] at hi
               simp [hil] at hv'
               rw [← hv']
               exact (hf i hil).2 c hi
             · intro u hu
               obtain ⟨j, hj, rfl⟩ := List.mem_map.1 hu
               have hj' : j < len * sz := by simpa using hj
               have hlt : off + j < row.cells.length := by omega
               exact ((hf j hj').2 row.cells[off + j] (by simp [hlt])).one (h.rsol r row hr _ (zah hlt))
             · exact fun c hc => h.rcl r row hr c (zaa (zab hc))
             · exact fun c hc => h.rsol r row hr c (zaa (zab hc))
             · intro d hd j u hj
               cases hd
               have hjl : j < len * sz := by have := (List.getElem?_eq_some_iff.1 hj).1; simpa using this
               simp [hjl] at hj
               rw [addr_add, ← hj]
               exact (hf j hjl).1
theorem frm {new : Nat} (h : RelAt P w0 A N (fun r => Fr r ∧ r ≠ n) tm hp a w m π) (h1 : 1 ≤ new) : RelAt P w0 A N (fun r => Fr r ∧ ¬ (n ≤ r ∧ r < n + new)) tm hp a w m π :=
  h.frmono (fun r hr => ⟨hr.1, fun e => hr.2 ⟨by omega, by omega⟩⟩)
theorem RelAt.grown (h : RelAt P w0 A N Fr tm hp a w m π) (hn : Fr n) (cs : List Cell) (vals : List Value) (hv : VL m π cs vals) (hcl : ∀ c ∈ cs, c.cl Fr) (hso : ∀ c ∈ cs, c ≠ .un) (rest : Array Value) (e : TypeId) (esz : Nat) (hz : esz ≠ 0) (d : Nat) : RelAt P w0 A N (fun r => Fr r ∧ r ≠ n) tm (upd hp n (some ⟨cs, esz⟩)) a (({ w with drawn := d } : World).alloc (.cells (vals.toArray ++ rest) e)) m
      (upd π n (some (some ⟨w.heap.size, 0, vals.length + rest.size, esz⟩))) := by
  have hl := hv.length
  have := (h.drew d).alloc n hn ⟨cs, esz⟩ hz (vals.toArray ++ rest) e (by simp; omega) (fun i c hi => by
    obtain ⟨v, hv1, hv2⟩ := hv.get i c hi
    have hil : i < vals.length := (List.getElem?_eq_some_iff.1 hv1).1
    exact ⟨v, by rw [Array.getElem?_append_left (by simpa using hil)]; simpa using hv1, hv2⟩) hcl hso
  simpa using this
theorem zeroCells_size (z : Array Value) (k : Nat) : (Builtin.zeroCells z k).size = k * z.size := by simp [Builtin.zeroCells]
theorem grownCap_ge (w : World) (need old : Nat) (e : TypeId) : need ≤ grownCap w need old e := by
 simp [grownCap, Question.cut]
theorem append_fresh (T : Tab) (hT : TOk P T) (h : RelAt P w0 A N Fr tm hp a w m π) (hf : Fr n) {t e : Nat} {ti te : TI} (hl : slot t T.ts = some ti) (hk : ti.kind = .slice e) (hl2 : slot e T.ts = some te) {x : SV} {v : Value} (hx : VS m π x v) (hcx : x.cl Fr) {xc : List Cell} {k : Nat} (hs : slc te.size hp x = some (xc, k)) (hlen : xc.length = k * te.size) (hz : 0 < te.size) (hb : 0 < te.bytes) (hk2 : k * te.bytes ≤ 281474976710656) (base : Option Addr) (ty : TypeId) : ∃ v' w' π', (Builtin.append_ #[t, t] ty #[.slice base 0 0, v]).run P w = .ok v' w' ∧ RelAt P w0 A N (fun r => Fr r ∧ r ≠ n) tm (upd hp n (some ⟨xc, te.size⟩)) a w' m π' ∧ VS m π' (.one (.osl n 0 k none)) v' := by
 have hti := hT t ti hl
 have hte := hT e te hl2
 have hu := hti.slice hk
 obtain ⟨i, d, z, g1, g2, g3, g4, g5, g6, g7, g8, g9⟩ := hte.ex
 obtain ⟨ad, c, vals, rfl, q1, q2, q3, q4, q5, q6, q7⟩ := slc_ok h hx hcx hs hlen hz
 have hvl := q1.length
 by_cases h0 : k = 0
 · subst h0
   have hxc : xc = [] := List.length_eq_zero_iff.1 (by rw [hlen]; simp)
   subst hxc
   refine ⟨.slice base 0 0, w, upd π n (some none), ?_, h.nilrow n hf te.size, ⟨rfl, ?_⟩⟩
   · have h48 : Builtin.firstCells te.size 0 (.slice ad 0 c) = Builtin.firstCells te.size 0 (.slice ad 0 c) := rfl
     cases ad <;> cases base <;> simp [Builtin.append_, run_underlying hu, sizeOf, typeInfo, g1, Builtin.lenOf, Builtin.firstCells, loadCells, loadCellsFrom, storeCells]
   · rw [upd_same]
     exact ⟨rfl, fun k hk => (by cases hk), base, rfl⟩
 · cases hda : ad with
   | none => exact absurd (q6 hda).1 h0
   | some dd =>
     subst hda
     have hcell := q5 dd rfl
     have hbk : k ≤ k * te.bytes := Nat.le_mul_of_pos_right k hb
     have h63 : (k : Int) ≤ 9223372036854775807 := by omega
     have hzs : z.cells.size = te.size := by rw [← Array.length_toList, g7, g8]
     have hrun : (Builtin.append_ #[t, t] ty #[.slice base 0 0, .slice (some dd) k c]).run P w = .ok (.slice (some ⟨w.heap.size, 0, none⟩) k (grownCap w k 0 e)) (w.drew.alloc (.cells (vals.toArray ++ Builtin.zeroCells z.cells (grownCap w k 0 e - k)) e)) := by
       cases base with
       | none => exact run_append_nil w t ty e i z hu g1 g6 dd k c vals (by rw [hvl, hlen, g3]) hcell (by omega) h63 (by rw [g4]; exact hk2)
       | some bb =>
         have := run_append_grow w t ty e i z hu g1 g6 bb 0 0 [] (by simp) (by simp) dd k c vals (by rw [hvl, hlen, g3]) hcell (by omega) (by simpa using h63) (by rw [Nat.zero_add, nextslicecap_zero (by omega), g4]; exact hk2)
         simpa using this
     have hgc := grownCap_ge w k 0 e
     refine ⟨_, _, _, hrun, h.grown hf xc vals q1 q3 q4 _ e te.size (zae hz) (w.drawn + 1), ⟨rfl, ?_⟩⟩
     rw [upd_same]
     refine ⟨zae hz, _, _, rfl, hgc, fun k hk => (by cases hk), .inr ⟨rfl, ?_⟩⟩
     simp only [zeroCells_size, hzs, hvl, hlen]
     rw [← zag]
     have : k + (grownCap w k 0 e - k) = grownCap w k 0 e := by omega
     rw [this]
     omega
theorem osl_at (h : RelAt P w0 A N Fr tm hp a w m π) {r off len : Nat} {cap : Option Nat} {v : Value} {row : Row} (hx : VS m π (.one (.osl r off len cap)) v) (hr : hp r = some row) : (π r = some none ∧ len = 0 ∧ row.cells = [] ∧ ∃ ad, v = .slice ad 0 0) ∨ ∃ p ad c, π r = some (some p) ∧ v = .slice (some ad) len c ∧ len ≤ c ∧ p.esz ≠ 0 ∧ ((len = 0 ∧ c = 0) ∨ (ad = ⟨p.b, p.o + off, none⟩ ∧ off + c * p.esz ≤ p.tot)) := by
 have hrow := h.rows r row hr
 unfold RowOk at hrow
 obtain ⟨h1, h2⟩ := hx
 cases hπ : π r with
 | none => rw [hπ] at hrow; exact hrow.elim
 | some q =>
   rw [hπ] at h2 hrow
   cases q with
   | none => exact .inl ⟨rfl, h2.1, hrow, h2.2.2⟩
   | some p =>
     obtain ⟨gz, ad, c, e, k1, k2, k3⟩ := h2
     exact .inr ⟨p, ad, c, rfl, e, k1, gz, k3⟩
theorem mono_kill {Fr : Nat → Prop} (π : Plc) (r : Nat) : ∀ q, ¬ Fr q → upd π r none q = π q ∨ upd π r none q = none := fun q _ => by
  unfold upd; split <;> simp
theorem append_kill (T : Tab) (hT : TOk P T) (h : RelAt P w0 A N Fr tm hp a w m π) (hf : Fr n) {t e : Nat} {ti te : TI} (hl : slot t T.ts = some ti) (hk : ti.kind = .slice e) (hl2 : slot e T.ts = some te) {x : SV} {v : Value} (hx : VS m π x v) (hcx : x.cl Fr) {xc : List Cell} {k : Nat} (hs : slc te.size hp x = some (xc, k)) (hlen : xc.length = k * te.size) (hz : 0 < te.size) (hb : 0 < te.bytes) {r off len : Nat} {cap : Option Nat} {row : Row} {u : Value} (hy : VS m π (.one (.osl r off len cap)) u) (hr : hp r = some row) (hk2 : (len + k) * te.bytes ≤ 140737488355328) (hes : row.esz = te.size) (hin : off + len * te.size ≤ row.cells.length) (ty : TypeId) : ∃ v' w' π', (Builtin.append_ #[t, t] ty #[u, v]).run P w = .ok v' w' ∧ RelAt P w0 A N (fun r => Fr r ∧ r ≠ n) tm (upd (upd hp r none) n (some ⟨(row.cells.drop off).take (len * te.size) ++ xc, te.size⟩)) a w' m π' ∧ VS m π' (.one (.osl n 0 (len + k) none)) v' := by
 have hne : n ≠ r := fun e => by subst e; rw [h.fresh n hf] at hr; cases hr
 have hti := hT t ti hl
 have hte := hT e te hl2
 have hu := hti.slice hk
 obtain ⟨i, d, z, g1, g2, g3, g4, g5, g6, g7, g8, g9⟩ := hte.ex
 obtain ⟨ad, c, vals, rfl, q1, q2, q3, q4, q5, q6, q7⟩ := slc_ok h hx hcx hs hlen hz
 have hvl := q1.length
 have hzs : z.cells.size = te.size := by rw [← Array.length_toList, g7, g8]
 have hkill := h.kill r
 have hxk : VS m (upd π r none) x (.slice ad k c) := VS.mono (fun _ _ h => h) (mono_kill π r) hcx hx
 rcases osl_at h hy hr with ⟨hπ, rfl, hrc, base, rfl⟩ | ⟨p, ad', c', hπ, rfl, hlc', hpz, hor⟩
 · -- the empty row
   have hsr : ∀ (h0 : k ≠ 0 ∨ k = 0), slc te.size (upd hp r none) x = some (xc, k) ∨ k = 0 := by
     intro _
     by_cases h0 : k = 0
     · exact .inr h0
     · left
       cases x with
       | agg cs => cases hs
       | tup vs => cases hs
       | one cc =>
         cases cc with
         | osl r' off' len' cap' =>
           have : r' ≠ r := by
             intro e
             subst e
             obtain ⟨_, h2⟩ := hx
             rw [hπ] at h2
             simp only at h2
             simp only [slc, hr] at hs
             cases hs
             exact h0 h2.1
           simp only [slc, upd_ne _ _ _ _ this]
           exact hs
         | sc u0 =>
           rw [← hs]
           unfold slc
           split <;> first | rfl | (rename_i e; cases e)
         | gsl _ _ _ _ => exact hs
         | gptr _ _ => cases hs
         | fn _ _ => cases hs
         | optr _ _ => cases hs
         | un => cases hs
         | mp _ _ => cases hs
   have hcr : (row.cells.drop off).take (0 * te.size) ++ xc = xc := by simp
   rw [hcr, Nat.zero_add]
   rcases hsr (by omega) with hs' | h0
   · obtain ⟨v', w', π', e1, e2, e3⟩ := append_fresh T hT hkill hf hl hk hl2 hxk hcx hs' hlen hz hb (by simp at hk2; omega) base ty
     exact ⟨v', w', π', e1, e2, e3⟩
   · subst h0
     have hxc : xc = [] := List.length_eq_zero_iff.1 (by rw [hlen]; simp)
     subst hxc
     refine ⟨.slice base 0 0, w, upd (upd π r none) n (some none), ?_, hkill.nilrow n hf te.size, ⟨rfl, ?_⟩⟩
     · cases ad <;> cases base <;> simp [Builtin.append_, run_underlying hu, sizeOf, typeInfo, g1, Builtin.lenOf, Builtin.firstCells, loadCells, loadCellsFrom, storeCells]
     · rw [upd_same]
       exact ⟨rfl, fun k hk => (by cases hk), base, rfl⟩
 · have hrow := h.rows r row hr
   unfold RowOk at hrow
   rw [hπ] at hrow
   obtain ⟨hA, hpe, arr, ety, hblk, hasz, hrl, hrcell⟩ := hrow
   replace hblk := hblk.cells hpz
   replace hasz := hasz.1 hpz
   replace hrl := hrl.1 hpz
   have hesz : p.esz = te.size := by rw [hpe]; exact hes
   -- the old cells' values
   have hold : ∃ olds : List Value, olds.length = len * te.size ∧ VL m π ((row.cells.drop off).take (len * te.size)) olds ∧ (∀ (j : Nat) u, olds[j]? = some u → arr[p.o + off + j]? = some u) := by
     refine ⟨(List.range (len * te.size)).map (fun j => (arr[p.o + off + j]?).getD undef), by simp, ?_, ?_⟩
     · refine VL.of (by simp; omega) (fun i c v hi hv' => ?_)
       have hil : i < len * te.size := by have := (List.getElem?_eq_some_iff.1 hi).1; simp at this; omega
       rw [List.getElem?_take_of_lt hil, List.getElem?_drop] at hi
       simp only [List.getElem?_map, List.getElem?_range hil, Option.map_some, Option.some.injEq] at hv'
       obtain ⟨x, hx1, hx2⟩ := hrcell _ _ hi
       rw [← hv', show p.o + off + i = p.o + (off + i) by omega, hx1]
       exact hx2
     · intro j u hj
       have hjl : j < len * te.size := by have := (List.getElem?_eq_some_iff.1 hj).1; simpa using this
       simp only [List.getElem?_map, List.getElem?_range hjl, Option.map_some, Option.some.injEq] at hj
       obtain ⟨x, hx1, hx2⟩ := hrcell (off + j) row.cells[off + j] (by rw [List.getElem?_eq_getElem])
       rw [show p.o + (off + j) = p.o + off + j by omega] at hx1
       rw [← hj, hx1]; rfl
   obtain ⟨olds, ho1, ho2, ho3⟩ := hold
   have hcs : VL m (upd π r none) ((row.cells.drop off).take (len * te.size) ++ xc) (olds ++ vals) := by
     have k1 : VL m (upd π r none) ((row.cells.drop off).take (len * te.size)) olds := VL.mono (fun _ _ h => h) (mono_kill π r) (fun c hc => h.rcl r row hr c (zaa (zab hc))) ho2
     have k2 : VL m (upd π r none) xc vals := VL.mono (fun _ _ h => h) (mono_kill π r) q3 q1
     refine VL.of (by simp [ho2.length, hvl]) (fun i c v hi hv' => ?_)
     have hll := ho2.length
     rw [List.getElem?_append] at hi hv'
     by_cases hlt : i < ((row.cells.drop off).take (len * te.size)).length
     · rw [if_pos hlt] at hi
       rw [if_pos (by omega)] at hv'
       obtain ⟨v2, e1, e2⟩ := k1.get i c hi
       rw [e1] at hv'; cases hv'; exact e2
     · rw [if_neg hlt] at hi
       rw [if_neg (by omega), hll] at hv'
       obtain ⟨v2, e1, e2⟩ := k2.get _ c hi
       rw [e1] at hv'; cases hv'; exact e2
   have hcl2 : ∀ c ∈ (row.cells.drop off).take (len * te.size) ++ xc, c.cl Fr := by
     intro c hc
     rcases List.mem_append.1 hc with hc | hc
     · exact h.rcl r row hr c (zaa (zab hc))
     · exact q3 c hc
   have hso2 : ∀ c ∈ (row.cells.drop off).take (len * te.size) ++ xc, c ≠ .un := by
     intro c hc
     rcases List.mem_append.1 hc with hc | hc
     · exact h.rsol r row hr c (zaa (zab hc))
     · exact q4 c hc
   have hl2' := hcs.length
   have hlt2 : ((row.cells.drop off).take (len * te.size)).length = len * te.size := by simp; omega
   have hnews : ∀ dd, ad = some dd → ∀ (j : Nat) u, vals[j]? = some u → w.cell? (dd.add j) = some u := q5
   by_cases hg : len + k ≤ c'
   · -- in place
     have hbig : ¬ (len + k = 0 ∧ c' = 0) ∨ (len + k = 0 ∧ c' = 0) := by omega
     have hfree : ∀ (q : Nat) (p2 : Place), upd π r none q = some (some p2) → ¬ (p2.b = p.b) := by
       intro q p2 hq e
       unfold upd at hq
       split at hq
       · cases hq
       · rename_i hqr; exact hqr (h.inj q r p2 p hq hπ e)
     have hmf : ∀ dd v, m dd = some v → ¬ (dd.block = p.b) := fun dd v hv => h.dis r p dd v hπ hv
     by_cases h00 : len = 0 ∧ c' = 0
     · obtain ⟨rfl, rfl⟩ := h00
       have hk0 : k = 0 := by omega
       subst hk0
       have hxc : xc = [] := List.length_eq_zero_iff.1 (by rw [hlen]; simp)
       subst hxc
       rw [show (row.cells.drop off).take (0 * te.size) ++ ([] : List Cell) = [] by simp]
       refine ⟨.slice (some ad') 0 0, w, _, ?_, hkill.nilrow n hf te.size, ⟨rfl, ?_⟩⟩
       · cases ad <;> simp [Builtin.append_, run_underlying hu, sizeOf, typeInfo, g1, Builtin.lenOf, Builtin.firstCells, loadCells, loadCellsFrom, storeCells]
       · rw [upd_same]
         exact ⟨rfl, fun k hk => (by cases hk), _, rfl⟩
     · obtain ⟨rfl, hcap⟩ : ad' = ⟨p.b, p.o + off, none⟩ ∧ off + c' * p.esz ≤ p.tot := by
         rcases hor with e | e
         · exact absurd e h00
         · exact e
       rw [hesz] at hcap
       have hfit : p.o + off + len * te.size + vals.length ≤ arr.size := by
         have : (len + k) * te.size ≤ c' * te.size := Nat.mul_le_mul_right _ hg
         rw [zag] at this
         rw [hvl, hlen, hasz]; omega
       have hst := run_storeCells_at (P := P) p.b (p.o + off + len * te.size) ety vals 0 arr w hblk (by omega) q2
       simp only [Nat.add_zero] at hst
       have hfc : (Builtin.firstCells te.size k (.slice ad k c)).run P w = .ok vals.toArray w := by
         cases ad with
         | none =>
           have : k = 0 := (q6 rfl).1
           subst this
           have : vals = [] := List.length_eq_zero_iff.1 (by rw [hvl, hlen]; simp)
           subst this
           simp [Builtin.firstCells]
         | some dd => exact run_firstCells_some w te.size k dd k c vals (by rw [hvl, hlen]) (q5 dd rfl)
       have hrun : (Builtin.append_ #[t, t] ty #[.slice (some ⟨p.b, p.o + off, none⟩) len c', .slice ad k c]).run P w = .ok (.slice (some ⟨p.b, p.o + off, none⟩) (len + k) c') (w.setRow p.b (arr.toList.take (p.o + off + len * te.size) ++ vals ++ arr.toList.drop (p.o + off + len * te.size + vals.length)).toArray) := by
         simp [Builtin.append_, run_underlying hu, sizeOf, typeInfo, g1, g3, Builtin.lenOf, hg, hfc, addr_add, hst]
       generalize hnew : (arr.toList.take (p.o + off + len * te.size) ++ vals ++ arr.toList.drop (p.o + off + len * te.size + vals.length)).toArray = arr' at hrun
       have hsz : arr'.size = arr.size := by rw [← hnew]; simp; omega
       have hget : ∀ i, i < len * te.size + vals.length → arr'[p.o + off + i]? = (olds ++ vals)[i]? := by
         intro i hi
         rw [← hnew]
         simp only [List.getElem?_toArray, List.append_assoc]
         have ht : (arr.toList.take (p.o + off + len * te.size)).length = p.o + off + len * te.size := by simp; omega
         by_cases c1 : i < len * te.size
         · rw [List.getElem?_append_left (by omega), List.getElem?_take_of_lt (by omega), List.getElem?_append_left (by omega)]
           simp only [Array.getElem?_toList]
           rw [ho3 i olds[i] (by rw [List.getElem?_eq_getElem (by omega)])]
           rw [List.getElem?_eq_getElem (by omega)]
         · rw [List.getElem?_append_right (by omega), ht, List.getElem?_append_left (by omega), List.getElem?_append_right (by omega), ho1]
           congr 1; omega
       refine ⟨_, _, upd (upd π r none) n (some (some ⟨p.b, p.o + off, p.tot - off, te.size⟩)), hrun, ?_, ⟨rfl, ?_⟩⟩
       · refine (hkill.world (w' := w.setRow p.b arr') (fun b => b = p.b) rfl rfl rfl (by simp) (fun b hb hnb => setRow_other _ _ _ _ hnb) (fun b hb => by rw [hb]; exact hA) hfree hmf).adopt n hf ⟨p.b, p.o + off, p.tot - off, te.size⟩ _ arr' ety hA (zae hz) rfl (setRow_heap _ _ _ _ _ _ hblk) ?_ ?_ ?_ hcl2 hso2 hfree hmf
         · simp only [hsz, hasz]; omega
         · simp only [List.length_append, hlt2, hlen]
           have : (len + k) * te.size ≤ c' * te.size := Nat.mul_le_mul_right _ hg
           rw [zag] at this
           omega
         · intro i c hi
           simp only at hi ⊢
           have hil := (List.getElem?_eq_some_iff.1 hi).1
           obtain ⟨v2, e1, e2⟩ := hcs.get i c hi
           refine ⟨v2, ?_, e2⟩
           rw [hget i (by simp only [List.length_append, hlt2, hlen] at hil; rw [hvl, hlen]; exact hil)]
           exact e1
       · rw [upd_same]
         exact ⟨zae hz, _, c', rfl, hg, fun k hk => (by cases hk), .inr ⟨by simp, by simp only; omega⟩⟩
   · -- a new block
     have hbk : len + k ≤ (len + k) * te.bytes := Nat.le_mul_of_pos_right _ hb
     have hk0 : k ≠ 0 := by omega
     cases ad with
     | none => exact absurd (q6 rfl).1 hk0
     | some dd =>
       have hocell : ∀ (j : Nat) u, olds[j]? = some u → w.cell? (ad'.add j) = some u := by
         intro j u hj
         have hjl : j < len * te.size := by have := (List.getElem?_eq_some_iff.1 hj).1; omega
         have hl0 : len ≠ 0 := by intro e; subst e; simp at hjl
         obtain ⟨rfl, _⟩ : ad' = ⟨p.b, p.o + off, none⟩ ∧ off + c' * p.esz ≤ p.tot := by
           rcases hor with e | e
           · exact absurd e.1 hl0
           · exact e
         rw [addr_add, cell_of_block hblk]
         exact ho3 j u hj
       have hgc := grownCap_ge w (len + k) c' e
       have hrun := run_append_grow w t ty e i z hu g1 g6 ad' len c' olds (by rw [ho1, g3]) hocell dd k c vals (by rw [hvl, hlen, g3]) (q5 dd rfl) (by omega) (by omega)
         (by rw [g4]; exact growslice_fits (by omega) hk2)
       rw [show olds.toArray ++ vals.toArray = (olds ++ vals).toArray by simp] at hrun
       refine ⟨_, _, _, hrun, hkill.grown hf _ (olds ++ vals) hcs hcl2 hso2 _ e te.size (zae hz) (w.drawn + 1), ⟨rfl, ?_⟩⟩
       rw [upd_same]
       refine ⟨zae hz, _, _, rfl, hgc, fun k hk => (by cases hk), .inr ⟨rfl, ?_⟩⟩
       simp only [zeroCells_size, hzs, List.length_append, ho1, hvl, hlen]
       rw [← zag, ← zag]
       have : len + k + (grownCap w (len + k) c' e - (len + k)) = grownCap w (len + k) c' e := by omega
       rw [this]
       omega
end
end Go.Proofs.YtnahpejlhfeleabGreat.Sh
namespace Go.Proofs.YtnahpejlhfeleabGreat.Sh
open Go.RowKit
def inR (k : IntKind) (n : Int) : Prop := k.min ≤ n ∧ n ≤ k.max
def V (v : Value) : SV := .one (.sc v)
def ari (wr : Bool) (k : IntKind) (n : Int) : Res :=
  if wr then ⟨True, V (.int k (k.wrap n)), [], 0⟩ else ⟨inR k n, V (.int k n), [], 0⟩
def sBin (wr : Bool) (op : BinOp) (x y : SV) : Res :=
  match x, y with
  | .one (.sc (.int k a)), .one (.sc (.int k' b)) =>
    (match op with
    | .add => let r := ari wr k (a + b); ⟨k = k' ∧ r.need, r.val, [], 0⟩
    | .sub => let r := ari wr k (a - b); ⟨k = k' ∧ r.need, r.val, [], 0⟩
    | .mul => let r := ari wr k (a * b); ⟨k = k' ∧ r.need, r.val, [], 0⟩
    | .quo => let r := ari wr k (a.tdiv b); ⟨k = k' ∧ b ≠ 0 ∧ r.need, r.val, [], 0⟩
    | .rem => ⟨k = k' ∧ b ≠ 0, V (.int k (a.tmod b)), [], 0⟩
    | .and => ⟨k = k', V (.int k (k.wrap (BitVec.ofInt k.bits a &&& BitVec.ofInt k.bits b).toNat)), [], 0⟩
    | .or => ⟨k = k', V (.int k (k.wrap (BitVec.ofInt k.bits a ||| BitVec.ofInt k.bits b).toNat)), [], 0⟩
    | .xor => ⟨k = k', V (.int k (k.wrap (BitVec.ofInt k.bits a ^^^ BitVec.ofInt k.bits b).toNat)), [], 0⟩
    | .andNot => ⟨k = k', V (.int k (k.wrap (BitVec.ofInt k.bits a &&& ~~~ BitVec.ofInt k.bits b).toNat)), [], 0⟩
    | .shl => let r := ari wr k (a * 2 ^ (min b.toNat k.bits)); ⟨0 ≤ b ∧ r.need, r.val, [], 0⟩
    | .shr => ⟨0 ≤ b, V (.int k (a.fdiv (2 ^ (min b.toNat k.bits)))), [], 0⟩
    | .eql => ⟨k = k', V (.bool (decide (a = b))), [], 0⟩
    | .neq => ⟨k = k', V (.bool (!decide (a = b))), [], 0⟩
    | .lss => ⟨k = k', V (.bool (decide (a < b))), [], 0⟩
    | .leq => ⟨k = k', V (.bool (decide (a ≤ b))), [], 0⟩
    | .gtr => ⟨k = k', V (.bool (decide (b < a))), [], 0⟩
    | .geq => ⟨k = k', V (.bool (decide (b ≤ a))), [], 0⟩)
  | .one (.sc (.string a)), .one (.sc (.string b)) =>
    (match op with
    | .eql => ⟨True, V (.bool (a.toList == b.toList)), [], 0⟩
    | .neq => ⟨True, V (.bool (!(a.toList == b.toList))), [], 0⟩
    | .lss => ⟨True, V (.bool (Op.bytesLess a.toList b.toList)), [], 0⟩
    | .leq => ⟨True, V (.bool (Op.bytesLess a.toList b.toList || a.toList == b.toList)), [], 0⟩
    | .gtr => ⟨True, V (.bool (!(Op.bytesLess a.toList b.toList || a.toList == b.toList))), [], 0⟩
    | .geq => ⟨True, V (.bool (!(Op.bytesLess a.toList b.toList))), [], 0⟩
    | .add => ⟨((a.size + b.size : Nat) : Int) ≤ 9223372036854775807, V (.string (a ++ b)), [], 0⟩
    | _ => bad)
  | _, _ => bad
def eqCL : List Value → List Cell → List Cell → Prop × Bool
  | [], [], [] => (True, true)
  | z :: zs, .sc x :: xs, .sc y :: ys => (sameK x z = true ∧ sameK y z = true ∧ (eqCL zs xs ys).1, eqV x y && (eqCL zs xs ys).2)
  | _, _, _ => (False, false)
def sBinT (T : Tab) (get : Nat → Option Row) (op : BinOp) (t : Nat) (x y : SV) : Res :=
  match slot t T.ts with
  | none => sBin T.wr op x y
  | some ti => match ti.kind, x, y with
    | .bool, .one (.sc (.bool a)), .one (.sc (.bool b)) =>
      (match op with
      | .eql => ⟨True, V (.bool (a == b)), [], 0⟩
      | .neq => ⟨True, V (.bool (!(a == b))), [], 0⟩
      | _ => bad)
    | .slice _, .one (.osl r off len cap), .one (.sc (.slice none 0 0)) =>
      (match op with
      | .eql => ⟨0 < len ∧ live get r, V (.bool false), [], 0⟩
      | .neq => ⟨0 < len ∧ live get r, V (.bool true), [], 0⟩
      | _ => bad)
    | .slice _, .one (.gsl cs off len cap), .one (.sc (.slice none 0 0)) =>
      (match op with
      | .eql => ⟨0 < len, V (.bool false), [], 0⟩
      | .neq => ⟨0 < len, V (.bool true), [], 0⟩
      | _ => bad)
    | .slice _, .one (.sc (.slice (some _) 0 _)), .one (.sc (.slice none 0 0)) =>
      (match op with
      | .eql => ⟨True, V (.bool false), [], 0⟩
      | .neq => ⟨True, V (.bool true), [], 0⟩
      | _ => bad)
    | .slice _, .one (.sc (.slice none 0 0)), .one (.sc (.slice none 0 0)) =>
      (match op with
      | .eql => ⟨True, V (.bool true), [], 0⟩
      | .neq => ⟨True, V (.bool false), [], 0⟩
      | _ => bad)
    | _, .agg xs, .agg ys =>
      (match op with
      | .eql => ⟨ti.eq = true ∧ (eqCL ti.zero xs ys).1, V (.bool (eqCL ti.zero xs ys).2), [], 0⟩
      | .neq => ⟨ti.eq = true ∧ (eqCL ti.zero xs ys).1, V (.bool (!(eqCL ti.zero xs ys).2)), [], 0⟩
      | _ => bad)
    | _, _, _ => sBin T.wr op x y
def sUn (wr : Bool) (op : UnOp) (x : SV) : Res :=
  match op, x with
  | .not, .one (.sc (.bool b)) => ⟨True, V (.bool (!b)), [], 0⟩
  | .neg, .one (.sc (.int k n)) => ari wr k (0 - n)
  | .xor, .one (.sc (.int k n)) => ⟨True, V (.int k (k.wrap (BitVec.ofInt k.bits (if k.signed then -1 else k.max) ^^^ BitVec.ofInt k.bits n).toNat)), [], 0⟩
  | _, _ => bad
def sConv (T : Tab) (s d : Nat) (x : SV) : Res :=
  match slot s T.ts, slot d T.ts with
  | some ts, some td =>
    (match td.kind, x with
    | .int k, .one (.sc (.int k' n)) => ari T.wr k n
    | .str, .one (.sc (.string b)) => ⟨ts.kind = .str, V (.string b), [], 0⟩
    | _, _ => bad)
  | _, _ => bad
def sLen (T : Tab) (get : Nat → Option Row) (t : Nat) (x : SV) : Res :=
  match slot t T.ts with
  | none => bad
  | some ti => match ti.kind, x with
    | .slice _, .one (.osl r off len cap) => ⟨live get r, V (.int .i64 len), [], 0⟩
    | .slice _, .one (.gsl cs off len cap) => ⟨True, V (.int .i64 len), [], 0⟩
    | .slice _, .one (.sc (.slice none 0 0)) => ⟨True, V (.int .i64 0), [], 0⟩
    | .slice _, .one (.sc (.slice (some _) 0 _)) => ⟨True, V (.int .i64 0), [], 0⟩
    | .str, .one (.sc (.string b)) => ⟨True, V (.int .i64 b.size), [], 0⟩
    | .array n _, _ => ⟨True, V (.int .i64 n), [], 0⟩
    | _, _ => bad
def ints : List SV → Option (List (IntKind × Int))
  | [] => some []
  | .one (.sc (.int k n)) :: r => (match ints r with
    | some l => some ((k, n) :: l)
    | none => none)
  | _ :: _ => none
def foldMin : Int → List (IntKind × Int) → Int
  | x, [] => x
  | x, (_, y) :: r => foldMin (if y < x then y else x) r
def foldMax : Int → List (IntKind × Int) → Int
  | x, [] => x
  | x, (_, y) :: r => foldMax (if x < y then y else x) r
def sMin (xs : List SV) : Res :=
  match ints xs with
  | some ((k, x) :: r) => ⟨True, V (.int k (foldMin x r)), [], 0⟩
  | _ => bad
def sMax (xs : List SV) : Res :=
  match ints xs with
  | some ((k, x) :: r) => ⟨True, V (.int k (foldMax x r)), [], 0⟩
  | _ => bad
def sField (T : Tab) (t : Nat) (x : SV) (f : Nat) : Res :=
  match slot t T.ts with
  | none => bad
  | some ti => match ti.kind, x with
    | .struct fs, .agg cs => (match fs[f]? with
      | none => bad
      | some (fo, ft) => (match slot ft T.ts with
        | none => bad
        | some te => ⟨readNeed te cs fo, readAt te cs fo, [], 0⟩))
    | _, _ => bad
def sIndex (T : Tab) (t : Nat) (x i : SV) : Res :=
  match slot t T.ts, i with
  | some ti, .one (.sc (.int k n)) => (match ti.kind, x with
    | .array cnt e, .agg cs => (match slot e T.ts with
      | none => bad
      | some te => ⟨0 ≤ n ∧ n < (cnt : Int) ∧ readNeed te cs (n.toNat * te.size), readAt te cs (n.toNat * te.size), [], 0⟩)
    | .str, .one (.sc (.string s)) => ⟨0 ≤ n ∧ n < (s.size : Int), V (.int .u8 (((s[n.toNat]?).getD 0).toNat : Int)), [], 0⟩
    | _, _ => bad)
  | _, _ => bad
def sExtract (x : SV) (i : Nat) : Res :=
  match x with
  | .tup vs => ⟨i < vs.length, vs.getD i (.one .un), [], 0⟩
  | _ => bad
def zeros (sz : Nat) (zs : List Value) (k : Nat) : List Cell :=
  match sz with
  | 1 => zaj k (.sc (zs.headD (.bool false)))
  | _ => (zaj k (zs.map Cell.sc)).flatten
def sMake (T : Tab) (t : Nat) (l c : SV) (n : Nat) : Res :=
  match slot t T.ts, l, c with
  | some ti, .one (.sc (.int _ l)), .one (.sc (.int _ c)) => (match ti.kind with
    | .slice e => (match slot e T.ts with
      | none => bad
      | some te => ⟨0 ≤ l ∧ l ≤ c ∧ te.bytes * c ≤ 281474976710656 ∧ 0 < te.bytes ∧ 0 < te.size, .one (.osl n 0 l.toNat (some c.toNat)), [(n, some ⟨zeros te.size te.zero c.toNat, te.size⟩)], 1⟩)
    | _ => bad)
  | _, _, _ => bad
section
variable {P : Program} {o : Oper} {w0 : Base} {A : Nat → Prop} {N : Nat} {Fr : Nat → Prop} {tm : Nat → Option SV} {hp : Nat → Option Row} {a : Act} {w : World} {m : Mem} {π : Plc} {n : Nat}
theorem vs_sc {v u : Value} (h : VS m π (.one (.sc v)) u) : u = v ∧ v.oneCell' = true := by
 cases h; exact ⟨rfl, by assumption⟩
theorem good_val (h : RelAt P w0 A N Fr tm hp a w m π) {v : Value} {need : Prop} (hr : (execOp a.eval o).run P w = .ok (.value v) w) (h1 : v.oneCell' = true) : Good P o w0 A N Fr tm hp a w n ⟨need, V v, [], 0⟩ := good_pure h hr (VG.sc v h1) trivial
theorem wrap_in {k : IntKind} {n : Int} (h : inR k n) : k.wrap n = n := by
 obtain ⟨h1, h2⟩ := h
 revert h1 h2
 cases k <;> simp only [IntKind.min, IntKind.max, IntKind.wrap, IntKind.bits, IntKind.signed] <;> simp <;> omega
theorem good_ari (h : RelAt P w0 A N Fr tm hp a w m π) {wr : Bool} {k : IntKind} {x : Int} {need : Prop} (hn : (ari wr k x).need) (hr : (execOp a.eval o).run P w = .ok (.value (.int k (k.wrap x))) w) : Good P o w0 A N Fr tm hp a w n ⟨need, (ari wr k x).val, [], 0⟩ := by
 unfold ari at hn ⊢
 cases wr with
 | true => exact good_val h hr rfl
 | false =>
   simp only [Bool.false_eq_true, ↓reduceIte] at hn ⊢
   rw [wrap_in hn] at hr
   exact good_val h hr rfl
theorem good_ari' (h : RelAt P w0 A N Fr tm hp a w m π) {wr : Bool} {k : IntKind} {x : Int} (hn : (ari wr k x).need) (hr : (execOp a.eval o).run P w = .ok (.value (.int k (k.wrap x))) w) : Good P o w0 A N Fr tm hp a w n (ari wr k x) := by
 have e : ari wr k x = ⟨(ari wr k x).need, (ari wr k x).val, [], 0⟩ := by unfold ari; cases wr <;> rfl
 rw [e]
 exact good_ari h hn hr
theorem run_equal_bool {t : Nat} (hu : P.underlying t = some .bool) (x y : Bool) : (Op.equal t (.bool x) (.bool y)).run P w = .ok (x == y) w := by
 unfold Op.equal
 rw [show Op.maxDepth = 9999 + 1 from rfl, Op.equalIn]
 simp [underlying, hu]
theorem run_equal_nil {t e : Nat} (hu : P.underlying t = some (.slice e)) (b : Option Addr) (l c : Nat) : (Op.equal t (.slice b l c) (.slice none 0 0)).run P w = .ok b.isNone w := by
 unfold Op.equal
 rw [show Op.maxDepth = 9999 + 1 from rfl, Op.equalIn]
 cases b <;> simp [underlying, hu]
theorem eqCL_ok : ∀ {zs : List Value} {xs ys : List Cell} {vs us : List Value}, VL m π xs vs → VL m π ys us → (eqCL zs xs ys).1 → sameKL vs zs = true ∧ sameKL us zs = true ∧ (eqCL zs xs ys).2 = eqVL vs us
  | [], [], [], [], [], _, _, _ => ⟨rfl, rfl, rfl⟩
  | z :: zs, .sc x :: xs, .sc y :: ys, v :: vs, u :: us, ⟨h1, h2⟩, ⟨h3, h4⟩, ⟨g1, g2, g3⟩ => by
    have e1 : v = x := by cases h1; rfl
    have e2 : u = y := by cases h3; rfl
    subst e1; subst e2
    obtain ⟨i1, i2, i3⟩ := eqCL_ok h2 h4 g3
    refine ⟨?_, ?_, ?_⟩
    · simp only [sameKL, g1, i1, Bool.and_self]
    · simp only [sameKL, g2, i2, Bool.and_self]
    · simp only [eqCL, eqVL, i3]
  | z :: zs, .sc x :: xs, .sc y :: ys, [], _, h, _, _ => h.elim
  | z :: zs, .sc x :: xs, .sc y :: ys, _ :: _, [], _, h, _ => h.elim
theorem sBin_ok (h : RelAt P w0 A N Fr tm hp a w m π) {wr : Bool} {op : BinOp} {t yt : Nat} {x y : Operand} (ho : o.op = .binOp op t x y yt) {p q : SV} (hp' : VS m π p (a.eval x)) (hq' : VS m π q (a.eval y)) (hn : (sBin wr op p q).need) : Good P o w0 A N Fr tm hp a w n (sBin wr op p q) := by
 have hex : execOp a.eval o = (do pure (.value (← (do eqGuard op t x y (a.eval x) (a.eval y); binOp op t (a.eval x) (a.eval y))))) := by unfold execOp; rw [ho]
 unfold sBin at hn ⊢
 split at hn
 · rename_i k u k' v
   obtain ⟨e1, _⟩ := vs_sc hp'
   obtain ⟨e2, _⟩ := vs_sc hq'
   have hg : (eqGuard op t x y (.int k u) (.int k' v)).run P w = .ok () w := by
     unfold eqGuard; cases op <;> simp
   have hrun : ∀ r, (binOp op t (.int k u) (.int k' v)).run P w = .ok r w → (execOp a.eval o).run P w = .ok (.value r) w := by
     intro r hr
     rw [hex, e1, e2]
     simp [hg, hr]
   cases op <;> simp only at hn ⊢
   case add => exact good_ari h hn.2 (hrun _ (by obtain ⟨rfl, _⟩ := hn; simp [binOp, Op.intArith]))
   case sub => exact good_ari h hn.2 (hrun _ (by obtain ⟨rfl, _⟩ := hn; simp [binOp, Op.intArith]))
   case mul => exact good_ari h hn.2 (hrun _ (by obtain ⟨rfl, _⟩ := hn; simp [binOp, Op.intArith]))
   case quo => exact good_ari h hn.2.2 (hrun _ (by obtain ⟨rfl, h1, _⟩ := hn; simp [binOp, Op.intDiv, h1]))
   case rem => exact good_val h (hrun _ (by obtain ⟨rfl, h1⟩ := hn; simp [binOp, Op.intDiv, h1])) rfl
   case and => exact good_val h (hrun _ (by subst hn; simp [binOp, Op.intBits])) rfl
   case or => exact good_val h (hrun _ (by subst hn; simp [binOp, Op.intBits])) rfl
   case xor => exact good_val h (hrun _ (by subst hn; simp [binOp, Op.intBits])) rfl
   case andNot => exact good_val h (hrun _ (by subst hn; simp [binOp, Op.intBits])) rfl
   case shl => exact good_ari h hn.2 (hrun _ (by have := hn.1; have h0 : ¬ v < 0 := by omega
                                                 simp [binOp, Op.shift, h0]))
   case shr => exact good_val h (hrun _ (by have h0 : ¬ v < 0 := by omega
                                            simp [binOp, Op.shift, h0])) rfl
   case eql => exact good_val h (hrun _ (by subst hn; simp [binOp, Op.intCmp]; rfl)) rfl
   case neq => exact good_val h (hrun _ (by subst hn; simp [binOp, Op.intCmp, bne]; rfl)) rfl
   case lss => exact good_val h (hrun _ (by subst hn; simp [binOp, Op.intCmp])) rfl
   case leq => exact good_val h (hrun _ (by subst hn; simp [binOp, Op.intCmp])) rfl
   case gtr => exact good_val h (hrun _ (by subst hn; simp [binOp, Op.intCmp])) rfl
   case geq => exact good_val h (hrun _ (by subst hn; simp [binOp, Op.intCmp])) rfl
 · rename_i u v
   obtain ⟨e1, _⟩ := vs_sc hp'
   obtain ⟨e2, _⟩ := vs_sc hq'
   have hg : (eqGuard op t x y (.string u) (.string v)).run P w = .ok () w := by
     unfold eqGuard; cases op <;> simp
   have hrun : ∀ r, (binOp op t (.string u) (.string v)).run P w = .ok r w → (execOp a.eval o).run P w = .ok (.value r) w := by
     intro r hr
     rw [hex, e1, e2]
     simp [hg, hr]
   by_cases hop : op = .add
   · subst hop
     simp only at hn ⊢
     have h0 : ¬ (((u.size + v.size : Nat) : Int) > IntKind.i64.max) := by
       rw [show IntKind.i64.max = 9223372036854775807 from rfl]; omega
     refine good_val h (hrun _ ?_) rfl
     simp only [binOp, Op.stringOp, h0, ↓reduceIte, Sem.run_pure]
   · cases op <;> first
       | exact absurd rfl hop
       | exact hn.elim
       | exact good_val h (hrun _ (by simp [binOp, Op.stringOp])) rfl
 · exact hn.elim
theorem sBinT_ok (T : Tab) (hT : TOk P T) (h : RelAt P w0 A N Fr tm hp a w m π) {op : BinOp} {t yt : Nat} {x y : Operand} (ho : o.op = .binOp op t x y yt) {p q : SV} (hp' : VS m π p (a.eval x)) (hq' : VS m π q (a.eval y)) (hn : (sBinT T hp op t p q).need) : Good P o w0 A N Fr tm hp a w n (sBinT T hp op t p q) := by
 have hex : execOp a.eval o = (do pure (.value (← (do eqGuard op t x y (a.eval x) (a.eval y); binOp op t (a.eval x) (a.eval y))))) := by unfold execOp; rw [ho]
 unfold sBinT at hn ⊢
 cases hl : slot t T.ts with
 | none => rw [hl] at hn; exact sBin_ok h ho hp' hq' hn
 | some ti =>
   rw [hl] at hn
   have hti := hT t ti hl
   simp only at hn ⊢
   split at hn
   · rename_i hk
     obtain ⟨e1, _⟩ := vs_sc hp'
     obtain ⟨e2, _⟩ := vs_sc hq'
     obtain ⟨d, hu, hd⟩ := hti.und
     rw [hk] at hd
     have hd' : d = .bool := by cases d <;> simp [TK.fits] at hd; rfl
     subst hd'
     split at hn
     · exact good_val h (by rw [hex, e1, e2]; simp [eqGuard, binOp, run_equal_bool hu]) rfl
     · exact good_val h (by rw [hex, e1, e2]; simp [eqGuard, binOp, run_equal_bool hu]) rfl
     · exact hn.elim
   · rename_i e r off len cap hk
     obtain ⟨e2, _⟩ := vs_sc hq'
     have hu := hti.slice hk
     have hex2 : 0 < len ∧ live hp r → ∃ ad c, a.eval x = .slice (some ad) len c := by
       rintro ⟨h0, hlv⟩
       obtain ⟨row, q, hr, hq, hq2⟩ := live_row h hlv
       rcases osl_at h hp' hr with ⟨_, e, _⟩ | ⟨p, ad, c, _, e, _⟩
       · omega
       · exact ⟨ad, c, e⟩
     split at hn
     · obtain ⟨ad, c, e1⟩ := hex2 hn
       exact good_val h (by rw [hex, e1, e2]; simp [eqGuard, binOp, run_equal_nil hu]) rfl
     · obtain ⟨ad, c, e1⟩ := hex2 hn
       exact good_val h (by rw [hex, e1, e2]; simp [eqGuard, binOp, run_equal_nil hu]) rfl
     · exact hn.elim
   · rename_i e cs off len cap hk
     obtain ⟨e2, _⟩ := vs_sc hq'
     have hu := hti.slice hk
     have hex2 : 0 < len → ∃ ad c, a.eval x = .slice (some ad) len c := by
       intro h0
       generalize a.eval x = u at hp'
       cases hp' with
       | gnil _ _ _ hc => omega
       | gsl _ _ _ _ b o c ad vals hc hlc hm hv ha => exact ⟨ad, c, rfl⟩
     split at hn
     · obtain ⟨ad, c, e1⟩ := hex2 hn
       exact good_val h (by rw [hex, e1, e2]; simp [eqGuard, binOp, run_equal_nil hu]) rfl
     · obtain ⟨ad, c, e1⟩ := hex2 hn
       exact good_val h (by rw [hex, e1, e2]; simp [eqGuard, binOp, run_equal_nil hu]) rfl
     · exact hn.elim
   · rename_i hk
     obtain ⟨e1, _⟩ := vs_sc hp'
     obtain ⟨e2, _⟩ := vs_sc hq'
     have hu := hti.slice hk
     split at hn
     · exact good_val h (by rw [hex, e1, e2]; simp [eqGuard, binOp, run_equal_nil hu]) rfl
     · exact good_val h (by rw [hex, e1, e2]; simp [eqGuard, binOp, run_equal_nil hu]) rfl
     · exact hn.elim
   · rename_i hk
     obtain ⟨e1, _⟩ := vs_sc hp'
     obtain ⟨e2, _⟩ := vs_sc hq'
     have hu := hti.slice hk
     split at hn
     · exact good_val h (by rw [hex, e1, e2]; simp [eqGuard, binOp, run_equal_nil hu]) rfl
     · exact good_val h (by rw [hex, e1, e2]; simp [eqGuard, binOp, run_equal_nil hu]) rfl
     · exact hn.elim
   · rename_i _ _ _ xs ys
     obtain ⟨ax, e1, l1⟩ := hp'
     obtain ⟨ay, e2, l2⟩ := hq'
     have go : ti.eq = true ∧ (eqCL ti.zero xs ys).1 → (do eqGuard .eql t x y (a.eval x) (a.eval y)).run P w = .ok () w ∧ (do eqGuard .neq t x y (a.eval x) (a.eval y)).run P w = .ok () w ∧ (Op.equal t (a.eval x) (a.eval y)).run P w = .ok (eqCL ti.zero xs ys).2 w := by
       rintro ⟨he, hc⟩
       obtain ⟨q1, q2, q3⟩ := hti.eqs he
       obtain ⟨c1, c2, c3⟩ := eqCL_ok l1 l2 hc
       have := q3 w _ _ c1 c2
       rw [c3, e1, e2]
       exact ⟨by simp [eqGuard, q1], by simp [eqGuard, q1], by simpa using this⟩
     split at hn
     · obtain ⟨g1, g2, g3⟩ := go hn
       exact good_val h (by rw [hex]; simp only [Sem.run_bind, g1, Result.andThen_ok]; rw [e1, e2] at g3 ⊢; simp [binOp, g3]) rfl
     · obtain ⟨g1, g2, g3⟩ := go hn
       exact good_val h (by rw [hex]; simp only [Sem.run_bind, g2, Result.andThen_ok]; rw [e1, e2] at g3 ⊢; simp [binOp, g3]) rfl
     · exact hn.elim
   · exact sBin_ok h ho hp' hq' hn
theorem sUn_ok (h : RelAt P w0 A N Fr tm hp a w m π) {wr : Bool} {op : UnOp} {t : Nat} {x : Operand} (ho : o.op = .unOp op t x) {p : SV} (hp' : VS m π p (a.eval x)) (hn : (sUn wr op p).need) : Good P o w0 A N Fr tm hp a w n (sUn wr op p) := by
 have hex : execOp a.eval o = (do pure (.value (← Op.unary op (a.eval x)))) := by unfold execOp; rw [ho]
 unfold sUn at hn ⊢
 split at hn
 · obtain ⟨e1, _⟩ := vs_sc hp'
   exact good_val h (by rw [hex, e1]; simp [Op.unary]) rfl
 · obtain ⟨e1, _⟩ := vs_sc hp'
   exact good_ari' h hn (by rw [hex, e1]; simp [Op.unary, Op.intArith])
 · obtain ⟨e1, _⟩ := vs_sc hp'
   exact good_val h (by rw [hex, e1]; simp [Op.unary, Op.intBits]) rfl
 · exact hn.elim
theorem sConv_ok (T : Tab) (hT : TOk P T) (h : RelAt P w0 A N Fr tm hp a w m π) {s d : Nat} {x : Operand} (ho : o.op = .convert s d x) {p : SV} (hp' : VS m π p (a.eval x)) (hn : (sConv T s d p).need) : Good P o w0 A N Fr tm hp a w n (sConv T s d p) := by
 have hex : execOp a.eval o = (do pure (.value (← convert s d (a.eval x)))) := by unfold execOp; rw [ho]
 unfold sConv at hn ⊢
 cases hl : slot s T.ts with
 | none => rw [hl] at hn; exact hn.elim
 | some ts =>
   cases hl2 : slot d T.ts with
   | none => rw [hl, hl2] at hn; exact hn.elim
   | some td =>
     rw [hl, hl2] at hn
     simp only at hn ⊢
     have hts := hT s ts hl
     have htd := hT d td hl2
     split at hn
     · rename_i k k' u hk
       obtain ⟨e1, _⟩ := vs_sc hp'
       have hu := htd.int hk
       obtain ⟨ds, hus, _⟩ := hts.und
       exact good_ari' h hn (by rw [hex, e1]; simp [convert, underlying, hu, hus, Conv.intToInt])
     · rename_i b hk
       obtain ⟨e1, _⟩ := vs_sc hp'
       have hu := htd.str hk
       have hus := hts.str hn
       exact good_val h (by rw [hex, e1]; simp [convert, underlying, hu, hus]) rfl
     · exact hn.elim
theorem sExtract_ok (h : RelAt P w0 A N Fr tm hp a w m π) {x : Operand} {i : Nat} (ho : o.op = .extract x i) {p : SV} (hp' : VS m π p (a.eval x)) (hcl : p.cl Fr) (hn : (sExtract p i).need) : Good P o w0 A N Fr tm hp a w n (sExtract p i) := by
 have hex : execOp a.eval o = (do pure (.value (← Instr.extract (a.eval x) i))) := by unfold execOp; rw [ho]
 cases p with
 | one c => exact hn.elim
 | agg cs => exact hn.elim
 | tup vs =>
   simp only [sExtract] at hn ⊢
   obtain ⟨arr, e, hl⟩ := hp'
   obtain ⟨v, h1, h2⟩ := VSL.get hl i vs[i] (by simp [hn])
   have e2 : vs.getD i (.one .un) = vs[i] := by simp [List.getD, hn]
   rw [e2]
   refine good_pure h (v := v) ?_ h2 ?_
   · rw [hex, e]
     have h1' : arr[i]? = some v := by simpa using h1
     simp [Instr.extract, h1']
   · have : ∀ (l : List SV) (i : Nat) (hi : i < l.length), SV.clL Fr l → (l[i]).cl Fr := by
       intro l
       induction l with
       | nil => intro i hi; simp at hi
       | cons s ss ih =>
         intro i hi hc
         cases i with
         | zero => exact hc.1
         | succ j => exact ih j (by simpa using hi) hc.2
     exact this vs i hn hcl
theorem part_ok {t : Nat} {te : TI} (hte : TIok P t te) {cs : List Cell} {arr : Array Value} (hl : VL m π cs arr.toList) (hcl : ∀ c ∈ cs, c.cl Fr) (off : Nat) (hn : readNeed te cs off) : ∃ v, (part t arr off).run P w = .ok v w ∧ VS m π (readAt te cs off) v ∧ (readAt te cs off).cl Fr := by
 have hlen := hl.length
 have hagg : te.kind.isAgg = true → off + te.size ≤ cs.length → ∃ v, (part t arr off).run P w = .ok v w ∧ VS m π (.agg ((cs.drop off).take te.size)) v ∧ (SV.agg ((cs.drop off).take te.size)).cl Fr := by
   intro hk hn
   refine ⟨.agg (arr.extract off (off + te.size)), ?_, ⟨_, rfl, ?_⟩, fun c hc => hcl c (zaa (zab hc))⟩
   · simp [part, hte.isAgg, hk, hte.size]
   · refine VL.of (by simp at hlen ⊢; omega) (fun i c v hi hv => ?_)
     have hil : i < te.size := by have := (List.getElem?_eq_some_iff.1 hi).1; simp at this; omega
     rw [List.getElem?_take_of_lt hil, List.getElem?_drop] at hi
     obtain ⟨v', h1, h2⟩ := hl.get _ _ hi
     have : (arr.extract off (off + te.size)).toList[i]? = arr.toList[off + i]? := by
       simp only [Array.toList_extract, List.extract_eq_take_drop]
       rw [List.getElem?_take_of_lt (by omega), List.getElem?_drop]
     rw [this, h1] at hv
     cases hv; exact h2
 have hone : te.kind.isAgg = false → off < cs.length → ∃ v, (part t arr off).run P w = .ok v w ∧ VS m π (.one (cs.getD off (.sc (te.zero.headD (.bool false))))) v ∧ (SV.one (cs.getD off (.sc (te.zero.headD (.bool false))))).cl Fr := by
   intro hk hn
   obtain ⟨v, h1, h2⟩ := hl.get off cs[off] (by simp [hn])
   have e : cs.getD off (.sc (te.zero.headD (.bool false))) = cs[off] := by simp [List.getD, hn]
   rw [e]
   have h1' : arr[off]? = some v := by simpa using h1
   exact ⟨v, by simp [part, hte.isAgg, hk, h1'], h2, hcl _ (zah hn)⟩
 unfold readNeed at hn
 unfold readAt
 cases hk : te.kind <;> simp only [hk] at hn ⊢ <;> first
   | exact hagg (by simp [hk, TK.isAgg]) hn.1
   | exact hone (by simp [hk, TK.isAgg]) hn
theorem sField_ok (T : Tab) (hT : TOk P T) (h : RelAt P w0 A N Fr tm hp a w m π) {t : Nat} {x : Operand} {f : Nat} (ho : o.op = .field t x f) {p : SV} (hp' : VS m π p (a.eval x)) (hcl : p.cl Fr) (hn : (sField T t p f).need) : Good P o w0 A N Fr tm hp a w n (sField T t p f) := by
 have hex : execOp a.eval o = (do pure (.value (← Instr.field t (a.eval x) f))) := by unfold execOp; rw [ho]
 unfold sField at hn ⊢
 cases hl : slot t T.ts with
 | none => rw [hl] at hn; exact hn.elim
 | some ti =>
   rw [hl] at hn
   have hti := hT t ti hl
   simp only at hn ⊢
   split at hn
   · rename_i fs cs hk
     cases hfs : fs[f]? with
     | none => rw [hfs] at hn; exact hn.elim
     | some fo =>
       obtain ⟨fo, ft⟩ := fo
       rw [hfs] at hn
       simp only at hn ⊢
       cases hl2 : slot ft T.ts with
       | none => rw [hl2] at hn; exact hn.elim
       | some te =>
         rw [hl2] at hn
         simp only at hn ⊢
         have hte := hT ft te hl2
         obtain ⟨fl, hu, hfl⟩ := hti.struct hk
         have hfld : ∃ fd, fl[f]? = some fd ∧ fd.offset = fo ∧ fd.type = ft := by
           rw [← hfl, List.getElem?_map] at hfs
           simp only [Array.getElem?_toList] at hfs
           cases hq : fl[f]? with
           | none => rw [hq] at hfs; simp at hfs
           | some fd => rw [hq] at hfs; simp at hfs; exact ⟨fd, rfl, hfs.1, hfs.2⟩
         obtain ⟨fd, hfd, rfl, rfl⟩ := hfld
         obtain ⟨arr, e, hvl⟩ := hp'
         obtain ⟨v, h1, h2, h3⟩ := part_ok (P := P) (w := w) hte hvl hcl fd.offset hn
         refine good_pure h (v := v) ?_ h2 h3
         rw [hex, e]
         simp [Instr.field, underlying, hu, hfd, asAgg, h1]
   · exact hn.elim
theorem sIndex_ok (T : Tab) (hT : TOk P T) (h : RelAt P w0 A N Fr tm hp a w m π) {t : Nat} {x i : Operand} (ho : o.op = .index t x i) {p q : SV} (hp' : VS m π p (a.eval x)) (hq' : VS m π q (a.eval i)) (hcl : p.cl Fr) (hn : (sIndex T t p q).need) : Good P o w0 A N Fr tm hp a w n (sIndex T t p q) := by
 have hex : execOp a.eval o = (do pure (.value (← Instr.index t (a.eval x) (a.eval i)))) := by unfold execOp; rw [ho]
 unfold sIndex at hn ⊢
 split at hn
 · rename_i _ _ ti k k0 hl
   have hti := hT t ti hl
   obtain ⟨e2, _⟩ := vs_sc hq'
   split at hn
   · rename_i cnt e cs hk
     cases hl2 : slot e T.ts with
     | none => rw [hl2] at hn; exact hn.elim
     | some te =>
       rw [hl2] at hn
       simp only at hn ⊢
       have hte := hT e te hl2
       have hu := hti.array hk
       obtain ⟨h0, h1, h2⟩ := hn
       obtain ⟨arr, e1, hvl⟩ := hp'
       obtain ⟨v, g1, g2, g3⟩ := part_ok (P := P) (w := w) hte hvl hcl _ h2
       refine good_pure h (v := v) ?_ g2 g3
       rw [hex, e1, e2]
       simp [Instr.index, asIntOf, underlying, hu, h0, h1, hte.size, g1]
   · rename_i s hk
     obtain ⟨e1, _⟩ := vs_sc hp'
     have hu := hti.str hk
     obtain ⟨h0, h1⟩ := hn
     have hlt : k0.toNat < s.size := by omega
     refine good_val h ?_ rfl
     rw [hex, e1, e2]
     have hg : s[k0.toNat]? = some s[k0.toNat] := by simp [hlt]
     simp [Instr.index, asIntOf, underlying, hu, h0, hg]
   · exact hn.elim
 · exact hn.elim
end
end Go.Proofs.YtnahpejlhfeleabGreat.Sh
namespace Go.Proofs.YtnahpejlhfeleabGreat.Sh
open Go.RowKit
def bnd : Option SV → Option (Option Int)
  | none => some none
  | some (.one (.sc (.int _ n))) => some (some n)
  | _ => none
def capOf (cap : Option Nat) (len : Nat) (l : Int) (mx : Option Int) : Option Nat :=
  match mx with
  | some m => some (m.toNat - l.toNat)
  | none => (match cap with
    | some c => some (c - l.toNat)
    | none => none)
def top (cap : Option Nat) (len : Nat) : Nat :=
  match cap with
  | some c => c
  | none => len
def sSlice (T : Tab) (get : Nat → Option Row) (t : Nat) (x : SV) (lo hi mx : Option SV) : Res :=
  match slot t T.ts, bnd lo, bnd hi, bnd mx with
  | some ti, some lo, some hi, some mx =>
    (match ti.kind with
    | .str => (match x, mx with
      | .one (.sc (.string s)), none =>
        ⟨0 ≤ lo.getD 0 ∧ lo.getD 0 ≤ hi.getD s.size ∧ hi.getD s.size ≤ (s.size : Int), V (.string (s.extract (lo.getD 0).toNat (hi.getD s.size).toNat)), [], 0⟩
      | _, _ => bad)
    | .slice e => (match slot e T.ts with
      | none => bad
      | some te => (match x with
        | .one (.osl r off len cap) =>
          ⟨0 ≤ lo.getD 0 ∧ lo.getD 0 ≤ hi.getD len ∧ hi.getD len ≤ mx.getD (top cap len) ∧ mx.getD (top cap len) ≤ (top cap len : Int) ∧ (mx.isSome → hi.isSome) ∧ live get r ∧ ∀ row, get r = some row → row.esz = te.size,
            .one (.osl r (off + (lo.getD 0).toNat * te.size) ((hi.getD len).toNat - (lo.getD 0).toNat) (capOf cap len (lo.getD 0) mx)), [], 0⟩
        | .one (.gsl cs off len cap) =>
          ⟨0 ≤ lo.getD 0 ∧ lo.getD 0 ≤ hi.getD len ∧ hi.getD len ≤ mx.getD len ∧ mx.getD len ≤ (len : Int) ∧ (mx.isSome → hi.isSome),
            .one (.gsl cs (off + (lo.getD 0).toNat * te.size) ((hi.getD len).toNat - (lo.getD 0).toNat) (capOf cap len (lo.getD 0) mx)), [], 0⟩
        | .one (.sc (.slice none 0 0)) =>
          ⟨lo.getD 0 = 0 ∧ hi.getD 0 = 0 ∧ mx.getD 0 = 0 ∧ (mx.isSome → hi.isSome), V (.slice none 0 0), [], 0⟩
        | _ => bad))
    | _ => bad)
  | _, _, _, _ => bad
section
variable {P : Program} {o : Oper} {w0 : Base} {A : Nat → Prop} {N : Nat} {Fr : Nat → Prop} {tm : Nat → Option SV} {hp : Nat → Option Row} {a : Act} {w : World} {m : Mem} {π : Plc} {n : Nat}
theorem bounds_run (isS : Bool) (len cap : Nat) (lo hi mx : Option Int) (kl kh km : IntKind) (h0 : 0 ≤ lo.getD 0) (h1 : lo.getD 0 ≤ hi.getD len) (h2 : hi.getD len ≤ mx.getD cap) (h3 : mx.getD cap ≤ cap) (h4 : mx.isSome → hi.isSome) : (Instr.sliceBounds isS len cap (lo.map (Value.int kl)) (hi.map (Value.int kh)) (mx.map (Value.int km))).run P w = .ok ((lo.getD 0).toNat, (hi.getD len).toNat, (mx.getD cap).toNat) w := by
 have hb : ∀ (k : IntKind) (i : Int) (y : Nat) (code : BoundsCode), 0 ≤ i → i ≤ y → (Instr.sliceBound (.int k i) y code).run P w = .ok i.toNat w := fun k i y code a b => run_sliceBound w k i y code a b
 cases mx with
 | none =>
   cases hi with
   | none => cases lo <;> simp [Instr.sliceBounds] at * <;> (try rw [hb _ _ _ _ (by omega) (by omega)]) <;> simp
   | some hh =>
     simp at h1 h2
     cases lo <;> simp [Instr.sliceBounds] at * <;> rw [hb _ _ _ _ (by omega) (by omega)] <;> simp
     rw [hb _ _ _ _ (by omega) (by omega)]; simp
 | some mm =>
   cases hi with
   | none => simp at h4
   | some hh =>
     simp at h1 h2 h3
     cases lo <;> simp [Instr.sliceBounds] at * <;> rw [hb _ _ _ _ (by omega) (by omega)] <;> simp <;> rw [hb _ _ _ _ (by omega) (by omega)] <;> simp
     rw [hb _ _ _ _ (by omega) (by omega)]; simp
theorem bnd_ok {s : Option SV} {x : Option Operand} {b : Option Int} (h : bnd s = some b) (hs : ∀ p y, s = some p → x = some y → VS m π p (a.eval y)) (hx : s.isSome = x.isSome) : ∃ k, x.map a.eval = b.map (Value.int k) := by
 cases s with
 | none =>
   cases x with
   | none => simp [bnd] at h; subst h; exact ⟨.i64, rfl⟩
   | some y => simp at hx
 | some p =>
   cases x with
   | none => simp at hx
   | some y =>
     have hp := hs p y rfl rfl
     unfold bnd at h
     split at h
     · rename_i e; cases e
     · rename_i k nn e
       cases e
       cases h
       exact ⟨_, by simp [(vs_sc hp).1]; rfl⟩
     · cases h
theorem slice_run {t e : Nat} {te : TI} (hu : P.underlying t = some (.slice e)) (hte : TIok P e te) (base : Option Addr) (len cap : Nat) (lo hi mx : Option Int) (kl kh km : IntKind) (h0 : 0 ≤ lo.getD 0) (h1 : lo.getD 0 ≤ hi.getD len) (h2 : hi.getD len ≤ mx.getD cap) (h3 : mx.getD cap ≤ cap) (h4 : mx.isSome → hi.isSome) : (Instr.sliceAt t (.slice base len cap) (lo.map (Value.int kl)) (hi.map (Value.int kh)) (mx.map (Value.int km))).run P w = .ok (.slice (if (mx.getD cap).toNat = (lo.getD 0).toNat then base else base.map (·.add ((lo.getD 0).toNat * te.size))) ((hi.getD len).toNat - (lo.getD 0).toNat) ((mx.getD cap).toNat - (lo.getD 0).toNat)) w := by
 have hb := bounds_run (P := P) (w := w) true len cap lo hi mx kl kh km h0 h1 h2 h3 h4
 simp only [Instr.sliceAt, Instr.slice, Sem.run_bind, run_underlying hu, Result.andThen_ok, hb, hte.size, Sem.run_pure]
theorem sSlice_ok (T : Tab) (hT : TOk P T) (h : RelAt P w0 A N Fr tm hp a w m π) {t : Nat} {x : Operand} {lo hi mx : Option Operand} (ho : o.op = .slice t x lo hi mx) {p : SV} {slo shi smx : Option SV} (hp' : VS m π p (a.eval x)) (hcl : p.cl Fr) (hlo : ∀ p y, slo = some p → lo = some y → VS m π p (a.eval y)) (hlo' : slo.isSome = lo.isSome) (hhi : ∀ p y, shi = some p → hi = some y → VS m π p (a.eval y)) (hhi' : shi.isSome = hi.isSome) (hmx : ∀ p y, smx = some p → mx = some y → VS m π p (a.eval y)) (hmx' : smx.isSome = mx.isSome) (hn : (sSlice T hp t p slo shi smx).need) : Good P o w0 A N Fr tm hp a w n (sSlice T hp t p slo shi smx) := by
 have hex : execOp a.eval o = (do pure (.value (← Instr.sliceAt t (a.eval x) (lo.map a.eval) (hi.map a.eval) (mx.map a.eval)))) := by unfold execOp; rw [ho]
 unfold sSlice at hn ⊢
 split at hn
 · rename_i _ _ _ _ ti l hh mm hl hb1 hb2 hb3
   have hti := hT t ti hl
   obtain ⟨kl, el⟩ := bnd_ok hb1 hlo hlo'
   obtain ⟨kh, eh⟩ := bnd_ok hb2 hhi hhi'
   obtain ⟨km, em⟩ := bnd_ok hb3 hmx hmx'
   rw [el, eh, em] at hex
   split at hn
   · rename_i hk
     have hu := hti.str hk
     split at hn
     · rename_i s
       obtain ⟨e1, _⟩ := vs_sc hp'
       obtain ⟨h0, h1, h2⟩ := hn
       have hb := bounds_run (P := P) (w := w) false s.size s.size l hh none kl kh .i64 h0 h1 (by simpa using h2) (by simp) (by simp)
       refine good_val h ?_ rfl
       rw [hex, e1]
       simp only [Option.map_none] at hb
       simp [Instr.sliceAt, Instr.slice, run_underlying hu, hb]
     · exact hn.elim
   · rename_i e hk
     have hu := hti.slice hk
     cases hl2 : slot e T.ts with
     | none => rw [hl2] at hn; exact hn.elim
     | some te =>
       rw [hl2] at hn
       simp only at hn ⊢
       have hte := hT e te hl2
       split at hn
       · rename_i r off len cap
         simp only at hn ⊢
         obtain ⟨h0, h1, h2, h3, h4, hlv, hes⟩ := hn
         obtain ⟨row, q, hr, hq, hq2⟩ := live_row h hlv
         have hesz := hes row hr
         have hx' := hp'
         obtain ⟨_, hvc⟩ := hx'
         rw [hq] at hvc
         rcases osl_at h hp' hr with ⟨hπ, hlen0, _, base, e1⟩ | ⟨pl, ad, c, hπ, e1, hlc, hpz, hor⟩
         · subst hlen0
           have htop : top cap 0 = 0 := by
             unfold top
             rw [hπ] at hq
             cases hq
             simp only at hvc
             cases hcap : cap with
             | none => rfl
             | some c0 => exact hvc.2.1 c0 hcap
           rw [htop] at h2 h3
           have hrun := slice_run (w := w) hu hte base 0 0 l hh mm kl kh km h0 h1 h2 (by simpa using h3) h4
           rw [← e1] at hrun
           refine good_pure h (v := .slice base 0 0) ?_ ⟨rfl, ?_⟩ hcl
           · rw [hex]
             simp only [Sem.run_bind, hrun, Result.andThen_ok, Sem.run_pure]
             have z1 : (hh.getD 0).toNat - (l.getD 0).toNat = 0 := by simp at h1 h2 h3 ⊢; omega
             have z2 : (mm.getD 0).toNat - (l.getD 0).toNat = 0 := by simp at h1 h2 h3 ⊢; omega
             have z3 : (mm.getD 0).toNat = (l.getD 0).toNat := by simp at h1 h2 h3 ⊢; omega
             simp only [Int.natCast_zero, Int.ofNat_eq_natCast] at *
             simp [z1, z2, z3]
           · rw [hπ]
             rw [hπ] at hq
             cases hq
             simp only at hvc
             refine ⟨by simp at h1 h2 h3 ⊢; omega, fun k hk => ?_, base, rfl⟩
             unfold capOf at hk
             cases hm : mm with
             | some m0 =>
               rw [hm] at hk h2 h3
               simp at hk h1 h2 h3
               omega
             | none =>
               rw [hm] at hk
               cases hcap : cap with
               | none => rw [hcap] at hk; cases hk
               | some c0 =>
                 rw [hcap] at hk
                 have := hvc.2.1 c0 hcap
                 simp at hk
                 omega
         · rw [hπ] at hq
           cases hq
           simp only at hvc
           obtain ⟨_, ad2, c2, e2, _, hcc, _⟩ := hvc
           rw [e1] at e2
           cases e2
           have hrow := h.rows r row hr
           unfold RowOk at hrow
           rw [hπ] at hrow
           have hpe : pl.esz = te.size := by rw [hrow.2.1]; exact hesz
           have htop : (top cap len : Int) ≤ (c : Int) := by
             unfold top
             cases hcap : cap with
             | none => simp only; omega
             | some c0 => have := hcc c0 hcap; simp only; omega
           have hmc : hh.getD len ≤ mm.getD c ∧ mm.getD c ≤ (c : Int) := by
             cases mm with
             | none => simp only [Option.getD_none] at h2 h3 ⊢; omega
             | some m0 => simp only [Option.getD_some] at h2 h3 ⊢; omega
           have hrun := slice_run (w := w) hu hte (some ad) len c l hh mm kl kh km h0 h1 hmc.1 hmc.2 h4
           rw [← e1] at hrun
           refine good_pure h (v := .slice (if (mm.getD c).toNat = (l.getD 0).toNat then some ad else (some ad).map (·.add ((l.getD 0).toNat * te.size))) ((hh.getD len).toNat - (l.getD 0).toNat) ((mm.getD c).toNat - (l.getD 0).toNat)) ?_ ⟨rfl, ?_⟩ hcl
           · rw [hex]
             simp only [Sem.run_bind, hrun, Result.andThen_ok, Sem.run_pure]
           · rw [hπ]
             simp only
             have hcap : ∀ k, capOf cap len (l.getD 0) mm = some k → (mm.getD c).toNat - (l.getD 0).toNat = k := by
               intro k hk
               unfold capOf at hk
               cases hm : mm with
               | some m0 => rw [hm] at hk; simpa using hk
               | none =>
                 rw [hm] at hk
                 cases hcap : cap with
                 | none => rw [hcap] at hk; cases hk
                 | some c0 =>
                   rw [hcap] at hk
                   have := hcc c0 hcap
                   simp at hk ⊢
                   omega
             by_cases hml : (mm.getD c).toNat = (l.getD 0).toNat
             · rw [if_pos hml]
               exact ⟨hpz, ad, _, rfl, by omega, hcap, .inl ⟨by omega, by omega⟩⟩
             · rw [if_neg hml]
               have hex3 : ad = ⟨pl.b, pl.o + off, none⟩ ∧ off + c * pl.esz ≤ pl.tot := by
                 rcases hor with ⟨g1, g2⟩ | g
                 · omega
                 · exact g
               obtain ⟨rfl, hfit⟩ := hex3
               refine ⟨hpz, _, _, rfl, by omega, hcap, .inr ⟨?_, ?_⟩⟩
               · show Addr.add _ _ = _
                 rw [addr_add, zad]
               · rw [hpe] at hfit ⊢
                 have hk1 : (l.getD 0).toNat * te.size + ((mm.getD c).toNat - (l.getD 0).toNat) * te.size = (mm.getD c).toNat * te.size := by
                   rw [← zag]; congr 1; omega
                 have hk2 : (mm.getD c).toNat * te.size ≤ c * te.size := Nat.mul_le_mul_right _ (by omega)
                 omega
       · rename_i cs off len cap
         simp only at hn ⊢
         obtain ⟨h0, h1, h2, h3, h4⟩ := hn
         generalize hev : a.eval x = u at hp' hex
         cases hp' with
         | gnil _ _ _ hc =>
           have hrun := slice_run (w := w) hu hte none 0 0 l hh mm kl kh km h0 h1 h2 (by simpa using h3) h4
           have z1 : (hh.getD ((0 : Nat) : Int)).toNat - (l.getD 0).toNat = 0 := by simp at h1 h2 h3 ⊢; omega
           refine good_pure h (v := .slice none 0 0) ?_ ?_ trivial
           · rw [hex]
             simp only [Sem.run_bind, hrun, Result.andThen_ok, Sem.run_pure]
             have z2 : (mm.getD ((0 : Nat) : Int)).toNat - (l.getD 0).toNat = 0 := by simp at h1 h2 h3 ⊢; omega
             rw [z1, z2]
             simp
           · rw [z1]
             refine VG.gnil cs _ _ (fun k hk => ?_)
             unfold capOf at hk
             cases hm : mm with
             | some m0 =>
               rw [hm] at hk h2 h3
               simp at hk h1 h2 h3
               omega
             | none =>
               rw [hm] at hk
               cases hcap : cap with
               | none => rw [hcap] at hk; cases hk
               | some c0 =>
                 rw [hcap] at hk
                 have := hc c0 hcap
                 simp at hk
                 omega
         | gsl _ _ _ _ b oo c ad vals hc hlc hm hv ha =>
           have hmc : hh.getD len ≤ mm.getD c ∧ mm.getD c ≤ (c : Int) := by
             cases mm with
             | none => simp at h2 ⊢; omega
             | some m0 => simp at h2 h3 ⊢; omega
           have hrun := slice_run (w := w) hu hte (some ad) len c l hh mm kl kh km h0 h1 hmc.1 hmc.2 h4
           have hcap : ∀ k, capOf cap len (l.getD 0) mm = some k → (mm.getD c).toNat - (l.getD 0).toNat = k := by
             intro k hk
             unfold capOf at hk
             cases hm : mm with
             | some m0 => rw [hm] at hk; simpa using hk
             | none =>
               rw [hm] at hk
               cases hcap : cap with
               | none => rw [hcap] at hk; cases hk
               | some c0 =>
                 rw [hcap] at hk
                 have := hc c0 hcap
                 simp at hk ⊢
                 omega
           by_cases hml : (mm.getD c).toNat = (l.getD 0).toNat
           · refine good_pure h (v := .slice (some ad) ((hh.getD len).toNat - (l.getD 0).toNat) ((mm.getD c).toNat - (l.getD 0).toNat)) ?_ (VG.gsl cs _ _ _ b oo _ ad vals hcap (by omega) hm hv (.inr (by omega))) trivial
             rw [hex]
             simp only [Sem.run_bind, hrun, Result.andThen_ok, Sem.run_pure, hml, ↓reduceIte]
           · refine good_pure h (v := .slice (some (ad.add ((l.getD 0).toNat * te.size))) ((hh.getD len).toNat - (l.getD 0).toNat) ((mm.getD c).toNat - (l.getD 0).toNat)) ?_ (VG.gsl cs _ _ _ b oo _ _ vals hcap (by omega) hm hv ?_) trivial
             · rw [hex]
               simp only [Sem.run_bind, hrun, Result.andThen_ok, Sem.run_pure, hml, ↓reduceIte, Option.map_some]
             · rcases ha with rfl | hl0
               · left; rw [addr_add, zad]
               · right; omega
       · obtain ⟨e1, _⟩ := vs_sc hp'
         simp only at hn ⊢
         obtain ⟨h0, h1, h2, h4⟩ := hn
         have hrun := slice_run (w := w) hu hte none 0 0 l hh mm kl kh km (by omega) (by simp; omega) (by simp; omega) (by simp; omega) h4
         refine good_val h ?_ rfl
         rw [hex, e1]
         simp only [Sem.run_bind, hrun, Result.andThen_ok, Sem.run_pure]
         simp [h0, h1, h2]
       · exact hn.elim
   · exact hn.elim
 · exact hn.elim
theorem sLen_ok (T : Tab) (hT : TOk P T) (h : RelAt P w0 A N Fr tm hp a w m π) {t : Nat} {x : Operand} {c : Call} (ho : o.op = .call c) (hc1 : c.callee = .builtin .len) (hc2 : c.args = #[x]) (hc3 : c.argTypes = #[t]) {p : SV} (hp' : VS m π p (a.eval x)) (hn : (sLen T hp t p).need) : Good P o w0 A N Fr tm hp a w n (sLen T hp t p) := by
 have hex : ∀ r, (Builtin.len_ #[t] o.type #[a.eval x]).run P w = .ok r w → (execOp a.eval o).run P w = .ok (.value r) w := by
   intro r hr
   unfold execOp
   rw [ho]
   simp [resolve, hc1, hc2, hc3, invoke, builtin, hr]
 unfold sLen at hn ⊢
 cases hl : slot t T.ts with
 | none => rw [hl] at hn; exact hn.elim
 | some ti =>
   rw [hl] at hn
   have hti := hT t ti hl
   simp only at hn ⊢
   split at hn
   · rename_i r off len cap hk
     have hu := hti.slice hk
     obtain ⟨row, q, hr, hq, hq2⟩ := live_row h hn
     rcases osl_at h hp' hr with ⟨_, hl0, _, ad, e1⟩ | ⟨p, ad, c, _, e1, _⟩
     · rw [e1] at hex
       exact good_val h (hex _ (by simp [Builtin.len_, run_underlying hu, goInt, hl0])) rfl
     · rw [e1] at hex
       exact good_val h (hex _ (by simp [Builtin.len_, run_underlying hu, goInt])) rfl
   · rename_i cs off len cap hk
     have hu := hti.slice hk
     generalize hev : a.eval x = u at hp' hex
     cases hp' with
     | gnil _ _ _ hc => exact good_val h (hex _ (by simp [Builtin.len_, run_underlying hu, goInt])) rfl
     | gsl _ _ _ _ b oo c ad vals hc hlc hm hv ha => exact good_val h (hex _ (by simp [Builtin.len_, run_underlying hu, goInt])) rfl
   · rename_i hk
     have hu := hti.slice hk
     obtain ⟨e1, _⟩ := vs_sc hp'
     rw [e1] at hex
     exact good_val h (hex _ (by simp [Builtin.len_, run_underlying hu, goInt])) rfl
   · rename_i hk
     have hu := hti.slice hk
     obtain ⟨e1, _⟩ := vs_sc hp'
     rw [e1] at hex
     exact good_val h (hex _ (by simp [Builtin.len_, run_underlying hu, goInt])) rfl
   · rename_i b hk
     have hu := hti.str hk
     obtain ⟨e1, _⟩ := vs_sc hp'
     rw [e1] at hex
     exact good_val h (hex _ (by simp [Builtin.len_, run_underlying hu, goInt])) rfl
   · rename_i nn e hk
     have hu := hti.array hk
     exact good_val h (hex _ (by simp [Builtin.len_, run_underlying hu, goInt])) rfl
   · exact hn.elim
theorem ints_ok : ∀ {ps : List SV} {vs : List Value} {l : List (IntKind × Int)}, VSL m π ps vs → ints ps = some l → vs = l.map (fun x => Value.int x.1 x.2)
  | [], [], l, _, h => by simp [ints] at h; subst h; rfl
  | p :: ps, v :: vs, l, hv, h => by
    unfold ints at h
    split at h
    · cases ‹_ :: _ = []›
    · rename_i k nn r e
      cases e
      split at h
      · rename_i l' hl'
        cases h
        have := ints_ok hv.2 hl'
        rw [this, (vs_sc hv.1).1]
        rfl
      · cases h
    · cases h
theorem foldMin_run : ∀ (l : List (IntKind × Int)) (k : IntKind) (x : Int), (∀ y ∈ l, True) → ((l.map (fun x => Value.int x.1 x.2)).foldlM Builtin.min2 (.int k x)).run P w = .ok (.int k (foldMin x l)) w
  | [], k, x, _ => rfl
  | (k', y) :: r, k, x, _ => by
    simp only [List.map_cons, List.foldlM_cons, Sem.run_bind, Builtin.min2, Sem.run_pure, Result.andThen_ok]
    exact foldMin_run r k _ (fun _ _ => trivial)
theorem foldMax_run : ∀ (l : List (IntKind × Int)) (k : IntKind) (x : Int), ((l.map (fun x => Value.int x.1 x.2)).foldlM Builtin.max2 (.int k x)).run P w = .ok (.int k (foldMax x l)) w
  | [], k, x => rfl
  | (k', y) :: r, k, x => by
    simp only [List.map_cons, List.foldlM_cons, Sem.run_bind, Builtin.max2, Sem.run_pure, Result.andThen_ok]
    have := foldMax_run r k (if x < y then y else x)
    simpa [foldMax] using this
theorem sMin_ok (h : RelAt P w0 A N Fr tm hp a w m π) {c : Call} (ho : o.op = .call c) (hc1 : c.callee = .builtin .min) {ps : List SV} (hp' : VSL m π ps (c.args.map a.eval).toList) (hn : (sMin ps).need) : Good P o w0 A N Fr tm hp a w n (sMin ps) := by
 unfold sMin at hn ⊢
 split at hn
 · rename_i k x r he
   have hv := ints_ok hp' he
   refine good_val h ?_ rfl
   unfold execOp
   rw [ho]
   have hr := foldMin_run (P := P) (w := w) r k x (fun _ _ => trivial)
   simp only [resolve, hc1, Sem.run_bind, Sem.run_pure, Result.andThen_ok, invoke, builtin, Builtin.min_, hv, List.map_cons]
   rw [hr]
   rfl
 · exact hn.elim
theorem sMax_ok (h : RelAt P w0 A N Fr tm hp a w m π) {c : Call} (ho : o.op = .call c) (hc1 : c.callee = .builtin .max) {ps : List SV} (hp' : VSL m π ps (c.args.map a.eval).toList) (hn : (sMax ps).need) : Good P o w0 A N Fr tm hp a w n (sMax ps) := by
 unfold sMax at hn ⊢
 split at hn
 · rename_i k x r he
   have hv := ints_ok hp' he
   refine good_val h ?_ rfl
   unfold execOp
   rw [ho]
   have hr := foldMax_run (P := P) (w := w) r k x
   simp only [resolve, hc1, Sem.run_bind, Sem.run_pure, Result.andThen_ok, invoke, builtin, Builtin.max_, hv, List.map_cons]
   rw [hr]
   rfl
 · exact hn.elim
theorem zeros_get {ti : TI} (hl : ti.zero.length = ti.size) (hz : 0 < ti.size) (z : Array Value) (hzz : z.toList = ti.zero) (k : Nat) : (zeros ti.size ti.zero k).length = k * ti.size ∧ ∀ (i : Nat) c, (zeros ti.size ti.zero k)[i]? = some c → ∃ x, (madeCells z (k * ti.size))[i]? = some x ∧ c = .sc x ∧ x ∈ ti.zero := by
 have hzs : z.size = ti.size := by rw [← Array.length_toList, hzz, hl]
 have hgen : ∀ k, ((zaj k (ti.zero.map Cell.sc)).flatten).length = k * ti.size ∧ ∀ (i : Nat), i < k * ti.size → ((zaj k (ti.zero.map Cell.sc)).flatten)[i]? = (ti.zero[i % ti.size]?).map Cell.sc := by
   intro k
   induction k with
   | zero => simp
   | succ k ih =>
     obtain ⟨i1, i2⟩ := ih
     constructor
     · simp [List.replicate_succ, i1, hl, zag]
       simp at i1; omega
     · intro i hi
       simp only [List.replicate_succ, List.flatten_cons]
       by_cases c : i < ti.size
       · rw [List.getElem?_append_left (by simp [hl]; exact c), List.getElem?_map, Nat.mod_eq_of_lt c]
       · rw [List.getElem?_append_right (by simp [hl]; omega)]
         simp only [List.length_map, hl]
         have hmod : i % ti.size = (i - ti.size) % ti.size := Nat.mod_eq_sub_mod (by omega)
         rw [i2 _ (by rw [zag] at hi; omega), hmod]
 have hzeros : (zeros ti.size ti.zero k) = (zaj k (ti.zero.map Cell.sc)).flatten := by
   unfold zeros
   split
   · rename_i h1
     have hl1 : ti.zero.length = 1 := by omega
     obtain ⟨x, hx⟩ := List.length_eq_one_iff.1 hl1
     rw [hx]
     simp [List.headD]
   · rfl
 rw [hzeros]
 obtain ⟨g1, g2⟩ := hgen k
 refine ⟨g1, fun i c hi => ?_⟩
 have hil : i < k * ti.size := by have := (List.getElem?_eq_some_iff.1 hi).1; omega
 rw [g2 i hil] at hi
 have hm : i % ti.size < ti.size := Nat.mod_lt _ hz
 have hm2 : i % ti.size < ti.zero.length := by omega
 rw [List.getElem?_eq_getElem hm2] at hi
 simp at hi
 refine ⟨ti.zero[i % ti.size], ?_, hi.symm, zah hm2⟩
 simp only [madeCells, hzs]
 rw [Array.getElem?_map, Array.getElem?_range]
 simp [hil]
 have : z[i % ti.size]! = z[i % ti.size]'(by omega) := by rw [getElem!_pos z (i % ti.size) (by omega)]
 rw [this]
 have h2 : z.toList[i % ti.size]'(by simp; omega) = ti.zero[i % ti.size] := by
   congr 1
 simpa using h2
theorem sMake_ok (T : Tab) (hT : TOk P T) (h : RelAt P w0 A N Fr tm hp a w m π) (hf : Fr n) {t : Nat} {x y : Operand} (ho : o.op = .makeSlice t x y) {p q : SV} (hp' : VS m π p (a.eval x)) (hq' : VS m π q (a.eval y)) (hn : (sMake T t p q n).need) : Good P o w0 A N Fr tm hp a w n (sMake T t p q n) := by
 have hex : execOp a.eval o = (do pure (.value (← Instr.makeSlice t (a.eval x) (a.eval y)))) := by unfold execOp; rw [ho]
 unfold sMake at hn ⊢
 split at hn
 · rename_i _ _ _ ti kl l kc c hl
   have hti := hT t ti hl
   obtain ⟨e1, _⟩ := vs_sc hp'
   obtain ⟨e2, _⟩ := vs_sc hq'
   split at hn
   · rename_i e hk
     cases hl2 : slot e T.ts with
     | none => rw [hl2] at hn; exact hn.elim
     | some te =>
       rw [hl2] at hn
       simp only at hn ⊢
       have hte := hT e te hl2
       have hu := hti.slice hk
       obtain ⟨i, d, z, g1, g2, g3, g4, g5, g6, g7, g8, g9⟩ := hte.ex
       obtain ⟨h0, h1, h2, h3, h4⟩ := hn
       have hcb : c ≤ (te.bytes : Int) * c := by
         have : (1 : Int) * c ≤ te.bytes * c := Int.mul_le_mul_of_nonneg_right (by omega) (by omega)
         omega
       have hrun := run_make (P := P) w t e i z hu g1 g6 kl kc l c h0 h1 (by rw [g4]; exact h2) (by omega)
       rw [g3] at hrun
       obtain ⟨z1, z2⟩ := zeros_get g8 h4 z.cells g7 c.toNat
       refine good_alloc h hf (arr := madeCells z.cells (c.toNat * te.size)) (e := e) (row := ⟨zeros te.size te.zero c.toNat, te.size⟩) (v := .slice (some ⟨w.heap.size, 0, none⟩) l.toNat c.toNat) (by rw [hex, e1, e2]; simp [hrun]) (by simp only; omega) ?_ ?_ ?_ ?_ ?_ ?_
       · simp [z1, size_madeCells]
       · intro j cc hj
         obtain ⟨xx, k1, k2, k3⟩ := z2 j cc hj
         exact ⟨xx, k1, by rw [k2]; exact VG.sc xx (g9 xx k3)⟩
       · intro cc hcc
         obtain ⟨j, hj, rfl⟩ := List.mem_iff_getElem.1 hcc
         obtain ⟨xx, k1, k2, k3⟩ := z2 j _ (List.getElem?_eq_getElem hj)
         rw [k2]; trivial
       · intro cc hcc
         obtain ⟨j, hj, rfl⟩ := List.mem_iff_getElem.1 hcc
         obtain ⟨xx, k1, k2, k3⟩ := z2 j _ (List.getElem?_eq_getElem hj)
         rw [k2]; exact fun hh => by cases hh
       · refine ⟨rfl, ?_⟩
         rw [upd_same]
         exact ⟨by simp only; omega, _, _, rfl, by omega, fun k hk => by cases hk; rfl, .inr ⟨rfl, by simp [size_madeCells]⟩⟩
       · exact fun hq => hq.2 rfl
   · exact hn.elim
 · exact hn.elim
end
end Go.Proofs.YtnahpejlhfeleabGreat.Sh
namespace Go.Proofs.YtnahpejlhfeleabGreat.Sh
open Go.RowKit
def sFill (pl : Nat → Option (Nat × Nat)) (cells : List Cell) : List (Nat × SV) → Prop × List Cell
  | [] => (True, cells)
  | (i, v) :: r => (match pl i with
    | none => (False, cells)
    | some (off, size) => (v.solid ∧ v.cells.length = size ∧ off + size ≤ cells.length ∧ (sFill pl (putAt cells off v.cells) r).1, (sFill pl (putAt cells off v.cells) r).2))
def plS (T : Tab) (fs : List (Nat × Nat)) (i : Nat) : Option (Nat × Nat) :=
  match fs[i]? with
  | none => none
  | some (fo, ft) => (match slot ft T.ts with
    | none => none
    | some te => some (fo, te.size))
def sBuild (T : Tab) (t : Nat) (parts : List (Nat × SV)) : Res :=
  match slot t T.ts with
  | none => bad
  | some ti => (match ti.kind with
    | .struct fs => ⟨(sFill (plS T fs) (ti.zero.map .sc) parts).1, .agg (sFill (plS T fs) (ti.zero.map .sc) parts).2, [], 0⟩
    | .array cnt e => (match slot e T.ts with
      | none => bad
      | some te => ⟨(sFill (fun i => some (i * te.size, te.size)) (ti.zero.map .sc) parts).1, .agg (sFill (fun i => some (i * te.size, te.size)) (ti.zero.map .sc) parts).2, [], 0⟩)
    | _ => bad)
def sBuildSlice (T : Tab) (t len : Nat) (parts : List (Nat × SV)) (n : Nat) : Res :=
  match slot t T.ts with
  | none => bad
  | some ti => (match ti.kind with
    | .slice e => (match slot e T.ts with
      | none => bad
      | some te => ⟨(sFill (fun i => some (i * te.size, te.size)) (zeros te.size te.zero len) parts).1 ∧ len * te.size ≤ 16777216 ∧ 0 < te.size,
          .one (.osl n 0 len (some len)), [(n, some ⟨(sFill (fun i => some (i * te.size, te.size)) (zeros te.size te.zero len) parts).2, te.size⟩)], 1⟩)
    | _ => bad)
def TClosed (T : Tab) : Bool := T.ts.all fun x => match x.2.kind with
  | .struct fs => fs.all fun f => (slot f.2 T.ts).isSome
  | _ => true
section
variable {P : Program} {o : Oper} {w0 : Base} {A : Nat → Prop} {N : Nat} {Fr : Nat → Prop} {tm : Nat → Option SV} {hp : Nat → Option Row} {a : Act} {w : World} {m : Mem} {π : Plc} {n : Nat}
theorem slot_mem {α : Type} {k : Nat} {x : α} : ∀ {l : List (Nat × α)}, slot k l = some x → (k, x) ∈ l
  | [], h => by cases h
  | (j, y) :: r, h => by
    unfold slot at h
    split at h
    · rename_i e; subst e; cases h; simp
    · exact List.mem_cons_of_mem _ (slot_mem h)
theorem foldl_set (off : Nat) : ∀ (l : List Value) (k : Nat) (c : Array Value), off + k + l.length ≤ c.size → ∃ c' : Array Value, (l.zipIdx k).foldl (fun cs (x : Value × Nat) => cs.setIfInBounds (off + x.2) x.1) c = c' ∧ c'.size = c.size ∧
      ∀ i : Nat, c'[i]? = if off + k ≤ i ∧ i < off + k + l.length then l[i - (off + k)]? else c[i]?
  | [], k, c, _ => ⟨c, rfl, rfl, fun i => by rw [if_neg (by simp only [List.length_nil]; omega)]⟩
  | x :: l, k, c, h => by
    simp only [List.length_cons] at h
    obtain ⟨c', h1, h2, h3⟩ := foldl_set off l (k + 1) (c.setIfInBounds (off + k) x) (by simp; omega)
    refine ⟨c', by simpa using h1, by simpa using h2, fun i => ?_⟩
    rw [h3 i]
    by_cases c1 : i = off + k
    · subst c1
      rw [if_neg (by omega), if_pos (by simp)]
      simp [show off + k < c.size by omega]
    · by_cases c2 : off + (k + 1) ≤ i ∧ i < off + (k + 1) + l.length
      · rw [if_pos c2, if_pos (by simp; omega)]
        rw [show i - (off + k) = (i - (off + (k + 1))) + 1 by omega]
        simp
      · rw [if_neg c2, if_neg (by simp; omega)]
        rw [Array.getElem?_setIfInBounds_ne (by omega)]
theorem fill_ok (pl : Nat → Option (Nat × Nat)) : ∀ (sp : List (Nat × SV)) (vp : List (Nat × Value)) (cs : List Cell) (arr : Array Value), sp.length = vp.length → (∀ (j : Nat) x y, sp[j]? = some x → vp[j]? = some y → x.1 = y.1 ∧ VS m π x.2 y.2 ∧ x.2.cl Fr) → VL m π cs arr.toList → (∀ c ∈ cs, c.cl Fr) → (∀ c ∈ cs, c ≠ .un) → (∀ x ∈ arr.toList, x.oneCell' = true) → (sFill pl cs sp).1 → ∃ arr', Instr.fill pl arr vp = some arr' ∧ VL m π (sFill pl cs sp).2 arr'.toList ∧ (∀ c ∈ (sFill pl cs sp).2, c.cl Fr) ∧ (∀ c ∈ (sFill pl cs sp).2, c ≠ .un) ∧ arr'.size = arr.size
  | [], [], cs, arr, _, _, hv, hc, hu, _, _ => ⟨arr, rfl, hv, hc, hu, rfl⟩
  | (i, s) :: sp, (i', v) :: vp, cs, arr, hl, hr, hv, hc, hu, ho, hn => by
    obtain ⟨e, hsv, hscl⟩ := hr 0 (i, s) (i', v) (by simp) (by simp)
    simp only at e hsv hscl
    subst e
    unfold sFill at hn ⊢
    cases hp : pl i with
    | none => rw [hp] at hn; exact hn.elim
    | some q =>
      obtain ⟨off, size⟩ := q
      rw [hp] at hn
      simp only at hn ⊢
      obtain ⟨n1, n2, n3, n4⟩ := hn
      obtain ⟨g1, g2⟩ := VS.cells hsv n1
      have hvl := g1.length
      have hal := hv.length
      have hvs : v.cells.size = size := by simp at hvl; omega
      have has : arr.size = cs.length := by simpa using hal
      obtain ⟨c', k1, k2, k3⟩ := foldl_set off v.cells.toList 0 arr (by simp; omega)
      have hfold : v.cells.zipIdx.foldl (fun cs (x : Value × Nat) => cs.setIfInBounds (off + x.2) x.1) arr = c' := by
        rw [← Array.foldl_toList, Array.toList_zipIdx]; exact k1
      have hgetc : ∀ (i : Nat) c, (putAt cs off s.cells)[i]? = some c → ∃ x, c'[i]? = some x ∧ VC m π c x := by
        intro j c hj
        rcases putAt_get s.cells cs off j c (by omega) hj with ⟨jj, rfl, hjj⟩ | ⟨hjo, hjj⟩
        · obtain ⟨x, h1, h2⟩ := g1.get jj c hjj
          have hjl : jj < s.cells.length := (List.getElem?_eq_some_iff.1 hjj).1
          refine ⟨x, ?_, h2⟩
          rw [k3, if_pos (by simp; omega)]
          rw [show off + jj - (off + 0) = jj by omega]; exact h1
        · obtain ⟨x, h1, h2⟩ := hv.get j c hjj
          refine ⟨x, ?_, h2⟩
          rw [k3, if_neg (by simp; omega)]
          simpa using h1
      have hput : VL m π (putAt cs off s.cells) c'.toList := by
        refine VL.of (by simp [putAt_length, k2, has]) (fun i c x hi hx => ?_)
        obtain ⟨x', h1, h2⟩ := hgetc i c hi
        have : c'.toList[i]? = some x' := by simpa using h1
        rw [this] at hx; cases hx; exact h2
      have hput2 : ∀ P' : Cell → Prop, (∀ c ∈ cs, P' c) → (∀ c ∈ s.cells, P' c) → ∀ c ∈ putAt cs off s.cells, P' c := by
        intro P' q1 q2 c hc
        obtain ⟨i, hi, rfl⟩ := List.mem_iff_getElem.1 hc
        rcases putAt_get s.cells cs off i _ (by omega) (List.getElem?_eq_getElem hi) with ⟨j, _, hj⟩ | ⟨_, hj⟩
        · exact q2 _ (List.mem_of_getElem? hj)
        · exact q1 _ (List.mem_of_getElem? hj)
      have ho' : ∀ x ∈ c'.toList, x.oneCell' = true := by
        intro x hx
        obtain ⟨i, hi, rfl⟩ := List.mem_iff_getElem.1 hx
        have h3 := k3 i
        have hic : c'[i]? = some (c'.toList[i]) := by simp at hi ⊢
        rw [hic] at h3
        split at h3
        · exact g2 _ (List.mem_of_getElem? h3.symm)
        · exact ho _ (List.mem_of_getElem? (i := i) (by simpa using h3.symm))
      obtain ⟨arr', r1, r2, r3, r4, r5⟩ := fill_ok pl sp vp (putAt cs off s.cells) c' (by simpa using hl) (fun j x y hx hy => hr (j + 1) x y (by simpa using hx) (by simpa using hy)) hput (hput2 _ hc (cells_cl n1 hscl)) (hput2 _ hu (cells_un n1)) ho' n4
      refine ⟨arr', ?_, r2, r3, r4, by omega⟩
      unfold Instr.fill
      rw [hp]
      simp only
      rw [if_neg (by simp [hvs]; omega)]
      rw [← r1]
      congr 1
theorem parts_ok {parts : Array (Nat × Operand)} {ρ : Operand → SV} (hρ : ∀ x ∈ (parts.toList.map (·.2)), VS m π (ρ x) (a.eval x) ∧ (ρ x).cl Fr) : (parts.toList.map fun x => (x.1, ρ x.2)).length = (parts.map fun x => (x.1, a.eval x.2)).toList.length ∧
    ∀ (j : Nat) x y, (parts.toList.map fun x => (x.1, ρ x.2))[j]? = some x → (parts.map fun x => (x.1, a.eval x.2)).toList[j]? = some y → x.1 = y.1 ∧ VS m π x.2 y.2 ∧ x.2.cl Fr := by
  refine ⟨by simp, fun j x y hx hy => ?_⟩
  simp only [List.getElem?_map, Array.toList_map, Option.map_eq_some_iff] at hx hy
  obtain ⟨p, hp, rfl⟩ := hx
  obtain ⟨q, hq, rfl⟩ := hy
  rw [hp] at hq
  cases hq
  have := hρ p.2 (List.mem_map.2 ⟨p, List.mem_of_getElem? hp, rfl⟩)
  exact ⟨rfl, this.1, this.2⟩
theorem zero_vl {zs : List Value} (h1 : ∀ x ∈ zs, x.oneCell' = true) : VL m π (zs.map Cell.sc) zs :=
  VL.of (by simp) (fun i c v hi hv => by
    obtain ⟨x, hx, hc⟩ := zero_cells (m := m) π zs h1 i c hi
    rw [hx] at hv; cases hv; exact hc)
theorem sBuild_ok (T : Tab) (hT : TOk P T) (hC : TClosed T = true) (h : RelAt P w0 A N Fr tm hp a w m π) {t : Nat} {parts : Array (Nat × Operand)} (ho : o.op = .build t parts) {ρ : Operand → SV} (hρ : ∀ x ∈ (parts.toList.map (·.2)), VS m π (ρ x) (a.eval x) ∧ (ρ x).cl Fr) (hn : (sBuild T t (parts.toList.map fun x => (x.1, ρ x.2))).need) : Good P o w0 A N Fr tm hp a w n (sBuild T t (parts.toList.map fun x => (x.1, ρ x.2))) := by
 have hex : execOp a.eval o = (do pure (.value (← Instr.build t (parts.map fun x => (x.1, a.eval x.2))))) := by unfold execOp; rw [ho]
 obtain ⟨p1, p2⟩ := parts_ok (m := m) (π := π) (Fr := Fr) hρ
 unfold sBuild at hn ⊢
 cases hl : slot t T.ts with
 | none => rw [hl] at hn; exact hn.elim
 | some ti =>
   rw [hl] at hn
   have hti := hT t ti hl
   obtain ⟨i, d, z, g1, g2, g3, g4, g5, g6, g7, g8, g9⟩ := hti.ex
   simp only at hn ⊢
   split at hn
   · rename_i fs hk
     obtain ⟨fl, hu, hfl⟩ := hti.struct hk
     have hcl : ∀ f ∈ fs, (slot f.2 T.ts).isSome = true := by
       have := List.all_eq_true.1 hC (t, ti) (slot_mem hl)
       simp only [hk] at this
       exact fun f hf => List.all_eq_true.1 this f hf
     have hplaces : ∃ places : List (Nat × Nat), fl.toList.mapM (fun f => (P.info? f.type).map fun i => (f.offset, i.size)) = some places ∧ ∀ i, places[i]? = plS T fs i := by
       rw [← hfl] at hcl ⊢
       generalize fl.toList = l at hcl
       induction l with
       | nil => exact ⟨[], rfl, fun i => by simp [plS]⟩
       | cons f l ih =>
         obtain ⟨ps, h1, h2⟩ := ih (fun f hf => hcl f (by simp at hf ⊢; exact .inr hf))
         have hf := hcl (f.offset, f.type) (by simp)
         obtain ⟨te, hte⟩ := Option.isSome_iff_exists.1 hf
         simp only at hte
         obtain ⟨i', _, _, q1, _, q3, _⟩ := (hT f.type te hte).ex
         refine ⟨(f.offset, te.size) :: ps, by simp [List.mapM_cons, q1, h1, q3], fun i => ?_⟩
         cases i with
         | zero => simp [plS, hte]
         | succ i => simpa [plS] using h2 i
     obtain ⟨places, q1, q2⟩ := hplaces
     have hplfun : (fun i => places[i]?) = plS T fs := funext q2
     obtain ⟨arr', r1, r2, r3, r4, r5⟩ := fill_ok (plS T fs) _ _ (ti.zero.map Cell.sc) z.cells p1 p2 (by rw [g7]; exact zero_vl g9) (cl_sc _) (un_sc _) (by rw [g7]; exact g9) hn
     refine good_pure h (v := .agg arr') ?_ ⟨_, rfl, r2⟩ r3
     rw [hex]
     rw [← hplfun, Array.toList_map] at r1
     simp [Instr.build, run_underlying hu, zeroValue, typeInfo, g1, g6, Array.mapM_eq_mapM_toList, run_places w _ _ q1, r1]
   · rename_i cnt e hk
     cases hl2 : slot e T.ts with
     | none => rw [hl2] at hn; exact hn.elim
     | some te =>
       rw [hl2] at hn
       simp only at hn ⊢
       have hte := hT e te hl2
       have hu := hti.array hk
       obtain ⟨arr', r1, r2, r3, r4, r5⟩ := fill_ok _ _ _ (ti.zero.map Cell.sc) z.cells p1 p2 (by rw [g7]; exact zero_vl g9) (cl_sc _) (un_sc _) (by rw [g7]; exact g9) hn
       refine good_pure h (v := .agg arr') ?_ ⟨_, rfl, r2⟩ r3
       rw [hex]
       rw [Array.toList_map] at r1
       simp [Instr.build, run_underlying hu, zeroValue, typeInfo, g1, g6, hte.size, r1]
   · exact hn.elim
theorem zeros_vl {ti : TI} (hl : ti.zero.length = ti.size) (hz : 0 < ti.size) (z : Array Value) (hzz : z.toList = ti.zero) (h1 : ∀ x ∈ ti.zero, x.oneCell' = true) (k : Nat) : VL m π (zeros ti.size ti.zero k) (madeCells z (k * ti.size)).toList ∧ (∀ c ∈ zeros ti.size ti.zero k, c.cl Fr) ∧ (∀ c ∈ zeros ti.size ti.zero k, c ≠ .un) ∧ ∀ x ∈ (madeCells z (k * ti.size)).toList, x.oneCell' = true := by
 obtain ⟨z1, z2⟩ := zeros_get hl hz z hzz k
 have hsz : (madeCells z (k * ti.size)).size = k * ti.size := size_madeCells _ _
 refine ⟨VL.of (by simp [z1, size_madeCells]) (fun i c v hi hv => ?_), fun c hc => ?_, fun c hc => ?_, fun x hx => ?_⟩
 · obtain ⟨x, k1, k2, k3⟩ := z2 i c hi
   have : (madeCells z (k * ti.size)).toList[i]? = some x := by simpa using k1
   rw [this] at hv; cases hv
   rw [k2]; exact VG.sc _ (h1 _ k3)
 · obtain ⟨j, hj, rfl⟩ := List.mem_iff_getElem.1 hc
   obtain ⟨x, k1, k2, k3⟩ := z2 j _ (List.getElem?_eq_getElem hj)
   rw [k2]; trivial
 · obtain ⟨j, hj, rfl⟩ := List.mem_iff_getElem.1 hc
   obtain ⟨x, k1, k2, k3⟩ := z2 j _ (List.getElem?_eq_getElem hj)
   rw [k2]; exact fun hh => by cases hh
 · obtain ⟨j, hj, rfl⟩ := List.mem_iff_getElem.1 hx
   have hj2 : j < k * ti.size := by simpa [size_madeCells] using hj
   obtain ⟨x, k1, k2, k3⟩ := z2 j ((zeros ti.size ti.zero k)[j]'(by omega)) (by rw [List.getElem?_eq_getElem])
   have e : (madeCells z (k * ti.size)).toList[j]? = some x := by simpa using k1
   rw [List.getElem?_eq_getElem hj] at e
   cases e
   exact h1 _ k3
theorem sBuildSlice_ok (T : Tab) (hT : TOk P T) (h : RelAt P w0 A N Fr tm hp a w m π) (hf : Fr n) {t len : Nat} {parts : Array (Nat × Operand)} (ho : o.op = .buildSlice t len parts) {ρ : Operand → SV} (hρ : ∀ x ∈ (parts.toList.map (·.2)), VS m π (ρ x) (a.eval x) ∧ (ρ x).cl Fr) (hn : (sBuildSlice T t len (parts.toList.map fun x => (x.1, ρ x.2)) n).need) : Good P o w0 A N Fr tm hp a w n (sBuildSlice T t len (parts.toList.map fun x => (x.1, ρ x.2)) n) := by
 have hex : execOp a.eval o = (do pure (.value (← Instr.buildSlice t len (parts.map fun x => (x.1, a.eval x.2))))) := by unfold execOp; rw [ho]
 obtain ⟨p1, p2⟩ := parts_ok (m := m) (π := π) (Fr := Fr) hρ
 unfold sBuildSlice at hn ⊢
 cases hl : slot t T.ts with
 | none => rw [hl] at hn; exact hn.elim
 | some ti =>
   rw [hl] at hn
   have hti := hT t ti hl
   simp only at hn ⊢
   split at hn
   · rename_i e hk
     have hu := hti.slice hk
     cases hl2 : slot e T.ts with
     | none => rw [hl2] at hn; exact hn.elim
     | some te =>
       rw [hl2] at hn
       simp only at hn ⊢
       have hte := hT e te hl2
       obtain ⟨i, d, z, g1, g2, g3, g4, g5, g6, g7, g8, g9⟩ := hte.ex
       obtain ⟨n1, n2, n3⟩ := hn
       obtain ⟨q1, q2, q3, q4⟩ := zeros_vl (m := m) (π := π) (Fr := Fr) g8 n3 z.cells g7 g9 len
       obtain ⟨arr', r1, r2, r3, r4, r5⟩ := fill_ok (fun i => some (i * te.size, te.size)) _ _ (zeros te.size te.zero len) _ p1 p2 q1 q2 q3 q4 n1
       have hal := r2.length
       have hrun : (Instr.buildSlice t len (parts.map fun x => (x.1, a.eval x.2))).run P w = .ok (.slice (some ⟨w.heap.size, 0, none⟩) len len) (w.alloc (.cells arr' e)) := by
         rw [Array.toList_map] at r1
         have n2' : ¬ (16777216 < len * te.size) := by omega
         by_cases h0 : len * te.size = 0
         · have : len = 0 := by
             rcases Nat.mul_eq_zero.1 h0 with e | e
             · exact e
             · omega
           subst this
           have e0 : Array.range 0 = #[] := rfl
           simp only [madeCells, Nat.zero_mul, e0, Array.map_empty] at r1
           simp [Instr.buildSlice, run_underlying hu, hte.size, newRow, e0, r1]
         · simp only [madeCells] at r1
           simp [Instr.buildSlice, run_underlying hu, hte.size, newRow, n2', h0, zeroValue, typeInfo, g1, g6, r1]
       refine good_alloc h hf (arr := arr') (e := e) (row := ⟨_, te.size⟩) (v := .slice (some ⟨w.heap.size, 0, none⟩) len len) (by rw [hex]; simp [hrun]) (by simp only; omega) ?_ ?_ r3 r4 ?_ ?_
       · simp at hal; simp only; omega
       · intro j cc hj
         obtain ⟨xx, k1, k2⟩ := r2.get j cc hj
         exact ⟨xx, by simpa using k1, k2⟩
       · refine ⟨rfl, ?_⟩
         rw [upd_same]
         exact ⟨by simp only; omega, _, _, rfl, zai _, fun k hk => by cases hk; rfl, .inr ⟨rfl, by simp only [r5, size_madeCells]; omega⟩⟩
       · exact fun hq => hq.2 rfl
   · exact hn.elim
theorem sAppend_ok (T : Tab) (hT : TOk P T) (h : RelAt P w0 A N Fr tm hp a w m π) (hf : Fr n) {t : Nat} {x y : Operand} {c : Call} (ho : o.op = .call c) (hc1 : c.callee = .builtin .append) (hc2 : c.args = #[x, y]) (hc3 : c.argTypes = #[t, t]) {p q : SV} (hp' : VS m π p (a.eval x)) (hq' : VS m π q (a.eval y)) (hcq : q.cl Fr) (hn : (sAppend T hp t p q n).need) : Good P o w0 A N Fr tm hp a w n (sAppend T hp t p q n) := by
 have hex : ∀ r w', (Builtin.append_ #[t, t] o.type #[a.eval x, a.eval y]).run P w = .ok r w' → (execOp a.eval o).run P w = .ok (.value r) w' := by
   intro r w' hr
   unfold execOp
   rw [ho]
   simp [resolve, hc1, hc2, hc3, invoke, builtin, hr]
 unfold sAppend at hn ⊢
 cases hl : slot t T.ts with
 | none => rw [hl] at hn; exact hn.elim
 | some ti =>
   rw [hl] at hn
   simp only at hn ⊢
   cases hk : ti.kind with
   | slice e =>
     rw [hk] at hn
     simp only at hn ⊢
     cases hl2 : slot e T.ts with
     | none => rw [hl2] at hn; exact hn.elim
     | some te =>
       rw [hl2] at hn
       simp only at hn ⊢
       cases hs : slc te.size hp q with
       | none => rw [hs] at hn; exact hn.elim
       | some xk =>
         obtain ⟨xc, k⟩ := xk
         rw [hs] at hn
         simp only at hn ⊢
         have fresh : ∀ (base : Option Addr), a.eval x = .slice base 0 0 → ∀ need : Prop, xc.length = k * te.size → 0 < te.size → 0 < te.bytes → k * te.bytes ≤ 281474976710656 →
             Good P o w0 A N Fr tm hp a w n ⟨need, .one (.osl n 0 k none), [(n, some ⟨xc, te.size⟩)], 1⟩ := by
           intro base e1 need n1 n2 n3 n4
           obtain ⟨v', w', π', r1, r2, r3⟩ := append_fresh T hT h hf hl hk hl2 hq' hcq hs n1 n2 n3 n4 base o.type
           rw [← e1] at r1
           exact ⟨v', w', m, π', .inl (hex _ _ r1), frm r2 (zai _), r3, fun hq => hq.2 ⟨zai _, by simp only; omega⟩⟩
         have kill : ∀ (r off len : Nat) (cap : Option Nat) (row : Row), p = .one (.osl r off len cap) → hp r = some row → ∀ need : Prop, xc.length = k * te.size → 0 < te.size → 0 < te.bytes → (len + k) * te.bytes ≤ 140737488355328 → row.esz = te.size → off + len * te.size ≤ row.cells.length →
             Good P o w0 A N Fr tm hp a w n ⟨need, .one (.osl n 0 (len + k) none), [(r, none), (n, some ⟨(row.cells.drop off).take (len * te.size) ++ xc, te.size⟩)], 1⟩ := by
           intro r off len cap row ep hr need n1 n2 n3 n4 n5 n6
           subst ep
           obtain ⟨v', w', π', r1, r2, r3⟩ := append_kill T hT h hf hl hk hl2 hq' hcq hs n1 n2 n3 hp' hr n4 n5 n6 o.type
           exact ⟨v', w', m, π', .inl (hex _ _ r1), frm r2 (zai _), r3, fun hq => hq.2 ⟨zai _, by simp only; omega⟩⟩
         split at hn
         · obtain ⟨n1, n2, n3, n4⟩ := hn
           exact fresh none (vs_sc hp').1 _ n1 n2 n3 n4
         · rename_i r off len
           obtain ⟨n1, n2, n3, n4, n5⟩ := hn
           obtain ⟨row, q0, hr, hq, hq2⟩ := live_row h n5
           have hp2 := hp'
           obtain ⟨_, hvc⟩ := hp2
           rcases osl_at h hp' hr with ⟨_, _, _, ad, e1⟩ | ⟨pl, ad, cc, hπ, e1, hlc, hpz, hor⟩
           · exact fresh ad e1 _ n1 n2 n3 n4
           · rw [hπ] at hvc
             obtain ⟨_, ad2, c2, e2, hlc2, hcc, _⟩ := hvc
             have h0 := hcc 0 rfl
             subst h0
             have : len = 0 := by omega
             subst this
             exact fresh _ e2 _ n1 n2 n3 n4
         · rename_i cs off len
           obtain ⟨n1, n2, n3, n4⟩ := hn
           generalize hev : a.eval x = u at hp'
           cases hp' with
           | gnil _ _ _ hc => exact fresh _ hev _ n1 n2 n3 n4
           | gsl _ _ _ _ b oo c ad vals hc hlc hm hv ha =>
             have h0 := hc 0 rfl
             subst h0
             have : len = 0 := by omega
             subst this
             exact fresh _ hev _ n1 n2 n3 n4
         · rename_i r off len cap _
           cases hr : hp r with
           | none => rw [hr] at hn; exact hn.elim
           | some row =>
             rw [hr] at hn
             obtain ⟨n1, n2, n3, n4, n5, n6⟩ := hn
             exact kill r off len cap row rfl hr _ n1 n2 n3 n4 n5 n6
         · exact hn.elim
   | _ => rw [hk] at hn; exact hn.elim
end
end Go.Proofs.YtnahpejlhfeleabGreat.Sh
