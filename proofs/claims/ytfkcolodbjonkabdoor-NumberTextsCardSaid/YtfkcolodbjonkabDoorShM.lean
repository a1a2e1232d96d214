/- What a call of a Go function does, told of data: rows are lent to it, others are shown to it. -/
import Derived.Test.YtfkcolodbjonkabDoorShL
namespace Go.Proofs.YtfkcolodbjonkabDoor.Sh
open Go.RowKit
set_option linter.unusedVariables false
set_option linter.unusedSimpArgs false

def idx (r : Nat) : List Nat → Option Nat
  | [] => none
  | x :: l => if x = r then some 0 else (match idx r l with
    | some j => some (j + 1)
    | none => none)

theorem idx_some {r : Nat} : ∀ {l : List Nat} {j : Nat}, idx r l = some j → l[j]? = some r
  | [], _, h => by cases h
  | x :: l, j, h => by
    unfold idx at h
    split at h
    · rename_i e; cases h; simp [e]
    · split at h
      · rename_i j' h'; cases h; simpa using idx_some h'
      · cases h

theorem idx_none {r : Nat} : ∀ {l : List Nat}, idx r l = none → r ∉ l
  | [], _ => by simp
  | x :: l, h => by
    unfold idx at h
    split at h
    · cases h
    · rename_i hne
      split at h
      · cases h
      · rename_i h'
        have := idx_none h'
        simp [this]
        exact fun e => hne e.symm

theorem idx_of {r : Nat} : ∀ {l : List Nat} {j : Nat}, l.Nodup → l[j]? = some r → idx r l = some j
  | [], _, _, h => by cases h
  | x :: l, 0, _, h => by simp at h; simp [idx, h]
  | x :: l, j + 1, hn, h => by
    have h' : l[j]? = some r := by simpa using h
    have hne : x ≠ r := fun e => by
      subst e
      exact (List.nodup_cons.1 hn).1 (List.mem_of_getElem? h')
    simp [idx, hne, idx_of (List.nodup_cons.1 hn).2 h']

def hpL (rows : List (Option Row)) : Nat → Option Row := fun r => match rows[r]? with
  | some x => x
  | none => none

def Cell.ren (ρ : Nat → Option Nat) : Cell → Cell
  | .osl r off len cap => (match ρ r with
    | some j => .osl j off len cap
    | none => .un)
  | .optr r off => (match ρ r with
    | some j => .optr j off
    | none => .un)
  | .mp r kk => (match ρ r with
    | some j => .mp j kk
    | none => .un)
  | c => c

mutual
def SV.ren (ρ : Nat → Option Nat) : SV → SV
  | .one c => .one (c.ren ρ)
  | .agg cs => .agg (cs.map (Cell.ren ρ))
  | .tup vs => .tup (SV.renL ρ vs)
def SV.renL (ρ : Nat → Option Nat) : List SV → List SV
  | [] => []
  | s :: ss => s.ren ρ :: SV.renL ρ ss
end

def Row.ren (ρ : Nat → Option Nat) (r : Row) : Row := ⟨r.cells.map (Cell.ren ρ), r.esz⟩

def Cell.noG : Cell → Bool
  | .gsl _ _ _ _ => false
  | .gptr _ _ => false
  | .fn _ _ => false
  | _ => true

mutual
def SV.noG : SV → Prop
  | .one c => c.noG = true
  | .agg cs => ∀ c ∈ cs, c.noG = true
  | .tup vs => SV.noGL vs
def SV.noGL : List SV → Prop
  | [] => True
  | s :: ss => s.noG ∧ SV.noGL ss
end

def Callable (P : Program) (f : FuncId) : Prop := ∃ fn, P.funcs[f]? = some fn ∧ (fn.name == "runtime.NumGoroutine") = false ∧ fn.body.isNone = false

def base (w : World) (m : Mem) (π : Plc) (k : Nat) (A : Nat → Prop) : Base := ⟨w, fun ad => (m ad).isSome = true ∨ A ad.block, k, π⟩

def FnSpec (P : Program) (f : FuncId) (args : List SV) (rows : List Row) (res : SV) (outs : List (Option Row)) : Prop :=
  Callable P f ∧ ∀ (w : World) (vals : Array Value) (m : Mem) (π : Plc) (A : Nat → Prop), (∀ b, A b ↔ w.heap.size ≤ b ∨ ∃ r p, π r = some (some p) ∧ p.b = b) →
    RelAt P (base w m π rows.length A) A 0 (rows.length ≤ ·) (fun _ => none) (hpL (rows.map some)) ⟨#[], []⟩ w m π → VSL m π args vals.toList → SV.clL (rows.length ≤ ·) args →
    Calls P f vals w fun e w' => ∃ v m' π', e = .returned v ∧ RelAt P (base w m π rows.length A) A 0 (outs.length ≤ ·) (fun _ => none) (hpL outs) ⟨#[], []⟩ w' m' π' ∧ VS m' π' res v ∧ res.cl (outs.length ≤ ·)

def Does (P : Program) (f : FuncId) (vals : Array Value) (w : World) (R : Ending → World → Prop) : Prop :=
  (Callable P f ∧ Calls P f vals w R) ∨ ∃ v w', (callFunc f vals).run P w = .ok (.value v) w' ∧ R (.returned v) w'
theorem Does.mono {P : Program} {f : FuncId} {vals : Array Value} {w : World} {R R' : Ending → World → Prop} (h : Does P f vals w R) (hR : ∀ e w', R e w' → R' e w') : Does P f vals w R' := by
  rcases h with ⟨h1, h2⟩ | ⟨v, w', h1, h2⟩
  · exact .inl ⟨h1, h2.mono hR⟩
  · exact .inr ⟨v, w', h1, hR _ _ h2⟩
def FnSpecD (P : Program) (f : FuncId) (args : List SV) (rows : List Row) (res : SV) (outs : List (Option Row)) : Prop :=
  ∀ (w : World) (vals : Array Value) (m : Mem) (π : Plc) (A : Nat → Prop), (∀ b, A b ↔ w.heap.size ≤ b ∨ ∃ r p, π r = some (some p) ∧ p.b = b) →
    RelAt P (base w m π rows.length A) A 0 (rows.length ≤ ·) (fun _ => none) (hpL (rows.map some)) ⟨#[], []⟩ w m π → VSL m π args vals.toList → SV.clL (rows.length ≤ ·) args →
    Does P f vals w fun e w' => ∃ v m' π', e = .returned v ∧ RelAt P (base w m π rows.length A) A 0 (outs.length ≤ ·) (fun _ => none) (hpL outs) ⟨#[], []⟩ w' m' π' ∧ VS m' π' res v ∧ res.cl (outs.length ≤ ·)
theorem FnSpec.d {P : Program} {f : FuncId} {args : List SV} {rows : List Row} {res : SV} {outs : List (Option Row)} (h : FnSpec P f args rows res outs) : FnSpecD P f args rows res outs :=
  fun w vals m π A h1 h2 h3 h4 => .inl ⟨h.1, h.2 w vals m π A h1 h2 h3 h4⟩

def prepC (L : List Nat) (get : Nat → Option Row) : Cell → Cell
  | .osl r off len cap => (match idx r L with
    | some j => .osl j off len cap
    | none => (match get r with
      | some row => .gsl row.cells off len cap
      | none => .un))
  | .optr r off => (match idx r L with
    | some j => .optr j off
    | none => (match get r with
      | some row => .gptr row.cells off
      | none => .un))
  | .mp r kk => (match idx r L with
    | some j => .mp j kk
    | none => .un)
  | c => c

def prepV (L : List Nat) (get : Nat → Option Row) : SV → SV
  | .one c => .one (prepC L get c)
  | .agg cs => .agg (cs.map (prepC L get))
  | .tup _ => .one .un

def Cell.refs : Cell → List Nat
  | .osl r _ _ _ => [r]
  | .optr r _ => [r]
  | .mp r kk => [r]
  | _ => []

def SV.refs : SV → List Nat
  | .one c => c.refs
  | .agg cs => cs.flatMap Cell.refs
  | .tup _ => []

def snaps (L : List Nat) (args : List SV) : List Nat := (args.flatMap SV.refs).filter fun r => (idx r L).isNone

def bk (L : List Nat) (n : Nat) (j : Nat) : Nat := match L[j]? with
  | some r => r
  | none => n + (j - L.length)

def back (L : List Nat) (n : Nat) : Nat → Option Nat := fun j => some (bk L n j)

def lentRows (L : List Nat) (get : Nat → Option Row) : List Row := L.map fun r => match get r with
  | some row => row.ren fun q => idx q L
  | none => ⟨[], 0⟩

def renO (ρ : Nat → Option Nat) : Option Row → Option Row
  | some row => some (row.ren ρ)
  | none => none

def outUpsFrom (L : List Nat) (n : Nat) : Nat → List (Option Row) → List (Nat × Option Row)
  | _, [] => []
  | j, x :: l => (bk L n j, renO (back L n) x) :: outUpsFrom L n (j + 1) l

structure CallOk (L : List Nat) (get : Nat → Option Row) (args : List SV) (res : SV) (outs : List (Option Row)) : Prop where
  nodup : L.Nodup
  live : ∀ r ∈ L, ∃ row, get r = some row ∧ (∀ c ∈ row.cells, ∀ q ∈ c.refs, q ∈ L)
  shown : ∀ r ∈ snaps L args, ∃ row, get r = some row ∧ ∀ c ∈ row.cells, c.isG = true
  long : L.length ≤ outs.length
  fresh : snaps L args = [] ∨ (res.noG ∧ ∀ x ∈ outs, ∀ row, x = some row → ∀ c ∈ row.cells, c.noG = true)

section
variable {P : Program} {w0 : Base} {A : Nat → Prop} {N : Nat} {Fr : Nat → Prop} {tm : Nat → Option SV} {hp : Nat → Option Row} {a : Act} {w : World} {m : Mem} {π : Plc}

def inS (π : Plc) (S : List Nat) (b : Nat) : Bool := S.any fun r => match π r with
  | some (some p) => p.b == b
  | _ => false

def memS (m : Mem) (π : Plc) (w : World) (S : List Nat) : Mem := fun ad => if (ad.spot.isNone && inS π S ad.block) = true then w.cell? ad else m ad

theorem inS_iff {π : Plc} {S : List Nat} {b : Nat} : inS π S b = true ↔ ∃ r ∈ S, ∃ p, π r = some (some p) ∧ p.b = b := by
  unfold inS
  rw [List.any_eq_true]
  constructor
  · rintro ⟨r, hr, h⟩
    split at h
    · rename_i p hp; exact ⟨r, hr, p, hp, by simpa using h⟩
    · cases h
  · rintro ⟨r, hr, p, hp, hb⟩
    exact ⟨r, hr, by rw [hp]; simpa using hb⟩

theorem memS_le (h : RelAt P w0 A N Fr tm hp a w m π) (S : List Nat) : ∀ ad v, m ad = some v → memS m π w S ad = some v := by
  intro ad v hv
  unfold memS
  rw [if_neg]
  · exact hv
  · intro hc
    rw [Bool.and_eq_true] at hc
    obtain ⟨r, hr, p, hp, hb⟩ := inS_iff.1 hc.2
    exact h.dis r p ad v hp hv hb.symm

theorem memS_in {S : List Nat} {r : Nat} (hr : r ∈ S) {p : Place} (hp : π r = some (some p)) (i : Nat) : memS m π w S ⟨p.b, i, none⟩ = w.cell? ⟨p.b, i, none⟩ := by
  unfold memS
  rw [if_pos]
  simp
  exact inS_iff.2 ⟨r, hr, p, hp, rfl⟩

theorem vg_of_vc {c : Cell} {x : Value} (hg : c.isG = true) (h : VC m π c x) : VG m c x := by
  cases c <;> first | exact h | cases hg

theorem shown_vals (h : RelAt P w0 A N Fr tm hp a w m π) {S : List Nat} {r : Nat} (hr : r ∈ S) {row : Row} (hrow : hp r = some row) (hg : ∀ c ∈ row.cells, c.isG = true) {p : Place} (hp' : π r = some (some p)) (hz : p.esz ≠ 0) :
    ∃ vals : Nat → Value, (∀ (i : Nat) x, row.cells[i]? = some x → memS m π w S ⟨p.b, p.o + i, none⟩ = some (vals i)) ∧ (∀ (i : Nat) x, row.cells[i]? = some x → VG (memS m π w S) x (vals i)) := by
  refine ⟨fun i => (w.cell? ⟨p.b, p.o + i, none⟩).getD undef, fun i x hi => ?_, fun i x hi => ?_⟩
  · obtain ⟨v, h1, h2⟩ := rowcells h hrow hp' hz i x hi
    show memS m π w S ⟨p.b, p.o + i, none⟩ = some ((w.cell? ⟨p.b, p.o + i, none⟩).getD undef)
    rw [memS_in hr hp', h1]; rfl
  · obtain ⟨v, h1, h2⟩ := rowcells h hrow hp' hz i x hi
    show VG _ x ((w.cell? ⟨p.b, p.o + i, none⟩).getD undef)
    rw [h1]
    exact VG.mono (memS_le h S) (vg_of_vc (hg x (List.mem_of_getElem? hi)) h2)

theorem prepC_ok (h : RelAt P w0 A N Fr tm hp a w m π) (L S : List Nat) {c : Cell} (hS : ∀ r ∈ c.refs, idx r L = none → r ∈ S) (hsh : ∀ r ∈ S, ∃ row, hp r = some row ∧ ∀ c ∈ row.cells, c.isG = true) {v : Value} (hv : VC m π c v) :
    VC (memS m π w S) (fun j => match L[j]? with | some r => π r | none => none) (prepC L hp c) v ∧ (prepC L hp c).cl (L.length ≤ ·) := by
  cases c with
  | un => exact ⟨trivial, trivial⟩
  | mp r kk =>
    cases hi : idx r L with
    | some j =>
      have hj := idx_some hi
      have e : prepC L hp (.mp r kk) = .mp j kk := by simp only [prepC, hi]
      rw [e]
      refine ⟨⟨hv.1, ?_⟩, fun hh => ?_⟩
      · simp only [hj]
        exact hv.2
      · have := (List.getElem?_eq_some_iff.1 hj).1; omega
    | none =>
      have e : prepC L hp (.mp r kk) = .un := by simp only [prepC, hi]
      rw [e]
      exact ⟨trivial, trivial⟩
  | sc u => exact ⟨VG.mono (memS_le h S) hv, trivial⟩
  | gsl _ _ _ _ => exact ⟨VG.mono (memS_le h S) hv, trivial⟩
  | gptr _ _ => exact ⟨VG.mono (memS_le h S) hv, trivial⟩
  | fn _ _ => exact ⟨VG.mono (memS_le h S) hv, trivial⟩
  | osl r off len cap =>
    cases hi : idx r L with
    | some j =>
      have hj := idx_some hi
      have e : prepC L hp (.osl r off len cap) = .osl j off len cap := by simp only [prepC, hi]
      rw [e]
      refine ⟨⟨hv.1, ?_⟩, fun hh => ?_⟩
      · simp only [hj]
        exact hv.2
      · have := (List.getElem?_eq_some_iff.1 hj).1; omega
    | none =>
      have hrS := hS r (by simp [Cell.refs]) hi
      obtain ⟨row, hrow, hg⟩ := hsh r hrS
      have e : prepC L hp (.osl r off len cap) = .gsl row.cells off len cap := by simp only [prepC, hi, hrow]
      rw [e]
      refine ⟨?_, trivial⟩
      have hro := h.rows r row hrow
      unfold RowOk at hro
      obtain ⟨_, h2⟩ := hv
      cases hπ : π r with
      | none => rw [hπ] at hro; exact hro.elim
      | some q =>
        rw [hπ] at h2 hro
        cases q with
        | none =>
          simp only at h2 hro
          obtain ⟨rfl, hc, ad, rfl⟩ := h2
          show VG _ _ _
          cases ad with
          | none => exact VG.gnil _ _ _ hc
          | some ad =>
            rw [hro]
            exact VG.gsl [] off 0 cap 0 0 0 ad (fun _ => undef) (fun k hk => (hc k hk).symm) (Nat.le_refl _) (fun i x hi => by simp at hi) (fun i x hi => by simp at hi) (.inr rfl)
        | some p =>
          obtain ⟨gz, ad, c, rfl, hlc, hcc, hor⟩ := h2
          obtain ⟨vals, k1, k2⟩ := shown_vals h hrS hrow hg hπ gz
          refine VG.gsl row.cells off len cap p.b p.o c ad vals hcc hlc k1 k2 ?_
          rcases hor with ⟨e, _⟩ | ⟨e, _⟩
          · exact .inr e
          · exact .inl e
  | optr r off =>
    cases hi : idx r L with
    | some j =>
      have hj := idx_some hi
      have e : prepC L hp (.optr r off) = .optr j off := by simp only [prepC, hi]
      rw [e]
      refine ⟨⟨hv.1, ?_⟩, fun hh => ?_⟩
      · simp only [hj]
        exact hv.2
      · have := (List.getElem?_eq_some_iff.1 hj).1; omega
    | none =>
      have hrS := hS r (by simp [Cell.refs]) hi
      obtain ⟨row, hrow, hg⟩ := hsh r hrS
      have e : prepC L hp (.optr r off) = .gptr row.cells off := by simp only [prepC, hi, hrow]
      rw [e]
      refine ⟨?_, trivial⟩
      have hro := h.rows r row hrow
      unfold RowOk at hro
      obtain ⟨_, h2⟩ := hv
      cases hπ : π r with
      | none => rw [hπ] at hro; exact hro.elim
      | some q =>
        rw [hπ] at h2 hro
        cases q with
        | none => exact h2.elim
        | some p =>
          simp only at h2
          obtain ⟨gz, h2⟩ := h2
          subst h2
          obtain ⟨vals, k1, k2⟩ := shown_vals h hrS hrow hg hπ gz
          exact VG.gptr row.cells off p.b p.o vals k1 k2

theorem prepL_ok (h : RelAt P w0 A N Fr tm hp a w m π) (L S : List Nat) (hsh : ∀ r ∈ S, ∃ row, hp r = some row ∧ ∀ c ∈ row.cells, c.isG = true) : ∀ (cs : List Cell) (vs : List Value), (∀ r ∈ cs.flatMap Cell.refs, idx r L = none → r ∈ S) → VL m π cs vs →
    VL (memS m π w S) (fun j => match L[j]? with | some r => π r | none => none) (cs.map (prepC L hp)) vs ∧ ∀ c ∈ cs.map (prepC L hp), c.cl (L.length ≤ ·)
  | [], [], _, _ => ⟨trivial, by simp⟩
  | c :: cs, v :: vs, hS, hv => by
    obtain ⟨h1, h2⟩ := prepC_ok h L S (c := c) (fun r hr => hS r (by simp [hr])) hsh hv.1
    obtain ⟨h3, h4⟩ := prepL_ok h L S hsh cs vs (fun r hr => hS r (by rw [List.flatMap_cons, List.mem_append]; exact .inr hr)) hv.2
    exact ⟨⟨h1, h3⟩, fun c hc => by
      rcases List.mem_cons.1 (by simpa using hc : c ∈ prepC L hp _ :: cs.map (prepC L hp)) with e | e
      · rw [e]; exact h2
      · exact h4 c e⟩

theorem prepV_ok (h : RelAt P w0 A N Fr tm hp a w m π) (L S : List Nat) (hsh : ∀ r ∈ S, ∃ row, hp r = some row ∧ ∀ c ∈ row.cells, c.isG = true) : ∀ (ss : List SV) (vs : List Value), (∀ r ∈ ss.flatMap SV.refs, idx r L = none → r ∈ S) → VSL m π ss vs →
    VSL (memS m π w S) (fun j => match L[j]? with | some r => π r | none => none) (ss.map (prepV L hp)) vs ∧ SV.clL (L.length ≤ ·) (ss.map (prepV L hp))
  | [], [], _, _ => ⟨trivial, trivial⟩
  | s :: ss, v :: vs, hS, hv => by
    obtain ⟨h3, h4⟩ := prepV_ok h L S hsh ss vs (fun r hr => hS r (by rw [List.flatMap_cons, List.mem_append]; exact .inr hr)) hv.2
    have hS1 : ∀ r ∈ s.refs, idx r L = none → r ∈ S := fun r hr => hS r (by simp [hr])
    cases s with
    | one c =>
      obtain ⟨h1, h2⟩ := prepC_ok h L S (c := c) hS1 hsh hv.1
      exact ⟨⟨h1, h3⟩, h2, h4⟩
    | agg cs =>
      obtain ⟨arr, e, hl⟩ := hv.1
      obtain ⟨h1, h2⟩ := prepL_ok h L S hsh cs arr.toList hS1 hl
      exact ⟨⟨⟨arr, e, h1⟩, h3⟩, h2, h4⟩
    | tup _ => exact ⟨⟨trivial, h3⟩, trivial, h4⟩

theorem lent_get {L : List Nat} {j : Nat} : hpL ((lentRows L hp).map some) j = (match L[j]? with
    | some r => some (match hp r with
      | some row => row.ren fun q => idx q L
      | none => ⟨[], 0⟩)
    | none => none) := by
  unfold hpL lentRows
  simp only [List.getElem?_map]
  cases L[j]? <;> rfl

theorem lent_len (L : List Nat) : (lentRows L hp).length = L.length := by simp [lentRows]

theorem callee_rel (h : RelAt P w0 A N Fr tm hp a w m π) (L : List Nat) (hn : L.Nodup) (hl : ∀ r ∈ L, ∃ row, hp r = some row ∧ (∀ c ∈ row.cells, ∀ q ∈ c.refs, q ∈ L)) (S : List Nat) (hS : ∀ r ∈ S, idx r L = none) (A' : Nat → Prop)
    (hA' : ∀ b, A' b ↔ w.heap.size ≤ b ∨ ∃ (j : Nat) (p : Place), (match L[j]? with | some r => π r | none => none) = some (some p) ∧ p.b = b) :
    RelAt P (base w (memS m π w S) (fun j => match L[j]? with | some r => π r | none => none) (lentRows L hp).length A') A' 0 ((lentRows L hp).length ≤ ·) (fun _ => none) (hpL ((lentRows L hp).map some)) ⟨#[], []⟩ w (memS m π w S) (fun j => match L[j]? with | some r => π r | none => none) := by
  have hpc : ∀ (j : Nat) (p : Place), (match L[j]? with | some r => π r | none => none) = some (some p) → ∃ r, L[j]? = some r ∧ π r = some (some p) := by
    intro j p hj
    cases hL : L[j]? with
    | none => rw [hL] at hj; cases hj
    | some r => rw [hL] at hj; exact ⟨r, rfl, hj⟩
  have hidx : ∀ q ∈ L, ∃ j, idx q L = some j := by
    intro q hq
    cases hi : idx q L with
    | some j => exact ⟨j, rfl⟩
    | none => exact absurd hq (idx_none hi)
  rw [lent_len]
  have hgl : GL P A' w := h.gl.keep h.keep fun b hb hna hab => by
    rcases (hA' b).1 hab with hsz | ⟨j, p, hj, hpb⟩
    · exact absurd (Nat.lt_of_lt_of_le hb h.keep.size) (by omega)
    · obtain ⟨r, hr, hpr⟩ := hpc j p hj
      obtain ⟨row, hrow, _⟩ := hl r (List.mem_of_getElem? hr)
      have hro := h.rows r row hrow
      unfold RowOk at hro
      rw [hpr] at hro
      exact hna (hpb ▸ hro.1)
  refine ⟨rfl, rfl, fun k v hk => (by cases hk), fun k v hk => (by cases hk), ?_, ?_, ?_, ?_, ?_, ?_, ?_, ?_, ?_, ?_, ?_, ?_, ?_, ?_, hgl⟩
  · intro j row hj
    rw [lent_get] at hj
    cases hL : L[j]? with
    | none => rw [hL] at hj; cases hj
    | some r =>
      rw [hL] at hj
      obtain ⟨row0, hrow0, hin⟩ := hl r (List.mem_of_getElem? hL)
      simp only [hrow0, Option.some.injEq] at hj
      subst hj
      have hro := h.rows r row0 hrow0
      unfold RowOk at hro ⊢
      simp only [hL]
      cases hπ : π r with
      | none => rw [hπ] at hro; exact hro.elim
      | some q =>
        rw [hπ] at hro
        cases q with
        | none => simp only at hro ⊢; simp [Row.ren, hro]
        | some p =>
          obtain ⟨g1, g2, arr, e, g3, g4, g5, g6⟩ := hro
          refine ⟨(hA' p.b).2 (.inr ⟨j, p, by simp only [hL]; exact hπ, rfl⟩), g2, arr, e, g3, g4, ⟨fun hz => by simpa [Row.ren] using g5.1 hz, fun hz => by simpa [Row.ren] using g5.2 hz⟩, fun i c hi => ?_⟩
          simp only [Row.ren, List.getElem?_map, Option.map_eq_some_iff] at hi
          obtain ⟨c0, hc0, rfl⟩ := hi
          obtain ⟨x, k1, k2⟩ := g6 i c0 hc0
          refine ⟨x, k1, ?_⟩
          have hmem := List.mem_of_getElem? hc0
          cases c0 with
          | osl r' off len cap =>
            obtain ⟨j', hj'⟩ := hidx r' (hin _ hmem r' (by simp [Cell.refs]))
            simp only [Cell.ren, hj']
            refine ⟨k2.1, ?_⟩
            simp only [idx_some hj']
            exact k2.2
          | optr r' off =>
            obtain ⟨j', hj'⟩ := hidx r' (hin _ hmem r' (by simp [Cell.refs]))
            simp only [Cell.ren, hj']
            refine ⟨k2.1, ?_⟩
            simp only [idx_some hj']
            exact k2.2
          | mp r' kk =>
            obtain ⟨j', hj'⟩ := hidx r' (hin _ hmem r' (by simp [Cell.refs]))
            simp only [Cell.ren, hj']
            refine ⟨k2.1, ?_⟩
            simp only [idx_some hj']
            exact k2.2
          | un => trivial
          | _ => exact VG.mono (memS_le h S) k2
  · intro j row hj c hc
    rw [lent_get] at hj
    cases hL : L[j]? with
    | none => rw [hL] at hj; cases hj
    | some r =>
      rw [hL] at hj
      obtain ⟨row0, hrow0, hin⟩ := hl r (List.mem_of_getElem? hL)
      simp only [hrow0, Option.some.injEq] at hj
      subst hj
      obtain ⟨c0, hc0, rfl⟩ := List.mem_map.1 hc
      cases c0 with
      | osl r' off len cap =>
        obtain ⟨j', hj'⟩ := hidx r' (hin _ hc0 r' (by simp [Cell.refs]))
        simp only [Cell.ren, hj']
        have := (List.getElem?_eq_some_iff.1 (idx_some hj')).1
        show ¬ _
        omega
      | optr r' off =>
        obtain ⟨j', hj'⟩ := hidx r' (hin _ hc0 r' (by simp [Cell.refs]))
        simp only [Cell.ren, hj']
        have := (List.getElem?_eq_some_iff.1 (idx_some hj')).1
        show ¬ _
        omega
      | mp r' kk =>
        obtain ⟨j', hj'⟩ := hidx r' (hin _ hc0 r' (by simp [Cell.refs]))
        simp only [Cell.ren, hj']
        have := (List.getElem?_eq_some_iff.1 (idx_some hj')).1
        show ¬ _
        omega
      | _ => trivial
  · intro j row hj c hc
    rw [lent_get] at hj
    cases hL : L[j]? with
    | none => rw [hL] at hj; cases hj
    | some r =>
      rw [hL] at hj
      obtain ⟨row0, hrow0, hin⟩ := hl r (List.mem_of_getElem? hL)
      simp only [hrow0, Option.some.injEq] at hj
      subst hj
      obtain ⟨c0, hc0, rfl⟩ := List.mem_map.1 hc
      have hso := h.rsol r row0 hrow0 c0 hc0
      cases c0 with
      | osl r' off len cap =>
        obtain ⟨j', hj'⟩ := hidx r' (hin _ hc0 r' (by simp [Cell.refs]))
        simp only [Cell.ren, hj']
        exact fun hh => by cases hh
      | optr r' off =>
        obtain ⟨j', hj'⟩ := hidx r' (hin _ hc0 r' (by simp [Cell.refs]))
        simp only [Cell.ren, hj']
        exact fun hh => by cases hh
      | mp r' kk =>
        obtain ⟨j', hj'⟩ := hidx r' (hin _ hc0 r' (by simp [Cell.refs]))
        simp only [Cell.ren, hj']
        exact fun hh => by cases hh
      | _ => exact hso
  · intro j hj
    rw [lent_get] at hj
    cases hL : L[j]? with
    | none => rfl
    | some r => rw [hL] at hj; cases hj
  · intro j hj
    rw [lent_get, List.getElem?_eq_none hj]
  · intro j j' p p' h1 h2 h3
    obtain ⟨r, e1, e2⟩ := hpc j p h1
    obtain ⟨r', e3, e4⟩ := hpc j' p' h2
    have := h.inj r r' p p' e2 e4 h3
    subst this
    have k1 := idx_of hn e1
    have k2 := idx_of hn e3
    rw [k1] at k2; cases k2; rfl
  · intro ad v hv
    unfold memS at hv
    split at hv
    · rename_i hc
      rw [Bool.and_eq_true] at hc
      exact ⟨by simpa using hc.1, hv⟩
    · exact h.mok ad v hv
  · intro j p ad v hj hv
    obtain ⟨r, e1, e2⟩ := hpc j p hj
    unfold memS at hv
    split at hv
    · rename_i hc
      rw [Bool.and_eq_true] at hc
      obtain ⟨r2, hr2, p2, hp2, hb2⟩ := inS_iff.1 hc.2
      intro e
      have := h.inj r2 r p2 p hp2 e2 (by rw [hb2, e])
      subst this
      have hnone := hS r2 hr2
      rw [idx_of hn e1] at hnone
      cases hnone
    · exact h.dis r p ad v e2 hv
  · intro b hb
    exact (hA' b).2 (.inl hb)
  · exact ⟨rfl, rfl, rfl, Nat.le_refl _, fun _ _ _ => rfl⟩
  · intro ad v hv
    exact .inl (by rw [hv]; rfl)
  · intro ad had
    exact .inr had
  · intro r _
    exact .inl rfl
  · intro r hr
    exact hr

end
end Go.Proofs.YtfkcolodbjonkabDoor.Sh
