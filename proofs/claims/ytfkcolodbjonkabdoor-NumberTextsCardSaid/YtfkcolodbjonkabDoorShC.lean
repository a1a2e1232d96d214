/- The types that a program's operations name, as a table; what an operation does, told of data. -/
import Derived.Test.YtfkcolodbjonkabDoorShB
import Derived.Test.YtfkcolodbjonkabDoorShX
namespace Go.Proofs.YtfkcolodbjonkabDoor.Sh
open Go.RowKit
set_option linter.unusedVariables false
set_option linter.unusedSimpArgs false

def slot {α : Type} (k : Nat) : List (Nat × α) → Option α
  | [] => none
  | (j, x) :: r => if j = k then some x else slot k r

inductive TK where
  | int (k : IntKind)
  | bool
  | str
  | ptr
  | slice (e : Nat)
  | array (n e : Nat)
  | map (k e : Nat)
  | struct (fs : List (Nat × Nat))
  | oth

def TK.isAgg : TK → Bool
  | .array _ _ => true
  | .struct _ => true
  | _ => false

structure TI where
  size : Nat
  bytes : Nat
  kind : TK
  zero : List Value
  eq : Bool

structure Tab where
  ts : List (Nat × TI)
  wr : Bool

def TK.fits : TK → TypeDesc → Prop
  | .int k, .int k' => k' = k
  | .bool, .bool => True
  | .str, .string => True
  | .ptr, .pointer _ => True
  | .slice e, .slice e' => e' = e
  | .array n e, .array n' e' => n' = n ∧ e' = e
  | .map k e, .map k' e' => k' = k ∧ e' = e
  | .struct fs, .struct fl => fl.toList.map (fun f => (f.offset, f.type)) = fs
  | .oth, .struct _ => False
  | .oth, .array _ _ => False
  | .oth, .slice _ => False
  | .oth, _ => True
  | _, _ => False

structure TIok (P : Program) (t : Nat) (ti : TI) : Prop where
  ex : ∃ i d z, P.info? t = some i ∧ P.underlying t = some d ∧ i.size = ti.size ∧ i.bytes = ti.bytes ∧ ti.kind.fits d ∧ i.zero = some z ∧ z.cells.toList = ti.zero ∧ ti.zero.length = ti.size ∧ (∀ x ∈ ti.zero, x.oneCell' = true)
  eqs : ti.eq = true → EqOk P t ti.zero
  flt : ti.kind.isAgg = false → ∀ i z, P.info? t = some i → i.zero = some z → z.oneCell' = true

def TOk (P : Program) (T : Tab) : Prop := ∀ t ti, slot t T.ts = some ti → TIok P t ti

section
variable {P : Program} {t : Nat} {ti : TI} (w : World)

theorem TIok.size (h : TIok P t ti) : (sizeOf t).run P w = .ok ti.size w := by
  obtain ⟨i, d, z, h1, h2, h3, _⟩ := h.ex
  simp [sizeOf, typeInfo, h1, h3]

theorem TIok.isAgg (h : TIok P t ti) : (Go.isAgg t).run P w = .ok ti.kind.isAgg w := by
  obtain ⟨i, d, z, h1, h2, h3, h4, h5, _⟩ := h.ex
  simp only [Go.isAgg, underlying, Sem.run_bind, run_program, Result.andThen_ok, h2, Sem.run_pure]
  revert h5
  cases ti.kind <;> cases d <;> simp [TK.fits, TK.isAgg]

theorem TIok.zero (h : TIok P t ti) : ∃ z, (zeroValue t).run P w = .ok z w ∧ z.cells.toList = ti.zero := by
  obtain ⟨i, d, z, h1, h2, h3, h4, h5, h6, h7, _⟩ := h.ex
  exact ⟨z, by simp [zeroValue, typeInfo, h1, h6], h7⟩

theorem TIok.bytes (h : TIok P t ti) : ∃ i, P.info? t = some i ∧ i.bytes = ti.bytes := by
  obtain ⟨i, d, z, h1, h2, h3, h4, _⟩ := h.ex
  exact ⟨i, h1, h4⟩

theorem TIok.slice (h : TIok P t ti) {e : Nat} (hk : ti.kind = .slice e) : P.underlying t = some (.slice e) := by
  obtain ⟨i, d, z, h1, h2, h3, h4, h5, _⟩ := h.ex
  rw [hk] at h5
  cases d <;> simp [TK.fits] at h5
  subst h5; exact h2

theorem TIok.array (h : TIok P t ti) {n e : Nat} (hk : ti.kind = .array n e) : P.underlying t = some (.array n e) := by
  obtain ⟨i, d, z, h1, h2, h3, h4, h5, _⟩ := h.ex
  rw [hk] at h5
  cases d <;> simp [TK.fits] at h5
  obtain ⟨rfl, rfl⟩ := h5; exact h2

theorem TIok.struct (h : TIok P t ti) {fs : List (Nat × Nat)} (hk : ti.kind = .struct fs) : ∃ fl, P.underlying t = some (.struct fl) ∧ fl.toList.map (fun f => (f.offset, f.type)) = fs := by
  obtain ⟨i, d, z, h1, h2, h3, h4, h5, _⟩ := h.ex
  rw [hk] at h5
  cases d <;> simp [TK.fits] at h5
  exact ⟨_, h2, by simpa using h5⟩

theorem TIok.int (h : TIok P t ti) {k : IntKind} (hk : ti.kind = .int k) : P.underlying t = some (.int k) := by
  obtain ⟨i, d, z, h1, h2, h3, h4, h5, _⟩ := h.ex
  rw [hk] at h5
  cases d <;> simp [TK.fits] at h5
  subst h5; exact h2

theorem TIok.str (h : TIok P t ti) (hk : ti.kind = .str) : P.underlying t = some .string := by
  obtain ⟨i, d, z, h1, h2, h3, h4, h5, _⟩ := h.ex
  rw [hk] at h5
  cases d <;> simp [TK.fits] at h5
  exact h2

theorem TIok.und (h : TIok P t ti) : ∃ d, P.underlying t = some d ∧ ti.kind.fits d := by
  obtain ⟨i, d, z, h1, h2, h3, h4, h5, _⟩ := h.ex
  exact ⟨d, h2, h5⟩
end

structure Res where
  need : Prop
  val : SV
  ups : List (Nat × Option Row)
  new : Nat

def bad : Res := ⟨False, .one .un, [], 0⟩

def SV.ref : SV → List Nat
  | .one (.osl r _ _ _) => [r]
  | .one (.optr r _) => [r]
  | .one (.mp r _) => [r]
  | _ => []

def readAt (ti : TI) (cells : List Cell) (off : Nat) : SV :=
  match ti.kind with
  | .array _ _ => .agg ((cells.drop off).take ti.size)
  | .struct _ => .agg ((cells.drop off).take ti.size)
  | _ => .one (cells.getD off (.sc (ti.zero.headD (.bool false))))

def readNeed (ti : TI) (cells : List Cell) (off : Nat) : Prop :=
  match ti.kind with
  | .array _ _ => off + ti.size ≤ cells.length ∧ 0 < ti.size
  | .struct _ => off + ti.size ≤ cells.length ∧ 0 < ti.size
  | _ => off < cells.length

def sLoad (T : Tab) (get : Nat → Option Row) (t : Nat) (p : SV) : Res :=
  match slot t T.ts with
  | none => bad
  | some ti => match p with
    | .one (.optr r off) => match get r with
      | some row => ⟨readNeed ti row.cells off, readAt ti row.cells off, [], 0⟩
      | none => bad
    | .one (.gptr cs off) => ⟨readNeed ti cs off, readAt ti cs off, [], 0⟩
    | _ => bad

def sStore (T : Tab) (get : Nat → Option Row) (t : Nat) (p v : SV) : Res :=
  match slot t T.ts with
  | none => bad
  | some ti => match p with
    | .one (.optr r off) => match get r with
      | some row => ⟨v.solid ∧ v.cells.length = ti.size ∧ off + ti.size ≤ row.cells.length ∧ 0 < ti.size, .one .un, [(r, some ⟨putAt row.cells off v.cells, row.esz⟩)], 0⟩
      | none => bad
    | _ => bad

def upds (hp : Nat → Option Row) : List (Nat × Option Row) → (Nat → Option Row)
  | [] => hp
  | (r, x) :: l => upds (upd hp r x) l

def Good (P : Program) (o : Oper) (w0 : Base) (A : Nat → Prop) (N : Nat) (Fr : Nat → Prop) (tm : Nat → Option SV) (hp : Nat → Option Row) (a : Act) (w : World) (n : Nat) (res : Res) : Prop :=
  ∃ v w' m' π', ((execOp a.eval o).run P w = .ok (.value v) w' ∨ ((execOp a.eval o).run P w = .ok .skip w' ∧ v = undef)) ∧
    RelAt P w0 A N (fun r => Fr r ∧ ¬ (n ≤ r ∧ r < n + res.new)) tm (upds hp res.ups) a w' m' π' ∧ VS m' π' res.val v ∧ res.val.cl (fun r => Fr r ∧ ¬ (n ≤ r ∧ r < n + res.new))

section
variable {P : Program} {o : Oper} {w0 : Base} {A : Nat → Prop} {N : Nat} {Fr : Nat → Prop} {tm : Nat → Option SV} {hp : Nat → Option Row} {a : Act} {w : World} {m : Mem} {π : Plc} {n : Nat}

theorem RelAt.frmono {Fr' : Nat → Prop} (h : RelAt P w0 A N Fr tm hp a w m π) (hf : ∀ r, Fr' r → Fr r) : RelAt P w0 A N Fr' tm hp a w m π :=
  { h with tcl := fun k v hk => SV.cl.mono hf (h.tcl k v hk), rcl := fun r row hr c hc => Cell.cl.mono hf (h.rcl r row hr c hc), fresh := fun r hr => h.fresh r (hf r hr), frk := fun r hr => h.frk r (hf r hr) }

theorem good_pure (h : RelAt P w0 A N Fr tm hp a w m π) {v : Value} {s : SV} {need : Prop} (hr : (execOp a.eval o).run P w = .ok (.value v) w) (hv : VS m π s v) (hc : s.cl Fr) :
    Good P o w0 A N Fr tm hp a w n ⟨need, s, [], 0⟩ :=
  ⟨v, w, m, π, .inl hr, h.frmono (fun r hr => hr.1), hv, SV.cl.mono (fun r hr => hr.1) hc⟩

theorem addr_add (b o k : Nat) : (⟨b, o, none⟩ : Addr).add k = ⟨b, o + k, none⟩ := by
  unfold Addr.add
  split
  · rename_i h; subst h; rfl
  · rfl

theorem run_loadVar_agg {t : Nat} {ti : TI} (hT : TIok P t ti) (hk : ti.kind.isAgg = true) (b o : Nat) (vals : List Value) (hl : vals.length = ti.size)
    (hc : ∀ j x, vals[j]? = some x → w.cell? ⟨b, o + j, none⟩ = some x) : (loadVar t ⟨b, o, none⟩).run P w = .ok (.agg vals.toArray) w := by
  have h1 := run_loadCells_list (P := P) w ⟨b, o, none⟩ vals (fun j v hj => by rw [addr_add]; exact hc j v hj)
  simp only [loadVar, Sem.run_bind, hT.isAgg, Result.andThen_ok, hk, ↓reduceIte, hT.size, ← hl, h1, Sem.run_pure]

theorem run_loadVar_one {t : Nat} {ti : TI} (hT : TIok P t ti) (hk : ti.kind.isAgg = false) (ad : Addr) (x : Value)
    (hc : w.cell? ad = some x) : (loadVar t ad).run P w = .ok x w := by
  simp only [loadVar, Sem.run_bind, hT.isAgg, Result.andThen_ok, hk, Bool.false_eq_true, ↓reduceIte, run_load, hc]

theorem read_ok {t : Nat} {ti : TI} (hT : TIok P t ti) (cells : List Cell) (b o off : Nat)
    (hcl : ∀ c ∈ cells, c.cl Fr)
    (hc : ∀ (i : Nat) c, cells[i]? = some c → ∃ x, w.cell? ⟨b, o + i, none⟩ = some x ∧ VC m π c x) (hn : readNeed ti cells off) :
    ∃ v, (loadVar t ⟨b, o + off, none⟩).run P w = .ok v w ∧ VS m π (readAt ti cells off) v ∧ (readAt ti cells off).cl Fr := by
  have hagg : ti.kind.isAgg = true → off + ti.size ≤ cells.length → ∃ v, (loadVar t ⟨b, o + off, none⟩).run P w = .ok v w ∧ VS m π (.agg ((cells.drop off).take ti.size)) v ∧ (SV.agg ((cells.drop off).take ti.size)).cl Fr := by
    intro hk hn
    have hex : ∀ j, j < ti.size → ∃ x, w.cell? ⟨b, o + off + j, none⟩ = some x ∧ ∀ c, cells[off + j]? = some c → VC m π c x := by
      intro j hj
      have hlt : off + j < cells.length := by omega
      obtain ⟨x, h1, h2⟩ := hc (off + j) cells[off + j] (by simp [hlt])
      refine ⟨x, by rw [show o + off + j = o + (off + j) by omega]; exact h1, fun c hc' => ?_⟩
      rw [List.getElem?_eq_getElem hlt] at hc'
      cases hc'
      exact h2
    let f : Nat → Value := fun j => (w.cell? ⟨b, o + off + j, none⟩).getD undef
    have hf : ∀ j, j < ti.size → w.cell? ⟨b, o + off + j, none⟩ = some (f j) ∧ ∀ c, cells[off + j]? = some c → VC m π c (f j) := by
      intro j hj
      obtain ⟨x, h1, h2⟩ := hex j hj
      have : f j = x := by simp [f, h1]
      rw [this]; exact ⟨h1, h2⟩
    refine ⟨_, run_loadVar_agg hT hk b (o + off) ((List.range ti.size).map f) (by simp) ?_, ⟨_, rfl, ?_⟩, ?_⟩
    · intro j x hj
      have hjl : j < ti.size := by
        have := (List.getElem?_eq_some_iff.1 hj).1
        simpa using this
      simp [hjl] at hj
      rw [← hj]; exact (hf j hjl).1
    · refine VL.of (by simp; omega) (fun i c v hi hv => ?_)
      have hil : i < ti.size := by
        have := (List.getElem?_eq_some_iff.1 hi).1
        simp at this; omega
      simp [hil] at hv
      rw [← hv]
      refine (hf i hil).2 c ?_
      rw [List.getElem?_take_of_lt hil, List.getElem?_drop] at hi
      exact hi
    · intro c hc'
      exact hcl c (List.mem_of_mem_drop (List.mem_of_mem_take hc'))
  have hone : ti.kind.isAgg = false → off < cells.length → ∃ v, (loadVar t ⟨b, o + off, none⟩).run P w = .ok v w ∧ VS m π (.one (cells.getD off (.sc (ti.zero.headD (.bool false))))) v ∧ (SV.one (cells.getD off (.sc (ti.zero.headD (.bool false))))).cl Fr := by
    intro hk hn
    obtain ⟨x, h1, h2⟩ := hc off cells[off] (by simp [hn])
    have e : cells.getD off (.sc (ti.zero.headD (.bool false))) = cells[off] := by simp [List.getD, hn]
    rw [e]
    exact ⟨x, run_loadVar_one hT hk _ x h1, h2, hcl _ (List.getElem_mem hn)⟩
  unfold readNeed at hn
  unfold readAt
  cases hk : ti.kind <;> simp only [hk] at hn ⊢ <;> first
    | exact hagg (by simp [hk, TK.isAgg]) hn.1
    | exact hone (by simp [hk, TK.isAgg]) hn

theorem rowcells {r : Nat} {row : Row} {p : Place} (h : RelAt P w0 A N Fr tm hp a w m π) (hr : hp r = some row) (hp' : π r = some (some p)) (hz : p.esz ≠ 0) :
    ∀ (i : Nat) c, row.cells[i]? = some c → ∃ x, w.cell? ⟨p.b, p.o + i, none⟩ = some x ∧ VC m π c x := by
  intro i c hi
  have := h.rows r row hr
  unfold RowOk at this
  rw [hp'] at this
  obtain ⟨_, _, arr, e, g3, _, _, g6⟩ := this
  obtain ⟨x, hx, hv⟩ := g6 i c hi
  exact ⟨x, by rw [cell_of_block (g3.cells hz)]; exact hx, hv⟩

theorem vg_ptr_cells (h : RelAt P w0 A N Fr tm hp a w m π) {cs : List Cell} {b o : Nat} {vals : Nat → Value}
    (hm : ∀ (i : Nat) x, cs[i]? = some x → m ⟨b, o + i, none⟩ = some (vals i)) (hv : ∀ (i : Nat) x, cs[i]? = some x → VG m x (vals i)) :
    (∀ (i : Nat) c, cs[i]? = some c → ∃ x, w.cell? ⟨b, o + i, none⟩ = some x ∧ VC m π c x) ∧ (∀ c ∈ cs, c.cl Fr) := by
  constructor
  · intro i c hi
    refine ⟨vals i, (h.mok _ _ (hm i c hi)).2, ?_⟩
    have := hv i c hi
    cases c <;> first | exact this | cases this
  · intro c hc
    obtain ⟨i, hi, rfl⟩ := List.mem_iff_getElem.1 hc
    have := hv i _ (List.getElem?_eq_getElem hi)
    cases hcs : cs[i] <;> rw [hcs] at this <;> first | trivial | cases this

theorem sLoad_ok (T : Tab) (hT : TOk P T) (h : RelAt P w0 A N Fr tm hp a w m π) {t : Nat} {x : Operand} (ho : o.op = .load t x) {p : SV}
    (hp' : VS m π p (a.eval x)) (hn : (sLoad T hp t p).need) : Good P o w0 A N Fr tm hp a w n (sLoad T hp t p) := by
  have hex : execOp a.eval o = (do pure (.value (← Instr.loadAt t (a.eval x)))) := by unfold execOp; rw [ho]
  unfold sLoad at hn ⊢
  cases hl : slot t T.ts with
  | none => rw [hl] at hn; exact hn.elim
  | some ti =>
    rw [hl] at hn
    have hti := hT t ti hl
    cases p with
    | agg cs => exact hn.elim
    | tup vs => exact hn.elim
    | one c =>
      cases c with
      | sc u => exact hn.elim
      | gsl a b c d => exact hn.elim
      | fn f caps => exact hn.elim
      | un => exact hn.elim
      | osl a b c d => exact hn.elim
      | mp _ _ => exact hn.elim
      | optr r off =>
        simp only at hn ⊢
        cases hr : hp r with
        | none => rw [hr] at hn; exact hn.elim
        | some row =>
          rw [hr] at hn
          simp only at hn ⊢
          have hrow := h.rows r row hr
          unfold RowOk at hrow
          obtain ⟨h1, h2⟩ := hp'
          cases hπ : π r with
          | none => rw [hπ] at hrow; exact hrow.elim
          | some q =>
            cases q with
            | none => rw [hπ] at h2; exact h2.elim
            | some pl =>
              rw [hπ] at h2
              simp only at h2
              obtain ⟨v, hv1, hv2, hv3⟩ := read_ok (P := P) hti row.cells pl.b pl.o off (h.rcl r row hr) (rowcells h hr hπ h2.1) hn
              refine good_pure h (v := v) ?_ hv2 hv3
              rw [hex, h2.2]
              simp only [Instr.loadAt, Instr.sureAddr, Sem.run_bind, Sem.run_pure, Result.andThen_ok, hv1]
      | gptr cs off =>
        simp only at hn ⊢
        generalize hev : a.eval x = u at hp'
        cases hp' with
        | gptr _ _ b o vals hm hv =>
          obtain ⟨g1, g2⟩ := vg_ptr_cells h hm hv
          obtain ⟨v, hv1, hv2, hv3⟩ := read_ok (P := P) hti cs b o off g2 g1 hn
          refine good_pure h (v := v) ?_ hv2 hv3
          rw [hex, hev]
          simp only [Instr.loadAt, Instr.sureAddr, Sem.run_bind, Sem.run_pure, Result.andThen_ok, hv1]

end
end Go.Proofs.YtfkcolodbjonkabDoor.Sh
