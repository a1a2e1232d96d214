/- What each kind of operation does, told of data: addresses, new memory, stores. -/
import Derived.Test.YtfkcolodbjonkabDoorShC
namespace Go.Proofs.YtfkcolodbjonkabDoor.Sh
open Go.RowKit
set_option linter.unusedVariables false
set_option linter.unusedSimpArgs false

def live (get : Nat → Option Row) (r : Nat) : Prop := (get r).isSome = true

def sIndexAddr (T : Tab) (get : Nat → Option Row) (t : Nat) (x i : SV) : Res :=
  match slot t T.ts, i with
  | some ti, .one (.sc (.int k n)) =>
    (match ti.kind with
    | .slice e =>
      (match slot e T.ts with
      | none => bad
      | some te =>
        (match x with
        | .one (.osl r off len cap) => ⟨0 ≤ n ∧ n < (len : Int) ∧ live get r, .one (.optr r (off + n.toNat * te.size)), [], 0⟩
        | .one (.gsl cs off len cap) => ⟨0 ≤ n ∧ n < (len : Int), .one (.gptr cs (off + n.toNat * te.size)), [], 0⟩
        | _ => bad))
    | .array cnt e =>
      (match slot e T.ts with
      | none => bad
      | some te =>
        (match x with
        | .one (.optr r off) => ⟨0 ≤ n ∧ n < (cnt : Int) ∧ live get r, .one (.optr r (off + n.toNat * te.size)), [], 0⟩
        | .one (.gptr cs off) => ⟨0 ≤ n ∧ n < (cnt : Int), .one (.gptr cs (off + n.toNat * te.size)), [], 0⟩
        | _ => bad))
    | _ => bad)
  | _, _ => bad

def sFieldAddr (T : Tab) (get : Nat → Option Row) (t : Nat) (x : SV) (f : Nat) : Res :=
  match slot t T.ts with
  | none => bad
  | some ti =>
    (match ti.kind with
    | .struct fs =>
      (match fs[f]? with
      | none => bad
      | some (fo, ft) =>
        (match slot ft T.ts with
        | none => bad
        | some te =>
          (match x with
          | .one (.optr r off) => ⟨te.size ≠ 0 ∧ live get r, .one (.optr r (off + fo)), [], 0⟩
          | .one (.gptr cs off) => ⟨te.size ≠ 0, .one (.gptr cs (off + fo)), [], 0⟩
          | _ => bad)))
    | _ => bad)

def sNil (get : Nat → Option Row) (x : SV) : Res :=
  match x with
  | .one (.optr r off) => ⟨live get r, .one (.optr r off), [], 0⟩
  | .one (.gptr cs off) => ⟨True, .one (.gptr cs off), [], 0⟩
  | .one (.fn f caps) => ⟨True, .one (.fn f caps), [], 0⟩
  | _ => bad

def sAlloc (T : Tab) (t n : Nat) : Res :=
  match slot t T.ts with
  | none => bad
  | some ti => ⟨0 < ti.size, .one (.optr n 0), [(n, some ⟨ti.zero.map .sc, ti.size⟩)], 1⟩

def sBox (x : SV) (n : Nat) : Res := ⟨x.solid ∧ 0 < x.cells.length, .one (.optr n 0), [(n, some ⟨x.cells, x.cells.length⟩)], 1⟩

section
variable {P : Program} {o : Oper} {w0 : Base} {A : Nat → Prop} {N : Nat} {Fr : Nat → Prop} {tm : Nat → Option SV} {hp : Nat → Option Row} {a : Act} {w : World} {m : Mem} {π : Plc} {n : Nat}

theorem live_row (h : RelAt P w0 A N Fr tm hp a w m π) {r : Nat} (hl : live hp r) : ∃ row q, hp r = some row ∧ π r = some q ∧ (q = none → row.cells = []) := by
  unfold live at hl
  obtain ⟨row, hr⟩ := Option.isSome_iff_exists.1 hl
  have := h.rows r row hr
  unfold RowOk at this
  cases hq : π r with
  | none => rw [hq] at this; exact this.elim
  | some q =>
    refine ⟨row, q, hr, rfl, fun e => ?_⟩
    subst e
    rw [hq] at this
    exact this

theorem sNil_ok (h : RelAt P w0 A N Fr tm hp a w m π) {x : Operand} (ho : o.op = .nilCheck x) {p : SV}
    (hp' : VS m π p (a.eval x)) (hcl : p.cl Fr) (hn : (sNil hp p).need) : Good P o w0 A N Fr tm hp a w n (sNil hp p) := by
  unfold sNil at hn ⊢
  cases p with
  | agg cs => exact hn.elim
  | tup vs => exact hn.elim
  | one c =>
    cases c with
    | sc u => exact hn.elim
    | gsl a b c d => exact hn.elim
    | un => exact hn.elim
    | mp _ _ => exact hn.elim
    | osl a b c d => exact hn.elim
    | fn f caps =>
      simp only at hn ⊢
      refine good_pure h (v := a.eval x) ?_ hp' hcl
      generalize hev : a.eval x = u at hp'
      cases hp' with
      | fn _ _ vals hl hv =>
        unfold execOp
        simp [ho, hev]
    | gptr cs off =>
      simp only at hn ⊢
      refine good_pure h (v := a.eval x) ?_ hp' hcl
      generalize hev : a.eval x = u at hp'
      cases hp' with
      | gptr _ _ b o vals hm hv =>
        unfold execOp
        simp [ho, hev]
    | optr r off =>
      simp only at hn ⊢
      obtain ⟨row, q, hr, hq, hq2⟩ := live_row h hn
      obtain ⟨h1, h2⟩ := hp'
      rw [hq] at h2
      cases q with
      | none => exact h2.elim
      | some pl =>
        simp only at h2
        refine good_pure h (v := a.eval x) ?_ ⟨h1, by rw [hq]; exact h2⟩ hcl
        unfold execOp
        simp [ho, h2.2]

theorem sFieldAddr_ok (T : Tab) (hT : TOk P T) (h : RelAt P w0 A N Fr tm hp a w m π) {t : Nat} {x : Operand} {f : Nat} (ho : o.op = .fieldAddr t x f) {p : SV}
    (hp' : VS m π p (a.eval x)) (hcl : p.cl Fr) (hn : (sFieldAddr T hp t p f).need) : Good P o w0 A N Fr tm hp a w n (sFieldAddr T hp t p f) := by
  have hex : execOp a.eval o = (do pure (.value (← Instr.fieldAt t (a.eval x) f))) := by unfold execOp; rw [ho]
  unfold sFieldAddr at hn ⊢
  cases hl : slot t T.ts with
  | none => rw [hl] at hn; exact hn.elim
  | some ti =>
    rw [hl] at hn
    simp only at hn ⊢
    have hti := hT t ti hl
    cases hk : ti.kind with
    | struct fs =>
      rw [hk] at hn
      simp only at hn ⊢
      cases hfs : fs[f]? with
      | none => rw [hfs] at hn; exact hn.elim
      | some fo =>
        obtain ⟨fo, ft⟩ := fo
        rw [hfs] at hn
        simp only at hn ⊢
        cases hl2 : slot ft T.ts with
        | none => rw [hl2] at hn; exact hn.elim
        | some te =>
          rw [hl2] at hn
          simp only at hn ⊢
          have hte := hT ft te hl2
          obtain ⟨fl, hu, hfl⟩ := hti.struct hk
          have hfld : ∃ fd, fl[f]? = some fd ∧ fd.offset = fo ∧ fd.type = ft := by
            rw [← hfl, List.getElem?_map] at hfs
            simp only [Array.getElem?_toList] at hfs
            cases hq : fl[f]? with
            | none => rw [hq] at hfs; simp at hfs
            | some fd => rw [hq] at hfs; simp at hfs; exact ⟨fd, rfl, hfs.1, hfs.2⟩
          obtain ⟨fd, hfd, rfl, rfl⟩ := hfld
          have hrun : ∀ b oo, te.size ≠ 0 → (Instr.fieldAt t (.pointer (some ⟨b, oo, none⟩)) f).run P w = .ok (.pointer (some ⟨b, oo + fd.offset, none⟩)) w := by
            intro b oo hne
            simp [Instr.fieldAt, underlying, hu, hfd, Instr.sureAddr, fieldPlace, hte.size, hne, addr_add]
          cases p with
          | agg cs => exact hn.elim
          | tup vs => exact hn.elim
          | one c =>
            cases c with
            | sc u => exact hn.elim
            | gsl a b c d => exact hn.elim
            | un => exact hn.elim
            | mp _ _ => exact hn.elim
            | osl a b c d => exact hn.elim
            | fn f caps => exact hn.elim
            | gptr cs off =>
              simp only at hn ⊢
              generalize hev : a.eval x = u at hp'
              cases hp' with
              | gptr _ _ b o vals hm hv =>
                refine good_pure h (v := .pointer (some ⟨b, o + (off + fd.offset), none⟩)) ?_ (VG.gptr cs (off + fd.offset) b o vals hm hv) trivial
                rw [hex, hev]
                simp [hrun b (o + off) hn, Nat.add_assoc]
            | optr r off =>
              simp only at hn ⊢
              obtain ⟨row, q, hr, hq, hq2⟩ := live_row h hn.2
              obtain ⟨h1, h2⟩ := hp'
              rw [hq] at h2
              cases q with
              | none => exact h2.elim
              | some pl =>
                simp only at h2
                refine good_pure h (v := .pointer (some ⟨pl.b, pl.o + (off + fd.offset), none⟩)) ?_ ⟨rfl, by rw [hq]; exact ⟨h2.1, rfl⟩⟩ hcl
                rw [hex, h2.2]
                simp [hrun pl.b (pl.o + off) hn.1, Nat.add_assoc]
    | _ => rw [hk] at hn; exact hn.elim

theorem sIndexAddr_ok (T : Tab) (hT : TOk P T) (h : RelAt P w0 A N Fr tm hp a w m π) {t : Nat} {x i : Operand} (ho : o.op = .indexAddr t x i) {p q : SV}
    (hp' : VS m π p (a.eval x)) (hq' : VS m π q (a.eval i)) (hcl : p.cl Fr) (hn : (sIndexAddr T hp t p q).need) : Good P o w0 A N Fr tm hp a w n (sIndexAddr T hp t p q) := by
  have hex : execOp a.eval o = (do pure (.value (← Instr.indexAt t (a.eval x) (a.eval i)))) := by unfold execOp; rw [ho]
  unfold sIndexAddr at hn ⊢
  cases hl : slot t T.ts with
  | none => rw [hl] at hn; exact hn.elim
  | some ti =>
    rw [hl] at hn
    have hti := hT t ti hl
    cases q with
    | agg cs => exact hn.elim
    | tup vs => exact hn.elim
    | one c =>
    cases c with
    | gsl _ _ _ _ => exact hn.elim
    | un => exact hn.elim
    | mp _ _ => exact hn.elim
    | osl _ _ _ _ => exact hn.elim
    | fn _ _ => exact hn.elim
    | gptr _ _ => exact hn.elim
    | optr _ _ => exact hn.elim
    | sc u =>
    have hei : a.eval i = u := by generalize a.eval i = z at hq'; cases hq'; rfl
    cases u with
    | int k k0 =>
      simp only at hn ⊢
      cases hk : ti.kind with
      | slice e =>
        rw [hk] at hn
        simp only at hn ⊢
        cases hl2 : slot e T.ts with
        | none => rw [hl2] at hn; exact hn.elim
        | some te =>
          rw [hl2] at hn
          simp only at hn ⊢
          have hte := hT e te hl2
          have hu := hti.slice hk
          have hrun : ∀ ad len c, 0 ≤ k0 → k0 < (len : Nat) → (Instr.indexAt t (.slice (some ad) len c) (.int k k0)).run P w = .ok (.pointer (some (ad.add (k0.toNat * te.size)))) w := by
            intro ad len c h0 h1
            simp [Instr.indexAt, asIntOf, underlying, hu, h0, h1, hte.size]
          cases p with
          | agg cs => exact hn.elim
          | tup vs => exact hn.elim
          | one c =>
            cases c with
            | sc u => exact hn.elim
            | optr _ _ => exact hn.elim
            | un => exact hn.elim
            | mp _ _ => exact hn.elim
            | gptr _ _ => exact hn.elim
            | fn f caps => exact hn.elim
            | gsl cs off len cap =>
              simp only at hn ⊢
              generalize hev : a.eval x = u at hp'
              cases hp' with
              | gnil _ _ _ hc => omega
              | gsl _ _ _ _ b o c ad vals hc hlc hm hv ha =>
                obtain ⟨h0, h1⟩ := hn
                have had : ad = ⟨b, o + off, none⟩ := ha.resolve_right (by omega)
                subst had
                refine good_pure h (v := .pointer (some ⟨b, o + (off + k0.toNat * te.size), none⟩)) ?_ (VG.gptr cs _ b o vals hm hv) trivial
                rw [hex, hev, hei]
                simp [hrun _ len c h0 h1, addr_add, Nat.add_assoc]
            | osl r off len cap =>
              simp only at hn ⊢
              obtain ⟨h0, h1, hlv⟩ := hn
              obtain ⟨row, q, hr, hq, hq2⟩ := live_row h hlv
              obtain ⟨g1, g2⟩ := hp'
              rw [hq] at g2
              cases q with
              | none => simp only at g2; omega
              | some pl =>
                simp only at g2
                obtain ⟨gz, ad, c, hv, hlc, hc, hor⟩ := g2
                have had : ad = ⟨pl.b, pl.o + off, none⟩ := by
                  rcases hor with ⟨e1, _⟩ | ⟨e1, _⟩
                  · omega
                  · exact e1
                subst had
                refine good_pure h (v := .pointer (some ⟨pl.b, pl.o + (off + k0.toNat * te.size), none⟩)) ?_ ⟨rfl, by rw [hq]; exact ⟨gz, rfl⟩⟩ hcl
                rw [hex, hv, hei]
                simp [hrun _ len c h0 h1, addr_add, Nat.add_assoc]
      | array cnt e =>
        rw [hk] at hn
        simp only at hn ⊢
        cases hl2 : slot e T.ts with
        | none => rw [hl2] at hn; exact hn.elim
        | some te =>
          rw [hl2] at hn
          simp only at hn ⊢
          have hte := hT e te hl2
          have hu := hti.array hk
          have hrun : ∀ ad, 0 ≤ k0 → k0 < (cnt : Nat) → (Instr.indexAt t (.pointer (some ad)) (.int k k0)).run P w = .ok (.pointer (some (ad.add (k0.toNat * te.size)))) w := by
            intro ad h0 h1
            simp [Instr.indexAt, asIntOf, underlying, hu, h0, h1, hte.size, Instr.sureAddr]
          cases p with
          | agg cs => exact hn.elim
          | tup vs => exact hn.elim
          | one c =>
            cases c with
            | sc u => exact hn.elim
            | gsl a b c d => exact hn.elim
            | un => exact hn.elim
            | mp _ _ => exact hn.elim
            | osl a b c d => exact hn.elim
            | fn f caps => exact hn.elim
            | gptr cs off =>
              simp only at hn ⊢
              generalize hev : a.eval x = u at hp'
              cases hp' with
              | gptr _ _ b o vals hm hv =>
                refine good_pure h (v := .pointer (some ⟨b, o + (off + k0.toNat * te.size), none⟩)) ?_ (VG.gptr cs _ b o vals hm hv) trivial
                rw [hex, hev, hei]
                simp [hrun _ hn.1 hn.2, addr_add, Nat.add_assoc]
            | optr r off =>
              simp only at hn ⊢
              obtain ⟨h0, h1, hlv⟩ := hn
              obtain ⟨row, q, hr, hq, hq2⟩ := live_row h hlv
              obtain ⟨g1, g2⟩ := hp'
              rw [hq] at g2
              cases q with
              | none => exact g2.elim
              | some pl =>
                simp only at g2
                refine good_pure h (v := .pointer (some ⟨pl.b, pl.o + (off + k0.toNat * te.size), none⟩)) ?_ ⟨rfl, by rw [hq]; exact ⟨g2.1, rfl⟩⟩ hcl
                rw [hex, g2.2, hei]
                simp [hrun _ h0 h1, addr_add, Nat.add_assoc]
      | _ => rw [hk] at hn; exact hn.elim
    | _ => exact hn.elim

theorem good_alloc (h : RelAt P w0 A N Fr tm hp a w m π) (hn : Fr n) {arr : Array Value} {e : TypeId} {row : Row} {need : Prop} {v : Value} {s : SV}
    (hr : (execOp a.eval o).run P w = .ok (.value v) (w.alloc (.cells arr e))) (hz : row.esz ≠ 0)
    (hl : row.cells.length ≤ arr.size) (hc : ∀ (i : Nat) c, row.cells[i]? = some c → ∃ x, arr[i]? = some x ∧ VC m π c x) (hcl : ∀ c ∈ row.cells, c.cl Fr) (hso : ∀ c ∈ row.cells, c ≠ .un)
    (hv : VS m (upd π n (some (some ⟨w.heap.size, 0, arr.size, row.esz⟩))) s v) (hs : s.cl (fun r => Fr r ∧ r ≠ n)) :
    Good P o w0 A N Fr tm hp a w n ⟨need, s, [(n, some row)], 1⟩ := by
  refine ⟨v, _, m, _, .inl hr, (h.alloc n hn row hz arr e hl hc hcl hso).frmono (fun r hr => ⟨hr.1, fun e => hr.2 (by simp only; omega)⟩), hv, SV.cl.mono (fun r hr => ⟨hr.1, fun e => hr.2 (by simp only; omega)⟩) hs⟩

theorem zero_cells (π : Plc) (zs : List Value) (h1 : ∀ x ∈ zs, x.oneCell' = true) : ∀ (i : Nat) c, (zs.map Cell.sc)[i]? = some c → ∃ x, zs[i]? = some x ∧ VC m π c x := by
  intro i c hi
  rw [List.getElem?_map] at hi
  cases hz : zs[i]? with
  | none => rw [hz] at hi; cases hi
  | some x =>
    rw [hz] at hi
    cases hi
    exact ⟨x, rfl, VG.sc x (h1 x (List.mem_of_getElem? hz))⟩

theorem cl_sc (zs : List Value) : ∀ c ∈ zs.map Cell.sc, c.cl Fr := by
  intro c hc
  obtain ⟨x, _, rfl⟩ := List.mem_map.1 hc
  trivial

theorem un_sc (zs : List Value) : ∀ c ∈ zs.map Cell.sc, c ≠ .un := by
  intro c hc
  obtain ⟨x, _, rfl⟩ := List.mem_map.1 hc
  exact fun h => by cases h

theorem cells_un {s : SV} (hs : s.solid) : ∀ c ∈ s.cells, c ≠ .un := by
  cases s with
  | one c => intro d hd; simp [SV.cells] at hd; subst hd; exact hs
  | agg cs => exact hs
  | tup vs => exact hs.elim

theorem sAlloc_ok (T : Tab) (hT : TOk P T) (h : RelAt P w0 A N Fr tm hp a w m π) (hf : Fr n) {t : Nat} (ho : o.op = .alloc t)
    (hn : (sAlloc T t n).need) : Good P o w0 A N Fr tm hp a w n (sAlloc T t n) := by
  have hex : execOp a.eval o = (do pure (.value (← Instr.alloc t true (.tuple #[])))) := by unfold execOp; rw [ho]
  unfold sAlloc at hn ⊢
  cases hl : slot t T.ts with
  | none => rw [hl] at hn; exact hn.elim
  | some ti =>
    rw [hl] at hn
    simp only at hn ⊢
    have hti := hT t ti hl
    obtain ⟨i, d, z, g1, g2, g3, g4, g5, g6, g7, g8, g9⟩ := hti.ex
    have hz : (zeroValue t).run P w = .ok z w := by simp [zeroValue, typeInfo, g1, g6]
    refine good_alloc h hf (arr := z.cells) (e := t) (v := .pointer (some ⟨w.heap.size, 0, none⟩)) ?_ (Nat.ne_of_gt hn) ?_ ?_ ?_ ?_ ?_ ?_
    · rw [hex]
      simp only [Instr.alloc, newVar, newRow, Sem.run_bind, hz, Result.andThen_ok, run_newObj, Sem.run_pure]
      rfl
    · simp [← g7]
    · intro i c hi
      have := zero_cells (m := m) π ti.zero g9 i c hi
      rw [← g7] at this
      simpa using this
    · exact cl_sc _
    · exact un_sc _
    · refine ⟨rfl, ?_⟩
      rw [upd_same]
      exact ⟨Nat.ne_of_gt hn, rfl⟩
    · exact fun hq => hq.2 rfl

theorem sBox_ok (h : RelAt P w0 A N Fr tm hp a w m π) (hf : Fr n) {t : Nat} {x : Operand} (ho : o.op = .box t x) {p : SV} (hp' : VS m π p (a.eval x)) (hcl : p.cl Fr)
    (hn : (sBox p n).need) : Good P o w0 A N Fr tm hp a w n (sBox p n) := by
  have hex : execOp a.eval o = (do pure (.value (← Instr.box t (a.eval x)))) := by unfold execOp; rw [ho]
  unfold sBox at hn ⊢
  obtain ⟨h1, h2⟩ := VS.cells hp' hn.1
  refine good_alloc h hf (arr := (a.eval x).cells) (e := t) (v := .pointer (some ⟨w.heap.size, 0, none⟩)) ?_ (Nat.ne_of_gt hn.2) ?_ ?_ ?_ ?_ ?_ ?_
  · rw [hex]
    simp only [Instr.box, newVar, newRow, Sem.run_bind, Result.andThen_ok, run_newObj, Sem.run_pure]
    rfl
  · have := h1.length
    simp at this
    show p.cells.length ≤ _
    omega
  · intro i c hi
    obtain ⟨v, hv1, hv2⟩ := h1.get i c hi
    exact ⟨v, by simpa using hv1, hv2⟩
  · show ∀ c ∈ p.cells, c.cl Fr
    cases p with
    | one c => intro d hd; simp [SV.cells] at hd; subst hd; exact hcl
    | agg cs => exact hcl
    | tup vs => exact hn.1.elim
  · exact cells_un hn.1
  · refine ⟨rfl, ?_⟩
    rw [upd_same]
    exact ⟨Nat.ne_of_gt hn.2, rfl⟩
  · exact fun hq => hq.2 rfl

theorem cells_cl {s : SV} (hs : s.solid) (hcl : s.cl Fr) : ∀ c ∈ s.cells, c.cl Fr := by
  cases s with
  | one c => intro d hd; simp [SV.cells] at hd; subst hd; exact hcl
  | agg cs => exact hcl
  | tup vs => exact hs.elim

theorem sStore_ok (T : Tab) (hT : TOk P T) (h : RelAt P w0 A N Fr tm hp a w m π) {t : Nat} {x y : Operand} (ho : o.op = .store t x y) {p s : SV}
    (hp' : VS m π p (a.eval x)) (hs' : VS m π s (a.eval y)) (hcl : s.cl Fr) (hn : (sStore T hp t p s).need) : Good P o w0 A N Fr tm hp a w n (sStore T hp t p s) := by
  have hex : execOp a.eval o = (do Instr.storeAt t (a.eval x) (a.eval y); pure .skip) := by unfold execOp; rw [ho]
  unfold sStore at hn ⊢
  cases hl : slot t T.ts with
  | none => rw [hl] at hn; exact hn.elim
  | some ti =>
    rw [hl] at hn
    have hti := hT t ti hl
    cases p with
    | agg cs => exact hn.elim
    | tup vs => exact hn.elim
    | one c =>
      cases c with
      | sc u => exact hn.elim
      | gsl a b c d => exact hn.elim
      | fn f caps => exact hn.elim
      | un => exact hn.elim
      | mp _ _ => exact hn.elim
      | osl a b c d => exact hn.elim
      | gptr _ _ => exact hn.elim
      | optr r off =>
        simp only at hn ⊢
        cases hr : hp r with
        | none => rw [hr] at hn; exact hn.elim
        | some row =>
          rw [hr] at hn
          simp only at hn ⊢
          obtain ⟨n1, n2, n3, n4⟩ := hn
          obtain ⟨h1, h2⟩ := hp'
          cases hπ : π r with
          | none => have := h.rows r row hr; unfold RowOk at this; rw [hπ] at this; exact this.elim
          | some q =>
            rw [hπ] at h2
            cases q with
            | none => exact h2.elim
            | some pl =>
              simp only at h2
              obtain ⟨g1, g2⟩ := VS.cells hs' n1
              obtain ⟨w', k1, k2⟩ := h.store P hr hπ h2.1 off s.cells _ g1 g2 (cells_cl n1 hcl) (cells_un n1) (by omega)
              refine ⟨undef, w', m, π, .inr ⟨?_, rfl⟩, k2.frmono (fun r hr => hr.1), trivial, trivial⟩
              have hsz : (a.eval y).cells.size = ti.size := by have := g1.length; simp at this; omega
              rw [hex, h2.2]
              simp [Instr.storeAt, Instr.sureAddr, storeVar, hti.size, hsz, k1]

end
end Go.Proofs.YtfkcolodbjonkabDoor.Sh
