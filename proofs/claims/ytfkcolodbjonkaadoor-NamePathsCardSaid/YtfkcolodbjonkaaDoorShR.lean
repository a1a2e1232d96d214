/- Weaker words for a state: what is dropped, renumbered, frozen; a nil slice as a row that holds nothing. -/
import Derived.Test.YtfkcolodbjonkaaDoorShQ
namespace Go.Proofs.YtfkcolodbjonkaaDoor.Sh
open Go.RowKit
set_option linter.unusedVariables false
set_option linter.unusedSimpArgs false

def toN (M : List (Nat × Nat)) (r : Nat) : Option Nat := match M with
  | [] => none
  | (j, q) :: l => if q = r then some j else toN l r
def lk (s : St) (M : List (Nat × Nat)) (k : Nat) : Option SV := match slot k s.tm with
  | some u => some (u.ren (toN M))
  | none => none

theorem toN_mem {r j : Nat} : ∀ {M : List (Nat × Nat)}, toN M r = some j → (j, r) ∈ M
  | [], h => by cases h
  | (j', q) :: l, h => by
    unfold toN at h
    split at h
    · rename_i e; subst e; cases h; simp
    · exact List.mem_cons_of_mem _ (toN_mem h)

theorem toN_of {r j : Nat} : ∀ {M : List (Nat × Nat)}, (M.map (·.2)).Nodup → (j, r) ∈ M → toN M r = some j
  | [], _, h => by simp at h
  | (j', q) :: l, hn, h => by
    simp at hn
    unfold toN
    rcases List.mem_cons.1 h with e | e
    · cases e; simp
    · have : q ≠ r := fun e2 => by subst e2; exact hn.1 j e
      rw [if_neg this]
      exact toN_of (by simpa using hn.2) e

theorem slot_of {r j : Nat} : ∀ {M : List (Nat × Nat)}, (M.map (·.1)).Nodup → (j, r) ∈ M → slot j M = some r
  | [], _, h => by simp at h
  | (j', q) :: l, hn, h => by
    simp at hn
    unfold slot
    rcases List.mem_cons.1 h with e | e
    · cases e; simp
    · have : j' ≠ j := fun e2 => by subst e2; exact hn.1 r e
      rw [if_neg this]
      exact slot_of (by simpa using hn.2) e

theorem lookR_map (M : List (Nat × Nat)) (g : Nat → Option Row) (j : Nat) : lookR j (M.map fun p => (p.1, g p.2)) = match slot j M with
    | some r => g r
    | none => none := by
  induction M with
  | nil => rfl
  | cons p l ih =>
    simp only [List.map_cons, lookR, slot]
    split
    · rfl
    · exact ih

theorem imp_sub (k : Nat) (s t : St) (M : List (Nat × Nat)) (h1 : (M.map (·.1)).Nodup) (h2 : (M.map (·.2)).Nodup) (h3 : ∀ p ∈ M, p.1 < t.nx ∧ (p.1 < k → p.2 = p.1)) (h4 : k ≤ t.nx)
    (h5 : ∀ x ∈ t.tm, lk s M x.1 = some x.2) (h6 : t.hp = M.map fun p => (p.1, renO (toN M) (s.hpF p.2)))
    (h7 : ∀ p ∈ M, ∀ row, s.hpF p.2 = some row → ∀ c ∈ row.cells, ∀ q ∈ c.refs, (toN M q).isSome = true) : Imp k s t := by
  intro w0 A N a w m π hk h
  obtain ⟨πo, hπo⟩ : ∃ πo : Plc, πo = fun j => match slot j M with | some r => π r | none => none := ⟨_, rfl⟩
  have hpo : ∀ j r, (j, r) ∈ M → πo j = π r := fun j r hm => by rw [hπo]; simp only [slot_of h1 hm]
  have hren : ∀ c u, VC m π c u → VC m πo (c.ren (toN M)) u := by
    intro c u hcu
    cases c with
    | osl r off len cap =>
      simp only [Cell.ren]
      cases hi : toN M r with
      | none => trivial
      | some j => exact ⟨hcu.1, by rw [hpo j r (toN_mem hi)]; exact hcu.2⟩
    | optr r off =>
      simp only [Cell.ren]
      cases hi : toN M r with
      | none => trivial
      | some j => exact ⟨hcu.1, by rw [hpo j r (toN_mem hi)]; exact hcu.2⟩
    | mp r kk =>
      simp only [Cell.ren]
      cases hi : toN M r with
      | none => trivial
      | some j => exact ⟨hcu.1, by rw [hpo j r (toN_mem hi)]; exact hcu.2⟩
    | _ => exact hcu
  have hclr : ∀ c : Cell, (c.ren (toN M)).cl (t.nx ≤ ·) := by
    intro c
    cases c with
    | osl r off len cap =>
      simp only [Cell.ren]
      cases hi : toN M r with
      | none => trivial
      | some j => exact Nat.not_le.2 (h3 _ (toN_mem hi)).1
    | optr r off =>
      simp only [Cell.ren]
      cases hi : toN M r with
      | none => trivial
      | some j => exact Nat.not_le.2 (h3 _ (toN_mem hi)).1
    | mp r kk =>
      simp only [Cell.ren]
      cases hi : toN M r with
      | none => trivial
      | some j => exact Nat.not_le.2 (h3 _ (toN_mem hi)).1
    | _ => trivial
  have htm : ∀ q v, t.tmF q = some v → ∃ u, s.tmF q = some u ∧ u.ren (toN M) = v := by
    intro q v hq
    have := h5 (q, v) (slot_mem hq)
    unfold lk at this
    split at this
    · rename_i u hu
      simp only [Option.some.injEq] at this
      exact ⟨u, hu, this⟩
    · cases this
  have hhp : ∀ j, t.hpF j = match slot j M with | some r => renO (toN M) (s.hpF r) | none => none := by
    intro j
    unfold St.hpF
    rw [h6]
    exact lookR_map M (fun r => renO (toN M) (s.hpF r)) j
  have hrow : ∀ j row, t.hpF j = some row → ∃ r row0, (j, r) ∈ M ∧ s.hpF r = some row0 ∧ row = row0.ren (toN M) := by
    intro j row hj
    rw [hhp j] at hj
    split at hj
    · rename_i r hr
      cases hs : s.hpF r with
      | none => rw [hs] at hj; cases hj
      | some row0 =>
        rw [hs] at hj
        simp only [renO, Option.some.injEq] at hj
        exact ⟨r, row0, slot_mem hr, hs, hj.symm⟩
    · cases hj
  refine ⟨m, πo, h.defers, h.size, ?_, ?_, ?_, ?_, ?_, ?_, ?_, ?_, h.mok, ?_, h.new, h.keep, h.mg, h.gnew, ?_, ?_⟩
  · intro q v hq
    obtain ⟨u, hu, rfl⟩ := htm q v hq
    exact vs_map (C := fun _ => True) (fun c u _ hcu => hren c u hcu) (allC_true _) (h.tms q u hu)
  · intro q v hq
    obtain ⟨u, hu, rfl⟩ := htm q v hq
    exact clS_all hclr _
  · intro j row hj
    obtain ⟨r, row0, hm, hs, rfl⟩ := hrow j row hj
    have hro := h.rows r row0 hs
    unfold RowOk at hro ⊢
    rw [hpo j r hm]
    cases hq : π r with
    | none => rw [hq] at hro; exact hro.elim
    | some q =>
      rw [hq] at hro
      cases q with
      | none => simp only at hro ⊢; simp [Row.ren, hro]
      | some p =>
        obtain ⟨g1, g2, arr, ee, g3, g4, g5, g6⟩ := hro
        refine ⟨g1, g2, arr, ee, g3, g4, ⟨fun hz => by simpa [Row.ren] using g5.1 hz, fun hz => by simpa [Row.ren] using g5.2 hz⟩, fun i c hi => ?_⟩
        simp only [Row.ren, List.getElem?_map, Option.map_eq_some_iff] at hi
        obtain ⟨c0, hc0, rfl⟩ := hi
        obtain ⟨x, r1, r2⟩ := g6 i c0 hc0
        exact ⟨x, r1, hren c0 x r2⟩
  · intro j row hj c hc
    obtain ⟨r, row0, hm, hs, rfl⟩ := hrow j row hj
    obtain ⟨c0, hc0, rfl⟩ := List.mem_map.1 hc
    exact hclr c0
  · intro j row hj c hc
    obtain ⟨r, row0, hm, hs, rfl⟩ := hrow j row hj
    obtain ⟨c0, hc0, rfl⟩ := List.mem_map.1 hc
    have hso := h.rsol r row0 hs c0 hc0
    have hin := h7 (j, r) hm row0 hs c0 hc0
    cases c0 with
    | osl r' _ _ _ =>
      obtain ⟨j', hj'⟩ := Option.isSome_iff_exists.1 (hin r' (by simp [Cell.refs]))
      simp only [Cell.ren, hj']; exact fun hh => by cases hh
    | optr r' _ =>
      obtain ⟨j', hj'⟩ := Option.isSome_iff_exists.1 (hin r' (by simp [Cell.refs]))
      simp only [Cell.ren, hj']; exact fun hh => by cases hh
    | mp r' kk =>
      obtain ⟨j', hj'⟩ := Option.isSome_iff_exists.1 (hin r' (by simp [Cell.refs]))
      simp only [Cell.ren, hj']; exact fun hh => by cases hh
    | _ => exact hso
  · intro j hj
    rw [hhp j] at hj
    rw [hπo]
    simp only
    split at hj
    · rename_i r hr
      cases hs : s.hpF r with
      | none => exact h.live r hs
      | some row0 => rw [hs] at hj; cases hj
    · rfl
  · intro j hj
    cases hh : t.hpF j with
    | none => rfl
    | some row =>
      obtain ⟨r, row0, hm, hs, rfl⟩ := hrow j row hh
      have hlt : j < t.nx := (h3 _ hm).1
      have hge : t.nx ≤ j := hj
      omega
  · intro j j' p p' e1 e2 e3
    rw [hπo] at e1 e2
    simp only at e1 e2
    split at e1
    · rename_i r hr
      split at e2
      · rename_i r' hr'
        have := h.inj r r' p p' e1 e2 e3
        subst this
        have z1 := toN_of h2 (slot_mem hr)
        have z2 := toN_of h2 (slot_mem hr')
        rw [z1] at z2; cases z2; rfl
      · cases e2
    · cases e1
  · intro j p ad u e1 hu
    rw [hπo] at e1
    simp only at e1
    split at e1
    · rename_i r hr
      exact h.dis r p ad u e1 hu
    · cases e1
  · intro j hj
    rw [hk] at hj
    rw [hπo]
    simp only
    cases hl : slot j M with
    | none => exact .inr rfl
    | some r =>
      have := (h3 _ (slot_mem hl)).2 hj
      simp only at this
      subst this
      exact h.org r (by rw [hk]; exact hj)
  · intro j hj
    have hge : t.nx ≤ j := hj
    omega

theorem imp_nil (k : Nat) (s : St) (q esz : Nat) (hq : slot q s.tm = some (V (.slice none 0 0))) : Imp k s ⟨(q, .one (.osl s.nx 0 0 none)) :: s.tm, (s.nx, some ⟨[], esz⟩) :: s.hp, s.nx + 1⟩ := by
  intro w0 A N a w m π hk h
  have h1 := h.nilrow s.nx (Nat.le_refl _) esz
  have hsub : ∀ r, s.nx + 1 ≤ r → s.nx ≤ r ∧ r ≠ s.nx := fun r hr => ⟨by omega, by omega⟩
  have h2 := h1.frmono hsub
  refine ⟨m, upd π s.nx (some none), ?_⟩
  have ehp : St.hpF ⟨(q, .one (.osl s.nx 0 0 none)) :: s.tm, (s.nx, some ⟨[], esz⟩) :: s.hp, s.nx + 1⟩ = upd s.hpF s.nx (some ⟨[], esz⟩) := by
    funext r
    simp only [St.hpF, lookR, upd]
    by_cases e : s.nx = r
    · simp [e]
    · simp [e, Ne.symm e]
  rw [ehp]
  refine { h2 with tms := fun j v hj => ?_, tcl := fun j v hj => ?_ }
  · simp only [St.tmF, slot] at hj
    split at hj
    · rename_i e
      subst e
      cases hj
      have hv := (vs_sc (h.tms q _ hq)).1
      rw [hv]
      refine ⟨rfl, ?_⟩
      rw [upd_same]
      exact ⟨rfl, fun k hk => (by cases hk), none, rfl⟩
    · exact h2.tms j v hj
  · simp only [St.tmF, slot] at hj
    split at hj
    · cases hj
      show ¬ _
      simp only; omega
    · exact h2.tcl j v hj

def Cell.frz (r : Nat) (cells : List Cell) : Cell → Cell
  | .osl q off len cap => if q = r then .gsl cells off len cap else .osl q off len cap
  | .optr q off => if q = r then .gptr cells off else .optr q off
  | c => c

mutual
def SV.frz (r : Nat) (cells : List Cell) : SV → SV
  | .one c => .one (c.frz r cells)
  | .agg cs => .agg (cs.map (Cell.frz r cells))
  | .tup vs => .tup (SV.frzL r cells vs)
def SV.frzL (r : Nat) (cells : List Cell) : List SV → List SV
  | [] => []
  | s :: ss => s.frz r cells :: SV.frzL r cells ss
end

theorem vl_frz {m m2 : Mem} {π π2 : Plc} {g : Cell → Cell} {C : Cell → Prop} (hc : ∀ c v, C c → VC m π c v → VC m2 π2 (g c) v) : ∀ {cs : List Cell} {vs : List Value}, (∀ c ∈ cs, C c) → VL m π cs vs → VL m2 π2 (cs.map g) vs
  | [], [], _, _ => trivial
  | c :: cs, v :: vs, h, hv => ⟨hc c v (h c (by simp)) hv.1, vl_frz hc (fun c hx => h c (by simp [hx])) hv.2⟩

mutual
theorem vs_frz {m m2 : Mem} {π π2 : Plc} {r : Nat} {cells : List Cell} {C : Cell → Prop} (hc : ∀ c v, C c → VC m π c v → VC m2 π2 (c.frz r cells) v) : ∀ {s : SV} {v : Value}, s.allC C → VS m π s v → VS m2 π2 (s.frz r cells) v
  | .one c, v, h, hv => hc c v h hv
  | .agg cs, v, h, hv => by
    obtain ⟨arr, e, hl⟩ := hv
    exact ⟨arr, e, vl_frz hc h hl⟩
  | .tup vs, v, h, hv => by
    obtain ⟨arr, e, hl⟩ := hv
    exact ⟨arr, e, vsl_frz hc (ss := vs) h hl⟩
theorem vsl_frz {m m2 : Mem} {π π2 : Plc} {r : Nat} {cells : List Cell} {C : Cell → Prop} (hc : ∀ c v, C c → VC m π c v → VC m2 π2 (c.frz r cells) v) : ∀ {ss : List SV} {vs : List Value}, SV.allCL C ss → VSL m π ss vs → VSL m2 π2 (SV.frzL r cells ss) vs
  | [], [], _, _ => trivial
  | s :: ss, v :: vs, h, hv => ⟨vs_frz hc h.1 hv.1, vsl_frz hc h.2 hv.2⟩
end

def frzTm (r : Nat) (cells : List Cell) : List (Nat × SV) → List (Nat × SV)
  | [] => []
  | (k, v) :: l => (k, v.frz r cells) :: frzTm r cells l

def frzO (r : Nat) (cells : List Cell) : Option Row → Option Row
  | some row => some ⟨row.cells.map (Cell.frz r cells), row.esz⟩
  | none => none

def frzHp (r : Nat) (cells : List Cell) : List (Nat × Option Row) → List (Nat × Option Row)
  | [] => []
  | (k, v) :: l => (k, frzO r cells v) :: frzHp r cells l

theorem slot_frz (r : Nat) (cells : List Cell) (k : Nat) : ∀ l : List (Nat × SV), slot k (frzTm r cells l) = match slot k l with
    | some v => some (v.frz r cells)
    | none => none
  | [] => rfl
  | (j, v) :: l => by
    simp only [frzTm, slot]
    split
    · rfl
    · exact slot_frz r cells k l

theorem lookR_frz (r : Nat) (cells : List Cell) (k : Nat) : ∀ l : List (Nat × Option Row), lookR k (frzHp r cells l) = frzO r cells (lookR k l)
  | [] => rfl
  | (j, v) :: l => by
    simp only [frzHp, lookR]
    split
    · rfl
    · exact lookR_frz r cells k l

mutual
theorem clS_frz {r : Nat} {cells : List Cell} {Fr : Nat → Prop} (h : ∀ c : Cell, c.cl Fr → (c.frz r cells).cl Fr) : ∀ (s : SV), s.cl Fr → (s.frz r cells).cl Fr
  | .one c, hc => h c hc
  | .agg cs, hc => fun c hc2 => by
    obtain ⟨c0, h0, rfl⟩ := List.mem_map.1 hc2
    exact h c0 (hc c0 h0)
  | .tup vs, hc => clL_frz h vs hc
theorem clL_frz {r : Nat} {cells : List Cell} {Fr : Nat → Prop} (h : ∀ c : Cell, c.cl Fr → (c.frz r cells).cl Fr) : ∀ (ss : List SV), SV.clL Fr ss → SV.clL Fr (SV.frzL r cells ss)
  | [], _ => trivial
  | s :: ss, hc => ⟨clS_frz h s hc.1, clL_frz h ss hc.2⟩
end

theorem imp_frz (k : Nat) (s : St) (r : Nat) (row : Row) (hr : s.hpF r = some row) (hg : ∀ c ∈ row.cells, c.isG = true) : Imp k s ⟨frzTm r row.cells s.tm, (r, none) :: frzHp r row.cells s.hp, s.nx⟩ := by
  intro w0 A N a w m π hk h
  have hcell : ∀ c u, VC m π c u → VC (memS m π w [r]) (upd π r none) (c.frz r row.cells) u := by
    intro c u hcu
    cases c with
    | osl q off len cap =>
      simp only [Cell.frz]
      by_cases e : q = r
      · subst e
        rw [if_pos rfl]
        have := prepC_ok h [] [q] (c := .osl q off len cap) (fun x hx _ => by simpa [Cell.refs] using hx) (fun x hx => by simp at hx; subst hx; exact ⟨row, hr, hg⟩) hcu
        simp only [prepC, idx, hr] at this
        exact VG.mono (fun _ _ h => h) this.1
      · rw [if_neg e]
        exact ⟨hcu.1, by rw [upd_ne _ _ _ _ e]; exact hcu.2⟩
    | optr q off =>
      simp only [Cell.frz]
      by_cases e : q = r
      · subst e
        rw [if_pos rfl]
        have := prepC_ok h [] [q] (c := .optr q off) (fun x hx _ => by simpa [Cell.refs] using hx) (fun x hx => by simp at hx; subst hx; exact ⟨row, hr, hg⟩) hcu
        simp only [prepC, idx, hr] at this
        exact VG.mono (fun _ _ h => h) this.1
      · rw [if_neg e]
        exact ⟨hcu.1, by rw [upd_ne _ _ _ _ e]; exact hcu.2⟩
    | un => trivial
    | mp q kk =>
      refine ⟨hcu.1, ?_⟩
      show match upd π r none q with | none => True | some none => False | some (some p) => _
      by_cases e : q = r
      · subst e
        rw [upd_same]
        trivial
      · rw [upd_ne _ _ _ _ e]; exact hcu.2
    | _ => exact VG.mono (memS_le h [r]) hcu
  have hclf : ∀ (Fr : Nat → Prop) (c : Cell), c.cl Fr → (c.frz r row.cells).cl Fr := by
    intro Fr c hc
    cases c with
    | osl q off len cap => simp only [Cell.frz]; split <;> first | trivial | exact hc
    | optr q off => simp only [Cell.frz]; split <;> first | trivial | exact hc
    | _ => trivial
  have ehp : ∀ q, St.hpF ⟨frzTm r row.cells s.tm, (r, none) :: frzHp r row.cells s.hp, s.nx⟩ q = if q = r then none else frzO r row.cells (s.hpF q) := by
    intro q
    simp only [St.hpF, lookR, lookR_frz]
    by_cases e : r = q
    · simp [e]
    · simp [e, Ne.symm e]
  have hrow : ∀ q row1, St.hpF ⟨frzTm r row.cells s.tm, (r, none) :: frzHp r row.cells s.hp, s.nx⟩ q = some row1 → q ≠ r ∧ ∃ row0, s.hpF q = some row0 ∧ row1 = ⟨row0.cells.map (Cell.frz r row.cells), row0.esz⟩ := by
    intro q row1 hq
    rw [ehp q] at hq
    split at hq
    · cases hq
    · rename_i hne
      refine ⟨hne, ?_⟩
      cases hs : s.hpF q with
      | none => rw [hs] at hq; cases hq
      | some row0 => rw [hs] at hq; simp only [frzO, Option.some.injEq] at hq; exact ⟨row0, rfl, hq.symm⟩
  have hro := h.rows r row hr
  refine ⟨memS m π w [r], upd π r none, h.defers, h.size, ?_, ?_, ?_, ?_, ?_, ?_, ?_, ?_, ?_, ?_, h.new, h.keep, ?_, h.gnew, ?_, h.frk⟩
  · intro q v hq
    simp only [St.tmF, slot_frz] at hq
    split at hq
    · rename_i u hu
      cases hq
      exact vs_frz (C := fun _ => True) (fun c u _ hcu => hcell c u hcu) (allC_true _) (h.tms q u hu)
    · cases hq
  · intro q v hq
    simp only [St.tmF, slot_frz] at hq
    split at hq
    · rename_i u hu
      cases hq
      exact clS_frz (hclf _) _ (h.tcl q u hu)
    · cases hq
  · intro q row1 hq
    obtain ⟨hne, row0, hs, rfl⟩ := hrow q row1 hq
    have hro := h.rows q row0 hs
    unfold RowOk at hro ⊢
    rw [upd_ne _ _ _ _ hne]
    cases hq2 : π q with
    | none => rw [hq2] at hro; exact hro.elim
    | some x =>
      rw [hq2] at hro
      cases x with
      | none => simp only at hro ⊢; simp [hro]
      | some p =>
        obtain ⟨g1, g2, arr, ee, g3, g4, g5, g6⟩ := hro
        refine ⟨g1, g2, arr, ee, g3, g4, ⟨fun hz => by simpa using g5.1 hz, fun hz => by simpa using g5.2 hz⟩, fun i c hi => ?_⟩
        simp only [List.getElem?_map, Option.map_eq_some_iff] at hi
        obtain ⟨c0, hc0, rfl⟩ := hi
        obtain ⟨x, r1, r2⟩ := g6 i c0 hc0
        exact ⟨x, r1, hcell c0 x r2⟩
  · intro q row1 hq c hc
    obtain ⟨hne, row0, hs, rfl⟩ := hrow q row1 hq
    obtain ⟨c0, hc0, rfl⟩ := List.mem_map.1 hc
    exact hclf _ c0 (h.rcl q row0 hs c0 hc0)
  · intro q row1 hq c hc
    obtain ⟨hne, row0, hs, rfl⟩ := hrow q row1 hq
    obtain ⟨c0, hc0, rfl⟩ := List.mem_map.1 hc
    have hso := h.rsol q row0 hs c0 hc0
    cases c0 with
    | osl q' _ _ _ => simp only [Cell.frz]; split <;> exact fun hh => by cases hh
    | optr q' _ => simp only [Cell.frz]; split <;> exact fun hh => by cases hh
    | _ => exact hso
  · intro q hq
    rw [ehp q] at hq
    unfold upd
    split
    · rfl
    · rename_i hne
      rw [if_neg hne] at hq
      cases hs : s.hpF q with
      | none => exact h.live q hs
      | some row0 => rw [hs] at hq; cases hq
  · intro q hq
    have := h.fresh q hq
    rw [ehp q, this]
    split <;> rfl
  · intro q q' p p' e1 e2 e3
    unfold upd at e1 e2
    split at e1
    · cases e1
    · split at e2
      · cases e2
      · exact h.inj q q' p p' e1 e2 e3
  · intro ad v hv
    unfold memS at hv
    split at hv
    · rename_i hc
      rw [Bool.and_eq_true] at hc
      exact ⟨by simpa using hc.1, hv⟩
    · exact h.mok ad v hv
  · intro q p ad v e1 hv
    unfold upd at e1
    split at e1
    · cases e1
    · rename_i hne
      unfold memS at hv
      split at hv
      · rename_i hc
        rw [Bool.and_eq_true] at hc
        obtain ⟨r2, hr2, p2, hp2, hb2⟩ := inS_iff.1 hc.2
        simp at hr2
        subst hr2
        intro e
        exact hne (h.inj q r2 p p2 e1 hp2 (by rw [hb2, e]))
      · exact h.dis q p ad v e1 hv
  · intro ad v hv
    unfold memS at hv
    split at hv
    · rename_i hc
      rw [Bool.and_eq_true] at hc
      obtain ⟨r2, hr2, p2, hp2, hb2⟩ := inS_iff.1 hc.2
      simp at hr2
      subst hr2
      unfold RowOk at hro
      rw [hp2] at hro
      exact h.gnew ad (hb2 ▸ hro.1)
    · exact h.mg ad v hv
  · intro q hq
    unfold upd
    split
    · exact .inr rfl
    · exact h.org q hq

end Go.Proofs.YtfkcolodbjonkaaDoor.Sh
