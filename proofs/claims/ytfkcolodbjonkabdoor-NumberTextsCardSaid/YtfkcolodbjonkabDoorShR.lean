/- Weaker words for a state: what is dropped, renumbered, frozen; a nil slice as a row that holds nothing. -/
import Derived.Test.YtfkcolodbjonkabDoorShQ
namespace Go.Proofs.YtfkcolodbjonkabDoor.Sh
open Go.RowKit
set_option linter.unusedVariables false
set_option linter.unusedSimpArgs false

def toN (M : List (Nat × Nat)) (r : Nat) : Option Nat := match M with
  | [] => none
  | (j, q) :: l => if q = r then some j else toN l r
def lk (s : St) (M : List (Nat × Nat)) (k : Nat) : Option SV := match slot k s.tm with
  | some u => some (u.ren (toN M))
  | none => none

theorem toN_mem {r j : Nat} : ∀ {M : List (Nat × Nat)}, toN M r = some j → (j, r) ∈ M
  | [], h => by cases h
  | (j', q) :: l, h => by
    unfold toN at h
    split at h
    · rename_i e; subst e; cases h; simp
    · exact List.mem_cons_of_mem _ (toN_mem h)

theorem toN_of {r j : Nat} : ∀ {M : List (Nat × Nat)}, (M.map (·.2)).Nodup → (j, r) ∈ M → toN M r = some j
  | [], _, h => by simp at h
  | (j', q) :: l, hn, h => by
    simp at hn
    unfold toN
    rcases List.mem_cons.1 h with e | e
    · cases e; simp
    · have : q ≠ r := fun e2 => by subst e2; exact hn.1 j e
      rw [if_neg this]
      exact toN_of (by simpa using hn.2) e

theorem slot_of {r j : Nat} : ∀ {M : List (Nat × Nat)}, (M.map (·.1)).Nodup → (j, r) ∈ M → slot j M = some r
  | [], _, h => by simp at h
  | (j', q) :: l, hn, h => by
    simp at hn
    unfold slot
    rcases List.mem_cons.1 h with e | e
    · cases e; simp
    · have : j' ≠ j := fun e2 => by subst e2; exact hn.1 r e
      rw [if_neg this]
      exact slot_of (by simpa using hn.2) e

theorem lookR_map (M : List (Nat × Nat)) (g : Nat → Option Row) (j : Nat) : lookR j (M.map fun p => (p.1, g p.2)) = match slot j M with
    | some r => g r
    | none => none := by
  induction M with
  | nil => rfl
  | cons p l ih =>
    simp only [List.map_cons, lookR, slot]
    split
    · rfl
    · exact ih

theorem imp_sub (k : Nat) (s t : St) (M : List (Nat × Nat)) (h1 : (M.map (·.1)).Nodup) (h2 : (M.map (·.2)).Nodup) (h3 : ∀ p ∈ M, p.1 < t.nx ∧ (p.1 < k → p.2 = p.1)) (h4 : k ≤ t.nx)
    (h5 : ∀ x ∈ t.tm, lk s M x.1 = some x.2) (h6 : t.hp = M.map fun p => (p.1, renO (toN M) (s.hpF p.2)))
    (h7 : ∀ p ∈ M, ∀ row, s.hpF p.2 = some row → ∀ c ∈ row.cells, ∀ q ∈ c.refs, (toN M q).isSome = true) : Imp k s t := by
  intro P w0 A N a w m π hk h
  obtain ⟨πo, hπo⟩ : ∃ πo : Plc, πo = fun j => match slot j M with | some r => π r | none => none := ⟨_, rfl⟩
  have hpo : ∀ j r, (j, r) ∈ M → πo j = π r := fun j r hm => by rw [hπo]; simp only [slot_of h1 hm]
  have hren : ∀ c u, VC m π c u → VC m πo (c.ren (toN M)) u := by
    intro c u hcu
    cases c with
    | osl r off len cap =>
      simp only [Cell.ren]
      cases hi : toN M r with
      | none => trivial
      | some j => exact ⟨hcu.1, by rw [hpo j r (toN_mem hi)]; exact hcu.2⟩
    | optr r off =>
      simp only [Cell.ren]
      cases hi : toN M r with
      | none => trivial
      | some j => exact ⟨hcu.1, by rw [hpo j r (toN_mem hi)]; exact hcu.2⟩
    | mp r kk =>
      simp only [Cell.ren]
      cases hi : toN M r with
      | none => trivial
      | some j => exact ⟨hcu.1, by rw [hpo j r (toN_mem hi)]; exact hcu.2⟩
    | _ => exact hcu
  have hclr : ∀ c : Cell, (c.ren (toN M)).cl (t.nx ≤ ·) := by
    intro c
    cases c with
    | osl r off len cap =>
      simp only [Cell.ren]
      cases hi : toN M r with
      | none => trivial
      | some j => exact Nat.not_le.2 (h3 _ (toN_mem hi)).1
    | optr r off =>
      simp only [Cell.ren]
      cases hi : toN M r with
      | none => trivial
      | some j => exact Nat.not_le.2 (h3 _ (toN_mem hi)).1
    | mp r kk =>
      simp only [Cell.ren]
      cases hi : toN M r with
      | none => trivial
      | some j => exact Nat.not_le.2 (h3 _ (toN_mem hi)).1
    | _ => trivial
  have htm : ∀ q v, t.tmF q = some v → ∃ u, s.tmF q = some u ∧ u.ren (toN M) = v := by
    intro q v hq
    have := h5 (q, v) (slot_mem hq)
    unfold lk at this
    split at this
    · rename_i u hu
      simp only [Option.some.injEq] at this
      exact ⟨u, hu, this⟩
    · cases this
  have hhp : ∀ j, t.hpF j = match slot j M with | some r => renO (toN M) (s.hpF r) | none => none := by
    intro j
    unfold St.hpF
    rw [h6]
    exact lookR_map M (fun r => renO (toN M) (s.hpF r)) j
  have hrow : ∀ j row, t.hpF j = some row → ∃ r row0, (j, r) ∈ M ∧ s.hpF r = some row0 ∧ row = row0.ren (toN M) := by
    intro j row hj
    rw [hhp j] at hj
    split at hj
    · rename_i r hr
      cases hs : s.hpF r with
      | none => rw [hs] at hj; cases hj
      | some row0 =>
        rw [hs] at hj
        simp only [renO, Option.some.injEq] at hj
        exact ⟨r, row0, slot_mem hr, hs, hj.symm⟩
    · cases hj
  refine ⟨m, πo, h.defers, h.size, ?_, ?_, ?_, ?_, ?_, ?_, ?_, ?_, h.mok, ?_, h.new, h.keep, h.mg, h.gnew, ?_, ?_, h.gl⟩
  · intro q v hq
    obtain ⟨u, hu, rfl⟩ := htm q v hq
    exact vs_map (C := fun _ => True) (fun c u _ hcu => hren c u hcu) (allC_true _) (h.tms q u hu)
  · intro q v hq
    obtain ⟨u, hu, rfl⟩ := htm q v hq
    exact clS_all hclr _
  · intro j row hj
    obtain ⟨r, row0, hm, hs, rfl⟩ := hrow j row hj
    have hro := h.rows r row0 hs
    unfold RowOk at hro ⊢
    rw [hpo j r hm]
    cases hq : π r with
    | none => rw [hq] at hro; exact hro.elim
    | some q =>
      rw [hq] at hro
      cases q with
      | none => simp only at hro ⊢; simp [Row.ren, hro]
      | some p =>
        obtain ⟨g1, g2, arr, ee, g3, g4, g5, g6⟩ := hro
        refine ⟨g1, g2, arr, ee, g3, g4, ⟨fun hz => by simpa [Row.ren] using g5.1 hz, fun hz => by simpa [Row.ren] using g5.2 hz⟩, fun i c hi => ?_⟩
        simp only [Row.ren, List.getElem?_map, Option.map_eq_some_iff] at hi
        obtain ⟨c0, hc0, rfl⟩ := hi
        obtain ⟨x, r1, r2⟩ := g6 i c0 hc0
        exact ⟨x, r1, hren c0 x r2⟩
  · intro j row hj c hc
    obtain ⟨r, row0, hm, hs, rfl⟩ := hrow j row hj
    obtain ⟨c0, hc0, rfl⟩ := List.mem_map.1 hc
    exact hclr c0
  · intro j row hj c hc
    obtain ⟨r, row0, hm, hs, rfl⟩ := hrow j row hj
    obtain ⟨c0, hc0, rfl⟩ := List.mem_map.1 hc
    have hso := h.rsol r row0 hs c0 hc0
    have hin := h7 (j, r) hm row0 hs c0 hc0
    cases c0 with
    | osl r' _ _ _ =>
      obtain ⟨j', hj'⟩ := Option.isSome_iff_exists.1 (hin r' (by simp [Cell.refs]))
      simp only [Cell.ren, hj']; exact fun hh => by cases hh
    | optr r' _ =>
      obtain ⟨j', hj'⟩ := Option.isSome_iff_exists.1 (hin r' (by simp [Cell.refs]))
      simp only [Cell.ren, hj']; exact fun hh => by cases hh
    | mp r' kk =>
      obtain ⟨j', hj'⟩ := Option.isSome_iff_exists.1 (hin r' (by simp [Cell.refs]))
      simp only [Cell.ren, hj']; exact fun hh => by cases hh
    | _ => exact hso
  · intro j hj
    rw [hhp j] at hj
    rw [hπo]
    simp only
    split at hj
    · rename_i r hr
      cases hs : s.hpF r with
      | none => exact h.live r hs
      | some row0 => rw [hs] at hj; cases hj
    · rfl
  · intro j hj
    cases hh : t.hpF j with
    | none => rfl
    | some row =>
      obtain ⟨r, row0, hm, hs, rfl⟩ := hrow j row hh
      have hlt : j < t.nx := (h3 _ hm).1
      have hge : t.nx ≤ j := hj
      omega
  · intro j j' p p' e1 e2 e3
    rw [hπo] at e1 e2
    simp only at e1 e2
    split at e1
    · rename_i r hr
      split at e2
      · rename_i r' hr'
        have := h.inj r r' p p' e1 e2 e3
        subst this
        have z1 := toN_of h2 (slot_mem hr)
        have z2 := toN_of h2 (slot_mem hr')
        rw [z1] at z2; cases z2; rfl
      · cases e2
    · cases e1
  · intro j p ad u e1 hu
    rw [hπo] at e1
    simp only at e1
    split at e1
    · rename_i r hr
      exact h.dis r p ad u e1 hu
    · cases e1
  · intro j hj
    rw [hk] at hj
    rw [hπo]
    simp only
    cases hl : slot j M with
    | none => exact .inr rfl
    | some r =>
      have := (h3 _ (slot_mem hl)).2 hj
      simp only at this
      subst this
      exact h.org r (by rw [hk]; exact hj)
  · intro j hj
    have hge : t.nx ≤ j := hj
    omega

def Cell.frz (r : Nat) (cells : List Cell) : Cell → Cell
  | .osl q off len cap => if q = r then .gsl cells off len cap else .osl q off len cap
  | .optr q off => if q = r then .gptr cells off else .optr q off
  | c => c

mutual
def SV.frz (r : Nat) (cells : List Cell) : SV → SV
  | .one c => .one (c.frz r cells)
  | .agg cs => .agg (cs.map (Cell.frz r cells))
  | .tup vs => .tup (SV.frzL r cells vs)
def SV.frzL (r : Nat) (cells : List Cell) : List SV → List SV
  | [] => []
  | s :: ss => s.frz r cells :: SV.frzL r cells ss
end

theorem vl_frz {m m2 : Mem} {π π2 : Plc} {g : Cell → Cell} {C : Cell → Prop} (hc : ∀ c v, C c → VC m π c v → VC m2 π2 (g c) v) : ∀ {cs : List Cell} {vs : List Value}, (∀ c ∈ cs, C c) → VL m π cs vs → VL m2 π2 (cs.map g) vs
  | [], [], _, _ => trivial
  | c :: cs, v :: vs, h, hv => ⟨hc c v (h c (by simp)) hv.1, vl_frz hc (fun c hx => h c (by simp [hx])) hv.2⟩

mutual
theorem vs_frz {m m2 : Mem} {π π2 : Plc} {r : Nat} {cells : List Cell} {C : Cell → Prop} (hc : ∀ c v, C c → VC m π c v → VC m2 π2 (c.frz r cells) v) : ∀ {s : SV} {v : Value}, s.allC C → VS m π s v → VS m2 π2 (s.frz r cells) v
  | .one c, v, h, hv => hc c v h hv
  | .agg cs, v, h, hv => by
    obtain ⟨arr, e, hl⟩ := hv
    exact ⟨arr, e, vl_frz hc h hl⟩
  | .tup vs, v, h, hv => by
    obtain ⟨arr, e, hl⟩ := hv
    exact ⟨arr, e, vsl_frz hc (ss := vs) h hl⟩
theorem vsl_frz {m m2 : Mem} {π π2 : Plc} {r : Nat} {cells : List Cell} {C : Cell → Prop} (hc : ∀ c v, C c → VC m π c v → VC m2 π2 (c.frz r cells) v) : ∀ {ss : List SV} {vs : List Value}, SV.allCL C ss → VSL m π ss vs → VSL m2 π2 (SV.frzL r cells ss) vs
  | [], [], _, _ => trivial
  | s :: ss, v :: vs, h, hv => ⟨vs_frz hc h.1 hv.1, vsl_frz hc h.2 hv.2⟩
end

mutual
theorem clS_frz {r : Nat} {cells : List Cell} {Fr : Nat → Prop} (h : ∀ c : Cell, c.cl Fr → (c.frz r cells).cl Fr) : ∀ (s : SV), s.cl Fr → (s.frz r cells).cl Fr
  | .one c, hc => h c hc
  | .agg cs, hc => fun c hc2 => by
    obtain ⟨c0, h0, rfl⟩ := List.mem_map.1 hc2
    exact h c0 (hc c0 h0)
  | .tup vs, hc => clL_frz h vs hc
theorem clL_frz {r : Nat} {cells : List Cell} {Fr : Nat → Prop} (h : ∀ c : Cell, c.cl Fr → (c.frz r cells).cl Fr) : ∀ (ss : List SV), SV.clL Fr ss → SV.clL Fr (SV.frzL r cells ss)
  | [], _ => trivial
  | s :: ss, hc => ⟨clS_frz h s hc.1, clL_frz h ss hc.2⟩
end

end Go.Proofs.YtfkcolodbjonkabDoor.Sh
