/- What each kind of operation does, told of data: values that are built of parts; append, whole. -/
import Derived.Test.YtfkcolodbjonkabDoorShG
namespace Go.Proofs.YtfkcolodbjonkabDoor.Sh
open Go.RowKit
set_option linter.unusedVariables false
set_option linter.unusedSimpArgs false

def sFill (pl : Nat → Option (Nat × Nat)) (cells : List Cell) : List (Nat × SV) → Prop × List Cell
  | [] => (True, cells)
  | (i, v) :: r => (match pl i with
    | none => (False, cells)
    | some (off, size) => (v.solid ∧ v.cells.length = size ∧ off + size ≤ cells.length ∧ (sFill pl (putAt cells off v.cells) r).1, (sFill pl (putAt cells off v.cells) r).2))

def plS (T : Tab) (fs : List (Nat × Nat)) (i : Nat) : Option (Nat × Nat) :=
  match fs[i]? with
  | none => none
  | some (fo, ft) => (match slot ft T.ts with
    | none => none
    | some te => some (fo, te.size))

def sBuild (T : Tab) (t : Nat) (parts : List (Nat × SV)) : Res :=
  match slot t T.ts with
  | none => bad
  | some ti => (match ti.kind with
    | .struct fs => ⟨(sFill (plS T fs) (ti.zero.map .sc) parts).1, .agg (sFill (plS T fs) (ti.zero.map .sc) parts).2, [], 0⟩
    | .array cnt e => (match slot e T.ts with
      | none => bad
      | some te => ⟨(sFill (fun i => some (i * te.size, te.size)) (ti.zero.map .sc) parts).1, .agg (sFill (fun i => some (i * te.size, te.size)) (ti.zero.map .sc) parts).2, [], 0⟩)
    | _ => bad)

def sBuildSlice (T : Tab) (t len : Nat) (parts : List (Nat × SV)) (n : Nat) : Res :=
  match slot t T.ts with
  | none => bad
  | some ti => (match ti.kind with
    | .slice e => (match slot e T.ts with
      | none => bad
      | some te => ⟨(sFill (fun i => some (i * te.size, te.size)) (zeros te.size te.zero len) parts).1 ∧ len * te.size ≤ 16777216 ∧ 0 < te.size,
          .one (.osl n 0 len (some len)), [(n, some ⟨(sFill (fun i => some (i * te.size, te.size)) (zeros te.size te.zero len) parts).2, te.size⟩)], 1⟩)
    | _ => bad)

def TClosed (T : Tab) : Bool := T.ts.all fun x => match x.2.kind with
  | .struct fs => fs.all fun f => (slot f.2 T.ts).isSome
  | _ => true

section
variable {P : Program} {o : Oper} {w0 : Base} {A : Nat → Prop} {N : Nat} {Fr : Nat → Prop} {tm : Nat → Option SV} {hp : Nat → Option Row} {a : Act} {w : World} {m : Mem} {π : Plc} {n : Nat}

theorem slot_mem {α : Type} {k : Nat} {x : α} : ∀ {l : List (Nat × α)}, slot k l = some x → (k, x) ∈ l
  | [], h => by cases h
  | (j, y) :: r, h => by
    unfold slot at h
    split at h
    · rename_i e; subst e; cases h; simp
    · exact List.mem_cons_of_mem _ (slot_mem h)

theorem foldl_set (off : Nat) : ∀ (l : List Value) (k : Nat) (c : Array Value), off + k + l.length ≤ c.size →
    ∃ c' : Array Value, (l.zipIdx k).foldl (fun cs (x : Value × Nat) => cs.setIfInBounds (off + x.2) x.1) c = c' ∧ c'.size = c.size ∧
      ∀ i : Nat, c'[i]? = if off + k ≤ i ∧ i < off + k + l.length then l[i - (off + k)]? else c[i]?
  | [], k, c, _ => ⟨c, rfl, rfl, fun i => by rw [if_neg (by simp only [List.length_nil]; omega)]⟩
  | x :: l, k, c, h => by
    simp only [List.length_cons] at h
    obtain ⟨c', h1, h2, h3⟩ := foldl_set off l (k + 1) (c.setIfInBounds (off + k) x) (by simp; omega)
    refine ⟨c', by simpa using h1, by simpa using h2, fun i => ?_⟩
    rw [h3 i]
    by_cases c1 : i = off + k
    · subst c1
      rw [if_neg (by omega), if_pos (by simp)]
      simp [show off + k < c.size by omega]
    · by_cases c2 : off + (k + 1) ≤ i ∧ i < off + (k + 1) + l.length
      · rw [if_pos c2, if_pos (by simp; omega)]
        rw [show i - (off + k) = (i - (off + (k + 1))) + 1 by omega]
        simp
      · rw [if_neg c2, if_neg (by simp; omega)]
        rw [Array.getElem?_setIfInBounds_ne (by omega)]

theorem fill_ok (pl : Nat → Option (Nat × Nat)) : ∀ (sp : List (Nat × SV)) (vp : List (Nat × Value)) (cs : List Cell) (arr : Array Value),
    sp.length = vp.length → (∀ (j : Nat) x y, sp[j]? = some x → vp[j]? = some y → x.1 = y.1 ∧ VS m π x.2 y.2 ∧ x.2.cl Fr) → VL m π cs arr.toList → (∀ c ∈ cs, c.cl Fr) → (∀ c ∈ cs, c ≠ .un) → (∀ x ∈ arr.toList, x.oneCell' = true) → (sFill pl cs sp).1 →
    ∃ arr', Instr.fill pl arr vp = some arr' ∧ VL m π (sFill pl cs sp).2 arr'.toList ∧ (∀ c ∈ (sFill pl cs sp).2, c.cl Fr) ∧ (∀ c ∈ (sFill pl cs sp).2, c ≠ .un) ∧ arr'.size = arr.size
  | [], [], cs, arr, _, _, hv, hc, hu, _, _ => ⟨arr, rfl, hv, hc, hu, rfl⟩
  | (i, s) :: sp, (i', v) :: vp, cs, arr, hl, hr, hv, hc, hu, ho, hn => by
    obtain ⟨e, hsv, hscl⟩ := hr 0 (i, s) (i', v) (by simp) (by simp)
    simp only at e hsv hscl
    subst e
    unfold sFill at hn ⊢
    cases hp : pl i with
    | none => rw [hp] at hn; exact hn.elim
    | some q =>
      obtain ⟨off, size⟩ := q
      rw [hp] at hn
      simp only at hn ⊢
      obtain ⟨n1, n2, n3, n4⟩ := hn
      obtain ⟨g1, g2⟩ := VS.cells hsv n1
      have hvl := g1.length
      have hal := hv.length
      have hvs : v.cells.size = size := by simp at hvl; omega
      have has : arr.size = cs.length := by simpa using hal
      obtain ⟨c', k1, k2, k3⟩ := foldl_set off v.cells.toList 0 arr (by simp; omega)
      have hfold : v.cells.zipIdx.foldl (fun cs (x : Value × Nat) => cs.setIfInBounds (off + x.2) x.1) arr = c' := by
        rw [← Array.foldl_toList, Array.toList_zipIdx]; exact k1
      have hgetc : ∀ (i : Nat) c, (putAt cs off s.cells)[i]? = some c → ∃ x, c'[i]? = some x ∧ VC m π c x := by
        intro j c hj
        rcases putAt_get s.cells cs off j c (by omega) hj with ⟨jj, rfl, hjj⟩ | ⟨hjo, hjj⟩
        · obtain ⟨x, h1, h2⟩ := g1.get jj c hjj
          have hjl : jj < s.cells.length := (List.getElem?_eq_some_iff.1 hjj).1
          refine ⟨x, ?_, h2⟩
          rw [k3, if_pos (by simp; omega)]
          rw [show off + jj - (off + 0) = jj by omega]; exact h1
        · obtain ⟨x, h1, h2⟩ := hv.get j c hjj
          refine ⟨x, ?_, h2⟩
          rw [k3, if_neg (by simp; omega)]
          simpa using h1
      have hput : VL m π (putAt cs off s.cells) c'.toList := by
        refine VL.of (by simp [putAt_length, k2, has]) (fun i c x hi hx => ?_)
        obtain ⟨x', h1, h2⟩ := hgetc i c hi
        have : c'.toList[i]? = some x' := by simpa using h1
        rw [this] at hx; cases hx; exact h2
      have hput2 : ∀ P' : Cell → Prop, (∀ c ∈ cs, P' c) → (∀ c ∈ s.cells, P' c) → ∀ c ∈ putAt cs off s.cells, P' c := by
        intro P' q1 q2 c hc
        obtain ⟨i, hi, rfl⟩ := List.mem_iff_getElem.1 hc
        rcases putAt_get s.cells cs off i _ (by omega) (List.getElem?_eq_getElem hi) with ⟨j, _, hj⟩ | ⟨_, hj⟩
        · exact q2 _ (List.mem_of_getElem? hj)
        · exact q1 _ (List.mem_of_getElem? hj)
      have ho' : ∀ x ∈ c'.toList, x.oneCell' = true := by
        intro x hx
        obtain ⟨i, hi, rfl⟩ := List.mem_iff_getElem.1 hx
        have h3 := k3 i
        have hic : c'[i]? = some (c'.toList[i]) := by simp at hi ⊢
        rw [hic] at h3
        split at h3
        · exact g2 _ (List.mem_of_getElem? h3.symm)
        · exact ho _ (List.mem_of_getElem? (i := i) (by simpa using h3.symm))
      obtain ⟨arr', r1, r2, r3, r4, r5⟩ := fill_ok pl sp vp (putAt cs off s.cells) c' (by simpa using hl) (fun j x y hx hy => hr (j + 1) x y (by simpa using hx) (by simpa using hy)) hput (hput2 _ hc (cells_cl n1 hscl)) (hput2 _ hu (cells_un n1)) ho' n4
      refine ⟨arr', ?_, r2, r3, r4, by omega⟩
      unfold Instr.fill
      rw [hp]
      simp only
      rw [if_neg (by simp [hvs]; omega)]
      rw [← r1]
      congr 1

theorem parts_ok {parts : Array (Nat × Operand)} {ρ : Operand → SV} (hρ : ∀ x ∈ (parts.toList.map (·.2)), VS m π (ρ x) (a.eval x) ∧ (ρ x).cl Fr) :
    (parts.toList.map fun x => (x.1, ρ x.2)).length = (parts.map fun x => (x.1, a.eval x.2)).toList.length ∧
    ∀ (j : Nat) x y, (parts.toList.map fun x => (x.1, ρ x.2))[j]? = some x → (parts.map fun x => (x.1, a.eval x.2)).toList[j]? = some y → x.1 = y.1 ∧ VS m π x.2 y.2 ∧ x.2.cl Fr := by
  refine ⟨by simp, fun j x y hx hy => ?_⟩
  simp only [List.getElem?_map, Array.toList_map, Option.map_eq_some_iff] at hx hy
  obtain ⟨p, hp, rfl⟩ := hx
  obtain ⟨q, hq, rfl⟩ := hy
  rw [hp] at hq
  cases hq
  have := hρ p.2 (List.mem_map.2 ⟨p, List.mem_of_getElem? hp, rfl⟩)
  exact ⟨rfl, this.1, this.2⟩

theorem zero_vl {zs : List Value} (h1 : ∀ x ∈ zs, x.oneCell' = true) : VL m π (zs.map Cell.sc) zs :=
  VL.of (by simp) (fun i c v hi hv => by
    obtain ⟨x, hx, hc⟩ := zero_cells (m := m) π zs h1 i c hi
    rw [hx] at hv; cases hv; exact hc)

theorem sBuild_ok (T : Tab) (hT : TOk P T) (hC : TClosed T = true) (h : RelAt P w0 A N Fr tm hp a w m π) {t : Nat} {parts : Array (Nat × Operand)} (ho : o.op = .build t parts) {ρ : Operand → SV}
    (hρ : ∀ x ∈ (parts.toList.map (·.2)), VS m π (ρ x) (a.eval x) ∧ (ρ x).cl Fr)
    (hn : (sBuild T t (parts.toList.map fun x => (x.1, ρ x.2))).need) : Good P o w0 A N Fr tm hp a w n (sBuild T t (parts.toList.map fun x => (x.1, ρ x.2))) := by
  have hex : execOp a.eval o = (do pure (.value (← Instr.build t (parts.map fun x => (x.1, a.eval x.2))))) := by unfold execOp; rw [ho]
  obtain ⟨p1, p2⟩ := parts_ok (m := m) (π := π) (Fr := Fr) hρ
  unfold sBuild at hn ⊢
  cases hl : slot t T.ts with
  | none => rw [hl] at hn; exact hn.elim
  | some ti =>
    rw [hl] at hn
    have hti := hT t ti hl
    obtain ⟨i, d, z, g1, g2, g3, g4, g5, g6, g7, g8, g9⟩ := hti.ex
    simp only at hn ⊢
    split at hn
    · rename_i fs hk
      obtain ⟨fl, hu, hfl⟩ := hti.struct hk
      have hcl : ∀ f ∈ fs, (slot f.2 T.ts).isSome = true := by
        have := List.all_eq_true.1 hC (t, ti) (slot_mem hl)
        simp only [hk] at this
        exact fun f hf => List.all_eq_true.1 this f hf
      have hplaces : ∃ places : List (Nat × Nat), fl.toList.mapM (fun f => (P.info? f.type).map fun i => (f.offset, i.size)) = some places ∧ ∀ i, places[i]? = plS T fs i := by
        rw [← hfl] at hcl ⊢
        generalize fl.toList = l at hcl
        induction l with
        | nil => exact ⟨[], rfl, fun i => by simp [plS]⟩
        | cons f l ih =>
          obtain ⟨ps, h1, h2⟩ := ih (fun f hf => hcl f (by simp at hf ⊢; exact .inr hf))
          have hf := hcl (f.offset, f.type) (by simp)
          obtain ⟨te, hte⟩ := Option.isSome_iff_exists.1 hf
          simp only at hte
          obtain ⟨i', _, _, q1, _, q3, _⟩ := (hT f.type te hte).ex
          refine ⟨(f.offset, te.size) :: ps, by simp [List.mapM_cons, q1, h1, q3], fun i => ?_⟩
          cases i with
          | zero => simp [plS, hte]
          | succ i => simpa [plS] using h2 i
      obtain ⟨places, q1, q2⟩ := hplaces
      have hplfun : (fun i => places[i]?) = plS T fs := funext q2
      obtain ⟨arr', r1, r2, r3, r4, r5⟩ := fill_ok (plS T fs) _ _ (ti.zero.map Cell.sc) z.cells p1 p2 (by rw [g7]; exact zero_vl g9) (cl_sc _) (un_sc _) (by rw [g7]; exact g9) hn
      refine good_pure h (v := .agg arr') ?_ ⟨_, rfl, r2⟩ r3
      rw [hex]
      rw [← hplfun, Array.toList_map] at r1
      simp [Instr.build, run_underlying hu, zeroValue, typeInfo, g1, g6, Array.mapM_eq_mapM_toList, run_places w _ _ q1, r1]
    · rename_i cnt e hk
      cases hl2 : slot e T.ts with
      | none => rw [hl2] at hn; exact hn.elim
      | some te =>
        rw [hl2] at hn
        simp only at hn ⊢
        have hte := hT e te hl2
        have hu := hti.array hk
        obtain ⟨arr', r1, r2, r3, r4, r5⟩ := fill_ok _ _ _ (ti.zero.map Cell.sc) z.cells p1 p2 (by rw [g7]; exact zero_vl g9) (cl_sc _) (un_sc _) (by rw [g7]; exact g9) hn
        refine good_pure h (v := .agg arr') ?_ ⟨_, rfl, r2⟩ r3
        rw [hex]
        rw [Array.toList_map] at r1
        simp [Instr.build, run_underlying hu, zeroValue, typeInfo, g1, g6, hte.size, r1]
    · exact hn.elim


theorem zeros_vl {ti : TI} (hl : ti.zero.length = ti.size) (hz : 0 < ti.size) (z : Array Value) (hzz : z.toList = ti.zero) (h1 : ∀ x ∈ ti.zero, x.oneCell' = true) (k : Nat) :
    VL m π (zeros ti.size ti.zero k) (madeCells z (k * ti.size)).toList ∧ (∀ c ∈ zeros ti.size ti.zero k, c.cl Fr) ∧ (∀ c ∈ zeros ti.size ti.zero k, c ≠ .un) ∧ ∀ x ∈ (madeCells z (k * ti.size)).toList, x.oneCell' = true := by
  obtain ⟨z1, z2⟩ := zeros_get hl hz z hzz k
  have hsz : (madeCells z (k * ti.size)).size = k * ti.size := size_madeCells _ _
  refine ⟨VL.of (by simp [z1, size_madeCells]) (fun i c v hi hv => ?_), fun c hc => ?_, fun c hc => ?_, fun x hx => ?_⟩
  · obtain ⟨x, k1, k2, k3⟩ := z2 i c hi
    have : (madeCells z (k * ti.size)).toList[i]? = some x := by simpa using k1
    rw [this] at hv; cases hv
    rw [k2]; exact VG.sc _ (h1 _ k3)
  · obtain ⟨j, hj, rfl⟩ := List.mem_iff_getElem.1 hc
    obtain ⟨x, k1, k2, k3⟩ := z2 j _ (List.getElem?_eq_getElem hj)
    rw [k2]; trivial
  · obtain ⟨j, hj, rfl⟩ := List.mem_iff_getElem.1 hc
    obtain ⟨x, k1, k2, k3⟩ := z2 j _ (List.getElem?_eq_getElem hj)
    rw [k2]; exact fun hh => by cases hh
  · obtain ⟨j, hj, rfl⟩ := List.mem_iff_getElem.1 hx
    have hj2 : j < k * ti.size := by simpa [size_madeCells] using hj
    obtain ⟨x, k1, k2, k3⟩ := z2 j ((zeros ti.size ti.zero k)[j]'(by omega)) (by rw [List.getElem?_eq_getElem])
    have e : (madeCells z (k * ti.size)).toList[j]? = some x := by simpa using k1
    rw [List.getElem?_eq_getElem hj] at e
    cases e
    exact h1 _ k3

theorem sBuildSlice_ok (T : Tab) (hT : TOk P T) (h : RelAt P w0 A N Fr tm hp a w m π) (hf : Fr n) {t len : Nat} {parts : Array (Nat × Operand)} (ho : o.op = .buildSlice t len parts) {ρ : Operand → SV}
    (hρ : ∀ x ∈ (parts.toList.map (·.2)), VS m π (ρ x) (a.eval x) ∧ (ρ x).cl Fr)
    (hn : (sBuildSlice T t len (parts.toList.map fun x => (x.1, ρ x.2)) n).need) : Good P o w0 A N Fr tm hp a w n (sBuildSlice T t len (parts.toList.map fun x => (x.1, ρ x.2)) n) := by
  have hex : execOp a.eval o = (do pure (.value (← Instr.buildSlice t len (parts.map fun x => (x.1, a.eval x.2))))) := by unfold execOp; rw [ho]
  obtain ⟨p1, p2⟩ := parts_ok (m := m) (π := π) (Fr := Fr) hρ
  unfold sBuildSlice at hn ⊢
  cases hl : slot t T.ts with
  | none => rw [hl] at hn; exact hn.elim
  | some ti =>
    rw [hl] at hn
    have hti := hT t ti hl
    simp only at hn ⊢
    split at hn
    · rename_i e hk
      have hu := hti.slice hk
      cases hl2 : slot e T.ts with
      | none => rw [hl2] at hn; exact hn.elim
      | some te =>
        rw [hl2] at hn
        simp only at hn ⊢
        have hte := hT e te hl2
        obtain ⟨i, d, z, g1, g2, g3, g4, g5, g6, g7, g8, g9⟩ := hte.ex
        obtain ⟨n1, n2, n3⟩ := hn
        obtain ⟨q1, q2, q3, q4⟩ := zeros_vl (m := m) (π := π) (Fr := Fr) g8 n3 z.cells g7 g9 len
        obtain ⟨arr', r1, r2, r3, r4, r5⟩ := fill_ok (fun i => some (i * te.size, te.size)) _ _ (zeros te.size te.zero len) _ p1 p2 q1 q2 q3 q4 n1
        have hal := r2.length
        have hrun : (Instr.buildSlice t len (parts.map fun x => (x.1, a.eval x.2))).run P w = .ok (.slice (some ⟨w.heap.size, 0, none⟩) len len) (w.alloc (.cells arr' e)) := by
          rw [Array.toList_map] at r1
          have n2' : ¬ (16777216 < len * te.size) := by omega
          by_cases h0 : len * te.size = 0
          · have : len = 0 := by
              rcases Nat.mul_eq_zero.1 h0 with e | e
              · exact e
              · omega
            subst this
            have e0 : Array.range 0 = #[] := rfl
            simp only [madeCells, Nat.zero_mul, e0, Array.map_empty] at r1
            simp [Instr.buildSlice, run_underlying hu, hte.size, newRow, e0, r1]
          · simp only [madeCells] at r1
            simp [Instr.buildSlice, run_underlying hu, hte.size, newRow, n2', h0, zeroValue, typeInfo, g1, g6, r1]
        refine good_alloc h hf (arr := arr') (e := e) (row := ⟨_, te.size⟩) (v := .slice (some ⟨w.heap.size, 0, none⟩) len len) (by rw [hex]; simp [hrun]) (by simp only; omega) ?_ ?_ r3 r4 ?_ ?_
        · simp at hal; simp only; omega
        · intro j cc hj
          obtain ⟨xx, k1, k2⟩ := r2.get j cc hj
          exact ⟨xx, by simpa using k1, k2⟩
        · refine ⟨rfl, ?_⟩
          rw [upd_same]
          exact ⟨by simp only; omega, _, _, rfl, Nat.le_refl _, fun k hk => by cases hk; rfl, .inr ⟨rfl, by simp only [r5, size_madeCells]; omega⟩⟩
        · exact fun hq => hq.2 rfl
    · exact hn.elim

theorem sAppend_ok (T : Tab) (hT : TOk P T) (h : RelAt P w0 A N Fr tm hp a w m π) (hf : Fr n) {t : Nat} {x y : Operand} {c : Call} (ho : o.op = .call c) (hc1 : c.callee = .builtin .append) (hc2 : c.args = #[x, y]) (hc3 : c.argTypes = #[t, t]) {p q : SV}
    (hp' : VS m π p (a.eval x)) (hq' : VS m π q (a.eval y)) (hcq : q.cl Fr) (hn : (sAppend T hp t p q n).need) : Good P o w0 A N Fr tm hp a w n (sAppend T hp t p q n) := by
  have hex : ∀ r w', (Builtin.append_ #[t, t] o.type #[a.eval x, a.eval y]).run P w = .ok r w' → (execOp a.eval o).run P w = .ok (.value r) w' := by
    intro r w' hr
    unfold execOp
    rw [ho]
    simp [resolve, hc1, hc2, hc3, invoke, builtin, hr]
  unfold sAppend at hn ⊢
  cases hl : slot t T.ts with
  | none => rw [hl] at hn; exact hn.elim
  | some ti =>
    rw [hl] at hn
    simp only at hn ⊢
    cases hk : ti.kind with
    | slice e =>
      rw [hk] at hn
      simp only at hn ⊢
      cases hl2 : slot e T.ts with
      | none => rw [hl2] at hn; exact hn.elim
      | some te =>
        rw [hl2] at hn
        simp only at hn ⊢
        cases hs : slc te.size hp q with
        | none => rw [hs] at hn; exact hn.elim
        | some xk =>
          obtain ⟨xc, k⟩ := xk
          rw [hs] at hn
          simp only at hn ⊢
          have fresh : ∀ (base : Option Addr), a.eval x = .slice base 0 0 → ∀ need : Prop, xc.length = k * te.size → 0 < te.size → 0 < te.bytes → k * te.bytes ≤ 281474976710656 →
              Good P o w0 A N Fr tm hp a w n ⟨need, .one (.osl n 0 k none), [(n, some ⟨xc, te.size⟩)], 1⟩ := by
            intro base e1 need n1 n2 n3 n4
            obtain ⟨v', w', π', r1, r2, r3⟩ := append_fresh T hT h hf hl hk hl2 hq' hcq hs n1 n2 n3 n4 base o.type
            rw [← e1] at r1
            exact ⟨v', w', m, π', .inl (hex _ _ r1), frm r2 (Nat.le_refl _), r3, fun hq => hq.2 ⟨Nat.le_refl _, by simp only; omega⟩⟩
          have kill : ∀ (r off len : Nat) (cap : Option Nat) (row : Row), p = .one (.osl r off len cap) → hp r = some row → ∀ need : Prop, xc.length = k * te.size → 0 < te.size → 0 < te.bytes → (len + k) * te.bytes ≤ 140737488355328 → row.esz = te.size → off + len * te.size ≤ row.cells.length →
              Good P o w0 A N Fr tm hp a w n ⟨need, .one (.osl n 0 (len + k) none), [(r, none), (n, some ⟨(row.cells.drop off).take (len * te.size) ++ xc, te.size⟩)], 1⟩ := by
            intro r off len cap row ep hr need n1 n2 n3 n4 n5 n6
            subst ep
            obtain ⟨v', w', π', r1, r2, r3⟩ := append_kill T hT h hf hl hk hl2 hq' hcq hs n1 n2 n3 hp' hr n4 n5 n6 o.type
            exact ⟨v', w', m, π', .inl (hex _ _ r1), frm r2 (Nat.le_refl _), r3, fun hq => hq.2 ⟨Nat.le_refl _, by simp only; omega⟩⟩
          split at hn
          · obtain ⟨n1, n2, n3, n4⟩ := hn
            exact fresh none (vs_sc hp').1 _ n1 n2 n3 n4
          · rename_i r off len
            obtain ⟨n1, n2, n3, n4, n5⟩ := hn
            obtain ⟨row, q0, hr, hq, hq2⟩ := live_row h n5
            have hp2 := hp'
            obtain ⟨_, hvc⟩ := hp2
            rcases osl_at h hp' hr with ⟨_, _, _, ad, e1⟩ | ⟨pl, ad, cc, hπ, e1, hlc, hpz, hor⟩
            · exact fresh ad e1 _ n1 n2 n3 n4
            · rw [hπ] at hvc
              obtain ⟨_, ad2, c2, e2, hlc2, hcc, _⟩ := hvc
              have h0 := hcc 0 rfl
              subst h0
              have : len = 0 := by omega
              subst this
              exact fresh _ e2 _ n1 n2 n3 n4
          · rename_i cs off len
            obtain ⟨n1, n2, n3, n4⟩ := hn
            generalize hev : a.eval x = u at hp'
            cases hp' with
            | gnil _ _ _ hc => exact fresh _ hev _ n1 n2 n3 n4
            | gsl _ _ _ _ b oo c ad vals hc hlc hm hv ha =>
              have h0 := hc 0 rfl
              subst h0
              have : len = 0 := by omega
              subst this
              exact fresh _ hev _ n1 n2 n3 n4
          · rename_i r off len cap _
            cases hr : hp r with
            | none => rw [hr] at hn; exact hn.elim
            | some row =>
              rw [hr] at hn
              obtain ⟨n1, n2, n3, n4, n5, n6⟩ := hn
              exact kill r off len cap row rfl hr _ n1 n2 n3 n4 n5 n6
          · exact hn.elim
    | _ => rw [hk] at hn; exact hn.elim

end
end Go.Proofs.YtfkcolodbjonkabDoor.Sh
