/- What a call of a Go function leaves behind, told of data. -/
import Derived.Test.YtfkcolodbjonkabDoorShM
namespace Go.Proofs.YtfkcolodbjonkabDoor.Sh
open Go.RowKit
set_option linter.unusedVariables false
set_option linter.unusedSimpArgs false

theorem outUps_in (L : List Nat) (n : Nat) : ∀ (l : List (Option Row)) (j : Nat) (hp : Nat → Option Row), (∀ i i', i < l.length → i' < l.length → bk L n (j + i) = bk L n (j + i') → i = i') →
    ∀ i x, l[i]? = some x → upds hp (outUpsFrom L n j l) (bk L n (j + i)) = renO (back L n) x
  | [], _, _, _, _, _, h => by cases h
  | y :: l, j, hp, hinj, 0, x, h => by
    simp at h
    subst h
    unfold outUpsFrom upds
    rw [upds_out]
    · simp only [Nat.add_zero, upd_same]
    · intro hm
      have hids : ∀ (l : List (Option Row)) (j : Nat), (outUpsFrom L n j l).map (·.1) = (List.range l.length).map (fun i => bk L n (j + i)) := by
        intro l
        induction l with
        | nil => intro j; rfl
        | cons y l ih =>
          intro j
          simp only [outUpsFrom, List.map_cons, List.length_cons, List.range_succ_eq_map, List.map_map, ih]
          congr 1
          apply List.map_congr_left
          intro i _
          simp only [Function.comp]
          congr 1; omega
      rw [hids] at hm
      obtain ⟨i, hi, he⟩ := List.mem_map.1 hm
      have hil : i < l.length := by simpa using hi
      have := hinj (i + 1) 0 (by simp; omega) (by simp) (by rw [← he]; congr 1; omega)
      omega
  | y :: l, j, hp, hinj, i + 1, x, h => by
    unfold outUpsFrom upds
    have := outUps_in L n l (j + 1) (upd hp (bk L n j) (renO (back L n) y)) (fun i i' h1 h2 he => by
      have := hinj (i + 1) (i' + 1) (by simp; omega) (by simp; omega) (by rw [show j + (i + 1) = j + 1 + i by omega, show j + (i' + 1) = j + 1 + i' by omega]; exact he)
      omega) i x (by simpa using h)
    rw [show j + (i + 1) = j + 1 + i by omega]
    exact this

theorem outUps_ids (L : List Nat) (n : Nat) : ∀ (l : List (Option Row)) (j : Nat), (outUpsFrom L n j l).map (·.1) = (List.range l.length).map (fun i => bk L n (j + i)) := by
  intro l
  induction l with
  | nil => intro j; rfl
  | cons y l ih =>
    intro j
    simp only [outUpsFrom, List.map_cons, List.length_cons, List.range_succ_eq_map, List.map_map, ih]
    congr 1
    apply List.map_congr_left
    intro i _
    simp only [Function.comp]
    congr 1; omega

theorem outUps_out (L : List Nat) (n : Nat) (l : List (Option Row)) (j : Nat) (hp : Nat → Option Row) (r : Nat) (h : ∀ i, i < l.length → bk L n (j + i) ≠ r) : upds hp (outUpsFrom L n j l) r = hp r := by
  rw [upds_out]
  rw [outUps_ids]
  intro hm
  obtain ⟨i, hi, he⟩ := List.mem_map.1 hm
  exact h i (by simpa using hi) he

section
variable {P : Program} {w0 : Base} {A : Nat → Prop} {N : Nat} {Fr : Nat → Prop} {tm : Nat → Option SV} {hp : Nat → Option Row} {a : Act} {w : World} {m : Mem} {π : Plc}

theorem vc_back {m' m2 : Mem} {π' π2 : Plc} {ρ : Nat → Option Nat} {K : Nat} (hm : ∀ ad v, m' ad = some v → m2 ad = some v) (hπ : ∀ j, j < K → ∃ r, ρ j = some r ∧ π2 r = π' j) {c : Cell} (hc : c.cl (K ≤ ·)) {v : Value} (hv : VC m' π' c v) : VC m2 π2 (c.ren ρ) v := by
  cases c with
  | osl j off len cap =>
    have hj : j < K := Nat.not_le.1 hc
    obtain ⟨r, h1, h2⟩ := hπ j hj
    simp only [Cell.ren, h1]
    exact ⟨hv.1, by rw [h2]; exact hv.2⟩
  | optr j off =>
    have hj : j < K := Nat.not_le.1 hc
    obtain ⟨r, h1, h2⟩ := hπ j hj
    simp only [Cell.ren, h1]
    exact ⟨hv.1, by rw [h2]; exact hv.2⟩
  | un => trivial
  | mp j kk =>
    have hj : j < K := Nat.not_le.1 hc
    obtain ⟨r, h1, h2⟩ := hπ j hj
    simp only [Cell.ren, h1]
    exact ⟨hv.1, by rw [h2]; exact hv.2⟩
  | sc u => exact VG.mono hm hv
  | gsl _ _ _ _ => exact VG.mono hm hv
  | gptr _ _ => exact VG.mono hm hv
  | fn _ _ => exact VG.mono hm hv

theorem vc_back_noG {m' m2 : Mem} {π' π2 : Plc} {ρ : Nat → Option Nat} {K : Nat} (hπ : ∀ j, j < K → ∃ r, ρ j = some r ∧ π2 r = π' j) {c : Cell} (hg : c.noG = true) (hc : c.cl (K ≤ ·)) {v : Value} (hv : VC m' π' c v) : VC m2 π2 (c.ren ρ) v := by
  cases c with
  | osl j off len cap =>
    have hj : j < K := Nat.not_le.1 hc
    obtain ⟨r, h1, h2⟩ := hπ j hj
    simp only [Cell.ren, h1]
    exact ⟨hv.1, by rw [h2]; exact hv.2⟩
  | optr j off =>
    have hj : j < K := Nat.not_le.1 hc
    obtain ⟨r, h1, h2⟩ := hπ j hj
    simp only [Cell.ren, h1]
    exact ⟨hv.1, by rw [h2]; exact hv.2⟩
  | un => trivial
  | mp j kk =>
    have hj : j < K := Nat.not_le.1 hc
    obtain ⟨r, h1, h2⟩ := hπ j hj
    simp only [Cell.ren, h1]
    exact ⟨hv.1, by rw [h2]; exact hv.2⟩
  | sc u => cases hv; exact VG.sc _ (by assumption)
  | gsl _ _ _ _ => cases hg
  | gptr _ _ => cases hg
  | fn _ _ => cases hg

theorem vl_map {m' m2 : Mem} {π' π2 : Plc} {ρ : Nat → Option Nat} {C : Cell → Prop} (hc : ∀ c v, C c → VC m' π' c v → VC m2 π2 (c.ren ρ) v) : ∀ {cs : List Cell} {vs : List Value}, (∀ c ∈ cs, C c) → VL m' π' cs vs → VL m2 π2 (cs.map (Cell.ren ρ)) vs
  | [], [], _, _ => trivial
  | c :: cs, v :: vs, h, hv => ⟨hc c v (h c (by simp)) hv.1, vl_map hc (fun c hx => h c (by simp [hx])) hv.2⟩

mutual
def SV.allC (C : Cell → Prop) : SV → Prop
  | .one c => C c
  | .agg cs => ∀ c ∈ cs, C c
  | .tup vs => SV.allCL C vs
def SV.allCL (C : Cell → Prop) : List SV → Prop
  | [] => True
  | s :: ss => s.allC C ∧ SV.allCL C ss
end

mutual
theorem vs_map {m' m2 : Mem} {π' π2 : Plc} {ρ : Nat → Option Nat} {C : Cell → Prop} (hc : ∀ c v, C c → VC m' π' c v → VC m2 π2 (c.ren ρ) v) : ∀ {s : SV} {v : Value}, s.allC C → VS m' π' s v → VS m2 π2 (s.ren ρ) v
  | .one c, v, h, hv => hc c v h hv
  | .agg cs, v, h, hv => by
    obtain ⟨arr, e, hl⟩ := hv
    exact ⟨arr, e, vl_map hc h hl⟩
  | .tup vs, v, h, hv => by
    obtain ⟨arr, e, hl⟩ := hv
    exact ⟨arr, e, vsl_map hc (ss := vs) h hl⟩
theorem vsl_map {m' m2 : Mem} {π' π2 : Plc} {ρ : Nat → Option Nat} {C : Cell → Prop} (hc : ∀ c v, C c → VC m' π' c v → VC m2 π2 (c.ren ρ) v) : ∀ {ss : List SV} {vs : List Value}, SV.allCL C ss → VSL m' π' ss vs → VSL m2 π2 (SV.renL ρ ss) vs
  | [], [], _, _ => trivial
  | s :: ss, v :: vs, h, hv => ⟨vs_map hc h.1 hv.1, vsl_map hc h.2 hv.2⟩
end

mutual
theorem allC_of {C D : Cell → Prop} (Fr : Nat → Prop) (h : ∀ c, C c → c.cl Fr → D c) : ∀ {s : SV}, s.allC C → s.cl Fr → s.allC D
  | .one c, h1, h2 => h c h1 h2
  | .agg cs, h1, h2 => fun c hc => h c (h1 c hc) (h2 c hc)
  | .tup vs, h1, h2 => allCL_of Fr h (ss := vs) h1 h2
theorem allCL_of {C D : Cell → Prop} (Fr : Nat → Prop) (h : ∀ c, C c → c.cl Fr → D c) : ∀ {ss : List SV}, SV.allCL C ss → SV.clL Fr ss → SV.allCL D ss
  | [], _, _ => trivial
  | s :: ss, h1, h2 => ⟨allC_of Fr h h1.1 h2.1, allCL_of Fr h h1.2 h2.2⟩
end

mutual
theorem allC_true : ∀ (s : SV), s.allC (fun _ => True)
  | .one c => trivial
  | .agg cs => fun _ _ => trivial
  | .tup vs => allCL_true vs
theorem allCL_true : ∀ (ss : List SV), SV.allCL (fun _ => True) ss
  | [] => trivial
  | s :: ss => ⟨allC_true s, allCL_true ss⟩
end

mutual
theorem allC_noG : ∀ {s : SV}, s.noG → s.allC (fun c => c.noG = true)
  | .one c, h => h
  | .agg cs, h => h
  | .tup vs, h => allCL_noG (ss := vs) h
theorem allCL_noG : ∀ {ss : List SV}, SV.noGL ss → SV.allCL (fun c => c.noG = true) ss
  | [], _ => trivial
  | s :: ss, h => ⟨allC_noG h.1, allCL_noG h.2⟩
end

theorem cl_ren {ρ : Nat → Option Nat} {K : Nat} {Fr : Nat → Prop} (hρ : ∀ j, j < K → ∃ r, ρ j = some r ∧ ¬ Fr r) {c : Cell} (hc : c.cl (K ≤ ·)) : (c.ren ρ).cl Fr := by
  cases c with
  | osl j off len cap =>
    obtain ⟨r, h1, h2⟩ := hρ j (Nat.not_le.1 hc)
    simp only [Cell.ren, h1]
    exact h2
  | optr j off =>
    obtain ⟨r, h1, h2⟩ := hρ j (Nat.not_le.1 hc)
    simp only [Cell.ren, h1]
    exact h2
  | mp j kk =>
    obtain ⟨r, h1, h2⟩ := hρ j (Nat.not_le.1 hc)
    simp only [Cell.ren, h1]
    exact h2
  | _ => trivial

mutual
theorem clS_ren {ρ : Nat → Option Nat} {K : Nat} {Fr : Nat → Prop} (hρ : ∀ j, j < K → ∃ r, ρ j = some r ∧ ¬ Fr r) : ∀ {s : SV}, s.cl (K ≤ ·) → (s.ren ρ).cl Fr
  | .one c, h => cl_ren hρ h
  | .agg cs, h => fun c hc => by
    obtain ⟨c0, h0, rfl⟩ := List.mem_map.1 hc
    exact cl_ren hρ (h c0 h0)
  | .tup vs, h => clL_ren hρ (ss := vs) h
theorem clL_ren {ρ : Nat → Option Nat} {K : Nat} {Fr : Nat → Prop} (hρ : ∀ j, j < K → ∃ r, ρ j = some r ∧ ¬ Fr r) : ∀ {ss : List SV}, SV.clL (K ≤ ·) ss → SV.clL Fr (SV.renL ρ ss)
  | [], _ => trivial
  | s :: ss, h => ⟨clS_ren hρ h.1, clL_ren hρ h.2⟩
end

theorem call_gen (h : RelAt P w0 A N Fr tm hp a w m π) {f : FuncId} {args' : List SV} {vals : Array Value} {L : List Nat} {n : Nat} {res : SV} {outs : List (Option Row)} (S : List Nat)
    (hS2 : ∀ r ∈ S, idx r L = none) (hsh : ∀ r ∈ S, ∃ row, hp r = some row ∧ ∀ c ∈ row.cells, c.isG = true)
    (hnd : L.Nodup) (hlv : ∀ r ∈ L, ∃ row, hp r = some row ∧ (∀ c ∈ row.cells, ∀ q ∈ c.refs, q ∈ L)) (hlg : L.length ≤ outs.length)
    (hfr : S = [] ∨ (res.noG ∧ ∀ x ∈ outs, ∀ row, x = some row → ∀ c ∈ row.cells, c.noG = true))
    (hv1 : VSL (memS m π w S) (fun j => match L[j]? with | some r => π r | none => none) args' vals.toList) (hv2 : SV.clL (L.length ≤ ·) args')
    (hs : FnSpecD P f args' (lentRows L hp) res outs) (hF : ∀ r, n ≤ r → r < n + max 1 (outs.length - L.length) → Fr r) :
    Does P f vals w fun e w' => ∃ v m' π', e = .returned v ∧ RelAt P w0 A N (fun r => Fr r ∧ ¬ (n ≤ r ∧ r < n + max 1 (outs.length - L.length))) tm (upds hp (outUpsFrom L n 0 outs)) a w' m' π' ∧
      VS m' π' (res.ren (back L n)) v ∧ (res.ren (back L n)).cl (fun r => Fr r ∧ ¬ (n ≤ r ∧ r < n + max 1 (outs.length - L.length))) := by
  let πc : Plc := fun j => match L[j]? with | some r => π r | none => none
  let A' : Nat → Prop := fun b => w.heap.size ≤ b ∨ ∃ (j : Nat) (p : Place), πc j = some (some p) ∧ p.b = b
  have hrel := callee_rel h L hnd hlv S hS2 A' (fun b => Iff.rfl)
  have hcall := hs w vals (memS m π w S) πc A' (fun b => Iff.rfl) hrel hv1 (by rw [lent_len]; exact hv2)
  refine hcall.mono ?_
  rintro e w' ⟨v, m', π', rfl, h', hv', hcl'⟩
  rw [lent_len] at h'
  -- places
  have hlen := hlg
  obtain ⟨k, hk⟩ : ∃ k, k = L.length := ⟨_, rfl⟩
  have hlive : ∀ r ∈ L, hp r ≠ none := fun r hr => by obtain ⟨row, h1, _⟩ := hlv r hr; rw [h1]; simp
  have hbk1 : ∀ j r, L[j]? = some r → bk L n j = r := fun j r hj => by simp [bk, hj]
  have hbk2 : ∀ j, L.length ≤ j → bk L n j = n + (j - L.length) := fun j hj => by simp [bk, List.getElem?_eq_none hj]
  have hnotFr : ∀ r ∈ L, ¬ Fr r := fun r hr hf => hlive r hr (h.fresh r hf)
  have hinjb : ∀ i i', i < outs.length → i' < outs.length → bk L n i = bk L n i' → i = i' := by
    intro i i' hi hi' he
    by_cases c1 : i < L.length
    · have e1 := hbk1 i L[i] (by simp [c1])
      by_cases c2 : i' < L.length
      · have e2 := hbk1 i' L[i'] (by simp [c2])
        rw [e1, e2] at he
        have k1 := idx_of hnd (List.getElem?_eq_getElem c1)
        have k2 := idx_of hnd (List.getElem?_eq_getElem c2)
        rw [he] at k1; rw [k1] at k2; cases k2; rfl
      · rw [e1, hbk2 i' (by omega)] at he
        exact absurd (hF L[i] (by omega) (by omega)) (hnotFr _ (List.getElem_mem c1))
    · by_cases c2 : i' < L.length
      · have e2 := hbk1 i' L[i'] (by simp [c2])
        rw [e2, hbk2 i (by omega)] at he
        exact absurd (hF L[i'] (by omega) (by omega)) (hnotFr _ (List.getElem_mem c2))
      · rw [hbk2 i (by omega), hbk2 i' (by omega)] at he
        omega
  obtain ⟨hp2, hhp2⟩ : ∃ hp2, hp2 = upds hp (outUpsFrom L n 0 outs) := ⟨_, rfl⟩
  have hin : ∀ j x, outs[j]? = some x → hp2 (bk L n j) = renO (back L n) x := fun j x hj => by
    rw [hhp2]
    have := outUps_in L n outs 0 hp (fun i i' h1 h2 he => hinjb i i' h1 h2 (by simpa using he)) j x hj
    simpa using this
  have hout : ∀ r, (∀ j, j < outs.length → bk L n j ≠ r) → hp2 r = hp r := fun r hr => by
    rw [hhp2]; exact outUps_out L n outs 0 hp r (fun i hi => by simpa using hr i hi)
  -- which row of the callee's a number of the caller's is
  have hcase : ∀ r, (∃ j, j < outs.length ∧ bk L n j = r) ∨ (∀ j, j < outs.length → bk L n j ≠ r) := by
    intro r
    by_cases c : ∃ j, j < outs.length ∧ bk L n j = r
    · exact .inl c
    · exact .inr (fun j hj he => c ⟨j, hj, he⟩)
  have hπ2 : ∃ π2 : Plc, (∀ j, j < outs.length → π2 (bk L n j) = π' j) ∧ (∀ r, (∀ j, j < outs.length → bk L n j ≠ r) → π2 r = π r) := by
    refine ⟨fun r => match (List.range outs.length).find? (fun j => bk L n j == r) with | some j => π' j | none => π r, fun j hj => ?_, fun r hr => ?_⟩
    · have : (List.range outs.length).find? (fun i => bk L n i == bk L n j) = some j := by
        rw [List.find?_range_eq_some]
        refine ⟨by simp, by simpa using hj, fun i hi => ?_⟩
        simp only [Bool.not_eq_true', beq_eq_false_iff_ne]
        exact fun he => by have := hinjb i j (by omega) hj he; omega
      simp only [this]
    · have : (List.range outs.length).find? (fun i => bk L n i == r) = none := by
        rw [List.find?_eq_none]
        intro i hi
        simpa using hr i (by simpa using hi)
      simp only [this]
  obtain ⟨π2, hπ2a, hπ2b⟩ := hπ2
  -- lent blocks
  have hA'old : ∀ b, A' b → b < w.heap.size → ∃ r p, r ∈ L ∧ π r = some (some p) ∧ p.b = b := by
    rintro b (h1 | ⟨j, p, h1, h2⟩) hb
    · omega
    · cases hL : L[j]? with
      | none => simp only [πc, hL] at h1; cases h1
      | some r => simp only [πc, hL] at h1; exact ⟨r, p, List.mem_of_getElem? hL, h1, h2⟩
  have horg : ∀ j r, L[j]? = some r → π' j = π r ∨ π' j = none := by
    intro j r hj
    have hjl : j < L.length := (List.getElem?_eq_some_iff.1 hj).1
    have := h'.org j hjl
    have e : πc j = π r := by simp only [πc, hj]
    rw [← e]
    exact this
  have hnewlive : ∀ j p, π' j = some (some p) → j < outs.length := by
    intro j p hj
    rcases Nat.lt_or_ge j outs.length with hl | hl
    · exact hl
    · have := h'.live j (by unfold hpL; rw [List.getElem?_eq_none hl])
      rw [this] at hj; cases hj
  have hA'p : ∀ j p, π' j = some (some p) → A' p.b := by
    intro j p hj
    have hlt := hnewlive j p hj
    cases hh : hpL outs j with
    | none => rw [h'.live j hh] at hj; cases hj
    | some row =>
      have := h'.rows j row hh
      unfold RowOk at this
      rw [hj] at this
      exact this.1
  have holdblk : ∀ b, b < w.heap.size → ¬ A' b → w'.heap[b]? = w.heap[b]? := fun b hb hA => h'.keep.block b hb hA
  have hmold : ∀ ad u, m ad = some u → ad.block < w.heap.size ∧ ¬ A' ad.block := by
    intro ad u hu
    have h1 := World.block_lt_of_cell? _ _ (h.mok ad u hu).2
    refine ⟨h1, fun hA => ?_⟩
    obtain ⟨r, p, _, h2, h3⟩ := hA'old _ hA h1
    exact h.dis r p ad u h2 hu h3.symm
  obtain ⟨m2, hm2a, hm2b⟩ : ∃ m2 : Mem, (∀ ad, ad.block < w.heap.size ∧ ¬ A' ad.block → m2 ad = m ad) ∧ (∀ ad, ¬ (ad.block < w.heap.size ∧ ¬ A' ad.block) → m2 ad = m' ad) := by
    classical
    exact ⟨fun ad => if ad.block < w.heap.size ∧ ¬ A' ad.block then m ad else m' ad, fun ad h => if_pos h, fun ad h => if_neg h⟩
  have hm2 : ∀ ad u, m ad = some u → m2 ad = some u := fun ad u hu => by
    rw [hm2a ad (hmold ad u hu)]; exact hu
  have hm2c : ∀ ad u, m2 ad = some u → (ad.block < w.heap.size ∧ ¬ A' ad.block ∧ m ad = some u) ∨ (A' ad.block ∧ m' ad = some u) := by
    intro ad u hu
    by_cases c : ad.block < w.heap.size ∧ ¬ A' ad.block
    · rw [hm2a ad c] at hu; exact .inl ⟨c.1, c.2, hu⟩
    · rw [hm2b ad c] at hu
      refine .inr ⟨?_, hu⟩
      by_cases c2 : A' ad.block
      · exact c2
      · exact .inl (Nat.not_lt.1 (fun c3 => c ⟨c3, c2⟩))
  -- what comes back
  have hback : ∀ j, j < outs.length → ∃ r, back L n j = some r ∧ π2 r = π' j := fun j hj => ⟨bk L n j, rfl, hπ2a j hj⟩
  have hcells : ∀ (C : Cell → Prop), (∀ c, C c → c.cl (outs.length ≤ ·)) → (S = [] ∨ ∀ c, C c → c.noG = true) → ∀ c u, C c → VC m' π' c u → VC m2 π2 (c.ren (back L n)) u := by
    intro C hC hor c u hcc hvc
    rcases hor with hS0 | hg
    · refine vc_back (fun ad x hx => ?_) hback (hC c hcc) hvc
      by_cases hb : ad.block < w.heap.size ∧ ¬ A' ad.block
      · rw [hm2a ad hb]
        have hmg := h'.mg ad x hx
        simp only [base] at hmg
        rcases hmg with hsome | hge
        · have hms : memS m π w S ad = m ad := by
            unfold memS; rw [if_neg]; rw [hS0]; simp [inS]
          rw [hms] at hsome
          obtain ⟨u0, hu0⟩ := Option.isSome_iff_exists.1 hsome
          have h1 := (h'.mok ad x hx).2
          have h2 := (h.mok ad u0 hu0).2
          rw [cell_same (holdblk _ hb.1 (hmold ad u0 hu0).2), h2] at h1
          cases h1; exact hu0
        · exact absurd hge hb.2
      · rw [hm2b ad hb]; exact hx
    · exact vc_back_noG hback (hg c hcc) (hC c hcc) hvc
  have hfresh := hfr
  have hsub : ∀ r, (Fr r ∧ ¬ (n ≤ r ∧ r < n + max 1 (outs.length - L.length))) → Fr r := fun r hr => hr.1
  have hbkFr : ∀ j, j < outs.length → ∃ r, back L n j = some r ∧ ¬ (Fr r ∧ ¬ (n ≤ r ∧ r < n + max 1 (outs.length - L.length))) := by
    intro j hj
    refine ⟨bk L n j, rfl, ?_⟩
    by_cases c : j < L.length
    · rw [hbk1 j L[j] (by simp [c])]
      exact fun hh => hnotFr _ (List.getElem_mem c) hh.1
    · rw [hbk2 j (by omega)]
      exact fun hh => hh.2 ⟨by omega, by omega⟩
  have hnoFr2 : ∀ r, ¬ Fr r → π2 r = π r ∨ π2 r = none := by
    intro r hr
    rcases hcase r with ⟨j, hj, he⟩ | hno
    · rw [← he, hπ2a j hj]
      by_cases c : j < L.length
      · have e := hbk1 j L[j] (by simp [c])
        rw [e]
        exact horg j L[j] (by simp [c])
      · exfalso
        rw [hbk2 j (by omega)] at he
        exact hr (he ▸ hF _ (by omega) (by omega))
    · exact .inl (hπ2b r hno)
  have hrowc : ∀ j row, hpL outs j = some row → S = [] ∨ ∀ c ∈ row.cells, c.noG = true := by
    intro j row hj
    rcases hfresh with h1 | ⟨_, h2⟩
    · exact .inl h1
    · right
      unfold hpL at hj
      cases ho : outs[j]? with
      | none => rw [ho] at hj; cases hj
      | some x => rw [ho] at hj; exact h2 x (List.mem_of_getElem? ho) row hj
  have hout' : ∀ j, j < outs.length → hp2 (bk L n j) = renO (back L n) (hpL outs j) := by
    intro j hj
    have e : outs[j]? = some outs[j] := by simp [hj]
    rw [hin j _ e]
    unfold hpL
    rw [e]
  refine ⟨v, m2, π2, rfl, ?_, ?_, ?_⟩
  · rw [← hhp2]
    refine ⟨h.defers, h.size, ?_, ?_, ?_, ?_, ?_, ?_, ?_, ?_, ?_, ?_, h.new, ?_, ?_, h.gnew, ?_, ?_, h.gl⟩
    · intro k v hk
      exact VS.mono hm2 hnoFr2 (h.tcl k v hk) (h.tms k v hk)
    · intro k v hk
      exact SV.cl.mono hsub (h.tcl k v hk)
    · -- rows
      intro r row hr
      rcases hcase r with ⟨j, hj, he⟩ | hno
      · rw [← he, hout' j hj] at hr
        cases hh : hpL outs j with
        | none => rw [hh] at hr; cases hr
        | some row0 =>
          rw [hh] at hr
          simp only [renO, Option.some.injEq] at hr
          subst hr
          have hro := h'.rows j row0 hh
          unfold RowOk at hro ⊢
          rw [← he, hπ2a j hj]
          cases hq : π' j with
          | none => rw [hq] at hro; exact hro.elim
          | some q =>
            rw [hq] at hro
            cases q with
            | none => simp only at hro ⊢; simp [Row.ren, hro]
            | some p =>
              obtain ⟨g1, g2, arr, ee, g3, g4, g5, g6⟩ := hro
              refine ⟨?_, g2, arr, ee, g3, g4, ⟨fun hz => by simpa [Row.ren] using g5.1 hz, fun hz => by simpa [Row.ren] using g5.2 hz⟩, fun i c hi => ?_⟩
              · rcases Nat.lt_or_ge p.b w.heap.size with hb | hb
                · obtain ⟨r', p', hr', hp', hb'⟩ := hA'old _ g1 hb
                  obtain ⟨row', hrow', _⟩ := hlv r' hr'
                  have := h.rows r' row' hrow'
                  unfold RowOk at this
                  rw [hp'] at this
                  rw [← hb']; exact this.1
                · exact h.new _ (Nat.le_trans h.keep.size hb)
              · simp only [Row.ren, List.getElem?_map, Option.map_eq_some_iff] at hi
                obtain ⟨c0, hc0, rfl⟩ := hi
                obtain ⟨x, k1, k2⟩ := g6 i c0 hc0
                refine ⟨x, k1, ?_⟩
                refine hcells (fun c => c ∈ row0.cells) (fun c hcm => h'.rcl j row0 hh c hcm) (hrowc j row0 hh) c0 x (List.mem_of_getElem? hc0) k2
      · rw [hout r hno] at hr
        have hro := h.rows r row hr
        unfold RowOk at hro ⊢
        rw [hπ2b r hno]
        cases hq : π r with
        | none => rw [hq] at hro; exact hro.elim
        | some q =>
          rw [hq] at hro
          cases q with
          | none => exact hro
          | some p =>
            obtain ⟨g1, g2, arr, ee, g3, g4, g5, g6⟩ := hro
            have hnA : ¬ A' p.b := by
              intro hA
              obtain ⟨r', p', hr', hp', hb'⟩ := hA'old _ hA (h.lt hq)
              have := h.inj r' r p' p hp' hq hb'
              subst this
              cases hi : idx r' L with
              | none => exact idx_none hi hr'
              | some j =>
                have hj := idx_some hi
                have hjl := (List.getElem?_eq_some_iff.1 hj).1
                exact hno j (by omega) (hbk1 j r' hj)
            refine ⟨g1, g2, arr, ee, g3.same (holdblk _ (h.lt hq) hnA), g4, g5, fun i c hi => ?_⟩
            obtain ⟨x, k1, k2⟩ := g6 i c hi
            exact ⟨x, k1, VC.mono hm2 hnoFr2 (h.rcl r row hr c (List.mem_of_getElem? hi)) k2⟩
    · intro r row hr c hcm
      rcases hcase r with ⟨j, hj, he⟩ | hno
      · rw [← he, hout' j hj] at hr
        cases hh : hpL outs j with
        | none => rw [hh] at hr; cases hr
        | some row0 =>
          rw [hh] at hr
          simp only [renO, Option.some.injEq] at hr
          subst hr
          obtain ⟨c0, hc0, rfl⟩ := List.mem_map.1 hcm
          exact cl_ren hbkFr (h'.rcl j row0 hh c0 hc0)
      · rw [hout r hno] at hr
        exact Cell.cl.mono hsub (h.rcl r row hr c hcm)
    · intro r row hr c hcm
      rcases hcase r with ⟨j, hj, he⟩ | hno
      · rw [← he, hout' j hj] at hr
        cases hh : hpL outs j with
        | none => rw [hh] at hr; cases hr
        | some row0 =>
          rw [hh] at hr
          simp only [renO, Option.some.injEq] at hr
          subst hr
          obtain ⟨c0, hc0, rfl⟩ := List.mem_map.1 hcm
          have hso := h'.rsol j row0 hh c0 hc0
          cases c0 with
          | osl _ _ _ _ => simp only [Cell.ren, back]; exact fun hh => by cases hh
          | optr _ _ => simp only [Cell.ren, back]; exact fun hh => by cases hh
          | mp _ _ => simp only [Cell.ren, back]; exact fun hh => by cases hh
          | _ => exact hso
      · rw [hout r hno] at hr
        exact h.rsol r row hr c hcm
    · intro r hr
      rcases hcase r with ⟨j, hj, he⟩ | hno
      · rw [← he, hout' j hj] at hr
        rw [← he, hπ2a j hj]
        cases hh : hpL outs j with
        | none => exact h'.live j hh
        | some row0 => rw [hh] at hr; cases hr
      · rw [hout r hno] at hr
        rw [hπ2b r hno]
        exact h.live r hr
    · intro r hr
      rcases hcase r with ⟨j, hj, he⟩ | hno
      · exfalso
        obtain ⟨r', h1, h2⟩ := hbkFr j hj
        simp only [back, Option.some.injEq] at h1
        rw [h1] at he
        exact h2 (he ▸ hr)
      · rw [hout r hno]
        exact h.fresh r hr.1
    · intro r r' p p' h1 h2 h3
      rcases hcase r with ⟨j, hj, he⟩ | hno
      · rcases hcase r' with ⟨j', hj', he'⟩ | hno'
        · rw [← he, hπ2a j hj] at h1
          rw [← he', hπ2a j' hj'] at h2
          have := h'.inj j j' p p' h1 h2 h3
          rw [← he, ← he', this]
        · exfalso
          rw [← he, hπ2a j hj] at h1
          rw [hπ2b r' hno'] at h2
          have hb := h.lt h2
          obtain ⟨r2, p2, hr2, hp2', hb2⟩ := hA'old _ (hA'p j p h1) (by omega)
          have := h.inj r2 r' p2 p' hp2' h2 (by omega)
          subst this
          cases hi : idx r2 L with
          | none => exact idx_none hi hr2
          | some jj =>
            have hjj := idx_some hi
            have hjl := (List.getElem?_eq_some_iff.1 hjj).1
            exact hno' jj (by omega) (hbk1 jj r2 hjj)
      · rcases hcase r' with ⟨j', hj', he'⟩ | hno'
        · exfalso
          rw [← he', hπ2a j' hj'] at h2
          rw [hπ2b r hno] at h1
          have hb := h.lt h1
          obtain ⟨r2, p2, hr2, hp2', hb2⟩ := hA'old _ (hA'p j' p' h2) (by omega)
          have := h.inj r2 r p2 p hp2' h1 (by omega)
          subst this
          cases hi : idx r2 L with
          | none => exact idx_none hi hr2
          | some jj =>
            have hjj := idx_some hi
            have hjl := (List.getElem?_eq_some_iff.1 hjj).1
            exact hno jj (by omega) (hbk1 jj r2 hjj)
        · rw [hπ2b r hno] at h1
          rw [hπ2b r' hno'] at h2
          exact h.inj r r' p p' h1 h2 h3
    · intro ad u hu
      rcases hm2c ad u hu with ⟨hb, hnA, hu⟩ | ⟨hA2, hu⟩
      · obtain ⟨h1, h2⟩ := h.mok ad u hu
        exact ⟨h1, by rw [cell_same (holdblk _ hb hnA)]; exact h2⟩
      · exact h'.mok ad u hu
    · intro r p ad u h1 hu
      rcases hm2c ad u hu with ⟨hb, hnA, hu⟩ | ⟨hA2, hu⟩
      · rcases hcase r with ⟨j, hj, he⟩ | hno
        · rw [← he, hπ2a j hj] at h1
          intro e
          exact hnA (e ▸ hA'p j p h1)
        · rw [hπ2b r hno] at h1
          exact h.dis r p ad u h1 hu
      · rcases hcase r with ⟨j, hj, he⟩ | hno
        · rw [← he, hπ2a j hj] at h1
          exact h'.dis j p ad u h1 hu
        · rw [hπ2b r hno] at h1
          have hlt := h.lt h1
          intro e
          obtain ⟨r2, p2, hr2, hp2', hb2⟩ := hA'old _ hA2 (by omega)
          have := h.inj r2 r p2 p hp2' h1 (by omega)
          subst this
          cases hi : idx r2 L with
          | none => exact idx_none hi hr2
          | some jj =>
            have hjj := idx_some hi
            have hjl := (List.getElem?_eq_some_iff.1 hjj).1
            exact hno jj (by omega) (hbk1 jj r2 hjj)
    · refine ⟨h'.keep.os.trans h.keep.os, h'.keep.tape.trans h.keep.tape, h'.keep.output.trans h.keep.output, Nat.le_trans h.keep.size h'.keep.size, fun b hb hA => ?_⟩
      rw [holdblk b (Nat.lt_of_lt_of_le hb h.keep.size) (fun hA2 => ?_)]
      · exact h.keep.block b hb hA
      · obtain ⟨r2, p2, hr2, hp2', hb2⟩ := hA'old _ hA2 (Nat.lt_of_lt_of_le hb h.keep.size)
        obtain ⟨row', hrow', _⟩ := hlv r2 hr2
        have := h.rows r2 row' hrow'
        unfold RowOk at this
        rw [hp2'] at this
        exact hA (hb2 ▸ this.1)
    · intro ad u hu
      rcases hm2c ad u hu with ⟨hb, hnA, hu⟩ | ⟨hA2, hu⟩
      · exact h.mg ad u hu
      · refine h.gnew ad ?_
        rcases Nat.lt_or_ge ad.block w.heap.size with hb | hb
        · obtain ⟨r2, p2, hr2, hp2', hb2⟩ := hA'old _ hA2 hb
          obtain ⟨row', hrow', _⟩ := hlv r2 hr2
          have := h.rows r2 row' hrow'
          unfold RowOk at this
          rw [hp2'] at this
          exact hb2 ▸ this.1
        · exact h.new _ (Nat.le_trans h.keep.size hb)
    · intro r hr
      rcases hcase r with ⟨j, hj, he⟩ | hno
      · rw [← he, hπ2a j hj]
        by_cases c : j < L.length
        · have e := hbk1 j L[j] (by simp [c])
          rcases horg j L[j] (by simp [c]) with h1 | h1
          · rw [h1, e]
            rw [← he, e] at hr
            exact h.org _ hr
          · exact .inr h1
        · exfalso
          rw [hbk2 j (by omega)] at he
          have := h.frk _ (hF (n + (j - L.length)) (by omega) (by omega))
          omega
      · rw [hπ2b r hno]
        exact h.org r hr
    · intro r hr
      exact h.frk r hr.1
  · rcases hfresh with hS0 | ⟨hg, _⟩
    · exact vs_map (C := fun c => c.cl (outs.length ≤ ·)) (fun c u hcc hvc => hcells _ (fun c h => h) (.inl hS0) c u hcc hvc) (allC_of (C := fun _ => True) (outs.length ≤ ·) (fun c _ h => h) (allC_true res) hcl') hv'
    · exact vs_map (C := fun c => c.noG = true ∧ c.cl (outs.length ≤ ·)) (fun c u hcc hvc => hcells (fun c => c.noG = true ∧ c.cl (outs.length ≤ ·)) (fun c h => h.2) (.inr (fun c h => h.1)) c u hcc hvc) (allC_of (outs.length ≤ ·) (fun c h1 h2 => ⟨h1, h2⟩) (allC_noG hg) hcl') hv'
  · exact clS_ren hbkFr hcl'


theorem call_ok (h : RelAt P w0 A N Fr tm hp a w m π) {f : FuncId} {args : List SV} {vals : Array Value} (hv : VSL m π args vals.toList) {L : List Nat} {n : Nat} {res : SV} {outs : List (Option Row)}
    (hc : CallOk L hp args res outs) (hs : FnSpecD P f (args.map (prepV L hp)) (lentRows L hp) res outs) (hF : ∀ r, n ≤ r → r < n + max 1 (outs.length - L.length) → Fr r) :
    Does P f vals w fun e w' => ∃ v m' π', e = .returned v ∧ RelAt P w0 A N (fun r => Fr r ∧ ¬ (n ≤ r ∧ r < n + max 1 (outs.length - L.length))) tm (upds hp (outUpsFrom L n 0 outs)) a w' m' π' ∧
      VS m' π' (res.ren (back L n)) v ∧ (res.ren (back L n)).cl (fun r => Fr r ∧ ¬ (n ≤ r ∧ r < n + max 1 (outs.length - L.length))) := by
  obtain ⟨S, hSdef⟩ : ∃ S, S = snaps L args := ⟨_, rfl⟩
  have hS1 : ∀ r ∈ args.flatMap SV.refs, idx r L = none → r ∈ S := fun r hr hi => by
    rw [hSdef]; unfold snaps; rw [List.mem_filter]; exact ⟨hr, by rw [hi]; rfl⟩
  have hS2 : ∀ r ∈ S, idx r L = none := fun r hr => by
    rw [hSdef] at hr; unfold snaps at hr; rw [List.mem_filter] at hr
    cases hi : idx r L with
    | none => rfl
    | some j => rw [hi] at hr; cases hr.2
  have hsh : ∀ r ∈ S, ∃ row, hp r = some row ∧ ∀ c ∈ row.cells, c.isG = true := by rw [hSdef]; exact hc.shown
  exact call_gen h S hS2 hsh hc.nodup hc.live hc.long (by rw [hSdef]; exact hc.fresh) (prepV_ok h L S hsh args vals.toList hS1 hv).1 (prepV_ok h L S hsh args vals.toList hS1 hv).2 hs hF

end
end Go.Proofs.YtfkcolodbjonkabDoor.Sh
