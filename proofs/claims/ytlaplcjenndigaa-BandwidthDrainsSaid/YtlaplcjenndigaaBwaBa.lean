/- Contracts of functions, told of values, on the way to BandwidthDrains. -/
import Derived.Test.YtlaplcjenndigaaTyBa
import Derived.Test.YtlaplcjenndigaaBw9Ba
-- NEWGO
-- PRUNE: cg_tp cg_ts cg_any cg_show cl_use cl_show cl_lendx
namespace Go.Proofs.Ytlaplcjenndigaa
set_option linter.unusedVariables false
set_option linter.unusedSimpArgs false
open Go.Proofs.Ytlaplcjenndigaa.Sh
set_option maxRecDepth 20000
theorem pn0_ok {g q b s n : Int} (hg : 1 ≤ g ∧ g ≤ 1000) (hst : stl q b = true) (hs : 1 ≤ s ∧ s ≤ 1000) (hn : 1 ≤ n ∧ n ≤ 16) : pck (pn0 g q b s n) = true ∧ mst (pn0 g q b s n) = (if q = 4611686018427387904 then 0 else q + b) := by
  have h0 : ∀ (n j : Nat), (List.replicate n (0 : Int)).getD j 0 = 0 := fun n j => by
    simp only [List.getD_eq_getElem?_getD, List.getElem?_replicate]; split <;> rfl
  have hsum : ∀ (n j : Nat), sumN (List.replicate n (0 : Int)) j = 0 := fun n j => by
    induction j with
    | zero => rfl
    | succ j ih => simp only [sumN, ih, h0]; rfl
  have hm : mst (pn0 g q b s n) = (if q = 4611686018427387904 then 0 else q + b) := by
    simp only [mst, lim, pn0, Bool.not_eq_true', decide_eq_false_iff_not]
    by_cases hq : q = 4611686018427387904 <;> simp [hq]
  have hst' := stl_iff.1 hst
  have hl : (pn0 g q b s n).l = if q = 4611686018427387904 then 0 else q := rfl
  have hh : hld (pn0 g q b s n) = (if q = 4611686018427387904 then 0 else q) := by
    show (if q = 4611686018427387904 then 0 else q) + sumN _ _ = _
    rw [show (pn0 g q b s n).c = List.replicate n.toNat 0 from rfl, hsum]; omega
  have hc := call_of (x := pn0 g q b s n) (fun i => by show 0 ≤ (List.replicate n.toNat (0 : Int)).getD i 0; rw [h0]; omega) (by rw [hl]; split <;> omega) (by rw [hh, hm]; split <;> omega)
  refine ⟨?_, hm⟩
  rw [pck_iff]
  refine ⟨by show 1 ≤ g ∧ g ≤ 2147483647; omega, hst, by show 1 ≤ s ∧ s ≤ 1000000; omega, by simp only [pn0, List.length_replicate]; omega, ⟨hc.1, ⟨by rw [hl]; split <;> omega, hc.2⟩, by rw [hh, hm]; split <;> omega⟩, by simp [pn0], by simp [pn0], by simp [pn0]⟩
def upd1 (x : Pl) (r : Pl × Int) : Pl := if r.2 = 0 then r.1 else x
def poI (l : List Int) (s : Pl × Nat) : Nat := nxA l (nxA l s.2 s.1.c.length) 6
def poC (l : List Int) (s : Pl × Nat) : Int := nxV l s.2 s.1.c.length
def poQ (l : List Int) (s : Pl × Nat) : Int := if nxV l (nxA l (poI l s) 9) 4 = 3 then 4611686018427387904 else 1 + nxV l (poI l s) 9
def poS (l : List Int) (s : Pl × Nat) : Pl × Nat :=
  match (nxV l (nxA l s.2 s.1.c.length) 6).toNat with
  | 0 => (upd1 s.1 (ptake s.1 (poC l s)), poI l s)
  | 1 => ((pspend s.1 (poC l s)).1, poI l s)
  | 2 => ((pspend s.1 (poC l s)).1, poI l s)
  | 3 => (upd1 s.1 (preturn s.1 (poC l s)), poI l s)
  | 4 => (upd1 s.1 (prefill s.1), poI l s)
  | _ => (upd1 s.1 (pchange s.1 (poQ l s) 0), nxA l (nxA l (poI l s) 9) 4)
def poL (l : List Int) : Nat → Pl × Nat → Pl × Nat
  | 0, s => s
  | n + 1, s => poL l n (poS l s)
def po1 (l : List Int) (i : Nat) : (Int × Int) × Nat := if nxV l i 6 = 5 then ((4611686018427387904, 0), nxA l i 6) else ((1 + nxV l (nxA l i 6) 9, nxV l (nxA l (nxA l i 6) 9) (1 + nxV l (nxA l i 6) 9 + 1)), nxA l (nxA l (nxA l i 6) 9) (1 + nxV l (nxA l i 6) 9 + 1))
def po0 (l : List Int) (i : Nat) : Pl × Nat :=
  (pn0 (1 + nxV l (po1 l i).2 3) (po1 l i).1.1 (po1 l i).1.2 (1 + nxV l (nxA l (po1 l i).2 3) 4) (1 + nxV l (nxA l (nxA l (po1 l i).2 3) 4) 3), nxA l (nxA l (nxA l (po1 l i).2 3) 4) 3)
def poK (l : List Int) (i : Nat) (n : Int) : Nat := (nxV l (po0 l i).2 (n + 1)).toNat
def mkP (l : List Int) (i : Nat) (n : Int) : Pl × Nat := poL l (poK l i n) ((po0 l i).1, nxA l (po0 l i).2 (n + 1))
structure Ok (x : Pl) (p : Int) : Prop where
  ok : pck x = true
  pe : x.pe ≤ p
  sp : x.sp ≤ p
theorem upd1_ok {x : Pl} {r : Pl × Int} {p : Int} (h : Ok x p) (hr : r.2 = 0 → pck r.1 = true ∧ r.1.pe ≤ x.pe + 1 ∧ r.1.sp ≤ p + 1) : Ok (upd1 x r) (p + 1) := by
  have := h.pe
  have := h.sp
  unfold upd1
  split
  · rename_i e
    have h1 := hr e
    exact ⟨h1.1, by omega, by omega⟩
  · exact ⟨h.ok, by omega, by omega⟩
theorem po1_rng (l : List Int) (i : Nat) : stl (po1 l i).1.1 (po1 l i).1.2 = true := by
  have h9 := nxV_rng l (nxA l i 6) 9 (by omega)
  have hb := nxV_rng l (nxA l (nxA l i 6) 9) (1 + nxV l (nxA l i 6) 9 + 1) (by omega)
  unfold po1
  split
  · rw [stl_iff]; exact .inl ⟨rfl, rfl⟩
  · rw [stl_iff]; right; simp only; omega
theorem po0_ok (l : List Int) (i : Nat) : Ok (po0 l i).1 1 := by
  have h1 := nxV_rng l (po1 l i).2 3 (by omega)
  have h2 := nxV_rng l (nxA l (po1 l i).2 3) 4 (by omega)
  have h3 := nxV_rng l (nxA l (nxA l (po1 l i).2 3) 4) 3 (by omega)
  exact ⟨(pn0_ok (by omega) (po1_rng l i) (by omega) (by omega)).1, Int.le_refl _, by show (0 : Int) ≤ 1; omega⟩
theorem poC_rng {x : Pl} (h : pck x = true) (l : List Int) (i : Nat) : 0 ≤ poC l (x, i) ∧ poC l (x, i) < x.c.length := by
  have := (nums h).len
  exact nxV_rng l i x.c.length (by omega)
theorem ptake_ok {x : Pl} {c : Int} (h : pck x = true) (hc : 0 ≤ c ∧ c < x.c.length) : ptake x c = if takes x = true then (ptk x c, 0) else (pz, 11) := by
  unfold ptake
  rw [if_neg (by simp [pchk_in h hc])]
  cases takes x <;> simp
theorem preturn_ok {x : Pl} {c : Int} (h : pck x = true) (hc : 0 ≤ c ∧ c < x.c.length) : preturn x c = (pret x c, 0) := by
  unfold preturn
  rw [if_neg (by simp [pchk_in h hc])]
theorem pspend_pe (x : Pl) (c : Int) (h : pck x = true) (hc : 0 ≤ c ∧ c < x.c.length) : (pspend x c).1.pe = x.pe := by
  unfold pspend
  rw [if_neg (by simp [pchk_in h hc])]
  repeat' split
  all_goals rfl
theorem stl0 {q : Int} (h : q = 4611686018427387904 ∨ (1 ≤ q ∧ q ≤ 1000)) : stl q 0 = true := by
  rw [stl_iff]; omega
theorem poQ_rng (l : List Int) (s : Pl × Nat) : poQ l s = 4611686018427387904 ∨ (1 ≤ poQ l s ∧ poQ l s ≤ 1000) := by
  have h9 := nxV_rng l (poI l s) 9 (by omega)
  unfold poQ
  split
  · exact .inl rfl
  · right; omega
theorem pchange_ok {x : Pl} {q b : Int} (h : pck x = true) (hs : stl q b = true) : pchange x q b = (pchg x q b, 0) := by
  unfold pchange
  rw [if_neg (by simp [h]), if_neg (by simp [hs])]
theorem pspend_sp (x : Pl) (c : Int) (h : pck x = true) (hc : 0 ≤ c ∧ c < x.c.length) : (pspend x c).1.sp ≤ x.sp + 1 := by
  have hm : msp x ≤ x.sp + 1 := (mn_le _ _).1
  unfold pspend
  rw [if_neg (by simp [pchk_in h hc])]
  split
  · exact hm
  · split
    · show x.sp ≤ x.sp + 1; omega
    · split
      · exact hm
      · exact hm
theorem poS_ok {l : List Int} {x : Pl} {i : Nat} {p : Int} (h : Ok x p) (hp0 : 0 ≤ p) : Ok (poS l (x, i)).1 (p + 1) := by
  have hc := poC_rng h.ok l i
  have hp := h.pe
  have hq := h.sp
  unfold poS
  split
  · refine upd1_ok h fun he => ?_
    show pck (ptake x (poC l (x, i))).1 = true ∧ (ptake x (poC l (x, i))).1.pe ≤ x.pe + 1 ∧ (ptake x (poC l (x, i))).1.sp ≤ p + 1
    have he' : (ptake x (poC l (x, i))).2 = 0 := he
    rw [ptake_ok h.ok hc] at he' ⊢
    cases ht : takes x with
    | false => rw [ht] at he'; cases he'
    | true => exact ⟨(ptk_ok h.ok hc).1, by show x.pe ≤ x.pe + 1; omega, by show x.sp ≤ p + 1; omega⟩
  · have := (pspend_ok h.ok hc).1
    have h2 := pspend_sp _ _ h.ok hc
    exact ⟨this, by rw [pspend_pe _ _ h.ok hc]; omega, by show (pspend x (poC l (x, i))).1.sp ≤ p + 1; omega⟩
  · have := (pspend_ok h.ok hc).1
    have h2 := pspend_sp _ _ h.ok hc
    exact ⟨this, by rw [pspend_pe _ _ h.ok hc]; omega, by show (pspend x (poC l (x, i))).1.sp ≤ p + 1; omega⟩
  · refine upd1_ok h fun _ => ?_
    simp only at *
    rw [preturn_ok h.ok hc] at *
    exact ⟨(pret_ok h.ok hc).1, by simp only [pret]; omega, by simp only [pret]; omega⟩
  · refine upd1_ok h fun he => ?_
    unfold prefill at he ⊢
    simp only [h.ok, Bool.true_eq_false, if_false] at he ⊢
    split
    · rename_i e; rw [if_pos e] at he; cases he
    · rename_i e; exact ⟨(pfil_ok h.ok e).1, by simp only [pfil]; omega, by simp only [pfil]; omega⟩
  · refine upd1_ok h fun _ => ?_
    have hs := stl0 (poQ_rng l (x, i))
    rw [pchange_ok h.ok hs]
    exact ⟨(pchg_ok h.ok hs).1, by simp only [pchg]; omega, by simp only [pchg]; omega⟩
theorem poL_ok {l : List Int} : ∀ (n : Nat) {x : Pl} {i : Nat} {p : Int}, Ok x p → 0 ≤ p → Ok (poL l n (x, i)).1 (p + n)
  | 0, x, i, p, h, _ => ⟨h.ok, by have := h.pe; simp [poL]; omega, by have := h.sp; simp [poL]; omega⟩
  | n + 1, x, i, p, h, hp => by
    have h1 := poS_ok (l := l) (i := i) h hp
    have h2 := poL_ok (l := l) n (x := (poS l (x, i)).1) (i := (poS l (x, i)).2) h1 (by omega)
    refine ⟨h2.ok, ?_, ?_⟩
    · have h3 : (poL l n (poS l (x, i))).1.pe ≤ p + 1 + n := h2.pe
      show (poL l n (poS l (x, i))).1.pe ≤ _
      omega
    · have h3 : (poL l n (poS l (x, i))).1.sp ≤ p + 1 + n := h2.sp
      show (poL l n (poS l (x, i))).1.sp ≤ _
      omega
theorem mkP_ok (l : List Int) (i : Nat) (n : Int) (hn : 0 ≤ n) : Ok (mkP l i n).1 (1 + n) := by
  have h := poL_ok (l := l) (poK l i n) (i := nxA l (po0 l i).2 (n + 1)) (po0_ok l i) (by omega)
  have hk := nxV_rng l (po0 l i).2 (n + 1) (by omega)
  have : (poK l i n : Int) ≤ n := by unfold poK; omega
  exact ⟨h.ok, by have := h.pe; unfold mkP; omega, by have := h.sp; unfold mkP; omega⟩
end Go.Proofs.Ytlaplcjenndigaa
