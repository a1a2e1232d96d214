/- From a function's text, told of data, to what it does; weaker words for a state. -/
import Derived.Test.YtfkcolodbjonkabDoorShP
namespace Go.Proofs.YtfkcolodbjonkabDoor.Sh
open Go.RowKit
set_option linter.unusedVariables false
set_option linter.unusedSimpArgs false

def argsTm : Nat → List SV → List (Nat × SV)
  | _, [] => []
  | i, x :: l => (i, x) :: argsTm (i + 1) l

def rowsHp : Nat → List Row → List (Nat × Option Row)
  | _, [] => []
  | i, x :: l => (i, some x) :: rowsHp (i + 1) l

def resV (T : Tab) (s : St) : List ResultVar → Prop × List SV
  | [] => (True, [])
  | .tmp t :: r => ((resV T s r).1, (evS s.tmF (.tmp t)) :: (resV T s r).2)
  | .cell a t :: r => ((sLoad T s.hpF t (evS s.tmF (.tmp a))).need ∧ (resV T s r).1, (sLoad T s.hpF t (evS s.tmF (.tmp a))).val :: (resV T s r).2)

def resS : List SV → SV
  | [x] => x
  | l => .tup l

def FinS (T : Tab) (rs : List ResultVar) (k : Nat) (res : SV) (outs : List (Option Row)) (s : St) : Prop :=
  ∃ σ : List Nat, σ.Nodup ∧ (∀ j, j < k → σ[j]? = some j) ∧ (resV T s rs).1 ∧ (resS (resV T s rs).2).ren (fun q => idx q σ) = res ∧ σ.map (fun r => renO (fun q => idx q σ) (s.hpF r)) = outs ∧
    ∀ r ∈ σ, ∀ row, s.hpF r = some row → ∀ c ∈ row.cells, ∀ q ∈ c.refs, q ∈ σ

def SVW (x y : SV) : Prop := (∀ (m : Mem) (π : Plc) (v : Value), VS m π x v → VS m π y v) ∧ ∀ (Fr : Nat → Prop), x.cl Fr → y.cl Fr
theorem SVW.refl (x : SV) : SVW x x := ⟨fun _ _ _ h => h, fun _ h => h⟩

def FinI (T : Tab) (rs : List ResultVar) (k : Nat) (res : SV) (outs : List (Option Row)) (s : St) : Prop := ∃ t res0, Imp k s t ∧ FinS T rs k res0 outs t ∧ SVW res0 res

def FinX (T : Tab) (rs : List ResultVar) (k : Nat) (res : SV) (outs : List (Option Row)) : Exit → St → Prop
  | .normal, s => FinI T rs k res outs s
  | .ret, s => FinI T rs k res outs s
  | _, _ => False

theorem slot_argsTm : ∀ (l : List SV) (i k : Nat), slot k (argsTm i l) = if i ≤ k then l[k - i]? else none
  | [], i, k => by simp [argsTm, slot]
  | x :: l, i, k => by
    unfold argsTm slot
    by_cases e : i = k
    · subst e; simp
    · rw [if_neg e, slot_argsTm l (i + 1) k]
      by_cases h : i + 1 ≤ k
      · rw [if_pos h, if_pos (by omega), show k - i = (k - (i + 1)) + 1 by omega]; simp
      · rw [if_neg h, if_neg (by omega)]

theorem lookR_rowsHp : ∀ (l : List Row) (i k : Nat), lookR k (rowsHp i l) = if i ≤ k then l[k - i]? else none
  | [], i, k => by simp [rowsHp, lookR]
  | x :: l, i, k => by
    unfold rowsHp lookR
    by_cases e : i = k
    · subst e; simp
    · rw [if_neg e, lookR_rowsHp l (i + 1) k]
      by_cases h : i + 1 ≤ k
      · rw [if_pos h, if_pos (by omega), show k - i = (k - (i + 1)) + 1 by omega]; simp
      · rw [if_neg h, if_neg (by omega)]

def resF (tmps : Array Value) : ResultVar → Sem Value
  | .tmp t => pure (tmps.getD t undef)
  | .cell x t => do loadVar t (← asAddr (tmps.getD x undef))

theorem results_eq (fn : Func) (tmps : Array Value) : results fn tmps = (do
    let vs ← fn.results.mapM (resF tmps)
    pure (if h : vs.size = 1 then vs[0] else .tuple vs)) := by
  unfold results
  congr 1

section
variable {P : Program} {T : Tab} {An' : An} {w0 : Base} {A : Nat → Prop} {N : Nat} {Fr : Nat → Prop} {tm : Nat → Option SV} {hp : Nat → Option Row} {a : Act} {w : World} {m : Mem} {π : Plc}

theorem load_val (hT : TOk P T) (h : RelAt P w0 A N Fr tm hp a w m π) {t : Nat} {p : SV} {u : Value} (hp' : VS m π p u) (hn : (sLoad T hp t p).need) :
    ∃ v, (do loadVar t (← asAddr u)).run P w = .ok v w ∧ VS m π (sLoad T hp t p).val v ∧ (sLoad T hp t p).val.cl Fr := by
  unfold sLoad at hn ⊢
  cases hl : slot t T.ts with
  | none => rw [hl] at hn; exact hn.elim
  | some ti =>
    rw [hl] at hn
    have hti := hT t ti hl
    cases p with
    | agg cs => exact hn.elim
    | tup vs => exact hn.elim
    | one c =>
      cases c with
      | sc u => exact hn.elim
      | gsl a b c d => exact hn.elim
      | fn f caps => exact hn.elim
      | un => exact hn.elim
      | mp _ _ => exact hn.elim
      | osl a b c d => exact hn.elim
      | optr r off =>
        simp only at hn ⊢
        cases hr : hp r with
        | none => rw [hr] at hn; exact hn.elim
        | some row =>
          rw [hr] at hn
          simp only at hn ⊢
          have hrow := h.rows r row hr
          unfold RowOk at hrow
          obtain ⟨h1, h2⟩ := hp'
          cases hπ : π r with
          | none => rw [hπ] at hrow; exact hrow.elim
          | some q =>
            rw [hπ] at h2
            cases q with
            | none => exact h2.elim
            | some pl =>
              simp only at h2
              obtain ⟨v, hv1, hv2, hv3⟩ := read_ok (P := P) hti row.cells pl.b pl.o off (h.rcl r row hr) (rowcells h hr hπ h2.1) hn
              exact ⟨v, by rw [h2.2]; simp only [asAddr, Sem.run_bind, Sem.run_pure, Result.andThen_ok, hv1], hv2, hv3⟩
      | gptr cs off =>
        simp only at hn ⊢
        cases hp' with
        | gptr _ _ b o vals hm hv =>
          obtain ⟨g1, g2⟩ := vg_ptr_cells h hm hv
          obtain ⟨v, hv1, hv2, hv3⟩ := read_ok (P := P) hti cs b o off g2 g1 hn
          exact ⟨v, by simp only [asAddr, Sem.run_bind, Sem.run_pure, Result.andThen_ok, hv1], hv2, hv3⟩

theorem results_ok (hT : TOk P T) {s : St} (h : RelAt P w0 A N Fr s.tmF s.hpF a w m π) : ∀ (rs : List ResultVar), (resV T s rs).1 →
    ∃ vs : List Value, (rs.mapM (resF a.tmps)).run P w = .ok vs w ∧ VSL m π (resV T s rs).2 vs ∧ SV.clL Fr (resV T s rs).2
  | [], _ => ⟨[], rfl, trivial, trivial⟩
  | .tmp t :: rs, hn => by
    obtain ⟨vs, h1, h2, h3⟩ := results_ok hT h rs hn
    have hev := evS_ok h (.tmp t)
    refine ⟨a.tmps.getD t undef :: vs, ?_, ⟨hev.1, h2⟩, hev.2, h3⟩
    rw [List.mapM_cons]
    simp only [resF, Sem.run_bind, Sem.run_pure, Result.andThen_ok, h1]
  | .cell x t :: rs, hn => by
    obtain ⟨vs, h1, h2, h3⟩ := results_ok hT h rs hn.2
    have hev := evS_ok h (.tmp x)
    obtain ⟨v, k1, k2, k3⟩ := load_val hT h (u := a.tmps.getD x undef) hev.1 hn.1
    refine ⟨v :: vs, ?_, ⟨k2, h2⟩, k3, h3⟩
    rw [List.mapM_cons]
    have k1' : (resF a.tmps (.cell x t)).run P w = .ok v w := k1
    simp only [Sem.run_bind, Sem.run_pure, Result.andThen_ok, k1', h1]

theorem resS_ok {fn : Func} {vs : List Value} (hrun : (fn.results.toList.mapM (resF a.tmps)).run P w = .ok vs w)
    {ss : List SV} (hv : VSL m π ss vs) (hc : SV.clL Fr ss) : ∃ v, (results fn a.tmps).run P w = .ok v w ∧ VS m π (resS ss) v ∧ (resS ss).cl Fr := by
  have hl := hv.length
  have hm : (fn.results.mapM (resF a.tmps)).run P w = .ok vs.toArray w := by
    rw [Array.mapM_eq_mapM_toList]
    simp only [Sem.run_map, hrun, Result.andThen_ok]
  have hres : (results fn a.tmps).run P w = .ok (if h : vs.toArray.size = 1 then vs.toArray[0] else .tuple vs.toArray) w := by
    rw [results_eq]
    simp only [Sem.run_bind]
    rw [hm]
    rfl
  clear hrun hm
  cases ss with
  | nil =>
    cases vs with
    | nil => exact ⟨.tuple #[], by rw [hres]; rfl, ⟨#[], rfl, trivial⟩, trivial⟩
    | cons v vs => simp at hl
  | cons s1 ss =>
    cases vs with
    | nil => simp at hl
    | cons v1 vs =>
      cases ss with
      | nil =>
        cases vs with
        | nil => exact ⟨v1, by rw [hres]; simp, hv.1, hc.1⟩
        | cons v vs => simp at hl
      | cons s2 ss =>
        cases vs with
        | nil => simp at hl
        | cons v2 vs =>
          refine ⟨.tuple (v1 :: v2 :: vs).toArray, ?_, ⟨_, rfl, hv⟩, hc⟩
          rw [hres]; simp

mutual
theorem clS_all {ρ : Nat → Option Nat} {Fr : Nat → Prop} (h : ∀ c : Cell, (c.ren ρ).cl Fr) : ∀ (s : SV), (s.ren ρ).cl Fr
  | .one c => h c
  | .agg cs => fun c hc => by
    obtain ⟨c0, _, rfl⟩ := List.mem_map.1 hc
    exact h c0
  | .tup vs => clL_all h vs
theorem clL_all {ρ : Nat → Option Nat} {Fr : Nat → Prop} (h : ∀ c : Cell, (c.ren ρ).cl Fr) : ∀ (ss : List SV), SV.clL Fr (SV.renL ρ ss)
  | [] => trivial
  | s :: ss => ⟨clS_all h s, clL_all h ss⟩
end

theorem fnspec_of (hm : P.follows .mixedOrders = true) (hT : TOk P T) (hC : TClosed T = true) (An' : An) {f : FuncId} {fn : Func} {c : Code} (hf : P.funcs[f]? = some fn) (hb : fn.body = some c) (hname : (fn.name == "runtime.NumGoroutine") = false)
    {args : List SV} {rows : List Row} {res : SV} {outs : List (Option Row)}
    (hk : An'.k = rows.length) (N : Nat) (hN : args.length + (fn.ntmps - args.length) = N) (rs : List ResultVar) (hrs : fn.results.toList = rs) (h : swp P T An' N c (FinX T rs rows.length res outs) ⟨argsTm 0 args, rowsHp 0 rows, rows.length⟩) : FnSpec P f args rows res outs := by
  subst hN; subst hrs
  refine ⟨⟨fn, hf, hname, by rw [hb]; rfl⟩, fun w vals m π A hA hrel hargs hcl => ?_⟩
  have hvl : vals.size = args.length := by have := hargs.length; simpa using this
  refine calls_of_wp hf hb ?_
  have hstart : RelAt P (base w m π rows.length A) A (args.length + (fn.ntmps - args.length)) (rows.length ≤ ·) (St.tmF ⟨argsTm 0 args, rowsHp 0 rows, rows.length⟩) (St.hpF ⟨argsTm 0 args, rowsHp 0 rows, rows.length⟩) { tmps := vals ++ Array.replicate (fn.ntmps - vals.size) undef, defers := [] } w m π := by
    have ehp : St.hpF ⟨argsTm 0 args, rowsHp 0 rows, rows.length⟩ = hpL (rows.map some) := by
      funext r
      simp only [St.hpF, lookR_rowsHp, hpL, List.getElem?_map, Nat.zero_le, ↓reduceIte, Nat.sub_zero]
      cases rows[r]? <;> rfl
    rw [ehp]
    refine { hrel with defers := rfl, size := by simp [hvl], tms := fun k v hk => ?_, tcl := fun k v hk => ?_ }
    · simp only [St.tmF, slot_argsTm, Nat.zero_le, ↓reduceIte, Nat.sub_zero] at hk
      obtain ⟨x, h1, h2⟩ := hargs.get k v hk
      have hlt : k < vals.size := by have := (List.getElem?_eq_some_iff.1 hk).1; omega
      have h1' : vals[k] = x := by
        simp [hlt] at h1; exact h1
      have : (vals ++ Array.replicate (fn.ntmps - vals.size) undef).getD k undef = x := by
        rw [Array.getD_eq_getD_getElem?, Array.getElem?_append_left hlt, Array.getElem?_eq_getElem hlt, h1']; rfl
      rw [this]; exact h2
    · simp only [St.tmF, slot_argsTm, Nat.zero_le, ↓reduceIte, Nat.sub_zero] at hk
      have : ∀ (l : List SV) (i : Nat) s, l[i]? = some s → SV.clL (rows.length ≤ ·) l → s.cl (rows.length ≤ ·) := by
        intro l
        induction l with
        | nil => intro i s hi; cases hi
        | cons y l ih =>
          intro i s hi hc
          cases i with
          | zero => simp at hi; exact hi ▸ hc.1
          | succ i => exact ih i s (by simpa using hi) hc.2
      exact this args k v hk hcl
  refine wp_mono (swp_ok hk.symm hm hT hC c _ _ _ w m π h hstart) ?_
  rintro e a' w' ⟨s', m', π', h1, h2⟩
  have hfin : FinI T fn.results.toList rows.length res outs s' → a'.defers = [] ∧ ∃ v, (results fn a'.tmps).run P w' = .ok v w' ∧ ∃ v' m' π', Ending.returned v = .returned v' ∧ RelAt P (base w m π rows.length A) A 0 (outs.length ≤ ·) (fun _ => none) (hpL outs) ⟨#[], []⟩ w' m' π' ∧ VS m' π' res v' ∧ res.cl (outs.length ≤ ·) := by
    rintro ⟨s', res0, ht, ⟨σ, q1, q2, q3, q4, q5, q6⟩, hwk⟩
    obtain ⟨m', π', h1⟩ := ht _ _ _ _ _ _ _ _ rfl h1
    suffices hsuf : a'.defers = [] ∧ ∃ v, (results fn a'.tmps).run P w' = .ok v w' ∧ ∃ v' m' π', Ending.returned v = .returned v' ∧ RelAt P (base w m π rows.length A) A 0 (outs.length ≤ ·) (fun _ => none) (hpL outs) ⟨#[], []⟩ w' m' π' ∧ VS m' π' res0 v' ∧ res0.cl (outs.length ≤ ·) by
      obtain ⟨x1, v, x2, v', m2, π2, x3, x4, x5, x6⟩ := hsuf
      exact ⟨x1, v, x2, v', m2, π2, x3, x4, hwk.1 _ _ _ x5, hwk.2 _ x6⟩
    clear hwk
    refine ⟨h1.defers, ?_⟩
    obtain ⟨vs, k1, k2, k3⟩ := results_ok hT h1 fn.results.toList q3
    obtain ⟨v, k4, k5, k6⟩ := resS_ok k1 k2 k3
    obtain ⟨πo, hπo⟩ : ∃ πo : Plc, πo = fun j => match σ[j]? with | some r => π' r | none => none := ⟨_, rfl⟩
    have hidx : ∀ q ∈ σ, ∃ j, idx q σ = some j ∧ πo j = π' q := by
      intro q hq
      cases hi : idx q σ with
      | some j => exact ⟨j, rfl, by rw [hπo]; simp only [idx_some hi]⟩
      | none => exact absurd hq (idx_none hi)
    have hren : ∀ c u, VC m' π' c u → VC m' πo (c.ren (fun q => idx q σ)) u := by
      intro c u hcu
      cases c with
      | osl r off len cap =>
        simp only [Cell.ren]
        cases hi : idx r σ with
        | none => trivial
        | some j =>
          have hj : πo j = π' r := by rw [hπo]; simp only [idx_some hi]
          exact ⟨hcu.1, by rw [hj]; exact hcu.2⟩
      | optr r off =>
        simp only [Cell.ren]
        cases hi : idx r σ with
        | none => trivial
        | some j =>
          have hj : πo j = π' r := by rw [hπo]; simp only [idx_some hi]
          exact ⟨hcu.1, by rw [hj]; exact hcu.2⟩
      | mp r kk =>
        simp only [Cell.ren]
        cases hi : idx r σ with
        | none => trivial
        | some j =>
          have hj : πo j = π' r := by rw [hπo]; simp only [idx_some hi]
          exact ⟨hcu.1, by rw [hj]; exact hcu.2⟩
      | _ => exact hcu
    have hlen : outs.length = σ.length := by rw [← q5]; simp
    have hclr : ∀ c : Cell, (c.ren (fun q => idx q σ)).cl (outs.length ≤ ·) := by
      intro c
      cases c with
      | osl r off len cap =>
        simp only [Cell.ren]
        cases hi : idx r σ with
        | none => trivial
        | some j =>
          have := (List.getElem?_eq_some_iff.1 (idx_some hi)).1
          show ¬ _
          omega
      | optr r off =>
        simp only [Cell.ren]
        cases hi : idx r σ with
        | none => trivial
        | some j =>
          have := (List.getElem?_eq_some_iff.1 (idx_some hi)).1
          show ¬ _
          omega
      | mp r kk =>
        simp only [Cell.ren]
        cases hi : idx r σ with
        | none => trivial
        | some j =>
          have := (List.getElem?_eq_some_iff.1 (idx_some hi)).1
          show ¬ _
          omega
      | _ => trivial
    have hout : ∀ j, hpL outs j = match σ[j]? with | some r => renO (fun q => idx q σ) (s'.hpF r) | none => none := by
      intro j
      rw [← q5]
      unfold hpL
      rw [List.getElem?_map]
      cases σ[j]? <;> rfl
    refine ⟨v, k4, v, m', πo, rfl, ?_, ?_, ?_⟩
    · refine ⟨rfl, rfl, fun k v hk => (by cases hk), fun k v hk => (by cases hk), ?_, ?_, ?_, ?_, ?_, ?_, h1.mok, ?_, h1.new, h1.keep, h1.mg, h1.gnew, ?_, ?_, hrel.gl⟩
      · intro j row hj
        rw [hout j] at hj
        cases hs : σ[j]? with
        | none => rw [hs] at hj; cases hj
        | some r =>
          rw [hs] at hj
          simp only at hj
          cases hr : s'.hpF r with
          | none => rw [hr] at hj; cases hj
          | some row0 =>
            rw [hr] at hj
            simp only [renO, Option.some.injEq] at hj
            subst hj
            have hro := h1.rows r row0 hr
            unfold RowOk at hro ⊢
            have hpo : πo j = π' r := by rw [hπo]; simp only [hs]
            rw [hpo]
            cases hq : π' r with
            | none => rw [hq] at hro; exact hro.elim
            | some q =>
              rw [hq] at hro
              cases q with
              | none => simp only at hro ⊢; simp [Row.ren, hro]
              | some p =>
                obtain ⟨g1, g2, arr, ee, g3, g4, g5, g6⟩ := hro
                refine ⟨g1, g2, arr, ee, g3, g4, ⟨fun hz => by simpa [Row.ren] using g5.1 hz, fun hz => by simpa [Row.ren] using g5.2 hz⟩, fun i c hi => ?_⟩
                simp only [Row.ren, List.getElem?_map, Option.map_eq_some_iff] at hi
                obtain ⟨c0, hc0, rfl⟩ := hi
                obtain ⟨x, r1, r2⟩ := g6 i c0 hc0
                exact ⟨x, r1, hren c0 x r2⟩
      · intro j row hj c hc
        rw [hout j] at hj
        cases hs : σ[j]? with
        | none => rw [hs] at hj; cases hj
        | some r =>
          rw [hs] at hj
          simp only at hj
          cases hr : s'.hpF r with
          | none => rw [hr] at hj; cases hj
          | some row0 =>
            rw [hr] at hj
            simp only [renO, Option.some.injEq] at hj
            subst hj
            obtain ⟨c0, hc0, rfl⟩ := List.mem_map.1 hc
            exact hclr c0
      · intro j row hj c hc
        rw [hout j] at hj
        cases hs : σ[j]? with
        | none => rw [hs] at hj; cases hj
        | some r =>
          rw [hs] at hj
          simp only at hj
          cases hr : s'.hpF r with
          | none => rw [hr] at hj; cases hj
          | some row0 =>
            rw [hr] at hj
            simp only [renO, Option.some.injEq] at hj
            subst hj
            obtain ⟨c0, hc0, rfl⟩ := List.mem_map.1 hc
            have hin := q6 r (List.mem_of_getElem? hs) row0 hr c0 hc0
            have hso := h1.rsol r row0 hr c0 hc0
            cases c0 with
            | osl r' _ _ _ =>
              obtain ⟨j', hj', _⟩ := hidx r' (hin r' (by simp [Cell.refs]))
              simp only [Cell.ren, hj']; exact fun hh => by cases hh
            | optr r' _ =>
              obtain ⟨j', hj', _⟩ := hidx r' (hin r' (by simp [Cell.refs]))
              simp only [Cell.ren, hj']; exact fun hh => by cases hh
            | mp r' kk =>
              obtain ⟨j', hj', _⟩ := hidx r' (hin r' (by simp [Cell.refs]))
              simp only [Cell.ren, hj']; exact fun hh => by cases hh
            | _ => exact hso
      · intro j hj
        rw [hout j] at hj
        cases hs : σ[j]? with
        | none => rw [hπo]; simp only [hs]
        | some r =>
          rw [hs] at hj
          simp only at hj
          cases hr : s'.hpF r with
          | none => rw [hπo]; simp only [hs]; exact h1.live r hr
          | some row0 => rw [hr] at hj; cases hj
      · intro j hj
        unfold hpL
        rw [List.getElem?_eq_none hj]
      · intro j j' p p' e1 e2 e3
        rw [hπo] at e1 e2
        cases hs : σ[j]? with
        | none => simp only [hs] at e1; cases e1
        | some r =>
          cases hs' : σ[j']? with
          | none => simp only [hs'] at e2; cases e2
          | some r' =>
            simp only [hs] at e1
            simp only [hs'] at e2
            have := h1.inj r r' p p' e1 e2 e3
            subst this
            have z1 := idx_of q1 hs
            have z2 := idx_of q1 hs'
            rw [z1] at z2; cases z2; rfl
      · intro j p ad u e1 hu
        rw [hπo] at e1
        cases hs : σ[j]? with
        | none => simp only [hs] at e1; cases e1
        | some r =>
          simp only [hs] at e1
          exact h1.dis r p ad u e1 hu
      · intro r hr
        have hs := q2 r hr
        have hpo : πo r = π' r := by rw [hπo]; simp only [hs]
        rw [hpo]
        exact h1.org r hr
      · intro r hr
        have hk : rows.length ≤ σ.length := by
          rcases Nat.lt_or_ge σ.length rows.length with hl | hl
          · have := q2 σ.length hl
            simp at this
          · exact hl
        show rows.length ≤ r
        omega
    · rw [← q4]
      exact vs_map (C := fun _ => True) (fun c u _ hcu => hren c u hcu) (allC_true _) k5
    · rw [← q4]
      exact clS_all hclr _
  cases e with
  | normal => exact hfin h2
  | ret => exact hfin h2
  | exit i => exact h2.elim
  | goto l => exact h2.elim
  | panic ch => exact h2.elim
  | outgrown => exact h2.elim

end
end Go.Proofs.YtfkcolodbjonkabDoor.Sh
