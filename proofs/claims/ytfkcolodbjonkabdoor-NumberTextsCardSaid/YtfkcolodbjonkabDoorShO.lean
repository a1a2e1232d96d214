/- A call as an operation of a region, told of data. -/
import Derived.Test.YtfkcolodbjonkabDoorShN
namespace Go.Proofs.YtfkcolodbjonkabDoor.Sh
open Go.RowKit
set_option linter.unusedVariables false
set_option linter.unusedSimpArgs false

theorem prepC_loc {L : List Nat} {get get' : Nat → Option Row} {c : Cell} (h : ∀ r ∈ c.refs, idx r L = none → get r = get' r) : prepC L get c = prepC L get' c := by
  cases c with
  | osl r off len cap =>
    simp only [prepC]
    cases hi : idx r L with
    | some j => rfl
    | none => simp only [h r (by simp [Cell.refs]) hi]
  | optr r off =>
    simp only [prepC]
    cases hi : idx r L with
    | some j => rfl
    | none => simp only [h r (by simp [Cell.refs]) hi]
  | _ => rfl

theorem prepV_loc {L : List Nat} {get get' : Nat → Option Row} {s : SV} (h : ∀ r ∈ s.refs, idx r L = none → get r = get' r) : prepV L get s = prepV L get' s := by
  cases s with
  | one c => simp only [prepV]; rw [prepC_loc h]
  | agg cs =>
    simp only [prepV]
    congr 1
    apply List.map_congr_left
    intro c hc
    exact prepC_loc (fun r hr => h r (List.mem_flatMap.2 ⟨c, hc, hr⟩))
  | tup _ => rfl

theorem mem_snaps {L : List Nat} {args : List SV} {r : Nat} {s : SV} (hs : s ∈ args) (hr : r ∈ s.refs) (hi : idx r L = none) : r ∈ snaps L args := by
  unfold snaps
  rw [List.mem_filter]
  exact ⟨List.mem_flatMap.2 ⟨s, hs, hr⟩, by rw [hi]; rfl⟩

theorem lentRows_loc {L : List Nat} {get get' : Nat → Option Row} (h : ∀ r ∈ L, get r = get' r) : lentRows L get = lentRows L get' := by
  unfold lentRows
  apply List.map_congr_left
  intro r hr
  rw [h r hr]

theorem CallOk.loc {L : List Nat} {get get' : Nat → Option Row} {args : List SV} {res : SV} {outs : List (Option Row)} (hc : CallOk L get args res outs) (h : ∀ r ∈ L ++ snaps L args, get' r = get r) : CallOk L get' args res outs :=
  ⟨hc.nodup, fun r hr => by rw [h r (List.mem_append.2 (.inl hr))]; exact hc.live r hr, fun r hr => by rw [h r (List.mem_append.2 (.inr hr))]; exact hc.shown r hr, hc.long, hc.fresh⟩

structure CallG (g : Bool) (L : List Nat) (get : Nat → Option Row) (args : List SV) (res : SV) (outs : List (Option Row)) : Prop where
  nodup : L.Nodup
  live : ∀ r ∈ L, ∃ row, get r = some row ∧ (∀ c ∈ row.cells, ∀ q ∈ c.refs, q ∈ L)
  shown : ∀ r ∈ snaps L args, ∃ row, get r = some row ∧ ∀ c ∈ row.cells, c.isG = true
  long : L.length ≤ outs.length
  fresh : g = true ∨ snaps L args = [] ∨ (res.noG ∧ ∀ x ∈ outs, ∀ row, x = some row → ∀ c ∈ row.cells, c.noG = true)

def gone (g : Bool) (L : List Nat) (args : List SV) : List (Nat × Option Row) := match g with
  | true => (snaps L args).map fun r => (r, none)
  | false => []

theorem CallG.loc {g : Bool} {L : List Nat} {get get' : Nat → Option Row} {args : List SV} {res : SV} {outs : List (Option Row)} (hc : CallG g L get args res outs) (h : ∀ r ∈ L ++ snaps L args, get' r = get r) : CallG g L get' args res outs :=
  ⟨hc.nodup, fun r hr => by rw [h r (List.mem_append.2 (.inl hr))]; exact hc.live r hr, fun r hr => by rw [h r (List.mem_append.2 (.inr hr))]; exact hc.shown r hr, hc.long, hc.fresh⟩

theorem upds_none : ∀ (S : List Nat) (hp : Nat → Option Row), upds hp (S.map fun r => (r, none)) = fun r => if r ∈ S then none else hp r
  | [], hp => by funext r; simp [upds]
  | x :: S, hp => by
    funext r
    simp only [List.map_cons, upds, upds_none S]
    by_cases h : r ∈ S
    · simp [h]
    · by_cases e : r = x
      · subst e; simp [upd]
      · simp [h, e, upd]

theorem upds_cat : ∀ (us vs : List (Nat × Option Row)) (hp : Nat → Option Row), upds hp (us ++ vs) = upds (upds hp us) vs
  | [], _, _ => rfl
  | (r, x) :: us, vs, hp => by simp only [List.cons_append, upds]; exact upds_cat us vs _

section
variable {P : Program} {w0 : Base} {A : Nat → Prop} {N : Nat} {Fr : Nat → Prop} {tm : Nat → Option SV} {hp : Nat → Option Row} {a : Act} {w : World} {m : Mem} {π : Plc}

theorem RelAt.giveup (h : RelAt P w0 A N Fr tm hp a w m π) (S : List Nat) (hsh : ∀ r ∈ S, ∃ row, hp r = some row ∧ ∀ c ∈ row.cells, c.isG = true) :
    RelAt P w0 A N Fr tm (fun r => if r ∈ S then none else hp r) a w (memS m π w S) (fun r => if r ∈ S then none else π r) := by
  have hm := memS_le h S
  have hπ : ∀ r, ¬ Fr r → (fun r => if r ∈ S then none else π r) r = π r ∨ (fun r => if r ∈ S then none else π r) r = none := fun r _ => by
    by_cases hr : r ∈ S
    · right; simp [hr]
    · left; simp [hr]
  refine ⟨h.defers, h.size, fun k v hk => VS.mono hm hπ (h.tcl k v hk) (h.tms k v hk), h.tcl, ?_, ?_, ?_, ?_, ?_, ?_, ?_, ?_, h.new, h.keep, ?_, h.gnew, ?_, h.frk, h.gl⟩
  · intro r row hr
    by_cases hS : r ∈ S
    · simp [hS] at hr
    · simp only [hS, if_false] at hr
      have hro := h.rows r row hr
      unfold RowOk at hro ⊢
      simp only [hS, if_false]
      cases hq : π r with
      | none => rw [hq] at hro; exact hro.elim
      | some x =>
        rw [hq] at hro
        cases x with
        | none => exact hro
        | some p =>
          obtain ⟨g1, g2, arr, ee, g3, g4, g5, g6⟩ := hro
          refine ⟨g1, g2, arr, ee, g3, g4, g5, fun i c hi => ?_⟩
          obtain ⟨x, r1, r2⟩ := g6 i c hi
          exact ⟨x, r1, VC.mono hm hπ (h.rcl r row hr c (List.mem_of_getElem? hi)) r2⟩
  · intro r row hr
    by_cases hS : r ∈ S
    · simp [hS] at hr
    · simp only [hS, if_false] at hr; exact h.rcl r row hr
  · intro r row hr
    by_cases hS : r ∈ S
    · simp [hS] at hr
    · simp only [hS, if_false] at hr; exact h.rsol r row hr
  · intro r hr
    by_cases hS : r ∈ S
    · simp [hS]
    · simp only [hS, if_false] at hr ⊢; exact h.live r hr
  · intro r hr
    by_cases hS : r ∈ S
    · simp [hS]
    · simp only [hS, if_false]; exact h.fresh r hr
  · intro r r' p p' e1 e2 e3
    by_cases hS : r ∈ S
    · simp [hS] at e1
    · by_cases hS' : r' ∈ S
      · simp [hS'] at e2
      · simp only [hS, hS', if_false] at e1 e2; exact h.inj r r' p p' e1 e2 e3
  · intro ad v hv
    unfold memS at hv
    split at hv
    · rename_i hc
      rw [Bool.and_eq_true] at hc
      exact ⟨by simpa using hc.1, hv⟩
    · exact h.mok ad v hv
  · intro q p ad v e1 hv
    by_cases hS : q ∈ S
    · simp [hS] at e1
    · simp only [hS, if_false] at e1
      unfold memS at hv
      split at hv
      · rename_i hc
        rw [Bool.and_eq_true] at hc
        obtain ⟨r2, hr2, p2, hp2, hb2⟩ := inS_iff.1 hc.2
        intro e
        have := h.inj q r2 p p2 e1 hp2 (by rw [hb2, e])
        subst this
        exact hS hr2
      · exact h.dis q p ad v e1 hv
  · intro ad v hv
    unfold memS at hv
    split at hv
    · rename_i hc
      rw [Bool.and_eq_true] at hc
      obtain ⟨r2, hr2, p2, hp2, hb2⟩ := inS_iff.1 hc.2
      obtain ⟨row, hrow, _⟩ := hsh r2 hr2
      have hro := h.rows r2 row hrow
      unfold RowOk at hro
      rw [hp2] at hro
      exact h.gnew ad (hb2 ▸ hro.1)
    · exact h.mg ad v hv
  · intro q hq
    by_cases hS : q ∈ S
    · right; simp [hS]
    · simp only [hS, if_false]; exact h.org q hq

theorem call_okG (h : RelAt P w0 A N Fr tm hp a w m π) {g : Bool} {f : FuncId} {args : List SV} {vals : Array Value} (hv : VSL m π args vals.toList) {L : List Nat} {n : Nat} {res : SV} {outs : List (Option Row)}
    (hc : CallG g L hp args res outs) (hs : FnSpecD P f (args.map (prepV L hp)) (lentRows L hp) res outs) (hF : ∀ r, n ≤ r → r < n + max 1 (outs.length - L.length) → Fr r) :
    Does P f vals w fun e w' => ∃ v m' π', e = .returned v ∧ RelAt P w0 A N (fun r => Fr r ∧ ¬ (n ≤ r ∧ r < n + max 1 (outs.length - L.length))) tm (upds hp (gone g L args ++ outUpsFrom L n 0 outs)) a w' m' π' ∧
      VS m' π' (res.ren (back L n)) v ∧ (res.ren (back L n)).cl (fun r => Fr r ∧ ¬ (n ≤ r ∧ r < n + max 1 (outs.length - L.length))) := by
  cases g with
  | false => exact call_ok h hv ⟨hc.nodup, hc.live, hc.shown, hc.long, by rcases hc.fresh with h | h; (· cases h); exact h⟩ hs hF
  | true =>
    have hS1 : ∀ r ∈ args.flatMap SV.refs, idx r L = none → r ∈ snaps L args := fun r hr hi => by
      unfold snaps; rw [List.mem_filter]; exact ⟨hr, by rw [hi]; rfl⟩
    have hLS : ∀ r ∈ L, r ∉ snaps L args := fun r hr hr2 => by
      unfold snaps at hr2; rw [List.mem_filter] at hr2
      cases hi : idx r L with
      | none => exact absurd hr (idx_none hi)
      | some j => rw [hi] at hr2; cases hr2.2
    have hgu := h.giveup (snaps L args) hc.shown
    obtain ⟨p1, p2⟩ := prepV_ok h L (snaps L args) hc.shown args vals.toList hS1 hv
    have eg : upds hp (gone true L args ++ outUpsFrom L n 0 outs) = upds (fun r => if r ∈ snaps L args then none else hp r) (outUpsFrom L n 0 outs) := by
      rw [upds_cat]; unfold gone; rw [upds_none]
    rw [eg]
    have em : memS (memS m π w (snaps L args)) (fun r => if r ∈ snaps L args then none else π r) w [] = memS m π w (snaps L args) := by
      funext ad
      generalize memS m π w (snaps L args) = M
      simp [memS, inS]
    have e2 : ∀ (M : Mem) (π1 π2 : Plc) (X : List SV) (Y : List Value), (∀ j, π1 j = π2 j) → VSL M π2 X Y → VSL M π1 X Y := fun _ _ _ _ _ h hv => by rw [funext h]; exact hv
    refine call_gen hgu [] (by simp) (by simp) hc.nodup (fun r hr => ?_) hc.long (.inl rfl) (args' := args.map (prepV L hp)) ?_ p2 ?_ hF
    · simp only [hLS r hr, if_false]; exact hc.live r hr
    · rw [em]
      refine e2 _ _ _ _ _ (fun j => ?_) p1
      cases hj : L[j]? with
      | none => rfl
      | some r => simp only [hLS r (List.mem_of_getElem? hj), if_false]
    · rw [lentRows_loc (get := fun r => if r ∈ snaps L args then none else hp r) (get' := hp) (fun r hr => by simp only [hLS r hr, if_false])]
      exact hs
end

theorem cl_mem {Fr : Nat → Prop} {m : Mem} {π : Plc} {caps : List Cell} {vals : Array Value} (hl : vals.size = caps.length) (hv : ∀ (i : Nat) x (hi : i < vals.size), caps[i]? = some x → VG m x vals[i]) :
    VSL m π (caps.map SV.one) vals.toList ∧ SV.clL Fr (caps.map SV.one) := by
  have : ∀ (l : List Cell) (vs : List Value), vs.length = l.length → (∀ (i : Nat) x v, l[i]? = some x → vs[i]? = some v → VG m x v) → VSL m π (l.map SV.one) vs ∧ SV.clL Fr (l.map SV.one) := by
    intro l
    induction l with
    | nil => intro vs hl _; cases vs <;> simp at hl; exact ⟨trivial, trivial⟩
    | cons c l ih =>
      intro vs hl h
      cases vs with
      | nil => simp at hl
      | cons v vs =>
        obtain ⟨h1, h2⟩ := ih vs (by simpa using hl) (fun i x v hx hv => h (i + 1) x v (by simpa using hx) (by simpa using hv))
        have hg := h 0 c v (by simp) (by simp)
        have hvc : VC m π c v := by cases c <;> first | exact hg | cases hg
        have hcl : c.cl Fr := by cases c <;> first | trivial | cases hg
        exact ⟨⟨hvc, h1⟩, hcl, h2⟩
  refine this caps vals.toList (by simpa using hl) (fun i x v hx hv' => ?_)
  have hi : i < vals.size := by have := (List.getElem?_eq_some_iff.1 hv').1; simpa using this
  have := hv i x hi hx
  simp [hi] at hv'
  rw [← hv']; exact this

theorem vsl_app {m : Mem} {π : Plc} : ∀ {as : List SV} {vs : List Value} {bs : List SV} {us : List Value}, VSL m π as vs → VSL m π bs us → VSL m π (as ++ bs) (vs ++ us)
  | [], [], _, _, _, h => h
  | _ :: _, _ :: _, _, _, h1, h2 => ⟨h1.1, vsl_app h1.2 h2⟩

theorem xloc_call {g : Bool} {P : Program} {o : Oper} {ρ : Operand → SV} {hp : Nat → Option Row} {n : Nat} {c : Call} {x : Operand} {f : FuncId} {caps : List Cell} {L : List Nat} {res : SV} {outs : List (Option Row)}
    (ho : o.op = .call c) (hx : c.callee = .value x) (hf : ρ x = .one (.fn f caps)) (hc : CallG g L hp (c.args.toList.map ρ ++ caps.map SV.one) res outs)
    (hs : FnSpecD P f ((c.args.toList.map ρ ++ caps.map SV.one).map (prepV L hp)) (lentRows L hp) res outs) :
    XLoc P o ρ hp n ⟨res.ren (back L n), gone g L (c.args.toList.map ρ ++ caps.map SV.one) ++ outUpsFrom L n 0 outs, outs.length - L.length, L ++ snaps L (c.args.toList.map ρ ++ caps.map SV.one)⟩ := by
  intro hp' hfp w0 A N Fr tm a w m π K Q h hρ hFr hK
  have hops : o.op.operands = #[x] ++ c.args := by rw [ho]; simp [Op.operands, Call.operands, hx]
  have hxv := (hρ x (by rw [hops]; simp)).1
  rw [hf] at hxv
  obtain ⟨capv, hev, hcl, hcv⟩ : ∃ capv : Array Value, a.eval x = .func (.func f) #[] capv ∧ capv.size = caps.length ∧ ∀ (i : Nat) y (hi : i < capv.size), caps[i]? = some y → VG m y capv[i] := by
    generalize a.eval x = u at hxv
    cases hxv with
    | fn _ _ vals hl hv => exact ⟨vals, rfl, hl, hv⟩
  have hargs : VSL m π (c.args.toList.map ρ ++ caps.map SV.one) (c.args.map a.eval ++ capv).toList := by
    rw [Array.toList_append, Array.toList_map]
    refine vsl_app ?_ (cl_mem (Fr := Fr) hcl hcv).1
    have : ∀ l : List Operand, (∀ y ∈ l, VS m π (ρ y) (a.eval y)) → VSL m π (l.map ρ) (l.map a.eval) := by
      intro l
      induction l with
      | nil => intro _; trivial
      | cons y l ih => exact fun hy => ⟨hy y (by simp), ih (fun z hz => hy z (by simp [hz]))⟩
    exact this _ (fun y hy => (hρ y (by rw [hops]; simp at hy ⊢; exact .inr hy)).1)
  have hc' := hc.loc hfp
  have hs' : FnSpecD P f ((c.args.toList.map ρ ++ caps.map SV.one).map (prepV L hp')) (lentRows L hp') res outs := by
    rw [lentRows_loc (get := hp') (get' := hp) (fun r hr => hfp r (List.mem_append.2 (.inl hr)))]
    have : (c.args.toList.map ρ ++ caps.map SV.one).map (prepV L hp') = (c.args.toList.map ρ ++ caps.map SV.one).map (prepV L hp) := by
      apply List.map_congr_left
      intro s hs
      exact prepV_loc (fun r hr hi => hfp r (List.mem_append.2 (.inr (mem_snaps hs hr hi))))
    rw [this]
    exact hs
  have hcall := call_okG h hargs hc' hs' (n := n) (fun r h1 h2 => hFr r h1 h2)
  rcases hcall with ⟨⟨fn, hfn, hname, hbody⟩, hcall⟩ | ⟨v0, w1, hrun0, v, m', π', e0, h1, h2, h3⟩
  · have hrun : (execOp a.eval o).run P w = .ok (.enter f (c.args.map a.eval ++ capv)) w := by
      unfold execOp
      rw [ho]
      simp only [resolve, hx, hev, Deferred.ofValue, Sem.run_bind, Sem.run_pure, Result.andThen_ok, invoke, callFunc, run_program, hfn, hname, hbody]
      simp
    unfold Oper.wp
    rw [hrun, Oper.upon_enter]
    refine hcall.mono ?_
    rintro e w' ⟨v, m', π', rfl, h1, h2, h3⟩
    exact hK v w' m' π' h1 h2 h3
  · have hrun : (execOp a.eval o).run P w = .ok (.value v0) w1 := by
      unfold execOp
      rw [ho]
      simp only [resolve, hx, hev, Deferred.ofValue, Sem.run_bind, Sem.run_pure, Result.andThen_ok, invoke]
      simp [hrun0]
    cases e0
    unfold Oper.wp
    rw [hrun]
    exact hK v0 w1 m' π' h1 h2 h3

end Go.Proofs.YtfkcolodbjonkabDoor.Sh
