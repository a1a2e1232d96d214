/- A call as an operation of a region, told of data. -/
import Derived.Test.YtcfkmkabjalgjabShN
namespace Go.Proofs.Ytcfkmkabjalgjab.Sh
open Go.RowKit
set_option linter.unusedVariables false
set_option linter.unusedSimpArgs false

theorem prepC_loc {L : List Nat} {get get' : Nat → Option Row} {c : Cell} (h : ∀ r ∈ c.refs, idx r L = none → get r = get' r) : prepC L get c = prepC L get' c := by
  cases c with
  | osl r off len cap =>
    simp only [prepC]
    cases hi : idx r L with
    | some j => rfl
    | none => simp only [h r (by simp [Cell.refs]) hi]
  | optr r off =>
    simp only [prepC]
    cases hi : idx r L with
    | some j => rfl
    | none => simp only [h r (by simp [Cell.refs]) hi]
  | _ => rfl

theorem prepV_loc {L : List Nat} {get get' : Nat → Option Row} {s : SV} (h : ∀ r ∈ s.refs, idx r L = none → get r = get' r) : prepV L get s = prepV L get' s := by
  cases s with
  | one c => simp only [prepV]; rw [prepC_loc h]
  | agg cs =>
    simp only [prepV]
    congr 1
    apply List.map_congr_left
    intro c hc
    exact prepC_loc (fun r hr => h r (List.mem_flatMap.2 ⟨c, hc, hr⟩))
  | tup _ => rfl

theorem mem_snaps {L : List Nat} {args : List SV} {r : Nat} {s : SV} (hs : s ∈ args) (hr : r ∈ s.refs) (hi : idx r L = none) : r ∈ snaps L args := by
  unfold snaps
  rw [List.mem_filter]
  exact ⟨List.mem_flatMap.2 ⟨s, hs, hr⟩, by rw [hi]; rfl⟩

theorem lentRows_loc {L : List Nat} {get get' : Nat → Option Row} (h : ∀ r ∈ L, get r = get' r) : lentRows L get = lentRows L get' := by
  unfold lentRows
  apply List.map_congr_left
  intro r hr
  rw [h r hr]

theorem CallOk.loc {L : List Nat} {get get' : Nat → Option Row} {args : List SV} {res : SV} {outs : List (Option Row)} (hc : CallOk L get args res outs) (h : ∀ r ∈ L ++ snaps L args, get' r = get r) : CallOk L get' args res outs :=
  ⟨hc.nodup, fun r hr => by rw [h r (List.mem_append.2 (.inl hr))]; exact hc.live r hr, fun r hr => by rw [h r (List.mem_append.2 (.inr hr))]; exact hc.shown r hr, hc.long, hc.fresh⟩

theorem cl_mem {Fr : Nat → Prop} {m : Mem} {π : Plc} {caps : List Cell} {vals : Array Value} (hl : vals.size = caps.length) (hv : ∀ (i : Nat) x (hi : i < vals.size), caps[i]? = some x → VG m x vals[i]) :
    VSL m π (caps.map SV.one) vals.toList ∧ SV.clL Fr (caps.map SV.one) := by
  have : ∀ (l : List Cell) (vs : List Value), vs.length = l.length → (∀ (i : Nat) x v, l[i]? = some x → vs[i]? = some v → VG m x v) → VSL m π (l.map SV.one) vs ∧ SV.clL Fr (l.map SV.one) := by
    intro l
    induction l with
    | nil => intro vs hl _; cases vs <;> simp at hl; exact ⟨trivial, trivial⟩
    | cons c l ih =>
      intro vs hl h
      cases vs with
      | nil => simp at hl
      | cons v vs =>
        obtain ⟨h1, h2⟩ := ih vs (by simpa using hl) (fun i x v hx hv => h (i + 1) x v (by simpa using hx) (by simpa using hv))
        have hg := h 0 c v (by simp) (by simp)
        have hvc : VC m π c v := by cases c <;> first | exact hg | cases hg
        have hcl : c.cl Fr := by cases c <;> first | trivial | cases hg
        exact ⟨⟨hvc, h1⟩, hcl, h2⟩
  refine this caps vals.toList (by simpa using hl) (fun i x v hx hv' => ?_)
  have hi : i < vals.size := by have := (List.getElem?_eq_some_iff.1 hv').1; simpa using this
  have := hv i x hi hx
  simp [hi] at hv'
  rw [← hv']; exact this

theorem vsl_app {m : Mem} {π : Plc} : ∀ {as : List SV} {vs : List Value} {bs : List SV} {us : List Value}, VSL m π as vs → VSL m π bs us → VSL m π (as ++ bs) (vs ++ us)
  | [], [], _, _, _, h => h
  | _ :: _, _ :: _, _, _, h1, h2 => ⟨h1.1, vsl_app h1.2 h2⟩

theorem xloc_call {P : Program} {o : Oper} {ρ : Operand → SV} {hp : Nat → Option Row} {n : Nat} {c : Call} {x : Operand} {f : FuncId} {caps : List Cell} {L : List Nat} {res : SV} {outs : List (Option Row)}
    (ho : o.op = .call c) (hx : c.callee = .value x) (hf : ρ x = .one (.fn f caps)) (hc : CallOk L hp (c.args.toList.map ρ ++ caps.map SV.one) res outs)
    (hs : FnSpec P f ((c.args.toList.map ρ ++ caps.map SV.one).map (prepV L hp)) (lentRows L hp) res outs) :
    XLoc P o ρ hp n ⟨res.ren (back L n), outUpsFrom L n 0 outs, outs.length - L.length, L ++ snaps L (c.args.toList.map ρ ++ caps.map SV.one)⟩ := by
  intro hp' hfp w0 A N Fr tm a w m π K Q h hρ hFr hK
  have hops : o.op.operands = #[x] ++ c.args := by rw [ho]; simp [Op.operands, Call.operands, hx]
  have hxv := (hρ x (by rw [hops]; simp)).1
  rw [hf] at hxv
  obtain ⟨capv, hev, hcl, hcv⟩ : ∃ capv : Array Value, a.eval x = .func (.func f) #[] capv ∧ capv.size = caps.length ∧ ∀ (i : Nat) y (hi : i < capv.size), caps[i]? = some y → VG m y capv[i] := by
    generalize a.eval x = u at hxv
    cases hxv with
    | fn _ _ vals hl hv => exact ⟨vals, rfl, hl, hv⟩
  obtain ⟨fn, hfn, hname, hbody⟩ := hs.1
  have hrun : (execOp a.eval o).run P w = .ok (.enter f (c.args.map a.eval ++ capv)) w := by
    unfold execOp
    rw [ho]
    simp only [resolve, hx, hev, Deferred.ofValue, Sem.run_bind, Sem.run_pure, Result.andThen_ok, invoke, callFunc, run_program, hfn, hname, hbody]
    simp
  have hargs : VSL m π (c.args.toList.map ρ ++ caps.map SV.one) (c.args.map a.eval ++ capv).toList := by
    rw [Array.toList_append, Array.toList_map]
    refine vsl_app ?_ (cl_mem (Fr := Fr) hcl hcv).1
    have : ∀ l : List Operand, (∀ y ∈ l, VS m π (ρ y) (a.eval y)) → VSL m π (l.map ρ) (l.map a.eval) := by
      intro l
      induction l with
      | nil => intro _; trivial
      | cons y l ih => exact fun hy => ⟨hy y (by simp), ih (fun z hz => hy z (by simp [hz]))⟩
    exact this _ (fun y hy => (hρ y (by rw [hops]; simp at hy ⊢; exact .inr hy)).1)
  have hc' := hc.loc hfp
  have hs' : FnSpec P f ((c.args.toList.map ρ ++ caps.map SV.one).map (prepV L hp')) (lentRows L hp') res outs := by
    rw [lentRows_loc (get := hp') (get' := hp) (fun r hr => hfp r (List.mem_append.2 (.inl hr)))]
    have : (c.args.toList.map ρ ++ caps.map SV.one).map (prepV L hp') = (c.args.toList.map ρ ++ caps.map SV.one).map (prepV L hp) := by
      apply List.map_congr_left
      intro s hs
      exact prepV_loc (fun r hr hi => hfp r (List.mem_append.2 (.inr (mem_snaps hs hr hi))))
    rw [this]
    exact hs
  have hcall := call_ok h hargs hc' hs' (n := n) (fun r h1 h2 => hFr r h1 h2)
  unfold Oper.wp
  rw [hrun, Oper.upon_enter]
  refine hcall.mono ?_
  rintro e w' ⟨v, m', π', rfl, h1, h2, h3⟩
  exact hK v w' m' π' h1 h2 h3

end Go.Proofs.Ytcfkmkabjalgjab.Sh
