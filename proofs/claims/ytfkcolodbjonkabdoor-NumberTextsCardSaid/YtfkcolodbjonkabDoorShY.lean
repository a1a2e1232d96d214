/- Weaker words for values: nil slices as given ones that hold nothing, capacities not told of. -/
import Derived.Test.YtfkcolodbjonkabDoorShU
namespace Go.Proofs.YtfkcolodbjonkabDoor.Sh
open Go.RowKit
set_option linter.unusedVariables false
set_option linter.unusedSimpArgs false

def CW (c d : Cell) : Prop := (∀ (m : Mem) (π : Plc) (v : Value), VC m π c v → VC m π d v) ∧ ∀ (Fr : Nat → Prop), c.cl Fr → d.cl Fr
theorem cw_rfl (c : Cell) : CW c c := ⟨fun _ _ _ h => h, fun _ h => h⟩
def CWL : List Cell → List Cell → Prop
  | [], [] => True
  | c :: cs, d :: ds => CW c d ∧ CWL cs ds
  | _, _ => False
mutual
def SW : SV → SV → Prop
  | .one c, .one d => CW c d
  | .agg cs, .agg ds => CWL cs ds
  | .tup vs, .tup us => SWL vs us
  | _, _ => False
def SWL : List SV → List SV → Prop
  | [], [] => True
  | s :: ss, t :: ts => SW s t ∧ SWL ss ts
  | _, _ => False
end

theorem CWL.rfl : ∀ cs : List Cell, CWL cs cs
  | [] => trivial
  | c :: cs => ⟨cw_rfl c, CWL.rfl cs⟩
theorem CWL.vl : ∀ {cs ds : List Cell} {m : Mem} {π : Plc} {vs : List Value}, CWL cs ds → VL m π cs vs → VL m π ds vs
  | [], [], _, _, _, _, h => h
  | c :: cs, d :: ds, m, π, v :: vs, h, hv => ⟨h.1.1 m π v hv.1, CWL.vl h.2 hv.2⟩
  | _ :: _, _ :: _, _, _, [], _, hv => hv.elim
  | [], _ :: _, _, _, _, h, _ => h.elim
  | _ :: _, [], _, _, _, h, _ => h.elim
theorem CWL.cl : ∀ {cs ds : List Cell} {Fr : Nat → Prop}, CWL cs ds → (∀ c ∈ cs, c.cl Fr) → ∀ d ∈ ds, d.cl Fr
  | [], [], _, _, _ => fun d hd => by cases hd
  | c :: cs, d :: ds, Fr, h, hc => fun x hx => by
    rcases List.mem_cons.1 hx with e | e
    · rw [e]; exact h.1.2 Fr (hc c (by simp))
    · exact CWL.cl h.2 (fun c hc' => hc c (by simp [hc'])) x e
  | [], _ :: _, _, h, _ => h.elim
  | _ :: _, [], _, h, _ => h.elim
mutual
theorem SW.rfl : ∀ s : SV, SW s s
  | .one c => cw_rfl c
  | .agg cs => CWL.rfl cs
  | .tup vs => SWL.rfl vs
theorem SWL.rfl : ∀ ss : List SV, SWL ss ss
  | [] => trivial
  | s :: ss => ⟨SW.rfl s, SWL.rfl ss⟩
end
mutual
theorem SW.vs {m : Mem} {π : Plc} : ∀ {s t : SV} {v : Value}, SW s t → VS m π s v → VS m π t v
  | .one c, .one d, v, h, hv => h.1 m π v hv
  | .agg cs, .agg ds, v, h, hv => by
    obtain ⟨arr, rfl, h2⟩ := hv
    exact ⟨arr, by rfl, CWL.vl h h2⟩
  | .tup vs, .tup us, v, h, hv => by
    obtain ⟨arr, rfl, h2⟩ := hv
    exact ⟨arr, by rfl, SWL.vs h h2⟩
  | .one _, .agg _, _, h, _ => h.elim
  | .one _, .tup _, _, h, _ => h.elim
  | .agg _, .one _, _, h, _ => h.elim
  | .agg _, .tup _, _, h, _ => h.elim
  | .tup _, .one _, _, h, _ => h.elim
  | .tup _, .agg _, _, h, _ => h.elim
theorem SWL.vs {m : Mem} {π : Plc} : ∀ {ss ts : List SV} {vs : List Value}, SWL ss ts → VSL m π ss vs → VSL m π ts vs
  | [], [], _, _, hv => hv
  | s :: ss, t :: ts, v :: vs, h, hv => ⟨SW.vs h.1 hv.1, SWL.vs h.2 hv.2⟩
  | _ :: _, _ :: _, [], _, hv => hv.elim
  | [], _ :: _, _, h, _ => h.elim
  | _ :: _, [], _, h, _ => h.elim
end
mutual
theorem SW.cl {Fr : Nat → Prop} : ∀ {s t : SV}, SW s t → s.cl Fr → t.cl Fr
  | .one c, .one d, h, hc => h.2 Fr hc
  | .agg cs, .agg ds, h, hc => CWL.cl h hc
  | .tup vs, .tup us, h, hc => SWL.cl h hc
  | .one _, .agg _, h, _ => h.elim
  | .one _, .tup _, h, _ => h.elim
  | .agg _, .one _, h, _ => h.elim
  | .agg _, .tup _, h, _ => h.elim
  | .tup _, .one _, h, _ => h.elim
  | .tup _, .agg _, h, _ => h.elim
theorem SWL.cl {Fr : Nat → Prop} : ∀ {ss ts : List SV}, SWL ss ts → SV.clL Fr ss → SV.clL Fr ts
  | [], [], _, hc => hc
  | s :: ss, t :: ts, h, hc => ⟨SW.cl h.1 hc.1, SWL.cl h.2 hc.2⟩
  | [], _ :: _, h, _ => h.elim
  | _ :: _, [], h, _ => h.elim
end
section
variable {P : Program} {f : FuncId} {args args' : List SV} {rows : List Row} {res res' : SV} {outs : List (Option Row)}
end

def Cell.noMp : Cell → Bool
  | .mp _ _ => false
  | _ => true
mutual
theorem clS_frz01 {cells : List Cell} (h : ∀ c : Cell, c.noMp = true → c.cl (1 ≤ ·) → (c.frz 0 cells).cl (0 ≤ ·)) : ∀ s : SV, s.allC (fun c => c.noMp = true) → s.cl (1 ≤ ·) → (s.frz 0 cells).cl (0 ≤ ·)
  | .one c, hn, hc => h c hn hc
  | .agg cs, hn, hc => fun c hm => by
    obtain ⟨c0, h0, rfl⟩ := List.mem_map.1 hm
    exact h c0 (hn c0 h0) (hc c0 h0)
  | .tup vs, hn, hc => clL_frz01 h vs hn hc
theorem clL_frz01 {cells : List Cell} (h : ∀ c : Cell, c.noMp = true → c.cl (1 ≤ ·) → (c.frz 0 cells).cl (0 ≤ ·)) : ∀ ss : List SV, SV.allCL (fun c => c.noMp = true) ss → SV.clL (1 ≤ ·) ss → SV.clL (0 ≤ ·) (SV.frzL 0 cells ss)
  | [], _, _ => trivial
  | s :: ss, hn, hc => ⟨clS_frz01 h s hn.1 hc.1, clL_frz01 h ss hn.2 hc.2⟩
end
section
variable {P : Program} {T : Tab} {A : An} {N : Nat} {all : Array Oper} {dr : Bool} {K : St → Prop} {rest : List Oper} {acc : List (List Nat × List Nat)} {tm : List (Nat × SV)} {hp : List (Nat × Option Row)} {nx : Nat} {dst : Option Tmp} {Q : Exit → St → Prop} {s : St} {c : Code}
theorem s1_id {r : Res} {F : List Nat} (h : S1 P T A N all dr K rest acc tm hp nx dst r F) : S1 P T A N all dr K rest acc tm hp nx dst r F := h
theorem s2_id {r : Res} {F : List Nat} {b : Bool} (h : S2 P T A N all dr K rest acc tm hp nx dst b r F) : S2 P T A N all dr K rest acc tm hp nx dst b r F := h
theorem swp_id (h : swp P T A N c Q s) : swp P T A N c Q s := h
theorem sops_id (h : sops P T A N all dr K rest acc s) : sops P T A N all dr K rest acc s := h
end
end Go.Proofs.YtfkcolodbjonkabDoor.Sh
