/- A run of operations, told of data: each in its turn. -/
import Derived.Test.YtfkcolodbjonkabDoorShI
namespace Go.Proofs.YtfkcolodbjonkabDoor.Sh
open Go.RowKit
set_option linter.unusedVariables false
set_option linter.unusedSimpArgs false

structure Ef where
  val : SV
  ups : List (Nat × Option Row)
  new : Nat
  fp : List Nat

def Ef.cost (e : Ef) : Nat := max 1 e.new

def XOk (P : Program) (o : Oper) (ρ : Operand → SV) (hp : Nat → Option Row) (n : Nat) (e : Ef) : Prop :=
  ∀ (w0 : Base) (A : Nat → Prop) (N : Nat) (Fr : Nat → Prop) (tm : Nat → Option SV) (a : Act) (w : World) (m : Mem) (π : Plc) (K : Act → World → Prop) (Q : Exit → Act → World → Prop),
    RelAt P w0 A N Fr tm hp a w m π → (∀ x ∈ o.op.operands, VS m π (ρ x) (a.eval x) ∧ (ρ x).cl Fr) → (∀ r, n ≤ r → r < n + e.cost → Fr r) →
    (∀ v w' m' π', RelAt P w0 A N (fun r => Fr r ∧ ¬ (n ≤ r ∧ r < n + e.cost)) tm (upds hp e.ups) a w' m' π' → VS m' π' e.val v → e.val.cl (fun r => Fr r ∧ ¬ (n ≤ r ∧ r < n + e.cost)) → K (a.put o.dst v) w') → o.wp P a w K Q

def XLoc (P : Program) (o : Oper) (ρ : Operand → SV) (hp : Nat → Option Row) (n : Nat) (e : Ef) : Prop :=
  ∀ hp', (∀ r ∈ e.fp, hp' r = hp r) → XOk P o ρ hp' n e

theorem xloc_sop {P : Program} (T : Tab) (hT : TOk P T) (hC : TClosed T = true) (o : Oper) (ρ : Operand → SV) (hp : Nat → Option Row) (n : Nat) (hn : (sop T ρ hp n o.op).need) :
    XLoc P o ρ hp n ⟨(sop T ρ hp n o.op).val, (sop T ρ hp n o.op).ups, (sop T ρ hp n o.op).new, fp ρ o.op⟩ := by
  intro hp' hf w0 A N Fr tm a w m π K Q h hρ hFr hK
  have e := sop_loc T ρ hp' hp n o.op hf
  obtain ⟨v, w', m', π', h1, h2, h3, h4⟩ := sop_ok T hT hC h ρ hρ (hFr n (Nat.le_refl _) (by simp only [Ef.cost]; omega)) (by rw [e]; exact hn)
  rw [e] at h2 h3 h4
  have hsub : ∀ r, (Fr r ∧ ¬ (n ≤ r ∧ r < n + max 1 (sop T ρ hp n o.op).new)) → (Fr r ∧ ¬ (n ≤ r ∧ r < n + (sop T ρ hp n o.op).new)) := fun r hr => ⟨hr.1, fun q => hr.2 ⟨q.1, by omega⟩⟩
  have := hK v w' m' π' (h2.frmono hsub) h3 (SV.cl.mono hsub h4)
  unfold Oper.wp
  rcases h1 with h1 | ⟨h1, rfl⟩
  · rw [h1]; exact this
  · rw [h1]; exact this

def ud : SV := .tup []

def guardIs (all : Array Oper) (o : Oper) (tm : Nat → Option SV) (b : Bool) : Prop :=
  match o.guard with
  | none => b = true
  | some (j, want) => ∃ oj d, all[j]? = some oj ∧ oj.dst = some d ∧ ((∃ t, tm d = some (V (.bool t)) ∧ (t == want) = b) ∨ (tm d = some ud ∧ b = false))

def updD (tm : Nat → Option SV) (d : Option Tmp) (s : SV) : Nat → Option SV :=
  match d with
  | some k => upd tm k (some s)
  | none => tm

inductive Tr (P : Program) (all : Array Oper) (N : Nat) : List Oper → (Nat → Option SV) → (Nat → Option Row) → Nat → List (Oper × Ef) → (Nat → Option SV) → (Nat → Option Row) → Nat → Prop
  | nil (tm : Nat → Option SV) (hp : Nat → Option Row) (nx : Nat) : Tr P all N [] tm hp nx [] tm hp nx
  | exec {o : Oper} {rest : List Oper} {tm : Nat → Option SV} {hp : Nat → Option Row} {nx : Nat} {e : Ef} {rs : List (Oper × Ef)} {tm' : Nat → Option SV} {hp' : Nat → Option Row} {nx' : Nat}
      (hg : guardIs all o tm true) (hd : ∀ k, o.dst = some k → k < N) (hx : XLoc P o (evS tm) hp nx e) (hw : ∀ u ∈ e.ups, u.1 ∈ e.fp ∨ (nx ≤ u.1 ∧ u.1 < nx + e.cost))
      (h : Tr P all N rest (updD tm o.dst e.val) (upds hp e.ups) (nx + e.cost) rs tm' hp' nx') : Tr P all N (o :: rest) tm hp nx ((o, e) :: rs) tm' hp' nx'
  | skip {o : Oper} {rest : List Oper} {tm : Nat → Option SV} {hp : Nat → Option Row} {nx : Nat} {rs : List (Oper × Ef)} {tm' : Nat → Option SV} {hp' : Nat → Option Row} {nx' : Nat}
      (hg : guardIs all o tm false) (hd : ∀ k, o.dst = some k → k < N)
      (h : Tr P all N rest (updD tm o.dst ud) hp (nx + 1) rs tm' hp' nx') : Tr P all N (o :: rest) tm hp nx ((o, ⟨ud, [], 0, []⟩) :: rs) tm' hp' nx'

section
variable {P : Program} {all : Array Oper} {w0 : Base} {A : Nat → Prop} {N : Nat} {Fr : Nat → Prop} {tm : Nat → Option SV} {hp : Nat → Option Row} {a : Act} {w : World} {m : Mem} {π : Plc} {n : Nat}

theorem wanted_of (h : RelAt P w0 A N Fr tm hp a w m π) {o : Oper} {b : Bool} (hg : guardIs all o tm b) : Region.wanted o (yielded all a.tmps) = b := by
  unfold guardIs at hg
  unfold Region.wanted
  cases hgd : o.guard with
  | none => rw [hgd] at hg; exact hg.symm
  | some jw =>
    obtain ⟨j, want⟩ := jw
    rw [hgd] at hg
    obtain ⟨oj, d, h1, h2, hg⟩ := hg
    rcases hg with ⟨t, h3, h4⟩ | ⟨h3, h4⟩
    · have h5 := (vs_sc (h.tms d _ h3)).1
      have hlt : d < a.tmps.size := by
        rcases Nat.lt_or_ge d a.tmps.size with hl | hl
        · exact hl
        · exfalso
          have hnl : ¬ d < a.tmps.size := Nat.not_lt.2 hl
          simp [Array.getD, hnl, undef] at h5
      have h6 : a.tmps[d]? = some (.bool t) := by
        rw [Array.getElem?_eq_getElem hlt]
        simpa [Array.getD, hlt] using h5
      simp only [yielded, h1, Option.bind_some, h2, h6]
      rw [← h4]
      cases t <;> cases want <;> rfl
    · subst h4
      obtain ⟨vs, h5, h6⟩ := h.tms d _ h3
      have : yielded all a.tmps j = none := by
        simp only [yielded, h1, Option.bind_some, h2]
        by_cases hl : d < a.tmps.size
        · rw [Array.getElem?_eq_getElem hl]
          have : a.tmps[d] = .tuple vs := by simpa [Array.getD, hl] using h5
          rw [this]
        · have e : a.tmps[d]? = none := Array.getElem?_eq_none (Nat.le_of_not_lt hl)
          rw [e]
      simp only [this]
      cases want <;> rfl

theorem RelAt.putD (h : RelAt P w0 A N Fr tm hp a w m π) (d : Option Tmp) (hd : ∀ k, d = some k → k < N) {s : SV} {v : Value} (hv : VS m π s v) (hc : s.cl Fr) :
    RelAt P w0 A N Fr (updD tm d s) hp (a.put d v) w m π := by
  have := h.put d hd hv hc
  unfold updD
  cases d <;> exact this

theorem ud_v {m : Mem} {π : Plc} : VS m π ud undef := ⟨#[], rfl, trivial⟩
theorem ud_c {Fr : Nat → Prop} : ud.cl Fr := trivial

theorem Tr.seq {rest : List Oper} {tm : Nat → Option SV} {hp : Nat → Option Row} {nx : Nat} {rs : List (Oper × Ef)} {tm' : Nat → Option SV} {hp' : Nat → Option Row} {nx' : Nat}
    (ht : Tr P all N rest tm hp nx rs tm' hp' nx') {Q : Exit → Act → World → Prop} (hQ : ∀ a' w' m' π', RelAt P w0 A N (nx' ≤ ·) tm' hp' a' w' m' π' → Q .normal a' w') :
    ∀ (i : Nat) (a : Act) (w : World) (m : Mem) (π : Plc), all.toList.drop i = rest → RelAt P w0 A N (nx ≤ ·) tm hp a w m π → wpOps P all Q (List.range' i rest.length) a w := by
  induction ht with
  | nil tm hp nx => exact fun i a w m π _ h => hQ a w m π h
  | @exec o rest tm hp nx e rs tm' hp' nx' hg hd hx hw h ih =>
    intro i a w m π hi hr
    have hoi : all[i]? = some o := by
      have : (all.toList.drop i)[0]? = some o := by rw [hi]; rfl
      simpa using this
    have hi' : all.toList.drop (i + 1) = rest := by
      have : (all.toList.drop i).tail = rest := by rw [hi]; rfl
      simpa using this
    simp only [List.length_cons, List.range'_succ, wpOps, hoi]
    rw [if_pos (wanted_of hr hg)]
    left
    refine hx hp (fun _ _ => rfl) w0 A N _ tm a w m π _ Q hr (fun x _ => evS_ok hr x) (fun r h1 _ => h1) (fun v w' m' π' h1 h2 h3 => ?_)
    have hsub : ∀ r, nx + e.cost ≤ r → nx ≤ r ∧ ¬ (nx ≤ r ∧ r < nx + e.cost) := fun r hr => ⟨by omega, by omega⟩
    exact ih hQ (i + 1) _ w' m' π' hi' ((h1.frmono hsub).putD o.dst hd h2 (SV.cl.mono hsub h3))
  | @skip o rest tm hp nx rs tm' hp' nx' hg hd h ih =>
    intro i a w m π hi hr
    have hoi : all[i]? = some o := by
      have : (all.toList.drop i)[0]? = some o := by rw [hi]; rfl
      simpa using this
    have hi' : all.toList.drop (i + 1) = rest := by
      have : (all.toList.drop i).tail = rest := by rw [hi]; rfl
      simpa using this
    simp only [List.length_cons, List.range'_succ, wpOps, hoi]
    rw [if_neg (by rw [wanted_of hr hg]; simp)]
    exact ih hQ (i + 1) _ w m π hi' ((hr.frmono (fun r hr => by omega)).putD o.dst hd ud_v ud_c)

theorem wp_region_seq {id : Nat} {nx : Nat} {rs : List (Oper × Ef)} {tm' : Nat → Option SV} {hp' : Nat → Option Row} {nx' : Nat} {Q : Exit → Act → World → Prop}
    (ht : Tr P all N all.toList tm hp nx rs tm' hp' nx') (hQ : ∀ a' w' m' π', RelAt P w0 A N (nx' ≤ ·) tm' hp' a' w' m' π' → Q .normal a' w') (h : RelAt P w0 A N (nx ≤ ·) tm hp a w m π) :
    (Code.region id all false).wp P Q a w := by
  refine wp_region ?_
  have := ht.seq hQ 0 a w m π (by simp) h
  rwa [List.range_eq_range', ← Array.length_toList]

end
end Go.Proofs.YtfkcolodbjonkabDoor.Sh
