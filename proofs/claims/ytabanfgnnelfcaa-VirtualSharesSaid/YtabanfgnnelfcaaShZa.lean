/- More words for contracts: a capacity that is not told of, rows told of shorter. -/
import Derived.Test.YtabanfgnnelfcaaShZ
import Derived.Lib.Overlaps
namespace Go.Proofs.Ytabanfgnnelfcaa.Sh
open Go.RowKit
set_option linter.unusedVariables false
set_option linter.unusedSimpArgs false

theorem FnSpec.capk {P : Program} {f : FuncId} {r off len : Nat} {args : List SV} {rows : List Row} {res : SV} {outs : List (Option Row)}
    (h : ∀ c, len ≤ c → FnSpec P f (.one (.osl r off len (some c)) :: args) rows res outs) : FnSpec P f (.one (.osl r off len none) :: args) rows res outs := by
  refine ⟨(h len (Nat.le_refl _)).1, fun w vals m π A hA hr hv hc => ?_⟩
  have key : ∃ c, len ≤ c ∧ VSL m π (.one (.osl r off len (some c)) :: args) vals.toList := by
    generalize vals.toList = vs at hv
    cases vs with
    | nil => exact hv.elim
    | cons v vs =>
      obtain ⟨⟨h1, h2⟩, h3⟩ := hv
      cases hπ : π r with
      | none => exact ⟨len, Nat.le_refl _, ⟨h1, by rw [hπ]; trivial⟩, h3⟩
      | some q =>
        rw [hπ] at h2
        cases q with
        | none =>
          obtain ⟨a1, a2, a3⟩ := h2
          exact ⟨0, by omega, ⟨h1, by rw [hπ]; exact ⟨a1, fun k hk => by cases hk; rfl, a3⟩⟩, h3⟩
        | some p =>
          obtain ⟨gz, ad, c, e1, e2, _, e4⟩ := h2
          exact ⟨c, e2, ⟨h1, by rw [hπ]; exact ⟨gz, ad, c, e1, e2, fun k hk => by cases hk; rfl, e4⟩⟩, h3⟩
  obtain ⟨c, hle, hv'⟩ := key
  exact (h c hle).2 w vals m π A hA hr hv' ⟨hc.1, hc.2⟩

section
variable {P : Program} {w0 : Base} {A : Nat → Prop} {N : Nat} {Fr : Nat → Prop} {tm : Nat → Option SV} {hp : Nat → Option Row} {a : Act} {w : World} {m : Mem} {π : Plc}
end

theorem FnSpec.niln {P : Program} {f : FuncId} {cs : List Cell} {off : Nat} {cap : Option Nat} {args : List SV} {rows : List Row} {res : SV} {outs : List (Option Row)}
    (h1 : FnSpec P f (.one (.sc (.slice none 0 0)) :: args) rows res outs) (h2 : ∀ ad c, FnSpec P f (.one (.sc (.slice (some ad) 0 c)) :: args) rows res outs) : FnSpec P f (.one (.gsl cs off 0 cap) :: args) rows res outs := by
  refine ⟨h1.1, fun w vals m π A hA hr hv hc => ?_⟩
  have key : VSL m π (.one (.sc (.slice none 0 0)) :: args) vals.toList ∨ ∃ ad c, VSL m π (.one (.sc (.slice (some ad) 0 c)) :: args) vals.toList := by
    generalize vals.toList = vs at hv
    cases vs with
    | nil => exact hv.elim
    | cons v vs =>
      obtain ⟨hv1, hv2⟩ := hv
      cases hv1 with
      | gnil _ _ _ hc => exact .inl ⟨VG.sc _ rfl, hv2⟩
      | gsl _ _ _ _ b o c ad vals hc hlc hm hv ha => exact .inr ⟨ad, c, VG.sc _ rfl, hv2⟩
  rcases key with h | ⟨ad, c, h⟩
  · exact h1.2 w vals m π A hA hr h ⟨trivial, hc.2⟩
  · exact (h2 ad c).2 w vals m π A hA hr h ⟨trivial, hc.2⟩

theorem FnSpec.nilrow {P : Program} {f : FuncId} {args : List SV} (e : Nat) (h : FnSpec P f args [] (.one (.sc (.slice none 0 0))) []) : FnSpec P f args [] (.one (.osl 0 0 0 none)) [some ⟨[], e⟩] := by
  refine ⟨h.1, fun w vals m π A hA hr hv hc => (h.2 w vals m π A hA hr hv hc).mono fun e1 w' ⟨v, m', π', h1, h2, h3, h4⟩ => ?_⟩
  have hn := h2.nilrow 0 (Nat.le_refl _) e
  refine ⟨v, m', upd π' 0 (some none), h1, ?_, ?_, ?_⟩
  · have e2 : hpL [some (⟨[], e⟩ : Row)] = upd (hpL []) 0 (some ⟨[], e⟩) := by
      funext r
      cases r <;> simp [hpL, upd]
    rw [e2]
    exact hn.frmono (fun r hr => ⟨Nat.zero_le _, by simp only [List.length_cons, List.length_nil] at hr; omega⟩)
  · cases h3
    refine ⟨rfl, ?_⟩
    rw [upd_same]
    exact ⟨rfl, (fun k hk => by cases hk), none, rfl⟩
  · exact fun hq => by simp only [List.length_cons, List.length_nil] at hq; omega

theorem overlaps_spec {P : Program} {f : FuncId} {fn : Func} {tS tR e sz : Nat} (hf : P.funcs[f]? = some fn) (hname : (fn.name == "runtime.NumGoroutine") = false) (hb : fn.body.isNone = true) (hn : Extern.findNext fn = none)
    (he : Extern.find fn = some (Extern.SlicesOverlaps.overlaps #[tS, tS] #[tR])) (ht : P.underlying tS = some (.slice e)) (hz : ∀ w, (sizeOf e).run P w = .ok sz w)
    (o1 m1 o2 m2 : Nat) (c1 c2 : Option Nat) (ra rb : Row) (h1 : 0 < m1) (h2 : 0 < m2) (hsz : 0 < sz) (hrb : rb.cells ≠ []) : FnSpecD P f [.one (.osl 0 o1 m1 c1), .one (.osl 1 o2 m2 c2)] [ra, rb] (b1 false) [some ra, some rb] := by
  intro w vals m π A hA hr hv hc
  have hra := hr.rows 0 ra rfl
  have hrb' := hr.rows 1 rb rfl
  have hinj := hr.inj 0 1
  unfold RowOk at hra hrb'
  generalize hvs : vals.toList = vs at hv
  match vs, hv with
  | [u, v], ⟨⟨k1, hu⟩, ⟨k2, hw⟩, _⟩ =>
    have hvals : vals = #[u, v] := by apply Array.ext'; exact hvs
    cases hπ0 : π 0 with
    | none => rw [hπ0] at hra; exact hra.elim
    | some x0 =>
      cases hπ1 : π 1 with
      | none => rw [hπ1] at hrb'; exact hrb'.elim
      | some x1 =>
        rw [hπ0] at hra hu
        rw [hπ1] at hrb' hw
        cases x0 with
        | none => simp only at hu; omega
        | some p0 =>
          cases x1 with
          | none => simp only at hw; omega
          | some p1 =>
            obtain ⟨z0, a0, d0, rfl, l0, _, q0⟩ := hu
            obtain ⟨z1, a1, d1, rfl, l1, _, q1⟩ := hw
            obtain ⟨_, _, arr0, ty0, g0, _, _, _⟩ := hra
            obtain ⟨_, _, arr1, ty1, g1, s1, t1, _⟩ := hrb'
            replace g0 := g0.cells z0
            replace g1 := g1.cells z1
            replace s1 := s1.1 z1
            replace t1 := t1.1 z1
            have hne : p0.b ≠ p1.b := fun e => by
              have := hinj p0 p1 hπ0 hπ1 e
              omega
            have e0 : a0 = ⟨p0.b, p0.o + o1, none⟩ := by rcases q0 with h | h; (· omega); exact h.1
            have e1 : a1 = ⟨p1.b, p1.o + o2, none⟩ := by rcases q1 with h | h; (· omega); exact h.1
            subst e0 e1
            have hrl : 0 < rb.cells.length := List.length_pos_iff.2 hrb
            refine .inr ⟨.bool false, w, ?_, .bool false, m, π, rfl, ?_, VG.sc _ rfl, trivial⟩
            · rw [hvals, run_callFunc_extern hf hname hb hn he, Lib.run_overlaps_apart w tS tR e ht sz hz ⟨p0.b, p0.o + o1, none⟩ ⟨p1.b, p1.o + o2, none⟩ m1 d0 m2 d1 hne ty0 ty1 arr0.size arr1.size (by simp [World.shape?, g0]) (by simp [World.shape?, g1]) (by omega) (by simp [World.frozen?, g0]) (by simp [World.frozen?, g0])]
              rfl
            · exact hr
theorem inR_u64 (n : Int) : inR .u64 n = (0 ≤ n ∧ n ≤ 18446744073709551615) := rfl
attribute [go_sem] inR_u64
end Go.Proofs.Ytabanfgnnelfcaa.Sh
