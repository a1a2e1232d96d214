/- What each kind of operation does, told of data: builtins, make, slicing, values of parts. -/
import Derived.Test.YtfkcolodbjonkabDoorShF
namespace Go.Proofs.YtfkcolodbjonkabDoor.Sh
open Go.RowKit
set_option linter.unusedVariables false
set_option linter.unusedSimpArgs false

def bnd : Option SV → Option (Option Int)
  | none => some none
  | some (.one (.sc (.int _ n))) => some (some n)
  | _ => none

def capOf (cap : Option Nat) (len : Nat) (l : Int) (mx : Option Int) : Option Nat :=
  match mx with
  | some m => some (m.toNat - l.toNat)
  | none => (match cap with
    | some c => some (c - l.toNat)
    | none => none)

def top (cap : Option Nat) (len : Nat) : Nat :=
  match cap with
  | some c => c
  | none => len

def sSlice (T : Tab) (get : Nat → Option Row) (t : Nat) (x : SV) (lo hi mx : Option SV) : Res :=
  match slot t T.ts, bnd lo, bnd hi, bnd mx with
  | some ti, some lo, some hi, some mx =>
    (match ti.kind with
    | .str => (match x, mx with
      | .one (.sc (.string s)), none =>
        ⟨0 ≤ lo.getD 0 ∧ lo.getD 0 ≤ hi.getD s.size ∧ hi.getD s.size ≤ (s.size : Int), V (.string (s.extract (lo.getD 0).toNat (hi.getD s.size).toNat)), [], 0⟩
      | _, _ => bad)
    | .slice e => (match slot e T.ts with
      | none => bad
      | some te => (match x with
        | .one (.osl r off len cap) =>
          ⟨0 ≤ lo.getD 0 ∧ lo.getD 0 ≤ hi.getD len ∧ hi.getD len ≤ mx.getD (top cap len) ∧ mx.getD (top cap len) ≤ (top cap len : Int) ∧ (mx.isSome → hi.isSome) ∧ live get r ∧ ∀ row, get r = some row → row.esz = te.size,
            .one (.osl r (off + (lo.getD 0).toNat * te.size) ((hi.getD len).toNat - (lo.getD 0).toNat) (capOf cap len (lo.getD 0) mx)), [], 0⟩
        | .one (.gsl cs off len cap) =>
          ⟨0 ≤ lo.getD 0 ∧ lo.getD 0 ≤ hi.getD len ∧ hi.getD len ≤ mx.getD len ∧ mx.getD len ≤ (len : Int) ∧ (mx.isSome → hi.isSome),
            .one (.gsl cs (off + (lo.getD 0).toNat * te.size) ((hi.getD len).toNat - (lo.getD 0).toNat) (capOf cap len (lo.getD 0) mx)), [], 0⟩
        | .one (.sc (.slice none 0 0)) =>
          ⟨lo.getD 0 = 0 ∧ hi.getD 0 = 0 ∧ mx.getD 0 = 0 ∧ (mx.isSome → hi.isSome), V (.slice none 0 0), [], 0⟩
        | _ => bad))
    | _ => bad)
  | _, _, _, _ => bad

section
variable {P : Program} {o : Oper} {w0 : Base} {A : Nat → Prop} {N : Nat} {Fr : Nat → Prop} {tm : Nat → Option SV} {hp : Nat → Option Row} {a : Act} {w : World} {m : Mem} {π : Plc} {n : Nat}

theorem bounds_run (isS : Bool) (len cap : Nat) (lo hi mx : Option Int) (kl kh km : IntKind) (h0 : 0 ≤ lo.getD 0) (h1 : lo.getD 0 ≤ hi.getD len) (h2 : hi.getD len ≤ mx.getD cap) (h3 : mx.getD cap ≤ cap) (h4 : mx.isSome → hi.isSome) :
    (Instr.sliceBounds isS len cap (lo.map (Value.int kl)) (hi.map (Value.int kh)) (mx.map (Value.int km))).run P w = .ok ((lo.getD 0).toNat, (hi.getD len).toNat, (mx.getD cap).toNat) w := by
  have hb : ∀ (k : IntKind) (i : Int) (y : Nat) (code : BoundsCode), 0 ≤ i → i ≤ y → (Instr.sliceBound (.int k i) y code).run P w = .ok i.toNat w := fun k i y code a b => run_sliceBound w k i y code a b
  cases mx with
  | none =>
    cases hi with
    | none => cases lo <;> simp [Instr.sliceBounds] at * <;> (try rw [hb _ _ _ _ (by omega) (by omega)]) <;> simp
    | some hh =>
      simp at h1 h2
      cases lo <;> simp [Instr.sliceBounds] at * <;> rw [hb _ _ _ _ (by omega) (by omega)] <;> simp
      rw [hb _ _ _ _ (by omega) (by omega)]; simp
  | some mm =>
    cases hi with
    | none => simp at h4
    | some hh =>
      simp at h1 h2 h3
      cases lo <;> simp [Instr.sliceBounds] at * <;> rw [hb _ _ _ _ (by omega) (by omega)] <;> simp <;> rw [hb _ _ _ _ (by omega) (by omega)] <;> simp
      rw [hb _ _ _ _ (by omega) (by omega)]; simp

theorem bnd_ok {s : Option SV} {x : Option Operand} {b : Option Int} (h : bnd s = some b) (hs : ∀ p y, s = some p → x = some y → VS m π p (a.eval y)) (hx : s.isSome = x.isSome) :
    ∃ k, x.map a.eval = b.map (Value.int k) := by
  cases s with
  | none =>
    cases x with
    | none => simp [bnd] at h; subst h; exact ⟨.i64, rfl⟩
    | some y => simp at hx
  | some p =>
    cases x with
    | none => simp at hx
    | some y =>
      have hp := hs p y rfl rfl
      unfold bnd at h
      split at h
      · rename_i e; cases e
      · rename_i k nn e
        cases e
        cases h
        exact ⟨_, by simp [(vs_sc hp).1]; rfl⟩
      · cases h


theorem slice_run {t e : Nat} {te : TI} (hu : P.underlying t = some (.slice e)) (hte : TIok P e te) (base : Option Addr) (len cap : Nat) (lo hi mx : Option Int) (kl kh km : IntKind)
    (h0 : 0 ≤ lo.getD 0) (h1 : lo.getD 0 ≤ hi.getD len) (h2 : hi.getD len ≤ mx.getD cap) (h3 : mx.getD cap ≤ cap) (h4 : mx.isSome → hi.isSome) :
    (Instr.sliceAt t (.slice base len cap) (lo.map (Value.int kl)) (hi.map (Value.int kh)) (mx.map (Value.int km))).run P w =
      .ok (.slice (if (mx.getD cap).toNat = (lo.getD 0).toNat then base else base.map (·.add ((lo.getD 0).toNat * te.size))) ((hi.getD len).toNat - (lo.getD 0).toNat) ((mx.getD cap).toNat - (lo.getD 0).toNat)) w := by
  have hb := bounds_run (P := P) (w := w) true len cap lo hi mx kl kh km h0 h1 h2 h3 h4
  simp only [Instr.sliceAt, Instr.slice, Sem.run_bind, run_underlying hu, Result.andThen_ok, hb, hte.size, Sem.run_pure]

theorem sSlice_ok (T : Tab) (hT : TOk P T) (h : RelAt P w0 A N Fr tm hp a w m π) {t : Nat} {x : Operand} {lo hi mx : Option Operand} (ho : o.op = .slice t x lo hi mx) {p : SV} {slo shi smx : Option SV}
    (hp' : VS m π p (a.eval x)) (hcl : p.cl Fr)
    (hlo : ∀ p y, slo = some p → lo = some y → VS m π p (a.eval y)) (hlo' : slo.isSome = lo.isSome)
    (hhi : ∀ p y, shi = some p → hi = some y → VS m π p (a.eval y)) (hhi' : shi.isSome = hi.isSome)
    (hmx : ∀ p y, smx = some p → mx = some y → VS m π p (a.eval y)) (hmx' : smx.isSome = mx.isSome)
    (hn : (sSlice T hp t p slo shi smx).need) : Good P o w0 A N Fr tm hp a w n (sSlice T hp t p slo shi smx) := by
  have hex : execOp a.eval o = (do pure (.value (← Instr.sliceAt t (a.eval x) (lo.map a.eval) (hi.map a.eval) (mx.map a.eval)))) := by unfold execOp; rw [ho]
  unfold sSlice at hn ⊢
  split at hn
  · rename_i _ _ _ _ ti l hh mm hl hb1 hb2 hb3
    have hti := hT t ti hl
    obtain ⟨kl, el⟩ := bnd_ok hb1 hlo hlo'
    obtain ⟨kh, eh⟩ := bnd_ok hb2 hhi hhi'
    obtain ⟨km, em⟩ := bnd_ok hb3 hmx hmx'
    rw [el, eh, em] at hex
    split at hn
    · rename_i hk
      have hu := hti.str hk
      split at hn
      · rename_i s
        obtain ⟨e1, _⟩ := vs_sc hp'
        obtain ⟨h0, h1, h2⟩ := hn
        have hb := bounds_run (P := P) (w := w) false s.size s.size l hh none kl kh .i64 h0 h1 (by simpa using h2) (by simp) (by simp)
        refine good_val h ?_ rfl
        rw [hex, e1]
        simp only [Option.map_none] at hb
        simp [Instr.sliceAt, Instr.slice, run_underlying hu, hb]
      · exact hn.elim
    · rename_i e hk
      have hu := hti.slice hk
      cases hl2 : slot e T.ts with
      | none => rw [hl2] at hn; exact hn.elim
      | some te =>
        rw [hl2] at hn
        simp only at hn ⊢
        have hte := hT e te hl2
        split at hn
        · rename_i r off len cap
          simp only at hn ⊢
          obtain ⟨h0, h1, h2, h3, h4, hlv, hes⟩ := hn
          obtain ⟨row, q, hr, hq, hq2⟩ := live_row h hlv
          have hesz := hes row hr
          have hx' := hp'
          obtain ⟨_, hvc⟩ := hx'
          rw [hq] at hvc
          rcases osl_at h hp' hr with ⟨hπ, hlen0, _, base, e1⟩ | ⟨pl, ad, c, hπ, e1, hlc, hpz, hor⟩
          · subst hlen0
            have htop : top cap 0 = 0 := by
              unfold top
              rw [hπ] at hq
              cases hq
              simp only at hvc
              cases hcap : cap with
              | none => rfl
              | some c0 => exact hvc.2.1 c0 hcap
            rw [htop] at h2 h3
            have hrun := slice_run (w := w) hu hte base 0 0 l hh mm kl kh km h0 h1 h2 (by simpa using h3) h4
            rw [← e1] at hrun
            refine good_pure h (v := .slice base 0 0) ?_ ⟨rfl, ?_⟩ hcl
            · rw [hex]
              simp only [Sem.run_bind, hrun, Result.andThen_ok, Sem.run_pure]
              have z1 : (hh.getD 0).toNat - (l.getD 0).toNat = 0 := by simp at h1 h2 h3 ⊢; omega
              have z2 : (mm.getD 0).toNat - (l.getD 0).toNat = 0 := by simp at h1 h2 h3 ⊢; omega
              have z3 : (mm.getD 0).toNat = (l.getD 0).toNat := by simp at h1 h2 h3 ⊢; omega
              simp only [Int.natCast_zero, Int.ofNat_eq_natCast] at *
              simp [z1, z2, z3]
            · rw [hπ]
              rw [hπ] at hq
              cases hq
              simp only at hvc
              refine ⟨by simp at h1 h2 h3 ⊢; omega, fun k hk => ?_, base, rfl⟩
              unfold capOf at hk
              cases hm : mm with
              | some m0 =>
                rw [hm] at hk h2 h3
                simp at hk h1 h2 h3
                omega
              | none =>
                rw [hm] at hk
                cases hcap : cap with
                | none => rw [hcap] at hk; cases hk
                | some c0 =>
                  rw [hcap] at hk
                  have := hvc.2.1 c0 hcap
                  simp at hk
                  omega
          · rw [hπ] at hq
            cases hq
            simp only at hvc
            obtain ⟨_, ad2, c2, e2, _, hcc, _⟩ := hvc
            rw [e1] at e2
            cases e2
            have hrow := h.rows r row hr
            unfold RowOk at hrow
            rw [hπ] at hrow
            have hpe : pl.esz = te.size := by rw [hrow.2.1]; exact hesz
            have htop : (top cap len : Int) ≤ (c : Int) := by
              unfold top
              cases hcap : cap with
              | none => simp only; omega
              | some c0 => have := hcc c0 hcap; simp only; omega
            have hmc : hh.getD len ≤ mm.getD c ∧ mm.getD c ≤ (c : Int) := by
              cases mm with
              | none => simp only [Option.getD_none] at h2 h3 ⊢; omega
              | some m0 => simp only [Option.getD_some] at h2 h3 ⊢; omega
            have hrun := slice_run (w := w) hu hte (some ad) len c l hh mm kl kh km h0 h1 hmc.1 hmc.2 h4
            rw [← e1] at hrun
            refine good_pure h (v := .slice (if (mm.getD c).toNat = (l.getD 0).toNat then some ad else (some ad).map (·.add ((l.getD 0).toNat * te.size))) ((hh.getD len).toNat - (l.getD 0).toNat) ((mm.getD c).toNat - (l.getD 0).toNat)) ?_ ⟨rfl, ?_⟩ hcl
            · rw [hex]
              simp only [Sem.run_bind, hrun, Result.andThen_ok, Sem.run_pure]
            · rw [hπ]
              simp only
              have hcap : ∀ k, capOf cap len (l.getD 0) mm = some k → (mm.getD c).toNat - (l.getD 0).toNat = k := by
                intro k hk
                unfold capOf at hk
                cases hm : mm with
                | some m0 => rw [hm] at hk; simpa using hk
                | none =>
                  rw [hm] at hk
                  cases hcap : cap with
                  | none => rw [hcap] at hk; cases hk
                  | some c0 =>
                    rw [hcap] at hk
                    have := hcc c0 hcap
                    simp at hk ⊢
                    omega
              by_cases hml : (mm.getD c).toNat = (l.getD 0).toNat
              · rw [if_pos hml]
                exact ⟨hpz, ad, _, rfl, by omega, hcap, .inl ⟨by omega, by omega⟩⟩
              · rw [if_neg hml]
                have hex3 : ad = ⟨pl.b, pl.o + off, none⟩ ∧ off + c * pl.esz ≤ pl.tot := by
                  rcases hor with ⟨g1, g2⟩ | g
                  · omega
                  · exact g
                obtain ⟨rfl, hfit⟩ := hex3
                refine ⟨hpz, _, _, rfl, by omega, hcap, .inr ⟨?_, ?_⟩⟩
                · show Addr.add _ _ = _
                  rw [addr_add, Nat.add_assoc]
                · rw [hpe] at hfit ⊢
                  have hk1 : (l.getD 0).toNat * te.size + ((mm.getD c).toNat - (l.getD 0).toNat) * te.size = (mm.getD c).toNat * te.size := by
                    rw [← Nat.add_mul]; congr 1; omega
                  have hk2 : (mm.getD c).toNat * te.size ≤ c * te.size := Nat.mul_le_mul_right _ (by omega)
                  omega
        · rename_i cs off len cap
          simp only at hn ⊢
          obtain ⟨h0, h1, h2, h3, h4⟩ := hn
          generalize hev : a.eval x = u at hp' hex
          cases hp' with
          | gnil _ _ _ hc =>
            have hrun := slice_run (w := w) hu hte none 0 0 l hh mm kl kh km h0 h1 h2 (by simpa using h3) h4
            have z1 : (hh.getD ((0 : Nat) : Int)).toNat - (l.getD 0).toNat = 0 := by simp at h1 h2 h3 ⊢; omega
            refine good_pure h (v := .slice none 0 0) ?_ ?_ trivial
            · rw [hex]
              simp only [Sem.run_bind, hrun, Result.andThen_ok, Sem.run_pure]
              have z2 : (mm.getD ((0 : Nat) : Int)).toNat - (l.getD 0).toNat = 0 := by simp at h1 h2 h3 ⊢; omega
              rw [z1, z2]
              simp
            · rw [z1]
              refine VG.gnil cs _ _ (fun k hk => ?_)
              unfold capOf at hk
              cases hm : mm with
              | some m0 =>
                rw [hm] at hk h2 h3
                simp at hk h1 h2 h3
                omega
              | none =>
                rw [hm] at hk
                cases hcap : cap with
                | none => rw [hcap] at hk; cases hk
                | some c0 =>
                  rw [hcap] at hk
                  have := hc c0 hcap
                  simp at hk
                  omega
          | gsl _ _ _ _ b oo c ad vals hc hlc hm hv ha =>
            have hmc : hh.getD len ≤ mm.getD c ∧ mm.getD c ≤ (c : Int) := by
              cases mm with
              | none => simp at h2 ⊢; omega
              | some m0 => simp at h2 h3 ⊢; omega
            have hrun := slice_run (w := w) hu hte (some ad) len c l hh mm kl kh km h0 h1 hmc.1 hmc.2 h4
            have hcap : ∀ k, capOf cap len (l.getD 0) mm = some k → (mm.getD c).toNat - (l.getD 0).toNat = k := by
              intro k hk
              unfold capOf at hk
              cases hm : mm with
              | some m0 => rw [hm] at hk; simpa using hk
              | none =>
                rw [hm] at hk
                cases hcap : cap with
                | none => rw [hcap] at hk; cases hk
                | some c0 =>
                  rw [hcap] at hk
                  have := hc c0 hcap
                  simp at hk ⊢
                  omega
            by_cases hml : (mm.getD c).toNat = (l.getD 0).toNat
            · refine good_pure h (v := .slice (some ad) ((hh.getD len).toNat - (l.getD 0).toNat) ((mm.getD c).toNat - (l.getD 0).toNat)) ?_ (VG.gsl cs _ _ _ b oo _ ad vals hcap (by omega) hm hv (.inr (by omega))) trivial
              rw [hex]
              simp only [Sem.run_bind, hrun, Result.andThen_ok, Sem.run_pure, hml, ↓reduceIte]
            · refine good_pure h (v := .slice (some (ad.add ((l.getD 0).toNat * te.size))) ((hh.getD len).toNat - (l.getD 0).toNat) ((mm.getD c).toNat - (l.getD 0).toNat)) ?_ (VG.gsl cs _ _ _ b oo _ _ vals hcap (by omega) hm hv ?_) trivial
              · rw [hex]
                simp only [Sem.run_bind, hrun, Result.andThen_ok, Sem.run_pure, hml, ↓reduceIte, Option.map_some]
              · rcases ha with rfl | hl0
                · left; rw [addr_add, Nat.add_assoc]
                · right; omega
        · obtain ⟨e1, _⟩ := vs_sc hp'
          simp only at hn ⊢
          obtain ⟨h0, h1, h2, h4⟩ := hn
          have hrun := slice_run (w := w) hu hte none 0 0 l hh mm kl kh km (by omega) (by simp; omega) (by simp; omega) (by simp; omega) h4
          refine good_val h ?_ rfl
          rw [hex, e1]
          simp only [Sem.run_bind, hrun, Result.andThen_ok, Sem.run_pure]
          simp [h0, h1, h2]
        · exact hn.elim
    · exact hn.elim
  · exact hn.elim


theorem sLen_ok (T : Tab) (hT : TOk P T) (h : RelAt P w0 A N Fr tm hp a w m π) {t : Nat} {x : Operand} {c : Call} (ho : o.op = .call c) (hc1 : c.callee = .builtin .len) (hc2 : c.args = #[x]) (hc3 : c.argTypes = #[t]) {p : SV}
    (hp' : VS m π p (a.eval x)) (hn : (sLen T hp t p).need) : Good P o w0 A N Fr tm hp a w n (sLen T hp t p) := by
  have hex : ∀ r, (Builtin.len_ #[t] o.type #[a.eval x]).run P w = .ok r w → (execOp a.eval o).run P w = .ok (.value r) w := by
    intro r hr
    unfold execOp
    rw [ho]
    simp [resolve, hc1, hc2, hc3, invoke, builtin, hr]
  unfold sLen at hn ⊢
  cases hl : slot t T.ts with
  | none => rw [hl] at hn; exact hn.elim
  | some ti =>
    rw [hl] at hn
    have hti := hT t ti hl
    simp only at hn ⊢
    split at hn
    · rename_i r off len cap hk
      have hu := hti.slice hk
      obtain ⟨row, q, hr, hq, hq2⟩ := live_row h hn
      rcases osl_at h hp' hr with ⟨_, hl0, _, ad, e1⟩ | ⟨p, ad, c, _, e1, _⟩
      · rw [e1] at hex
        exact good_val h (hex _ (by simp [Builtin.len_, run_underlying hu, goInt, hl0])) rfl
      · rw [e1] at hex
        exact good_val h (hex _ (by simp [Builtin.len_, run_underlying hu, goInt])) rfl
    · rename_i cs off len cap hk
      have hu := hti.slice hk
      generalize hev : a.eval x = u at hp' hex
      cases hp' with
      | gnil _ _ _ hc => exact good_val h (hex _ (by simp [Builtin.len_, run_underlying hu, goInt])) rfl
      | gsl _ _ _ _ b oo c ad vals hc hlc hm hv ha => exact good_val h (hex _ (by simp [Builtin.len_, run_underlying hu, goInt])) rfl
    · rename_i hk
      have hu := hti.slice hk
      obtain ⟨e1, _⟩ := vs_sc hp'
      rw [e1] at hex
      exact good_val h (hex _ (by simp [Builtin.len_, run_underlying hu, goInt])) rfl
    · rename_i hk
      have hu := hti.slice hk
      obtain ⟨e1, _⟩ := vs_sc hp'
      rw [e1] at hex
      exact good_val h (hex _ (by simp [Builtin.len_, run_underlying hu, goInt])) rfl
    · rename_i b hk
      have hu := hti.str hk
      obtain ⟨e1, _⟩ := vs_sc hp'
      rw [e1] at hex
      exact good_val h (hex _ (by simp [Builtin.len_, run_underlying hu, goInt])) rfl
    · rename_i nn e hk
      have hu := hti.array hk
      exact good_val h (hex _ (by simp [Builtin.len_, run_underlying hu, goInt])) rfl
    · exact hn.elim

theorem ints_ok : ∀ {ps : List SV} {vs : List Value} {l : List (IntKind × Int)}, VSL m π ps vs → ints ps = some l → vs = l.map (fun x => Value.int x.1 x.2)
  | [], [], l, _, h => by simp [ints] at h; subst h; rfl
  | p :: ps, v :: vs, l, hv, h => by
    unfold ints at h
    split at h
    · cases ‹_ :: _ = []›
    · rename_i k nn r e
      cases e
      split at h
      · rename_i l' hl'
        cases h
        have := ints_ok hv.2 hl'
        rw [this, (vs_sc hv.1).1]
        rfl
      · cases h
    · cases h

theorem foldMin_run : ∀ (l : List (IntKind × Int)) (k : IntKind) (x : Int), (∀ y ∈ l, True) → ((l.map (fun x => Value.int x.1 x.2)).foldlM Builtin.min2 (.int k x)).run P w = .ok (.int k (foldMin x l)) w
  | [], k, x, _ => rfl
  | (k', y) :: r, k, x, _ => by
    simp only [List.map_cons, List.foldlM_cons, Sem.run_bind, Builtin.min2, Sem.run_pure, Result.andThen_ok]
    exact foldMin_run r k _ (fun _ _ => trivial)
theorem foldMax_run : ∀ (l : List (IntKind × Int)) (k : IntKind) (x : Int), ((l.map (fun x => Value.int x.1 x.2)).foldlM Builtin.max2 (.int k x)).run P w = .ok (.int k (foldMax x l)) w
  | [], k, x => rfl
  | (k', y) :: r, k, x => by
    simp only [List.map_cons, List.foldlM_cons, Sem.run_bind, Builtin.max2, Sem.run_pure, Result.andThen_ok]
    have := foldMax_run r k (if x < y then y else x)
    simpa [foldMax] using this

theorem sMin_ok (h : RelAt P w0 A N Fr tm hp a w m π) {c : Call} (ho : o.op = .call c) (hc1 : c.callee = .builtin .min) {ps : List SV}
    (hp' : VSL m π ps (c.args.map a.eval).toList) (hn : (sMin ps).need) : Good P o w0 A N Fr tm hp a w n (sMin ps) := by
  unfold sMin at hn ⊢
  split at hn
  · rename_i k x r he
    have hv := ints_ok hp' he
    refine good_val h ?_ rfl
    unfold execOp
    rw [ho]
    have hr := foldMin_run (P := P) (w := w) r k x (fun _ _ => trivial)
    simp only [resolve, hc1, Sem.run_bind, Sem.run_pure, Result.andThen_ok, invoke, builtin, Builtin.min_, hv, List.map_cons]
    rw [hr]
    rfl
  · exact hn.elim
theorem sMax_ok (h : RelAt P w0 A N Fr tm hp a w m π) {c : Call} (ho : o.op = .call c) (hc1 : c.callee = .builtin .max) {ps : List SV}
    (hp' : VSL m π ps (c.args.map a.eval).toList) (hn : (sMax ps).need) : Good P o w0 A N Fr tm hp a w n (sMax ps) := by
  unfold sMax at hn ⊢
  split at hn
  · rename_i k x r he
    have hv := ints_ok hp' he
    refine good_val h ?_ rfl
    unfold execOp
    rw [ho]
    have hr := foldMax_run (P := P) (w := w) r k x
    simp only [resolve, hc1, Sem.run_bind, Sem.run_pure, Result.andThen_ok, invoke, builtin, Builtin.max_, hv, List.map_cons]
    rw [hr]
    rfl
  · exact hn.elim

theorem zeros_get {ti : TI} (hl : ti.zero.length = ti.size) (hz : 0 < ti.size) (z : Array Value) (hzz : z.toList = ti.zero) (k : Nat) :
    (zeros ti.size ti.zero k).length = k * ti.size ∧ ∀ (i : Nat) c, (zeros ti.size ti.zero k)[i]? = some c → ∃ x, (madeCells z (k * ti.size))[i]? = some x ∧ c = .sc x ∧ x ∈ ti.zero := by
  have hzs : z.size = ti.size := by rw [← Array.length_toList, hzz, hl]
  have hgen : ∀ k, ((List.replicate k (ti.zero.map Cell.sc)).flatten).length = k * ti.size ∧ ∀ (i : Nat), i < k * ti.size → ((List.replicate k (ti.zero.map Cell.sc)).flatten)[i]? = (ti.zero[i % ti.size]?).map Cell.sc := by
    intro k
    induction k with
    | zero => simp
    | succ k ih =>
      obtain ⟨i1, i2⟩ := ih
      constructor
      · simp [List.replicate_succ, i1, hl, Nat.add_mul]
        simp at i1; omega
      · intro i hi
        simp only [List.replicate_succ, List.flatten_cons]
        by_cases c : i < ti.size
        · rw [List.getElem?_append_left (by simp [hl]; exact c), List.getElem?_map, Nat.mod_eq_of_lt c]
        · rw [List.getElem?_append_right (by simp [hl]; omega)]
          simp only [List.length_map, hl]
          have hmod : i % ti.size = (i - ti.size) % ti.size := Nat.mod_eq_sub_mod (by omega)
          rw [i2 _ (by rw [Nat.add_mul] at hi; omega), hmod]
  have hzeros : (zeros ti.size ti.zero k) = (List.replicate k (ti.zero.map Cell.sc)).flatten := by
    unfold zeros
    split
    · rename_i h1
      have hl1 : ti.zero.length = 1 := by omega
      obtain ⟨x, hx⟩ := List.length_eq_one_iff.1 hl1
      rw [hx]
      simp [List.headD]
    · rfl
  rw [hzeros]
  obtain ⟨g1, g2⟩ := hgen k
  refine ⟨g1, fun i c hi => ?_⟩
  have hil : i < k * ti.size := by have := (List.getElem?_eq_some_iff.1 hi).1; omega
  rw [g2 i hil] at hi
  have hm : i % ti.size < ti.size := Nat.mod_lt _ hz
  have hm2 : i % ti.size < ti.zero.length := by omega
  rw [List.getElem?_eq_getElem hm2] at hi
  simp at hi
  refine ⟨ti.zero[i % ti.size], ?_, hi.symm, List.getElem_mem hm2⟩
  simp only [madeCells, hzs]
  rw [Array.getElem?_map, Array.getElem?_range]
  simp [hil]
  have : z[i % ti.size]! = z[i % ti.size]'(by omega) := by rw [getElem!_pos z (i % ti.size) (by omega)]
  rw [this]
  have h2 : z.toList[i % ti.size]'(by simp; omega) = ti.zero[i % ti.size] := by
    congr 1
  simpa using h2

theorem sMake_ok (T : Tab) (hT : TOk P T) (h : RelAt P w0 A N Fr tm hp a w m π) (hf : Fr n) {t : Nat} {x y : Operand} (ho : o.op = .makeSlice t x y) {p q : SV}
    (hp' : VS m π p (a.eval x)) (hq' : VS m π q (a.eval y)) (hn : (sMake T t p q n).need) : Good P o w0 A N Fr tm hp a w n (sMake T t p q n) := by
  have hex : execOp a.eval o = (do pure (.value (← Instr.makeSlice t (a.eval x) (a.eval y)))) := by unfold execOp; rw [ho]
  unfold sMake at hn ⊢
  split at hn
  · rename_i _ _ _ ti kl l kc c hl
    have hti := hT t ti hl
    obtain ⟨e1, _⟩ := vs_sc hp'
    obtain ⟨e2, _⟩ := vs_sc hq'
    split at hn
    · rename_i e hk
      cases hl2 : slot e T.ts with
      | none => rw [hl2] at hn; exact hn.elim
      | some te =>
        rw [hl2] at hn
        simp only at hn ⊢
        have hte := hT e te hl2
        have hu := hti.slice hk
        obtain ⟨i, d, z, g1, g2, g3, g4, g5, g6, g7, g8, g9⟩ := hte.ex
        obtain ⟨h0, h1, h2, h3, h4⟩ := hn
        have hcb : c ≤ (te.bytes : Int) * c := by
          have : (1 : Int) * c ≤ te.bytes * c := Int.mul_le_mul_of_nonneg_right (by omega) (by omega)
          omega
        have hrun := run_make (P := P) w t e i z hu g1 g6 kl kc l c h0 h1 (by rw [g4]; exact h2) (by omega)
        rw [g3] at hrun
        obtain ⟨z1, z2⟩ := zeros_get g8 h4 z.cells g7 c.toNat
        refine good_alloc h hf (arr := madeCells z.cells (c.toNat * te.size)) (e := e) (row := ⟨zeros te.size te.zero c.toNat, te.size⟩) (v := .slice (some ⟨w.heap.size, 0, none⟩) l.toNat c.toNat) (by rw [hex, e1, e2]; simp [hrun]) (by simp only; omega) ?_ ?_ ?_ ?_ ?_ ?_
        · simp [z1, size_madeCells]
        · intro j cc hj
          obtain ⟨xx, k1, k2, k3⟩ := z2 j cc hj
          exact ⟨xx, k1, by rw [k2]; exact VG.sc xx (g9 xx k3)⟩
        · intro cc hcc
          obtain ⟨j, hj, rfl⟩ := List.mem_iff_getElem.1 hcc
          obtain ⟨xx, k1, k2, k3⟩ := z2 j _ (List.getElem?_eq_getElem hj)
          rw [k2]; trivial
        · intro cc hcc
          obtain ⟨j, hj, rfl⟩ := List.mem_iff_getElem.1 hcc
          obtain ⟨xx, k1, k2, k3⟩ := z2 j _ (List.getElem?_eq_getElem hj)
          rw [k2]; exact fun hh => by cases hh
        · refine ⟨rfl, ?_⟩
          rw [upd_same]
          exact ⟨by simp only; omega, _, _, rfl, by omega, fun k hk => by cases hk; rfl, .inr ⟨rfl, by simp [size_madeCells]⟩⟩
        · exact fun hq => hq.2 rfl
    · exact hn.elim
  · exact hn.elim

end
end Go.Proofs.YtfkcolodbjonkabDoor.Sh
