/- A region whose order is open, told of data: what comes out does not hang on the order, where a check on the operations' places says so. -/
import Derived.Test.YtfkcolodbjonkabDoorShJ
namespace Go.Proofs.YtfkcolodbjonkabDoor.Sh
open Go.RowKit
set_option linter.unusedVariables false
set_option linter.unusedSimpArgs false

structure U (β : Type) where
  ids : List Nat
  c : Nat → β

def app {β : Type} (u : U β) (f : Nat → β) : Nat → β := fun x => if x ∈ u.ids then u.c x else f x

def foldU {β : Type} (S : Nat → Bool) : Nat → List (U β) → (Nat → β) → (Nat → β)
  | _, [], f => f
  | b, u :: l, f => foldU S (b + 1) l (if S b = true then app u f else f)

theorem foldU_agree {β : Type} (S S' : Nat → Bool) (x : Nat) : ∀ (l : List (U β)) (b : Nat) (f f' : Nat → β), f x = f' x → (∀ (k : Nat) u, l[k]? = some u → x ∈ u.ids → S (b + k) = S' (b + k)) → foldU S b l f x = foldU S' b l f' x
  | [], _, _, _, h, _ => h
  | u :: l, b, f, f', h, hs => by
    unfold foldU
    refine foldU_agree S S' x l (b + 1) _ _ ?_ (fun k u' hk hx => by have := hs (k + 1) u' (by simpa using hk) hx; rwa [show b + (k + 1) = b + 1 + k by omega] at this)
    by_cases hx : x ∈ u.ids
    · have := hs 0 u (by simp) hx
      simp only [Nat.add_zero] at this
      rw [this]
      cases S' b
      · exact h
      · simp [app, hx]
    · cases S b <;> cases S' b <;> simp [app, hx, h]

theorem foldU_comm {β : Type} (S : Nat → Bool) (u : U β) : ∀ (l : List (U β)) (b : Nat) (f : Nat → β), (∀ (k : Nat) u', l[k]? = some u' → S (b + k) = true → ∀ x ∈ u.ids, x ∉ u'.ids) → foldU S b l (app u f) = app u (foldU S b l f)
  | [], _, _, _ => rfl
  | u' :: l, b, f, h => by
    unfold foldU
    have hr : ∀ (k : Nat) u2, l[k]? = some u2 → S (b + 1 + k) = true → ∀ x ∈ u.ids, x ∉ u2.ids := fun k u2 hk hs => h (k + 1) u2 (by simpa using hk) (by rwa [show b + (k + 1) = b + 1 + k by omega])
    by_cases hb : S b = true
    · rw [if_pos hb, if_pos hb, ← foldU_comm S u l (b + 1) (app u' f) hr]
      congr 1
      funext x
      have := h 0 u' (by simp) (by simpa using hb) x
      unfold app
      by_cases h1 : x ∈ u.ids
      · simp [h1, this h1]
      · simp [h1]
    · rw [if_neg hb, if_neg hb]
      exact foldU_comm S u l (b + 1) f hr

theorem foldU_insert {β : Type} (S : Nat → Bool) (u : U β) (i : Nat) : ∀ (l : List (U β)) (b k : Nat) (f : Nat → β), l[k]? = some u → i = b + k → S i = false →
    (∀ (k' : Nat) u', k < k' → l[k']? = some u' → S (b + k') = true → ∀ x ∈ u.ids, x ∉ u'.ids) → foldU (fun j => S j || j == i) b l f = app u (foldU S b l f)
  | [], _, _, _, h, _, _, _ => by cases h
  | u0 :: l, b, 0, f, h, hi, hs, hd => by
    simp at h
    subst h
    simp only [Nat.add_zero] at hi
    subst hi
    unfold foldU
    simp only [hs, beq_self_eq_true, Bool.or_true, ↓reduceIte, Bool.false_eq_true]
    rw [← foldU_comm S u0 l (i + 1) f (fun k u' hk hs' => hd (k + 1) u' (by omega) (by simpa using hk) (by rwa [show i + (k + 1) = i + 1 + k by omega]))]
    funext x
    refine foldU_agree _ _ x l (i + 1) _ _ rfl (fun k u' _ _ => ?_)
    have : (i + 1 + k == i) = false := by simp; omega
    simp [this]
  | u0 :: l, b, k + 1, f, h, hi, hs, hd => by
    unfold foldU
    have hb : (b == i) = false := by simp; omega
    simp only [hb, Bool.or_false]
    exact foldU_insert S u i l (b + 1) k _ (by simpa using h) (by omega) hs (fun k' u' hk hl hs' => hd (k' + 1) u' (by omega) (by simpa using hl) (by rwa [show b + (k' + 1) = b + 1 + k' by omega]))

def uT (x : Oper × Ef) : U (Option SV) := ⟨x.1.dst.toList, fun _ => some x.2.val⟩
def uH (x : Oper × Ef) : U (Option Row) := ⟨x.2.ups.map (·.1), upds (fun _ => none) x.2.ups⟩

theorem updD_app (x : Oper × Ef) (tm : Nat → Option SV) : updD tm x.1.dst x.2.val = app (uT x) tm := by
  funext k
  unfold updD app uT upd
  cases x.1.dst with
  | none => simp
  | some d => simp

theorem upds_out : ∀ (l : List (Nat × Option Row)) (hp : Nat → Option Row) (x : Nat), x ∉ l.map (·.1) → upds hp l x = hp x
  | [], _, _, _ => rfl
  | (r, y) :: l, hp, x, h => by
    simp at h
    unfold upds
    rw [upds_out l _ x (by simpa using h.2)]
    exact upd_ne _ _ _ _ h.1

theorem upds_in : ∀ (l : List (Nat × Option Row)) (hp hp' : Nat → Option Row) (x : Nat), x ∈ l.map (·.1) → upds hp l x = upds hp' l x
  | [], _, _, _, h => by simp at h
  | (r, y) :: l, hp, hp', x, h => by
    unfold upds
    by_cases hx : x ∈ l.map (·.1)
    · exact upds_in l _ _ x hx
    · rw [upds_out l _ x hx, upds_out l _ x hx]
      have : x = r := by
        simp at h hx
        rcases h with h | ⟨z, h⟩
        · exact h
        · exact absurd h (hx z)
      subst this
      simp [upd]

theorem upds_app (x : Oper × Ef) (hp : Nat → Option Row) : upds hp x.2.ups = app (uH x) hp := by
  funext k
  unfold app uH
  simp only
  split
  · rename_i h; exact upds_in _ _ _ k h
  · rename_i h; exact upds_out _ _ k h

def nxAt (nx : Nat) (rs : List (Oper × Ef)) (k : Nat) : Nat := nx + ((rs.take k).map (fun x => x.2.cost)).sum

theorem nxAt_succ (nx : Nat) (rs : List (Oper × Ef)) (k : Nat) (x : Oper × Ef) (h : rs[k]? = some x) : nxAt nx rs (k + 1) = nxAt nx rs k + x.2.cost := by
  have hl : k < rs.length := (List.getElem?_eq_some_iff.1 h).1
  have he : rs[k] = x := (List.getElem?_eq_some_iff.1 h).2
  unfold nxAt
  rw [List.take_succ_eq_append_getElem hl, List.map_append, List.sum_append, he]
  simp [Nat.add_assoc]

theorem nxAt_mono (nx : Nat) (rs : List (Oper × Ef)) : ∀ (d k : Nat), nxAt nx rs k ≤ nxAt nx rs (k + d)
  | 0, k => Nat.le_refl _
  | d + 1, k => by
    refine Nat.le_trans (nxAt_mono nx rs d k) ?_
    rw [show k + (d + 1) = k + d + 1 by omega]
    by_cases h : k + d < rs.length
    · rw [nxAt_succ nx rs (k + d) rs[k + d] (by simp [h])]; omega
    · unfold nxAt
      rw [List.take_of_length_le (by omega), List.take_of_length_le (by omega)]
      exact Nat.le_refl _

section
variable {P : Program} {all : Array Oper} {w0 : Base} {A : Nat → Prop} {N : Nat}

structure At (P : Program) (all : Array Oper) (N : Nat) (o : Oper) (e : Ef) (tm : Nat → Option SV) (hp : Nat → Option Row) (nx : Nat) : Prop where
  dst : ∀ k, o.dst = some k → k < N
  ex : (guardIs all o tm true ∧ XLoc P o (evS tm) hp nx e ∧ ∀ u ∈ e.ups, u.1 ∈ e.fp ∨ (nx ≤ u.1 ∧ u.1 < nx + e.cost)) ∨ (guardIs all o tm false ∧ e = ⟨ud, [], 0, []⟩)

theorem foldU_none {β : Type} (S : Nat → Bool) : ∀ (l : List (U β)) (b : Nat) (f : Nat → β), (∀ k, b ≤ k → S k = false) → foldU S b l f = f
  | [], _, _, _ => rfl
  | u :: l, b, f, h => by
    unfold foldU
    rw [if_neg (by rw [h b (Nat.le_refl _)]; simp)]
    exact foldU_none S l (b + 1) f (fun k hk => h k (by omega))

theorem Tr.at {rest : List Oper} {tm : Nat → Option SV} {hp : Nat → Option Row} {nx : Nat} {rs : List (Oper × Ef)} {tm' : Nat → Option SV} {hp' : Nat → Option Row} {nx' : Nat}
    (ht : Tr P all N rest tm hp nx rs tm' hp' nx') : ∀ (b : Nat), rs.map (·.1) = rest ∧ tm' = foldU (fun _ => true) b (rs.map uT) tm ∧ hp' = foldU (fun _ => true) b (rs.map uH) hp ∧ nx' = nxAt nx rs rs.length ∧
      ∀ (k : Nat) x, rs[k]? = some x → At P all N x.1 x.2 (foldU (fun j => decide (j < b + k)) b (rs.map uT) tm) (foldU (fun j => decide (j < b + k)) b (rs.map uH) hp) (nxAt nx rs k) := by
  induction ht with
  | nil tm hp nx => exact fun b => ⟨rfl, rfl, rfl, rfl, fun k x h => by cases h⟩
  | @exec o rest tm hp nx e rs tm' hp' nx' hg hd hx hw h ih =>
    intro b
    obtain ⟨h1, h2, h3, h4, h5⟩ := ih (b + 1)
    refine ⟨by simp [h1], ?_, ?_, ?_, ?_⟩
    · rw [h2]; simp only [List.map_cons, foldU, ↓reduceIte]; rw [← updD_app]
    · rw [h3]; simp only [List.map_cons, foldU, ↓reduceIte]; rw [← upds_app]
    · rw [h4]; simp [nxAt, Nat.add_assoc]
    · intro k x hk
      cases k with
      | zero =>
        simp at hk
        subst hk
        rw [foldU_none _ _ _ _ (fun k hk => by simp; omega), foldU_none _ _ _ _ (fun k hk => by simp; omega)]
        exact ⟨hd, .inl ⟨hg, hx, hw⟩⟩
      | succ k =>
        have := h5 k x (by simpa using hk)
        have hbk : decide (b < b + (k + 1)) = true := by simp
        simp only [List.map_cons, foldU, hbk, ↓reduceIte]
        rw [← updD_app (o, e), ← upds_app (o, e)]
        have e1 : nxAt nx ((o, e) :: rs) (k + 1) = nxAt (nx + e.cost) rs k := by simp [nxAt, Nat.add_assoc]
        rw [e1, show b + (k + 1) = b + 1 + k by omega]
        exact this
  | @skip o rest tm hp nx rs tm' hp' nx' hg hd h ih =>
    intro b
    obtain ⟨h1, h2, h3, h4, h5⟩ := ih (b + 1)
    have hu : ∀ hp : Nat → Option Row, app (uH (o, ⟨ud, [], 0, []⟩)) hp = hp := fun hp => by funext x; simp [app, uH]
    refine ⟨by simp [h1], ?_, ?_, ?_, ?_⟩
    · rw [h2]; simp only [List.map_cons, foldU, ↓reduceIte]; rw [← updD_app]
    · rw [h3]; simp only [List.map_cons, foldU, ↓reduceIte, hu]
    · rw [h4]; simp [nxAt, Ef.cost, Nat.add_assoc]
    · intro k x hk
      cases k with
      | zero =>
        simp at hk
        subst hk
        rw [foldU_none _ _ _ _ (fun k hk => by simp; omega), foldU_none _ _ _ _ (fun k hk => by simp; omega)]
        exact ⟨hd, .inr ⟨hg, rfl⟩⟩
      | succ k =>
        have := h5 k x (by simpa using hk)
        have hbk : decide (b < b + (k + 1)) = true := by simp
        simp only [List.map_cons, foldU, hbk, ↓reduceIte, hu]
        rw [← updD_app (o, ⟨ud, [], 0, []⟩)]
        have e1 : nxAt nx ((o, (⟨ud, [], 0, []⟩ : Ef)) :: rs) (k + 1) = nxAt (nx + 1) rs k := by simp [nxAt, Ef.cost, Nat.add_assoc]
        rw [e1, show b + (k + 1) = b + 1 + k by omega]
        exact this

end
end Go.Proofs.YtfkcolodbjonkabDoor.Sh
