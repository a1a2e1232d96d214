/- A region that draws its order and whose last store writes cells that it has loaded: the loads may be taken first, if the store waits for operation t and t waits for the loads. -/
import Derived.OrdersHeld
import Derived.RegionTactic
import Derived.Test.YtcfkmkabjalgjacRows
namespace Go.Proofs.Ytcfkmkabjalgjac
open Go
set_option linter.unusedVariables false
set_option linter.unusedSimpArgs false

/-- In whatever order the rest comes up; as long as t has not come up, S is shown behind each step. -/
def wpAnyD (P : Program) (ops : Array Oper) (Q : Exit → Act → World → Prop) (S : World → Prop) (t : Nat) : Nat → Array Bool → Act → World → Prop
  | 0, listed, a, w => Region.ready .any ops listed = [] ∧ Q .normal a w
  | n + 1, listed, a, w => (Region.ready .any ops listed = [] → Q .normal a w) ∧ ∀ j, j ∈ Region.ready .any ops listed →
      wpOp P ops Q j (fun a' w' => ((listed.setIfInBounds j true).getD t false = false → S w') ∧ wpAnyD P ops Q S t n (listed.setIfInBounds j true) a' w') a w

section
variable {P : Program} {ops : Array Oper} {Q : Exit → Act → World → Prop} {S : World → Prop} {t : Nat}

theorem wpAnyD_any : ∀ (n : Nat) (listed : Array Bool) (a : Act) (w : World), wpAnyD P ops Q S t n listed a w → wpAny P .any ops Q n listed a w
  | 0, _, _, _, h => h
  | n + 1, _, _, _, h => ⟨h.1, fun j hj => wpOp_mono (fun a' w' k => wpAnyD_any n _ a' w' k.2) (h.2 j hj)⟩

theorem wpAnyD_late : ∀ (n : Nat) (listed : Array Bool) (a : Act) (w : World), listed.getD t false = true → wpAny P .any ops Q n listed a w → wpAnyD P ops Q S t n listed a w
  | 0, _, _, _, _, h => h
  | n + 1, listed, _, _, ht, h => ⟨h.1, fun j hj => wpOp_mono (fun a' w' k => ⟨fun hf => (by rw [getD_set_true ht] at hf; cases hf), wpAnyD_late n _ a' w' (getD_set_true ht) k⟩) (h.2 j hj)⟩

/-- Each of Ds waits for i, or for another of Ds. -/
def downB (ops : Array Oper) (i : Nat) (Ds : List Nat) : Bool :=
  Ds.all fun j => match ops[j]? with
    | some o => o.after.toList.any fun e => Region.binds .any e && (e.on == i || Ds.contains e.on)
    | none => true

theorem unlisted_of {listed : Array Bool} {i : Nat} (h : listed.getD i true = false) : listed.getD i false = false := by
  by_cases hlt : i < listed.size
  · simp only [Array.getD, hlt, dif_pos] at h ⊢; exact h
  · simp only [Array.getD, hlt, dif_neg, not_false_eq_true]

theorem no_down {i : Nat} {Ds : List Nat} {listed : Array Bool} (hd : downB ops i Ds = true) (hi : listed.getD i true = false) (hu : ∀ k ∈ Ds, listed.getD k false = false) {j : Nat} (hj : j ∈ Region.ready .any ops listed) : j ∉ Ds := by
  intro hjD
  obtain ⟨h0, o, ho, hall⟩ := mem_ready.1 hj
  have h1 := List.all_eq_true.1 hd j hjD
  simp only [ho] at h1
  obtain ⟨e, he0, h2⟩ := List.any_eq_true.1 h1
  have he : e ∈ o.after := by simpa using he0
  simp only [Bool.and_eq_true, Bool.or_eq_true, beq_iff_eq] at h2
  have h3 := hall e he h2.1
  rcases h2.2 with h4 | h4
  · rw [h4, unlisted_of hi] at h3; cases h3
  · rw [hu e.on (by simpa using h4)] at h3; cases h3

theorem wpAnyD_first {i : Nat} {oi : Oper} {v : Value} {Ds : List Nat} (hi : ops[i]? = some oi) (hsel : ∀ (j : Nat) (o : Oper) cs b, ops[j]? = some o → o.op ≠ .select cs b)
    (hQ : ∀ c a w, Q (.panic c) (a.put oi.dst v) w → Q (.panic c) a w) (hd : downB ops i Ds = true) (ht : t ∈ Ds) :
    ∀ (n : Nat) (listed : Array Bool) (a : Act) (w : World),
      (∀ j oj, ops[j]? = some oj → j ≠ i → listed.getD j true = false → (∀ e ∈ oj.after, Region.binds .any e = true → e.on ≠ i) → oi.apart ops oj = true) →
      (∀ k ∈ Ds, listed.getD k false = false) → i ∈ Region.ready .any ops listed → YieldsIf P ops S oi v a → S w →
      wpAnyD P ops Q S t n (listed.setIfInBounds i true) (a.put oi.dst v) w → wpAnyD P ops Q S t (n + 1) listed a w := by
  intro n
  induction n with
  | zero =>
    intro listed a w _ hu hr hy hS H
    refine ⟨fun h => (by rw [h] at hr; cases hr), fun j hj => ?_⟩
    by_cases hji : j = i
    · subst hji; exact hy.wpOp hi hS ⟨fun _ => hS, H⟩
    · have := ready_mono hj hji
      rw [H.1] at this
      cases this
  | succ n ih =>
    intro listed a w hfree hu hr hy hS H
    refine ⟨fun h => (by rw [h] at hr; cases hr), fun j hj => ?_⟩
    by_cases hji : j = i
    · subst hji; exact hy.wpOp hi hS ⟨fun _ => hS, H⟩
    · have h1 := H.2 j (ready_mono hj hji)
      have hiu := (mem_ready.1 hr).1
      obtain ⟨hjun, oj, hoj, hall⟩ := mem_ready.1 hj
      have hnot : ∀ e ∈ oj.after, Region.binds .any e = true → e.on ≠ i := fun e he hb heq => by
        have h5 := hall e he hb
        rw [heq, unlisted_of hiu] at h5; cases h5
      have hjD := no_down hd hiu hu hj
      have hiD : i ∉ Ds := no_down hd hiu hu hr
      have hu' : ∀ k ∈ Ds, (listed.setIfInBounds j true).getD k false = false := fun k hk => by
        rw [getD_set_ne false (show j ≠ k from fun e => hjD (e ▸ hk))]; exact hu k hk
      have htu : ((listed.setIfInBounds i true).setIfInBounds j true).getD t false = false := by
        rw [getD_set_ne false (show j ≠ t from fun e => hjD (e ▸ ht)), getD_set_ne false (show i ≠ t from fun e => hiD (e ▸ ht))]; exact hu t ht
      have h2 := wpOp_putIf hoj (hfree j oj hoj hji hjun hnot) (fun cs b => hsel i oi cs b hi) (fun cs b => hsel j oj cs b hoj) hQ hy h1
      have hfree' : ∀ k ok, ops[k]? = some ok → k ≠ i → (listed.setIfInBounds j true).getD k true = false →
          (∀ e ∈ ok.after, Region.binds .any e = true → e.on ≠ i) → oi.apart ops ok = true := fun k ok hk hki hun hno => by
        refine hfree k ok hk hki ?_ hno
        by_cases hjk : j = k
        · subst hjk; exact hjun
        · rw [getD_set_ne true hjk] at hun; exact hun
      refine wpOp_mono (fun a' w' h3 => ⟨fun _ => h3.2.1 htu, ih (listed.setIfInBounds j true) a' w' hfree' hu' (ready_mono hr (Ne.symm hji)) h3.1 (h3.2.1 htu) ?_⟩) h2
      rw [Array.setIfInBounds_comm _ _ hji]
      exact h3.2.2

/-- Take number i first. -/
theorem wpAnyD_take {i : Nat} {oi : Oper} {v : Value} {n : Nat} {listed : Array Bool} {a : Act} {w : World} (Ds : List Nat) (hi : ops[i]? = some oi)
    (hs : Region.noSelect ops = true) (hf : Region.free .any ops listed i = true) (hr : (Region.ready .any ops listed).contains i = true)
    (hd : downB ops i Ds = true) (ht : Ds.contains t = true) (hu : (Ds.all fun k => !listed.getD k false) = true)
    (hQ : ∀ c a w, Q (.panic c) (a.put oi.dst v) w → Q (.panic c) a w) (hy : YieldsIf P ops S oi v a) (hS : S w)
    (h : wpAnyD P ops Q S t n (listed.setIfInBounds i true) (a.put oi.dst v) w) : wpAnyD P ops Q S t (n + 1) listed a w :=
  wpAnyD_first hi (Region.noSelect_spec hs) hQ hd (by simpa using ht) n listed a w (Region.free_spec hi hf) (fun k hk => by simpa using List.all_eq_true.1 hu k hk) (by simpa using hr) hy hS h

/-- One operation alone may come up. -/
theorem wpAnyD_one {i : Nat} {o : Oper} {n : Nat} {listed : Array Bool} {a : Act} {w : World} (ho : ops[i]? = some o) (hr : Region.ready .any ops listed = [i])
    (h : ∀ K' : Act → World → Prop, (∀ a w, S w → wpAnyD P ops Q S t n (listed.setIfInBounds i true) a w → K' a w) → if Region.wanted o (yielded ops a.tmps) = true then Oper.wp P o a w K' Q else K' (a.put o.dst undef) w) :
    wpAnyD P ops Q S t (n + 1) listed a w := by
  refine ⟨fun h0 => (by rw [hr] at h0; cases h0), fun j hj => ?_⟩
  rw [hr] at hj
  obtain rfl := List.mem_singleton.1 hj
  exact wpOp_step ho fun K' hK => h K' fun a w hS hW => hK a w ⟨fun _ => hS, hW⟩

/-- t alone may come up: behind it S is no longer asked. -/
theorem wpAnyD_last {i : Nat} {o : Oper} {n : Nat} {listed : Array Bool} {a : Act} {w : World} (ho : ops[i]? = some o) (hr : Region.ready .any ops listed = [i]) (ht : (listed.setIfInBounds i true).getD t false = true)
    (h : ∀ K' : Act → World → Prop, (∀ a w, wpAny P .any ops Q n (listed.setIfInBounds i true) a w → K' a w) → if Region.wanted o (yielded ops a.tmps) = true then Oper.wp P o a w K' Q else K' (a.put o.dst undef) w) :
    wpAnyD P ops Q S t (n + 1) listed a w := by
  refine ⟨fun h0 => (by rw [hr] at h0; cases h0), fun j hj => ?_⟩
  rw [hr] at hj
  obtain rfl := List.mem_singleton.1 hj
  exact wpOp_step ho fun K' hK => h K' fun a w hW => hK a w ⟨fun hf => (by rw [ht] at hf; cases hf), wpAnyD_late n _ a w ht hW⟩

theorem wp_region_D {id : Nat} {a : Act} {w : World} (hm : P.follows .mixedOrders = true)
    (h : wpAnyD P ops Q S t ops.size (Array.replicate ops.size false) a w.drew) : (Code.region id ops true).wp P Q a w :=
  wp_region_any hm (wpAnyD_any _ _ _ _ h)
end
end Go.Proofs.Ytcfkmkabjalgjac
