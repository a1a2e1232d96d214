/- Arguments of any plain type, as data that are given. -/
import Derived.Test.YtfkcolodbjonkabDoorShV
import Derived.ChangeArms
import Derived.OpenShut
import Derived.Carry
namespace Go.Proofs.YtfkcolodbjonkabDoor.Sh
open Go.RowKit Go.WideShapes Go.ChangeShapes
set_option linter.unusedVariables false
set_option linter.unusedSimpArgs false

def GFlds (G : TypeId → List Cell → Prop) : List TypeId → List Cell → Prop
  | [], cs => cs = []
  | t :: ts, cs => ∃ a b, cs = a ++ b ∧ G t a ∧ GFlds G ts b

def GTy (P : Program) : Nat → TypeId → List Cell → Prop
  | 0, _, _ => False
  | n + 1, t, cs => match P.underlying t with
    | some .bool => ∃ b, cs = [.sc (.bool b)]
    | some (.int k) => ∃ m, cs = [.sc (.int k m)] ∧ (Lit.int k m).wf = true
    | some .string => ∃ s : ByteArray, cs = [.sc (.string s)] ∧ s.size ≤ maxLen
    | some (.slice e) => ∃ ess : List (List Cell), cs = [.gsl ess.flatten 0 ess.length none] ∧ ess.length ≤ maxLen ∧ ∀ es ∈ ess, GTy P n e es
    | some (.struct fs) => GFlds (GTy P n) (fs.toList.map (·.type)) cs
    | some (.array k e) => GFlds (GTy P n) (List.replicate k e) cs
    | _ => False

def supp (P : Program) : Nat → TypeId → Bool
  | 0, _ => false
  | n + 1, t => match P.underlying t with
    | some .bool => true
    | some (.int _) => true
    | some .string => true
    | some (.slice e) => decide (0 < P.cellsOf e) && supp P n e
    | some (.struct fs) => tiles P 0 fs.toList (P.cellsOf t) && fs.toList.all fun f => supp P n f.type
    | some (.array k e) => decide (P.cellsOf t = k * P.cellsOf e) && supp P n e
    | _ => false

def VGL (w : World) (gs : List Cell) (cs : List Value) : Prop := gs.length = cs.length ∧ ∀ (i : Nat) g v, gs[i]? = some g → cs[i]? = some v → VG (memW w) g v

theorem VGL.append {w : World} {a b : List Cell} {c d : List Value} (h1 : VGL w a c) (h2 : VGL w b d) : VGL w (a ++ b) (c ++ d) := by
  refine ⟨by simp [h1.1, h2.1], fun i g v hg hv => ?_⟩
  rcases Nat.lt_or_ge i a.length with hi | hi
  · rw [List.getElem?_append_left hi] at hg
    rw [List.getElem?_append_left (by rw [← h1.1]; exact hi)] at hv
    exact h1.2 i g v hg hv
  · rw [List.getElem?_append_right hi] at hg
    rw [List.getElem?_append_right (by rw [← h1.1]; exact hi), ← h1.1] at hv
    exact h2.2 _ g v hg hv

theorem VGL.vl {w : World} : ∀ {gs : List Cell} {cs : List Value}, VGL w gs cs → VL (memW w) (fun _ => none) gs cs
  | [], [], _ => trivial
  | g :: gs, v :: cs, h => by
    refine ⟨?_, VGL.vl (gs := gs) (cs := cs) ⟨by simpa using h.1, fun i g' v' hg hv => h.2 (i + 1) g' v' (by simpa using hg) (by simpa using hv)⟩⟩
    have := h.2 0 g v (by simp) (by simp)
    cases g <;> first | exact this | cases this
  | [], _ :: _, h => by cases h.1
  | _ :: _, [], h => by cases h.1

theorem cells?_get {w : World} {base n : Nat} {a : Addr} {cs : List Value} (h : w.cells? base a n = some cs) : cs.length = n ∧ ∀ i v, cs[i]? = some v → w.cell? (a.add i) = some v := by
  unfold World.cells? at h
  split at h
  · have key : ∀ (l : List Nat) (cs : List Value), l.mapM (fun i => w.cell? (a.add i)) = some cs → cs.length = l.length ∧ ∀ (i : Nat) v, cs[i]? = some v → ∃ j, l[i]? = some j ∧ w.cell? (a.add j) = some v := by
      intro l
      induction l with
      | nil => intro cs h; simp at h; subst h; exact ⟨rfl, fun i v hv => by cases hv⟩
      | cons x l ih =>
        intro cs h
        rw [List.mapM_cons] at h
        simp only [bind, Option.bind_eq_some_iff, pure, Option.some.injEq] at h
        obtain ⟨y, hy, ys, hys, rfl⟩ := h
        obtain ⟨h1, h2⟩ := ih ys hys
        refine ⟨by simp [h1], fun i v hv => ?_⟩
        cases i with
        | zero => simp at hv; subst hv; exact ⟨x, by simp, hy⟩
        | succ i => simpa using h2 i v (by simpa using hv)
    obtain ⟨h1, h2⟩ := key _ _ h
    refine ⟨by simpa using h1, fun i v hv => ?_⟩
    obtain ⟨j, hj, hc⟩ := h2 i v hv
    have hi : i < n := by
      have := (List.getElem?_eq_some_iff.1 hv).1
      rw [h1] at this; simpa using this
    rw [List.getElem?_range hi] at hj
    cases hj
    exact hc
  · cases h

theorem spot_none {w : World} {a : Addr} {v : Value} (h : w.cell? (a.add 0) = some v) : a = ⟨a.block, a.off, none⟩ := by
  unfold Addr.add at h
  rw [if_pos rfl] at h
  unfold World.cell? at h
  split at h
  · split at h
    · cases h
    · rename_i hs
      cases a
      simp at hs ⊢
      exact hs
  · cases h

theorem add_some {a : Addr} {i : Nat} (h : a = ⟨a.block, a.off, none⟩) : a.add i = ⟨a.block, a.off + i, none⟩ := by
  unfold Addr.add
  split
  · rename_i h0; subst h0; exact h
  · rfl

section
variable {H : Type} {enc : TypeId × Value → H} {P : Program} {w : World} {base : Nat} {sp : Nat → Bool} {hd : Bool}

def Told (enc : TypeId × Value → H) (P : Program) (w : World) (base : Nat) (sp : Nat → Bool) (hd : Bool) (n : Nat) (t : TypeId) : Prop :=
  ∀ (fuel : Nat) (cs : List Value) (x : DataW H × List MemPlace), DataW.trod enc P w base sp hd fuel t cs = some x → ∃ gs, GTy P n t gs ∧ VGL w gs cs

theorem told_fields {n : Nat} {cs : List Value} : ∀ (fs : List Field) (o : Nat), tiles P o fs cs.length = true → (∀ f ∈ fs, Told enc P w base sp hd n f.type ∧ ∃ fuel x, DataW.trod enc P w base sp hd fuel f.type ((cs.drop f.offset).take (P.cellsOf f.type)) = some x) →
    ∃ gs, GFlds (GTy P n) (fs.map (·.type)) gs ∧ VGL w gs (cs.drop o)
  | [], o, ht, _ => by
    simp only [tiles, decide_eq_true_eq] at ht
    refine ⟨[], rfl, ?_⟩
    rw [List.drop_of_length_le (by omega)]
    exact ⟨rfl, fun i g v hg => by cases hg⟩
  | f :: fs, o, ht, hf => by
    simp only [tiles, Bool.and_eq_true, decide_eq_true_eq] at ht
    obtain ⟨rfl, ht⟩ := ht
    obtain ⟨h1, fuel, x, h2⟩ := hf f (by simp)
    obtain ⟨a, ha, hav⟩ := h1 _ _ _ h2
    obtain ⟨b, hb, hbv⟩ := told_fields fs _ ht (fun g hg => hf g (by simp [hg]))
    refine ⟨a ++ b, ⟨a, b, rfl, ha, hb⟩, ?_⟩
    have e : cs.drop f.offset = (cs.drop f.offset).take (P.cellsOf f.type) ++ cs.drop (f.offset + P.cellsOf f.type) := by
      rw [← List.drop_drop, List.take_append_drop]
    rw [e]
    exact hav.append hbv

theorem told_items {n c : Nat} {e : TypeId} {cs : List Value} (h : Told enc P w base sp hd n e) : ∀ (k o : Nat), (o + k) * c = cs.length → (∀ i, i < o + k → ∃ fuel x, DataW.trod enc P w base sp hd fuel e ((cs.drop (i * c)).take c) = some x) →
    ∃ gs, GFlds (GTy P n) (List.replicate k e) gs ∧ VGL w gs (cs.drop (o * c))
  | 0, o, hl, _ => by
    rw [Nat.add_zero] at hl
    refine ⟨[], rfl, ?_⟩
    rw [List.drop_of_length_le (by omega)]
    exact ⟨rfl, fun i g v hg => by cases hg⟩
  | k + 1, o, hl, hf => by
    obtain ⟨fuel, x, h2⟩ := hf o (by omega)
    obtain ⟨a, ha, hav⟩ := h _ _ _ h2
    obtain ⟨b, hb, hbv⟩ := told_items h k (o + 1) (by rw [← hl]; congr 1; omega) (fun i hi => hf i (by omega))
    refine ⟨a ++ b, ⟨a, b, rfl, ha, hb⟩, ?_⟩
    have e : cs.drop (o * c) = (cs.drop (o * c)).take c ++ cs.drop ((o + 1) * c) := by
      rw [Nat.add_mul, Nat.one_mul, ← List.drop_drop, List.take_append_drop]
    rw [e]
    exact hav.append hbv

theorem told_rows {n : Nat} {e : TypeId} {a : Addr} (h : Told enc P w base sp hd n e) (hpos : 0 < P.cellsOf e) : ∀ (len : Nat), (∀ i, i < len → ∃ fuel cs x, w.cells? base (a.add (i * P.cellsOf e)) (P.cellsOf e) = some cs ∧ DataW.trod enc P w base sp hd fuel e cs = some x) →
    ∃ ess : List (List Cell), ess.length = len ∧ (∀ es ∈ ess, GTy P n e es) ∧ ess.flatten.length = len * P.cellsOf e ∧ (0 < len → a = ⟨a.block, a.off, none⟩) ∧ ∀ (i : Nat) g, ess.flatten[i]? = some g → ∃ v, w.cell? ⟨a.block, a.off + i, none⟩ = some v ∧ VG (memW w) g v
  | 0, _ => ⟨[], rfl, by simp, by simp, by omega, by simp⟩
  | len + 1, hf => by
    obtain ⟨ess, h1, h2, h3, h4, h5⟩ := told_rows h hpos len (fun i hi => hf i (by omega))
    obtain ⟨fuel, cs, x, hc, ht⟩ := hf len (by omega)
    obtain ⟨gs, hg, hgv⟩ := h _ _ _ ht
    obtain ⟨hl, hcell⟩ := cells?_get hc
    have ha : a = ⟨a.block, a.off, none⟩ := by
      rcases Nat.eq_zero_or_pos len with h0 | h0
      · subst h0
        have hlt : 0 < cs.length := by omega
        have := hcell 0 cs[0] (by simp [hlt])
        simp only [Nat.zero_mul] at this
        have e0 : a.add 0 = a := by unfold Addr.add; rw [if_pos rfl]
        rw [e0] at this
        exact spot_none this
      · exact h4 h0
    refine ⟨ess ++ [gs], by simp [h1], fun es hes => ?_, by simp [h3, hgv.1, hl, Nat.add_mul], fun _ => ha, fun i g hi => ?_⟩
    · rcases List.mem_append.1 hes with q | q
      · exact h2 es q
      · simp at q; subst q; exact hg
    · simp only [List.flatten_append, List.flatten_cons, List.flatten_nil, List.append_nil] at hi
      rcases Nat.lt_or_ge i ess.flatten.length with hlt | hge
      · rw [List.getElem?_append_left hlt] at hi
        exact h5 i g hi
      · rw [List.getElem?_append_right hge, h3] at hi
        have hlt2 : i - len * P.cellsOf e < cs.length := by
          have := (List.getElem?_eq_some_iff.1 hi).1
          rw [← hgv.1]; exact this
        have hv := hcell (i - len * P.cellsOf e) cs[i - len * P.cellsOf e] (by simp [hlt2])
        have e2 : (a.add (len * P.cellsOf e)).add (i - len * P.cellsOf e) = ⟨a.block, a.off + i, none⟩ := by
          rw [add_some ha, addr_add]
          congr 1
          omega
        rw [e2] at hv
        exact ⟨_, hv, hgv.2 _ g _ hi (by simp [hlt2])⟩

theorem told_ok : ∀ (n : Nat) (t : TypeId), supp P n t = true → Told enc P w base sp hd n t
  | 0, _, h => by cases h
  | n + 1, t, hs => by
    intro fuel cs x h
    unfold supp at hs
    unfold GTy
    cases hu : P.underlying t with
    | none => simp [hu] at hs
    | some k =>
      cases k <;> simp only [hu] at hs ⊢ <;> try (cases hs; done)
      case bool =>
        obtain ⟨b, rfl, _⟩ := DataW.trod_bool hu h
        exact ⟨_, ⟨b, rfl⟩, rfl, fun i g v hg hv => by
          cases i with
          | zero => simp at hg hv; subst hg; subst hv; exact VG.sc _ rfl
          | succ i => simp at hg⟩
      case int k =>
        obtain ⟨b, rfl, _, hw⟩ := DataW.trod_int hu h
        exact ⟨_, ⟨b, rfl, hw⟩, rfl, fun i g v hg hv => by
          cases i with
          | zero => simp at hg hv; subst hg; subst hv; exact VG.sc _ rfl
          | succ i => simp at hg⟩
      case string =>
        obtain ⟨b, rfl, _, hw⟩ := DataW.trod_string hu h
        exact ⟨_, ⟨b, rfl, hw⟩, rfl, fun i g v hg hv => by
          cases i with
          | zero => simp at hg hv; subst hg; subst hv; exact VG.sc _ rfl
          | succ i => simp at hg⟩
      case slice e =>
        simp only [Bool.and_eq_true, decide_eq_true_eq] at hs
        rcases DataW.trod_slice hu h with ⟨rfl, _⟩ | ⟨a, len, cap, elems, rest, m, _, rfl, _, hb, hlc, hcm, hel, hget, _⟩
        · refine ⟨_, ⟨[], rfl, by simp, by simp⟩, rfl, fun i g v hg hv => ?_⟩
          cases i with
          | zero => simp at hg hv; subst hg; subst hv; exact VG.gnil _ _ _ (fun k hk => by cases hk)
          | succ i => simp at hg
        · obtain ⟨ess, h1, h2, h3, h4, h5⟩ := told_rows (told_ok n e hs.2) hs.1 (a := a) len (fun i hi => by
            have := hget i hi
            rw [List.getElem?_eq_getElem (by rw [hel]; exact hi)] at this
            obtain ⟨cs, hc, ht⟩ := Option.bind_eq_some_iff.1 this
            exact ⟨m, cs, _, hc, ht⟩)
          refine ⟨_, ⟨ess, rfl, by omega, h2⟩, rfl, fun i g v hg hv => ?_⟩
          cases i with
          | succ i => simp at hg
          | zero =>
            simp at hg hv; subst hg; subst hv
            rw [h1]
            classical
            refine VG.gsl _ 0 len none a.block a.off cap a (fun i => (w.cell? ⟨a.block, a.off + i, none⟩).getD (.bool false)) (fun k hk => by cases hk) hlc (fun i c hi => ?_) (fun i c hi => ?_) ?_
            · obtain ⟨v, hv, _⟩ := h5 i c hi
              rw [hv]; exact memW_some hv
            · obtain ⟨v, hv, hvg⟩ := h5 i c hi
              rw [hv]; exact hvg
            · rcases Nat.eq_zero_or_pos len with h0 | h0
              · exact .inr h0
              · left; simpa using h4 h0
      case struct fs =>
        simp only [Bool.and_eq_true, List.all_eq_true] at hs
        obtain ⟨xs, m, _, _, hl, hxl, hget⟩ := DataW.trod_struct hu h
        obtain ⟨gs, hg, hv⟩ := told_fields (enc := enc) (sp := sp) (hd := hd) (base := base) (w := w) (n := n) (cs := cs) fs.toList 0 (by rw [hl]; exact hs.1) (fun f hf => by
          refine ⟨told_ok n f.type (hs.2 f hf), m, ?_⟩
          obtain ⟨i, hi, rfl⟩ := List.getElem_of_mem hf
          have hi' : i < fs.size := by simpa using hi
          have := hget i fs[i] (by simp [hi'])
          rw [List.getElem?_eq_getElem (by rw [hxl]; exact hi')] at this
          exact ⟨_, by simpa using this⟩)
        exact ⟨gs, hg, by simpa using hv⟩
      case array k e =>
        simp only [Bool.and_eq_true, decide_eq_true_eq] at hs
        obtain ⟨xs, m, _, _, hl, hxl, hget⟩ := DataW.trod_array hu h
        obtain ⟨gs, hg, hv⟩ := told_items (c := P.cellsOf e) (cs := cs) (told_ok n e hs.2) k 0 (by rw [hl, hs.1]; simp) (fun i hi => by
          have := hget i (by omega)
          rw [List.getElem?_eq_getElem (by omega)] at this
          exact ⟨m, _, this⟩)
        exact ⟨gs, hg, by simpa using hv⟩

def svOf (P : Program) (t : TypeId) (gs : List Cell) : SV := match P.underlying t with
  | some (.struct _) => .agg gs
  | some (.array _ _) => .agg gs
  | _ => .one (gs.headD .un)

theorem vg_cl {Fr : Nat → Prop} {m : Mem} {g : Cell} {v : Value} (h : VG m g v) : g.cl Fr := by cases h <;> trivial

theorem told_value {n : Nat} {t : TypeId} {v : Value} {d : DataW H} {p : List MemPlace} {r : Reach} {b0 : Nat} (hs : supp P n t = true) (hval : Value.okWide P w r b0 t v) (h : DataW.Trod enc P w base sp hd t v d p) :
    ∃ gs, GTy P n t gs ∧ VS (memW w) (fun _ => none) (svOf P t gs) v ∧ (svOf P t gs).cl (0 ≤ ·) := by
  obtain ⟨fuel, hf⟩ := h
  obtain ⟨gs, hg, hv⟩ := told_ok n t hs _ _ _ hf
  refine ⟨gs, hg, ?_⟩
  have hcl : ∀ g ∈ gs, g.cl (0 ≤ ·) := by
    intro g hgm
    obtain ⟨i, hi, rfl⟩ := List.getElem_of_mem hgm
    have hi2 : i < v.cells.toList.length := by rw [← hv.1]; exact hi
    exact vg_cl (hv.2 i gs[i] v.cells.toList[i] (by simp [hi]) (by simp [hi2]))
  cases n with
  | zero => cases hs
  | succ n =>
    unfold supp at hs
    unfold svOf
    have one : ∀ u, v.cells.toList = [u] → v = u → VS (memW w) (fun _ => none) (.one (gs.headD .un)) v ∧ (SV.one (gs.headD .un)).cl (0 ≤ ·) := by
      intro u hu he
      subst he
      rw [hu] at hv
      match gs, hv, hcl with
      | [g], hv, hcl => exact ⟨(VGL.vl hv).1, hcl g (by simp)⟩
      | [], hv, _ => cases hv.1
      | _ :: _ :: _, hv, _ => have := hv.1; simp at this
    cases hu : P.underlying t with
    | none => simp [hu] at hs
    | some k =>
      cases k <;> simp only [hu] at hs ⊢ <;> try (cases hs; done)
      case bool =>
        simp only [Value.okWide, hu, Cell.okWide] at hval
        cases v <;> first | exact one _ rfl rfl | (simp [Cell.ok] at hval)
      case int k =>
        simp only [Value.okWide, hu, Cell.okWide] at hval
        cases v <;> first | exact one _ rfl rfl | (simp [Cell.ok] at hval)
      case string =>
        simp only [Value.okWide, hu, Cell.okWide] at hval
        cases v <;> first | exact one _ rfl rfl | (simp [Cell.ok] at hval)
      case slice e =>
        obtain ⟨a, len, cap, rfl⟩ := okWide_slice hu hval
        exact one _ rfl rfl
      case struct fs =>
        obtain ⟨cs, rfl, _⟩ := okWide_struct hu hval
        exact ⟨⟨cs, rfl, VGL.vl hv⟩, hcl⟩
      case array k e =>
        simp only [Value.okWide, hu] at hval
        obtain ⟨cs, rfl, _⟩ := hval
        exact ⟨⟨cs, rfl, VGL.vl hv⟩, hcl⟩

theorem gty_int {n : Nat} {t : TypeId} {k : IntKind} {g : List Cell} (ht : P.underlying t = some (.int k)) (h : GTy P (n + 1) t g) : ∃ m, g = [.sc (.int k m)] ∧ (Lit.int k m).wf = true := by
  unfold GTy at h; rw [ht] at h; exact h
theorem gty_str {n : Nat} {t : TypeId} {g : List Cell} (ht : P.underlying t = some .string) (h : GTy P (n + 1) t g) : ∃ s : ByteArray, g = [.sc (.string s)] ∧ s.size ≤ maxLen := by
  unfold GTy at h; rw [ht] at h; exact h
theorem gty_slice {n : Nat} {t e : TypeId} {g : List Cell} (ht : P.underlying t = some (.slice e)) (h : GTy P (n + 1) t g) : ∃ ess : List (List Cell), g = [.gsl ess.flatten 0 ess.length none] ∧ ess.length ≤ maxLen ∧ ∀ es ∈ ess, GTy P n e es := by
  unfold GTy at h; rw [ht] at h; exact h
theorem gty_ints {n : Nat} {t e : TypeId} {g : List Cell} (ht : P.underlying t = some (.slice e)) (he : P.underlying e = some (.int .i64)) (h : GTy P (n + 2) t g) :
    ∃ l : List Int, g = [.gsl (Ints l) 0 l.length none] ∧ l.length ≤ maxLen ∧ ∀ x ∈ l, -9223372036854775808 ≤ x ∧ x ≤ 9223372036854775807 := by
  obtain ⟨ess, rfl, hl, hf⟩ := gty_slice ht h
  have : ∃ l : List Int, ess = l.map (fun x => [int x]) ∧ ∀ x ∈ l, (Lit.int .i64 x).wf = true := by
    clear hl h
    induction ess with
    | nil => exact ⟨[], rfl, by simp⟩
    | cons es ess ih =>
      obtain ⟨l, rfl, h2⟩ := ih (fun x hx => hf x (by simp [hx]))
      obtain ⟨m, rfl, hm⟩ := gty_int he (hf es (by simp))
      exact ⟨m :: l, rfl, fun x hx => by rcases List.mem_cons.1 hx with rfl | q; (· exact hm); exact h2 x q⟩
  obtain ⟨l, rfl, h2⟩ := this
  have e1 : (l.map fun x => [int x]).flatten = Ints l := by
    unfold Ints
    clear h h2 hl hf
    induction l with
    | nil => rfl
    | cons x l ih => simp [ih]
  refine ⟨l, by rw [e1]; simp, by simpa using hl, fun x hx => wf_i64 (h2 x hx)⟩

end
end Go.Proofs.YtfkcolodbjonkabDoor.Sh
