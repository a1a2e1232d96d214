/- When two values of a type of numbers, texts and truths are equal, told of their cells. -/
import Derived.WalkKit
import Derived.ChangeKeysEq
namespace Go.Proofs.YtfkcolodbjonkabDoor.Sh
open Go.RowKit
set_option linter.unusedVariables false
set_option linter.unusedSimpArgs false

def sameK : Value → Value → Bool
  | .int k _, .int k' _ => decide (k = k')
  | .bool _, .bool _ => true
  | .string _, .string _ => true
  | _, _ => false

def eqV : Value → Value → Bool
  | .int _ a, .int _ b => decide (a = b)
  | .bool a, .bool b => a == b
  | .string a, .string b => a.toList == b.toList
  | _, _ => false

def sameKL : List Value → List Value → Bool
  | [], [] => true
  | x :: xs, y :: ys => sameK x y && sameKL xs ys
  | _, _ => false

def eqVL : List Value → List Value → Bool
  | [], [] => true
  | x :: xs, y :: ys => eqV x y && eqVL xs ys
  | _, _ => false

def tiles (P : Program) : Nat → List Field → Nat → Bool
  | o, [], n => decide (o = n)
  | o, f :: fs, n => decide (f.offset = o) && tiles P (o + P.cellsOf f.type) fs n

def okL (P : Program) : Nat → TypeId → List Value → Bool
  | 0, _, _ => false
  | d + 1, t, cs => match P.underlying t with
    | some .bool => (match cs with
      | [.bool _] => true
      | _ => false)
    | some (.int q) => (match cs with
      | [.int q' _] => decide (q' = q)
      | _ => false)
    | some .string => (match cs with
      | [.string _] => true
      | _ => false)
    | some (.array n e) => decide (cs.length = n * P.cellsOf e) && ((P.info? e).isSome && (List.range n).all fun i => okL P d e ((cs.drop (i * P.cellsOf e)).take (P.cellsOf e)))
    | some (.struct fs) => tiles P 0 fs.toList cs.length && (!P.stoodInHeld t && fs.toList.all fun f => f.name != "_" && okL P d f.type ((cs.drop f.offset).take (P.cellsOf f.type)))
    | _ => false

def mkV (P : Program) (t : TypeId) (cs : List Value) : Value := match P.underlying t with
  | some (.array _ _) => .agg cs.toArray
  | some (.struct _) => .agg cs.toArray
  | _ => cs.headD (.bool false)

theorem sameKL_length : ∀ {xs ys : List Value}, sameKL xs ys = true → xs.length = ys.length
  | [], [], _ => rfl
  | x :: xs, y :: ys, h => by
    simp only [sameKL, Bool.and_eq_true] at h
    simp [sameKL_length h.2]
  | [], _ :: _, h => by cases h
  | _ :: _, [], h => by cases h

theorem sameKL_drop : ∀ {n : Nat} {xs ys : List Value}, sameKL xs ys = true → sameKL (xs.drop n) (ys.drop n) = true
  | 0, _, _, h => h
  | n + 1, [], [], h => rfl
  | n + 1, x :: xs, y :: ys, h => by
    simp only [sameKL, Bool.and_eq_true] at h
    exact sameKL_drop (n := n) h.2
  | n + 1, [], _ :: _, h => by cases h
  | n + 1, _ :: _, [], h => by cases h

theorem sameKL_take : ∀ {n : Nat} {xs ys : List Value}, sameKL xs ys = true → sameKL (xs.take n) (ys.take n) = true
  | 0, _, _, h => rfl
  | n + 1, [], [], h => rfl
  | n + 1, x :: xs, y :: ys, h => by
    simp only [sameKL, Bool.and_eq_true] at h
    simp only [List.take_succ_cons, sameKL, Bool.and_eq_true]
    exact ⟨h.1, sameKL_take (n := n) h.2⟩
  | n + 1, [], _ :: _, h => by cases h
  | n + 1, _ :: _, [], h => by cases h

theorem okL_same (P : Program) : ∀ (d : Nat) (t : TypeId) (xs ys : List Value), okL P d t ys = true → sameKL xs ys = true → okL P d t xs = true
  | 0, _, _, _, h, _ => by cases h
  | d + 1, t, xs, ys, h, hs => by
    have hl := sameKL_length hs
    unfold okL at h ⊢
    cases hu : P.underlying t with
    | none => simp [hu] at h
    | some k =>
      cases k <;> simp only [hu] at h ⊢ <;> try (cases h; done)
      case bool =>
        split at h
        · rename_i b
          match xs, hs with
          | [x], hs => cases x <;> simp_all [sameKL, sameK]
        · cases h
      case int q =>
        split at h
        · rename_i q' n
          match xs, hs with
          | [x], hs => cases x <;> simp_all [sameKL, sameK]
        · cases h
      case string =>
        split at h
        · rename_i b
          match xs, hs with
          | [x], hs => cases x <;> simp_all [sameKL, sameK]
        · cases h
      case array n e =>
        simp only [Bool.and_eq_true, decide_eq_true_eq, List.all_eq_true] at h ⊢
        exact ⟨by rw [hl]; exact h.1, h.2.1, fun i hi => okL_same P d e _ _ (h.2.2 i hi) (sameKL_take (sameKL_drop hs))⟩
      case struct fs =>
        simp only [Bool.and_eq_true, List.all_eq_true] at h ⊢
        exact ⟨by rw [hl]; exact h.1, h.2.1, fun f hf => ⟨(h.2.2 f hf).1, okL_same P d f.type _ _ (h.2.2 f hf).2 (sameKL_take (sameKL_drop hs))⟩⟩

theorem eqVL_append : ∀ {a b c d : List Value}, a.length = b.length → eqVL (a ++ c) (b ++ d) = (eqVL a b && eqVL c d)
  | [], [], _, _, _ => by simp [eqVL]
  | x :: a, y :: b, c, d, h => by
    simp only [List.cons_append, eqVL, Bool.and_assoc]
    rw [eqVL_append (a := a) (b := b) (by simpa using h)]
  | [], _ :: _, _, _, h => by cases h
  | _ :: _, [], _, _, h => by cases h

section
variable {P : Program} (w : World)

theorem okL_info {d : Nat} {e : TypeId} {cs : List Value} (h : okL P d e cs = true) : ∃ i, P.info? e = some i := by
  cases d with
  | zero => cases h
  | succ d =>
    unfold okL at h
    cases hu : P.underlying e with
    | none => simp [hu] at h
    | some k => exact info_of_underlying hu

theorem part_mk {d : Nat} {e : TypeId} {off : Nat} {xs : Array Value} (h : okL P d e ((xs.toList.drop off).take (P.cellsOf e)) = true) :
    (part e xs off).run P w = .ok (mkV P e ((xs.toList.drop off).take (P.cellsOf e))) w := by
  obtain ⟨i, hi⟩ := okL_info h
  cases d with
  | zero => cases h
  | succ d =>
    unfold okL at h
    have hex : (xs.extract off (off + P.cellsOf e)) = ((xs.toList.drop off).take (P.cellsOf e)).toArray := by
      apply Array.ext'
      rw [Array.toList_extract]
      simp [List.extract]
    have one : ∀ v, (xs.toList.drop off).take (P.cellsOf e) = [v] → P.plainKey e = true → mkV P e [v] = v → (part e xs off).run P w = .ok (mkV P e ((xs.toList.drop off).take (P.cellsOf e))) w := by
      intro v hv hp hm
      rw [hv, hm]
      exact run_part_plain w hp (getElem?_of_chunk hv)
    cases hu : P.underlying e with
    | none => simp [hu] at h
    | some k =>
      cases k <;> simp only [hu] at h <;> try (cases h; done)
      case bool =>
        split at h
        · rename_i b hb; exact one _ hb (by simp [Program.plainKey, hu]) (by simp [mkV, hu])
        · cases h
      case int q =>
        split at h
        · rename_i b hb; exact one _ hb (by simp [Program.plainKey, hu]) (by simp [mkV, hu])
        · cases h
      case string =>
        split at h
        · rename_i b hb; exact one _ hb (by simp [Program.plainKey, hu]) (by simp [mkV, hu])
        · cases h
      case array n e' => simp [part, isAgg, run_underlying hu, run_sizeOf w hi, mkV, hu, hex]
      case struct fs => simp [part, isAgg, run_underlying hu, run_sizeOf w hi, mkV, hu, hex]

def EqIn (P : Program) (D : Nat) (d : Nat) (t : TypeId) : Prop := ∀ (w : World) (xs ys : List Value), okL P d t xs = true → okL P d t ys = true → (Op.equalIn D t (mkV P t xs) (mkV P t ys)).run P w = .ok (eqVL xs ys) w

theorem fields_ok {D d n : Nat} {xs ys : Array Value} (hx : xs.toList.length = n) (hy : ys.toList.length = n) : ∀ (fs : List Field) (o : Nat), tiles P o fs n = true →
    (∀ f ∈ fs, f.name ≠ "_" ∧ okL P d f.type ((xs.toList.drop f.offset).take (P.cellsOf f.type)) = true ∧ okL P d f.type ((ys.toList.drop f.offset).take (P.cellsOf f.type)) = true ∧ EqIn P D d f.type) →
    (Op.eqFields D xs ys fs).run P w = .ok (eqVL (xs.toList.drop o) (ys.toList.drop o)) w
  | [], o, ht, _ => by
    simp only [tiles, decide_eq_true_eq] at ht
    rw [List.drop_of_length_le (by omega), List.drop_of_length_le (by omega)]
    simp [Op.eqFields, eqVL]
  | f :: fs, o, ht, hf => by
    simp only [tiles, Bool.and_eq_true, decide_eq_true_eq] at ht
    obtain ⟨rfl, ht⟩ := ht
    obtain ⟨hn, h1, h2, h3⟩ := hf f (by simp)
    have ih := fields_ok hx hy fs (f.offset + P.cellsOf f.type) ht (fun g hg => hf g (by simp [hg]))
    have e : ∀ l : List Value, l.drop f.offset = (l.drop f.offset).take (P.cellsOf f.type) ++ l.drop (f.offset + P.cellsOf f.type) := fun l => by
      rw [← List.drop_drop, List.take_append_drop]
    rw [e xs.toList, e ys.toList, eqVL_append (by simp only [List.length_take, List.length_drop]; omega)]
    simp only [Op.eqFields, hn, ne_eq, not_false_eq_true, if_true, Sem.run_bind, part_mk w h1, part_mk w h2, h3 w _ _ h1 h2, Result.andThen_ok]
    cases eqVL (List.take (P.cellsOf f.type) (List.drop f.offset xs.toList)) (List.take (P.cellsOf f.type) (List.drop f.offset ys.toList)) with
    | true => simpa using ih
    | false => simp

theorem items_ok {D d c : Nat} {e : TypeId} {xs ys : Array Value} (hc : c = P.cellsOf e) (hxy : xs.toList.length = ys.toList.length) (h3 : EqIn P D d e) : ∀ (k o : Nat), (o + k) * c = xs.toList.length →
    (∀ i, i < o + k → okL P d e ((xs.toList.drop (i * c)).take c) = true ∧ okL P d e ((ys.toList.drop (i * c)).take c) = true) →
    (Op.eqItems D e c xs ys (List.range' o k)).run P w = .ok (eqVL (xs.toList.drop (o * c)) (ys.toList.drop (o * c))) w
  | 0, o, hl, _ => by
    rw [Nat.add_zero] at hl
    rw [List.drop_of_length_le (by omega), List.drop_of_length_le (by omega)]
    simp [Op.eqItems, eqVL]
  | k + 1, o, hl, hf => by
    obtain ⟨h1, h2⟩ := hf o (by omega)
    have ih := items_ok hc hxy h3 k (o + 1) (by rw [← hl]; congr 1; omega) (fun i hi => hf i (by omega))
    have e : ∀ l : List Value, l.drop (o * c) = (l.drop (o * c)).take c ++ l.drop ((o + 1) * c) := fun l => by
      rw [Nat.add_mul, Nat.one_mul, ← List.drop_drop, List.take_append_drop]
    rw [e xs.toList, e ys.toList, eqVL_append (by simp only [List.length_take, List.length_drop]; omega), List.range'_succ]
    subst hc
    simp only [Op.eqItems, Sem.run_bind, part_mk w h1, part_mk w h2, h3 w _ _ h1 h2, Result.andThen_ok]
    cases eqVL (List.take (P.cellsOf _) (List.drop (o * P.cellsOf _) xs.toList)) (List.take (P.cellsOf _) (List.drop (o * P.cellsOf _) ys.toList)) with
    | true => simpa using ih
    | false => simp

end

theorem eqIn_ok (P : Program) (D : Nat) : ∀ (m : Nat) (t : TypeId), EqIn P (D + m) m t
  | 0, _, _, _, _, h, _ => by cases h
  | m + 1, t, w, xs, ys, hx, hy => by
    have hx0 := hx
    have hy0 := hy
    unfold okL at hx hy
    rw [show D + (m + 1) = (D + m) + 1 from rfl]
    cases hu : P.underlying t with
    | none => simp [hu] at hx
    | some k =>
      cases k <;> simp only [hu] at hx hy <;> try (cases hx; done)
      case bool =>
        split at hx <;> split at hy <;> first | (cases hx; done) | (cases hy; done) | skip
        simp [mkV, hu, run_equalIn_bool w (D + m) t _ _ hu, eqVL, eqV]
      case int q =>
        split at hx <;> split at hy <;> first | (cases hx; done) | (cases hy; done) | skip
        simp only [decide_eq_true_eq] at hx hy
        subst hx
        subst hy
        simp [mkV, hu, run_equalIn_int w (D + m) t _ _ _ _ hu, eqVL, eqV]
        try rfl
      case string =>
        split at hx <;> split at hy <;> first | (cases hx; done) | (cases hy; done) | skip
        simp [mkV, hu, run_equalIn_string w (D + m) t _ _ hu, eqVL, eqV]
      case array n e =>
        simp only [Bool.and_eq_true, decide_eq_true_eq, List.all_eq_true, List.mem_range] at hx hy
        obtain ⟨i, hi⟩ := Option.isSome_iff_exists.1 hx.2.1
        simp only [mkV, hu]
        rw [run_equalIn_array w (D + m) _ _ hu hi, List.range_eq_range']
        have := items_ok (P := P) w (D := D + m) (d := m) (c := P.cellsOf e) (e := e) (xs := xs.toArray) (ys := ys.toArray) rfl (by simp only [List.toList_toArray]; omega) (eqIn_ok P D m e) n 0 (by simp only [List.toList_toArray, Nat.zero_add]; omega) (fun i hi => ⟨hx.2.2 i (by omega), hy.2.2 i (by omega)⟩)
        simpa using this
      case struct fs =>
        simp only [Bool.and_eq_true, List.all_eq_true, Bool.not_eq_true', bne_iff_ne, ne_eq] at hx hy
        simp only [mkV, hu]
        have hfs : P.fieldsOf t = fs := by simp [Program.fieldsOf, hu]
        have hl : xs.length = ys.length := by
          have key : ∀ (fs : List Field) (o n m : Nat), tiles P o fs n = true → tiles P o fs m = true → n = m := by
            intro fs
            induction fs with
            | nil => intro o n m h1 h2; simp only [tiles, decide_eq_true_eq] at h1 h2; omega
            | cons f fs ih => intro o n m h1 h2; simp only [tiles, Bool.and_eq_true] at h1 h2; exact ih _ _ _ h1.2 h2.2
          exact key _ _ _ _ hx.1 hy.1
        rw [run_equalIn_struct w (D + m) t _ _ (by rw [hfs]; exact hu) hx.2.1, hfs]
        have := fields_ok (P := P) w (D := D + m) (d := m) (xs := xs.toArray) (ys := ys.toArray) (n := xs.length) (by simp) (by simp [hl]) fs.toList 0 hx.1 (fun f hf => ⟨(hx.2.2 f hf).1, (hx.2.2 f hf).2, (hy.2.2 f hf).2, eqIn_ok P D m f.type⟩)
        simpa using this

def EqOk (P : Program) (t : TypeId) (zs : List Value) : Prop := P.eqGuardType P.depth t = false ∧ (∃ d, P.underlying t = some d ∧ ((∃ n e, d = .array n e) ∨ ∃ fs, d = .struct fs)) ∧
  ∀ (w : World) (xs ys : List Value), sameKL xs zs = true → sameKL ys zs = true → (Op.equal t (.agg xs.toArray) (.agg ys.toArray)).run P w = .ok (eqVL xs ys) w

def eqChk (P : Program) (t : TypeId) (zs : List Value) : Bool := !P.eqGuardType P.depth t && (okL P 12 t zs && match P.underlying t with
  | some (.array _ _) => true
  | some (.struct _) => true
  | _ => false)

theorem eqChk_ok {P : Program} {t : TypeId} {zs : List Value} (h : eqChk P t zs = true) : EqOk P t zs := by
  simp only [eqChk, Bool.and_eq_true, Bool.not_eq_true'] at h
  obtain ⟨h1, h2, h3⟩ := h
  have hagg : ∃ d, P.underlying t = some d ∧ ((∃ n e, d = .array n e) ∨ ∃ fs, d = .struct fs) := by
    split at h3
    · rename_i n e hu; exact ⟨_, hu, .inl ⟨_, _, rfl⟩⟩
    · rename_i fs hu; exact ⟨_, hu, .inr ⟨_, rfl⟩⟩
    · cases h3
  refine ⟨h1, hagg, fun w xs ys hx hy => ?_⟩
  have := eqIn_ok P 9988 12 t w xs ys (okL_same P 12 t xs zs h2 hx) (okL_same P 12 t ys zs h2 hy)
  have hm : ∀ l, mkV P t l = .agg l.toArray := fun l => by
    obtain ⟨d, hu, hd⟩ := hagg
    rcases hd with ⟨n, e, rfl⟩ | ⟨fs, rfl⟩ <;> simp [mkV, hu]
  rw [hm, hm] at this
  exact this
end Go.Proofs.YtfkcolodbjonkabDoor.Sh
