/- A region whose order is open: whatever order is drawn, it ends as the text's order does. -/
import Derived.Test.YtfkcolodbjonkabDoorShK
namespace Go.Proofs.YtfkcolodbjonkabDoor.Sh
open Go.RowKit
set_option linter.unusedVariables false
set_option linter.unusedSimpArgs false

def gB (acc : Array Nat) (o : Oper) : Nat := o.after.foldl (fun s e => if Region.binds .any e then s ||| 2 ^ e.on ||| acc.getD e.on 0 else s) 0
def bB (l : List Oper) : Array Nat := l.foldl (fun acc o => acc.push (gB acc o)) #[]

theorem before_eq (ops : Array Oper) : Region.before ops = bB ops.toList := by
  unfold Region.before bB gB
  rw [← Array.foldl_toList]

theorem bB_snoc (l : List Oper) (o : Oper) : bB (l ++ [o]) = (bB l).push (gB (bB l) o) := by simp [bB]

theorem bB_size : ∀ (n : Nat) (l : List Oper), l.length = n → (bB l).size = n
  | 0, l, h => by have : l = [] := List.length_eq_zero_iff.1 h; subst this; rfl
  | n + 1, l, h => by
    rcases List.eq_nil_or_concat l with e | ⟨l', o, e⟩
    · subst e; simp at h
    · subst e
      rw [List.concat_eq_append] at h ⊢
      rw [bB_snoc, Array.size_push, bB_size n l' (by simpa using h)]

theorem bB_get : ∀ (n : Nat) (l : List Oper), l.length = n → ∀ i o, l[i]? = some o → (bB l).getD i 0 = gB (bB (l.take i)) o
  | 0, l, h, i, o, hi => by have : l = [] := List.length_eq_zero_iff.1 h; subst this; cases hi
  | n + 1, l, h, i, o, hi => by
    rcases List.eq_nil_or_concat l with e | ⟨l', o', e⟩
    · subst e; simp at h
    · subst e
      rw [List.concat_eq_append] at h hi ⊢
      have hl : l'.length = n := by simpa using h
      have hs := bB_size n l' hl
      rw [bB_snoc]
      by_cases hlt : i < n
      · rw [List.getElem?_append_left (by omega)] at hi
        rw [List.take_append_of_le_length (by omega), ← bB_get n l' hl i o hi]
        simp [Array.getD, hs, hlt, Nat.lt_succ_of_lt hlt, Array.getElem_push]
      · have hin : i = n := by
          have := (List.getElem?_eq_some_iff.1 hi).1
          simp at this; omega
        subst hin
        rw [List.getElem?_append_right (by omega)] at hi
        simp [hl] at hi
        subst hi
        rw [List.take_append_of_le_length (by omega), List.take_of_length_le (by omega)]
        simp [Array.getD, hs, Array.getElem_push]

theorem gB_bit (acc : Array Nat) (o : Oper) (j : Nat) (h : (gB acc o).testBit j = true) : ∃ e ∈ o.after, Region.binds .any e = true ∧ (e.on = j ∨ (acc.getD e.on 0).testBit j = true) := by
  unfold gB at h
  rw [← Array.foldl_toList] at h
  have : ∀ (l : List Edge) (s : Nat), (l.foldl (fun s e => if Region.binds .any e then s ||| 2 ^ e.on ||| acc.getD e.on 0 else s) s).testBit j = true → s.testBit j = true ∨ ∃ e ∈ l, Region.binds .any e = true ∧ (e.on = j ∨ (acc.getD e.on 0).testBit j = true) := by
    intro l
    induction l with
    | nil => exact fun s h => .inl h
    | cons e l ih =>
      intro s h
      rw [List.foldl_cons] at h
      rcases ih _ h with h1 | ⟨e', h1, h2⟩
      · by_cases hb : Region.binds .any e = true
        · rw [if_pos hb, Nat.testBit_or, Nat.testBit_or, Bool.or_eq_true, Bool.or_eq_true] at h1
          rcases h1 with (h1 | h1) | h1
          · exact .inl h1
          · refine .inr ⟨e, by simp, hb, .inl ?_⟩
            rw [Nat.testBit_two_pow] at h1
            exact of_decide_eq_true h1
          · exact .inr ⟨e, by simp, hb, .inr h1⟩
        · rw [if_neg hb] at h1; exact .inl h1
      · exact .inr ⟨e', by simp [h1], h2⟩
  rcases this _ _ h with h1 | ⟨e, h1, h2⟩
  · simp at h1
  · exact ⟨e, by simpa using h1, h2⟩

def edgeOk (all : Array Oper) : Bool := (List.range all.size).all fun i => match all[i]? with
  | some o => o.after.all fun e => !Region.binds .any e || decide (e.on < i)
  | none => true

theorem edgeOk_spec {all : Array Oper} (h : edgeOk all = true) {i : Nat} {o : Oper} (ho : all[i]? = some o) {e : Edge} (he : e ∈ o.after) (hb : Region.binds .any e = true) : e.on < i := by
  have hi : i < all.size := (Array.getElem?_eq_some_iff.1 ho).1
  have := List.all_eq_true.1 h i (by simpa using hi)
  simp only [ho] at this
  have := Array.all_eq_true_iff_forall_mem.1 this e he
  simpa [hb] using this

theorem before_bit {all : Array Oper} (hE : edgeOk all = true) {i j : Nat} {o : Oper} (ho : all[i]? = some o) (h : ((Region.before all).getD i 0).testBit j = true) :
    ∃ e ∈ o.after, Region.binds .any e = true ∧ e.on < i ∧ (e.on = j ∨ ((Region.before all).getD e.on 0).testBit j = true) := by
  rw [before_eq] at h ⊢
  rw [bB_get all.size all.toList (by simp) i o (by simpa using ho)] at h
  obtain ⟨e, he, hb, h1⟩ := gB_bit _ _ _ h
  have hlt := edgeOk_spec hE ho he hb
  refine ⟨e, he, hb, hlt, h1.imp id (fun h2 => ?_)⟩
  have hi : i < all.size := (Array.getElem?_eq_some_iff.1 ho).1
  have hoe : all.toList[e.on]? = some (all[e.on]'(by omega)) := by simp
  have hoe2 : (all.toList.take i)[e.on]? = some (all[e.on]'(by omega)) := by rw [List.getElem?_take_of_lt hlt]; exact hoe
  rw [bB_get all.size all.toList (by simp) e.on _ hoe]
  rw [bB_get i (all.toList.take i) (by simp; omega) e.on _ hoe2] at h2
  rwa [List.take_take, Nat.min_eq_left (by omega)] at h2

theorem before_listed {all : Array Oper} (hE : edgeOk all = true) {listed : Array Bool} (hcl : ∀ (i : Nat) o, all[i]? = some o → listed.getD i false = true → ∀ e ∈ o.after, Region.binds .any e = true → listed.getD e.on false = true) :
    ∀ (i : Nat) o, all[i]? = some o → (∀ e ∈ o.after, Region.binds .any e = true → listed.getD e.on false = true) → ∀ j, ((Region.before all).getD i 0).testBit j = true → listed.getD j false = true := by
  intro i
  induction i using Nat.strongRecOn with
  | _ i ih =>
    intro o ho he j hj
    obtain ⟨e, h1, h2, h3, h4⟩ := before_bit hE ho hj
    rcases h4 with rfl | h4
    · exact he e h1 h2
    · have hi : i < all.size := (Array.getElem?_eq_some_iff.1 ho).1
      have hoe : all[e.on]? = some (all[e.on]'(by omega)) := by simp
      exact ih e.on h3 _ hoe (hcl e.on _ hoe (he e h1 h2)) j h4

def confl (all : Array Oper) (x y : Oper) (fx wx fy wy : List Nat) : Bool :=
  (x.dst.toList.any fun d => (y.looksAt all).contains d || y.dst == some d) || (y.dst.toList.any fun d => (x.looksAt all).contains d) ||
  (wx.any fun r => fy.contains r || wy.contains r) || (wy.any fun r => fx.contains r)

def okc (all : Array Oper) (L : List (List Nat × List Nat)) : Bool :=
  (List.range all.size).all fun j => (List.range j).all fun i => match all[i]?, all[j]?, L[i]?, L[j]? with
    | some x, some y, some (fx, wx), some (fy, wy) => !confl all x y fx wx fy wy || ((Region.before all).getD j 0).testBit i
    | _, _, _, _ => true

def tag (x : Oper × Ef) : List Nat × List Nat := (x.2.fp, x.2.ups.map (·.1))

theorem okc_spec {all : Array Oper} {rs : List (Oper × Ef)} (hr : rs.map (·.1) = all.toList) (h : okc all (rs.map tag) = true) {i j : Nat} {x y : Oper × Ef} (hij : i < j) (hx : rs[i]? = some x) (hy : rs[j]? = some y)
    (hc : confl all x.1 y.1 x.2.fp (x.2.ups.map (·.1)) y.2.fp (y.2.ups.map (·.1)) = true) : ((Region.before all).getD j 0).testBit i = true := by
  have e1 : all[i]? = some x.1 := by
    have : all.toList[i]? = some x.1 := by rw [← hr, List.getElem?_map, hx]; rfl
    simpa using this
  have e2 : all[j]? = some y.1 := by
    have : all.toList[j]? = some y.1 := by rw [← hr, List.getElem?_map, hy]; rfl
    simpa using this
  have hj : j < all.size := (Array.getElem?_eq_some_iff.1 e2).1
  have h1 := List.all_eq_true.1 h j (by simpa using hj)
  have h2 := List.all_eq_true.1 h1 i (by simpa using hij)
  simp only [e1, e2, List.getElem?_map, hx, hy, Option.map_some, tag] at h2
  simpa [hc] using h2

section
variable {P : Program} {all : Array Oper} {w0 : Base} {A : Nat → Prop} {N : Nat}

def FrL (nx : Nat) (rs : List (Oper × Ef)) (S : Nat → Bool) : Nat → Prop := fun r => nx ≤ r ∧ ∀ (k : Nat) x, rs[k]? = some x → S k = true → ¬ (nxAt nx rs k ≤ r ∧ r < nxAt nx rs k + x.2.cost)

def unl (listed : Array Bool) : Nat := (listed.toList.filter (!·)).length

theorem filter_set : ∀ (l : List Bool) (i : Nat), l[i]? = some false → ((l.set i true).filter (!·)).length + 1 = (l.filter (!·)).length
  | [], _, h => by cases h
  | b :: l, 0, h => by simp at h; subst h; simp
  | b :: l, i + 1, h => by
    have := filter_set l i (by simpa using h)
    cases b <;> simp <;> omega

theorem unl_set (listed : Array Bool) (i : Nat) (h : listed.getD i true = false) : unl (listed.setIfInBounds i true) + 1 = unl listed := by
  have hi : i < listed.size := by
    rcases Nat.lt_or_ge i listed.size with h' | h'
    · exact h'
    · simp [Array.getElem?_eq_none h'] at h
  have hv : listed.toList[i]? = some false := by
    simp [hi] at h ⊢
    exact h
  unfold unl
  rw [Array.toList_setIfInBounds]
  exact filter_set _ _ hv

theorem unl_zero (listed : Array Bool) (h : unl listed = 0) (i : Nat) (hi : i < listed.size) : listed.getD i false = true := by
  unfold unl at h
  have h1 := List.length_eq_zero_iff.1 h
  have h2 := List.filter_eq_nil_iff.1 h1 (listed[i]) (by simp)
  simp [hi]
  simpa using h2

structure Inv (P : Program) (all : Array Oper) (w0 : Base) (A : Nat → Prop) (N : Nat) (tm : Nat → Option SV) (hp : Nat → Option Row) (nx : Nat) (rs : List (Oper × Ef)) (listed : Array Bool) (a : Act) (w : World) : Prop where
  size : listed.size = all.size
  down : ∀ (i : Nat) o, all[i]? = some o → listed.getD i false = true → ∀ e ∈ o.after, Region.binds .any e = true → listed.getD e.on false = true
  rel : ∃ m π, RelAt P w0 A N (FrL nx rs (fun i => listed.getD i false)) (foldU (fun i => listed.getD i false) 0 (rs.map uT) tm) (foldU (fun i => listed.getD i false) 0 (rs.map uH) hp) a w m π

theorem getD_tf {listed : Array Bool} {i : Nat} (h : listed.getD i true = false) : listed.getD i false = false := by
  rcases Nat.lt_or_ge i listed.size with h' | h'
  · simp [h'] at h ⊢; exact h
  · simp [Array.getElem?_eq_none h'] at h

theorem getD_set {listed : Array Bool} {i : Nat} (hi : i < listed.size) (j : Nat) : (listed.setIfInBounds i true).getD j false = (listed.getD j false || j == i) := by
  by_cases e : j = i
  · subst e; simp [hi]
  · simp [Array.getElem?_setIfInBounds_ne (Ne.symm e), e]

theorem nxAt_lt {nx : Nat} {rs : List (Oper × Ef)} {i j : Nat} {x : Oper × Ef} (hij : i < j) (hx : rs[i]? = some x) : nxAt nx rs i + x.2.cost ≤ nxAt nx rs j := by
  rw [← nxAt_succ nx rs i x hx]
  have := nxAt_mono nx rs (j - (i + 1)) (i + 1)
  rwa [show i + 1 + (j - (i + 1)) = j by omega] at this

theorem Inv.step {tm : Nat → Option SV} {hp : Nat → Option Row} {nx : Nat} {rs : List (Oper × Ef)} {tm' : Nat → Option SV} {hp' : Nat → Option Row} {nx' : Nat} (ht : Tr P all N all.toList tm hp nx rs tm' hp' nx')
    (hE : edgeOk all = true) (hO : okc all (rs.map tag) = true) {listed : Array Bool} {a : Act} {w : World} (hI : Inv P all w0 A N tm hp nx rs listed a w) {i : Nat} (hr : i ∈ Region.ready .any all listed) {Q : Exit → Act → World → Prop} {K : Act → World → Prop}
    (hK : ∀ a' w', Inv P all w0 A N tm hp nx rs (listed.setIfInBounds i true) a' w' → K a' w') : wpOp P all Q i K a w := by
  obtain ⟨q1, q2, q3, q4, q5⟩ := ht.at 0
  obtain ⟨hun, o, ho, hpre⟩ := mem_ready.1 hr
  obtain ⟨m, π, hrel⟩ := hI.rel
  have hia : i < all.size := (Array.getElem?_eq_some_iff.1 ho).1
  have hil : i < listed.size := by rw [hI.size]; exact hia
  have hlen : rs.length = all.size := by rw [← List.length_map (f := (·.1)), q1]; simp
  obtain ⟨x, hx⟩ : ∃ x, rs[i]? = some x := ⟨_, List.getElem?_eq_getElem (by omega)⟩
  have hxo : x.1 = o := by
    have : (rs.map (·.1))[i]? = some x.1 := by rw [List.getElem?_map, hx]; rfl
    rw [q1] at this
    simp at this
    rw [ho] at this; cases this; rfl
  have hat := q5 i x hx
  simp only [Nat.zero_add] at hat
  -- those who wait
  have hbef := before_listed hE hI.down i o ho hpre
  have hlt : ∀ (j : Nat) y, rs[j]? = some y → j < i → confl all y.1 x.1 y.2.fp (y.2.ups.map (·.1)) x.2.fp (x.2.ups.map (·.1)) = true → listed.getD j false = true :=
    fun j y hy hji hc => hbef j (okc_spec q1 hO hji hy hx hc)
  have hgt : ∀ (j : Nat) y, rs[j]? = some y → i < j → confl all x.1 y.1 x.2.fp (x.2.ups.map (·.1)) y.2.fp (y.2.ups.map (·.1)) = true → listed.getD j false = false := by
    intro j y hy hij hc
    have hb := okc_spec q1 hO hij hx hy hc
    cases hj : listed.getD j false with
    | false => rfl
    | true =>
      exfalso
      have hjo : all[j]? = some y.1 := by
        have : (rs.map (·.1))[j]? = some y.1 := by rw [List.getElem?_map, hy]; rfl
        rw [q1] at this
        simpa using this
      have := before_listed hE hI.down j y.1 hjo (hI.down j y.1 hjo hj) i hb
      rw [getD_tf hun] at this
      cases this
  -- the state agrees on what it looks at
  have agT : ∀ d, (d ∈ o.looksAt all ∨ o.dst = some d) → foldU (fun j => listed.getD j false) 0 (rs.map uT) tm d = foldU (fun j => decide (j < i)) 0 (rs.map uT) tm d := by
    intro d hd
    refine foldU_agree _ _ d _ 0 _ _ rfl (fun k u hk hdu => ?_)
    simp only [Nat.zero_add]
    rw [List.getElem?_map, Option.map_eq_some_iff] at hk
    obtain ⟨y, hy, rfl⟩ := hk
    have hdy : y.1.dst = some d := by simpa [uT] using hdu
    rcases Nat.lt_trichotomy k i with h | h | h
    · rw [hlt k y hy h (by
        simp only [confl, hdy, hxo, Option.toList_some, List.any_cons, List.any_nil, Bool.or_false, Bool.or_eq_true]
        left; left; left
        rcases hd with hd | hd
        · left; simpa using hd
        · right; simp [hd])]
      simp [h]
    · subst h; rw [getD_tf hun]; simp
    · rw [hgt k y hy h (by
        simp only [confl, hdy, hxo, Option.toList_some, List.any_cons, List.any_nil, Bool.or_false, Bool.or_eq_true]
        left; left
        rcases hd with hd | hd
        · right; simpa using hd
        · left; simp [hd])]
      simp; omega
  have agH : ∀ r, (r ∈ x.2.fp ∨ r ∈ x.2.ups.map (·.1)) → foldU (fun j => listed.getD j false) 0 (rs.map uH) hp r = foldU (fun j => decide (j < i)) 0 (rs.map uH) hp r := by
    intro r hrr
    refine foldU_agree _ _ r _ 0 _ _ rfl (fun k u hk hdu => ?_)
    simp only [Nat.zero_add]
    rw [List.getElem?_map, Option.map_eq_some_iff] at hk
    obtain ⟨y, hy, rfl⟩ := hk
    have hdy : r ∈ y.2.ups.map (·.1) := hdu
    rcases Nat.lt_trichotomy k i with h | h | h
    · rw [hlt k y hy h (by
        simp only [confl, Bool.or_eq_true]
        left; right
        rw [List.any_eq_true]
        exact ⟨r, hdy, by rcases hrr with h | h <;> simp [h] <;> simp_all⟩)]
      simp [h]
    · subst h; rw [getD_tf hun]; simp
    · rw [hgt k y hy h (by
        simp only [confl, Bool.or_eq_true]
        rcases hrr with h' | h'
        · right
          rw [List.any_eq_true]
          exact ⟨r, hdy, by simpa using h'⟩
        · left; right
          rw [List.any_eq_true]
          exact ⟨r, h', by simp; right; simpa using hdy⟩)]
      simp; omega
  -- the order's next state
  have hsetS : (fun j => (listed.setIfInBounds i true).getD j false) = (fun j => listed.getD j false || j == i) := funext fun j => getD_set hil j
  have insT : foldU (fun j => listed.getD j false || j == i) 0 (rs.map uT) tm = app (uT x) (foldU (fun j => listed.getD j false) 0 (rs.map uT) tm) := by
    refine foldU_insert _ (uT x) i (rs.map uT) 0 i tm (by rw [List.getElem?_map, hx]; rfl) (by simp) (getD_tf hun) (fun k' u' hk hl hs d hd hd' => ?_)
    rw [List.getElem?_map, Option.map_eq_some_iff] at hl
    obtain ⟨y, hy, rfl⟩ := hl
    simp only [Nat.zero_add] at hs
    have h1 : x.1.dst = some d := by simpa [uT] using hd
    have h2 : y.1.dst = some d := by simpa [uT] using hd'
    rw [hgt k' y hy hk (by simp [confl, h1, h2])] at hs
    cases hs
  have insH : foldU (fun j => listed.getD j false || j == i) 0 (rs.map uH) hp = app (uH x) (foldU (fun j => listed.getD j false) 0 (rs.map uH) hp) := by
    refine foldU_insert _ (uH x) i (rs.map uH) 0 i hp (by rw [List.getElem?_map, hx]; rfl) (by simp) (getD_tf hun) (fun k' u' hk hl hs d hd hd' => ?_)
    rw [List.getElem?_map, Option.map_eq_some_iff] at hl
    obtain ⟨y, hy, rfl⟩ := hl
    simp only [Nat.zero_add] at hs
    have h1 : d ∈ x.2.ups.map (·.1) := hd
    have h2 : d ∈ y.2.ups.map (·.1) := hd'
    rw [hgt k' y hy hk (by
      simp only [confl, Bool.or_eq_true]
      left; right
      rw [List.any_eq_true]
      exact ⟨d, h1, by simp; right; simpa using h2⟩)] at hs
    cases hs
  have hdown : ∀ (j : Nat) oj, all[j]? = some oj → (listed.setIfInBounds i true).getD j false = true → ∀ e ∈ oj.after, Region.binds .any e = true → (listed.setIfInBounds i true).getD e.on false = true := by
    intro j oj hj hjl e he hb
    rw [getD_set hil] at hjl ⊢
    by_cases hji : j = i
    · subst hji
      rw [ho] at hj; cases hj
      rw [hpre e he hb]; rfl
    · have : listed.getD j false = true := by simpa [hji] using hjl
      rw [hI.down j oj hj this e he hb]; rfl
  have hfr : ∀ r, FrL nx rs (fun j => listed.getD j false || j == i) r → FrL nx rs (fun j => listed.getD j false) r ∧ ¬ (nxAt nx rs i ≤ r ∧ r < nxAt nx rs i + x.2.cost) := by
    intro r hr'
    exact ⟨⟨hr'.1, fun k y hy hk => hr'.2 k y hy (by simp [hk])⟩, hr'.2 i x hx (by simp)⟩
  have hnew : ∀ r, nxAt nx rs i ≤ r → r < nxAt nx rs i + x.2.cost → FrL nx rs (fun j => listed.getD j false) r := by
    intro r h1 h2
    refine ⟨Nat.le_trans (by simp [nxAt]) h1, fun k y hy hk hh => ?_⟩
    rcases Nat.lt_trichotomy k i with h | h | h
    · have := nxAt_lt (nx := nx) h hy; omega
    · subst h
      have hk' : listed.getD k false = true := hk
      rw [getD_tf hun] at hk'; cases hk'
    · have := nxAt_lt (nx := nx) h hx; omega
  have hgd : ∀ b, guardIs all o (foldU (fun j => decide (j < i)) 0 (rs.map uT) tm) b → guardIs all o (foldU (fun j => listed.getD j false) 0 (rs.map uT) tm) b := by
    intro b hg
    unfold guardIs at hg ⊢
    cases hgu : o.guard with
    | none => rw [hgu] at hg; exact hg
    | some jw =>
      obtain ⟨j, want⟩ := jw
      rw [hgu] at hg
      obtain ⟨oj, d, g1, g2, g3⟩ := hg
      refine ⟨oj, d, g1, g2, ?_⟩
      rw [agT d (.inl ?_)]
      · exact g3
      · unfold Oper.looksAt
        rw [hgu]
        simp only [g1, Option.bind_some, g2, Option.toList_some]
        simp
  unfold wpOp
  rw [ho]
  simp only
  rcases hat.ex with ⟨hg, hxl, hw⟩ | ⟨hg, he⟩
  · rw [hxo] at hg hxl
    rw [if_pos (wanted_of hrel (hgd true hg))]
    left
    refine hxl _ (fun r hr' => agH r (.inl hr')) w0 A N _ _ a w m π K Q hrel (fun y hy => ?_) hnew (fun v w' m' π' h1 h2 h3 => hK _ _ ⟨by simp [hI.size], hdown, ?_⟩)
    · have e1 : evS (foldU (fun j => decide (j < i)) 0 (rs.map uT) tm) y = evS (foldU (fun j => listed.getD j false) 0 (rs.map uT) tm) y := by
        cases y with
        | tmp t =>
          simp only [evS]
          rw [agT t (.inl (by
            unfold Oper.looksAt
            rw [List.mem_append]; left
            exact List.mem_filterMap.2 ⟨.tmp t, by simpa using hy, rfl⟩))]
        | _ => rfl
      rw [e1]
      exact evS_ok hrel y
    · refine ⟨m', π', ?_⟩
      rw [hsetS, insT, insH]
      rw [← updD_app, ← upds_app, hxo]
      exact (h1.frmono hfr).putD o.dst (by rw [← hxo]; exact hat.dst) h2 (SV.cl.mono hfr h3)
  · rw [hxo] at hg
    rw [if_neg (by rw [wanted_of hrel (hgd false hg)]; simp)]
    refine hK _ _ ⟨by simp [hI.size], hdown, m, π, ?_⟩
    rw [hsetS, insT, insH]
    rw [← updD_app, ← upds_app, hxo, he]
    exact (hrel.frmono (fun r hr' => (hfr r hr').1)).putD o.dst (by rw [← hxo]; exact hat.dst) ud_v ud_c

theorem Inv.any {tm : Nat → Option SV} {hp : Nat → Option Row} {nx : Nat} {rs : List (Oper × Ef)} {tm' : Nat → Option SV} {hp' : Nat → Option Row} {nx' : Nat} (ht : Tr P all N all.toList tm hp nx rs tm' hp' nx')
    (hE : edgeOk all = true) (hO : okc all (rs.map tag) = true) {Q : Exit → Act → World → Prop} (hQ : ∀ a' w' m' π', RelAt P w0 A N (nx' ≤ ·) tm' hp' a' w' m' π' → Q .normal a' w') :
    ∀ (fuel : Nat) (listed : Array Bool) (a : Act) (w : World), unl listed = fuel → Inv P all w0 A N tm hp nx rs listed a w → wpAny P .any all Q fuel listed a w := by
  obtain ⟨q1, q2, q3, q4, q5⟩ := ht.at 0
  have hlen : rs.length = all.size := by rw [← List.length_map (f := (·.1)), q1]; simp
  have hfin : ∀ (listed : Array Bool) (a : Act) (w : World), Inv P all w0 A N tm hp nx rs listed a w → (∀ i, i < all.size → listed.getD i false = true) → Q .normal a w := by
    intro listed a w hI hall
    obtain ⟨m, π, hrel⟩ := hI.rel
    refine hQ a w m π ?_
    have eT : foldU (fun i => listed.getD i false) 0 (rs.map uT) tm = tm' := by
      rw [q2]
      funext x
      refine foldU_agree _ _ x _ 0 _ _ rfl (fun k u hk _ => ?_)
      have : k < all.size := by have := (List.getElem?_eq_some_iff.1 hk).1; simp at this; omega
      simp only [Nat.zero_add]
      exact hall k this
    have eH : foldU (fun i => listed.getD i false) 0 (rs.map uH) hp = hp' := by
      rw [q3]
      funext x
      refine foldU_agree _ _ x _ 0 _ _ rfl (fun k u hk _ => ?_)
      have : k < all.size := by have := (List.getElem?_eq_some_iff.1 hk).1; simp at this; omega
      simp only [Nat.zero_add]
      exact hall k this
    rw [eT, eH] at hrel
    refine hrel.frmono (fun r hr => ⟨?_, fun k x hx _ hh => ?_⟩)
    · rw [q4] at hr
      exact Nat.le_trans (by simp [nxAt]) hr
    · have hk : k < rs.length := (List.getElem?_eq_some_iff.1 hx).1
      have := nxAt_lt (nx := nx) hk hx
      rw [q4] at hr
      omega
  have hready : ∀ (listed : Array Bool), listed.size = all.size → Region.ready .any all listed = [] → ∀ i, i < all.size → listed.getD i false = true := by
    intro listed hs hr i
    induction i using Nat.strongRecOn with
    | _ i ih =>
      intro hi
      cases hl : listed.getD i false with
      | true => rfl
      | false =>
        exfalso
        have : i ∈ Region.ready .any all listed := by
          refine mem_ready.2 ⟨?_, all[i], by simp [hi], fun e he hb => ?_⟩
          · have hil : i < listed.size := by omega
            simp [hil] at hl ⊢; exact hl
          · have hlt := edgeOk_spec hE (i := i) (o := all[i]) (by simp [hi]) he hb
            exact ih e.on hlt (by omega)
        rw [hr] at this
        cases this
  intro fuel
  induction fuel with
  | zero =>
    intro listed a w hu hI
    have hall : ∀ i, i < all.size → listed.getD i false = true := fun i hi => unl_zero listed hu i (by rw [hI.size]; exact hi)
    refine ⟨?_, hfin listed a w hI hall⟩
    rw [List.eq_nil_iff_forall_not_mem]
    intro i hi
    obtain ⟨h1, o, ho, _⟩ := mem_ready.1 hi
    have := hall i (Array.getElem?_eq_some_iff.1 ho).1
    rw [getD_tf h1] at this
    cases this
  | succ fuel ih =>
    intro listed a w hu hI
    refine ⟨fun hr => hfin listed a w hI (hready listed hI.size hr), fun i hi => ?_⟩
    refine hI.step ht hE hO hi (fun a' w' hI' => ih _ a' w' ?_ hI')
    have := unl_set listed i (mem_ready.1 hi).1
    omega

theorem wp_region_drawn (hm : P.follows .mixedOrders = true) {id : Nat} {tm : Nat → Option SV} {hp : Nat → Option Row} {nx : Nat} {rs : List (Oper × Ef)} {tm' : Nat → Option SV} {hp' : Nat → Option Row} {nx' : Nat} {a : Act} {w : World} {m : Mem} {π : Plc} {Q : Exit → Act → World → Prop}
    (ht : Tr P all N all.toList tm hp nx rs tm' hp' nx') (hE : edgeOk all = true) (hO : okc all (rs.map tag) = true)
    (hQ : ∀ a' w' m' π', RelAt P w0 A N (nx' ≤ ·) tm' hp' a' w' m' π' → Q .normal a' w') (h : RelAt P w0 A N (nx ≤ ·) tm hp a w m π) : (Code.region id all true).wp P Q a w := by
  refine wp_region_any hm ?_
  have hS : ∀ i, (Array.replicate all.size false).getD i false = false := by
    intro i
    by_cases hi : i < all.size <;> simp [hi]
  refine Inv.any ht hE hO hQ all.size _ a _ ?_ ⟨by simp, fun i o _ hl => (by rw [hS] at hl; cases hl), m, π, ?_⟩
  · unfold unl
    simp [List.filter_replicate]
  · rw [foldU_none _ _ _ _ (fun k _ => hS k), foldU_none _ _ _ _ (fun k _ => hS k)]
    exact (h.drew _).frmono (fun r hr => hr.1)

end
end Go.Proofs.YtfkcolodbjonkabDoor.Sh
