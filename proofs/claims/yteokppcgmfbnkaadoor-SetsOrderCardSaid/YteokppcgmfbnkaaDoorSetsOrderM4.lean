/- Contracts of functions, told of values, on the way to SetsOrder (part 4). -/
import Derived.Test.YteokppcgmfbnkaaDoorSetsOrderM3
import Derived.Shelf.SlSortCmp.NoneTotal
import Derived.ChangeMaps5
import Derived.Test.YteokppcgmfbnkaaDoorChecked
import Derived.Shelf.Strings.Builder1
import Derived.Shelf.Strings.Builder2
import Derived.Shelf.Strings.OnBuilder
import Derived.Shelf.Small.Bits
import Derived.Shelf.Strconv.Itoa0
import Derived.Shelf.Strconv.Itoa1
import Derived.Shelf.LaysM
import Derived.Shelf.Strconv.Itoa2
import Derived.Shelf.Strconv.Itoa3
import Derived.Shelf.Strings.Search1
import Derived.Shelf.Strings.Search2
import Derived.Shelf.Strings.Search3
import Derived.Shelf.Strings.Cut
import Derived.Shelf.Strings.Count
import Derived.Shelf.Strings.Shaped
import Derived.Shelf.Unicode.DecodeSlow
import Derived.Ground.SlsfProg
import Derived.Test.YteokppcgmfbnkaaDoorProg
import Derived.Lib.Join
import Derived.Lib.ItoaNum
namespace Go.Proofs.YteokppcgmfbnkaaDoor.Sh
open Go.RowKit Go.Shelf Go.Proofs Go.Sort
set_option linter.unusedVariables false
abbrev scs (vs : List Value) : List Cell := vs.map Cell.sc
theorem scs_at (vs : List Value) (i : Nat) (c : Cell) (h : (scs vs)[i]? = some c) : ∃ v, vs[i]? = some v ∧ c = .sc v := by
  rw [scs, List.getElem?_map] at h
  cases hv : vs[i]? with
  | none => rw [hv] at h; cases h
  | some v => rw [hv] at h; cases h; exact ⟨v, rfl, rfl⟩
theorem flatK_at {α : Type} (f : α → List Cell) (k : Nat) (hk : ∀ x, (f x).length = k) : ∀ (d : List α) (t : Nat) (hq : t / k < d.length) (h0 : 0 < k), (d.flatMap f)[t]? = (f d[t / k])[t % k]?
  | [], t, hq, _ => by simp at hq
  | x :: d, t, hq, h0 => by
    rw [List.flatMap_cons]
    by_cases ht : t < k
    · have e : t / k = 0 := Nat.div_eq_of_lt ht
      rw [List.getElem?_append_left (by rw [hk]; exact ht)]
      simp only [e, List.getElem_cons_zero, Nat.mod_eq_of_lt ht]
    · have e : t / k = (t - k) / k + 1 := by rw [Nat.div_eq_sub_div h0 (by omega)]
      have em : t % k = (t - k) % k := Nat.mod_eq_sub_mod (by omega)
      rw [List.getElem?_append_right (by rw [hk]; omega), hk, em]
      have hq' : (t - k) / k < d.length := by
        rw [e, List.length_cons] at hq; omega
      rw [flatK_at f k hk d (t - k) hq' h0]
      simp only [e, List.getElem_cons_succ]
theorem flatK_len {α : Type} (f : α → List Cell) (k : Nat) (hk : ∀ x, (f x).length = k) : ∀ (d : List α), (d.flatMap f).length = d.length * k
  | [] => by simp
  | x :: d => by rw [List.flatMap_cons, List.length_append, hk, flatK_len f k hk d, List.length_cons, Nat.succ_mul]; omega
section
variable {α : Type} [Inhabited α] {P : Program} {ρ : Ren}
theorem sortW_heap (enc : α → List Value) (k : Nat) (w : World) (blk off m : Nat) (dk : Array α) (os : Array Obj) (b : Nat) (hb : b < w.heap.size) : (sortWorldK enc k w blk off m dk os).heap[b]? = (mapBlock w blk (putCells id off (flatK enc k dk))).heap[b]? := by
  show ((mapBlock w blk (putCells id off (flatK enc k dk))).heap ++ os)[b]? = _
  rw [Array.getElem?_append_left (by simpa [mapBlock] using hb)]
theorem sortW_size (enc : α → List Value) (k : Nat) (w : World) (blk off m : Nat) (dk : Array α) (os : Array Obj) : w.heap.size ≤ (sortWorldK enc k w blk off m dk os).heap.size := by
  show w.heap.size ≤ ((mapBlock w blk _).heap ++ os).size
  rw [Array.size_append]; simp [mapBlock]
def CmpDoes (P : Program) (g : Nat) (enc : α → List Value) (cf : α → α → Int) : Prop :=
  ∀ x y W, Calls P g #[.agg (enc x).toArray, .agg (enc y).toArray] W fun e w' => e = .returned (.int .i64 (cf x y)) ∧ ∃ q os', w' = Sort.grow (World.drewN W q) os'
set_option maxHeartbeats 1000000 in
/-- SLICES.SORTFUNC AT ELEMENTS OF k CELLS -/
theorem FnSpec.of_sortK (L : SlLaysF0.n6 P ρ) (k : Nat) (hk0 : 0 < k) (aE : ∀ w, (isAgg (ρ.t 24)).run P w = .ok true w) (zE : ∀ w, (Go.sizeOf (ρ.t 24)).run P w = .ok k w) (enc : α → List Value) (hk : ∀ x, (enc x).length = k) (h1 : ∀ x, ∀ v ∈ enc x, v.oneCell' = true)
    (cf : α → α → Int) (hO : SWO (ltOf cf)) (hcall : Callable P (ρ.f 6)) (g : Nat) (hg : Callable P g) (hc : CmpDoes P g enc cf)
    (d : List α) (hd : d.length < 4611686018427387904) (cap : Option Nat) :
    ∃ d' : List α, d'.Perm d ∧ d'.Pairwise (fun x y => ¬ cf y x < 0) ∧
      FnSpec P (ρ.f 6) [.one (.osl 0 0 d.length cap), .one (.fn g [])] [⟨d.flatMap fun x => scs (enc x), k⟩] (.tup []) [some ⟨d'.flatMap fun x => scs (enc x), k⟩] := by
  have hsort := pdq_sorts (ltOf cf) hO d.toArray 0 d.length (Lib.bitLen d.length) true true (Nat.zero_le _) (by simp) (Or.inl rfl)
  generalize hd' : pdq (ltOf cf) d.toArray 0 d.length (Lib.bitLen d.length) true true = e at hsort
  obtain ⟨⟨p1, _, p3⟩, p4⟩ := hsort
  have hsz : e.size = d.length := by simpa using p1
  refine ⟨e.toList, ?_, ?_, hcall, ?_⟩
  · have ht : List.take e.size d = d := List.take_of_length_le (by omega)
    simpa [← hsz, ht] using p3
  · rw [List.pairwise_iff_getElem]
    intro i j hi hj hij
    have := p4 i j (Nat.zero_le _) hij (by simpa [hsz] using hj)
    rw [getElem!_pos e i (by simpa using hi), getElem!_pos e j (by simpa using hj), ltOf] at this
    simpa using this
  intro w vals m π A hA hr hv hcl
  have eg : ∀ args w, (callFunc g args).run P w = .ok (.enter g args) w := by
    obtain ⟨fn, a1, a2, a3⟩ := hg
    cases hb : fn.body with
    | none => rw [hb] at a3; cases a3
    | some c => exact enters_of a1 a2 hb
  generalize hvs : vals.toList = vs at hv
  match vs, hv with
  | [u, f], ⟨hu, hf, _⟩ =>
    have hvals : vals = #[u, f] := by apply Array.ext'; exact hvs
    subst hvals
    obtain rfl : f = .func (.func g) #[] #[] := by
      cases hf with
      | fn _ _ vals hl hv => rw [Array.eq_empty_of_size_eq_zero hl]
    have hlen : e.toList.length = d.length := by simpa using hsz
    have hkl : ∀ x, (scs (enc x)).length = k := fun x => by rw [scs, List.length_map]; exact hk x
    obtain ⟨hu1, hu2⟩ := hu
    have hrow := hr.rows 0 _ rfl
    unfold RowOk at hrow
    cases hπ : π 0 with
    | none => rw [hπ] at hrow; exact hrow.elim
    | some o =>
    cases o with
    | none =>
      rw [hπ] at hrow hu2
      obtain ⟨q1, q2, ad, rfl⟩ := hu2
      have hd0 : d = [] := List.length_eq_zero_iff.1 q1
      subst hd0
      have he0 : e.toList = [] := List.length_eq_zero_iff.1 hlen
      rw [he0]
      refine (AnyF.slices_SortFunc_none L ad 0 _ w).mono fun x w' ⟨x1, x2⟩ => ?_
      subst x1; subst x2
      exact ⟨_, m, π, rfl, hr, ⟨#[], rfl, trivial⟩, trivial⟩
    | some p =>
      rw [hπ] at hrow hu2
      obtain ⟨hz, ad, c, rfl, hlc, _, hplace⟩ := hu2
      obtain ⟨hAp, hez, arr, ty, hobj, hsok, hln, hcells⟩ := hrow
      rcases Nat.eq_zero_or_pos d.length with hd0 | hdp
      · have hd00 : d = [] := List.length_eq_zero_iff.1 hd0
        subst hd00
        have he0 : e.toList = [] := List.length_eq_zero_iff.1 hlen
        rw [he0]
        refine (AnyF.slices_SortFunc_none L (some ad) c _ w).mono fun x w' ⟨x1, x2⟩ => ?_
        subst x1; subst x2
        exact ⟨_, m, π, rfl, hr, ⟨#[], rfl, trivial⟩, trivial⟩
      rcases hplace with ⟨h0, _⟩ | ⟨rfl, hfit⟩
      · omega
      have hob := hobj.cells hz
      have hblk := hobj.lt
      have hm : ∀ ad v, m ad = some v → ad.block ≠ p.b := fun ad v hmm => hr.dis 0 p ad v hπ hmm
      have hHold : HoldsK enc k w p.b (p.o + 0) d.toArray := by
        intro j hj
        rw [size_flatK] at hj
        have hj' : j < d.length * k := by simpa using hj
        have hq : j / k < d.length := (Nat.div_lt_iff_lt_mul hk0).2 hj'
        have hat := flatK_at (fun x => scs (enc x)) k hkl d j hq hk0
        have hmk : j % k < (enc d[j / k]).length := by rw [hk]; exact Nat.mod_lt _ hk0
        rw [show (scs (enc d[j / k]))[j % k]? = some (.sc (enc d[j / k])[j % k]) by rw [scs, List.getElem?_map, List.getElem?_eq_getElem hmk]; rfl] at hat
        obtain ⟨x, hx1, hx2⟩ := hcells j _ hat
        have ex : x = (enc d[j / k])[j % k] := by cases hx2; rfl
        subst ex
        rw [get_flatK enc k d.toArray j hj]
        have e1 : d.toArray[j / k]! = d[j / k] := by rw [getElem!_pos d.toArray (j / k) (by simpa using hq)]; simp
        have e2 : (enc d[j / k])[j % k]! = (enc d[j / k])[j % k] := getElem!_pos (enc d[j / k]) (j % k) hmk
        rw [e1, e2]
        refine ⟨?_, ?_⟩
        · show w.cell? ⟨p.b, p.o + 0 + j, none⟩ = some _
          simp only [World.cell?, hob, Nat.add_zero]
          simpa using hx1
        · simp [World.frozen?, hob]
      have hmain := AnyQ.slices_SortFunc_eq L k aE zE enc hk h1 cf hO g #[] p.b (p.o + 0) c d.toArray w eg (fun _ _ _ _ x y => hc x y _) hHold hblk (by simpa using hd)
      have hds : d.toArray.size = d.length := by simp
      rw [hds, hd'] at hmain
      refine hmain.mono ?_
      rintro x w' ⟨rfl, n, os, rfl⟩
      have hcs : ∀ (i : Nat) c, (e.toList.flatMap fun x => scs (enc x))[i]? = some c → ∃ x, (putCells id (p.o + 0) (flatK enc k e) arr)[p.o + i]? = some x ∧ VC m π c x := by
        intro i c hi
        have hil : i < e.toList.length * k := by
          rw [← flatK_len (fun x => scs (enc x)) k hkl]
          exact (List.getElem?_eq_some_iff.1 hi).1
        have hq : i / k < e.toList.length := (Nat.div_lt_iff_lt_mul hk0).2 hil
        rw [flatK_at _ k hkl _ i hq hk0] at hi
        obtain ⟨v, hv1, rfl⟩ := scs_at _ _ _ hi
        have hin : i < p.tot := by
          have := hln.1 hz
          rw [flatK_len (fun x => scs (enc x)) k hkl] at this
          show i < p.tot
          have : i < d.length * k := by rw [← hlen]; exact hil
          exact Nat.lt_of_lt_of_le this ‹_›
        have hia : p.o + i < arr.size := by rw [hsok.1 hz]; omega
        refine ⟨v, ?_, VG.sc v (h1 _ v (List.mem_of_getElem? hv1))⟩
        have hie : i < (flatK enc k e).size := by rw [size_flatK]; simpa using hil
        simp only [putCells, Array.getElem?_mapIdx, Array.getElem?_eq_getElem hia, Option.map_some, id]
        rw [if_pos (by omega), show p.o + i - (p.o + 0) = i by omega, get_flatK enc k e i (by simpa using hil)]
        have e1 : e[i / k]! = e.toList[i / k] := by rw [getElem!_pos e (i / k) (by simpa using hq)]; simp
        rw [e1]
        obtain ⟨hh, rfl⟩ := List.getElem?_eq_some_iff.1 hv1
        exact congrArg some (getElem!_pos (enc e.toList[i / k]) (i % k) hh)
      have hre := hr.reobj (r := 0) rfl hπ (.cells (putCells id (p.o + 0) (flatK enc k e) arr) ty (0, 0)) (e.toList.flatMap fun x => scs (enc x)) (putCells id (p.o + 0) (flatK enc k e) arr) ty hm
        (.mk hz (by show (w.heap.setIfInBounds p.b _)[p.b]? = _; rw [Array.getElem?_setIfInBounds_self_of_lt hblk]))
        ⟨fun _ => by simp only [putCells, Array.size_mapIdx]; exact hsok.1 hz, fun h0 => absurd h0 hz⟩
        ⟨fun _ => by
          have := hln.1 hz
          rw [flatK_len (fun x => scs (enc x)) k hkl] at this
          rw [flatK_len (fun x => scs (enc x)) k hkl, hlen]; exact this, fun h0 => absurd h0 hz⟩
        hcs (fun c hc => by
          obtain ⟨x, _, hx⟩ := List.mem_flatMap.1 hc
          obtain ⟨v, _, rfl⟩ := List.mem_map.1 hx
          trivial) (fun c hc => by
          obtain ⟨x, _, hx⟩ := List.mem_flatMap.1 hc
          obtain ⟨v, _, rfl⟩ := List.mem_map.1 hx
          intro h; cases h)
      refine ⟨_, m, π, rfl, ?_, ⟨#[], rfl, trivial⟩, trivial⟩
      have hhp : upd (hpL ([⟨d.flatMap fun x => scs (enc x), k⟩].map some)) 0 (some ⟨e.toList.flatMap fun x => scs (enc x), k⟩) = hpL [some ⟨e.toList.flatMap fun x => scs (enc x), k⟩] := by
        funext r
        cases r <;> rfl
      rw [← hhp]
      refine hre.world (w' := sortWorldK enc k w p.b (p.o + 0) n e os) (fun _ => False) rfl rfl rfl ?_ (fun b hb _ => ?_) (fun b hb => hb.elim) (fun _ _ _ hb => hb) (fun _ _ _ hb => hb)
      · show (w.heap.setIfInBounds _ _).size ≤ _
        rw [Array.size_setIfInBounds]
        exact sortW_size enc k w p.b (p.o + 0) n e os
      · have hb' : b < w.heap.size := by simpa using hb
        rw [sortW_heap enc k w p.b (p.o + 0) n e os b hb']
        show (w.heap.modify p.b (onCells _))[b]? = (w.heap.setIfInBounds p.b _)[b]?
        rw [Array.getElem?_modify, Array.getElem?_setIfInBounds]
        by_cases hbp : p.b = b
        · subst hbp
          rw [if_pos rfl, if_pos rfl, if_pos hblk, hob]
          rfl
        · rw [if_neg hbp, if_neg hbp]
end
end Go.Proofs.YteokppcgmfbnkaaDoor.Sh
namespace Go.Proofs.YteokppcgmfbnkaaDoor.Sh
open Go.RowKit
set_option linter.unusedVariables false
set_option linter.unusedSimpArgs false
class Rec (α : Type) where
  cs : α → List Cell
  n : Nat
  z : α
  len : ∀ x, (cs x).length = n
  g : ∀ x, ∀ c ∈ cs x, c.isG = true
def Cs {α : Type} [Rec α] (l : List α) : List Cell := l.flatMap Rec.cs
section
variable {α : Type} [Rec α]
theorem isG_ren {c : Cell} (h : c.isG = true) (ρ : Nat → Option Nat) : c.ren ρ = c := by cases c <;> first | rfl | cases h
theorem isG_frz {c : Cell} (h : c.isG = true) (r : Nat) (cs : List Cell) : c.frz r cs = c := by cases c <;> first | rfl | cases h
theorem isG_refs {c : Cell} (h : c.isG = true) : c.refs = [] := by cases c <;> first | rfl | cases h
theorem map_id_of {l : List Cell} {f : Cell → Cell} (h : ∀ c ∈ l, f c = c) : l.map f = l := by
  induction l with
  | nil => rfl
  | cons c l ih => rw [List.map_cons, h c List.mem_cons_self, ih fun d hd => h d (List.mem_cons_of_mem _ hd)]
theorem Cs_isG (l : List α) : ∀ c ∈ Cs l, c.isG = true := fun c hc => by
  obtain ⟨x, _, hx⟩ := List.mem_flatMap.1 hc
  exact Rec.g x c hx
theorem Cs_ren (ρ : Nat → Option Nat) (l : List α) : (Cs l).map (Cell.ren ρ) = Cs l := map_id_of fun c hc => isG_ren (Cs_isG l c hc) ρ
theorem Cs_frz (r : Nat) (cs : List Cell) (l : List α) : (Cs l).map (Cell.frz r cs) = Cs l := map_id_of fun c hc => isG_frz (Cs_isG l c hc) r cs
theorem Cs_flat (l : List α) : flat (Cs l) := fun c hc => isG_refs (Cs_isG l c hc)
theorem Cs_len (l : List α) : (Cs l).length = l.length * Rec.n α := flatMap_len Rec.len l
theorem Cs_app (l m : List α) : Cs l ++ Cs m = Cs (l ++ m) := by simp [Cs]
theorem Cs_td (l : List α) (i : Nat) (h : i < l.length) : ((Cs l).drop (i * Rec.n α)).take (Rec.n α) = Rec.cs (l.getD i Rec.z) := flatMap_at Rec.len Rec.z l i h
theorem Cs_all (l : List α) (k : Nat) (h : l.length * Rec.n α ≤ k) : (Cs l).take k = Cs l := List.take_of_length_le (by rw [Cs_len]; exact h)
theorem getD_mem {α : Type} (l : List α) (i : Nat) (z : α) (h : i < l.length) : l.getD i z ∈ l := by
  rw [List.getD_eq_getElem?_getD, List.getElem?_eq_getElem h]; exact List.getElem_mem h
theorem drop_getD {α : Type} (l : List α) (i : Nat) (z : α) (h : i < l.length) : l.drop i = l.getD i z :: l.drop (i + 1) := by
  rw [List.drop_eq_getElem_cons h, List.getD_eq_getElem?_getD, List.getElem?_eq_getElem h]; rfl
theorem take_getD {α : Type} (l : List α) (i : Nat) (z : α) (h : i < l.length) : l.take (i + 1) = l.take i ++ [l.getD i z] := by
  rw [List.take_add_one, List.getElem?_eq_getElem h, List.getD_eq_getElem?_getD, List.getElem?_eq_getElem h]; rfl
def ixR {α : Type} (q : α → Bool) : List α → Nat → Int
  | [], _ => -1
  | b :: r, i => if q b = true then (i : Int) else ixR q r (i + 1)
theorem ixR_any {α : Type} (q : α → Bool) : ∀ (s : List α) i, decide (0 ≤ ixR q s i) = s.any q
  | [], i => rfl
  | b :: r, i => by
    unfold ixR
    by_cases h : q b = true
    · rw [if_pos h, List.any_cons, h, decide_eq_true (by omega)]; rfl
    · rw [if_neg h, List.any_cons, Bool.eq_false_iff.2 h, ixR_any q r (i + 1)]; rfl
abbrev gr (l : List α) (k : Option Nat) : SV := .one (.gsl (Cs l) 0 l.length k)
end
theorem imp_nilA (k : Nat) (s : St) (q esz n : Nat) (hn : s.nx ≤ n) (hq : slot q s.tm = some (V (.slice none 0 0))) : Imp k s ⟨(q, .one (.osl n 0 0 none)) :: s.tm, (n, some ⟨[], esz⟩) :: s.hp, n + 1⟩ := by
  intro P w0 A N a w m π hk h
  have h1 := h.nilrow n hn esz
  have hsub : ∀ r, n + 1 ≤ r → s.nx ≤ r ∧ r ≠ n := fun r hr => ⟨by omega, by omega⟩
  have h2 := h1.frmono hsub
  refine ⟨m, upd π n (some none), ?_⟩
  have ehp : St.hpF ⟨(q, .one (.osl n 0 0 none)) :: s.tm, (n, some ⟨[], esz⟩) :: s.hp, n + 1⟩ = upd s.hpF n (some ⟨[], esz⟩) := by
    funext r
    simp only [St.hpF, lookR, upd]
    by_cases e : n = r
    · simp [e]
    · simp [e, Ne.symm e]
  rw [ehp]
  refine { h2 with tms := fun j v hj => ?_, tcl := fun j v hj => ?_ }
  · simp only [St.tmF, slot] at hj
    split at hj
    · rename_i e
      subst e
      cases hj
      have hv := (vs_sc (h.tms q _ hq)).1
      rw [hv]
      refine ⟨rfl, ?_⟩
      rw [upd_same]
      exact ⟨rfl, fun k hk => (by cases hk), none, rfl⟩
    · exact h2.tms j v hj
  · simp only [St.tmF, slot] at hj
    split at hj
    · cases hj
      show ¬ _
      simp only; omega
    · exact h2.tcl j v hj
attribute [go_sem] Cs_ren Cs_frz
end Go.Proofs.YteokppcgmfbnkaaDoor.Sh
namespace Go.Proofs.YteokppcgmfbnkaaDoor.Sh
set_option linter.unusedVariables false
set_option linter.unusedSimpArgs false
open Go Go.ChangeMaps
theorem weightsEach_all {H : Type} {P : Program} {q : Nat → Bool} : ∀ (ts : List TypeId) (ds : List (DataW H)), (DataW.weightsEach P ts ds).all q = true → ∀ (j : Nat) t d, ts[j]? = some t → ds[j]? = some d → (d.weights P t).all q = true
  | [], _, _, j, t, d, h1, _ => by cases h1
  | _ :: _, [], _, j, t, d, _, h2 => by cases h2
  | t0 :: ts, d0 :: ds, h, 0, t, d, h1, h2 => by
    cases h1; cases h2
    rw [DataW.weightsEach, List.all_append, Bool.and_eq_true] at h
    exact h.1
  | t0 :: ts, d0 :: ds, h, j + 1, t, d, h1, h2 => by
    rw [DataW.weightsEach, List.all_append, Bool.and_eq_true] at h
    exact weightsEach_all ts ds h.2 j t d h1 h2
theorem str_size {H : Type} {enc : TypeId × Value → H} {P : Program} {w : World} {base : Nat} {sp : Nat → Bool} {held : Bool} {r : Reach} {b0 : Nat} {t : TypeId} {v : Value} {d : DataW H} {ps : List MemPlace} {g : List Cell} {m : Mem} {π : Plc}
    (ht : P.underlying t = some .string) (hval : Value.okWide P w r b0 t v) (h : DataW.Trod enc P w base sp held t v d ps) (hv : VS m π (svOf P t g) v) (hw : (d.weights P t).all (fun n => decide (n ≤ reachBytes)) = true) : ∀ a : ByteArray, g = [.sc (.string a)] → a.size ≤ 140737488351232 := by
  intro a e
  subst e
  simp only [svOf, ht, List.headD_cons] at hv
  have e1 := (vs_sc hv).1
  obtain ⟨s, hs, hd, _, _⟩ := open_string ht hval h
  rw [e1] at hs
  cases hs
  subst hd
  simp only [DataW.weights, List.all_cons, List.all_nil, Bool.and_true, decide_eq_true_eq] at hw
  have e2 : a.size = a.data.toList.length := by rw [Array.length_toList]; rfl
  have e3 : reachBytes = 140737488351232 := by decide +kernel
  omega
theorem laidVars_mem {P : Program} {w : World} : ∀ {l : List (String × DataW Unit)} {ps : List MemPlace}, DataW.LaidVars P w l ps → ∀ x ∈ l, ∃ g t cs fuel p, P.globalNamed x.1 = some g ∧ (P.globals[g]?).map (·.type) = some t ∧ w.var? P x.1 = some cs ∧ DataW.trod (fun _ => ()) P w 0 (fun _ => true) false fuel t cs.toList = some (x.2, p)
  | [], _, _, x, hx => (List.not_mem_nil hx).elim
  | (n, d) :: r, ps, ⟨g, t, cs, fuel, p, q, h1, h2, h3, h4, h5, _⟩, x, hx => by
    rcases List.mem_cons.1 hx with rfl | hx
    · exact ⟨g, t, cs, fuel, p, h1, h2, h3, h4⟩
    · exact laidVars_mem h5 x hx
theorem tab_of_laid {P : Program} {W : World} {name : String} {k : IntKind} {zs : List Int} {l : List (String × DataW Unit)} {g : Nat} {t e : TypeId} {n : Nat}
    (hg : P.globalNamed name = some g) (hty : (P.globals[g]?).map (·.type) = some t) (ht : P.underlying t = some (.array n e)) (he : P.underlying e = some (.int k)) (hce : P.cellsOf e = 1) (hct : P.cellsOf t = n)
    (hm : (name, Lib.tabData k zs) ∈ l) (h : laidMet P l W) : Lib.TabIs P W name k zs := by
  obtain ⟨ps, hv, _⟩ := h
  obtain ⟨g', t', cs, fuel, p, hg', ht', hvar, hd⟩ := laidVars_mem hv _ hm
  obtain rfl := Option.some.inj (hg.symm.trans hg')
  obtain rfl := Option.some.inj (hty.symm.trans ht')
  unfold Lib.TabIs
  rw [hvar, ← Lib.cells_of_tab ht he hce hct hd]
end Go.Proofs.YteokppcgmfbnkaaDoor.Sh
namespace Go.Proofs.YteokppcgmfbnkaaDoor
set_option linter.unusedVariables false
set_option linter.unusedSimpArgs false
open Go.Proofs.YteokppcgmfbnkaaDoor.Sh
def TL : List (Nat × TI) := [(2, ⟨1, 8, .int .i64, [.int .i64 0], false⟩),
  (3, ⟨1, 8, .int .i64, [.int .i64 0], false⟩),
  (4, ⟨1, 1, .bool, [.bool false], false⟩),
  (5, ⟨1, 1, .int .u8, [.int .u8 0], false⟩),
  (6, ⟨1, 1, .int .u8, [.int .u8 0], false⟩),
  (7, ⟨4, 24, .struct [(0, 2), (1, 3), (2, 4), (3, 6)], [.int .i64 0, .int .i64 0, .bool false, .int .u8 0], true⟩),
  (8, ⟨4, 24, .struct [(0, 2), (1, 3), (2, 4), (3, 6)], [.int .i64 0, .int .i64 0, .bool false, .int .u8 0], true⟩),
  (9, ⟨1, 16, .str, [.string ⟨#[]⟩], false⟩),
  (10, ⟨1, 16, .str, [.string ⟨#[]⟩], false⟩),
  (11, ⟨1, 16, .str, [.string ⟨#[]⟩], false⟩),
  (12, ⟨1, 8, .int .u64, [.int .u64 0], false⟩),
  (13, ⟨2, 24, .struct [(0, 9), (1, 12)], [.string ⟨#[]⟩, .int .u64 0], false⟩),
  (14, ⟨2, 24, .struct [(0, 9), (1, 12)], [.string ⟨#[]⟩, .int .u64 0], false⟩),
  (15, ⟨1, 8, .ptr, [.pointer none], false⟩),
  (16, ⟨1, 8, .ptr, [.pointer none], false⟩),
  (17, ⟨1, 8, .ptr, [.pointer none], false⟩),
  (18, ⟨1, 8, .struct [(0, 17)], [.pointer none], false⟩),
  (19, ⟨1, 8, .struct [(0, 17)], [.pointer none], false⟩),
  (21, ⟨1, 4, .int .i32, [.int .i32 0], false⟩),
  (22, ⟨1, 24, .slice 3, [.slice none 0 0], false⟩),
  (25, ⟨1, 8, .ptr, [.pointer none], false⟩),
  (30, ⟨1, 8, .int .i64, [.int .i64 0], false⟩),
  (38, ⟨1, 24, .slice 41, [.slice none 0 0], false⟩),
  (39, ⟨1, 24, .slice 5, [.slice none 0 0], false⟩),
  (40, ⟨2, 32, .struct [(0, 9), (1, 9)], [.string ⟨#[]⟩, .string ⟨#[]⟩], true⟩),
  (41, ⟨2, 32, .struct [(0, 9), (1, 9)], [.string ⟨#[]⟩, .string ⟨#[]⟩], true⟩),
  (42, ⟨2, 40, .struct [(0, 9), (1, 38)], [.string ⟨#[]⟩, .slice none 0 0], false⟩),
  (43, ⟨2, 40, .struct [(0, 9), (1, 38)], [.string ⟨#[]⟩, .slice none 0 0], false⟩),
  (44, ⟨1, 24, .slice 43, [.slice none 0 0], false⟩),
  (50, ⟨1, 24, .slice 9, [.slice none 0 0], false⟩),
  (56, ⟨2, 32, .struct [(0, 22), (1, 3)], [.slice none 0 0, .int .i64 0], false⟩),
  (57, ⟨2, 32, .struct [(0, 22), (1, 3)], [.slice none 0 0, .int .i64 0], false⟩),
  (58, ⟨1, 24, .slice 61, [.slice none 0 0], false⟩),
  (60, ⟨2, 16, .struct [(0, 3), (1, 3)], [.int .i64 0, .int .i64 0], true⟩),
  (61, ⟨2, 16, .struct [(0, 3), (1, 3)], [.int .i64 0, .int .i64 0], true⟩),
  (68, ⟨1, 8, .map 9 4, [.map none], false⟩),
  (91, ⟨1, 8, .ptr, [.pointer none], false⟩),
  (92, ⟨2, 32, .struct [(0, 91), (1, 39)], [.pointer none, .slice none 0 0], false⟩),
  (93, ⟨2, 32, .struct [(0, 91), (1, 39)], [.pointer none, .slice none 0 0], false⟩),
  (114, ⟨1, 8, .int .u64, [.int .u64 0], false⟩),
  (116, ⟨1, 8, .ptr, [.pointer none], false⟩),
  (122, ⟨1, 8, .int .i64, [.int .i64 0], false⟩),
  (129, ⟨1, 4, .int .u32, [.int .u32 0], false⟩),
  (131, ⟨1, 8, .int .u64, [.int .u64 0], false⟩),
  (132, ⟨24, 24, .array 24 5, [.int .u8 0, .int .u8 0, .int .u8 0, .int .u8 0, .int .u8 0, .int .u8 0, .int .u8 0, .int .u8 0, .int .u8 0, .int .u8 0, .int .u8 0, .int .u8 0, .int .u8 0, .int .u8 0, .int .u8 0, .int .u8 0, .int .u8 0, .int .u8 0, .int .u8 0, .int .u8 0, .int .u8 0, .int .u8 0, .int .u8 0, .int .u8 0], true⟩),
  (139, ⟨1, 8, .int .u64, [.int .u64 0], false⟩),
  (143, ⟨1, 8, .ptr, [.pointer none], false⟩),
  (146, ⟨20, 160, .array 20 131, [.int .u64 0, .int .u64 0, .int .u64 0, .int .u64 0, .int .u64 0, .int .u64 0, .int .u64 0, .int .u64 0, .int .u64 0, .int .u64 0, .int .u64 0, .int .u64 0, .int .u64 0, .int .u64 0, .int .u64 0, .int .u64 0, .int .u64 0, .int .u64 0, .int .u64 0, .int .u64 0], true⟩),
  (147, ⟨65, 65, .array 65 5, [.int .u8 0, .int .u8 0, .int .u8 0, .int .u8 0, .int .u8 0, .int .u8 0, .int .u8 0, .int .u8 0, .int .u8 0, .int .u8 0, .int .u8 0, .int .u8 0, .int .u8 0, .int .u8 0, .int .u8 0, .int .u8 0, .int .u8 0, .int .u8 0, .int .u8 0, .int .u8 0, .int .u8 0, .int .u8 0, .int .u8 0, .int .u8 0, .int .u8 0, .int .u8 0, .int .u8 0, .int .u8 0, .int .u8 0, .int .u8 0, .int .u8 0, .int .u8 0, .int .u8 0, .int .u8 0, .int .u8 0, .int .u8 0, .int .u8 0, .int .u8 0, .int .u8 0, .int .u8 0, .int .u8 0, .int .u8 0, .int .u8 0, .int .u8 0, .int .u8 0, .int .u8 0, .int .u8 0, .int .u8 0, .int .u8 0, .int .u8 0, .int .u8 0, .int .u8 0, .int .u8 0, .int .u8 0, .int .u8 0, .int .u8 0, .int .u8 0, .int .u8 0, .int .u8 0, .int .u8 0, .int .u8 0, .int .u8 0, .int .u8 0, .int .u8 0, .int .u8 0], true⟩),
  (150, ⟨256, 256, .array 256 5, [.int .u8 0, .int .u8 0, .int .u8 0, .int .u8 0, .int .u8 0, .int .u8 0, .int .u8 0, .int .u8 0, .int .u8 0, .int .u8 0, .int .u8 0, .int .u8 0, .int .u8 0, .int .u8 0, .int .u8 0, .int .u8 0, .int .u8 0, .int .u8 0, .int .u8 0, .int .u8 0, .int .u8 0, .int .u8 0, .int .u8 0, .int .u8 0, .int .u8 0, .int .u8 0, .int .u8 0, .int .u8 0, .int .u8 0, .int .u8 0, .int .u8 0, .int .u8 0, .int .u8 0, .int .u8 0, .int .u8 0, .int .u8 0, .int .u8 0, .int .u8 0, .int .u8 0, .int .u8 0, .int .u8 0, .int .u8 0, .int .u8 0, .int .u8 0, .int .u8 0, .int .u8 0, .int .u8 0, .int .u8 0, .int .u8 0, .int .u8 0, .int .u8 0, .int .u8 0, .int .u8 0, .int .u8 0, .int .u8 0, .int .u8 0, .int .u8 0, .int .u8 0, .int .u8 0, .int .u8 0, .int .u8 0, .int .u8 0, .int .u8 0, .int .u8 0, .int .u8 0, .int .u8 0, .int .u8 0, .int .u8 0, .int .u8 0, .int .u8 0, .int .u8 0, .int .u8 0, .int .u8 0, .int .u8 0, .int .u8 0, .int .u8 0, .int .u8 0, .int .u8 0, .int .u8 0, .int .u8 0, .int .u8 0, .int .u8 0, .int .u8 0, .int .u8 0, .int .u8 0, .int .u8 0, .int .u8 0, .int .u8 0, .int .u8 0, .int .u8 0, .int .u8 0, .int .u8 0, .int .u8 0, .int .u8 0, .int .u8 0, .int .u8 0, .int .u8 0, .int .u8 0, .int .u8 0, .int .u8 0, .int .u8 0, .int .u8 0, .int .u8 0, .int .u8 0, .int .u8 0, .int .u8 0, .int .u8 0, .int .u8 0, .int .u8 0, .int .u8 0, .int .u8 0, .int .u8 0, .int .u8 0, .int .u8 0, .int .u8 0, .int .u8 0, .int .u8 0, .int .u8 0, .int .u8 0, .int .u8 0, .int .u8 0, .int .u8 0, .int .u8 0, .int .u8 0, .int .u8 0, .int .u8 0, .int .u8 0, .int .u8 0, .int .u8 0, .int .u8 0, .int .u8 0, .int .u8 0, .int .u8 0, .int .u8 0, .int .u8 0, .int .u8 0, .int .u8 0, .int .u8 0, .int .u8 0, .int .u8 0, .int .u8 0, .int .u8 0, .int .u8 0, .int .u8 0, .int .u8 0, .int .u8 0, .int .u8 0, .int .u8 0, .int .u8 0, .int .u8 0, .int .u8 0, .int .u8 0, .int .u8 0, .int .u8 0, .int .u8 0, .int .u8 0, .int .u8 0, .int .u8 0, .int .u8 0, .int .u8 0, .int .u8 0, .int .u8 0, .int .u8 0, .int .u8 0, .int .u8 0, .int .u8 0, .int .u8 0, .int .u8 0, .int .u8 0, .int .u8 0, .int .u8 0, .int .u8 0, .int .u8 0, .int .u8 0, .int .u8 0, .int .u8 0, .int .u8 0, .int .u8 0, .int .u8 0, .int .u8 0, .int .u8 0, .int .u8 0, .int .u8 0, .int .u8 0, .int .u8 0, .int .u8 0, .int .u8 0, .int .u8 0, .int .u8 0, .int .u8 0, .int .u8 0, .int .u8 0, .int .u8 0, .int .u8 0, .int .u8 0, .int .u8 0, .int .u8 0, .int .u8 0, .int .u8 0, .int .u8 0, .int .u8 0, .int .u8 0, .int .u8 0, .int .u8 0, .int .u8 0, .int .u8 0, .int .u8 0, .int .u8 0, .int .u8 0, .int .u8 0, .int .u8 0, .int .u8 0, .int .u8 0, .int .u8 0, .int .u8 0, .int .u8 0, .int .u8 0, .int .u8 0, .int .u8 0, .int .u8 0, .int .u8 0, .int .u8 0, .int .u8 0, .int .u8 0, .int .u8 0, .int .u8 0, .int .u8 0, .int .u8 0, .int .u8 0, .int .u8 0, .int .u8 0, .int .u8 0, .int .u8 0, .int .u8 0, .int .u8 0, .int .u8 0, .int .u8 0, .int .u8 0, .int .u8 0, .int .u8 0, .int .u8 0, .int .u8 0, .int .u8 0, .int .u8 0, .int .u8 0, .int .u8 0, .int .u8 0, .int .u8 0, .int .u8 0, .int .u8 0, .int .u8 0, .int .u8 0, .int .u8 0, .int .u8 0, .int .u8 0, .int .u8 0], true⟩),
  (151, ⟨2, 2, .struct [(0, 5), (1, 5)], [.int .u8 0, .int .u8 0], true⟩),
  (152, ⟨2, 2, .struct [(0, 5), (1, 5)], [.int .u8 0, .int .u8 0], true⟩),
  (153, ⟨32, 32, .array 16 152, [.int .u8 0, .int .u8 0, .int .u8 0, .int .u8 0, .int .u8 0, .int .u8 0, .int .u8 0, .int .u8 0, .int .u8 0, .int .u8 0, .int .u8 0, .int .u8 0, .int .u8 0, .int .u8 0, .int .u8 0, .int .u8 0, .int .u8 0, .int .u8 0, .int .u8 0, .int .u8 0, .int .u8 0, .int .u8 0, .int .u8 0, .int .u8 0, .int .u8 0, .int .u8 0, .int .u8 0, .int .u8 0, .int .u8 0, .int .u8 0, .int .u8 0, .int .u8 0], true⟩),
  (154, ⟨1, 8, .ptr, [.pointer none], false⟩),
  (157, ⟨32, 32, .array 32 5, [.int .u8 0, .int .u8 0, .int .u8 0, .int .u8 0, .int .u8 0, .int .u8 0, .int .u8 0, .int .u8 0, .int .u8 0, .int .u8 0, .int .u8 0, .int .u8 0, .int .u8 0, .int .u8 0, .int .u8 0, .int .u8 0, .int .u8 0, .int .u8 0, .int .u8 0, .int .u8 0, .int .u8 0, .int .u8 0, .int .u8 0, .int .u8 0, .int .u8 0, .int .u8 0, .int .u8 0, .int .u8 0, .int .u8 0, .int .u8 0, .int .u8 0, .int .u8 0], true⟩),
  (158, ⟨64, 64, .array 64 5, [.int .u8 0, .int .u8 0, .int .u8 0, .int .u8 0, .int .u8 0, .int .u8 0, .int .u8 0, .int .u8 0, .int .u8 0, .int .u8 0, .int .u8 0, .int .u8 0, .int .u8 0, .int .u8 0, .int .u8 0, .int .u8 0, .int .u8 0, .int .u8 0, .int .u8 0, .int .u8 0, .int .u8 0, .int .u8 0, .int .u8 0, .int .u8 0, .int .u8 0, .int .u8 0, .int .u8 0, .int .u8 0, .int .u8 0, .int .u8 0, .int .u8 0, .int .u8 0, .int .u8 0, .int .u8 0, .int .u8 0, .int .u8 0, .int .u8 0, .int .u8 0, .int .u8 0, .int .u8 0, .int .u8 0, .int .u8 0, .int .u8 0, .int .u8 0, .int .u8 0, .int .u8 0, .int .u8 0, .int .u8 0, .int .u8 0, .int .u8 0, .int .u8 0, .int .u8 0, .int .u8 0, .int .u8 0, .int .u8 0, .int .u8 0, .int .u8 0, .int .u8 0, .int .u8 0, .int .u8 0, .int .u8 0, .int .u8 0, .int .u8 0, .int .u8 0], true⟩),
  (159, ⟨4, 40, .struct [(0, 17), (1, 17), (2, 17), (3, 9)], [.pointer none, .pointer none, .pointer none, .string ⟨#[]⟩], false⟩),
  (160, ⟨4, 40, .struct [(0, 17), (1, 17), (2, 17), (3, 9)], [.pointer none, .pointer none, .pointer none, .string ⟨#[]⟩], false⟩),
  (165, ⟨1, 1, .int .u8, [.int .u8 0], false⟩),
  (166, ⟨1, 1, .int .u8, [.int .u8 0], false⟩),
  (167, ⟨1, 8, .oth, [.nilFunc], false⟩),
  (168, ⟨1, 4, .int .i32, [.int .i32 0], false⟩),
  (169, ⟨1, 4, .int .i32, [.int .i32 0], false⟩),
  (170, ⟨11, 48, .struct [(0, 12), (1, 12), (2, 129), (3, 165), (4, 5), (5, 5), (6, 166), (7, 167), (8, 116), (9, 168), (10, 169)], [.int .u64 0, .int .u64 0, .int .u32 0, .int .u8 0, .int .u8 0, .int .u8 0, .int .u8 0, .nilFunc, .pointer none, .int .i32 0, .int .i32 0], false⟩),
  (171, ⟨11, 48, .struct [(0, 12), (1, 12), (2, 129), (3, 165), (4, 5), (5, 5), (6, 166), (7, 167), (8, 116), (9, 168), (10, 169)], [.int .u64 0, .int .u64 0, .int .u32 0, .int .u8 0, .int .u8 0, .int .u8 0, .int .u8 0, .nilFunc, .pointer none, .int .i32 0, .int .i32 0], false⟩)]
def TT : Tab := ⟨TL, false⟩
theorem TL_ok : chkT Tryd.prog TL = true := by kernel_rfl
theorem TT_ok : TOk Tryd.prog TT := chkT_ok TL_ok
theorem TT_cl : TClosed TT = true := by kernel_rfl
theorem mixed : Tryd.prog.follows .mixedOrders = true := by kernel_rfl
theorem l2 : slot 2 TT.ts = some ⟨1, 8, .int .i64, [.int .i64 0], false⟩ := rfl
theorem l3 : slot 3 TT.ts = some ⟨1, 8, .int .i64, [.int .i64 0], false⟩ := rfl
theorem l4 : slot 4 TT.ts = some ⟨1, 1, .bool, [.bool false], false⟩ := rfl
theorem l5 : slot 5 TT.ts = some ⟨1, 1, .int .u8, [.int .u8 0], false⟩ := rfl
theorem l6 : slot 6 TT.ts = some ⟨1, 1, .int .u8, [.int .u8 0], false⟩ := rfl
theorem l7 : slot 7 TT.ts = some ⟨4, 24, .struct [(0, 2), (1, 3), (2, 4), (3, 6)], [.int .i64 0, .int .i64 0, .bool false, .int .u8 0], true⟩ := rfl
theorem l8 : slot 8 TT.ts = some ⟨4, 24, .struct [(0, 2), (1, 3), (2, 4), (3, 6)], [.int .i64 0, .int .i64 0, .bool false, .int .u8 0], true⟩ := rfl
theorem l9 : slot 9 TT.ts = some ⟨1, 16, .str, [.string ⟨#[]⟩], false⟩ := rfl
theorem l10 : slot 10 TT.ts = some ⟨1, 16, .str, [.string ⟨#[]⟩], false⟩ := rfl
theorem l11 : slot 11 TT.ts = some ⟨1, 16, .str, [.string ⟨#[]⟩], false⟩ := rfl
theorem l12 : slot 12 TT.ts = some ⟨1, 8, .int .u64, [.int .u64 0], false⟩ := rfl
theorem l13 : slot 13 TT.ts = some ⟨2, 24, .struct [(0, 9), (1, 12)], [.string ⟨#[]⟩, .int .u64 0], false⟩ := rfl
theorem l14 : slot 14 TT.ts = some ⟨2, 24, .struct [(0, 9), (1, 12)], [.string ⟨#[]⟩, .int .u64 0], false⟩ := rfl
theorem l15 : slot 15 TT.ts = some ⟨1, 8, .ptr, [.pointer none], false⟩ := rfl
theorem l16 : slot 16 TT.ts = some ⟨1, 8, .ptr, [.pointer none], false⟩ := rfl
theorem l17 : slot 17 TT.ts = some ⟨1, 8, .ptr, [.pointer none], false⟩ := rfl
theorem l18 : slot 18 TT.ts = some ⟨1, 8, .struct [(0, 17)], [.pointer none], false⟩ := rfl
theorem l19 : slot 19 TT.ts = some ⟨1, 8, .struct [(0, 17)], [.pointer none], false⟩ := rfl
theorem l21 : slot 21 TT.ts = some ⟨1, 4, .int .i32, [.int .i32 0], false⟩ := rfl
theorem l22 : slot 22 TT.ts = some ⟨1, 24, .slice 3, [.slice none 0 0], false⟩ := rfl
theorem l25 : slot 25 TT.ts = some ⟨1, 8, .ptr, [.pointer none], false⟩ := rfl
theorem l30 : slot 30 TT.ts = some ⟨1, 8, .int .i64, [.int .i64 0], false⟩ := rfl
theorem l38 : slot 38 TT.ts = some ⟨1, 24, .slice 41, [.slice none 0 0], false⟩ := rfl
theorem l39 : slot 39 TT.ts = some ⟨1, 24, .slice 5, [.slice none 0 0], false⟩ := rfl
theorem l40 : slot 40 TT.ts = some ⟨2, 32, .struct [(0, 9), (1, 9)], [.string ⟨#[]⟩, .string ⟨#[]⟩], true⟩ := rfl
theorem l41 : slot 41 TT.ts = some ⟨2, 32, .struct [(0, 9), (1, 9)], [.string ⟨#[]⟩, .string ⟨#[]⟩], true⟩ := rfl
theorem l42 : slot 42 TT.ts = some ⟨2, 40, .struct [(0, 9), (1, 38)], [.string ⟨#[]⟩, .slice none 0 0], false⟩ := rfl
theorem l43 : slot 43 TT.ts = some ⟨2, 40, .struct [(0, 9), (1, 38)], [.string ⟨#[]⟩, .slice none 0 0], false⟩ := rfl
theorem l44 : slot 44 TT.ts = some ⟨1, 24, .slice 43, [.slice none 0 0], false⟩ := rfl
theorem l50 : slot 50 TT.ts = some ⟨1, 24, .slice 9, [.slice none 0 0], false⟩ := rfl
theorem l56 : slot 56 TT.ts = some ⟨2, 32, .struct [(0, 22), (1, 3)], [.slice none 0 0, .int .i64 0], false⟩ := rfl
theorem l57 : slot 57 TT.ts = some ⟨2, 32, .struct [(0, 22), (1, 3)], [.slice none 0 0, .int .i64 0], false⟩ := rfl
theorem l58 : slot 58 TT.ts = some ⟨1, 24, .slice 61, [.slice none 0 0], false⟩ := rfl
theorem l60 : slot 60 TT.ts = some ⟨2, 16, .struct [(0, 3), (1, 3)], [.int .i64 0, .int .i64 0], true⟩ := rfl
theorem l61 : slot 61 TT.ts = some ⟨2, 16, .struct [(0, 3), (1, 3)], [.int .i64 0, .int .i64 0], true⟩ := rfl
theorem l68 : slot 68 TT.ts = some ⟨1, 8, .map 9 4, [.map none], false⟩ := rfl
theorem l91 : slot 91 TT.ts = some ⟨1, 8, .ptr, [.pointer none], false⟩ := rfl
theorem l92 : slot 92 TT.ts = some ⟨2, 32, .struct [(0, 91), (1, 39)], [.pointer none, .slice none 0 0], false⟩ := rfl
theorem l93 : slot 93 TT.ts = some ⟨2, 32, .struct [(0, 91), (1, 39)], [.pointer none, .slice none 0 0], false⟩ := rfl
theorem l114 : slot 114 TT.ts = some ⟨1, 8, .int .u64, [.int .u64 0], false⟩ := rfl
theorem l116 : slot 116 TT.ts = some ⟨1, 8, .ptr, [.pointer none], false⟩ := rfl
theorem l122 : slot 122 TT.ts = some ⟨1, 8, .int .i64, [.int .i64 0], false⟩ := rfl
theorem l129 : slot 129 TT.ts = some ⟨1, 4, .int .u32, [.int .u32 0], false⟩ := rfl
theorem l131 : slot 131 TT.ts = some ⟨1, 8, .int .u64, [.int .u64 0], false⟩ := rfl
theorem l132 : slot 132 TT.ts = some ⟨24, 24, .array 24 5, [.int .u8 0, .int .u8 0, .int .u8 0, .int .u8 0, .int .u8 0, .int .u8 0, .int .u8 0, .int .u8 0, .int .u8 0, .int .u8 0, .int .u8 0, .int .u8 0, .int .u8 0, .int .u8 0, .int .u8 0, .int .u8 0, .int .u8 0, .int .u8 0, .int .u8 0, .int .u8 0, .int .u8 0, .int .u8 0, .int .u8 0, .int .u8 0], true⟩ := rfl
theorem l139 : slot 139 TT.ts = some ⟨1, 8, .int .u64, [.int .u64 0], false⟩ := rfl
theorem l143 : slot 143 TT.ts = some ⟨1, 8, .ptr, [.pointer none], false⟩ := rfl
theorem l146 : slot 146 TT.ts = some ⟨20, 160, .array 20 131, [.int .u64 0, .int .u64 0, .int .u64 0, .int .u64 0, .int .u64 0, .int .u64 0, .int .u64 0, .int .u64 0, .int .u64 0, .int .u64 0, .int .u64 0, .int .u64 0, .int .u64 0, .int .u64 0, .int .u64 0, .int .u64 0, .int .u64 0, .int .u64 0, .int .u64 0, .int .u64 0], true⟩ := rfl
theorem l147 : slot 147 TT.ts = some ⟨65, 65, .array 65 5, [.int .u8 0, .int .u8 0, .int .u8 0, .int .u8 0, .int .u8 0, .int .u8 0, .int .u8 0, .int .u8 0, .int .u8 0, .int .u8 0, .int .u8 0, .int .u8 0, .int .u8 0, .int .u8 0, .int .u8 0, .int .u8 0, .int .u8 0, .int .u8 0, .int .u8 0, .int .u8 0, .int .u8 0, .int .u8 0, .int .u8 0, .int .u8 0, .int .u8 0, .int .u8 0, .int .u8 0, .int .u8 0, .int .u8 0, .int .u8 0, .int .u8 0, .int .u8 0, .int .u8 0, .int .u8 0, .int .u8 0, .int .u8 0, .int .u8 0, .int .u8 0, .int .u8 0, .int .u8 0, .int .u8 0, .int .u8 0, .int .u8 0, .int .u8 0, .int .u8 0, .int .u8 0, .int .u8 0, .int .u8 0, .int .u8 0, .int .u8 0, .int .u8 0, .int .u8 0, .int .u8 0, .int .u8 0, .int .u8 0, .int .u8 0, .int .u8 0, .int .u8 0, .int .u8 0, .int .u8 0, .int .u8 0, .int .u8 0, .int .u8 0, .int .u8 0, .int .u8 0], true⟩ := rfl
theorem l150 : slot 150 TT.ts = some ⟨256, 256, .array 256 5, [.int .u8 0, .int .u8 0, .int .u8 0, .int .u8 0, .int .u8 0, .int .u8 0, .int .u8 0, .int .u8 0, .int .u8 0, .int .u8 0, .int .u8 0, .int .u8 0, .int .u8 0, .int .u8 0, .int .u8 0, .int .u8 0, .int .u8 0, .int .u8 0, .int .u8 0, .int .u8 0, .int .u8 0, .int .u8 0, .int .u8 0, .int .u8 0, .int .u8 0, .int .u8 0, .int .u8 0, .int .u8 0, .int .u8 0, .int .u8 0, .int .u8 0, .int .u8 0, .int .u8 0, .int .u8 0, .int .u8 0, .int .u8 0, .int .u8 0, .int .u8 0, .int .u8 0, .int .u8 0, .int .u8 0, .int .u8 0, .int .u8 0, .int .u8 0, .int .u8 0, .int .u8 0, .int .u8 0, .int .u8 0, .int .u8 0, .int .u8 0, .int .u8 0, .int .u8 0, .int .u8 0, .int .u8 0, .int .u8 0, .int .u8 0, .int .u8 0, .int .u8 0, .int .u8 0, .int .u8 0, .int .u8 0, .int .u8 0, .int .u8 0, .int .u8 0, .int .u8 0, .int .u8 0, .int .u8 0, .int .u8 0, .int .u8 0, .int .u8 0, .int .u8 0, .int .u8 0, .int .u8 0, .int .u8 0, .int .u8 0, .int .u8 0, .int .u8 0, .int .u8 0, .int .u8 0, .int .u8 0, .int .u8 0, .int .u8 0, .int .u8 0, .int .u8 0, .int .u8 0, .int .u8 0, .int .u8 0, .int .u8 0, .int .u8 0, .int .u8 0, .int .u8 0, .int .u8 0, .int .u8 0, .int .u8 0, .int .u8 0, .int .u8 0, .int .u8 0, .int .u8 0, .int .u8 0, .int .u8 0, .int .u8 0, .int .u8 0, .int .u8 0, .int .u8 0, .int .u8 0, .int .u8 0, .int .u8 0, .int .u8 0, .int .u8 0, .int .u8 0, .int .u8 0, .int .u8 0, .int .u8 0, .int .u8 0, .int .u8 0, .int .u8 0, .int .u8 0, .int .u8 0, .int .u8 0, .int .u8 0, .int .u8 0, .int .u8 0, .int .u8 0, .int .u8 0, .int .u8 0, .int .u8 0, .int .u8 0, .int .u8 0, .int .u8 0, .int .u8 0, .int .u8 0, .int .u8 0, .int .u8 0, .int .u8 0, .int .u8 0, .int .u8 0, .int .u8 0, .int .u8 0, .int .u8 0, .int .u8 0, .int .u8 0, .int .u8 0, .int .u8 0, .int .u8 0, .int .u8 0, .int .u8 0, .int .u8 0, .int .u8 0, .int .u8 0, .int .u8 0, .int .u8 0, .int .u8 0, .int .u8 0, .int .u8 0, .int .u8 0, .int .u8 0, .int .u8 0, .int .u8 0, .int .u8 0, .int .u8 0, .int .u8 0, .int .u8 0, .int .u8 0, .int .u8 0, .int .u8 0, .int .u8 0, .int .u8 0, .int .u8 0, .int .u8 0, .int .u8 0, .int .u8 0, .int .u8 0, .int .u8 0, .int .u8 0, .int .u8 0, .int .u8 0, .int .u8 0, .int .u8 0, .int .u8 0, .int .u8 0, .int .u8 0, .int .u8 0, .int .u8 0, .int .u8 0, .int .u8 0, .int .u8 0, .int .u8 0, .int .u8 0, .int .u8 0, .int .u8 0, .int .u8 0, .int .u8 0, .int .u8 0, .int .u8 0, .int .u8 0, .int .u8 0, .int .u8 0, .int .u8 0, .int .u8 0, .int .u8 0, .int .u8 0, .int .u8 0, .int .u8 0, .int .u8 0, .int .u8 0, .int .u8 0, .int .u8 0, .int .u8 0, .int .u8 0, .int .u8 0, .int .u8 0, .int .u8 0, .int .u8 0, .int .u8 0, .int .u8 0, .int .u8 0, .int .u8 0, .int .u8 0, .int .u8 0, .int .u8 0, .int .u8 0, .int .u8 0, .int .u8 0, .int .u8 0, .int .u8 0, .int .u8 0, .int .u8 0, .int .u8 0, .int .u8 0, .int .u8 0, .int .u8 0, .int .u8 0, .int .u8 0, .int .u8 0, .int .u8 0, .int .u8 0, .int .u8 0, .int .u8 0, .int .u8 0, .int .u8 0, .int .u8 0, .int .u8 0, .int .u8 0, .int .u8 0, .int .u8 0, .int .u8 0, .int .u8 0, .int .u8 0, .int .u8 0, .int .u8 0, .int .u8 0, .int .u8 0, .int .u8 0, .int .u8 0, .int .u8 0, .int .u8 0], true⟩ := rfl
theorem l151 : slot 151 TT.ts = some ⟨2, 2, .struct [(0, 5), (1, 5)], [.int .u8 0, .int .u8 0], true⟩ := rfl
theorem l152 : slot 152 TT.ts = some ⟨2, 2, .struct [(0, 5), (1, 5)], [.int .u8 0, .int .u8 0], true⟩ := rfl
theorem l153 : slot 153 TT.ts = some ⟨32, 32, .array 16 152, [.int .u8 0, .int .u8 0, .int .u8 0, .int .u8 0, .int .u8 0, .int .u8 0, .int .u8 0, .int .u8 0, .int .u8 0, .int .u8 0, .int .u8 0, .int .u8 0, .int .u8 0, .int .u8 0, .int .u8 0, .int .u8 0, .int .u8 0, .int .u8 0, .int .u8 0, .int .u8 0, .int .u8 0, .int .u8 0, .int .u8 0, .int .u8 0, .int .u8 0, .int .u8 0, .int .u8 0, .int .u8 0, .int .u8 0, .int .u8 0, .int .u8 0, .int .u8 0], true⟩ := rfl
theorem l154 : slot 154 TT.ts = some ⟨1, 8, .ptr, [.pointer none], false⟩ := rfl
theorem l157 : slot 157 TT.ts = some ⟨32, 32, .array 32 5, [.int .u8 0, .int .u8 0, .int .u8 0, .int .u8 0, .int .u8 0, .int .u8 0, .int .u8 0, .int .u8 0, .int .u8 0, .int .u8 0, .int .u8 0, .int .u8 0, .int .u8 0, .int .u8 0, .int .u8 0, .int .u8 0, .int .u8 0, .int .u8 0, .int .u8 0, .int .u8 0, .int .u8 0, .int .u8 0, .int .u8 0, .int .u8 0, .int .u8 0, .int .u8 0, .int .u8 0, .int .u8 0, .int .u8 0, .int .u8 0, .int .u8 0, .int .u8 0], true⟩ := rfl
theorem l158 : slot 158 TT.ts = some ⟨64, 64, .array 64 5, [.int .u8 0, .int .u8 0, .int .u8 0, .int .u8 0, .int .u8 0, .int .u8 0, .int .u8 0, .int .u8 0, .int .u8 0, .int .u8 0, .int .u8 0, .int .u8 0, .int .u8 0, .int .u8 0, .int .u8 0, .int .u8 0, .int .u8 0, .int .u8 0, .int .u8 0, .int .u8 0, .int .u8 0, .int .u8 0, .int .u8 0, .int .u8 0, .int .u8 0, .int .u8 0, .int .u8 0, .int .u8 0, .int .u8 0, .int .u8 0, .int .u8 0, .int .u8 0, .int .u8 0, .int .u8 0, .int .u8 0, .int .u8 0, .int .u8 0, .int .u8 0, .int .u8 0, .int .u8 0, .int .u8 0, .int .u8 0, .int .u8 0, .int .u8 0, .int .u8 0, .int .u8 0, .int .u8 0, .int .u8 0, .int .u8 0, .int .u8 0, .int .u8 0, .int .u8 0, .int .u8 0, .int .u8 0, .int .u8 0, .int .u8 0, .int .u8 0, .int .u8 0, .int .u8 0, .int .u8 0, .int .u8 0, .int .u8 0, .int .u8 0, .int .u8 0], true⟩ := rfl
theorem l159 : slot 159 TT.ts = some ⟨4, 40, .struct [(0, 17), (1, 17), (2, 17), (3, 9)], [.pointer none, .pointer none, .pointer none, .string ⟨#[]⟩], false⟩ := rfl
theorem l160 : slot 160 TT.ts = some ⟨4, 40, .struct [(0, 17), (1, 17), (2, 17), (3, 9)], [.pointer none, .pointer none, .pointer none, .string ⟨#[]⟩], false⟩ := rfl
theorem l165 : slot 165 TT.ts = some ⟨1, 1, .int .u8, [.int .u8 0], false⟩ := rfl
theorem l166 : slot 166 TT.ts = some ⟨1, 1, .int .u8, [.int .u8 0], false⟩ := rfl
theorem l167 : slot 167 TT.ts = some ⟨1, 8, .oth, [.nilFunc], false⟩ := rfl
theorem l168 : slot 168 TT.ts = some ⟨1, 4, .int .i32, [.int .i32 0], false⟩ := rfl
theorem l169 : slot 169 TT.ts = some ⟨1, 4, .int .i32, [.int .i32 0], false⟩ := rfl
theorem l170 : slot 170 TT.ts = some ⟨11, 48, .struct [(0, 12), (1, 12), (2, 129), (3, 165), (4, 5), (5, 5), (6, 166), (7, 167), (8, 116), (9, 168), (10, 169)], [.int .u64 0, .int .u64 0, .int .u32 0, .int .u8 0, .int .u8 0, .int .u8 0, .int .u8 0, .nilFunc, .pointer none, .int .i32 0, .int .i32 0], false⟩ := rfl
theorem l171 : slot 171 TT.ts = some ⟨11, 48, .struct [(0, 12), (1, 12), (2, 129), (3, 165), (4, 5), (5, 5), (6, 166), (7, 167), (8, 116), (9, 168), (10, 169)], [.int .u64 0, .int .u64 0, .int .u32 0, .int .u8 0, .int .u8 0, .int .u8 0, .int .u8 0, .nilFunc, .pointer none, .int .i32 0, .int .i32 0], false⟩ := rfl
theorem TT_wr : TT.wr = false := rfl
attribute [go_sem] TT_wr l2 l3 l4 l5 l6 l7 l8 l9 l10 l11 l12 l13 l14 l15 l16 l17 l18 l19 l21 l22 l25 l30 l38 l39 l40 l41 l42 l43 l44 l50 l56 l57 l58 l60 l61 l68 l91 l92 l93 l114 l116 l122 l129 l131 l132 l139 l143 l146 l147 l150 l151 l152 l153 l154 l157 l158 l159 l160 l165 l166 l167 l168 l169 l170 l171
end Go.Proofs.YteokppcgmfbnkaaDoor
-- NEWGO
-- PRUNE: cl_lendx cl_use cl_lend
namespace Go.Proofs.YteokppcgmfbnkaaDoor
set_option linter.unusedVariables false
set_option linter.unusedSimpArgs false
open Go.Proofs.YteokppcgmfbnkaaDoor.Sh
set_option maxRecDepth 20000
abbrev r1 (n : Int) : SV := .one (.sc (.int .i32 n))
theorem drop_at (s : Str) (i : Nat) (b : UInt8) (h : s[i]? = some b) : s.drop i = b :: s.drop (i + 1) := by
  obtain ⟨hl, e⟩ := List.getElem?_eq_some_iff.1 h
  rw [List.drop_eq_getElem_cons hl, e]
end Go.Proofs.YteokppcgmfbnkaaDoor
-- NEWGO
-- PRUNE: cl_lendx cl_use cl_lend
namespace Go.Proofs.YteokppcgmfbnkaaDoor
set_option linter.unusedVariables false
set_option linter.unusedSimpArgs false
open Go.Proofs.YteokppcgmfbnkaaDoor.Sh
set_option maxRecDepth 20000
end Go.Proofs.YteokppcgmfbnkaaDoor
-- NEWGO
-- PRUNE: cl_lendx cl_use cl_lend
-- ISG: Strs_isG
namespace Go.Proofs.YteokppcgmfbnkaaDoor
set_option linter.unusedVariables false
set_option linter.unusedSimpArgs false
open Go.Proofs.YteokppcgmfbnkaaDoor.Sh
set_option maxRecDepth 20000
def cnt (c : UInt8) (s : Str) : Nat := s.count c
theorem u8n (c : UInt8) : ((c.toNat : Int).toNat).toUInt8 = c := by
  rw [Int.toNat_natCast]
  exact UInt8.ofNat_toNat
theorem countX (c : UInt8) (s : Str) : FnSpecD Tryd.prog 83 [s1 s, .one (.sc (.int .u8 c.toNat))] [] (i1 (cnt c s)) [] := by
  have := ext_pure (P := Tryd.prog) (f := 83) (fn := Tryd.f83) (x := Extern.BytealgCount.count) Tryd.func83 (by kernel_rfl) (by kernel_rfl) (by kernel_rfl) (by kernel_rfl)
    (vs := [.string (bs s), .int .u8 c.toNat]) (r := .int .i64 (cnt c s)) rfl (fun w => by
      have := Lib.run_countString (P := Tryd.prog) (bs s) c.toNat w
      rw [u8n, bs_data] at this
      exact this)
  exact this
theorem indexX (c : UInt8) (s : Str) : FnSpecD Tryd.prog 114 [s1 s, .one (.sc (.int .u8 c.toNat))] [] (i1 (Lib.indexByte s c)) [] := by
  have := ext_pure (P := Tryd.prog) (f := 114) (fn := Tryd.f114) (x := Extern.BytealgIndexByte.indexByte) Tryd.func114 (by kernel_rfl) (by kernel_rfl) (by kernel_rfl) (by kernel_rfl)
    (vs := [.string (bs s), .int .u8 c.toNat]) (r := .int .i64 (Lib.indexByte s c)) rfl (fun w => by
      have := Lib.run_indexByteString (P := Tryd.prog) (bs s) c.toNat w
      rw [u8n, bs_data] at this
      exact this)
  exact this
theorem one_at (c : UInt8) : (([c] : Str)[Int.toNat 0]?).getD 0 = c := rfl
theorem count_spec (c : UInt8) (s : Str) (hs : s.length ≤ 9223372036854775807) : FnSpec Tryd.prog 72 [s1 s, s1 [c]] [] (i1 (cnt c s)) [] := by
  refine fnspec_of mixed TT_ok TT_cl ⟨fun _ => false, fun _ => [], 0, fun _ => false, fun _ => false⟩ Tryd.func72 rfl (by kernel_rfl) rfl 34 rfl [.tmp 4] rfl ?_
  simp only [go_sem, Nat.reduceEqDiff, Nat.reduceAdd, Nat.reduceSub, Nat.reduceMul, Nat.reduceLT, Nat.reduceLeDiff, ↓reduceIte, reduceCtorEq, List.reduceReplicate, Int.cast_ofNat_Int, Int.reduceEq, Int.reduceLT, Int.reduceLE, one_at]
  repeat' (first
    | ((first | refine s1_id ?_ | refine swp_id ?_ | refine sops_id ?_ | refine s2_id ?_); simp only [one_at, go_sem, Nat.reduceEqDiff, Nat.reduceAdd, Nat.reduceSub, Nat.reduceMul, Nat.reduceLT, Nat.reduceLeDiff, ↓reduceIte, reduceCtorEq, List.reduceReplicate, Int.cast_ofNat_Int, Int.reduceEq, Int.reduceLT, Int.reduceLE, SV.ren, SV.renL, Cell.ren, Row.ren, renO, bk, back, outUpsFrom, Ints_ren]))
  refine cl_ext (rows := []) (res := i1 (cnt c s)) (outs := []) (countX c s) ⟨by decide, by simp, by simp [snaps, SV.refs, Cell.refs], Nat.le_refl _, .inl rfl⟩ rfl rfl ?_
  simp only [go_sem, Nat.reduceEqDiff, Nat.reduceAdd, Nat.reduceSub, Nat.reduceMul, Nat.reduceLT, Nat.reduceLeDiff, ↓reduceIte, reduceCtorEq, List.reduceReplicate, Int.cast_ofNat_Int, Int.reduceEq, Int.reduceLT, Int.reduceLE, SV.ren, Cell.ren]
  repeat' (first
    | (apply fs_nil <;> (try simp only [go_sem, resV, resS, SV.ren, SV.renL, Cell.ren, St.tmF, St.hpF, idx, renO, Row.ren, evS, slot, lookR, Nat.reduceEqDiff, ↓reduceIte, reduceCtorEq, if_true, if_false, Option.getD_some, Option.getD_none, List.map_cons, List.map_nil, sLoad, readAt, readNeed, Ints_ren, Ints_length, Ints_getD, and_true, true_and, List.getD_cons_zero, List.getD_cons_succ]) <;> (try rfl)))
theorem indexByte_spec (c : UInt8) (s : Str) (hs : s.length ≤ 9223372036854775807) : FnSpec Tryd.prog 100 [s1 s, .one (.sc (.int .u8 c.toNat))] [] (i1 (Lib.indexByte s c)) [] := by
  refine fnspec_of mixed TT_ok TT_cl ⟨fun _ => false, fun _ => [], 0, fun _ => false, fun _ => false⟩ Tryd.func100 rfl (by kernel_rfl) rfl 8 rfl [.tmp 4] rfl ?_
  simp only [go_sem, Nat.reduceEqDiff, Nat.reduceAdd, Nat.reduceSub, Nat.reduceMul, Nat.reduceLT, Nat.reduceLeDiff, ↓reduceIte, reduceCtorEq, List.reduceReplicate, Int.cast_ofNat_Int, Int.reduceEq, Int.reduceLT, Int.reduceLE]
  repeat' (first
    | ((first | refine s1_id ?_ | refine swp_id ?_ | refine sops_id ?_ | refine s2_id ?_); simp only [go_sem, Nat.reduceEqDiff, Nat.reduceAdd, Nat.reduceSub, Nat.reduceMul, Nat.reduceLT, Nat.reduceLeDiff, ↓reduceIte, reduceCtorEq, List.reduceReplicate, Int.cast_ofNat_Int, Int.reduceEq, Int.reduceLT, Int.reduceLE, SV.ren, SV.renL, Cell.ren, Row.ren, renO, bk, back, outUpsFrom, Ints_ren]))
  refine cl_ext (rows := []) (res := i1 (Lib.indexByte s c)) (outs := []) (indexX c s) ⟨by decide, by simp, by simp [snaps, SV.refs, Cell.refs], Nat.le_refl _, .inl rfl⟩ rfl rfl ?_
  simp only [go_sem, Nat.reduceEqDiff, Nat.reduceAdd, Nat.reduceSub, Nat.reduceMul, Nat.reduceLT, Nat.reduceLeDiff, ↓reduceIte, reduceCtorEq, List.reduceReplicate, Int.cast_ofNat_Int, Int.reduceEq, Int.reduceLT, Int.reduceLE, SV.ren, Cell.ren]
  repeat' (first
    | (apply fs_nil <;> (try simp only [go_sem, resV, resS, SV.ren, SV.renL, Cell.ren, St.tmF, St.hpF, idx, renO, Row.ren, evS, slot, lookR, Nat.reduceEqDiff, ↓reduceIte, reduceCtorEq, if_true, if_false, Option.getD_some, Option.getD_none, List.map_cons, List.map_nil, sLoad, readAt, readNeed, Ints_ren, Ints_length, Ints_getD, and_true, true_and, List.getD_cons_zero, List.getD_cons_succ]) <;> (try rfl)))
end Go.Proofs.YteokppcgmfbnkaaDoor
-- NEWGO
-- PRUNE: cl_lendx cl_use cl_lend
-- ISG: Strs_isG
-- FLAT: Strs_flat
namespace Go.Proofs.YteokppcgmfbnkaaDoor
set_option linter.unusedVariables false
set_option linter.unusedSimpArgs false
open Go.Proofs.YteokppcgmfbnkaaDoor.Sh
set_option maxRecDepth 20000
theorem indexC_spec (c : UInt8) (s : Str) (hs : s.length ≤ 9223372036854775807) : FnSpec Tryd.prog 80 [s1 s, s1 [c]] [] (i1 (Lib.indexByte s c)) [] := by
  have h1 := indexByte_spec c s hs
  by_cases h : [c] = s
  · have e : Lib.indexByte s c = 0 := by rw [← h]; simp [Lib.indexByte]
    rw [e]
    refine fnspec_of mixed TT_ok TT_cl ⟨fun _ => false, fun _ => [], 0, fun _ => false, fun _ => false⟩ Tryd.func80 rfl (by kernel_rfl) rfl 143 rfl [.tmp 4] rfl ?_
    simp only [go_sem, Nat.reduceEqDiff, Nat.reduceAdd, Nat.reduceSub, Nat.reduceMul, Nat.reduceLT, Nat.reduceLeDiff, ↓reduceIte, reduceCtorEq, List.reduceReplicate, Int.cast_ofNat_Int, Int.reduceEq, Int.reduceLT, Int.reduceLE, decide_eq_true h]
    repeat' (first
    | (apply fs_nil <;> (try simp only [go_sem, resV, resS, SV.ren, SV.renL, Cell.ren, St.tmF, St.hpF, idx, renO, Row.ren, evS, slot, lookR, Nat.reduceEqDiff, ↓reduceIte, reduceCtorEq, if_true, if_false, Option.getD_some, Option.getD_none, List.map_cons, List.map_nil, sLoad, readAt, readNeed, Ints_ren, Ints_length, Ints_getD, and_true, true_and, List.getD_cons_zero, List.getD_cons_succ]) <;> (try rfl)))
  · refine fnspec_of mixed TT_ok TT_cl ⟨fun _ => false, fun _ => [], 0, fun _ => false, fun _ => false⟩ Tryd.func80 rfl (by kernel_rfl) rfl 143 rfl [.tmp 4] rfl ?_
    simp only [go_sem, Nat.reduceEqDiff, Nat.reduceAdd, Nat.reduceSub, Nat.reduceMul, Nat.reduceLT, Nat.reduceLeDiff, ↓reduceIte, reduceCtorEq, List.reduceReplicate, Int.cast_ofNat_Int, Int.reduceEq, Int.reduceLT, Int.reduceLE, decide_eq_false h, one_at]
    repeat' (first
    | (apply cl_plain
       case hs => rfl
       case ha => (simp only [List.map_cons, List.map_nil, prepV, prepC, idx, hpL', lookR, Nat.reduceEqDiff, if_true, if_false]; rfl)
       case h => (first | exact h1 ..))
    | ((first | refine s1_id ?_ | refine swp_id ?_ | refine sops_id ?_ | refine s2_id ?_); simp only [decide_eq_false h, one_at, go_sem, Nat.reduceEqDiff, Nat.reduceAdd, Nat.reduceSub, Nat.reduceMul, Nat.reduceLT, Nat.reduceLeDiff, ↓reduceIte, reduceCtorEq, List.reduceReplicate, Int.cast_ofNat_Int, Int.reduceEq, Int.reduceLT, Int.reduceLE, SV.ren, SV.renL, Cell.ren, Row.ren, renO, bk, back, outUpsFrom, Ints_ren])
    | (apply fs_nil <;> (try simp only [go_sem, resV, resS, SV.ren, SV.renL, Cell.ren, St.tmF, St.hpF, idx, renO, Row.ren, evS, slot, lookR, Nat.reduceEqDiff, ↓reduceIte, reduceCtorEq, if_true, if_false, Option.getD_some, Option.getD_none, List.map_cons, List.map_nil, sLoad, readAt, readNeed, Ints_ren, Ints_length, Ints_getD, and_true, true_and, List.getD_cons_zero, List.getD_cons_succ]) <;> (try rfl)))
theorem index1_spec (c : UInt8) (s : Str) (hs : s.length ≤ 9223372036854775807) : FnSpec Tryd.prog 73 [s1 s, s1 [c]] [] (i1 (Lib.indexByte s c)) [] := by
  have h1 := indexC_spec c s hs
  refine fnspec_of mixed TT_ok TT_cl ⟨fun _ => false, fun _ => [], 0, fun _ => false, fun _ => false⟩ Tryd.func73 rfl (by kernel_rfl) rfl 8 rfl [.tmp 4] rfl ?_
  simp only [go_sem, Nat.reduceEqDiff, Nat.reduceAdd, Nat.reduceSub, Nat.reduceMul, Nat.reduceLT, Nat.reduceLeDiff, ↓reduceIte, reduceCtorEq, List.reduceReplicate, Int.cast_ofNat_Int, Int.reduceEq, Int.reduceLT, Int.reduceLE]
  repeat' (first
    | (apply cl_plain
       case hs => rfl
       case ha => (simp only [List.map_cons, List.map_nil, prepV, prepC, idx, hpL', lookR, Nat.reduceEqDiff, if_true, if_false]; rfl)
       case h => (first | exact h1 ..))
    | ((first | refine s1_id ?_ | refine swp_id ?_ | refine sops_id ?_ | refine s2_id ?_); simp only [go_sem, Nat.reduceEqDiff, Nat.reduceAdd, Nat.reduceSub, Nat.reduceMul, Nat.reduceLT, Nat.reduceLeDiff, ↓reduceIte, reduceCtorEq, List.reduceReplicate, Int.cast_ofNat_Int, Int.reduceEq, Int.reduceLT, Int.reduceLE, SV.ren, SV.renL, Cell.ren, Row.ren, renO, bk, back, outUpsFrom, Ints_ren])
    | (apply fs_nil <;> (try simp only [go_sem, resV, resS, SV.ren, SV.renL, Cell.ren, St.tmF, St.hpF, idx, renO, Row.ren, evS, slot, lookR, Nat.reduceEqDiff, ↓reduceIte, reduceCtorEq, if_true, if_false, Option.getD_some, Option.getD_none, List.map_cons, List.map_nil, sLoad, readAt, readNeed, Ints_ren, Ints_length, Ints_getD, and_true, true_and, List.getD_cons_zero, List.getD_cons_succ]) <;> (try rfl)))
def spl (c : UInt8) : Str → Str → List Str
  | [], w => [w]
  | b :: r, w => if b = c then w :: spl c r [] else spl c r (w ++ [b])
theorem spl_len (c : UInt8) : ∀ s w, (spl c s w).length = cnt c s + 1
  | [], w => rfl
  | b :: r, w => by
    unfold spl cnt
    rw [List.count_cons]
    by_cases h : b = c
    · rw [if_pos h, List.length_cons, spl_len c r []]
      simp [h, cnt]
    · rw [if_neg h, spl_len c r _]
      simp [h, cnt]
theorem spl_cons (c b : UInt8) (r w : Str) : spl c (b :: r) w = if b = c then w :: spl c r [] else spl c r (w ++ [b]) := rfl
theorem spl_idx (c : UInt8) : ∀ s w, (Lib.indexByte s c < 0 ∧ Lib.indexByte s c = -1 ∧ spl c s w = [w ++ s] ∧ cnt c s = 0) ∨
    ∃ k : Nat, Lib.indexByte s c = k ∧ k < s.length ∧ spl c s w = (w ++ s.take k) :: spl c (s.drop (k + 1)) [] ∧ cnt c s = cnt c (s.drop (k + 1)) + 1
  | [], w => .inl ⟨by simp [Lib.indexByte], by simp [Lib.indexByte], by simp [spl], rfl⟩
  | b :: r, w => by
    by_cases h : b = c
    · refine .inr ⟨0, by simp [Lib.indexByte, h], by simp, ?_, ?_⟩
      · rw [spl_cons, if_pos h]
        simp
      · unfold cnt
        rw [List.count_cons]
        simp [h]
    · rcases spl_idx c r (w ++ [b]) with ⟨h1, h2, h3, h4⟩ | ⟨k, h1, h2, h3, h4⟩
      · refine .inl ⟨?_, ?_, ?_, ?_⟩
        · simp [Lib.indexByte, h, h2]
        · simp [Lib.indexByte, h, h2]
        · rw [spl_cons, if_neg h, h3]; simp
        · unfold cnt at h4 ⊢; rw [List.count_cons, h4]; simp [h]
      · refine .inr ⟨k + 1, ?_, by simp; omega, ?_, ?_⟩
        · simp only [Lib.indexByte, h, h1]
          simp
          exact fun e => absurd e h
        · rw [spl_cons, if_neg h, h3]; simp
        · unfold cnt at h4 ⊢; rw [List.count_cons, h4]; simp [h]
theorem cnt_le (c : UInt8) (s : Str) : cnt c s ≤ s.length := List.count_le_length
theorem strs_lay (ps : List Str) (n : Nat) (x : Str) : (ps ++ List.replicate (n + 1) []).set ps.length x = ps ++ [x] ++ List.replicate n [] := by
  rw [List.set_append_right _ _ (Nat.le_refl _), Nat.sub_self, List.replicate_succ, List.set_cons_zero]
  simp
set_option maxHeartbeats 8000000 in
theorem genSplit_spec (c : UInt8) (s : Str) (hs : s.length ≤ 1000000) : FnSpec Tryd.prog 50 [s1 s, s1 [c], i1 0, i1 (-1)] [] (gs (spl c s []) none) [] := by
  have h1 := count_spec c s (by omega)
  have hc := cnt_le c s
  have hm : min ((cnt c s : Int) + 1) ((s.length : Int) + 1) = (cnt c s : Int) + 1 := by omega
  have hm2 : (if (s.length : Int) + 1 < (cnt c s : Int) + 1 then (s.length : Int) + 1 else (cnt c s : Int) + 1) = (cnt c s : Int) + 1 := by rw [if_neg (by omega)]
  obtain ⟨N, hN⟩ : ∃ N, cnt c s = N := ⟨_, rfl⟩
  rw [hN] at h1 hc hm hm2
  refine fnspec_of mixed TT_ok TT_cl ⟨fun _ => false, fun _ => [], 0, fun _ => false, fun _ => false⟩ Tryd.func50 rfl (by kernel_rfl) rfl 66 rfl [.tmp 8] rfl ?_
  have hN1 : ((N : Int) + 1).toNat = N + 1 := by omega
  simp only [go_sem, Nat.reduceEqDiff, Nat.reduceAdd, Nat.reduceSub, Nat.reduceMul, Nat.reduceLT, Nat.reduceLeDiff, ↓reduceIte, reduceCtorEq, List.reduceReplicate, Int.cast_ofNat_Int, Int.reduceEq, Int.reduceLT, Int.reduceLE, hm2, hN1, Strs_rep]
  repeat' (first
    | with_reducible refine And.intro ?_ ?_
    | (intros; (try simp only [Bool.and_eq_true, Bool.or_eq_true, Bool.not_eq_true', Bool.not_eq_false', Bool.and_eq_false_iff, Bool.or_eq_false_iff, decide_eq_true_eq, decide_eq_false_iff_not] at *); omega)
    | (apply cl_plain
       case hs => rfl
       case ha => (simp only [List.map_cons, List.map_nil, prepV, prepC, idx, hpL', lookR, Nat.reduceEqDiff, if_true, if_false]; rfl)
       case h => (first | exact h1 ..))
    | ((first | refine s1_id ?_ | refine swp_id ?_ | refine sops_id ?_ | refine s2_id ?_); simp only [hm2, hN1, Strs_rep, go_sem, Nat.reduceEqDiff, Nat.reduceAdd, Nat.reduceSub, Nat.reduceMul, Nat.reduceLT, Nat.reduceLeDiff, ↓reduceIte, reduceCtorEq, List.reduceReplicate, Int.cast_ofNat_Int, Int.reduceEq, Int.reduceLT, Int.reduceLE, SV.ren, SV.renL, Cell.ren, Row.ren, renO, bk, back, outUpsFrom, Ints_ren]))
  refine w_loop (ι := List Str × Str) (fun p => ⟨[(0, s1 p.2), (1, s1 [c]), (2, i1 0), (3, i1 N), (9, .one (.osl 0 0 (N + 1) (some (N + 1)))), (10, i1 p.1.length)], [(0, some ⟨Strs (p.1 ++ List.replicate (N + 1 - p.1.length) []), 1⟩)], 1⟩) (fun p => p.1.length ≤ N ∧ p.2.length ≤ s.length ∧ spl c s [] = p.1 ++ spl c p.2 [] ∧ cnt c p.2 = N - p.1.length) (fun p => N - p.1.length) ([], s) ?_ ⟨Nat.zero_le _, Nat.le_refl _, rfl, hN⟩ ?_
  · (refine imp_ren _ _ _ [(0, 19, ⟨Strs (List.replicate (N + 1) []), 1⟩)] (by simp) (by simp) (by simp) (Nat.le_of_ble_eq_true rfl) ?_ rfl (by simp only [List.forall_mem_cons, List.not_mem_nil, false_implies, implies_true, and_true, St.hpF, lookR, Nat.reduceEqDiff, if_true, if_false, ↓reduceIte, Strs_flat] <;> (repeat' apply And.intro) <;> (first | rfl | trivial)) (by simp only [List.forall_mem_cons, List.not_mem_nil, false_implies, implies_true, and_true, true_and, flat_cons, flat_nil, flat_ints, flat_bools, flat_app, Cell.refs, and_self, eq_self_iff_true, List.append_nil, Strs_flat]); simp only [List.map_cons, List.map_nil, List.forall_mem_cons, List.not_mem_nil, false_implies, implies_true, and_true, lk, slot, SV.ren, Cell.ren, toN, Nat.reduceEqDiff, if_true, if_false, ↓reduceIte, reduceCtorEq])
    all_goals ((repeat' apply And.intro) <;> (first | rfl | trivial))
  clear h1 hm hm2
  rintro ⟨ps, r⟩ ⟨hp, hr, hsp, hct⟩
  simp only at hp hr hsp hct ⊢
  rcases Nat.lt_or_ge ps.length N with hlt | hge
  · have hlt' : (ps.length : Int) < (N : Int) := by omega
    have h2 := index1_spec c r (by omega)
    rcases spl_idx c r [] with ⟨_, _, _, h0⟩ | ⟨k, e1, e2, e3, e4⟩
    · omega
    rw [e1] at h2
    have hk0 : ¬ (k : Int) < 0 := by omega
    obtain ⟨n, hn⟩ : ∃ n, N + 1 - ps.length = n + 1 := ⟨N - ps.length, by omega⟩
    have hlay := strs_lay ps n (r.take k)
    have hkn : ((k : Int) + 1).toNat = k + 1 := by omega
    have hpl : ps.length < N + 1 := by omega
    rw [hn]
    simp only [go_sem, Nat.reduceEqDiff, Nat.reduceAdd, Nat.reduceSub, Nat.reduceMul, Nat.reduceLT, Nat.reduceLeDiff, ↓reduceIte, reduceCtorEq, List.reduceReplicate, Int.cast_ofNat_Int, Int.reduceEq, Int.reduceLT, Int.reduceLE, decide_eq_true hlt', decide_eq_false hk0, hlay, hkn, List.take_length, Int.add_zero]
    repeat' (first
    | with_reducible refine And.intro ?_ ?_
    | (intros; (try simp only [Bool.and_eq_true, Bool.or_eq_true, Bool.not_eq_true', Bool.not_eq_false', Bool.and_eq_false_iff, Bool.or_eq_false_iff, decide_eq_true_eq, decide_eq_false_iff_not] at *); omega)
    | (apply cl_plain
       case hs => rfl
       case ha => (simp only [List.map_cons, List.map_nil, prepV, prepC, idx, hpL', lookR, Nat.reduceEqDiff, if_true, if_false]; rfl)
       case h => (first | exact h2 ..))
    | ((first | refine s1_id ?_ | refine swp_id ?_ | refine sops_id ?_ | refine s2_id ?_); simp only [decide_eq_true hlt', decide_eq_false hk0, hlay, hkn, List.take_length, Int.add_zero, go_sem, Nat.reduceEqDiff, Nat.reduceAdd, Nat.reduceSub, Nat.reduceMul, Nat.reduceLT, Nat.reduceLeDiff, ↓reduceIte, reduceCtorEq, List.reduceReplicate, Int.cast_ofNat_Int, Int.reduceEq, Int.reduceLT, Int.reduceLE, SV.ren, SV.renL, Cell.ren, Row.ren, renO, bk, back, outUpsFrom, Ints_ren]))
    refine le_mk (ps ++ [r.take k], r.drop (k + 1)) ?_ ⟨by simp; omega, by simp; omega, by rw [hsp, e3]; simp, by simp; omega⟩ (by show N - (ps ++ [r.take k]).length < N - ps.length; simp; omega)
    have hn2 : N + 1 - (ps ++ [r.take k]).length = n := by simp; omega
    have hl2 : ((ps ++ [r.take k]).length : Int) = (ps.length : Int) + 1 := by simp
    simp only [hn2, hl2]
    (refine imp_ren _ _ _ [(0, 0, ⟨Strs (ps ++ [r.take k] ++ List.replicate n []), 1⟩)] (by simp) (by simp) (by simp) (Nat.le_of_ble_eq_true rfl) ?_ rfl (by simp only [List.forall_mem_cons, List.not_mem_nil, false_implies, implies_true, and_true, St.hpF, lookR, Nat.reduceEqDiff, if_true, if_false, ↓reduceIte, Strs_flat] <;> (repeat' apply And.intro) <;> (first | rfl | trivial)) (by simp only [List.forall_mem_cons, List.not_mem_nil, false_implies, implies_true, and_true, true_and, flat_cons, flat_nil, flat_ints, flat_bools, flat_app, Cell.refs, and_self, eq_self_iff_true, List.append_nil, Strs_flat]); simp only [List.map_cons, List.map_nil, List.forall_mem_cons, List.not_mem_nil, false_implies, implies_true, and_true, lk, slot, SV.ren, Cell.ren, toN, Nat.reduceEqDiff, if_true, if_false, ↓reduceIte, reduceCtorEq])
    all_goals ((repeat' apply And.intro) <;> (first | rfl | trivial | (simp only [Int.natCast_add]; done) | (simp only [Int.natCast_add]; rfl) | (simp only [Int.natCast_add]; trivial)))
  · have hlt' : ¬ (ps.length : Int) < (N : Int) := by omega
    have ep : ps.length = N := by omega
    have h0 : cnt c r = 0 := by omega
    have hsr : spl c r [] = [r] := by
      rcases spl_idx c r [] with ⟨_, _, h3, _⟩ | ⟨k, _, _, _, e4⟩
      · exact h3
      · omega
    have hlay := strs_lay ps 0 r
    rw [hsr] at hsp
    have hl3 : (ps ++ [r]).length = N + 1 := by simp; omega
    rw [hsp, gs, hl3]
    have hn3 : N + 1 - ps.length = 0 + 1 := by omega
    have hN2 : (N : Int) + 1 ≤ ((N + 1 : Nat) : Int) := by omega
    simp only [hn3]
    simp only [go_sem, Nat.reduceEqDiff, Nat.reduceAdd, Nat.reduceSub, Nat.reduceMul, Nat.reduceLT, Nat.reduceLeDiff, ↓reduceIte, reduceCtorEq, List.reduceReplicate, Int.cast_ofNat_Int, Int.reduceEq, Int.reduceLT, Int.reduceLE, decide_eq_false hlt', hlay, List.replicate_zero, List.append_nil, ep, hN1]
    repeat' (first
    | with_reducible refine And.intro ?_ ?_
    | (intros; (try simp only [Bool.and_eq_true, Bool.or_eq_true, Bool.not_eq_true', Bool.not_eq_false', Bool.and_eq_false_iff, Bool.or_eq_false_iff, decide_eq_true_eq, decide_eq_false_iff_not] at *); omega)
    | (refine gt_if (fun h => ?_) (fun h => ?_) <;> (try simp only [h]))
    | ((first | refine s1_id ?_ | refine swp_id ?_ | refine sops_id ?_ | refine s2_id ?_); simp only [decide_eq_false hlt', hlay, List.replicate_zero, List.append_nil, ep, hN1, go_sem, Nat.reduceEqDiff, Nat.reduceAdd, Nat.reduceSub, Nat.reduceMul, Nat.reduceLT, Nat.reduceLeDiff, ↓reduceIte, reduceCtorEq, List.reduceReplicate, Int.cast_ofNat_Int, Int.reduceEq, Int.reduceLT, Int.reduceLE, SV.ren, SV.renL, Cell.ren, Row.ren, renO, bk, back, outUpsFrom, Ints_ren]))
    all_goals try (intro row hrow; cases hrow; rfl)
    have hlay2 : (ps ++ [[]]).set N r = ps ++ [r] := by rw [← ep, List.set_append_right _ _ (Nat.le_refl _), Nat.sub_self]; rfl
    rw [hlay2]
    refine fs_res (res0 := .one (.gsl (Strs (ps ++ [r])) 0 (N + 1) (some (N + 1)))) (svw_of (cw_cap _ _ _ _)) ?_
    (refine fs_frz 0 ⟨Strs (ps ++ [r]), 1⟩ (by simp only [St.hpF, lookR, Nat.reduceEqDiff, if_true, if_false, ↓reduceIte]) (by first | exact Ints_isG _ | exact Bools_isG _ | exact Strs_isG _ | (simp [Cell.isG]; done)) ?_; simp only [frzTm, SV.frz, SV.frzL, Cell.frz, frzHp, frzO, Ints_frz, Bools_frz, List.map_cons, List.map_nil, Nat.reduceEqDiff, if_true, if_false, ↓reduceIte])
    apply fs_nil <;> (try simp only [go_sem, resV, resS, SV.ren, SV.renL, Cell.ren, St.tmF, St.hpF, idx, renO, Row.ren, evS, slot, lookR, Nat.reduceEqDiff, ↓reduceIte, reduceCtorEq, if_true, if_false, Option.getD_some, Option.getD_none, List.map_cons, List.map_nil, sLoad, readAt, readNeed, Ints_ren, Ints_length, Ints_getD, and_true, true_and, List.getD_cons_zero, List.getD_cons_succ]) <;> (try rfl)
theorem split_spec (c : UInt8) (s : Str) (hs : s.length ≤ 1000000) : FnSpec Tryd.prog 29 [s1 s, s1 [c]] [] (gs (spl c s []) none) [] := by
  have h1 := genSplit_spec c s hs
  refine fnspec_of mixed TT_ok TT_cl ⟨fun _ => false, fun _ => [], 0, fun _ => false, fun _ => false⟩ Tryd.func29 rfl (by kernel_rfl) rfl 8 rfl [.tmp 4] rfl ?_
  simp only [go_sem, Nat.reduceEqDiff, Nat.reduceAdd, Nat.reduceSub, Nat.reduceMul, Nat.reduceLT, Nat.reduceLeDiff, ↓reduceIte, reduceCtorEq, List.reduceReplicate, Int.cast_ofNat_Int, Int.reduceEq, Int.reduceLT, Int.reduceLE]
  repeat' (first
    | (apply cl_plain
       case hs => rfl
       case ha => (simp only [List.map_cons, List.map_nil, prepV, prepC, idx, hpL', lookR, Nat.reduceEqDiff, if_true, if_false]; rfl)
       case h => (first | exact h1 ..))
    | ((first | refine s1_id ?_ | refine swp_id ?_ | refine sops_id ?_ | refine s2_id ?_); simp only [go_sem, Nat.reduceEqDiff, Nat.reduceAdd, Nat.reduceSub, Nat.reduceMul, Nat.reduceLT, Nat.reduceLeDiff, ↓reduceIte, reduceCtorEq, List.reduceReplicate, Int.cast_ofNat_Int, Int.reduceEq, Int.reduceLT, Int.reduceLE, SV.ren, SV.renL, Cell.ren, Row.ren, renO, bk, back, outUpsFrom, Ints_ren])
    | (apply fs_nil <;> (try simp only [go_sem, resV, resS, SV.ren, SV.renL, Cell.ren, St.tmF, St.hpF, idx, renO, Row.ren, evS, slot, lookR, Nat.reduceEqDiff, ↓reduceIte, reduceCtorEq, if_true, if_false, Option.getD_some, Option.getD_none, List.map_cons, List.map_nil, sLoad, readAt, readNeed, Ints_ren, Ints_length, Ints_getD, and_true, true_and, List.getD_cons_zero, List.getD_cons_succ]) <;> (try rfl)))
end Go.Proofs.YteokppcgmfbnkaaDoor
-- namespace Go.Proofs.YteokppcgmfbnkaaDoor
namespace Go.Proofs
set_option linter.unusedVariables false
set_option linter.unusedSimpArgs false
open Go.Shelf
def Tryd.lays156_ren : Go.Shelf.Ren := ⟨fun | 156 => 36 | 165 => 56 | 166 => 57 | 169 => 58 | 240 => 77 | 241 => 78 | 276 => 98 | 277 => 99 | n => n, fun | 31 => 50 | 9 => 9 | 3 => 3 | 4 => 4 | 0 => 0 | 20 => 20 | 72 => 93 | 76 => 97 | 70 => 91 | 37 => 39 | 75 => 96 | 127 => 116 | 164 => 136 | 5 => 5 | 80 => 99 | n => n, fun | n => n⟩
theorem Tryd.lays156 : Go.Proofs.Lays.n156 Tryd.prog Tryd.lays156_ren := {
  mixed := by kernel_rfl
  f156 := Tryd.func36.trans (congrArg some (by kernel_rfl))
  f165 := Tryd.func56.trans (congrArg some (by kernel_rfl))
  f166 := Tryd.func57.trans (congrArg some (by kernel_rfl))
  f169 := Tryd.func58.trans (congrArg some (by kernel_rfl))
  f240 := Tryd.func77.trans (congrArg some (by kernel_rfl))
  f241 := Tryd.func78.trans (congrArg some (by kernel_rfl))
  f276 := Tryd.func98.trans (congrArg some (by kernel_rfl))
  f277 := Tryd.func99.trans (congrArg some (by kernel_rfl))
  t0 := Tryd.underlying0
  a0 := Tryd.isAgg0
  z0 := Tryd.sizeOf0
  v0 := Tryd.zeroValue0
  t3 := Tryd.underlying3
  a3 := Tryd.isAgg3
  z3 := Tryd.sizeOf3
  v3 := Tryd.zeroValue3
  t4 := Tryd.underlying4
  a4 := Tryd.isAgg4
  z4 := Tryd.sizeOf4
  v4 := Tryd.zeroValue4
  t9 := Tryd.underlying9
  a9 := Tryd.isAgg9
  z9 := Tryd.sizeOf9
  v9 := Tryd.zeroValue9
  t20 := Tryd.underlying20
  a20 := Tryd.isAgg20
  z20 := Tryd.sizeOf20
  v20 := Tryd.zeroValue20
  t31 := Tryd.underlying50
  a31 := Tryd.isAgg50
  z31 := Tryd.sizeOf50
  v31 := Tryd.zeroValue50
  t37 := Tryd.underlying39
  a37 := Tryd.isAgg39
  z37 := Tryd.sizeOf39
  v37 := Tryd.zeroValue39
  t70 := Tryd.underlying91
  a70 := Tryd.isAgg91
  z70 := Tryd.sizeOf91
  v70 := Tryd.zeroValue91
  t72 := Tryd.underlying93
  a72 := Tryd.isAgg93
  z72 := Tryd.sizeOf93
  v72 := Tryd.zeroValue93
  t75 := Tryd.underlying96
  a75 := Tryd.isAgg96
  z75 := Tryd.sizeOf96
  v75 := Tryd.zeroValue96
  t76 := Tryd.underlying97
  a76 := Tryd.isAgg97
  z76 := Tryd.sizeOf97
  v76 := Tryd.zeroValue97
  t127 := Tryd.underlying116
  a127 := Tryd.isAgg116
  z127 := Tryd.sizeOf116
  v127 := Tryd.zeroValue116
  t164 := Tryd.underlying136
  a164 := Tryd.isAgg136
  z164 := Tryd.sizeOf136
  v164 := Tryd.zeroValue136 }
theorem Tryd.Builder_Extra_156 : Builder.Extra Tryd.prog Tryd.lays156_ren := {
  sizeBuilder := by kernel_rfl
  liesBuilder := by kernel_rfl
  t5 := Tryd.underlying5
  a5 := Tryd.isAgg5
  z5 := Tryd.sizeOf5
  v5 := Tryd.zeroValue5
  infoByte := by kernel_rfl
  cellsByte := by kernel_rfl
  sizeByte := by kernel_rfl
  neB5 := by decide }
open Go.RowKit in
theorem Tryd.strings_Join_none (a : Option Addr) (c : Nat) (sep : ByteArray) (w : World) :
    Calls Tryd.prog 36 #[.slice a 0 c, .string sep] w fun e w' => e = .returned (.string ⟨#[]⟩) ∧ w' = w := Any.strings_Join_none Tryd.lays156 Tryd.Builder_Extra_156 a c sep w
open Go.RowKit in
theorem Tryd.strings_Join (bk o c : Nat) (xs : List ByteArray) (sep : ByteArray) (w : World) (hcells : ∀ (j : Nat) x, xs[j]? = some x → w.cell? ⟨bk, o + j, none⟩ = some (.string x)) (hbk : bk < w.heap.size) (hN : xs.length ≤ 140737488355328) (hcap : xs.length ≤ c) (hlen : (Lib.join (xs.map (·.data.toList)) sep.data.toList).length ≤ 140737488355328) :
    Calls Tryd.prog 36 #[.slice (some ⟨bk, o, none⟩) xs.length c, .string sep] w fun e w' => e = .returned (.string ⟨(Lib.join (xs.map (·.data.toList)) sep.data.toList).toArray⟩) ∧ Below w.heap.size w w' := Any.strings_Join Tryd.lays156 Tryd.Builder_Extra_156 bk o c xs sep w hcells hbk hN hcap hlen
def Tryd.lays171_ren : Go.Shelf.Ren := ⟨fun | 171 => 35 | 243 => 55 | 246 => 76 | 283 => 94 | 284 => 95 | 285 => 96 | 286 => 97 | 129 => 93 | 317 => 110 | 318 => 111 | 319 => 112 | 320 => 113 | 337 => 117 | 338 => 118 | n => n, fun | 3 => 3 | 9 => 9 | 2 => 2 | 4 => 4 | 171 => 132 | 0 => 0 | 53 => 131 | 37 => 39 | 5 => 5 | 173 => 134 | 212 => 146 | 51 => 129 | 20 => 20 | 213 => 147 | 46 => 114 | 232 => 157 | 233 => 158 | n => n, fun | 17 => 1 | 18 => 4 | 19 => 5 | n => n⟩
theorem Tryd.lays171 : Go.Proofs.Lays.n171 Tryd.prog Tryd.lays171_ren := {
  mixed := by kernel_rfl
  f129 := Tryd.func93.trans (congrArg some (by kernel_rfl))
  f171 := Tryd.func35.trans (congrArg some (by kernel_rfl))
  f243 := Tryd.func55.trans (congrArg some (by kernel_rfl))
  f246 := Tryd.func76.trans (congrArg some (by kernel_rfl))
  f283 := Tryd.func94.trans (congrArg some (by kernel_rfl))
  f284 := Tryd.func95.trans (congrArg some (by kernel_rfl))
  f285 := Tryd.func96.trans (congrArg some (by kernel_rfl))
  f286 := Tryd.func97.trans (congrArg some (by kernel_rfl))
  f317 := Tryd.func110.trans (congrArg some (by kernel_rfl))
  f318 := Tryd.func111.trans (congrArg some (by kernel_rfl))
  f319 := Tryd.func112.trans (congrArg some (by kernel_rfl))
  f320 := Tryd.func113.trans (congrArg some (by kernel_rfl))
  f337 := Tryd.func117.trans (congrArg some (by kernel_rfl))
  f338 := Tryd.func118.trans (congrArg some (by kernel_rfl))
  t0 := Tryd.underlying0
  a0 := Tryd.isAgg0
  z0 := Tryd.sizeOf0
  v0 := Tryd.zeroValue0
  t2 := Tryd.underlying2
  a2 := Tryd.isAgg2
  z2 := Tryd.sizeOf2
  v2 := Tryd.zeroValue2
  t3 := Tryd.underlying3
  a3 := Tryd.isAgg3
  z3 := Tryd.sizeOf3
  v3 := Tryd.zeroValue3
  t4 := Tryd.underlying4
  a4 := Tryd.isAgg4
  z4 := Tryd.sizeOf4
  v4 := Tryd.zeroValue4
  t5 := Tryd.underlying5
  a5 := Tryd.isAgg5
  z5 := Tryd.sizeOf5
  v5 := Tryd.zeroValue5
  t9 := Tryd.underlying9
  a9 := Tryd.isAgg9
  z9 := Tryd.sizeOf9
  v9 := Tryd.zeroValue9
  t20 := Tryd.underlying20
  a20 := Tryd.isAgg20
  z20 := Tryd.sizeOf20
  v20 := Tryd.zeroValue20
  t37 := Tryd.underlying39
  a37 := Tryd.isAgg39
  z37 := Tryd.sizeOf39
  v37 := Tryd.zeroValue39
  t46 := Tryd.underlying114
  a46 := Tryd.isAgg114
  z46 := Tryd.sizeOf114
  v46 := Tryd.zeroValue114
  t51 := Tryd.underlying129
  a51 := Tryd.isAgg129
  z51 := Tryd.sizeOf129
  v51 := Tryd.zeroValue129
  t53 := Tryd.underlying131
  a53 := Tryd.isAgg131
  z53 := Tryd.sizeOf131
  v53 := Tryd.zeroValue131
  t171 := Tryd.underlying132
  a171 := Tryd.isAgg132
  z171 := Tryd.sizeOf132
  v171 := Tryd.zeroValue132
  t173 := Tryd.underlying134
  a173 := Tryd.isAgg134
  z173 := Tryd.sizeOf134
  v173 := Tryd.zeroValue134
  t212 := Tryd.underlying146
  a212 := Tryd.isAgg146
  z212 := Tryd.sizeOf146
  v212 := Tryd.zeroValue146
  t213 := Tryd.underlying147
  a213 := Tryd.isAgg147
  z213 := Tryd.sizeOf147
  t232 := Tryd.underlying157
  a232 := Tryd.isAgg157
  z232 := Tryd.sizeOf157
  v232 := Tryd.zeroValue157
  t233 := Tryd.underlying158
  a233 := Tryd.isAgg158
  z233 := Tryd.sizeOf158
  v233 := Tryd.zeroValue158
  g17 := by kernel_rfl
  g18 := by kernel_rfl
  g19 := by kernel_rfl }
open Go.RowKit Go.Sort Go.Lib in
theorem Tryd.strconv_Itoa_small (i : Nat) (hi : i < 100) (w : World) :
    Calls Tryd.prog 35 #[.int .i64 i] w fun e w' => e = .returned (.string ⟨(Lib.decDigits i).toArray⟩) ∧ w' = w := Any.strconv_Itoa_small Tryd.lays171 i hi w
def Tryd.sortSpans_ren : Go.Shelf.Ren := ⟨fun | 6 => 53 | 15 => 75 | 14 => 74 | 28 => 92 | 29 => 93 | 20 => 84 | 21 => 85 | 22 => 86 | 23 => 87 | 24 => 88 | 25 => 89 | 26 => 90 | 27 => 91 | 46 => 105 | 47 => 106 | 48 => 107 | 49 => 108 | 50 => 109 | 57 => 116 | n => n, fun | 22 => 58 | 24 => 61 | 25 => 90 | 3 => 3 | 39 => 114 | 0 => 0 | 53 => 129 | 55 => 131 | 4 => 4 | 46 => 123 | 45 => 122 | 50 => 86 | 5 => 5 | 9 => 9 | 66 => 139 | 70 => 143 | 76 => 154 | 77 => 155 | n => n, fun | n => n⟩
theorem Tryd.sortSpans : Go.Proofs.SlLaysF0.n6 Tryd.prog Tryd.sortSpans_ren := {
  mixed := by kernel_rfl
  f6 := ⟨Tryd.f53.name, by decide, Tryd.func53.trans (congrArg some (by kernel_rfl))⟩
  f14 := ⟨Tryd.f74.name, by decide, Tryd.func74.trans (congrArg some (by kernel_rfl))⟩
  f15 := Tryd.func75.trans (congrArg some (by kernel_rfl))
  f20 := ⟨Tryd.f84.name, by decide, Tryd.func84.trans (congrArg some (by kernel_rfl))⟩
  f21 := ⟨Tryd.f85.name, by decide, Tryd.func85.trans (congrArg some (by kernel_rfl))⟩
  f22 := ⟨Tryd.f86.name, by decide, Tryd.func86.trans (congrArg some (by kernel_rfl))⟩
  f23 := ⟨Tryd.f87.name, by decide, Tryd.func87.trans (congrArg some (by kernel_rfl))⟩
  f24 := ⟨Tryd.f88.name, by decide, Tryd.func88.trans (congrArg some (by kernel_rfl))⟩
  f25 := ⟨Tryd.f89.name, by decide, Tryd.func89.trans (congrArg some (by kernel_rfl))⟩
  f26 := ⟨Tryd.f90.name, by decide, Tryd.func90.trans (congrArg some (by kernel_rfl))⟩
  f27 := ⟨Tryd.f91.name, by decide, Tryd.func91.trans (congrArg some (by kernel_rfl))⟩
  f28 := Tryd.func92.trans (congrArg some (by kernel_rfl))
  f29 := Tryd.func93.trans (congrArg some (by kernel_rfl))
  f46 := ⟨Tryd.f105.name, by decide, Tryd.func105.trans (congrArg some (by kernel_rfl))⟩
  f47 := Tryd.func106.trans (congrArg some (by kernel_rfl))
  f48 := Tryd.func107.trans (congrArg some (by kernel_rfl))
  f49 := ⟨Tryd.f108.name, by decide, Tryd.func108.trans (congrArg some (by kernel_rfl))⟩
  f50 := ⟨Tryd.f109.name, by decide, Tryd.func109.trans (congrArg some (by kernel_rfl))⟩
  f57 := ⟨Tryd.f116.name, by decide, Tryd.func116.trans (congrArg some (by kernel_rfl))⟩
  t0 := Tryd.underlying0
  a0 := Tryd.isAgg0
  z0 := Tryd.sizeOf0
  v0 := Tryd.zeroValue0
  t3 := Tryd.underlying3
  a3 := Tryd.isAgg3
  z3 := Tryd.sizeOf3
  v3 := Tryd.zeroValue3
  t4 := Tryd.underlying4
  a4 := Tryd.isAgg4
  z4 := Tryd.sizeOf4
  v4 := Tryd.zeroValue4
  t5 := Tryd.underlying5
  a5 := Tryd.isAgg5
  z5 := Tryd.sizeOf5
  v5 := Tryd.zeroValue5
  t9 := Tryd.underlying9
  a9 := Tryd.isAgg9
  z9 := Tryd.sizeOf9
  v9 := Tryd.zeroValue9
  t22 := Tryd.underlying58
  a22 := Tryd.isAgg58
  z22 := Tryd.sizeOf58
  v22 := Tryd.zeroValue58
  t25 := Tryd.underlying90
  a25 := Tryd.isAgg90
  z25 := Tryd.sizeOf90
  v25 := Tryd.zeroValue90
  t39 := Tryd.underlying114
  a39 := Tryd.isAgg114
  z39 := Tryd.sizeOf114
  v39 := Tryd.zeroValue114
  t45 := Tryd.underlying122
  a45 := Tryd.isAgg122
  z45 := Tryd.sizeOf122
  v45 := Tryd.zeroValue122
  t46 := Tryd.underlying123
  a46 := Tryd.isAgg123
  z46 := Tryd.sizeOf123
  v46 := Tryd.zeroValue123
  t50 := Tryd.underlying86
  a50 := Tryd.isAgg86
  z50 := Tryd.sizeOf86
  v50 := Tryd.zeroValue86
  t53 := Tryd.underlying129
  a53 := Tryd.isAgg129
  z53 := Tryd.sizeOf129
  v53 := Tryd.zeroValue129
  t55 := Tryd.underlying131
  a55 := Tryd.isAgg131
  z55 := Tryd.sizeOf131
  v55 := Tryd.zeroValue131
  t66 := Tryd.underlying139
  a66 := Tryd.isAgg139
  z66 := Tryd.sizeOf139
  v66 := Tryd.zeroValue139
  t70 := Tryd.underlying143
  a70 := Tryd.isAgg143
  z70 := Tryd.sizeOf143
  v70 := Tryd.zeroValue143
  t76 := Tryd.underlying154
  a76 := Tryd.isAgg154
  z76 := Tryd.sizeOf154
  v76 := Tryd.zeroValue154
  t77 := Tryd.underlying155
  a77 := Tryd.isAgg155
  z77 := Tryd.sizeOf155
  v77 := Tryd.zeroValue155 }

end Go.Proofs
-- NEWGO
-- PRUNE: cl_lendx cl_use cl_lend
-- ISG: Strs_isG
-- FLAT: Strs_flat
namespace Go.Proofs.YteokppcgmfbnkaaDoor
set_option linter.unusedVariables false
set_option linter.unusedSimpArgs false
open Go.Proofs.YteokppcgmfbnkaaDoor.Sh
set_option maxRecDepth 20000
def jn (xs : List Str) (sep : Str) : Str := Lib.join xs sep
theorem join_spec (xs : List Str) (sep : Str) (cap : Option Nat) (hN : xs.length ≤ 140737488355328) (hl : (jn xs sep).length ≤ 140737488355328) : FnSpec Tryd.prog 36 [gs xs cap, s1 sep] [] (s1 (jn xs sep)) [] := by
  refine FnSpec.of_calls Tryd.func36 (by kernel_rfl) (by kernel_rfl) trivial fun w vals m hm hv => ?_
  generalize hvs : vals.toList = vs at hv
  match vs, hv with
  | [u, v], ⟨hu, hw, _⟩ =>
    have hvals : vals = #[u, v] := by apply Array.ext'; exact hvs
    have ev : v = .string (bs sep) := by cases hw; rfl
    subst hvals; subst ev
    by_cases h0 : xs.length = 0
    · have hx : xs = [] := List.length_eq_zero_iff.1 h0
      subst hx
      have hu2 : ∃ a c, u = .slice a 0 c := by
        cases hu with
        | gsl _ _ _ _ b o c ad f _ _ _ _ _ => exact ⟨_, _, rfl⟩
        | gnil _ _ _ _ => exact ⟨_, _, rfl⟩
      obtain ⟨a, c, rfl⟩ := hu2
      refine (Tryd.strings_Join_none a c (bs sep) w).mono fun e w' ⟨h1, h2⟩ => ?_
      subst h1; subst h2
      exact ⟨_, rfl, VG.sc _ rfl, RowKit.Below.refl _ _⟩
    · have hu2 : ∃ (b o c : Nat) (f : Nat → Value), u = .slice (some ⟨b, o, none⟩) xs.length c ∧ xs.length ≤ c ∧ (∀ (i : Nat) x, (Strs xs)[i]? = some x → m ⟨b, o + i, none⟩ = some (f i)) ∧ (∀ (i : Nat) x, (Strs xs)[i]? = some x → VG m x (f i)) := by
        obtain ⟨n, hn⟩ : ∃ n, xs.length = n := ⟨_, rfl⟩
        have hu' : VG m (.gsl (Strs xs) 0 n cap) u := by rw [← hn]; exact hu
        rw [hn] at h0 ⊢
        cases hu' with
        | gsl _ _ _ _ b o c ad f hc hlc hm hv ha =>
          have had : ad = ⟨b, o + 0, none⟩ := ha.resolve_right h0
          subst had
          exact ⟨b, o, c, f, rfl, hlc, hm, hv⟩
        | gnil _ _ _ _ => exact absurd rfl h0
      obtain ⟨b, o, c, f, rfl, hlc, hm2, hv2⟩ := hu2
      have hat : ∀ (j : Nat) x, (xs.map bs)[j]? = some x → w.cell? ⟨b, o + j, none⟩ = some (.string x) := by
        intro j x hj
        rw [List.getElem?_map] at hj
        cases hx : xs[j]? with
        | none => rw [hx] at hj; cases hj
        | some y =>
          rw [hx] at hj
          cases hj
          have hs : (Strs xs)[j]? = some (st y) := by simp [Strs, hx]
          have h1 := (hm _ _ (hm2 j _ hs)).2
          have h2 := hv2 j _ hs
          cases h2' : f j <;> rw [h2'] at h2 h1 <;> cases h2
          exact h1
      have hlt : b < w.heap.size := by
        obtain ⟨y, hy⟩ : ∃ y, xs[0]? = some y := ⟨_, List.getElem?_eq_getElem (by omega)⟩
        have := hat 0 (bs y) (by simp [hy])
        exact World.block_lt_of_cell? _ _ this
      have hmap : (xs.map bs).map (·.data.toList) = xs := by
        rw [List.map_map]
        have : ((fun x : ByteArray => x.data.toList) ∘ bs) = id := by funext l; exact bs_data l
        rw [this, List.map_id]
      have hj := Tryd.strings_Join b o c (xs.map bs) (bs sep) w hat hlt (by simpa using hN) (by simpa using hlc) (by rw [hmap, bs_data]; exact hl)
      rw [hmap, bs_data, List.length_map] at hj
      refine hj.mono fun e w' ⟨h1, h2⟩ => ?_
      subst h1
      exact ⟨_, rfl, VG.sc _ rfl, h2⟩
end Go.Proofs.YteokppcgmfbnkaaDoor
-- NEWGO
-- PRUNE: cl_lendx cl_use cl_lend
namespace Go.Proofs.YteokppcgmfbnkaaDoor
set_option linter.unusedVariables false
set_option linter.unusedSimpArgs false
open Go.Proofs.YteokppcgmfbnkaaDoor.Sh
set_option maxRecDepth 20000
def nS : Str → Int → Option Int
  | [], n => some n
  | b :: r, n => if 48 ≤ (b.toNat : Int) ∧ (b.toNat : Int) ≤ 57 then nS r (10 * n + ((b.toNat : Int) - 48)) else none
def pN (s : Str) : Int × Bool := if (s.length : Int) < 1 then (0, false) else if 9 < (s.length : Int) then (0, false) else match nS s 0 with
  | some n => (n, true)
  | none => (0, false)
abbrev rV (x : Int × Bool) : SV := .tup [i1 x.1, b1 x.2]
set_option maxHeartbeats 4000000 in
theorem parseN_spec (s : Str) (hs : s.length ≤ 9223372036854775807) : FnSpec Tryd.prog 51 [s1 s] [] (rV (pN s)) [] := by
  unfold pN
  by_cases h1 : (s.length : Int) < 1
  · rw [if_pos h1]
    refine fnspec_of mixed TT_ok TT_cl ⟨fun _ => false, fun _ => [], 0, fun _ => false, fun _ => false⟩ Tryd.func51 rfl (by kernel_rfl) rfl 33 rfl [.tmp 2, .tmp 3] rfl ?_
    simp only [go_sem, Nat.reduceEqDiff, Nat.reduceAdd, Nat.reduceSub, Nat.reduceMul, Nat.reduceLT, Nat.reduceLeDiff, ↓reduceIte, reduceCtorEq, List.reduceReplicate, Int.cast_ofNat_Int, Int.reduceEq, Int.reduceLT, Int.reduceLE, decide_eq_true h1]
    repeat' (first
    | (apply fs_nil <;> (try simp only [go_sem, resV, resS, SV.ren, SV.renL, Cell.ren, St.tmF, St.hpF, idx, renO, Row.ren, evS, slot, lookR, Nat.reduceEqDiff, ↓reduceIte, reduceCtorEq, if_true, if_false, Option.getD_some, Option.getD_none, List.map_cons, List.map_nil, sLoad, readAt, readNeed, Ints_ren, Ints_length, Ints_getD, and_true, true_and, List.getD_cons_zero, List.getD_cons_succ]) <;> (try rfl)))
  rw [if_neg h1]
  by_cases h9 : 9 < (s.length : Int)
  · rw [if_pos h9]
    refine fnspec_of mixed TT_ok TT_cl ⟨fun _ => false, fun _ => [], 0, fun _ => false, fun _ => false⟩ Tryd.func51 rfl (by kernel_rfl) rfl 33 rfl [.tmp 2, .tmp 3] rfl ?_
    simp only [go_sem, Nat.reduceEqDiff, Nat.reduceAdd, Nat.reduceSub, Nat.reduceMul, Nat.reduceLT, Nat.reduceLeDiff, ↓reduceIte, reduceCtorEq, List.reduceReplicate, Int.cast_ofNat_Int, Int.reduceEq, Int.reduceLT, Int.reduceLE, decide_eq_false h1, decide_eq_true h9]
    repeat' (first
    | (apply fs_nil <;> (try simp only [go_sem, resV, resS, SV.ren, SV.renL, Cell.ren, St.tmF, St.hpF, idx, renO, Row.ren, evS, slot, lookR, Nat.reduceEqDiff, ↓reduceIte, reduceCtorEq, if_true, if_false, Option.getD_some, Option.getD_none, List.map_cons, List.map_nil, sLoad, readAt, readNeed, Ints_ren, Ints_length, Ints_getD, and_true, true_and, List.getD_cons_zero, List.getD_cons_succ]) <;> (try rfl)))
  rw [if_neg h9]
  refine fnspec_of mixed TT_ok TT_cl ⟨fun _ => false, fun _ => [], 0, fun _ => false, fun _ => false⟩ Tryd.func51 rfl (by kernel_rfl) rfl 33 rfl [.tmp 2, .tmp 3] rfl ?_
  simp only [go_sem, Nat.reduceEqDiff, Nat.reduceAdd, Nat.reduceSub, Nat.reduceMul, Nat.reduceLT, Nat.reduceLeDiff, ↓reduceIte, reduceCtorEq, List.reduceReplicate, Int.cast_ofNat_Int, Int.reduceEq, Int.reduceLT, Int.reduceLE, decide_eq_false h1, decide_eq_false h9]
  repeat' (first
    | ((first | refine s1_id ?_ | refine swp_id ?_ | refine sops_id ?_ | refine s2_id ?_); simp only [decide_eq_false h1, decide_eq_false h9, go_sem, Nat.reduceEqDiff, Nat.reduceAdd, Nat.reduceSub, Nat.reduceMul, Nat.reduceLT, Nat.reduceLeDiff, ↓reduceIte, reduceCtorEq, List.reduceReplicate, Int.cast_ofNat_Int, Int.reduceEq, Int.reduceLT, Int.reduceLE, SV.ren, SV.renL, Cell.ren, Row.ren, renO, bk, back, outUpsFrom, Ints_ren]))
  refine w_loop (ι := Nat × Int) (fun p => ⟨[(4, i1 p.2), (16, .one (.mp 0 true))], [(0, some ⟨[st s, int p.1, bool true], 0⟩)], 1⟩) (fun p => p.1 ≤ s.length ∧ (0 ≤ p.2 ∧ p.2 < 10 ^ p.1) ∧ nS s 0 = nS (s.drop p.1) p.2) (fun p => s.length - p.1) (0, 0) ?_ ⟨Nat.zero_le _, ⟨Int.le_refl 0, by decide⟩, rfl⟩ ?_
  · (refine imp_ren _ _ _ [(0, 12, ⟨[st s, int 0, Sh.bool true], 0⟩)] (by simp) (by simp) (by simp) (Nat.le_of_ble_eq_true rfl) ?_ rfl (by simp only [List.forall_mem_cons, List.not_mem_nil, false_implies, implies_true, and_true, St.hpF, lookR, Nat.reduceEqDiff, if_true, if_false, ↓reduceIte] <;> (repeat' apply And.intro) <;> (first | rfl | trivial)) (by simp only [List.forall_mem_cons, List.not_mem_nil, false_implies, implies_true, and_true, true_and, flat_cons, flat_nil, flat_ints, flat_bools, flat_app, Cell.refs, and_self, eq_self_iff_true, List.append_nil]); simp only [List.map_cons, List.map_nil, List.forall_mem_cons, List.not_mem_nil, false_implies, implies_true, and_true, lk, slot, SV.ren, Cell.ren, toN, Nat.reduceEqDiff, if_true, if_false, ↓reduceIte, reduceCtorEq])
    all_goals ((repeat' apply And.intro) <;> (first | rfl | trivial))
  rintro ⟨i, n⟩ ⟨hi, hn, he⟩
  simp only at hi hn he ⊢
  rcases Nat.lt_or_ge i s.length with hlt | hge
  case inr =>
    have hlt' : ¬ (i : Int) < (s.length : Int) := by omega
    rw [List.drop_of_length_le hge] at he
    rw [he]
    simp only [go_sem, Nat.reduceEqDiff, Nat.reduceAdd, Nat.reduceSub, Nat.reduceMul, Nat.reduceLT, Nat.reduceLeDiff, ↓reduceIte, reduceCtorEq, List.reduceReplicate, Int.cast_ofNat_Int, Int.reduceEq, Int.reduceLT, Int.reduceLE, decide_eq_false hlt', nS]
    repeat' (first
    | with_reducible refine And.intro ?_ ?_
    | (intros; (try simp only [Bool.and_eq_true, Bool.or_eq_true, Bool.not_eq_true', Bool.not_eq_false', Bool.and_eq_false_iff, Bool.or_eq_false_iff, decide_eq_true_eq, decide_eq_false_iff_not] at *); omega)
    | (apply fs_nil <;> (try simp only [go_sem, resV, resS, SV.ren, SV.renL, Cell.ren, St.tmF, St.hpF, idx, renO, Row.ren, evS, slot, lookR, Nat.reduceEqDiff, ↓reduceIte, reduceCtorEq, if_true, if_false, Option.getD_some, Option.getD_none, List.map_cons, List.map_nil, sLoad, readAt, readNeed, Ints_ren, Ints_length, Ints_getD, and_true, true_and, List.getD_cons_zero, List.getD_cons_succ]) <;> (try rfl)))
  have hlt' : (i : Int) < (s.length : Int) := by omega
  have hp : (10 : Int) ^ i ≤ 100000000 := by
    obtain rfl | rfl | rfl | rfl | rfl | rfl | rfl | rfl | rfl : i = 0 ∨ i = 1 ∨ i = 2 ∨ i = 3 ∨ i = 4 ∨ i = 5 ∨ i = 6 ∨ i = 7 ∨ i = 8 := by omega
    all_goals decide
  have hpe : (10 : Int) ^ (i + 1) = 10 ^ i * 10 := Int.pow_succ 10 i
  obtain ⟨b, hb⟩ : ∃ b, s[i]? = some b := ⟨_, List.getElem?_eq_getElem hlt⟩
  rw [drop_at s i b hb, nS] at he
  by_cases h128 : b.toNat < 128
  · have hd := bs_dec s i b hb h128
    by_cases h1 : (b.toNat : Int) < 48
    · rw [if_neg (by omega)] at he
      rw [he]
      simp only [go_sem, Nat.reduceEqDiff, Nat.reduceAdd, Nat.reduceSub, Nat.reduceMul, Nat.reduceLT, Nat.reduceLeDiff, ↓reduceIte, reduceCtorEq, List.reduceReplicate, Int.cast_ofNat_Int, Int.reduceEq, Int.reduceLT, Int.reduceLE, decide_eq_true hlt', hd, decide_eq_true h1]
      repeat' (first
    | with_reducible refine And.intro ?_ ?_
    | (intros; (try simp only [Bool.and_eq_true, Bool.or_eq_true, Bool.not_eq_true', Bool.not_eq_false', Bool.and_eq_false_iff, Bool.or_eq_false_iff, decide_eq_true_eq, decide_eq_false_iff_not] at *); omega)
    | (apply fs_nil <;> (try simp only [go_sem, resV, resS, SV.ren, SV.renL, Cell.ren, St.tmF, St.hpF, idx, renO, Row.ren, evS, slot, lookR, Nat.reduceEqDiff, ↓reduceIte, reduceCtorEq, if_true, if_false, Option.getD_some, Option.getD_none, List.map_cons, List.map_nil, sLoad, readAt, readNeed, Ints_ren, Ints_length, Ints_getD, and_true, true_and, List.getD_cons_zero, List.getD_cons_succ]) <;> (try rfl)))
    · by_cases h2 : 57 < (b.toNat : Int)
      · rw [if_neg (by omega)] at he
        rw [he]
        simp only [go_sem, Nat.reduceEqDiff, Nat.reduceAdd, Nat.reduceSub, Nat.reduceMul, Nat.reduceLT, Nat.reduceLeDiff, ↓reduceIte, reduceCtorEq, List.reduceReplicate, Int.cast_ofNat_Int, Int.reduceEq, Int.reduceLT, Int.reduceLE, decide_eq_true hlt', hd, decide_eq_false h1, decide_eq_true h2]
        repeat' (first
    | with_reducible refine And.intro ?_ ?_
    | (intros; (try simp only [Bool.and_eq_true, Bool.or_eq_true, Bool.not_eq_true', Bool.not_eq_false', Bool.and_eq_false_iff, Bool.or_eq_false_iff, decide_eq_true_eq, decide_eq_false_iff_not] at *); omega)
    | (apply fs_nil <;> (try simp only [go_sem, resV, resS, SV.ren, SV.renL, Cell.ren, St.tmF, St.hpF, idx, renO, Row.ren, evS, slot, lookR, Nat.reduceEqDiff, ↓reduceIte, reduceCtorEq, if_true, if_false, Option.getD_some, Option.getD_none, List.map_cons, List.map_nil, sLoad, readAt, readNeed, Ints_ren, Ints_length, Ints_getD, and_true, true_and, List.getD_cons_zero, List.getD_cons_succ]) <;> (try rfl)))
      · rw [if_pos (by omega)] at he
        have q32 : inR .i32 ((b.toNat : Int) - 48) = True := eq_true (show (-2147483648 : Int) ≤ _ ∧ _ ≤ (2147483647 : Int) by omega)
        simp only [go_sem, Nat.reduceEqDiff, Nat.reduceAdd, Nat.reduceSub, Nat.reduceMul, Nat.reduceLT, Nat.reduceLeDiff, ↓reduceIte, reduceCtorEq, List.reduceReplicate, Int.cast_ofNat_Int, Int.reduceEq, Int.reduceLT, Int.reduceLE, decide_eq_true hlt', hd, decide_eq_false h1, decide_eq_false h2, q32]
        repeat' (first
    | with_reducible refine And.intro ?_ ?_
    | (intros; (try simp only [Bool.and_eq_true, Bool.or_eq_true, Bool.not_eq_true', Bool.not_eq_false', Bool.and_eq_false_iff, Bool.or_eq_false_iff, decide_eq_true_eq, decide_eq_false_iff_not] at *); omega)
    | ((first | refine s1_id ?_ | refine swp_id ?_ | refine sops_id ?_ | refine s2_id ?_); simp only [decide_eq_true hlt', hd, decide_eq_false h1, decide_eq_false h2, q32, go_sem, Nat.reduceEqDiff, Nat.reduceAdd, Nat.reduceSub, Nat.reduceMul, Nat.reduceLT, Nat.reduceLeDiff, ↓reduceIte, reduceCtorEq, List.reduceReplicate, Int.cast_ofNat_Int, Int.reduceEq, Int.reduceLT, Int.reduceLE, SV.ren, SV.renL, Cell.ren, Row.ren, renO, bk, back, outUpsFrom, Ints_ren]))
        refine le_mk (i + 1, 10 * n + ((b.toNat : Int) - 48)) ?_ ⟨by show i + 1 ≤ s.length; omega, by show 0 ≤ _ ∧ _ < (10 : Int) ^ (i + 1); rw [hpe]; omega, he⟩ (by show s.length - (i + 1) < s.length - i; omega)
        (refine imp_ren _ _ _ [(0, 0, ⟨[st s, int ((i + 1 : Nat) : Int), Sh.bool true], 0⟩)] (by simp) (by simp) (by simp) (Nat.le_of_ble_eq_true rfl) ?_ rfl (by simp only [List.forall_mem_cons, List.not_mem_nil, false_implies, implies_true, and_true, St.hpF, lookR, Nat.reduceEqDiff, if_true, if_false, ↓reduceIte, Int.natCast_add] <;> (repeat' apply And.intro) <;> (first | rfl | trivial)) (by simp only [List.forall_mem_cons, List.not_mem_nil, false_implies, implies_true, and_true, true_and, flat_cons, flat_nil, flat_ints, flat_bools, flat_app, Cell.refs, and_self, eq_self_iff_true, List.append_nil, Int.natCast_add]); simp only [List.map_cons, List.map_nil, List.forall_mem_cons, List.not_mem_nil, false_implies, implies_true, and_true, lk, slot, SV.ren, Cell.ren, toN, Nat.reduceEqDiff, if_true, if_false, ↓reduceIte, reduceCtorEq])
        all_goals ((repeat' apply And.intro) <;> (first | rfl | trivial | (simp only [Int.natCast_add]; done) | (simp only [Int.natCast_add]; rfl) | (simp only [Int.natCast_add]; trivial)))
  · have hd := bs_high s i b hb (by omega)
    have hle := bs_le s i
    have h1 : ¬ ((Utf8.decode (bs s) i).1 : Int) < 48 := by omega
    have h2 : 57 < ((Utf8.decode (bs s) i).1 : Int) := by omega
    rw [if_neg (by omega)] at he
    rw [he]
    simp only [go_sem, Nat.reduceEqDiff, Nat.reduceAdd, Nat.reduceSub, Nat.reduceMul, Nat.reduceLT, Nat.reduceLeDiff, ↓reduceIte, reduceCtorEq, List.reduceReplicate, Int.cast_ofNat_Int, Int.reduceEq, Int.reduceLT, Int.reduceLE, decide_eq_true hlt', decide_eq_false h1, decide_eq_true h2]
    repeat' (first
    | with_reducible refine And.intro ?_ ?_
    | (intros; (try simp only [Bool.and_eq_true, Bool.or_eq_true, Bool.not_eq_true', Bool.not_eq_false', Bool.and_eq_false_iff, Bool.or_eq_false_iff, decide_eq_true_eq, decide_eq_false_iff_not] at *); omega)
    | (apply fs_nil <;> (try simp only [go_sem, resV, resS, SV.ren, SV.renL, Cell.ren, St.tmF, St.hpF, idx, renO, Row.ren, evS, slot, lookR, Nat.reduceEqDiff, ↓reduceIte, reduceCtorEq, if_true, if_false, Option.getD_some, Option.getD_none, List.map_cons, List.map_nil, sLoad, readAt, readNeed, Ints_ren, Ints_length, Ints_getD, and_true, true_and, List.getD_cons_zero, List.getD_cons_succ]) <;> (try rfl)))
end Go.Proofs.YteokppcgmfbnkaaDoor
-- NEWGO
-- PRUNE: cl_lendx cl_use cl_lend
namespace Go.Proofs.YteokppcgmfbnkaaDoor
set_option linter.unusedVariables false
set_option linter.unusedSimpArgs false
open Go.Proofs.YteokppcgmfbnkaaDoor.Sh
set_option maxRecDepth 20000
def cut1 (c : UInt8) (s : Str) : Str × Str × Bool := if Lib.indexByte s c < 0 then (s, [], false) else (s.take (Lib.indexByte s c).toNat, s.drop ((Lib.indexByte s c).toNat + 1), true)
theorem ix_rng (c : UInt8) (s : Str) : Lib.indexByte s c = -1 ∨ ∃ k : Nat, Lib.indexByte s c = k ∧ k < s.length := by
  rcases spl_idx c s [] with ⟨_, h, _, _⟩ | ⟨k, h1, _, h3, _⟩
  · exact .inl h
  · exact .inr ⟨k, h1, by assumption⟩
theorem lcut_spec (c : UInt8) (s : Str) (hs : s.length ≤ 9223372036854775806) : FnSpec Tryd.prog 68 [s1 s, s1 [c]] [] (.tup [s1 (cut1 c s).1, s1 (cut1 c s).2.1, b1 (cut1 c s).2.2]) [] := by
  have h1 := indexC_spec c s (by omega)
  unfold cut1
  rcases ix_rng c s with h | ⟨k, h, hk⟩
  · rw [h] at h1 ⊢
    rw [if_pos (by decide)]
    refine fnspec_of mixed TT_ok TT_cl ⟨fun _ => false, fun _ => [], 0, fun _ => false, fun _ => false⟩ Tryd.func68 rfl (by kernel_rfl) rfl 23 rfl [.tmp 4, .tmp 5, .tmp 6] rfl ?_
    simp only [go_sem, Nat.reduceEqDiff, Nat.reduceAdd, Nat.reduceSub, Nat.reduceMul, Nat.reduceLT, Nat.reduceLeDiff, ↓reduceIte, reduceCtorEq, List.reduceReplicate, Int.cast_ofNat_Int, Int.reduceEq, Int.reduceLT, Int.reduceLE]
    repeat' (first
    | (apply cl_plain
       case hs => rfl
       case ha => (simp only [List.map_cons, List.map_nil, prepV, prepC, idx, hpL', lookR, Nat.reduceEqDiff, if_true, if_false]; rfl)
       case h => (first | exact h1 ..))
    | ((first | refine s1_id ?_ | refine swp_id ?_ | refine sops_id ?_ | refine s2_id ?_); simp only [go_sem, Nat.reduceEqDiff, Nat.reduceAdd, Nat.reduceSub, Nat.reduceMul, Nat.reduceLT, Nat.reduceLeDiff, ↓reduceIte, reduceCtorEq, List.reduceReplicate, Int.cast_ofNat_Int, Int.reduceEq, Int.reduceLT, Int.reduceLE, SV.ren, SV.renL, Cell.ren, Row.ren, renO, bk, back, outUpsFrom, Ints_ren])
    | (apply fs_nil <;> (try simp only [go_sem, resV, resS, SV.ren, SV.renL, Cell.ren, St.tmF, St.hpF, idx, renO, Row.ren, evS, slot, lookR, Nat.reduceEqDiff, ↓reduceIte, reduceCtorEq, if_true, if_false, Option.getD_some, Option.getD_none, List.map_cons, List.map_nil, sLoad, readAt, readNeed, Ints_ren, Ints_length, Ints_getD, and_true, true_and, List.getD_cons_zero, List.getD_cons_succ]) <;> (try rfl)))
  · rw [h] at h1 ⊢
    rw [if_neg (by omega), Int.toNat_natCast]
    have h0 : 0 ≤ (k : Int) := by omega
    have hin : ((k : Int) + 1).toNat = k + 1 := by omega
    have htl : s.take s.length = s := List.take_length
    refine fnspec_of mixed TT_ok TT_cl ⟨fun _ => false, fun _ => [], 0, fun _ => false, fun _ => false⟩ Tryd.func68 rfl (by kernel_rfl) rfl 23 rfl [.tmp 4, .tmp 5, .tmp 6] rfl ?_
    simp only [go_sem, Nat.reduceEqDiff, Nat.reduceAdd, Nat.reduceSub, Nat.reduceMul, Nat.reduceLT, Nat.reduceLeDiff, ↓reduceIte, reduceCtorEq, List.reduceReplicate, Int.cast_ofNat_Int, Int.reduceEq, Int.reduceLT, Int.reduceLE, decide_eq_true h0, hin, htl]
    repeat' (first
    | with_reducible refine And.intro ?_ ?_
    | (unfold OKC; kernel_rfl)
    | (unfold EDG; kernel_rfl)
    | (intros; (try simp only [Bool.and_eq_true, Bool.or_eq_true, Bool.not_eq_true', Bool.not_eq_false', Bool.and_eq_false_iff, Bool.or_eq_false_iff, decide_eq_true_eq, decide_eq_false_iff_not] at *); omega)
    | (apply cl_plain
       case hs => rfl
       case ha => (simp only [List.map_cons, List.map_nil, prepV, prepC, idx, hpL', lookR, Nat.reduceEqDiff, if_true, if_false]; rfl)
       case h => (first | exact h1 ..))
    | ((first | refine s1_id ?_ | refine swp_id ?_ | refine sops_id ?_ | refine s2_id ?_); simp only [decide_eq_true h0, hin, htl, go_sem, Nat.reduceEqDiff, Nat.reduceAdd, Nat.reduceSub, Nat.reduceMul, Nat.reduceLT, Nat.reduceLeDiff, ↓reduceIte, reduceCtorEq, List.reduceReplicate, Int.cast_ofNat_Int, Int.reduceEq, Int.reduceLT, Int.reduceLE, SV.ren, SV.renL, Cell.ren, Row.ren, renO, bk, back, outUpsFrom, Ints_ren])
    | (apply fs_nil <;> (try simp only [go_sem, resV, resS, SV.ren, SV.renL, Cell.ren, St.tmF, St.hpF, idx, renO, Row.ren, evS, slot, lookR, Nat.reduceEqDiff, ↓reduceIte, reduceCtorEq, if_true, if_false, Option.getD_some, Option.getD_none, List.map_cons, List.map_nil, sLoad, readAt, readNeed, Ints_ren, Ints_length, Ints_getD, and_true, true_and, List.getD_cons_zero, List.getD_cons_succ]) <;> (try rfl)))
theorem cut_spec (c : UInt8) (s : Str) (hs : s.length ≤ 9223372036854775806) : FnSpec Tryd.prog 44 [s1 s, s1 [c]] [] (.tup [s1 (cut1 c s).1, s1 (cut1 c s).2.1, b1 (cut1 c s).2.2]) [] := by
  have h1 := lcut_spec c s hs
  refine fnspec_of mixed TT_ok TT_cl ⟨fun _ => false, fun _ => [], 0, fun _ => false, fun _ => false⟩ Tryd.func44 rfl (by kernel_rfl) rfl 13 rfl [.tmp 4, .tmp 5, .tmp 6] rfl ?_
  simp only [go_sem, Nat.reduceEqDiff, Nat.reduceAdd, Nat.reduceSub, Nat.reduceMul, Nat.reduceLT, Nat.reduceLeDiff, ↓reduceIte, reduceCtorEq, List.reduceReplicate, Int.cast_ofNat_Int, Int.reduceEq, Int.reduceLT, Int.reduceLE]
  repeat' (first
    | (apply cl_plain
       case hs => rfl
       case ha => (simp only [List.map_cons, List.map_nil, prepV, prepC, idx, hpL', lookR, Nat.reduceEqDiff, if_true, if_false]; rfl)
       case h => (first | exact h1 ..))
    | ((first | refine s1_id ?_ | refine swp_id ?_ | refine sops_id ?_ | refine s2_id ?_); simp only [go_sem, Nat.reduceEqDiff, Nat.reduceAdd, Nat.reduceSub, Nat.reduceMul, Nat.reduceLT, Nat.reduceLeDiff, ↓reduceIte, reduceCtorEq, List.reduceReplicate, Int.cast_ofNat_Int, Int.reduceEq, Int.reduceLT, Int.reduceLE, SV.ren, SV.renL, Cell.ren, Row.ren, renO, bk, back, outUpsFrom, Ints_ren])
    | (apply fs_nil <;> (try simp only [go_sem, resV, resS, SV.ren, SV.renL, Cell.ren, St.tmF, St.hpF, idx, renO, Row.ren, evS, slot, lookR, Nat.reduceEqDiff, ↓reduceIte, reduceCtorEq, if_true, if_false, Option.getD_some, Option.getD_none, List.map_cons, List.map_nil, sLoad, readAt, readNeed, Ints_ren, Ints_length, Ints_getD, and_true, true_and, List.getD_cons_zero, List.getD_cons_succ]) <;> (try rfl)))
def pSn (s : Str) : (Int × Int) × Bool :=
  if (cut1 45 s).2.2 = true then (((pN (cut1 45 s).1).1, (pN (cut1 45 s).2.1).1), ((pN (cut1 45 s).1).2 && (pN (cut1 45 s).2.1).2) && decide ((pN (cut1 45 s).1).1 ≤ (pN (cut1 45 s).2.1).1))
  else (((pN (cut1 45 s).1).1, (pN (cut1 45 s).1).1), (pN (cut1 45 s).1).2)
theorem cut1_len (c : UInt8) (s : Str) : (cut1 c s).1.length ≤ s.length ∧ (cut1 c s).2.1.length ≤ s.length := by
  unfold cut1
  split
  · exact ⟨Nat.le_refl _, Nat.zero_le _⟩
  · simp only [List.length_take, List.length_drop]; omega
theorem span_spec (s : Str) (hs : s.length ≤ 9223372036854775806) : FnSpec Tryd.prog 30 [s1 s] [] (.tup [.agg [int (pSn s).1.1, int (pSn s).1.2], b1 (pSn s).2]) [] := by
  have h1 := cut_spec 45 s hs
  obtain ⟨l1, l2⟩ := cut1_len 45 s
  unfold pSn
  generalize cut1 45 s = u at *
  obtain ⟨l, r, two⟩ := u
  simp only at l1 l2 ⊢
  have h2 := parseN_spec l (by omega)
  have h3 := parseN_spec r (by omega)
  generalize pN l = a at *
  generalize pN r = b at *
  obtain ⟨a, ok⟩ := a
  obtain ⟨b, fine⟩ := b
  cases two with
  | false =>
    simp only [Bool.false_eq_true, if_false]
    refine fnspec_of mixed TT_ok TT_cl ⟨fun _ => false, fun _ => [], 0, fun _ => false, fun _ => false⟩ Tryd.func30 rfl (by kernel_rfl) rfl 45 rfl [.cell 2 61, .tmp 3] rfl ?_
    simp only [go_sem, Nat.reduceEqDiff, Nat.reduceAdd, Nat.reduceSub, Nat.reduceMul, Nat.reduceLT, Nat.reduceLeDiff, ↓reduceIte, reduceCtorEq, List.reduceReplicate, Int.cast_ofNat_Int, Int.reduceEq, Int.reduceLT, Int.reduceLE]
    repeat' (first
    | with_reducible refine And.intro ?_ ?_
    | (intros; (try simp only [Bool.and_eq_true, Bool.or_eq_true, Bool.not_eq_true', Bool.not_eq_false', Bool.and_eq_false_iff, Bool.or_eq_false_iff, decide_eq_true_eq, decide_eq_false_iff_not] at *); omega)
    | (apply cl_plain
       case hs => rfl
       case ha => (simp only [List.map_cons, List.map_nil, prepV, prepC, idx, hpL', lookR, Nat.reduceEqDiff, if_true, if_false]; rfl)
       case h => (first | exact h1 .. | exact h2 .. | exact h3 ..))
    | ((first | refine s1_id ?_ | refine swp_id ?_ | refine sops_id ?_ | refine s2_id ?_); simp only [go_sem, Nat.reduceEqDiff, Nat.reduceAdd, Nat.reduceSub, Nat.reduceMul, Nat.reduceLT, Nat.reduceLeDiff, ↓reduceIte, reduceCtorEq, List.reduceReplicate, Int.cast_ofNat_Int, Int.reduceEq, Int.reduceLT, Int.reduceLE, SV.ren, SV.renL, Cell.ren, Row.ren, renO, bk, back, outUpsFrom, Ints_ren])
    | (apply fs_nil <;> (try simp only [go_sem, resV, resS, SV.ren, SV.renL, Cell.ren, St.tmF, St.hpF, idx, renO, Row.ren, evS, slot, lookR, Nat.reduceEqDiff, ↓reduceIte, reduceCtorEq, if_true, if_false, Option.getD_some, Option.getD_none, List.map_cons, List.map_nil, sLoad, readAt, readNeed, Ints_ren, Ints_length, Ints_getD, and_true, true_and, List.getD_cons_zero, List.getD_cons_succ]) <;> (try rfl)))
  | true =>
    simp only [if_true]
    cases ok with
    | false =>
      simp only [Bool.false_and]
      refine fnspec_of mixed TT_ok TT_cl ⟨fun _ => false, fun _ => [], 0, fun _ => false, fun _ => false⟩ Tryd.func30 rfl (by kernel_rfl) rfl 45 rfl [.cell 2 61, .tmp 3] rfl ?_
      simp only [go_sem, Nat.reduceEqDiff, Nat.reduceAdd, Nat.reduceSub, Nat.reduceMul, Nat.reduceLT, Nat.reduceLeDiff, ↓reduceIte, reduceCtorEq, List.reduceReplicate, Int.cast_ofNat_Int, Int.reduceEq, Int.reduceLT, Int.reduceLE]
      repeat' (first
    | with_reducible refine And.intro ?_ ?_
    | (intros; (try simp only [Bool.and_eq_true, Bool.or_eq_true, Bool.not_eq_true', Bool.not_eq_false', Bool.and_eq_false_iff, Bool.or_eq_false_iff, decide_eq_true_eq, decide_eq_false_iff_not] at *); omega)
    | (apply cl_plain
       case hs => rfl
       case ha => (simp only [List.map_cons, List.map_nil, prepV, prepC, idx, hpL', lookR, Nat.reduceEqDiff, if_true, if_false]; rfl)
       case h => (first | exact h1 .. | exact h2 .. | exact h3 ..))
    | ((first | refine s1_id ?_ | refine swp_id ?_ | refine sops_id ?_ | refine s2_id ?_); simp only [go_sem, Nat.reduceEqDiff, Nat.reduceAdd, Nat.reduceSub, Nat.reduceMul, Nat.reduceLT, Nat.reduceLeDiff, ↓reduceIte, reduceCtorEq, List.reduceReplicate, Int.cast_ofNat_Int, Int.reduceEq, Int.reduceLT, Int.reduceLE, SV.ren, SV.renL, Cell.ren, Row.ren, renO, bk, back, outUpsFrom, Ints_ren])
    | (apply fs_nil <;> (try simp only [go_sem, resV, resS, SV.ren, SV.renL, Cell.ren, St.tmF, St.hpF, idx, renO, Row.ren, evS, slot, lookR, Nat.reduceEqDiff, ↓reduceIte, reduceCtorEq, if_true, if_false, Option.getD_some, Option.getD_none, List.map_cons, List.map_nil, sLoad, readAt, readNeed, Ints_ren, Ints_length, Ints_getD, and_true, true_and, List.getD_cons_zero, List.getD_cons_succ]) <;> (try rfl)))
    | true =>
      cases fine with
      | false =>
        simp only [Bool.true_and, Bool.false_and]
        refine fnspec_of mixed TT_ok TT_cl ⟨fun _ => false, fun _ => [], 0, fun _ => false, fun _ => false⟩ Tryd.func30 rfl (by kernel_rfl) rfl 45 rfl [.cell 2 61, .tmp 3] rfl ?_
        simp only [go_sem, Nat.reduceEqDiff, Nat.reduceAdd, Nat.reduceSub, Nat.reduceMul, Nat.reduceLT, Nat.reduceLeDiff, ↓reduceIte, reduceCtorEq, List.reduceReplicate, Int.cast_ofNat_Int, Int.reduceEq, Int.reduceLT, Int.reduceLE]
        repeat' (first
    | with_reducible refine And.intro ?_ ?_
    | (intros; (try simp only [Bool.and_eq_true, Bool.or_eq_true, Bool.not_eq_true', Bool.not_eq_false', Bool.and_eq_false_iff, Bool.or_eq_false_iff, decide_eq_true_eq, decide_eq_false_iff_not] at *); omega)
    | (apply cl_plain
       case hs => rfl
       case ha => (simp only [List.map_cons, List.map_nil, prepV, prepC, idx, hpL', lookR, Nat.reduceEqDiff, if_true, if_false]; rfl)
       case h => (first | exact h1 .. | exact h2 .. | exact h3 ..))
    | ((first | refine s1_id ?_ | refine swp_id ?_ | refine sops_id ?_ | refine s2_id ?_); simp only [go_sem, Nat.reduceEqDiff, Nat.reduceAdd, Nat.reduceSub, Nat.reduceMul, Nat.reduceLT, Nat.reduceLeDiff, ↓reduceIte, reduceCtorEq, List.reduceReplicate, Int.cast_ofNat_Int, Int.reduceEq, Int.reduceLT, Int.reduceLE, SV.ren, SV.renL, Cell.ren, Row.ren, renO, bk, back, outUpsFrom, Ints_ren])
    | (apply fs_nil <;> (try simp only [go_sem, resV, resS, SV.ren, SV.renL, Cell.ren, St.tmF, St.hpF, idx, renO, Row.ren, evS, slot, lookR, Nat.reduceEqDiff, ↓reduceIte, reduceCtorEq, if_true, if_false, Option.getD_some, Option.getD_none, List.map_cons, List.map_nil, sLoad, readAt, readNeed, Ints_ren, Ints_length, Ints_getD, and_true, true_and, List.getD_cons_zero, List.getD_cons_succ]) <;> (try rfl)))
      | true =>
        simp only [Bool.true_and]
        refine fnspec_of mixed TT_ok TT_cl ⟨fun _ => false, fun _ => [], 0, fun _ => false, fun _ => false⟩ Tryd.func30 rfl (by kernel_rfl) rfl 45 rfl [.cell 2 61, .tmp 3] rfl ?_
        simp only [go_sem, Nat.reduceEqDiff, Nat.reduceAdd, Nat.reduceSub, Nat.reduceMul, Nat.reduceLT, Nat.reduceLeDiff, ↓reduceIte, reduceCtorEq, List.reduceReplicate, Int.cast_ofNat_Int, Int.reduceEq, Int.reduceLT, Int.reduceLE]
        repeat' (first
    | with_reducible refine And.intro ?_ ?_
    | (intros; (try simp only [Bool.and_eq_true, Bool.or_eq_true, Bool.not_eq_true', Bool.not_eq_false', Bool.and_eq_false_iff, Bool.or_eq_false_iff, decide_eq_true_eq, decide_eq_false_iff_not] at *); omega)
    | (apply cl_plain
       case hs => rfl
       case ha => (simp only [List.map_cons, List.map_nil, prepV, prepC, idx, hpL', lookR, Nat.reduceEqDiff, if_true, if_false]; rfl)
       case h => (first | exact h1 .. | exact h2 .. | exact h3 ..))
    | ((first | refine s1_id ?_ | refine swp_id ?_ | refine sops_id ?_ | refine s2_id ?_); simp only [go_sem, Nat.reduceEqDiff, Nat.reduceAdd, Nat.reduceSub, Nat.reduceMul, Nat.reduceLT, Nat.reduceLeDiff, ↓reduceIte, reduceCtorEq, List.reduceReplicate, Int.cast_ofNat_Int, Int.reduceEq, Int.reduceLT, Int.reduceLE, SV.ren, SV.renL, Cell.ren, Row.ren, renO, bk, back, outUpsFrom, Ints_ren])
    | (apply fs_nil <;> (try simp only [go_sem, resV, resS, SV.ren, SV.renL, Cell.ren, St.tmF, St.hpF, idx, renO, Row.ren, evS, slot, lookR, Nat.reduceEqDiff, ↓reduceIte, reduceCtorEq, if_true, if_false, Option.getD_some, Option.getD_none, List.map_cons, List.map_nil, sLoad, readAt, readNeed, Ints_ren, Ints_length, Ints_getD, and_true, true_and, List.getD_cons_zero, List.getD_cons_succ]) <;> (try rfl)))
end Go.Proofs.YteokppcgmfbnkaaDoor
-- NEWGO
-- PRUNE: cl_lendx cl_use cl_lend
-- ISG: Strs_isG
-- FLAT: Strs_flat
namespace Go.Proofs.YteokppcgmfbnkaaDoor
set_option linter.unusedVariables false
set_option linter.unusedSimpArgs false
open Go.Proofs.YteokppcgmfbnkaaDoor.Sh
set_option maxRecDepth 20000
abbrev dec (n : Nat) : Str := Lib.decDigits n
theorem dec_lo {n : Nat} (h : n < 10) : dec n = [UInt8.ofNat (48 + n)] := Lib.decDigits_one h
theorem dec_hi {n : Nat} (h : ¬ n < 10) : dec n = dec (n / 10) ++ [UInt8.ofNat (48 + n % 10)] := by
  show Lib.decDigits n = _
  rw [Lib.decDigits, dif_neg h]
theorem itoa_spec (n : Nat) (h : n < 100) : FnSpec Tryd.prog 35 [i1 n] [] (s1 (dec n)) [] := by
  refine FnSpec.of_calls Tryd.func35 (by kernel_rfl) (by kernel_rfl) trivial fun w vals m hm hv => ?_
  generalize hvs : vals.toList = vs at hv
  match vs, hv with
  | [u], ⟨hu, _⟩ =>
    have hvals : vals = #[u] := by apply Array.ext'; exact hvs
    have eu : u = .int .i64 n := by cases hu; rfl
    subst hvals; subst eu
    refine (Tryd.strconv_Itoa_small n h w).mono fun e w' ⟨h1, h2⟩ => ?_
    subst h1; subst h2
    exact ⟨_, rfl, VG.sc _ rfl, RowKit.Below.refl _ _⟩
theorem dec_len (n : Nat) (h : n < 100) : (dec n).length ≤ 2 := by
  by_cases h10 : n < 10
  · rw [dec_lo h10]; exact Nat.le_of_ble_eq_true rfl
  · rw [dec_hi h10, dec_lo (by omega)]; exact Nat.le_refl _
def ascF : List Int → Int → Bool
  | [], _ => true
  | x :: r, last => decide (last < x) && ascF r x
theorem idrop (l : List Int) (i : Nat) (h : i < l.length) : l.drop i = l.getD i 0 :: l.drop (i + 1) := by
  rw [List.drop_eq_getElem_cons h, List.getD_eq_getElem?_getD, List.getElem?_eq_getElem h]
  rfl
set_option maxHeartbeats 4000000 in
theorem asc_spec (l : List Int) (k : Option Nat) (hl : l.length ≤ 9223372036854775806) : FnSpec Tryd.prog 34 [gi l k] [] (b1 (ascF l (-1))) [] := by
  refine fnspec_of mixed TT_ok TT_cl ⟨fun _ => false, fun _ => [], 0, fun _ => false, fun _ => false⟩ Tryd.func34 rfl (by kernel_rfl) rfl 17 rfl [.tmp 2] rfl ?_
  simp only [go_sem, Nat.reduceEqDiff, Nat.reduceAdd, Nat.reduceSub, Nat.reduceMul, Nat.reduceLT, Nat.reduceLeDiff, ↓reduceIte, reduceCtorEq, List.reduceReplicate, Int.cast_ofNat_Int, Int.reduceEq, Int.reduceLT, Int.reduceLE]
  repeat' (first
    | ((first | refine s1_id ?_ | refine swp_id ?_ | refine sops_id ?_ | refine s2_id ?_); simp only [go_sem, Nat.reduceEqDiff, Nat.reduceAdd, Nat.reduceSub, Nat.reduceMul, Nat.reduceLT, Nat.reduceLeDiff, ↓reduceIte, reduceCtorEq, List.reduceReplicate, Int.cast_ofNat_Int, Int.reduceEq, Int.reduceLT, Int.reduceLE, SV.ren, SV.renL, Cell.ren, Row.ren, renO, bk, back, outUpsFrom, Ints_ren]))
  refine w_loop (ι := Nat × Int) (fun p => ⟨[(3, i1 p.2), (6, gi l k), (7, i1 l.length), (8, i1 p.1)], [], 0⟩) (fun p => p.1 ≤ l.length ∧ ascF l (-1) = ascF (l.drop p.1) p.2) (fun p => l.length - p.1) (0, -1) ?_ ⟨Nat.zero_le _, rfl⟩ ?_
  · (refine imp_sub _ _ _ [] (by simp) (by simp) (by simp) (Nat.zero_le _) ?_ rfl (by simp); simp only [List.forall_mem_cons, List.not_mem_nil, false_implies, implies_true, and_true, lk, slot, SV.ren, Cell.ren, Nat.reduceEqDiff, if_true, if_false, ↓reduceIte, reduceCtorEq])
    all_goals ((repeat' apply And.intro) <;> (first | rfl | trivial))
  rintro ⟨i, last⟩ ⟨hi, he⟩
  simp only at hi he ⊢
  rcases Nat.lt_or_ge i l.length with hlt | hge
  case inr =>
    have c : ¬ (i : Int) < (l.length : Int) := by omega
    rw [List.drop_of_length_le hge] at he
    rw [he]
    simp only [go_sem, Nat.reduceEqDiff, Nat.reduceAdd, Nat.reduceSub, Nat.reduceMul, Nat.reduceLT, Nat.reduceLeDiff, ↓reduceIte, reduceCtorEq, List.reduceReplicate, Int.cast_ofNat_Int, Int.reduceEq, Int.reduceLT, Int.reduceLE, decide_eq_false c, ascF]
    repeat' (first
    | (apply fs_nil <;> (try simp only [go_sem, resV, resS, SV.ren, SV.renL, Cell.ren, St.tmF, St.hpF, idx, renO, Row.ren, evS, slot, lookR, Nat.reduceEqDiff, ↓reduceIte, reduceCtorEq, if_true, if_false, Option.getD_some, Option.getD_none, List.map_cons, List.map_nil, sLoad, readAt, readNeed, Ints_ren, Ints_length, Ints_getD, and_true, true_and, List.getD_cons_zero, List.getD_cons_succ]) <;> (try rfl)))
  have c : (i : Int) < (l.length : Int) := by omega
  rw [idrop l i hlt, ascF] at he
  obtain ⟨x, hx⟩ : ∃ x, l.getD i 0 = x := ⟨_, rfl⟩
  rw [hx] at he
  by_cases c2 : x ≤ last
  · rw [decide_eq_false (by omega), Bool.false_and] at he
    rw [he]
    simp only [go_sem, Nat.reduceEqDiff, Nat.reduceAdd, Nat.reduceSub, Nat.reduceMul, Nat.reduceLT, Nat.reduceLeDiff, ↓reduceIte, reduceCtorEq, List.reduceReplicate, Int.cast_ofNat_Int, Int.reduceEq, Int.reduceLT, Int.reduceLE, decide_eq_true c, hx, decide_eq_true c2]
    repeat' (first
    | with_reducible refine And.intro ?_ ?_
    | (intros; (try simp only [Bool.and_eq_true, Bool.or_eq_true, Bool.not_eq_true', Bool.not_eq_false', Bool.and_eq_false_iff, Bool.or_eq_false_iff, decide_eq_true_eq, decide_eq_false_iff_not] at *); omega)
    | (apply fs_nil <;> (try simp only [go_sem, resV, resS, SV.ren, SV.renL, Cell.ren, St.tmF, St.hpF, idx, renO, Row.ren, evS, slot, lookR, Nat.reduceEqDiff, ↓reduceIte, reduceCtorEq, if_true, if_false, Option.getD_some, Option.getD_none, List.map_cons, List.map_nil, sLoad, readAt, readNeed, Ints_ren, Ints_length, Ints_getD, and_true, true_and, List.getD_cons_zero, List.getD_cons_succ]) <;> (try rfl)))
  · rw [decide_eq_true (by omega), Bool.true_and] at he
    simp only [go_sem, Nat.reduceEqDiff, Nat.reduceAdd, Nat.reduceSub, Nat.reduceMul, Nat.reduceLT, Nat.reduceLeDiff, ↓reduceIte, reduceCtorEq, List.reduceReplicate, Int.cast_ofNat_Int, Int.reduceEq, Int.reduceLT, Int.reduceLE, decide_eq_true c, hx, decide_eq_false c2]
    repeat' (first
    | with_reducible refine And.intro ?_ ?_
    | (intros; (try simp only [Bool.and_eq_true, Bool.or_eq_true, Bool.not_eq_true', Bool.not_eq_false', Bool.and_eq_false_iff, Bool.or_eq_false_iff, decide_eq_true_eq, decide_eq_false_iff_not] at *); omega)
    | ((first | refine s1_id ?_ | refine swp_id ?_ | refine sops_id ?_ | refine s2_id ?_); simp only [decide_eq_true c, hx, decide_eq_false c2, go_sem, Nat.reduceEqDiff, Nat.reduceAdd, Nat.reduceSub, Nat.reduceMul, Nat.reduceLT, Nat.reduceLeDiff, ↓reduceIte, reduceCtorEq, List.reduceReplicate, Int.cast_ofNat_Int, Int.reduceEq, Int.reduceLT, Int.reduceLE, SV.ren, SV.renL, Cell.ren, Row.ren, renO, bk, back, outUpsFrom, Ints_ren]))
    refine le_mk (i + 1, x) ?_ ⟨by show i + 1 ≤ l.length; omega, he⟩ (by show l.length - (i + 1) < l.length - i; omega)
    (refine imp_sub _ _ _ [] (by simp) (by simp) (by simp) (Nat.zero_le _) ?_ rfl (by simp); simp only [List.forall_mem_cons, List.not_mem_nil, false_implies, implies_true, and_true, lk, slot, SV.ren, Cell.ren, Nat.reduceEqDiff, if_true, if_false, ↓reduceIte, reduceCtorEq])
    all_goals ((repeat' apply And.intro) <;> (first | rfl | trivial | (simp only [Int.natCast_add]; done) | (simp only [Int.natCast_add]; rfl) | (simp only [Int.natCast_add]; trivial)))
def rnN : Int → List Int → Nat
  | _, [] => 0
  | x, y :: r => if y = x + 1 then rnN y r + 1 else 0
def prt1 (x : Int) (k : Nat) : Str := if 0 < k then dec x.toNat ++ 45 :: dec (x + k).toNat else dec x.toNat
def prt : List Int → List Str
  | [] => []
  | x :: r => prt1 x (rnN x r) :: prt (r.drop (rnN x r))
termination_by l => l.length
decreasing_by simp only [List.length_drop, List.length_cons]; omega
end Go.Proofs.YteokppcgmfbnkaaDoor
-- NEWGO
-- PRUNE: cl_lendx cl_use
namespace Go.Proofs.YteokppcgmfbnkaaDoor
set_option linter.unusedVariables false
set_option linter.unusedSimpArgs false
open Go.Proofs.YteokppcgmfbnkaaDoor.Sh
set_option maxRecDepth 20000
abbrev Asc (l : List Int) : Prop := l.Pairwise (· < ·)
theorem asc_ext : ∀ (a b : List Int), Asc a → Asc b → (∀ x, x ∈ a ↔ x ∈ b) → a = b
  | [], [], _, _, _ => rfl
  | [], y :: b, _, _, h => absurd ((h y).2 List.mem_cons_self) List.not_mem_nil
  | x :: a, [], _, _, h => absurd ((h x).1 List.mem_cons_self) List.not_mem_nil
  | x :: a, y :: b, ha, hb, h => by
    rw [Asc, List.pairwise_cons] at ha hb
    have hxy : x = y := by
      rcases List.mem_cons.1 ((h x).1 List.mem_cons_self) with e | hx
      · exact e
      · rcases List.mem_cons.1 ((h y).2 List.mem_cons_self) with e | hy
        · exact e.symm
        · have := ha.1 y hy; have := hb.1 x hx; omega
    subst hxy
    rw [asc_ext a b ha.2 hb.2 fun z => ⟨fun hz => ?_, fun hz => ?_⟩]
    · rcases List.mem_cons.1 ((h z).1 (List.mem_cons_of_mem _ hz)) with e | h2
      · have := ha.1 z hz; omega
      · exact h2
    · rcases List.mem_cons.1 ((h z).2 (List.mem_cons_of_mem _ hz)) with e | h2
      · have := hb.1 z hz; omega
      · exact h2
theorem asc_snoc {l : List Int} {x : Int} (h : Asc l) (hx : ∀ y ∈ l, y < x) : Asc (l ++ [x]) :=
  List.pairwise_append.2 ⟨h, List.pairwise_singleton _ _, fun a ha b hb => by rw [List.mem_singleton.1 hb]; exact hx a ha⟩
theorem asc_len : ∀ (l : List Int) (a b : Int), Asc l → (∀ y ∈ l, a ≤ y ∧ y < b) → (l.length : Int) ≤ max 0 (b - a)
  | [], a, b, _, _ => by simp; omega
  | x :: l, a, b, h, hb => by
    rw [Asc, List.pairwise_cons] at h
    have h0 := hb x List.mem_cons_self
    have := asc_len l (x + 1) b h.2 fun y hy => ⟨by have := h.1 y hy; omega, (hb y (List.mem_cons_of_mem _ hy)).2⟩
    rw [List.length_cons]; omega
def ins (x : Int) : List Int → List Int
  | [] => [x]
  | y :: r => if x < y then x :: y :: r else if x = y then y :: r else y :: ins x r
theorem ins_mem (x z : Int) : ∀ l, z ∈ ins x l ↔ z = x ∨ z ∈ l
  | [] => by simp [ins]
  | y :: r => by
    unfold ins
    by_cases h1 : x < y
    · rw [if_pos h1, List.mem_cons]
    · rw [if_neg h1]
      by_cases h2 : x = y
      · rw [if_pos h2, List.mem_cons]; subst h2; simp
      · rw [if_neg h2, List.mem_cons, List.mem_cons, ins_mem x z r]
        constructor
        · rintro (h | h | h) <;> simp [h]
        · rintro (h | h | h) <;> simp [h]
theorem ins_asc (x : Int) : ∀ l, Asc l → Asc (ins x l)
  | [], _ => List.pairwise_singleton _ _
  | y :: r, h => by
    have h0 := h
    rw [Asc, List.pairwise_cons] at h
    unfold ins
    by_cases h1 : x < y
    · rw [if_pos h1]
      refine List.pairwise_cons.2 ⟨fun z hz => ?_, h0⟩
      rcases List.mem_cons.1 hz with e | hz
      · omega
      · have := h.1 z hz; omega
    · rw [if_neg h1]
      by_cases h2 : x = y
      · rw [if_pos h2]; exact h0
      · rw [if_neg h2]
        refine List.pairwise_cons.2 ⟨fun z hz => ?_, ins_asc x r h.2⟩
        rcases (ins_mem x z r).1 hz with e | hz
        · omega
        · exact h.1 z hz
def srtA : List Int → List Int → List Int
  | acc, [] => acc
  | acc, x :: r => srtA (ins x acc) r
def srt (l : List Int) : List Int := srtA [] l
theorem srtA_ok : ∀ l acc, Asc acc → Asc (srtA acc l) ∧ ∀ x, x ∈ srtA acc l ↔ x ∈ acc ∨ x ∈ l
  | [], acc, h => ⟨h, fun x => by simp [srtA]⟩
  | y :: r, acc, h => by
    obtain ⟨h1, h2⟩ := srtA_ok r (ins y acc) (ins_asc y acc h)
    refine ⟨h1, fun x => ?_⟩
    rw [srtA, h2, ins_mem, List.mem_cons]
    constructor
    · rintro ((h | h) | h) <;> simp [h]
    · rintro (h | h | h) <;> simp [h]
theorem srt_asc (l : List Int) : Asc (srt l) := (srtA_ok l [] List.Pairwise.nil).1
theorem srt_mem (l : List Int) (x : Int) : x ∈ srt l ↔ x ∈ l := by
  rw [srt, (srtA_ok l [] List.Pairwise.nil).2]; simp
theorem srt_eq {l a : List Int} (h : Asc a) (hm : ∀ x, x ∈ a ↔ x ∈ l) : a = srt l := asc_ext _ _ h (srt_asc l) fun x => by rw [hm, srt_mem]
def rng (p : Int × Int) : List Int := (List.range (p.2 - p.1 + 1).toNat).map fun (k : Nat) => p.1 + k
theorem rng_mem (p : Int × Int) (x : Int) : x ∈ rng p ↔ p.1 ≤ x ∧ x ≤ p.2 := by
  unfold rng
  rw [List.mem_map]
  constructor
  · rintro ⟨k, hk, rfl⟩
    rw [List.mem_range] at hk; omega
  · rintro ⟨h1, h2⟩
    exact ⟨(x - p.1).toNat, by rw [List.mem_range]; omega, by omega⟩
def uniS (sp : List (Int × Int)) : List Int := srt (sp.flatMap rng)
theorem uniS_mem (sp : List (Int × Int)) (x : Int) : x ∈ uniS sp ↔ ∃ p ∈ sp, p.1 ≤ x ∧ x ≤ p.2 := by
  rw [uniS, srt_mem, List.mem_flatMap]
  constructor
  · rintro ⟨p, hp, hx⟩; exact ⟨p, hp, (rng_mem p x).1 hx⟩
  · rintro ⟨p, hp, hx⟩; exact ⟨p, hp, (rng_mem p x).2 hx⟩
abbrev SpA := {p : Int × Int // 0 ≤ p.1 ∧ p.1 ≤ 1000000000}
instance : Inhabited SpA := ⟨⟨(0, 0), by decide⟩⟩
abbrev encS (x : SpA) : List Value := [.int .i64 x.1.1, .int .i64 x.1.2]
abbrev cfS (x y : SpA) : Int := x.1.1 - y.1.1
theorem cfS_swo : Go.Sort.SWO (ltOf cfS) where
  irrefl x := by simp [ltOf, cfS]
  trans x y z h1 h2 := by simp [ltOf, cfS] at *; omega
  ntrans x y z h1 h2 := by simp [ltOf, cfS] at *; omega
theorem cmp_sp : CmpDoes Tryd.prog 54 encS cfS := by
  rintro ⟨⟨a, b⟩, ha1, ha2⟩ ⟨⟨c, d⟩, hc1, hc2⟩ W
  simp only at ha1 ha2 hc1 hc2
  have hw : IntKind.wrap .i64 (a - c) = a - c := IntWalk.i64_in _ ⟨by omega, by omega⟩
  go_enter Tryd.func54, Tryd.ntmps54
  go_wp2
  go_ret
  exact ⟨rfl, 0, _, by rw [Go.Sort.alloc_eq_grow, Go.Sort.alloc_eq_grow, Go.Sort.grow_grow]; rfl⟩
instance : Rec (Int × Int) := ⟨fun p => [int p.1, int p.2], 2, (0, 0), fun _ => rfl, fun x c h => by
  rcases List.mem_cons.1 h with rfl | h
  · rfl
  · rw [List.mem_singleton.1 h]; rfl⟩
theorem sps_lift : ∀ (sp : List (Int × Int)), (∀ p ∈ sp, 0 ≤ p.1 ∧ p.1 ≤ 1000000000) → ∃ d : List SpA, d.map Subtype.val = sp
  | [], _ => ⟨[], rfl⟩
  | p :: sp, h => by
    obtain ⟨d, hd⟩ := sps_lift sp fun q hq => h q (List.mem_cons_of_mem _ hq)
    exact ⟨⟨p, h p List.mem_cons_self⟩ :: d, by rw [List.map_cons, hd]⟩
theorem sps_val (d : List SpA) : (d.flatMap fun x => scs (encS x)) = Cs (d.map Subtype.val) := by
  rw [Cs, List.flatMap_map]
  rfl
theorem sort_spec (sp : List (Int × Int)) (h : ∀ p ∈ sp, 0 ≤ p.1 ∧ p.1 ≤ 1000000000) (hl : sp.length < 4611686018427387904) (cap : Option Nat) :
    ∃ sp' : List (Int × Int), sp'.Perm sp ∧ sp'.Pairwise (fun x y => x.1 ≤ y.1) ∧
      FnSpec Tryd.prog 53 [.one (.osl 0 0 sp.length cap), .one (.fn 54 [])] [⟨Cs sp, 2⟩] (.tup []) [some ⟨Cs sp', 2⟩] := by
  obtain ⟨d, rfl⟩ := sps_lift sp h
  rw [List.length_map] at hl ⊢
  obtain ⟨d', h1, h2, h3⟩ := FnSpec.of_sortK (P := Tryd.prog) Tryd.sortSpans 2 (by decide) (fun w => by kernel_rfl) (fun w => by kernel_rfl) encS (fun _ => rfl) (fun x v hv => by simp [encS] at hv; rcases hv with rfl | rfl <;> rfl) cfS cfS_swo ⟨_, Tryd.func53, by kernel_rfl, by kernel_rfl⟩ 54 ⟨_, Tryd.func54, by kernel_rfl, by kernel_rfl⟩ cmp_sp d hl cap
  rw [sps_val, sps_val] at h3
  refine ⟨d'.map Subtype.val, h1.map _, ?_, h3⟩
  rw [List.pairwise_map]
  exact h2.imp fun {x y} hxy => by simp only [cfS] at hxy; omega
end Go.Proofs.YteokppcgmfbnkaaDoor
-- NEWGO
-- PRUNE: cl_lendx cl_use
-- FLAT: Cs_flat
namespace Go.Proofs.YteokppcgmfbnkaaDoor
set_option linter.unusedVariables false
set_option linter.unusedSimpArgs false
open Go.Proofs.YteokppcgmfbnkaaDoor.Sh
set_option maxRecDepth 20000
abbrev spG (l : List (Int × Int)) (i : Nat) : Int × Int := l.getD i (0, 0)
theorem spG_at (l : List (Int × Int)) (i : Nat) (h : i < l.length) : l[i]? = some (spG l i) := by
  rw [spG, List.getD_eq_getElem?_getD, List.getElem?_eq_getElem h]; rfl
theorem spG_mem (l : List (Int × Int)) (i : Nat) (h : i < l.length) : spG l i ∈ l := List.mem_of_getElem? (spG_at l i h)
theorem take_spG (l : List (Int × Int)) (i : Nat) (h : i < l.length) (q : Int × Int) : q ∈ l.take (i + 1) ↔ q ∈ l.take i ∨ q = spG l i := by
  rw [List.take_add_one, spG_at l i h]; simp
def lendS : FuncId → List Nat := fun f => if f = 53 then [0] else []
structure OutI (sp : List (Int × Int)) (i : Nat) (x : Int) (L : List Int) : Prop where
  hi : i ≤ sp.length
  lo : 0 ≤ x ∧ x ≤ 65536
  asc : Asc L
  lt : ∀ y ∈ L, 0 ≤ y ∧ y < x
  mem : ∀ y, y ∈ L ↔ ∃ q ∈ sp.take i, q.1 ≤ y ∧ y ≤ q.2
  up : ∀ y, 0 ≤ y → y < x → (∀ q ∈ sp.take i, q.1 ≤ y) → y ∈ L
  las : ∀ q ∈ sp.take i, q.2 < x
structure InnI (sp : List (Int × Int)) (i : Nat) (p : Int × Int) (x : Int) (L : List Int) : Prop where
  lo : 0 ≤ x ∧ x ≤ 65536
  pl : p.1 ≤ x
  asc : Asc L
  lt : ∀ y ∈ L, 0 ≤ y ∧ y < x
  mem : ∀ y, y ∈ L ↔ (∃ q ∈ sp.take i, q.1 ≤ y ∧ y ≤ q.2) ∨ (p.1 ≤ y ∧ y ≤ p.2 ∧ y < x)
  up : ∀ y, 0 ≤ y → y < x → (∀ q ∈ sp.take i, q.1 ≤ y) → p.1 ≤ y → y ∈ L
  las : ∀ q ∈ sp.take i, q.2 < x
theorem out_inn {sp : List (Int × Int)} {i : Nat} {x : Int} {L : List Int} (h : OutI sp i x L) (hi : i < sp.length) (hs : sp.Pairwise (fun x y => x.1 ≤ y.1)) (hb : ∀ p ∈ sp, 0 ≤ p.1 ∧ p.1 ≤ p.2 ∧ p.2 < 65536) :
    InnI sp i (spG sp i) (if x < (spG sp i).1 then (spG sp i).1 else x) L := by
  have hp := hb _ (spG_mem sp i hi)
  have hso : ∀ q ∈ sp.take i, q.1 ≤ (spG sp i).1 := by
    intro q hq
    obtain ⟨k, hk, rfl⟩ := List.mem_take_iff_getElem.1 hq
    have := (List.pairwise_iff_getElem.1 hs) k i (by omega) hi (by omega)
    have e : spG sp i = sp[i] := by rw [spG, List.getD_eq_getElem?_getD, List.getElem?_eq_getElem hi]; rfl
    rw [e]; exact this
  have hlo := h.lo
  obtain ⟨m, hm⟩ : ∃ m, (if x < (spG sp i).1 then (spG sp i).1 else x) = m := ⟨_, rfl⟩
  have hmx : x ≤ m ∧ (spG sp i).1 ≤ m ∧ (m = x ∨ m = (spG sp i).1) := by
    by_cases c : x < (spG sp i).1
    · rw [if_pos c] at hm; omega
    · rw [if_neg c] at hm; omega
  rw [hm]
  refine ⟨by omega, by omega, h.asc, fun y hy => ⟨(h.lt y hy).1, by have := (h.lt y hy).2; omega⟩, fun y => ?_, fun y h0 h1 h2 h3 => ?_, fun q hq => by have := h.las q hq; omega⟩
  · rw [h.mem]
    constructor
    · exact .inl
    · rintro (hh | ⟨h1, h2, h3⟩)
      · exact hh
      · exact (h.mem y).1 (h.up y (by omega) (by omega) fun q hq => by have := hso q hq; omega)
  · exact h.up y h0 (by omega) h2
theorem inn_step {sp : List (Int × Int)} {i : Nat} {p : Int × Int} {x : Int} {L : List Int} (h : InnI sp i p x L) (hx : x ≤ p.2) (hp : p.2 < 65536) : InnI sp i p (x + 1) (L ++ [x]) := by
  have hlo := h.lo
  have hpl := h.pl
  refine ⟨by omega, by omega, asc_snoc h.asc fun y hy => (h.lt y hy).2, fun y hy => ?_, fun y => ?_, fun y h0 h1 h2 h3 => ?_, fun q hq => by have := h.las q hq; omega⟩
  · rcases List.mem_append.1 hy with hy | hy
    · have := h.lt y hy; omega
    · rw [List.mem_singleton.1 hy]; omega
  · rw [List.mem_append, h.mem, List.mem_singleton]
    constructor
    · rintro ((hh | ⟨h1, h2, h3⟩) | rfl)
      · exact .inl hh
      · exact .inr ⟨h1, h2, by omega⟩
      · exact .inr ⟨hpl, hx, by omega⟩
    · rintro (hh | ⟨h1, h2, h3⟩)
      · exact .inl (.inl hh)
      · by_cases e : y = x
        · exact .inr e
        · exact .inl (.inr ⟨h1, h2, by omega⟩)
  · rw [List.mem_append]
    by_cases e : y = x
    · exact .inr (by rw [e]; exact List.mem_singleton_self _)
    · exact .inl (h.up y h0 (by omega) h2 h3)
theorem inn_out {sp : List (Int × Int)} {i : Nat} {x : Int} {L : List Int} (hi : i < sp.length) (h : InnI sp i (spG sp i) x L) (hx : ¬ x ≤ (spG sp i).2) : OutI sp (i + 1) x L := by
  refine ⟨hi, h.lo, h.asc, h.lt, fun y => ?_, fun y h0 h1 h2 => ?_, fun q hq => ?_⟩
  · rw [h.mem]
    constructor
    · rintro (⟨q, hq, hh⟩ | ⟨h1, h2, h3⟩)
      · exact ⟨q, (take_spG sp i hi q).2 (.inl hq), hh⟩
      · exact ⟨_, (take_spG sp i hi _).2 (.inr rfl), h1, h2⟩
    · rintro ⟨q, hq, hh⟩
      rcases (take_spG sp i hi q).1 hq with hq | rfl
      · exact .inl ⟨q, hq, hh⟩
      · exact .inr ⟨hh.1, hh.2, by omega⟩
  · exact h.up y h0 h1 (fun q hq => h2 q ((take_spG sp i hi q).2 (.inl hq))) (h2 _ ((take_spG sp i hi _).2 (.inr rfl)))
  · rcases (take_spG sp i hi q).1 hq with hq | rfl
    · exact h.las q hq
    · omega
set_option maxHeartbeats 8000000 in
theorem spread_spec (sp0 : List (Int × Int)) (hb0 : ∀ p ∈ sp0, 0 ≤ p.1 ∧ p.1 ≤ p.2 ∧ p.2 < 65536) (hl0 : sp0.length < 4611686018427387904) (cap : Option Nat) :
    ∃ sp : List (Int × Int), FnSpec Tryd.prog 33 [.one (.osl 0 0 sp0.length cap)] [⟨Cs sp0, 2⟩] (gi (uniS sp0) none) [some ⟨Cs sp, 2⟩] := by
  obtain ⟨sp, hp1, hp2, h1⟩ := sort_spec sp0 (fun p hp => by have := hb0 p hp; omega) hl0 cap
  have hl := hp1.length_eq
  have hb : ∀ p ∈ sp, 0 ≤ p.1 ∧ p.1 ≤ p.2 ∧ p.2 < 65536 := fun p hp => hb0 p (hp1.mem_iff.1 hp)
  have huni : uniS sp0 = uniS sp := by
    refine asc_ext _ _ (srt_asc _) (srt_asc _) fun x => ?_
    show x ∈ uniS sp0 ↔ x ∈ uniS sp
    rw [uniS_mem, uniS_mem]
    constructor
    · rintro ⟨p, hp, hh⟩; exact ⟨p, hp1.mem_iff.2 hp, hh⟩
    · rintro ⟨p, hp, hh⟩; exact ⟨p, hp1.mem_iff.1 hp, hh⟩
  refine ⟨sp, ?_⟩
  rw [huni]
  rw [← hl] at h1 hl0 ⊢
  clear hb0 huni hp1 hl
  refine fnspec_of mixed TT_ok TT_cl ⟨fun _ => false, lendS, 1, fun _ => false, fun _ => false⟩ Tryd.func33 rfl (by kernel_rfl) rfl 31 rfl [.tmp 2] rfl ?_
  simp only [go_sem, Nat.reduceEqDiff, Nat.reduceAdd, Nat.reduceSub, Nat.reduceMul, Nat.reduceLT, Nat.reduceLeDiff, ↓reduceIte, reduceCtorEq, List.reduceReplicate, Int.cast_ofNat_Int, Int.reduceEq, Int.reduceLT, Int.reduceLE, lendS]
  repeat' (first
    | (apply cl_lend
       case hr => (simp only [List.map_cons, List.map_nil, hpL', lookR, Nat.reduceEqDiff, if_true, if_false]; first | exact map1 _ | exact map2 _ _ | exact map3 _ _ _)
       case ha => (simp only [List.map_cons, List.map_nil, prepV, prepC, idx, hpL', lookR, Nat.reduceEqDiff, if_true, if_false]; rfl)
       case hs => rfl
       case hn => decide
       case h => (first | exact h1 ..)
       case hf => (simp only [List.forall_mem_cons, List.not_mem_nil, false_implies, implies_true, and_true, true_and, flat_cons, flat_nil, flat_ints, flat_bools, flat_app, Cs_flat, Cell.refs, and_self, eq_self_iff_true, List.append_nil])
       case hl => (simp only [List.length_cons, List.length_nil]; decide))
    | ((first | refine s1_id ?_ | refine swp_id ?_ | refine sops_id ?_ | refine s2_id ?_); simp only [lendS, go_sem, Nat.reduceEqDiff, Nat.reduceAdd, Nat.reduceSub, Nat.reduceMul, Nat.reduceLT, Nat.reduceLeDiff, ↓reduceIte, reduceCtorEq, List.reduceReplicate, Int.cast_ofNat_Int, Int.reduceEq, Int.reduceLT, Int.reduceLE, SV.ren, SV.renL, Cell.ren, Row.ren, renO, bk, back, outUpsFrom, Ints_ren]))
  refine w_loop (ι := Nat × Int × List Int) (fun s => ⟨[(3, .one (.osl 1 0 s.2.2.length none)), (4, i1 s.2.1), (9, .one (.osl 0 0 sp.length cap)), (10, i1 sp.length), (11, i1 s.1)], [(0, some ⟨Cs sp, 2⟩), (1, some ⟨Ints s.2.2, 1⟩)], 2⟩) (fun s => OutI sp s.1 s.2.1 s.2.2) (fun s => sp.length - s.1) (0, 0, []) ?_ ⟨Nat.zero_le _, ⟨Int.le_refl 0, by decide⟩, List.Pairwise.nil, fun y hy => absurd hy List.not_mem_nil, fun y => by simp, fun y h0 h1 => by simp only at h1; omega, fun q hq => by simp at hq⟩ ?_
  · refine Imp.trans (imp_nil _ _ 3 1 rfl) ?_
    (refine imp_ren _ _ _ [(0, 0, ⟨Cs sp, 2⟩), (1, 9, ⟨[], 1⟩)] (by simp) (by simp) (by simp) (Nat.le_of_ble_eq_true rfl) ?_ rfl (by simp only [List.forall_mem_cons, List.not_mem_nil, false_implies, implies_true, and_true, St.hpF, lookR, Nat.reduceEqDiff, if_true, if_false, ↓reduceIte, Cs_flat] <;> (repeat' apply And.intro) <;> (first | rfl | trivial)) (by simp only [List.forall_mem_cons, List.not_mem_nil, false_implies, implies_true, and_true, true_and, flat_cons, flat_nil, flat_ints, flat_bools, flat_app, Cell.refs, and_self, eq_self_iff_true, List.append_nil, Cs_flat]); simp only [List.map_cons, List.map_nil, List.forall_mem_cons, List.not_mem_nil, false_implies, implies_true, and_true, lk, slot, SV.ren, Cell.ren, toN, Nat.reduceEqDiff, if_true, if_false, ↓reduceIte, reduceCtorEq])
    all_goals ((repeat' apply And.intro) <;> (first | rfl | trivial))
  rintro ⟨i, x, L⟩ hI
  simp only at hI ⊢
  rcases Nat.lt_or_ge i sp.length with hlt | hge
  case inr =>
    have c : ¬ (i : Int) < (sp.length : Int) := by omega
    have hLe : L = uniS sp := by
      refine srt_eq hI.asc fun y => ?_
      rw [hI.mem, List.take_of_length_le hge, ← srt_mem, ← uniS, uniS_mem]
    subst hLe
    simp only [go_sem, Nat.reduceEqDiff, Nat.reduceAdd, Nat.reduceSub, Nat.reduceMul, Nat.reduceLT, Nat.reduceLeDiff, ↓reduceIte, reduceCtorEq, List.reduceReplicate, Int.cast_ofNat_Int, Int.reduceEq, Int.reduceLT, Int.reduceLE, decide_eq_false c, lendS]
    repeat' (first
    | ((first | refine s1_id ?_ | refine swp_id ?_ | refine sops_id ?_ | refine s2_id ?_); simp only [decide_eq_false c, lendS, go_sem, Nat.reduceEqDiff, Nat.reduceAdd, Nat.reduceSub, Nat.reduceMul, Nat.reduceLT, Nat.reduceLeDiff, ↓reduceIte, reduceCtorEq, List.reduceReplicate, Int.cast_ofNat_Int, Int.reduceEq, Int.reduceLT, Int.reduceLE, SV.ren, SV.renL, Cell.ren, Row.ren, renO, bk, back, outUpsFrom, Ints_ren]))
    (refine fs_frz 1 ⟨Ints (uniS sp), 1⟩ (by simp only [St.hpF, lookR, Nat.reduceEqDiff, if_true, if_false, ↓reduceIte]) (by first | exact Ints_isG _ | exact Bools_isG _ | (simp [Cell.isG]; done)) ?_; simp only [frzTm, SV.frz, SV.frzL, Cell.frz, frzHp, frzO, Ints_frz, Bools_frz, List.map_cons, List.map_nil, Nat.reduceEqDiff, if_true, if_false, ↓reduceIte])
    simp only [Cs_frz]
    (refine fs_flat [(0, ⟨Cs sp, 2⟩)] (by simp) (by simp only [List.map_cons, List.map_nil]; decide) (by simp only [go_sem, resV, resS, SV.ren, SV.renL, Cell.ren, St.tmF, St.hpF, idx, renO, Row.ren, evS, slot, lookR, Nat.reduceEqDiff, ↓reduceIte, reduceCtorEq, if_true, if_false, Option.getD_some, Option.getD_none, List.map_cons, List.map_nil, sLoad, readAt, readNeed, Ints_ren, Ints_length, Ints_getD, and_true, true_and, List.getD_cons_zero, List.getD_cons_succ]; try decide) ?_ (by simp only [List.forall_mem_cons, List.not_mem_nil, false_implies, implies_true, and_true, St.hpF, lookR, Nat.reduceEqDiff, if_true, if_false, ↓reduceIte, Cs_flat] <;> (repeat' apply And.intro) <;> (first | rfl | trivial)) (by simp only [List.forall_mem_cons, List.not_mem_nil, false_implies, implies_true, and_true, true_and, flat_cons, flat_nil, flat_ints, flat_bools, flat_app, Cell.refs, and_self, eq_self_iff_true, List.append_nil, Cs_flat]) ?_ <;> (try simp only [go_sem, resV, resS, SV.ren, SV.renL, Cell.ren, St.tmF, St.hpF, idx, renO, Row.ren, evS, slot, lookR, Nat.reduceEqDiff, ↓reduceIte, reduceCtorEq, if_true, if_false, Option.getD_some, Option.getD_none, List.map_cons, List.map_nil, sLoad, readAt, readNeed, Ints_ren, Ints_length, Ints_getD, and_true, true_and, List.getD_cons_zero, List.getD_cons_succ]) <;> (try rfl))
  have c : (i : Int) < (sp.length : Int) := by omega
  have hcl : (Cs sp).length = sp.length * 2 := Cs_len sp
  have ft : List.take 2 (List.drop (i * 2) (Cs sp)) = [int (spG sp i).1, int (spG sp i).2] := Cs_td sp i hlt
  have hin := out_inn hI hlt hp2 hb
  have hpb := hb _ (spG_mem sp i hlt)
  obtain ⟨p, hp⟩ : ∃ p, spG sp i = p := ⟨_, rfl⟩
  rw [hp] at ft hin hpb
  obtain ⟨p1, p2⟩ := p
  simp only at ft hin hpb
  simp only [go_sem, Nat.reduceEqDiff, Nat.reduceAdd, Nat.reduceSub, Nat.reduceMul, Nat.reduceLT, Nat.reduceLeDiff, ↓reduceIte, reduceCtorEq, List.reduceReplicate, Int.cast_ofNat_Int, Int.reduceEq, Int.reduceLT, Int.reduceLE, decide_eq_true c, lendS, ft]
  repeat' (first
    | with_reducible refine And.intro ?_ ?_
    | (intros; (try simp only [Bool.and_eq_true, Bool.or_eq_true, Bool.not_eq_true', Bool.not_eq_false', Bool.and_eq_false_iff, Bool.or_eq_false_iff, decide_eq_true_eq, decide_eq_false_iff_not] at *); omega)
    | ((first | refine s1_id ?_ | refine swp_id ?_ | refine sops_id ?_ | refine s2_id ?_); simp only [decide_eq_true c, lendS, ft, go_sem, Nat.reduceEqDiff, Nat.reduceAdd, Nat.reduceSub, Nat.reduceMul, Nat.reduceLT, Nat.reduceLeDiff, ↓reduceIte, reduceCtorEq, List.reduceReplicate, Int.cast_ofNat_Int, Int.reduceEq, Int.reduceLT, Int.reduceLE, SV.ren, SV.renL, Cell.ren, Row.ren, renO, bk, back, outUpsFrom, Ints_ren]))
  refine w_loop (ι := Int × List Int) (fun s => ⟨[(3, .one (.osl 1 0 s.2.length none)), (4, i1 s.1), (6, .one (.optr 2 0)), (9, .one (.osl 0 0 sp.length cap)), (10, i1 sp.length), (11, i1 i)], [(0, some ⟨Cs sp, 2⟩), (1, some ⟨Ints s.2, 1⟩), (2, some ⟨[int p1, int p2], 2⟩)], 3⟩) (fun s => InnI sp i (p1, p2) s.1 s.2) (fun s => (65536 - s.1).toNat) (if x < p1 then p1 else x, L) ?_ hin ?_
  · (refine imp_ren _ _ _ [(0, 0, ⟨Cs sp, 2⟩), (1, 1, ⟨Ints L, 1⟩), (2, 5, ⟨[int p1, int p2], 2⟩)] (by simp) (by simp) (by simp) (Nat.le_of_ble_eq_true rfl) ?_ rfl (by simp only [List.forall_mem_cons, List.not_mem_nil, false_implies, implies_true, and_true, St.hpF, lookR, Nat.reduceEqDiff, if_true, if_false, ↓reduceIte, Cs_flat] <;> (repeat' apply And.intro) <;> (first | rfl | trivial)) (by simp only [List.forall_mem_cons, List.not_mem_nil, false_implies, implies_true, and_true, true_and, flat_cons, flat_nil, flat_ints, flat_bools, flat_app, Cell.refs, and_self, eq_self_iff_true, List.append_nil, Cs_flat]); simp only [List.map_cons, List.map_nil, List.forall_mem_cons, List.not_mem_nil, false_implies, implies_true, and_true, lk, slot, SV.ren, Cell.ren, toN, Nat.reduceEqDiff, if_true, if_false, ↓reduceIte, reduceCtorEq])
    all_goals ((repeat' apply And.intro) <;> (first | rfl | trivial))
  clear hI hin
  rintro ⟨x, L⟩ hI
  simp only at hI ⊢
  by_cases c2 : x ≤ p2
  · have hpp : Ints L ++ [int x] = Ints (L ++ [x]) := by simp [Ints]
    have htk : List.take L.length (Ints L) = Ints L := List.take_of_length_le (by rw [Ints_length]; exact Nat.le_refl _)
    have hla : (L ++ [x]).length = L.length + 1 := by simp
    have hst := inn_step hI c2 hpb.2.2
    have hlo := hI.lo
    have hLl := asc_len L 0 x hI.asc hI.lt
    simp only [go_sem, Nat.reduceEqDiff, Nat.reduceAdd, Nat.reduceSub, Nat.reduceMul, Nat.reduceLT, Nat.reduceLeDiff, ↓reduceIte, reduceCtorEq, List.reduceReplicate, Int.cast_ofNat_Int, Int.reduceEq, Int.reduceLT, Int.reduceLE, decide_eq_true c2, lendS]
    repeat' (first
    | with_reducible refine And.intro ?_ ?_
    | (intros; (try simp only [Bool.and_eq_true, Bool.or_eq_true, Bool.not_eq_true', Bool.not_eq_false', Bool.and_eq_false_iff, Bool.or_eq_false_iff, decide_eq_true_eq, decide_eq_false_iff_not] at *); omega)
    | ((first | refine s1_id ?_ | refine swp_id ?_ | refine sops_id ?_ | refine s2_id ?_); simp only [decide_eq_true c2, lendS, hpp, htk, List.flatten_cons, List.flatten_nil, List.append_nil, List.cons_append, List.nil_append, List.set_cons_zero, List.set_cons_succ, go_sem, Nat.reduceEqDiff, Nat.reduceAdd, Nat.reduceSub, Nat.reduceMul, Nat.reduceLT, Nat.reduceLeDiff, ↓reduceIte, reduceCtorEq, List.reduceReplicate, Int.cast_ofNat_Int, Int.reduceEq, Int.reduceLT, Int.reduceLE, SV.ren, SV.renL, Cell.ren, Row.ren, renO, bk, back, outUpsFrom, Ints_ren]))
    refine le_mk (x + 1, L ++ [x]) ?_ hst (by have := hI.lo; show (65536 - (x + 1)).toNat < (65536 - x).toNat; omega)
    simp only [hla]
    (refine imp_ren _ _ _ [(0, 0, ⟨Cs sp, 2⟩), (1, 10, ⟨Ints (L ++ [x]), 1⟩), (2, 2, ⟨[int p1, int p2], 2⟩)] (by simp) (by simp) (by simp) (Nat.le_of_ble_eq_true rfl) ?_ rfl (by simp only [List.forall_mem_cons, List.not_mem_nil, false_implies, implies_true, and_true, St.hpF, lookR, Nat.reduceEqDiff, if_true, if_false, ↓reduceIte, Cs_flat] <;> (repeat' apply And.intro) <;> (first | rfl | trivial)) (by simp only [List.forall_mem_cons, List.not_mem_nil, false_implies, implies_true, and_true, true_and, flat_cons, flat_nil, flat_ints, flat_bools, flat_app, Cell.refs, and_self, eq_self_iff_true, List.append_nil, Cs_flat]); simp only [List.map_cons, List.map_nil, List.forall_mem_cons, List.not_mem_nil, false_implies, implies_true, and_true, lk, slot, SV.ren, Cell.ren, toN, Nat.reduceEqDiff, if_true, if_false, ↓reduceIte, reduceCtorEq])
    all_goals ((repeat' apply And.intro) <;> (first | rfl | trivial))
  · have hst := inn_out hlt (by rw [hp]; exact hI) (by rw [hp]; exact c2)
    simp only [go_sem, Nat.reduceEqDiff, Nat.reduceAdd, Nat.reduceSub, Nat.reduceMul, Nat.reduceLT, Nat.reduceLeDiff, ↓reduceIte, reduceCtorEq, List.reduceReplicate, Int.cast_ofNat_Int, Int.reduceEq, Int.reduceLT, Int.reduceLE, decide_eq_false c2, lendS]
    repeat' (first
    | with_reducible refine And.intro ?_ ?_
    | (intros; (try simp only [Bool.and_eq_true, Bool.or_eq_true, Bool.not_eq_true', Bool.not_eq_false', Bool.and_eq_false_iff, Bool.or_eq_false_iff, decide_eq_true_eq, decide_eq_false_iff_not] at *); omega)
    | ((first | refine s1_id ?_ | refine swp_id ?_ | refine sops_id ?_ | refine s2_id ?_); simp only [decide_eq_false c2, lendS, go_sem, Nat.reduceEqDiff, Nat.reduceAdd, Nat.reduceSub, Nat.reduceMul, Nat.reduceLT, Nat.reduceLeDiff, ↓reduceIte, reduceCtorEq, List.reduceReplicate, Int.cast_ofNat_Int, Int.reduceEq, Int.reduceLT, Int.reduceLE, SV.ren, SV.renL, Cell.ren, Row.ren, renO, bk, back, outUpsFrom, Ints_ren]))
    refine le_mk (i + 1, x, L) ?_ hst (by show sp.length - (i + 1) < sp.length - i; omega)
    (refine imp_ren _ _ _ [(0, 0, ⟨Cs sp, 2⟩), (1, 1, ⟨Ints L, 1⟩)] (by simp) (by simp) (by simp) (Nat.le_of_ble_eq_true rfl) ?_ rfl (by simp only [List.forall_mem_cons, List.not_mem_nil, false_implies, implies_true, and_true, St.hpF, lookR, Nat.reduceEqDiff, if_true, if_false, ↓reduceIte, Cs_flat] <;> (repeat' apply And.intro) <;> (first | rfl | trivial)) (by simp only [List.forall_mem_cons, List.not_mem_nil, false_implies, implies_true, and_true, true_and, flat_cons, flat_nil, flat_ints, flat_bools, flat_app, Cell.refs, and_self, eq_self_iff_true, List.append_nil, Cs_flat]); simp only [List.map_cons, List.map_nil, List.forall_mem_cons, List.not_mem_nil, false_implies, implies_true, and_true, lk, slot, SV.ren, Cell.ren, toN, Nat.reduceEqDiff, if_true, if_false, ↓reduceIte, reduceCtorEq])
    all_goals ((repeat' apply And.intro) <;> (first | rfl | trivial | (simp only [Int.natCast_add]; done) | (simp only [Int.natCast_add]; rfl) | (simp only [Int.natCast_add]; trivial)))
end Go.Proofs.YteokppcgmfbnkaaDoor
-- NEWGO
-- PRUNE: cl_lendx cl_use
-- ISG: Cs_isG
-- FLAT: Cs_flat
namespace Go.Proofs.YteokppcgmfbnkaaDoor
set_option linter.unusedVariables false
set_option linter.unusedSimpArgs false
open Go.Proofs.YteokppcgmfbnkaaDoor.Sh
set_option maxRecDepth 20000
set_option maxHeartbeats 4000000 in
theorem sp_ix (g : FuncId) (c0 : List Cell) (q : Int × Int → Bool) (xs : List (Int × Int)) (hg : ∀ x ∈ xs, FnSpec Tryd.prog g [.agg (Rec.cs x), .one (.gptr c0 0)] [] (b1 (q x)) []) (cap : Option Nat)
    (hs : xs.length ≤ 9223372036854775807) : FnSpec Tryd.prog 52 [gr xs cap, .one (.fn g [.gptr c0 0])] [] (i1 (ixR q xs 0)) [] := by
  refine fnspec_of mixed TT_ok TT_cl ⟨fun _ => false, fun _ => [], 0, fun _ => false, fun _ => false⟩ Tryd.func52 rfl (by kernel_rfl) rfl 19 rfl [.tmp 4] rfl ?_
  simp only [go_sem, Nat.reduceEqDiff, Nat.reduceAdd, Nat.reduceSub, Nat.reduceMul, Nat.reduceLT, Nat.reduceLeDiff, ↓reduceIte, reduceCtorEq, List.reduceReplicate, Int.cast_ofNat_Int, Int.reduceEq, Int.reduceLT, Int.reduceLE]
  repeat' (first
    | ((first | refine s1_id ?_ | refine swp_id ?_ | refine sops_id ?_ | refine s2_id ?_); simp only [go_sem, Nat.reduceEqDiff, Nat.reduceAdd, Nat.reduceSub, Nat.reduceMul, Nat.reduceLT, Nat.reduceLeDiff, ↓reduceIte, reduceCtorEq, List.reduceReplicate, Int.cast_ofNat_Int, Int.reduceEq, Int.reduceLT, Int.reduceLE, SV.ren, SV.renL, Cell.ren, Row.ren, renO, bk, back, outUpsFrom, Ints_ren]))
  refine w_loop (ι := Nat) (fun i => ⟨[(0, gr xs cap), (1, .one (.fn g [.gptr c0 0])), (7, i1 xs.length), (8, i1 i)], [], 0⟩) (fun i => i ≤ xs.length ∧ ixR q xs 0 = ixR q (xs.drop i) i) (fun i => xs.length - i) 0 ?_ ⟨Nat.zero_le _, rfl⟩ ?_
  · (refine imp_sub _ _ _ [] (by simp) (by simp) (by simp) (Nat.zero_le _) ?_ rfl (by simp); simp only [List.forall_mem_cons, List.not_mem_nil, false_implies, implies_true, and_true, lk, slot, SV.ren, Cell.ren, Nat.reduceEqDiff, if_true, if_false, ↓reduceIte, reduceCtorEq])
    all_goals ((repeat' apply And.intro) <;> (first | rfl | trivial))
  rintro i ⟨hi, he⟩
  simp only at hi he ⊢
  rcases Nat.lt_or_ge i xs.length with hlt | hge
  case inr =>
    have hlt' : ¬ (i : Int) < (xs.length : Int) := by omega
    rw [List.drop_of_length_le hge] at he
    rw [he]
    simp only [go_sem, Nat.reduceEqDiff, Nat.reduceAdd, Nat.reduceSub, Nat.reduceMul, Nat.reduceLT, Nat.reduceLeDiff, ↓reduceIte, reduceCtorEq, List.reduceReplicate, Int.cast_ofNat_Int, Int.reduceEq, Int.reduceLT, Int.reduceLE, decide_eq_false hlt', ixR]
    repeat' (first
    | (apply fs_nil <;> (try simp only [go_sem, resV, resS, SV.ren, SV.renL, Cell.ren, St.tmF, St.hpF, idx, renO, Row.ren, evS, slot, lookR, Nat.reduceEqDiff, ↓reduceIte, reduceCtorEq, if_true, if_false, Option.getD_some, Option.getD_none, List.map_cons, List.map_nil, sLoad, readAt, readNeed, Ints_ren, Ints_length, Ints_getD, and_true, true_and, List.getD_cons_zero, List.getD_cons_succ]) <;> (try rfl)))
  have hlt' : (i : Int) < (xs.length : Int) := by omega
  have hcl : (Cs xs).length = xs.length * 2 := Cs_len xs
  have hat : List.take 2 (List.drop (i * 2) (Cs xs)) = Rec.cs (xs.getD i Rec.z) := Cs_td xs i hlt
  have hm := getD_mem xs i Rec.z hlt
  have hc := hg _ hm
  rw [drop_getD xs i Rec.z hlt, ixR] at he
  have hrl : (Rec.cs (xs.getD i Rec.z)).length = 2 := Rec.len _
  have hrg := Rec.g (xs.getD i Rec.z)
  generalize xs.getD i Rec.z = b at *
  have hcs : Rec.cs b = [int b.1, int b.2] := rfl
  rw [hcs] at hat hc
  clear hrl hrg
  cases hqb : q b with
  | true =>
    rw [hqb] at hc he
    simp only [if_true] at he
    rw [he]
    simp only [go_sem, Nat.reduceEqDiff, Nat.reduceAdd, Nat.reduceSub, Nat.reduceMul, Nat.reduceLT, Nat.reduceLeDiff, ↓reduceIte, reduceCtorEq, List.reduceReplicate, Int.cast_ofNat_Int, Int.reduceEq, Int.reduceLT, Int.reduceLE, decide_eq_true hlt', hat]
    repeat' (first
    | with_reducible refine And.intro ?_ ?_
    | (intros; (try simp only [Bool.and_eq_true, Bool.or_eq_true, Bool.not_eq_true', Bool.not_eq_false', Bool.and_eq_false_iff, Bool.or_eq_false_iff, decide_eq_true_eq, decide_eq_false_iff_not] at *); omega)
    | (apply cl_plain
       case hs => rfl
       case ha => (simp only [List.map_cons, List.map_nil, prepV, prepC, idx, hpL', lookR, Nat.reduceEqDiff, if_true, if_false]; rfl)
       case h => (first | exact hc ..))
    | ((first | refine s1_id ?_ | refine swp_id ?_ | refine sops_id ?_ | refine s2_id ?_); simp only [decide_eq_true hlt', hat, go_sem, Nat.reduceEqDiff, Nat.reduceAdd, Nat.reduceSub, Nat.reduceMul, Nat.reduceLT, Nat.reduceLeDiff, ↓reduceIte, reduceCtorEq, List.reduceReplicate, Int.cast_ofNat_Int, Int.reduceEq, Int.reduceLT, Int.reduceLE, SV.ren, SV.renL, Cell.ren, Row.ren, renO, bk, back, outUpsFrom, Ints_ren])
    | (apply fs_nil <;> (try simp only [go_sem, resV, resS, SV.ren, SV.renL, Cell.ren, St.tmF, St.hpF, idx, renO, Row.ren, evS, slot, lookR, Nat.reduceEqDiff, ↓reduceIte, reduceCtorEq, if_true, if_false, Option.getD_some, Option.getD_none, List.map_cons, List.map_nil, sLoad, readAt, readNeed, Ints_ren, Ints_length, Ints_getD, and_true, true_and, List.getD_cons_zero, List.getD_cons_succ]) <;> (try rfl)))
  | false =>
    rw [hqb] at hc he
    simp only [Bool.false_eq_true, if_false] at he
    simp only [go_sem, Nat.reduceEqDiff, Nat.reduceAdd, Nat.reduceSub, Nat.reduceMul, Nat.reduceLT, Nat.reduceLeDiff, ↓reduceIte, reduceCtorEq, List.reduceReplicate, Int.cast_ofNat_Int, Int.reduceEq, Int.reduceLT, Int.reduceLE, decide_eq_true hlt', hat]
    repeat' (first
    | with_reducible refine And.intro ?_ ?_
    | (intros; (try simp only [Bool.and_eq_true, Bool.or_eq_true, Bool.not_eq_true', Bool.not_eq_false', Bool.and_eq_false_iff, Bool.or_eq_false_iff, decide_eq_true_eq, decide_eq_false_iff_not] at *); omega)
    | (apply cl_plain
       case hs => rfl
       case ha => (simp only [List.map_cons, List.map_nil, prepV, prepC, idx, hpL', lookR, Nat.reduceEqDiff, if_true, if_false]; rfl)
       case h => (first | exact hc ..))
    | ((first | refine s1_id ?_ | refine swp_id ?_ | refine sops_id ?_ | refine s2_id ?_); simp only [decide_eq_true hlt', hat, go_sem, Nat.reduceEqDiff, Nat.reduceAdd, Nat.reduceSub, Nat.reduceMul, Nat.reduceLT, Nat.reduceLeDiff, ↓reduceIte, reduceCtorEq, List.reduceReplicate, Int.cast_ofNat_Int, Int.reduceEq, Int.reduceLT, Int.reduceLE, SV.ren, SV.renL, Cell.ren, Row.ren, renO, bk, back, outUpsFrom, Ints_ren]))
    refine le_mk (i + 1) ?_ ⟨by omega, he⟩ (by omega)
    (refine imp_sub _ _ _ [] (by simp) (by simp) (by simp) (Nat.zero_le _) ?_ rfl (by simp); simp only [List.forall_mem_cons, List.not_mem_nil, false_implies, implies_true, and_true, lk, slot, SV.ren, Cell.ren, Nat.reduceEqDiff, if_true, if_false, ↓reduceIte, reduceCtorEq])
    all_goals ((repeat' apply And.intro) <;> (first | rfl | trivial | (simp only [Int.natCast_add]; done) | (simp only [Int.natCast_add]; rfl) | (simp only [Int.natCast_add]; trivial)))
theorem sp_ct (g : FuncId) (c0 : List Cell) (q : Int × Int → Bool) (xs : List (Int × Int)) (hg : ∀ x ∈ xs, FnSpec Tryd.prog g [.agg (Rec.cs x), .one (.gptr c0 0)] [] (b1 (q x)) []) (cap : Option Nat)
    (hs : xs.length ≤ 9223372036854775807) : FnSpec Tryd.prog 32 [gr xs cap, .one (.fn g [.gptr c0 0])] [] (b1 (xs.any q)) [] := by
  have h1 := sp_ix g c0 q xs hg cap hs
  rw [← ixR_any q xs 0]
  refine fnspec_of mixed TT_ok TT_cl ⟨fun _ => false, fun _ => [], 0, fun _ => false, fun _ => false⟩ Tryd.func32 rfl (by kernel_rfl) rfl 9 rfl [.tmp 4] rfl ?_
  simp only [go_sem, Nat.reduceEqDiff, Nat.reduceAdd, Nat.reduceSub, Nat.reduceMul, Nat.reduceLT, Nat.reduceLeDiff, ↓reduceIte, reduceCtorEq, List.reduceReplicate, Int.cast_ofNat_Int, Int.reduceEq, Int.reduceLT, Int.reduceLE]
  repeat' (first
    | (apply cl_plain
       case hs => rfl
       case ha => (simp only [List.map_cons, List.map_nil, prepV, prepC, idx, hpL', lookR, Nat.reduceEqDiff, if_true, if_false]; rfl)
       case h => (first | exact h1 ..))
    | ((first | refine s1_id ?_ | refine swp_id ?_ | refine sops_id ?_ | refine s2_id ?_); simp only [go_sem, Nat.reduceEqDiff, Nat.reduceAdd, Nat.reduceSub, Nat.reduceMul, Nat.reduceLT, Nat.reduceLeDiff, ↓reduceIte, reduceCtorEq, List.reduceReplicate, Int.cast_ofNat_Int, Int.reduceEq, Int.reduceLT, Int.reduceLE, SV.ren, SV.renL, Cell.ren, Row.ren, renO, bk, back, outUpsFrom, Ints_ren])
    | (apply fs_nil <;> (try simp only [go_sem, resV, resS, SV.ren, SV.renL, Cell.ren, St.tmF, St.hpF, idx, renO, Row.ren, evS, slot, lookR, Nat.reduceEqDiff, ↓reduceIte, reduceCtorEq, if_true, if_false, Option.getD_some, Option.getD_none, List.map_cons, List.map_nil, sLoad, readAt, readNeed, Ints_ren, Ints_length, Ints_getD, and_true, true_and, List.getD_cons_zero, List.getD_cons_succ]) <;> (try rfl)))
theorem beyond_spec (p : Int × Int) (n : Int) : FnSpec Tryd.prog 31 [.agg (Rec.cs p), .one (.gptr [int n] 0)] [] (b1 (decide (n ≤ p.2))) [] := by
  obtain ⟨a, b⟩ := p
  show FnSpec Tryd.prog 31 [.agg [int a, int b], .one (.gptr [int n] 0)] [] (b1 (decide (n ≤ b))) []
  refine fnspec_of mixed TT_ok TT_cl ⟨fun _ => false, fun _ => [], 0, fun _ => false, fun _ => false⟩ Tryd.func31 rfl (by kernel_rfl) rfl 8 rfl [.tmp 3] rfl ?_
  simp only [go_sem, Nat.reduceEqDiff, Nat.reduceAdd, Nat.reduceSub, Nat.reduceMul, Nat.reduceLT, Nat.reduceLeDiff, ↓reduceIte, reduceCtorEq, List.reduceReplicate, Int.cast_ofNat_Int, Int.reduceEq, Int.reduceLT, Int.reduceLE]
  repeat' (first
    | (apply fs_nil <;> (try simp only [go_sem, resV, resS, SV.ren, SV.renL, Cell.ren, St.tmF, St.hpF, idx, renO, Row.ren, evS, slot, lookR, Nat.reduceEqDiff, ↓reduceIte, reduceCtorEq, if_true, if_false, Option.getD_some, Option.getD_none, List.map_cons, List.map_nil, sLoad, readAt, readNeed, Ints_ren, Ints_length, Ints_getD, and_true, true_and, List.getD_cons_zero, List.getD_cons_succ]) <;> (try rfl)))
end Go.Proofs.YteokppcgmfbnkaaDoor
-- NEWGO
-- PRUNE: cl_lendx cl_use cl_lend
-- ISG: Strs_isG
-- FLAT: Strs_flat
namespace Go.Proofs.YteokppcgmfbnkaaDoor
set_option linter.unusedVariables false
set_option linter.unusedSimpArgs false
open Go.Proofs.YteokppcgmfbnkaaDoor.Sh
set_option maxRecDepth 20000
theorem spl_mem (c : UInt8) : ∀ s w, ∀ x ∈ spl c s w, x.length ≤ w.length + s.length
  | [], w, x, h => by
    have : x = w := List.mem_singleton.1 h
    subst this; omega
  | b :: r, w, x, h => by
    rw [spl_cons] at h
    by_cases hb : b = c
    · rw [if_pos hb] at h
      rcases List.mem_cons.1 h with h | h
      · subst h; omega
      · have := spl_mem c r [] x h
        simp only [List.length_nil, List.length_cons] at this ⊢; omega
    · rw [if_neg hb] at h
      have := spl_mem c r (w ++ [b]) x h
      simp only [List.length_append, List.length_cons, List.length_nil] at this ⊢; omega
end Go.Proofs.YteokppcgmfbnkaaDoor
-- NEWGO
-- PRUNE: cl_lendx cl_use
-- ISG: Cs_isG Strs_isG
-- FLAT: Cs_flat Strs_flat
namespace Go.Proofs.YteokppcgmfbnkaaDoor
set_option linter.unusedVariables false
set_option linter.unusedSimpArgs false
open Go.Proofs.YteokppcgmfbnkaaDoor.Sh
set_option maxRecDepth 20000
theorem nS_rng : ∀ (s : Str) (n m : Int), 0 ≤ n → nS s n = some m → 0 ≤ m ∧ m < (n + 1) * 10 ^ s.length
  | [], n, m, h0, h => by
    rw [nS] at h; cases h; simp; omega
  | b :: r, n, m, h0, h => by
    rw [nS] at h
    by_cases hc : 48 ≤ (b.toNat : Int) ∧ (b.toNat : Int) ≤ 57
    · rw [if_pos hc] at h
      obtain ⟨h1, h2⟩ := nS_rng r _ m (by omega) h
      refine ⟨h1, Int.lt_of_lt_of_le h2 ?_⟩
      have e : (n + 1) * 10 ^ (b :: r).length = (10 * n + 10) * 10 ^ r.length := by rw [List.length_cons, Int.pow_succ, Int.mul_comm (10 ^ r.length) 10, ← Int.mul_assoc]; congr 1; omega
      rw [e]
      exact Int.mul_le_mul_of_nonneg_right (by omega) (Int.pow_nonneg (by decide))
    · rw [if_neg hc] at h; cases h
theorem pN_rng (s : Str) : 0 ≤ (pN s).1 ∧ (pN s).1 < 1000000000 := by
  unfold pN
  by_cases h1 : (s.length : Int) < 1
  · rw [if_pos h1]; decide
  rw [if_neg h1]
  by_cases h9 : 9 < (s.length : Int)
  · rw [if_pos h9]; decide
  rw [if_neg h9]
  cases h : nS s 0 with
  | none => decide
  | some n =>
    obtain ⟨h2, h3⟩ := nS_rng s 0 n (Int.le_refl 0) h
    refine ⟨h2, ?_⟩
    have hp : (10 : Int) ^ s.length ≤ 1000000000 := by
      have : s.length ≤ 9 := by omega
      generalize s.length = k at this
      obtain rfl | rfl | rfl | rfl | rfl | rfl | rfl | rfl | rfl | rfl : k = 0 ∨ k = 1 ∨ k = 2 ∨ k = 3 ∨ k = 4 ∨ k = 5 ∨ k = 6 ∨ k = 7 ∨ k = 8 ∨ k = 9 := by omega
      all_goals decide
    show n < 1000000000
    omega
theorem pSn_rng (s : Str) (h : (pSn s).2 = true) : 0 ≤ (pSn s).1.1 ∧ (pSn s).1.1 ≤ (pSn s).1.2 ∧ (pSn s).1.2 < 1000000000 := by
  have h1 := pN_rng (cut1 45 s).1
  have h2 := pN_rng (cut1 45 s).2.1
  unfold pSn at h ⊢
  by_cases c : (cut1 45 s).2.2 = true
  · rw [if_pos c] at h ⊢
    simp only [Bool.and_eq_true, decide_eq_true_eq] at h ⊢
    omega
  · rw [if_neg c] at h ⊢
    simp only
    omega
def elS (s : Str) : List Str := if s = [] then [] else spl 44 s []
def pSets (s : Str) (n : Int) : List Int × Int :=
  if (elS s).all (fun x => (pSn x).2) = false then ([], 2)
  else if ((elS s).map fun x => (pSn x).1).any (fun p => decide ((if 65536 < n then 65536 else n) ≤ p.2)) = true then ([], 3)
  else (uniS ((elS s).map fun x => (pSn x).1), 0)
abbrev spL (ps : List Str) : List (Int × Int) := ps.map fun x => (pSn x).1
theorem spL_rng (ps : List Str) (h : ps.all (fun x => (pSn x).2) = true) : ∀ p ∈ spL ps, 0 ≤ p.1 ∧ p.1 ≤ p.2 ∧ p.2 < 1000000000 := by
  intro p hp
  obtain ⟨x, hx, rfl⟩ := List.mem_map.1 hp
  exact pSn_rng x (List.all_eq_true.1 h x hx)
def lendP : FuncId → List Nat := fun f => if f = 33 then [0] else []
theorem parse_nil (n : Int) : FnSpec Tryd.prog 14 [s1 [], i1 n] [] (.tup [gi [] none, i1 0]) [] := by
  obtain ⟨sp', h5⟩ := spread_spec [] (fun p hp => absurd hp List.not_mem_nil) (by decide) none
  have hu : uniS [] = [] := rfl
  rw [hu] at h5
  have h4 := sp_ct 31 [int (if 65536 < n then 65536 else n)] (fun p => decide ((if 65536 < n then 65536 else n) ≤ p.2)) [] (fun p hp => absurd hp List.not_mem_nil) none (by decide)
  simp only [List.any_nil] at h4
  refine fnspec_of mixed TT_ok TT_cl ⟨fun _ => false, lendP, 0 , fun _ => false, fun i => if i = 12 then true else false⟩ Tryd.func14 rfl (by kernel_rfl) rfl 42 rfl [.tmp 4, .tmp 5] rfl ?_
  simp only [go_sem, Nat.reduceEqDiff, Nat.reduceAdd, Nat.reduceSub, Nat.reduceMul, Nat.reduceLT, Nat.reduceLeDiff, ↓reduceIte, reduceCtorEq, List.reduceReplicate, Int.cast_ofNat_Int, Int.reduceEq, Int.reduceLT, Int.reduceLE, lendP, decide_eq_true (rfl : ([] : Str) = [])]
  repeat' (first
    | ((first | refine s1_id ?_ | refine swp_id ?_ | refine sops_id ?_ | refine s2_id ?_); simp only [lendP, decide_eq_true (rfl : ([] : Str) = []), go_sem, Nat.reduceEqDiff, Nat.reduceAdd, Nat.reduceSub, Nat.reduceMul, Nat.reduceLT, Nat.reduceLeDiff, ↓reduceIte, reduceCtorEq, List.reduceReplicate, Int.cast_ofNat_Int, Int.reduceEq, Int.reduceLT, Int.reduceLE, SV.ren, SV.renL, Cell.ren, Row.ren, renO, bk, back, outUpsFrom, Ints_ren]))
  generalize (if 65536 < n then 65536 else n) = B at *
  refine rgf_t _ (Imp.trans (imp_nil _ _ 6 2 rfl) (imp_frz _ _ 7 ⟨[int B], 1⟩ (by simp only [St.hpF, lookR, Nat.reduceEqDiff, if_true, if_false, ↓reduceIte]) (by simp [Cell.isG]))) ?_
  simp only [frzTm, SV.frz, SV.frzL, Cell.frz, frzHp, frzO, List.map_cons, List.map_nil, Nat.reduceEqDiff, if_true, if_false, ↓reduceIte]
  simp only [go_sem, Nat.reduceEqDiff, Nat.reduceAdd, Nat.reduceSub, Nat.reduceMul, Nat.reduceLT, Nat.reduceLeDiff, ↓reduceIte, reduceCtorEq, List.reduceReplicate, Int.cast_ofNat_Int, Int.reduceEq, Int.reduceLT, Int.reduceLE, lendP]
  repeat' (first
    | (apply cl_lend
       case hr => (simp only [List.map_cons, List.map_nil, hpL', lookR, Nat.reduceEqDiff, if_true, if_false]; first | exact map1 _ | exact map2 _ _ | exact map3 _ _ _)
       case ha => (simp only [List.map_cons, List.map_nil, prepV, prepC, idx, hpL', lookR, Nat.reduceEqDiff, if_true, if_false]; rfl)
       case hs => rfl
       case hn => decide
       case h => (first | exact h4 .. | exact h5 ..)
       case hf => (simp only [List.forall_mem_cons, List.not_mem_nil, false_implies, implies_true, and_true, true_and, flat_cons, flat_nil, flat_ints, flat_bools, flat_app, Cs_flat, Cell.refs, and_self, eq_self_iff_true, List.append_nil])
       case hl => (simp only [List.length_cons, List.length_nil]; decide))
    | (apply cl_show
       case ha => (simp only [List.map_cons, List.map_nil, prepV, prepC, idx, hpL', lookR, Nat.reduceEqDiff, if_true, if_false]; rfl)
       case hs => ((simp [snaps, SV.refs, Cell.refs, idx, hpL', lookR]) <;> (repeat' apply And.intro) <;> (first | exact Ints_isG _ | exact Cs_isG _))
       case h => (first | exact h4 .. | exact h5 ..)
       case hg => ((simp [SV.noG, SV.noGL, Cell.noG]) <;> (repeat' apply And.intro) <;> exact Ints_noG _))
    | ((first | refine s1_id ?_ | refine swp_id ?_ | refine sops_id ?_ | refine s2_id ?_); simp only [lendP, go_sem, Nat.reduceEqDiff, Nat.reduceAdd, Nat.reduceSub, Nat.reduceMul, Nat.reduceLT, Nat.reduceLeDiff, ↓reduceIte, reduceCtorEq, List.reduceReplicate, Int.cast_ofNat_Int, Int.reduceEq, Int.reduceLT, Int.reduceLE, SV.ren, SV.renL, Cell.ren, Row.ren, renO, bk, back, outUpsFrom, Ints_ren])
    | (apply fs_nil <;> (try simp only [go_sem, resV, resS, SV.ren, SV.renL, Cell.ren, St.tmF, St.hpF, idx, renO, Row.ren, evS, slot, lookR, Nat.reduceEqDiff, ↓reduceIte, reduceCtorEq, if_true, if_false, Option.getD_some, Option.getD_none, List.map_cons, List.map_nil, sLoad, readAt, readNeed, Ints_ren, Ints_length, Ints_getD, and_true, true_and, List.getD_cons_zero, List.getD_cons_succ]) <;> (try rfl)))
set_option maxHeartbeats 8000000 in
theorem parse_some (s : Str) (n : Int) (hs : s.length ≤ 1000000) (h0 : s ≠ []) : FnSpec Tryd.prog 14 [s1 s, i1 n] [] (.tup [gi (pSets s n).1 none, i1 (pSets s n).2]) [] := by
  have h1 := split_spec 44 s hs
  have hel : elS s = spl 44 s [] := if_neg h0
  have hpl : (spl 44 s []).length ≤ 1000001 := by
    rw [spl_len]; have := cnt_le 44 s; omega
  have hpm : ∀ x ∈ spl 44 s [], x.length ≤ 1000000 := fun x hx => by have := spl_mem 44 s [] x hx; simp at this; omega
  unfold pSets
  rw [hel]
  generalize spl 44 s [] = ps at *
  clear hel hs
  refine fnspec_of mixed TT_ok TT_cl ⟨fun _ => false, lendP, 0 , fun _ => false, fun i => if i = 12 then true else false⟩ Tryd.func14 rfl (by kernel_rfl) rfl 42 rfl [.tmp 4, .tmp 5] rfl ?_
  simp only [go_sem, Nat.reduceEqDiff, Nat.reduceAdd, Nat.reduceSub, Nat.reduceMul, Nat.reduceLT, Nat.reduceLeDiff, ↓reduceIte, reduceCtorEq, List.reduceReplicate, Int.cast_ofNat_Int, Int.reduceEq, Int.reduceLT, Int.reduceLE, lendP, decide_eq_false h0]
  repeat' (first
    | (apply cl_plain
       case hs => rfl
       case ha => (simp only [List.map_cons, List.map_nil, prepV, prepC, idx, hpL', lookR, Nat.reduceEqDiff, if_true, if_false]; rfl)
       case h => (first | exact h1 ..))
    | ((first | refine s1_id ?_ | refine swp_id ?_ | refine sops_id ?_ | refine s2_id ?_); simp only [lendP, decide_eq_false h0, go_sem, Nat.reduceEqDiff, Nat.reduceAdd, Nat.reduceSub, Nat.reduceMul, Nat.reduceLT, Nat.reduceLeDiff, ↓reduceIte, reduceCtorEq, List.reduceReplicate, Int.cast_ofNat_Int, Int.reduceEq, Int.reduceLT, Int.reduceLE, SV.ren, SV.renL, Cell.ren, Row.ren, renO, bk, back, outUpsFrom, Ints_ren]))
  clear h1
  refine w_loop (ι := Nat) (fun i => ⟨[(1, i1 n), (6, .one (.osl 0 0 i none)), (16, gs ps none), (17, i1 ps.length), (18, i1 i)], [(0, some ⟨Cs (spL (ps.take i)), 2⟩)], 1⟩) (fun i => i ≤ ps.length ∧ (ps.take i).all (fun x => (pSn x).2) = true) (fun i => ps.length - i) 0 ?_ ⟨Nat.zero_le _, rfl⟩ ?_
  · refine Imp.trans (imp_nil _ _ 6 2 rfl) ?_
    (refine imp_ren _ _ _ [(0, 9, ⟨[], 2⟩)] (by simp) (by simp) (by simp) (Nat.le_of_ble_eq_true rfl) ?_ rfl (by simp only [List.forall_mem_cons, List.not_mem_nil, false_implies, implies_true, and_true, St.hpF, lookR, Nat.reduceEqDiff, if_true, if_false, ↓reduceIte, Cs_flat] <;> (repeat' apply And.intro) <;> (first | rfl | trivial)) (by simp only [List.forall_mem_cons, List.not_mem_nil, false_implies, implies_true, and_true, true_and, flat_cons, flat_nil, flat_ints, flat_bools, flat_app, Cell.refs, and_self, eq_self_iff_true, List.append_nil, Cs_flat]); simp only [List.map_cons, List.map_nil, List.forall_mem_cons, List.not_mem_nil, false_implies, implies_true, and_true, lk, slot, SV.ren, Cell.ren, toN, Nat.reduceEqDiff, if_true, if_false, ↓reduceIte, reduceCtorEq])
    all_goals ((repeat' apply And.intro) <;> (first | rfl | trivial))
  rintro i ⟨hi, hall⟩
  simp only at hi hall ⊢
  have hil : (spL (ps.take i)).length = i := by rw [List.length_map, List.length_take]; omega
  rcases Nat.lt_or_ge i ps.length with hlt | hge
  case inr =>
    have c : ¬ (i : Int) < (ps.length : Int) := by omega
    rw [List.take_of_length_le hge] at hall hil ⊢
    rw [if_neg (by rw [hall]; decide)]
    have hrg := spL_rng ps hall
    have hb := fun p (_ : p ∈ spL ps) => beyond_spec p (if 65536 < n then 65536 else n)
    have h4 := sp_ct 31 [int (if 65536 < n then 65536 else n)] (fun p => decide ((if 65536 < n then 65536 else n) ≤ p.2)) (spL ps) hb none (by omega)
    simp only [gr, hil] at h4
    by_cases hany : (spL ps).any (fun p => decide ((if 65536 < n then 65536 else n) ≤ p.2)) = true
    · rw [if_pos hany]
      rw [hany] at h4
      simp only [go_sem, Nat.reduceEqDiff, Nat.reduceAdd, Nat.reduceSub, Nat.reduceMul, Nat.reduceLT, Nat.reduceLeDiff, ↓reduceIte, reduceCtorEq, List.reduceReplicate, Int.cast_ofNat_Int, Int.reduceEq, Int.reduceLT, Int.reduceLE, lendP, decide_eq_false c]
      repeat' (first
    | ((first | refine s1_id ?_ | refine swp_id ?_ | refine sops_id ?_ | refine s2_id ?_); simp only [lendP, decide_eq_false c, go_sem, Nat.reduceEqDiff, Nat.reduceAdd, Nat.reduceSub, Nat.reduceMul, Nat.reduceLT, Nat.reduceLeDiff, ↓reduceIte, reduceCtorEq, List.reduceReplicate, Int.cast_ofNat_Int, Int.reduceEq, Int.reduceLT, Int.reduceLE, SV.ren, SV.renL, Cell.ren, Row.ren, renO, bk, back, outUpsFrom, Ints_ren]))
      generalize (if 65536 < n then 65536 else n) = B at *
      (refine rgf_t _ (imp_frz _ _ 4 ⟨[int B], 1⟩ (by simp only [St.hpF, lookR, Nat.reduceEqDiff, if_true, if_false, ↓reduceIte]) (by first | exact Ints_isG _ | exact Bools_isG _ | exact Cs_isG _ | exact Strs_isG _ | (simp [Cell.isG]; done))) ?_; simp only [frzTm, SV.frz, SV.frzL, Cell.frz, frzHp, frzO, Ints_frz, Bools_frz, List.map_cons, List.map_nil, Nat.reduceEqDiff, if_true, if_false, ↓reduceIte])
      simp only [go_sem, Nat.reduceEqDiff, Nat.reduceAdd, Nat.reduceSub, Nat.reduceMul, Nat.reduceLT, Nat.reduceLeDiff, ↓reduceIte, reduceCtorEq, List.reduceReplicate, Int.cast_ofNat_Int, Int.reduceEq, Int.reduceLT, Int.reduceLE, lendP]
      repeat' (first
    | (apply cl_show
       case ha => (simp only [List.map_cons, List.map_nil, prepV, prepC, idx, hpL', lookR, Nat.reduceEqDiff, if_true, if_false]; rfl)
       case hs => ((simp [snaps, SV.refs, Cell.refs, idx, hpL', lookR]) <;> (repeat' apply And.intro) <;> (first | exact Ints_isG _ | exact Cs_isG _))
       case h => (first | exact h4 ..)
       case hg => ((simp [SV.noG, SV.noGL, Cell.noG]) <;> (repeat' apply And.intro) <;> exact Ints_noG _))
    | ((first | refine s1_id ?_ | refine swp_id ?_ | refine sops_id ?_ | refine s2_id ?_); simp only [lendP, go_sem, Nat.reduceEqDiff, Nat.reduceAdd, Nat.reduceSub, Nat.reduceMul, Nat.reduceLT, Nat.reduceLeDiff, ↓reduceIte, reduceCtorEq, List.reduceReplicate, Int.cast_ofNat_Int, Int.reduceEq, Int.reduceLT, Int.reduceLE, SV.ren, SV.renL, Cell.ren, Row.ren, renO, bk, back, outUpsFrom, Ints_ren]))
      (refine fs_w (by simp only [go_sem, resV, resS, SV.ren, SV.renL, Cell.ren, St.tmF, St.hpF, idx, renO, Row.ren, evS, slot, lookR, Nat.reduceEqDiff, ↓reduceIte, reduceCtorEq, if_true, if_false, Option.getD_some, Option.getD_none, List.map_cons, List.map_nil, sLoad, readAt, readNeed, Ints_ren, Ints_length, Ints_getD, and_true, true_and, List.getD_cons_zero, List.getD_cons_succ]; try trivial) ?_; simp only [go_sem, resV, resS, SV.ren, SV.renL, Cell.ren, St.tmF, St.hpF, idx, renO, Row.ren, evS, slot, lookR, Nat.reduceEqDiff, ↓reduceIte, reduceCtorEq, if_true, if_false, Option.getD_some, Option.getD_none, List.map_cons, List.map_nil, sLoad, readAt, readNeed, Ints_ren, Ints_length, Ints_getD, and_true, true_and, List.getD_cons_zero, List.getD_cons_succ]; refine svw_of ?_; simp only [sw_tup, swl_cons, swl_nil, sw_one, sw_agg, cwl_cons, cwl_nil, cw_id, cw_nil0, cw_cap0, List.length_nil, and_true, true_and, and_self] <;> (try ((repeat' with_reducible apply And.intro) <;> (first | with_reducible trivial | exact cw_rfl _ | exact cw_gnil | exact cw_niln _ _ | exact cw_cap _ _ _ _ | (refine cw_eq ?_; congr; done)))))
    · rw [if_neg hany]
      rw [Bool.eq_false_iff.2 hany] at h4
      obtain ⟨sp', h5⟩ := spread_spec (spL ps) (fun p hp => by
        have := hrg p hp
        have h3 : ¬ (if 65536 < n then 65536 else n) ≤ p.2 := fun h => hany (List.any_eq_true.2 ⟨p, hp, decide_eq_true h⟩)
        have : (if 65536 < n then 65536 else n) ≤ 65536 := by split <;> omega
        omega) (by omega) none
      simp only [hil] at h5
      simp only [go_sem, Nat.reduceEqDiff, Nat.reduceAdd, Nat.reduceSub, Nat.reduceMul, Nat.reduceLT, Nat.reduceLeDiff, ↓reduceIte, reduceCtorEq, List.reduceReplicate, Int.cast_ofNat_Int, Int.reduceEq, Int.reduceLT, Int.reduceLE, lendP, decide_eq_false c]
      repeat' (first
    | ((first | refine s1_id ?_ | refine swp_id ?_ | refine sops_id ?_ | refine s2_id ?_); simp only [lendP, decide_eq_false c, go_sem, Nat.reduceEqDiff, Nat.reduceAdd, Nat.reduceSub, Nat.reduceMul, Nat.reduceLT, Nat.reduceLeDiff, ↓reduceIte, reduceCtorEq, List.reduceReplicate, Int.cast_ofNat_Int, Int.reduceEq, Int.reduceLT, Int.reduceLE, SV.ren, SV.renL, Cell.ren, Row.ren, renO, bk, back, outUpsFrom, Ints_ren]))
      clear hb hrg hany hall
      generalize uniS (spL ps) = U at *
      generalize (if 65536 < n then 65536 else n) = B at *
      (refine rgf_t _ (imp_frz _ _ 4 ⟨[int B], 1⟩ (by simp only [St.hpF, lookR, Nat.reduceEqDiff, if_true, if_false, ↓reduceIte]) (by first | exact Ints_isG _ | exact Bools_isG _ | exact Cs_isG _ | exact Strs_isG _ | (simp [Cell.isG]; done))) ?_; simp only [frzTm, SV.frz, SV.frzL, Cell.frz, frzHp, frzO, Ints_frz, Bools_frz, List.map_cons, List.map_nil, Nat.reduceEqDiff, if_true, if_false, ↓reduceIte])
      simp only [go_sem, Nat.reduceEqDiff, Nat.reduceAdd, Nat.reduceSub, Nat.reduceMul, Nat.reduceLT, Nat.reduceLeDiff, ↓reduceIte, reduceCtorEq, List.reduceReplicate, Int.cast_ofNat_Int, Int.reduceEq, Int.reduceLT, Int.reduceLE, lendP]
      repeat' (first
    | (apply cl_lend
       case hr => (simp only [List.map_cons, List.map_nil, hpL', lookR, Nat.reduceEqDiff, if_true, if_false]; first | exact map1 _ | exact map2 _ _ | exact map3 _ _ _)
       case ha => (simp only [List.map_cons, List.map_nil, prepV, prepC, idx, hpL', lookR, Nat.reduceEqDiff, if_true, if_false]; rfl)
       case hs => rfl
       case hn => decide
       case h => (first | exact h4 .. | exact h5 ..)
       case hf => (simp only [List.forall_mem_cons, List.not_mem_nil, false_implies, implies_true, and_true, true_and, flat_cons, flat_nil, flat_ints, flat_bools, flat_app, Cs_flat, Cell.refs, and_self, eq_self_iff_true, List.append_nil])
       case hl => (simp only [List.length_cons, List.length_nil]; decide))
    | (apply cl_show
       case ha => (simp only [List.map_cons, List.map_nil, prepV, prepC, idx, hpL', lookR, Nat.reduceEqDiff, if_true, if_false]; rfl)
       case hs => ((simp [snaps, SV.refs, Cell.refs, idx, hpL', lookR]) <;> (repeat' apply And.intro) <;> (first | exact Ints_isG _ | exact Cs_isG _))
       case h => (first | exact h4 .. | exact h5 ..)
       case hg => ((simp [SV.noG, SV.noGL, Cell.noG]) <;> (repeat' apply And.intro) <;> exact Ints_noG _))
    | ((first | refine s1_id ?_ | refine swp_id ?_ | refine sops_id ?_ | refine s2_id ?_); simp only [lendP, go_sem, Nat.reduceEqDiff, Nat.reduceAdd, Nat.reduceSub, Nat.reduceMul, Nat.reduceLT, Nat.reduceLeDiff, ↓reduceIte, reduceCtorEq, List.reduceReplicate, Int.cast_ofNat_Int, Int.reduceEq, Int.reduceLT, Int.reduceLE, SV.ren, SV.renL, Cell.ren, Row.ren, renO, bk, back, outUpsFrom, Ints_ren])
    | (apply fs_nil <;> (try simp only [go_sem, resV, resS, SV.ren, SV.renL, Cell.ren, St.tmF, St.hpF, idx, renO, Row.ren, evS, slot, lookR, Nat.reduceEqDiff, ↓reduceIte, reduceCtorEq, if_true, if_false, Option.getD_some, Option.getD_none, List.map_cons, List.map_nil, sLoad, readAt, readNeed, Ints_ren, Ints_length, Ints_getD, and_true, true_and, List.getD_cons_zero, List.getD_cons_succ]) <;> (try rfl)))
  have c : (i : Int) < (ps.length : Int) := by omega
  have hat := Strs_getD' ps i (.sc (.string (bs []))) hlt
  have hm := getD_mem ps i [] hlt
  have h2 := span_spec (ps.getD i []) (by have := hpm _ hm; omega)
  have htk := take_getD ps i [] hlt
  generalize ps.getD i [] = x at *
  by_cases hok : (pSn x).2 = true
  · rw [hok] at h2
    have hcl : (Cs (spL (ps.take i))).length = i * 2 := by rw [Cs_len, hil]; rfl
    have hca : List.take (i * 2) (Cs (spL (ps.take i))) = Cs (spL (ps.take i)) := Cs_all _ _ (by rw [hil]; exact Nat.le_refl _)
    have hpp : Cs (spL (ps.take i)) ++ [int (pSn x).1.1, int (pSn x).1.2] = Cs (spL (ps.take (i + 1))) := by
      rw [htk, show spL (ps.take i ++ [x]) = spL (ps.take i) ++ [(pSn x).1] from List.map_append, ← Cs_app]; rfl
    have hal : (ps.take (i + 1)).all (fun x => (pSn x).2) = true := by rw [htk, List.all_append, hall]; simp [hok]
    simp only [go_sem, Nat.reduceEqDiff, Nat.reduceAdd, Nat.reduceSub, Nat.reduceMul, Nat.reduceLT, Nat.reduceLeDiff, ↓reduceIte, reduceCtorEq, List.reduceReplicate, Int.cast_ofNat_Int, Int.reduceEq, Int.reduceLT, Int.reduceLE, lendP, decide_eq_true c, hat, List.flatten_cons, List.flatten_nil, List.append_nil, List.cons_append, List.nil_append, List.set_cons_zero, List.set_cons_succ, List.take_succ_cons, List.take_zero, List.take_nil, List.length_cons, List.length_nil]
    repeat' (first
    | with_reducible refine And.intro ?_ ?_
    | (intros; (try simp only [Bool.and_eq_true, Bool.or_eq_true, Bool.not_eq_true', Bool.not_eq_false', Bool.and_eq_false_iff, Bool.or_eq_false_iff, decide_eq_true_eq, decide_eq_false_iff_not] at *); omega)
    | (apply cl_plain
       case hs => rfl
       case ha => (simp only [List.map_cons, List.map_nil, prepV, prepC, idx, hpL', lookR, Nat.reduceEqDiff, if_true, if_false]; rfl)
       case h => (first | exact h2 ..))
    | ((first | refine s1_id ?_ | refine swp_id ?_ | refine sops_id ?_ | refine s2_id ?_); simp only [lendP, decide_eq_true c, hat, hca, hpp, List.flatten_cons, List.flatten_nil, List.append_nil, List.cons_append, List.nil_append, List.set_cons_zero, List.set_cons_succ, List.take_succ_cons, List.take_zero, List.take_nil, List.length_cons, List.length_nil, go_sem, Nat.reduceEqDiff, Nat.reduceAdd, Nat.reduceSub, Nat.reduceMul, Nat.reduceLT, Nat.reduceLeDiff, ↓reduceIte, reduceCtorEq, List.reduceReplicate, Int.cast_ofNat_Int, Int.reduceEq, Int.reduceLT, Int.reduceLE, SV.ren, SV.renL, Cell.ren, Row.ren, renO, bk, back, outUpsFrom, Ints_ren]))
    refine le_mk (i + 1) ?_ ⟨by omega, hal⟩ (by omega)
    (refine imp_ren _ _ _ [(0, 18, ⟨Cs (spL (ps.take (i + 1))), 2⟩)] (by simp) (by simp) (by simp) (Nat.le_of_ble_eq_true rfl) ?_ rfl (by simp only [List.forall_mem_cons, List.not_mem_nil, false_implies, implies_true, and_true, St.hpF, lookR, Nat.reduceEqDiff, if_true, if_false, ↓reduceIte, Cs_flat] <;> (repeat' apply And.intro) <;> (first | rfl | trivial)) (by simp only [List.forall_mem_cons, List.not_mem_nil, false_implies, implies_true, and_true, true_and, flat_cons, flat_nil, flat_ints, flat_bools, flat_app, Cell.refs, and_self, eq_self_iff_true, List.append_nil, Cs_flat]); simp only [List.map_cons, List.map_nil, List.forall_mem_cons, List.not_mem_nil, false_implies, implies_true, and_true, lk, slot, SV.ren, Cell.ren, toN, Nat.reduceEqDiff, if_true, if_false, ↓reduceIte, reduceCtorEq])
    all_goals ((repeat' apply And.intro) <;> (first | rfl | trivial | (simp only [Int.natCast_add]; done) | (simp only [Int.natCast_add]; rfl) | (simp only [Int.natCast_add]; trivial)))
  · have hnall : ps.all (fun x => (pSn x).2) = false := by
      rw [List.all_eq_false]; exact ⟨x, hm, hok⟩
    rw [if_pos hnall]
    rw [Bool.eq_false_iff.2 hok] at h2
    simp only [go_sem, Nat.reduceEqDiff, Nat.reduceAdd, Nat.reduceSub, Nat.reduceMul, Nat.reduceLT, Nat.reduceLeDiff, ↓reduceIte, reduceCtorEq, List.reduceReplicate, Int.cast_ofNat_Int, Int.reduceEq, Int.reduceLT, Int.reduceLE, lendP, decide_eq_true c, hat]
    repeat' (first
    | with_reducible refine And.intro ?_ ?_
    | (intros; (try simp only [Bool.and_eq_true, Bool.or_eq_true, Bool.not_eq_true', Bool.not_eq_false', Bool.and_eq_false_iff, Bool.or_eq_false_iff, decide_eq_true_eq, decide_eq_false_iff_not] at *); omega)
    | (apply cl_plain
       case hs => rfl
       case ha => (simp only [List.map_cons, List.map_nil, prepV, prepC, idx, hpL', lookR, Nat.reduceEqDiff, if_true, if_false]; rfl)
       case h => (first | exact h2 ..))
    | ((first | refine s1_id ?_ | refine swp_id ?_ | refine sops_id ?_ | refine s2_id ?_); simp only [lendP, decide_eq_true c, hat, go_sem, Nat.reduceEqDiff, Nat.reduceAdd, Nat.reduceSub, Nat.reduceMul, Nat.reduceLT, Nat.reduceLeDiff, ↓reduceIte, reduceCtorEq, List.reduceReplicate, Int.cast_ofNat_Int, Int.reduceEq, Int.reduceLT, Int.reduceLE, SV.ren, SV.renL, Cell.ren, Row.ren, renO, bk, back, outUpsFrom, Ints_ren]))
    (refine fs_w (by simp only [go_sem, resV, resS, SV.ren, SV.renL, Cell.ren, St.tmF, St.hpF, idx, renO, Row.ren, evS, slot, lookR, Nat.reduceEqDiff, ↓reduceIte, reduceCtorEq, if_true, if_false, Option.getD_some, Option.getD_none, List.map_cons, List.map_nil, sLoad, readAt, readNeed, Ints_ren, Ints_length, Ints_getD, and_true, true_and, List.getD_cons_zero, List.getD_cons_succ]; try trivial) ?_; simp only [go_sem, resV, resS, SV.ren, SV.renL, Cell.ren, St.tmF, St.hpF, idx, renO, Row.ren, evS, slot, lookR, Nat.reduceEqDiff, ↓reduceIte, reduceCtorEq, if_true, if_false, Option.getD_some, Option.getD_none, List.map_cons, List.map_nil, sLoad, readAt, readNeed, Ints_ren, Ints_length, Ints_getD, and_true, true_and, List.getD_cons_zero, List.getD_cons_succ]; refine svw_of ?_; simp only [sw_tup, swl_cons, swl_nil, sw_one, sw_agg, cwl_cons, cwl_nil, cw_id, cw_nil0, cw_cap0, List.length_nil, and_true, true_and, and_self] <;> (try ((repeat' with_reducible apply And.intro) <;> (first | with_reducible trivial | exact cw_rfl _ | exact cw_gnil | exact cw_niln _ _ | exact cw_cap _ _ _ _ | (refine cw_eq ?_; congr; done)))))
theorem parse_spec (s : Str) (n : Int) (hs : s.length ≤ 1000000) : FnSpec Tryd.prog 14 [s1 s, i1 n] [] (.tup [gi (pSets s n).1 none, i1 (pSets s n).2]) [] := by
  by_cases h0 : s = []
  · subst h0
    exact parse_nil n
  · exact parse_some s n hs h0
end Go.Proofs.YteokppcgmfbnkaaDoor
-- NEWGO
-- PRUNE: cl_lendx cl_use cl_lend
-- ISG: Strs_isG
-- FLAT: Strs_flat
namespace Go.Proofs.YteokppcgmfbnkaaDoor
set_option linter.unusedVariables false
set_option linter.unusedSimpArgs false
open Go.Proofs.YteokppcgmfbnkaaDoor.Sh
set_option maxRecDepth 20000
theorem itoa_i (x : Int) (h0 : 0 ≤ x) (h : x < 100) : FnSpec Tryd.prog 35 [i1 x] [] (s1 (dec x.toNat)) [] := by
  have := itoa_spec x.toNat (by omega)
  rwa [Int.toNat_of_nonneg h0] at this
theorem prt_cons (x : Int) (r : List Int) : prt (x :: r) = prt1 x (rnN x r) :: prt (r.drop (rnN x r)) := by rw [prt]
theorem prt_len : ∀ (n : Nat) (l : List Int), l.length ≤ n → (prt l).length ≤ l.length
  | _, [], _ => by rw [prt]; exact Nat.le_refl _
  | 0, x :: r, h => by simp at h
  | n + 1, x :: r, h => by
    rw [prt_cons, List.length_cons, List.length_cons]
    have := prt_len n (r.drop (rnN x r)) (by rw [List.length_drop]; simp at h; omega)
    rw [List.length_drop] at this; omega
theorem rnN_cons (x y : Int) (r : List Int) : rnN x (y :: r) = if y = x + 1 then rnN y r + 1 else 0 := rfl
structure FmI (l : List Int) (i k : Nat) (x z : Int) : Prop where
  ik : i ≤ k
  kl : k < l.length
  zk : l.getD k 0 = z
  xz : z = x + ((k - i : Nat) : Int)
  rn : rnN x (l.drop (i + 1)) = (k - i) + rnN z (l.drop (k + 1))
theorem fmI_step {l : List Int} {i k : Nat} {x z : Int} (h : FmI l i k x z) (h1 : k + 1 < l.length) (h2 : l.getD (k + 1) 0 = z + 1) : FmI l i (k + 1) x (z + 1) := by
  have := h.ik
  refine ⟨by omega, h1, h2, by rw [h.xz]; omega, ?_⟩
  rw [h.rn, drop_getD l (k + 1) 0 h1, rnN_cons, if_pos h2, h2]; omega
theorem fmI_end {l : List Int} {i k : Nat} {x z : Int} (h : FmI l i k x z) (hx : l.getD i 0 = x) (h1 : ¬ (k + 1 < l.length ∧ l.getD (k + 1) 0 = z + 1)) : prt (l.drop i) = prt1 x (k - i) :: prt (l.drop (k + 1)) := by
  have := h.ik
  have := h.kl
  have e : rnN z (l.drop (k + 1)) = 0 := by
    by_cases c : k + 1 < l.length
    · rw [drop_getD l (k + 1) 0 c, rnN_cons, if_neg fun e => h1 ⟨c, e⟩]
    · rw [List.drop_of_length_le (by omega)]; rfl
  rw [drop_getD l i 0 (by omega), hx, prt_cons, h.rn, e, List.drop_drop, Nat.add_zero]
  congr 2; congr 1; omega
set_option maxHeartbeats 8000000 in
theorem format_spec (l : List Int) (kk : Option Nat) (ha : ascF l (-1) = true) (hb : ∀ x ∈ l, 0 ≤ x ∧ x < 100) (hl : l.length ≤ 1000) (hj : (jn (prt l) [44]).length ≤ 140737488355328) : FnSpec Tryd.prog 18 [gi l kk] [] (.tup [s1 (jn (prt l) [44]), i1 0]) [] := by
  have h1 := asc_spec l kk (by omega)
  rw [ha] at h1
  have hpl := prt_len l.length l (Nat.le_refl _)
  refine fnspec_of mixed TT_ok TT_cl ⟨fun _ => false, fun _ => [], 0, fun _ => false, fun _ => false⟩ Tryd.func18 rfl (by kernel_rfl) rfl 60 rfl [.tmp 2, .tmp 3] rfl ?_
  simp only [go_sem, Nat.reduceEqDiff, Nat.reduceAdd, Nat.reduceSub, Nat.reduceMul, Nat.reduceLT, Nat.reduceLeDiff, ↓reduceIte, reduceCtorEq, List.reduceReplicate, Int.cast_ofNat_Int, Int.reduceEq, Int.reduceLT, Int.reduceLE]
  repeat' (first
    | (apply cl_plain
       case hs => rfl
       case ha => (simp only [List.map_cons, List.map_nil, prepV, prepC, idx, hpL', lookR, Nat.reduceEqDiff, if_true, if_false]; rfl)
       case h => (first | exact h1 ..))
    | ((first | refine s1_id ?_ | refine swp_id ?_ | refine sops_id ?_ | refine s2_id ?_); simp only [go_sem, Nat.reduceEqDiff, Nat.reduceAdd, Nat.reduceSub, Nat.reduceMul, Nat.reduceLT, Nat.reduceLeDiff, ↓reduceIte, reduceCtorEq, List.reduceReplicate, Int.cast_ofNat_Int, Int.reduceEq, Int.reduceLT, Int.reduceLE, SV.ren, SV.renL, Cell.ren, Row.ren, renO, bk, back, outUpsFrom, Ints_ren]))
  clear h1
  refine w_loop (ι := Nat × List Str) (fun s => ⟨[(0, gi l kk), (4, .one (.osl 0 0 s.2.length none)), (5, i1 s.1)], [(0, some ⟨Strs s.2, 1⟩)], 1⟩) (fun s => s.1 ≤ l.length ∧ s.2.length ≤ s.1 ∧ prt l = s.2 ++ prt (l.drop s.1)) (fun s => l.length - s.1) (0, []) ?_ ⟨Nat.zero_le _, Nat.le_refl _, rfl⟩ ?_
  · (refine Imp.trans (imp_nilA _ _ 4 1 99 (by simp only []; omega) rfl) ?_)
    (refine imp_ren _ _ _ [(0, 99, ⟨[], 1⟩)] (by simp) (by simp) (by simp) (Nat.le_of_ble_eq_true rfl) ?_ rfl (by simp only [List.forall_mem_cons, List.not_mem_nil, false_implies, implies_true, and_true, St.hpF, lookR, Nat.reduceEqDiff, if_true, if_false, ↓reduceIte] <;> (repeat' apply And.intro) <;> (first | rfl | trivial)) (by simp only [List.forall_mem_cons, List.not_mem_nil, false_implies, implies_true, and_true, true_and, flat_cons, flat_nil, flat_ints, flat_bools, flat_app, Cell.refs, and_self, eq_self_iff_true, List.append_nil]); simp only [List.map_cons, List.map_nil, List.forall_mem_cons, List.not_mem_nil, false_implies, implies_true, and_true, lk, slot, SV.ren, Cell.ren, toN, Nat.reduceEqDiff, if_true, if_false, ↓reduceIte, reduceCtorEq])
    all_goals ((repeat' apply And.intro) <;> (first | rfl | trivial))
  rintro ⟨i, acc⟩ ⟨hi, hal, hp⟩
  simp only at hi hal hp ⊢
  rcases Nat.lt_or_ge i l.length with hlt | hge
  case inr =>
    have c : ¬ (i : Int) < (l.length : Int) := by omega
    have he : prt [] = [] := by rw [prt]
    rw [List.drop_of_length_le hge, he, List.append_nil] at hp
    subst hp
    have h3 := join_spec (prt l) [44] none (by omega) hj
    generalize prt l = ps at *
    simp only [go_sem, Nat.reduceEqDiff, Nat.reduceAdd, Nat.reduceSub, Nat.reduceMul, Nat.reduceLT, Nat.reduceLeDiff, ↓reduceIte, reduceCtorEq, List.reduceReplicate, Int.cast_ofNat_Int, Int.reduceEq, Int.reduceLT, Int.reduceLE, decide_eq_false c]
    repeat' (first
    | (apply cl_show
       case ha => (simp only [List.map_cons, List.map_nil, prepV, prepC, idx, hpL', lookR, Nat.reduceEqDiff, if_true, if_false]; rfl)
       case hs => ((simp [snaps, SV.refs, Cell.refs, idx, hpL', lookR]) <;> (repeat' apply And.intro) <;> (first | exact Ints_isG _ | exact Strs_isG _))
       case h => (first | exact h3 ..)
       case hg => ((simp [SV.noG, SV.noGL, Cell.noG]) <;> (repeat' apply And.intro) <;> exact Ints_noG _))
    | ((first | refine s1_id ?_ | refine swp_id ?_ | refine sops_id ?_ | refine s2_id ?_); simp only [decide_eq_false c, go_sem, Nat.reduceEqDiff, Nat.reduceAdd, Nat.reduceSub, Nat.reduceMul, Nat.reduceLT, Nat.reduceLeDiff, ↓reduceIte, reduceCtorEq, List.reduceReplicate, Int.cast_ofNat_Int, Int.reduceEq, Int.reduceLT, Int.reduceLE, SV.ren, SV.renL, Cell.ren, Row.ren, renO, bk, back, outUpsFrom, Ints_ren])
    | (apply fs_nil <;> (try simp only [go_sem, resV, resS, SV.ren, SV.renL, Cell.ren, St.tmF, St.hpF, idx, renO, Row.ren, evS, slot, lookR, Nat.reduceEqDiff, ↓reduceIte, reduceCtorEq, if_true, if_false, Option.getD_some, Option.getD_none, List.map_cons, List.map_nil, sLoad, readAt, readNeed, Ints_ren, Ints_length, Ints_getD, and_true, true_and, List.getD_cons_zero, List.getD_cons_succ]) <;> (try rfl)))
  have c : (i : Int) < (l.length : Int) := by omega
  obtain ⟨x, hx⟩ : ∃ x, l.getD i 0 = x := ⟨_, rfl⟩
  have hxb := hb _ (getD_mem l i 0 hlt)
  rw [hx] at hxb
  simp only [go_sem, Nat.reduceEqDiff, Nat.reduceAdd, Nat.reduceSub, Nat.reduceMul, Nat.reduceLT, Nat.reduceLeDiff, ↓reduceIte, reduceCtorEq, List.reduceReplicate, Int.cast_ofNat_Int, Int.reduceEq, Int.reduceLT, Int.reduceLE, decide_eq_true c]
  repeat' (first
    | ((first | refine s1_id ?_ | refine swp_id ?_ | refine sops_id ?_ | refine s2_id ?_); simp only [decide_eq_true c, go_sem, Nat.reduceEqDiff, Nat.reduceAdd, Nat.reduceSub, Nat.reduceMul, Nat.reduceLT, Nat.reduceLeDiff, ↓reduceIte, reduceCtorEq, List.reduceReplicate, Int.cast_ofNat_Int, Int.reduceEq, Int.reduceLT, Int.reduceLE, SV.ren, SV.renL, Cell.ren, Row.ren, renO, bk, back, outUpsFrom, Ints_ren]))
  refine w_loop (ι := Nat × Int) (fun s => ⟨[(0, gi l kk), (4, .one (.osl 0 0 acc.length none)), (5, i1 i), (6, i1 s.1)], [(0, some ⟨Strs acc, 1⟩)], 1⟩) (fun s => FmI l i s.1 x s.2) (fun s => l.length - s.1) (i, x) ?_ ⟨Nat.le_refl _, hlt, hx, by simp, by simp⟩ ?_
  · (refine imp_ren _ _ _ [(0, 0, ⟨Strs acc, 1⟩)] (by simp) (by simp) (by simp) (Nat.le_of_ble_eq_true rfl) ?_ rfl (by simp only [List.forall_mem_cons, List.not_mem_nil, false_implies, implies_true, and_true, St.hpF, lookR, Nat.reduceEqDiff, if_true, if_false, ↓reduceIte, Strs_flat] <;> (repeat' apply And.intro) <;> (first | rfl | trivial)) (by simp only [List.forall_mem_cons, List.not_mem_nil, false_implies, implies_true, and_true, true_and, flat_cons, flat_nil, flat_ints, flat_bools, flat_app, Cell.refs, and_self, eq_self_iff_true, List.append_nil, Strs_flat]); simp only [List.map_cons, List.map_nil, List.forall_mem_cons, List.not_mem_nil, false_implies, implies_true, and_true, lk, slot, SV.ren, Cell.ren, toN, Nat.reduceEqDiff, if_true, if_false, ↓reduceIte, reduceCtorEq])
    all_goals ((repeat' apply And.intro) <;> (first | rfl | trivial))
  rintro ⟨k, z⟩ hI
  simp only at hI ⊢
  have hik := hI.ik
  have hkl := hI.kl
  have hz := hI.zk
  have hxz := hI.xz
  have hzb := hb _ (getD_mem l k 0 hkl)
  rw [hz] at hzb
  by_cases hgo : k + 1 < l.length ∧ l.getD (k + 1) 0 = z + 1
  · obtain ⟨g1, g2⟩ := hgo
    have c1 : (k : Int) + 1 < (l.length : Int) := by omega
    have hst := fmI_step hI g1 g2
    have hkn : ((k : Int) + 1).toNat = k + 1 := by omega
    simp only [go_sem, Nat.reduceEqDiff, Nat.reduceAdd, Nat.reduceSub, Nat.reduceMul, Nat.reduceLT, Nat.reduceLeDiff, ↓reduceIte, reduceCtorEq, List.reduceReplicate, Int.cast_ofNat_Int, Int.reduceEq, Int.reduceLT, Int.reduceLE, decide_eq_true c1, hz, hkn, g2]
    repeat' (first
    | with_reducible refine And.intro ?_ ?_
    | (unfold OKC; kernel_rfl)
    | (unfold EDG; kernel_rfl)
    | (intros; (try simp only [Bool.and_eq_true, Bool.or_eq_true, Bool.not_eq_true', Bool.not_eq_false', Bool.and_eq_false_iff, Bool.or_eq_false_iff, decide_eq_true_eq, decide_eq_false_iff_not] at *); omega)
    | ((first | refine s1_id ?_ | refine swp_id ?_ | refine sops_id ?_ | refine s2_id ?_); simp only [decide_eq_true c1, hz, hkn, g2, go_sem, Nat.reduceEqDiff, Nat.reduceAdd, Nat.reduceSub, Nat.reduceMul, Nat.reduceLT, Nat.reduceLeDiff, ↓reduceIte, reduceCtorEq, List.reduceReplicate, Int.cast_ofNat_Int, Int.reduceEq, Int.reduceLT, Int.reduceLE, SV.ren, SV.renL, Cell.ren, Row.ren, renO, bk, back, outUpsFrom, Ints_ren]))
    refine le_mk (k + 1, z + 1) ?_ hst (by show l.length - (k + 1) < l.length - k; omega)
    (refine imp_ren _ _ _ [(0, 0, ⟨Strs acc, 1⟩)] (by simp) (by simp) (by simp) (Nat.le_of_ble_eq_true rfl) ?_ rfl (by simp only [List.forall_mem_cons, List.not_mem_nil, false_implies, implies_true, and_true, St.hpF, lookR, Nat.reduceEqDiff, if_true, if_false, ↓reduceIte, Strs_flat] <;> (repeat' apply And.intro) <;> (first | rfl | trivial)) (by simp only [List.forall_mem_cons, List.not_mem_nil, false_implies, implies_true, and_true, true_and, flat_cons, flat_nil, flat_ints, flat_bools, flat_app, Cell.refs, and_self, eq_self_iff_true, List.append_nil, Strs_flat]); simp only [List.map_cons, List.map_nil, List.forall_mem_cons, List.not_mem_nil, false_implies, implies_true, and_true, lk, slot, SV.ren, Cell.ren, toN, Nat.reduceEqDiff, if_true, if_false, ↓reduceIte, reduceCtorEq])
    all_goals ((repeat' apply And.intro) <;> (first | rfl | trivial | (simp only [Int.natCast_add]; done) | (simp only [Int.natCast_add]; rfl) | (simp only [Int.natCast_add]; trivial)))
  have hend := fmI_end hI hx hgo
  have hkn : ((k : Int) + 1).toNat = k + 1 := by omega
  have d1 := dec_len x.toNat (by omega)
  have d2 := dec_len z.toNat (by omega)
  have i1' := itoa_i x hxb.1 hxb.2
  have i2' := itoa_i z hzb.1 hzb.2
  have hps : prt l = (acc ++ [prt1 x (k - i)]) ++ prt (l.drop (k + 1)) := by rw [hp, hend, List.append_assoc]; rfl
  have hla : (acc ++ [prt1 x (k - i)]).length = acc.length + 1 := by simp
  have hta : List.take acc.length (Strs acc) = Strs acc := List.take_of_length_le (by simp [Strs])
  by_cases g1 : k + 1 < l.length
  · have c1 : (k : Int) + 1 < (l.length : Int) := by omega
    have g2 : ¬ l.getD (k + 1) 0 = z + 1 := fun e => hgo ⟨g1, e⟩
    rcases Nat.lt_or_ge i k with hgt | hle
    · have c2 : (i : Int) < (k : Int) := by omega
      have e1 : prt1 x (k - i) = dec x.toNat ++ 45 :: dec z.toNat := by rw [prt1, if_pos (by omega), ← hxz]
      rw [e1] at hps hla
      have hpp : Strs acc ++ [st (dec x.toNat ++ 45 :: dec z.toNat)] = Strs (acc ++ [dec x.toNat ++ 45 :: dec z.toNat]) := by simp [Strs]
      simp only [go_sem, Nat.reduceEqDiff, Nat.reduceAdd, Nat.reduceSub, Nat.reduceMul, Nat.reduceLT, Nat.reduceLeDiff, ↓reduceIte, reduceCtorEq, List.reduceReplicate, Int.cast_ofNat_Int, Int.reduceEq, Int.reduceLT, Int.reduceLE, decide_eq_true c1, decide_eq_false g2, hz, hkn, hx, decide_eq_true c2]
      repeat' (first
    | with_reducible refine And.intro ?_ ?_
    | (unfold OKC; kernel_rfl)
    | (unfold EDG; kernel_rfl)
    | (intros; (try simp only [Bool.and_eq_true, Bool.or_eq_true, Bool.not_eq_true', Bool.not_eq_false', Bool.and_eq_false_iff, Bool.or_eq_false_iff, decide_eq_true_eq, decide_eq_false_iff_not] at *); omega)
    | (apply cl_plain
       case hs => rfl
       case ha => (simp only [List.map_cons, List.map_nil, prepV, prepC, idx, hpL', lookR, Nat.reduceEqDiff, if_true, if_false]; rfl)
       case h => (first | exact i1' .. | exact i2' ..))
    | ((first | refine s1_id ?_ | refine swp_id ?_ | refine sops_id ?_ | refine s2_id ?_); simp only [decide_eq_true c1, decide_eq_false g2, hz, hkn, hx, decide_eq_true c2, hpp, hta, List.flatten_cons, List.flatten_nil, List.append_nil, List.cons_append, List.nil_append, List.set_cons_zero, List.set_cons_succ, List.take_succ_cons, List.take_zero, List.take_nil, List.length_cons, List.length_nil, go_sem, Nat.reduceEqDiff, Nat.reduceAdd, Nat.reduceSub, Nat.reduceMul, Nat.reduceLT, Nat.reduceLeDiff, ↓reduceIte, reduceCtorEq, List.reduceReplicate, Int.cast_ofNat_Int, Int.reduceEq, Int.reduceLT, Int.reduceLE, SV.ren, SV.renL, Cell.ren, Row.ren, renO, bk, back, outUpsFrom, Ints_ren]))
      refine le_mk (k + 1, acc ++ [dec x.toNat ++ 45 :: dec z.toNat]) ?_ ⟨by show k + 1 ≤ l.length; omega, by show _ ≤ k + 1; rw [hla]; omega, hps⟩ (by show l.length - (k + 1) < l.length - i; omega)
      simp only [hla]
      (refine imp_ren _ _ _ [(0, 40, ⟨Strs (acc ++ [dec x.toNat ++ 45 :: dec z.toNat]), 1⟩)] (by simp) (by simp) (by simp) (Nat.le_of_ble_eq_true rfl) ?_ rfl (by simp only [List.forall_mem_cons, List.not_mem_nil, false_implies, implies_true, and_true, St.hpF, lookR, Nat.reduceEqDiff, if_true, if_false, ↓reduceIte, Strs_flat] <;> (repeat' apply And.intro) <;> (first | rfl | trivial)) (by simp only [List.forall_mem_cons, List.not_mem_nil, false_implies, implies_true, and_true, true_and, flat_cons, flat_nil, flat_ints, flat_bools, flat_app, Cell.refs, and_self, eq_self_iff_true, List.append_nil, Strs_flat]); simp only [List.map_cons, List.map_nil, List.forall_mem_cons, List.not_mem_nil, false_implies, implies_true, and_true, lk, slot, SV.ren, Cell.ren, toN, Nat.reduceEqDiff, if_true, if_false, ↓reduceIte, reduceCtorEq])
      all_goals ((repeat' apply And.intro) <;> (first | rfl | trivial | (simp only [Int.natCast_add]; done) | (simp only [Int.natCast_add]; rfl) | (simp only [Int.natCast_add]; trivial)))
    · have c2 : ¬ (i : Int) < (k : Int) := by omega
      have e1 : prt1 x (k - i) = dec x.toNat := by rw [prt1, if_neg (by omega)]
      rw [e1] at hps hla
      have hpp : Strs acc ++ [st (dec x.toNat)] = Strs (acc ++ [dec x.toNat]) := by simp [Strs]
      simp only [go_sem, Nat.reduceEqDiff, Nat.reduceAdd, Nat.reduceSub, Nat.reduceMul, Nat.reduceLT, Nat.reduceLeDiff, ↓reduceIte, reduceCtorEq, List.reduceReplicate, Int.cast_ofNat_Int, Int.reduceEq, Int.reduceLT, Int.reduceLE, decide_eq_true c1, decide_eq_false g2, hz, hkn, hx, decide_eq_false c2]
      repeat' (first
    | with_reducible refine And.intro ?_ ?_
    | (unfold OKC; kernel_rfl)
    | (unfold EDG; kernel_rfl)
    | (intros; (try simp only [Bool.and_eq_true, Bool.or_eq_true, Bool.not_eq_true', Bool.not_eq_false', Bool.and_eq_false_iff, Bool.or_eq_false_iff, decide_eq_true_eq, decide_eq_false_iff_not] at *); omega)
    | (apply cl_plain
       case hs => rfl
       case ha => (simp only [List.map_cons, List.map_nil, prepV, prepC, idx, hpL', lookR, Nat.reduceEqDiff, if_true, if_false]; rfl)
       case h => (first | exact i1' .. | exact i2' ..))
    | ((first | refine s1_id ?_ | refine swp_id ?_ | refine sops_id ?_ | refine s2_id ?_); simp only [decide_eq_true c1, decide_eq_false g2, hz, hkn, hx, decide_eq_false c2, hpp, hta, List.flatten_cons, List.flatten_nil, List.append_nil, List.cons_append, List.nil_append, List.set_cons_zero, List.set_cons_succ, List.take_succ_cons, List.take_zero, List.take_nil, List.length_cons, List.length_nil, go_sem, Nat.reduceEqDiff, Nat.reduceAdd, Nat.reduceSub, Nat.reduceMul, Nat.reduceLT, Nat.reduceLeDiff, ↓reduceIte, reduceCtorEq, List.reduceReplicate, Int.cast_ofNat_Int, Int.reduceEq, Int.reduceLT, Int.reduceLE, SV.ren, SV.renL, Cell.ren, Row.ren, renO, bk, back, outUpsFrom, Ints_ren]))
      refine le_mk (k + 1, acc ++ [dec x.toNat]) ?_ ⟨by show k + 1 ≤ l.length; omega, by show _ ≤ k + 1; rw [hla]; omega, hps⟩ (by show l.length - (k + 1) < l.length - i; omega)
      simp only [hla]
      (refine imp_ren _ _ _ [(0, 31, ⟨Strs (acc ++ [dec x.toNat]), 1⟩)] (by simp) (by simp) (by simp) (Nat.le_of_ble_eq_true rfl) ?_ rfl (by simp only [List.forall_mem_cons, List.not_mem_nil, false_implies, implies_true, and_true, St.hpF, lookR, Nat.reduceEqDiff, if_true, if_false, ↓reduceIte, Strs_flat] <;> (repeat' apply And.intro) <;> (first | rfl | trivial)) (by simp only [List.forall_mem_cons, List.not_mem_nil, false_implies, implies_true, and_true, true_and, flat_cons, flat_nil, flat_ints, flat_bools, flat_app, Cell.refs, and_self, eq_self_iff_true, List.append_nil, Strs_flat]); simp only [List.map_cons, List.map_nil, List.forall_mem_cons, List.not_mem_nil, false_implies, implies_true, and_true, lk, slot, SV.ren, Cell.ren, toN, Nat.reduceEqDiff, if_true, if_false, ↓reduceIte, reduceCtorEq])
      all_goals ((repeat' apply And.intro) <;> (first | rfl | trivial | (simp only [Int.natCast_add]; done) | (simp only [Int.natCast_add]; rfl) | (simp only [Int.natCast_add]; trivial)))
  · have c1 : ¬ (k : Int) + 1 < (l.length : Int) := by omega
    rcases Nat.lt_or_ge i k with hgt | hle
    · have c2 : (i : Int) < (k : Int) := by omega
      have e1 : prt1 x (k - i) = dec x.toNat ++ 45 :: dec z.toNat := by rw [prt1, if_pos (by omega), ← hxz]
      rw [e1] at hps hla
      have hpp : Strs acc ++ [st (dec x.toNat ++ 45 :: dec z.toNat)] = Strs (acc ++ [dec x.toNat ++ 45 :: dec z.toNat]) := by simp [Strs]
      simp only [go_sem, Nat.reduceEqDiff, Nat.reduceAdd, Nat.reduceSub, Nat.reduceMul, Nat.reduceLT, Nat.reduceLeDiff, ↓reduceIte, reduceCtorEq, List.reduceReplicate, Int.cast_ofNat_Int, Int.reduceEq, Int.reduceLT, Int.reduceLE, decide_eq_false c1, hz, hkn, hx, decide_eq_true c2]
      repeat' (first
    | with_reducible refine And.intro ?_ ?_
    | (unfold OKC; kernel_rfl)
    | (unfold EDG; kernel_rfl)
    | (intros; (try simp only [Bool.and_eq_true, Bool.or_eq_true, Bool.not_eq_true', Bool.not_eq_false', Bool.and_eq_false_iff, Bool.or_eq_false_iff, decide_eq_true_eq, decide_eq_false_iff_not] at *); omega)
    | (apply cl_plain
       case hs => rfl
       case ha => (simp only [List.map_cons, List.map_nil, prepV, prepC, idx, hpL', lookR, Nat.reduceEqDiff, if_true, if_false]; rfl)
       case h => (first | exact i1' .. | exact i2' ..))
    | ((first | refine s1_id ?_ | refine swp_id ?_ | refine sops_id ?_ | refine s2_id ?_); simp only [decide_eq_false c1, hz, hkn, hx, decide_eq_true c2, hpp, hta, List.flatten_cons, List.flatten_nil, List.append_nil, List.cons_append, List.nil_append, List.set_cons_zero, List.set_cons_succ, List.take_succ_cons, List.take_zero, List.take_nil, List.length_cons, List.length_nil, go_sem, Nat.reduceEqDiff, Nat.reduceAdd, Nat.reduceSub, Nat.reduceMul, Nat.reduceLT, Nat.reduceLeDiff, ↓reduceIte, reduceCtorEq, List.reduceReplicate, Int.cast_ofNat_Int, Int.reduceEq, Int.reduceLT, Int.reduceLE, SV.ren, SV.renL, Cell.ren, Row.ren, renO, bk, back, outUpsFrom, Ints_ren]))
      refine le_mk (k + 1, acc ++ [dec x.toNat ++ 45 :: dec z.toNat]) ?_ ⟨by show k + 1 ≤ l.length; omega, by show _ ≤ k + 1; rw [hla]; omega, hps⟩ (by show l.length - (k + 1) < l.length - i; omega)
      simp only [hla]
      (refine imp_ren _ _ _ [(0, 40, ⟨Strs (acc ++ [dec x.toNat ++ 45 :: dec z.toNat]), 1⟩)] (by simp) (by simp) (by simp) (Nat.le_of_ble_eq_true rfl) ?_ rfl (by simp only [List.forall_mem_cons, List.not_mem_nil, false_implies, implies_true, and_true, St.hpF, lookR, Nat.reduceEqDiff, if_true, if_false, ↓reduceIte, Strs_flat] <;> (repeat' apply And.intro) <;> (first | rfl | trivial)) (by simp only [List.forall_mem_cons, List.not_mem_nil, false_implies, implies_true, and_true, true_and, flat_cons, flat_nil, flat_ints, flat_bools, flat_app, Cell.refs, and_self, eq_self_iff_true, List.append_nil, Strs_flat]); simp only [List.map_cons, List.map_nil, List.forall_mem_cons, List.not_mem_nil, false_implies, implies_true, and_true, lk, slot, SV.ren, Cell.ren, toN, Nat.reduceEqDiff, if_true, if_false, ↓reduceIte, reduceCtorEq])
      all_goals ((repeat' apply And.intro) <;> (first | rfl | trivial | (simp only [Int.natCast_add]; done) | (simp only [Int.natCast_add]; rfl) | (simp only [Int.natCast_add]; trivial)))
    · have c2 : ¬ (i : Int) < (k : Int) := by omega
      have e1 : prt1 x (k - i) = dec x.toNat := by rw [prt1, if_neg (by omega)]
      rw [e1] at hps hla
      have hpp : Strs acc ++ [st (dec x.toNat)] = Strs (acc ++ [dec x.toNat]) := by simp [Strs]
      simp only [go_sem, Nat.reduceEqDiff, Nat.reduceAdd, Nat.reduceSub, Nat.reduceMul, Nat.reduceLT, Nat.reduceLeDiff, ↓reduceIte, reduceCtorEq, List.reduceReplicate, Int.cast_ofNat_Int, Int.reduceEq, Int.reduceLT, Int.reduceLE, decide_eq_false c1, hz, hkn, hx, decide_eq_false c2]
      repeat' (first
    | with_reducible refine And.intro ?_ ?_
    | (unfold OKC; kernel_rfl)
    | (unfold EDG; kernel_rfl)
    | (intros; (try simp only [Bool.and_eq_true, Bool.or_eq_true, Bool.not_eq_true', Bool.not_eq_false', Bool.and_eq_false_iff, Bool.or_eq_false_iff, decide_eq_true_eq, decide_eq_false_iff_not] at *); omega)
    | (apply cl_plain
       case hs => rfl
       case ha => (simp only [List.map_cons, List.map_nil, prepV, prepC, idx, hpL', lookR, Nat.reduceEqDiff, if_true, if_false]; rfl)
       case h => (first | exact i1' .. | exact i2' ..))
    | ((first | refine s1_id ?_ | refine swp_id ?_ | refine sops_id ?_ | refine s2_id ?_); simp only [decide_eq_false c1, hz, hkn, hx, decide_eq_false c2, hpp, hta, List.flatten_cons, List.flatten_nil, List.append_nil, List.cons_append, List.nil_append, List.set_cons_zero, List.set_cons_succ, List.take_succ_cons, List.take_zero, List.take_nil, List.length_cons, List.length_nil, go_sem, Nat.reduceEqDiff, Nat.reduceAdd, Nat.reduceSub, Nat.reduceMul, Nat.reduceLT, Nat.reduceLeDiff, ↓reduceIte, reduceCtorEq, List.reduceReplicate, Int.cast_ofNat_Int, Int.reduceEq, Int.reduceLT, Int.reduceLE, SV.ren, SV.renL, Cell.ren, Row.ren, renO, bk, back, outUpsFrom, Ints_ren]))
      refine le_mk (k + 1, acc ++ [dec x.toNat]) ?_ ⟨by show k + 1 ≤ l.length; omega, by show _ ≤ k + 1; rw [hla]; omega, hps⟩ (by show l.length - (k + 1) < l.length - i; omega)
      simp only [hla]
      (refine imp_ren _ _ _ [(0, 31, ⟨Strs (acc ++ [dec x.toNat]), 1⟩)] (by simp) (by simp) (by simp) (Nat.le_of_ble_eq_true rfl) ?_ rfl (by simp only [List.forall_mem_cons, List.not_mem_nil, false_implies, implies_true, and_true, St.hpF, lookR, Nat.reduceEqDiff, if_true, if_false, ↓reduceIte, Strs_flat] <;> (repeat' apply And.intro) <;> (first | rfl | trivial)) (by simp only [List.forall_mem_cons, List.not_mem_nil, false_implies, implies_true, and_true, true_and, flat_cons, flat_nil, flat_ints, flat_bools, flat_app, Cell.refs, and_self, eq_self_iff_true, List.append_nil, Strs_flat]); simp only [List.map_cons, List.map_nil, List.forall_mem_cons, List.not_mem_nil, false_implies, implies_true, and_true, lk, slot, SV.ren, Cell.ren, toN, Nat.reduceEqDiff, if_true, if_false, ↓reduceIte, reduceCtorEq])
      all_goals ((repeat' apply And.intro) <;> (first | rfl | trivial | (simp only [Int.natCast_add]; done) | (simp only [Int.natCast_add]; rfl) | (simp only [Int.natCast_add]; trivial)))
end Go.Proofs.YteokppcgmfbnkaaDoor
-- NEWGO
namespace Go.Proofs.YteokppcgmfbnkaaDoor
set_option linter.unusedVariables false
set_option linter.unusedSimpArgs false
open Go.Proofs.YteokppcgmfbnkaaDoor.Sh
set_option maxRecDepth 20000
theorem dec_dig (n : Nat) (h : n < 100) : ∀ b ∈ dec n, 48 ≤ b.toNat ∧ b.toNat ≤ 57 := by
  have one : ∀ k, k < 10 → ∀ b ∈ [UInt8.ofNat (48 + k)], 48 ≤ b.toNat ∧ b.toNat ≤ 57 := by
    intro k hk b hb
    rw [List.mem_singleton.1 hb, UInt8.toNat_ofNat']
    omega
  by_cases h10 : n < 10
  · rw [dec_lo h10]; exact one n h10
  · rw [dec_hi h10, dec_lo (by omega)]
    intro b hb
    rcases List.mem_append.1 hb with hb | hb
    · exact one _ (by omega) b hb
    · exact one _ (by omega) b hb
theorem nS_app : ∀ (s t : Str) (n : Int), nS (s ++ t) n = (nS s n).bind (nS t)
  | [], t, n => rfl
  | b :: s, t, n => by
    rw [List.cons_append, nS, nS]
    by_cases h : 48 ≤ (b.toNat : Int) ∧ (b.toNat : Int) ≤ 57
    · rw [if_pos h, if_pos h]; exact nS_app s t _
    · rw [if_neg h, if_neg h]; rfl
theorem nS_one (k : Nat) (hk : k < 10) (n : Int) : nS [UInt8.ofNat (48 + k)] n = some (10 * n + k) := by
  have e : ((UInt8.ofNat (48 + k)).toNat : Int) = 48 + k := by rw [UInt8.toNat_ofNat']; omega
  rw [nS, if_pos (by omega), nS, e]
  congr 1; omega
theorem nS_dec (n : Nat) (h : n < 100) : nS (dec n) 0 = some (n : Int) := by
  by_cases h10 : n < 10
  · rw [dec_lo h10, nS_one n h10]; congr 1; omega
  · rw [dec_hi h10, dec_lo (by omega), nS_app, nS_one (n / 10) (by omega)]
    show nS [UInt8.ofNat (48 + n % 10)] _ = _
    rw [nS_one (n % 10) (by omega)]; congr 1; omega
theorem dec_ne (n : Nat) (h : n < 100) : dec n ≠ [] := by
  by_cases h10 : n < 10
  · rw [dec_lo h10]; exact List.cons_ne_nil _ _
  · rw [dec_hi h10]; simp
theorem pN_dec (n : Nat) (h : n < 100) : pN (dec n) = ((n : Int), true) := by
  have h1 := dec_len n h
  have h2 : 0 < (dec n).length := List.length_pos_iff.2 (dec_ne n h)
  unfold pN
  rw [if_neg (by omega), if_neg (by omega), nS_dec n h]
theorem ix_none (c : UInt8) : ∀ s : Str, c ∉ s → Lib.indexByte s c = -1
  | [], _ => by simp [Lib.indexByte]
  | b :: r, h => by
    have h1 : b ≠ c := fun e => h (by rw [e]; exact List.mem_cons_self)
    have h2 := ix_none c r fun hm => h (List.mem_cons_of_mem _ hm)
    simp [Lib.indexByte, h1, h2]
theorem ix_app (c : UInt8) (t : Str) : ∀ s : Str, c ∉ s → Lib.indexByte (s ++ c :: t) c = s.length
  | [], _ => by simp [Lib.indexByte]
  | b :: r, h => by
    have h1 : b ≠ c := fun e => h (by rw [e]; exact List.mem_cons_self)
    have h2 := ix_app c t r fun hm => h (List.mem_cons_of_mem _ hm)
    simp [Lib.indexByte, h1, h2]
theorem spl_no (c : UInt8) : ∀ (p w : Str), c ∉ p → spl c p w = [w ++ p]
  | [], w, _ => by simp [spl]
  | b :: r, w, h => by
    have h1 : b ≠ c := fun e => h (by rw [e]; exact List.mem_cons_self)
    rw [spl_cons, if_neg h1, spl_no c r _ fun hm => h (List.mem_cons_of_mem _ hm)]; simp
theorem spl_at (c : UInt8) (t : Str) : ∀ (p w : Str), c ∉ p → spl c (p ++ c :: t) w = (w ++ p) :: spl c t []
  | [], w, _ => by rw [List.nil_append, spl_cons, if_pos rfl, List.append_nil]
  | b :: r, w, h => by
    have h1 : b ≠ c := fun e => h (by rw [e]; exact List.mem_cons_self)
    rw [List.cons_append, spl_cons, if_neg h1, spl_at c t r _ fun hm => h (List.mem_cons_of_mem _ hm)]; simp
theorem jn_consS (x : Str) (r : List Str) (c : UInt8) (h : r ≠ []) : jn (x :: r) [c] = x ++ c :: jn r [c] := by
  cases r with
  | nil => exact absurd rfl h
  | cons y r =>
    unfold jn
    rw [Lib.join_cons, Lib.join_cons]
    simp [Lib.joinTail]
theorem jn_oneS (x : Str) (c : UInt8) : jn [x] [c] = x := Lib.join_one x [c]
theorem spl_jn (c : UInt8) : ∀ (ps : List Str), ps ≠ [] → (∀ p ∈ ps, c ∉ p) → spl c (jn ps [c]) [] = ps
  | [], h, _ => absurd rfl h
  | [p], _, h => by rw [jn_oneS, spl_no c p [] (h p List.mem_cons_self)]; rfl
  | p :: q :: r, _, h => by
    rw [jn_consS p (q :: r) c (List.cons_ne_nil _ _), spl_at c _ p [] (h p List.mem_cons_self), spl_jn c (q :: r) (List.cons_ne_nil _ _) fun x hx => h x (List.mem_cons_of_mem _ hx)]
    rfl
abbrev El := Nat × Nat × Bool
def elT (e : El) : Str := if e.2.2 = true then dec e.1 ++ 45 :: dec e.2.1 else dec e.1
def elP (e : El) : Int × Int := (e.1, if e.2.2 = true then e.2.1 else e.1)
structure ElOk (e : El) : Prop where
  a : e.1 < 100
  b : e.2.1 < 100
  le : e.1 ≤ e.2.1
theorem elT_ne (e : El) (h : ElOk e) : elT e ≠ [] := by
  have := dec_ne e.1 h.a
  unfold elT
  split
  · simp
  · exact this
theorem elT_no (e : El) (h : ElOk e) : 44 ∉ elT e := by
  intro hm
  have h1 := dec_dig e.1 h.a
  have h2 := dec_dig e.2.1 h.b
  unfold elT at hm
  by_cases hb : e.2.2 = true
  · rw [if_pos hb] at hm
    rcases List.mem_append.1 hm with hm | hm
    · have := (h1 _ hm).1; revert this; decide
    · rcases List.mem_cons.1 hm with hm | hm
      · revert hm; decide
      · have := (h2 _ hm).1; revert this; decide
  · rw [if_neg hb] at hm
    have := (h1 _ hm).1; revert this; decide
theorem no45 (n : Nat) (h : n < 100) : 45 ∉ dec n := fun hm => by have := (dec_dig n h _ hm).1; revert this; decide
theorem pSn_el (e : El) (h : ElOk e) : pSn (elT e) = (elP e, true) := by
  obtain ⟨a, b, two⟩ := e
  have ha := h.a
  have hb := h.b
  have hle := h.le
  simp only at ha hb hle
  cases two with
  | false =>
    have e1 : cut1 45 (dec a) = (dec a, [], false) := by unfold cut1; rw [ix_none 45 _ (no45 a ha), if_pos (by decide)]
    show pSn (dec a) = ((↑a, ↑a), true)
    unfold pSn
    rw [e1]
    simp only [Bool.false_eq_true, if_false, pN_dec a ha]
  | true =>
    have e1 : cut1 45 (dec a ++ 45 :: dec b) = (dec a, dec b, true) := by
      unfold cut1
      rw [ix_app 45 _ _ (no45 a ha), if_neg (by omega), Int.toNat_natCast]
      congr 1
      · simp
      · congr 1
        rw [List.drop_append, List.drop_of_length_le (by omega)]
        simp
    show pSn (dec a ++ 45 :: dec b) = ((↑a, ↑b), true)
    unfold pSn
    rw [e1]
    simp only [if_true, pN_dec a ha, pN_dec b hb, Bool.and_self, Bool.true_and]
    rw [decide_eq_true (by omega)]
theorem elS_jn (es : List El) (h : ∀ e ∈ es, ElOk e) : elS (jn (es.map elT) [44]) = es.map elT := by
  cases es with
  | nil => rfl
  | cons e r =>
    have h1 : jn ((e :: r).map elT) [44] ≠ [] := by
      intro h0
      have := elT_ne e (h e List.mem_cons_self)
      cases r with
      | nil => rw [List.map_cons, List.map_nil, jn_oneS] at h0; exact this h0
      | cons f r =>
        rw [List.map_cons, jn_consS _ _ _ (by simp)] at h0
        simp at h0
    rw [elS, if_neg h1, spl_jn 44 _ (by simp)]
    intro p hp
    obtain ⟨f, hf, rfl⟩ := List.mem_map.1 hp
    exact elT_no f (h f hf)
theorem pSets_el (es : List El) (h : ∀ e ∈ es, ElOk e) (n : Int) : pSets (jn (es.map elT) [44]) n =
    if es.any (fun e => decide ((if 65536 < n then 65536 else n) ≤ (elP e).2)) = true then ([], 3) else (uniS (es.map elP), 0) := by
  have h1 : (es.map elT).all (fun x => (pSn x).2) = true := by
    rw [List.all_eq_true]
    intro x hx
    obtain ⟨e, he, rfl⟩ := List.mem_map.1 hx
    rw [pSn_el e (h e he)]
  have h2 : (es.map elT).map (fun x => (pSn x).1) = es.map elP := by
    rw [List.map_map]
    refine List.map_congr_left fun e he => ?_
    show (pSn (elT e)).1 = _
    rw [pSn_el e (h e he)]
  unfold pSets
  rw [elS_jn es h, if_neg (by rw [h1]; decide), h2, List.any_map]
  rfl
theorem jn_lenB : ∀ (ps : List Str) (c : UInt8) (m : Nat), (∀ p ∈ ps, p.length ≤ m) → (jn ps [c]).length ≤ ps.length * (m + 1)
  | [], c, m, _ => by simp [jn, Lib.join, List.intercalate]
  | [p], c, m, h => by rw [jn_oneS]; have := h p List.mem_cons_self; simp; omega
  | p :: q :: r, c, m, h => by
    have h1 := h p List.mem_cons_self
    have h2 := jn_lenB (q :: r) c m fun x hx => h x (List.mem_cons_of_mem _ hx)
    rw [jn_consS _ _ _ (List.cons_ne_nil _ _), List.length_append, List.length_cons]
    rw [List.length_cons (a := p), Nat.add_mul (q :: r).length 1]; omega
theorem elT_len (e : El) (h : ElOk e) : (elT e).length ≤ 5 := by
  have h1 := dec_len e.1 h.a
  have h2 := dec_len e.2.1 h.b
  unfold elT
  split
  · rw [List.length_append, List.length_cons]; omega
  · omega
theorem prt_nil : prt [] = [] := by rw [prt]
end Go.Proofs.YteokppcgmfbnkaaDoor
namespace Go.Proofs.YteokppcgmfbnkaaDoor
set_option linter.unusedVariables false
set_option linter.unusedSimpArgs false
open Go.Proofs.YteokppcgmfbnkaaDoor.Sh
abbrev dice (l : List Int) (i : Nat) : Row := ⟨[.gsl (Ints l) 0 l.length none, int i], 2⟩
abbrev dp : SV := .one (.optr 0 0)
def nxS (l : List Int) (i : Nat) (n : Int) : Bool := decide ((l.length : Int) ≤ i) || decide (n < 1)
def nxV (l : List Int) (i : Nat) (n : Int) : Int := if nxS l i n = true then 0 else l.getD i 0 % n
def nxA (l : List Int) (i : Nat) (n : Int) : Nat := if nxS l i n = true then i else i + 1
theorem roll_spec (l : List Int) : FnSpec Tryd.prog 10 [gi l none] [] dp [some (dice l 0)] := by
  refine fnspec_of mixed TT_ok TT_cl ⟨fun _ => false, fun _ => [], 0, fun _ => false, fun _ => false⟩ Tryd.func10 rfl (by kernel_rfl) rfl 6 rfl [.tmp 2] rfl ?_
  simp only [go_sem, Nat.reduceEqDiff, Nat.reduceAdd, Nat.reduceSub, Nat.reduceMul, Nat.reduceLT, Nat.reduceLeDiff, ↓reduceIte, reduceCtorEq, List.reduceReplicate, Int.cast_ofNat_Int, Int.reduceEq, Int.reduceLT, Int.reduceLE]
  repeat' (first
    | (apply fs_nil <;> (try simp only [go_sem, resV, resS, SV.ren, SV.renL, Cell.ren, St.tmF, St.hpF, idx, renO, Row.ren, evS, slot, lookR, Nat.reduceEqDiff, ↓reduceIte, reduceCtorEq, if_true, if_false, Option.getD_some, Option.getD_none, List.map_cons, List.map_nil, sLoad, readAt, readNeed, Ints_ren, Ints_length, Ints_getD, and_true, true_and, List.getD_cons_zero, List.getD_cons_succ]) <;> (try rfl)))
  all_goals (refine fs_flat [(3, dice l 0)] (by simp) (by simp only [List.map_cons, List.map_nil]; decide) (by simp only [go_sem, resV, resS, SV.ren, SV.renL, Cell.ren, St.tmF, St.hpF, idx, renO, Row.ren, evS, slot, lookR, Nat.reduceEqDiff, ↓reduceIte, reduceCtorEq, if_true, if_false, Option.getD_some, Option.getD_none, List.map_cons, List.map_nil, sLoad, readAt, readNeed, Ints_ren, Ints_length, Ints_getD, and_true, true_and, List.getD_cons_zero, List.getD_cons_succ]; try decide) ?_ (by simp only [List.forall_mem_cons, List.not_mem_nil, false_implies, implies_true, and_true, St.hpF, lookR, Nat.reduceEqDiff, if_true, if_false, ↓reduceIte] <;> (repeat' apply And.intro) <;> (first | rfl | trivial)) (by simp only [List.forall_mem_cons, List.not_mem_nil, false_implies, implies_true, and_true, true_and, flat_cons, flat_nil, flat_ints, flat_bools, flat_app, Cell.refs, and_self, eq_self_iff_true, List.append_nil]) ?_ <;> (try simp only [go_sem, resV, resS, SV.ren, SV.renL, Cell.ren, St.tmF, St.hpF, idx, renO, Row.ren, evS, slot, lookR, Nat.reduceEqDiff, ↓reduceIte, reduceCtorEq, if_true, if_false, Option.getD_some, Option.getD_none, List.map_cons, List.map_nil, sLoad, readAt, readNeed, Ints_ren, Ints_length, Ints_getD, and_true, true_and, List.getD_cons_zero, List.getD_cons_succ]) <;> (try rfl))
theorem light_spec (l : List Int) (c : Option Nat) : FnSpec Tryd.prog 8 [gi l c] [] (b1 (decide ((l.length : Int) ≤ 600))) [] := by
  refine fnspec_of mixed TT_ok TT_cl ⟨fun _ => false, fun _ => [], 0, fun _ => false, fun _ => false⟩ Tryd.func8 rfl (by kernel_rfl) rfl 6 rfl [.tmp 2] rfl ?_
  simp only [go_sem, Nat.reduceEqDiff, Nat.reduceAdd, Nat.reduceSub, Nat.reduceMul, Nat.reduceLT, Nat.reduceLeDiff, ↓reduceIte, reduceCtorEq, List.reduceReplicate, Int.cast_ofNat_Int, Int.reduceEq, Int.reduceLT, Int.reduceLE]
  repeat' (first
    | (apply fs_nil <;> (try simp only [go_sem, resV, resS, SV.ren, SV.renL, Cell.ren, St.tmF, St.hpF, idx, renO, Row.ren, evS, slot, lookR, Nat.reduceEqDiff, ↓reduceIte, reduceCtorEq, if_true, if_false, Option.getD_some, Option.getD_none, List.map_cons, List.map_nil, sLoad, readAt, readNeed, Ints_ren, Ints_length, Ints_getD, and_true, true_and, List.getD_cons_zero, List.getD_cons_succ]) <;> (try rfl)))
theorem tmod_emod (x n : Int) (h : 0 < n) : (if x.tmod n < 0 then x.tmod n + n else x.tmod n) = x % n := by
  have h1 := Int.emod_nonneg x (show n ≠ 0 by omega)
  have h2 := Int.emod_lt_of_pos x h
  rw [Int.tmod_eq_emod]
  split <;> split <;> omega
theorem next_spec (l : List Int) (i : Nat) (n : Int) (hl : l.length ≤ 600) (hr : ∀ x ∈ l, -9223372036854775808 ≤ x ∧ x ≤ 9223372036854775807) (hn : n ≤ 9223372036854775807) : FnSpec Tryd.prog 11 [dp, i1 n] [dice l i] (i1 (nxV l i n)) [some (dice l (nxA l i n))] := by
  refine fnspec_of mixed TT_ok TT_cl ⟨fun _ => false, fun _ => [], 1, fun _ => false, fun _ => false⟩ Tryd.func11 rfl (by kernel_rfl) rfl 46 rfl [.tmp 4] rfl ?_
  simp only [go_sem, Nat.reduceEqDiff, Nat.reduceAdd, Nat.reduceSub, Nat.reduceMul, Nat.reduceLT, Nat.reduceLeDiff, ↓reduceIte, reduceCtorEq, List.reduceReplicate, Int.cast_ofNat_Int, Int.reduceEq, Int.reduceLT, Int.reduceLE]
  repeat' (first
    | with_reducible refine And.intro ?_ ?_
    | (unfold OKC; kernel_rfl)
    | (unfold EDG; kernel_rfl)
    | (intros; (try simp only [Bool.and_eq_true, Bool.or_eq_true, Bool.not_eq_true', Bool.not_eq_false', Bool.and_eq_false_iff, Bool.or_eq_false_iff, decide_eq_true_eq, decide_eq_false_iff_not] at *); omega)
    | (refine gt_if (fun h => ?_) (fun h => ?_) <;> (first | (simp only [h, go_sem, Nat.reduceEqDiff, Nat.reduceAdd, Nat.reduceSub, Nat.reduceMul, Nat.reduceLT, Nat.reduceLeDiff, ↓reduceIte, reduceCtorEq, List.reduceReplicate, Int.cast_ofNat_Int, Int.reduceEq, Int.reduceLT, Int.reduceLE]; done) | simp only [h, go_sem, Nat.reduceEqDiff, Nat.reduceAdd, Nat.reduceSub, Nat.reduceMul, Nat.reduceLT, Nat.reduceLeDiff, ↓reduceIte, reduceCtorEq, List.reduceReplicate, Int.cast_ofNat_Int, Int.reduceEq, Int.reduceLT, Int.reduceLE] | skip))
    | (apply fs_nil <;> (try simp only [go_sem, resV, resS, SV.ren, SV.renL, Cell.ren, St.tmF, St.hpF, idx, renO, Row.ren, evS, slot, lookR, Nat.reduceEqDiff, ↓reduceIte, reduceCtorEq, if_true, if_false, Option.getD_some, Option.getD_none, List.map_cons, List.map_nil, sLoad, readAt, readNeed, Ints_ren, Ints_length, Ints_getD, and_true, true_and, List.getD_cons_zero, List.getD_cons_succ]) <;> (try rfl)))
  · (refine fs_flat [(0, dice l i)] (by simp) (by simp only [List.map_cons, List.map_nil]; decide) (by simp only [go_sem, resV, resS, SV.ren, SV.renL, Cell.ren, St.tmF, St.hpF, idx, renO, Row.ren, evS, slot, lookR, Nat.reduceEqDiff, ↓reduceIte, reduceCtorEq, if_true, if_false, Option.getD_some, Option.getD_none, List.map_cons, List.map_nil, sLoad, readAt, readNeed, Ints_ren, Ints_length, Ints_getD, and_true, true_and, List.getD_cons_zero, List.getD_cons_succ]; try decide) ?_ (by simp only [List.forall_mem_cons, List.not_mem_nil, false_implies, implies_true, and_true, St.hpF, lookR, Nat.reduceEqDiff, if_true, if_false, ↓reduceIte] <;> (repeat' apply And.intro) <;> (first | rfl | trivial)) (by simp only [List.forall_mem_cons, List.not_mem_nil, false_implies, implies_true, and_true, true_and, flat_cons, flat_nil, flat_ints, flat_bools, flat_app, Cell.refs, and_self, eq_self_iff_true, List.append_nil]) ?_ <;> (try simp only [go_sem, resV, resS, SV.ren, SV.renL, Cell.ren, St.tmF, St.hpF, idx, renO, Row.ren, evS, slot, lookR, Nat.reduceEqDiff, ↓reduceIte, reduceCtorEq, if_true, if_false, Option.getD_some, Option.getD_none, List.map_cons, List.map_nil, sLoad, readAt, readNeed, Ints_ren, Ints_length, Ints_getD, and_true, true_and, List.getD_cons_zero, List.getD_cons_succ]) <;> (try rfl))
    · simp only [nxV, nxS, h, if_true]
    · simp only [nxA, nxS, h, if_true]
  all_goals
    rename_i h0
    have h1 : nxS l i n = false := h0
    simp only [Bool.or_eq_false_iff, decide_eq_false_iff_not] at h0
    have e := tmod_emod (l.getD i 0) n (by omega)
    have b1 := Int.tmod_lt_of_pos (l.getD i 0) (b := n) (by omega)
    have b2 := Int.lt_tmod_of_pos (l.getD i 0) (b := n) (by omega)
    simp only [decide_eq_true_eq, decide_eq_false_iff_not] at h
    first
    | omega
    | rw [if_pos h] at e
      (refine fs_flat [(0, dice l (i + 1))] (by simp) (by simp only [List.map_cons, List.map_nil]; decide) (by simp only [go_sem, resV, resS, SV.ren, SV.renL, Cell.ren, St.tmF, St.hpF, idx, renO, Row.ren, evS, slot, lookR, Nat.reduceEqDiff, ↓reduceIte, reduceCtorEq, if_true, if_false, Option.getD_some, Option.getD_none, List.map_cons, List.map_nil, sLoad, readAt, readNeed, Ints_ren, Ints_length, Ints_getD, and_true, true_and, List.getD_cons_zero, List.getD_cons_succ]; try decide) ?_ (by simp only [List.forall_mem_cons, List.not_mem_nil, false_implies, implies_true, and_true, St.hpF, lookR, Nat.reduceEqDiff, if_true, if_false, ↓reduceIte] <;> (repeat' apply And.intro) <;> (first | rfl | trivial)) (by simp only [List.forall_mem_cons, List.not_mem_nil, false_implies, implies_true, and_true, true_and, flat_cons, flat_nil, flat_ints, flat_bools, flat_app, Cell.refs, and_self, eq_self_iff_true, List.append_nil]) ?_ <;> (try simp only [go_sem, resV, resS, SV.ren, SV.renL, Cell.ren, St.tmF, St.hpF, idx, renO, Row.ren, evS, slot, lookR, Nat.reduceEqDiff, ↓reduceIte, reduceCtorEq, if_true, if_false, Option.getD_some, Option.getD_none, List.map_cons, List.map_nil, sLoad, readAt, readNeed, Ints_ren, Ints_length, Ints_getD, and_true, true_and, List.getD_cons_zero, List.getD_cons_succ]) <;> (try rfl))
      all_goals simp only [nxV, nxA, h1, if_false, Bool.false_eq_true, e]
    | rw [if_neg h] at e
      (refine fs_flat [(0, dice l (i + 1))] (by simp) (by simp only [List.map_cons, List.map_nil]; decide) (by simp only [go_sem, resV, resS, SV.ren, SV.renL, Cell.ren, St.tmF, St.hpF, idx, renO, Row.ren, evS, slot, lookR, Nat.reduceEqDiff, ↓reduceIte, reduceCtorEq, if_true, if_false, Option.getD_some, Option.getD_none, List.map_cons, List.map_nil, sLoad, readAt, readNeed, Ints_ren, Ints_length, Ints_getD, and_true, true_and, List.getD_cons_zero, List.getD_cons_succ]; try decide) ?_ (by simp only [List.forall_mem_cons, List.not_mem_nil, false_implies, implies_true, and_true, St.hpF, lookR, Nat.reduceEqDiff, if_true, if_false, ↓reduceIte] <;> (repeat' apply And.intro) <;> (first | rfl | trivial)) (by simp only [List.forall_mem_cons, List.not_mem_nil, false_implies, implies_true, and_true, true_and, flat_cons, flat_nil, flat_ints, flat_bools, flat_app, Cell.refs, and_self, eq_self_iff_true, List.append_nil]) ?_ <;> (try simp only [go_sem, resV, resS, SV.ren, SV.renL, Cell.ren, St.tmF, St.hpF, idx, renO, Row.ren, evS, slot, lookR, Nat.reduceEqDiff, ↓reduceIte, reduceCtorEq, if_true, if_false, Option.getD_some, Option.getD_none, List.map_cons, List.map_nil, sLoad, readAt, readNeed, Ints_ren, Ints_length, Ints_getD, and_true, true_and, List.getD_cons_zero, List.getD_cons_succ]) <;> (try rfl))
      all_goals simp only [nxV, nxA, h1, if_false, Bool.false_eq_true, e]
theorem bool_spec (l : List Int) (i : Nat) (n : Int) (hl : l.length ≤ 600) (hr : ∀ x ∈ l, -9223372036854775808 ≤ x ∧ x ≤ 9223372036854775807) (hn : 0 ≤ n ∧ n ≤ 65536) : FnSpec Tryd.prog 13 [dp, i1 n] [dice l i] (b1 (decide (nxV l i n = n - 1))) [some (dice l (nxA l i n))] := by
  refine fnspec_of mixed TT_ok TT_cl ⟨fun _ => false, fun f => if f = 11 then [0] else [], 1, fun _ => false, fun _ => false⟩ Tryd.func13 rfl (by kernel_rfl) rfl 11 rfl [.tmp 4] rfl ?_
  simp only [go_sem, Nat.reduceEqDiff, Nat.reduceAdd, Nat.reduceSub, Nat.reduceMul, Nat.reduceLT, Nat.reduceLeDiff, ↓reduceIte, reduceCtorEq, List.reduceReplicate, Int.cast_ofNat_Int, Int.reduceEq, Int.reduceLT, Int.reduceLE]
  repeat' (first
    | with_reducible refine And.intro ?_ ?_
    | (intros; (try simp only [Bool.and_eq_true, Bool.or_eq_true, Bool.not_eq_true', Bool.not_eq_false', Bool.and_eq_false_iff, Bool.or_eq_false_iff, decide_eq_true_eq, decide_eq_false_iff_not] at *); omega)
    | (apply cl_lend
       case hr => (simp only [List.map_cons, List.map_nil, hpL', lookR, Nat.reduceEqDiff, if_true, if_false]; first | exact map1 _ | exact map2 _ _ | exact map3 _ _ _)
       case ha => (simp only [List.map_cons, List.map_nil, prepV, prepC, idx, hpL', lookR, Nat.reduceEqDiff, if_true, if_false]; rfl)
       case hs => rfl
       case hn => decide
       case h => (first | exact next_spec _ _ _ hl hr (by omega))
       case hf => (simp only [List.forall_mem_cons, List.not_mem_nil, false_implies, implies_true, and_true, true_and, flat_cons, flat_nil, flat_ints, flat_bools, flat_app, Cell.refs, and_self, eq_self_iff_true, List.append_nil])
       case hl => (simp only [List.length_cons, List.length_nil]; decide)
       case' hk => simp only [go_sem, Nat.reduceEqDiff, Nat.reduceAdd, Nat.reduceSub, Nat.reduceMul, Nat.reduceLT, Nat.reduceLeDiff, ↓reduceIte, reduceCtorEq, List.reduceReplicate, Int.cast_ofNat_Int, Int.reduceEq, Int.reduceLT, Int.reduceLE, SV.ren, SV.renL, Cell.ren, Row.ren, renO, bk, back, outUpsFrom, Ints_ren])
    | (apply fs_nil <;> (try simp only [go_sem, resV, resS, SV.ren, SV.renL, Cell.ren, St.tmF, St.hpF, idx, renO, Row.ren, evS, slot, lookR, Nat.reduceEqDiff, ↓reduceIte, reduceCtorEq, if_true, if_false, Option.getD_some, Option.getD_none, List.map_cons, List.map_nil, sLoad, readAt, readNeed, Ints_ren, Ints_length, Ints_getD, and_true, true_and, List.getD_cons_zero, List.getD_cons_succ]) <;> (try rfl)))
  (refine fs_flat [(0, dice l (nxA l i n))] (by simp) (by simp only [List.map_cons, List.map_nil]; decide) (by simp only [go_sem, resV, resS, SV.ren, SV.renL, Cell.ren, St.tmF, St.hpF, idx, renO, Row.ren, evS, slot, lookR, Nat.reduceEqDiff, ↓reduceIte, reduceCtorEq, if_true, if_false, Option.getD_some, Option.getD_none, List.map_cons, List.map_nil, sLoad, readAt, readNeed, Ints_ren, Ints_length, Ints_getD, and_true, true_and, List.getD_cons_zero, List.getD_cons_succ]; try decide) ?_ (by simp only [List.forall_mem_cons, List.not_mem_nil, false_implies, implies_true, and_true, St.hpF, lookR, Nat.reduceEqDiff, if_true, if_false, ↓reduceIte] <;> (repeat' apply And.intro) <;> (first | rfl | trivial)) (by simp only [List.forall_mem_cons, List.not_mem_nil, false_implies, implies_true, and_true, true_and, flat_cons, flat_nil, flat_ints, flat_bools, flat_app, Cell.refs, and_self, eq_self_iff_true, List.append_nil]) ?_ <;> (try simp only [go_sem, resV, resS, SV.ren, SV.renL, Cell.ren, St.tmF, St.hpF, idx, renO, Row.ren, evS, slot, lookR, Nat.reduceEqDiff, ↓reduceIte, reduceCtorEq, if_true, if_false, Option.getD_some, Option.getD_none, List.map_cons, List.map_nil, sLoad, readAt, readNeed, Ints_ren, Ints_length, Ints_getD, and_true, true_and, List.getD_cons_zero, List.getD_cons_succ]) <;> (try rfl))
end Go.Proofs.YteokppcgmfbnkaaDoor
-- NEWGO
-- PRUNE: cl_lendx cl_use
namespace Go.Proofs.YteokppcgmfbnkaaDoor
set_option linter.unusedVariables false
set_option linter.unusedSimpArgs false
open Go.Proofs.YteokppcgmfbnkaaDoor.Sh
set_option maxRecDepth 20000
end Go.Proofs.YteokppcgmfbnkaaDoor
