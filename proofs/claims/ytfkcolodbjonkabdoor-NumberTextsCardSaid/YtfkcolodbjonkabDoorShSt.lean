/- Texts as lists of bytes. -/
import Derived.Test.YtfkcolodbjonkabDoorShZa
import Derived.Laws.RangeString
import Derived.Laws.RangeAny
import Derived.Lib.Bytealg
namespace Go.Proofs.YtfkcolodbjonkabDoor.Sh
set_option linter.unusedVariables false
set_option linter.unusedSimpArgs false
open Go

abbrev Str := List UInt8
abbrev st (l : Str) : Cell := .sc (.string (bs l))
abbrev s1 (l : Str) : SV := .one (st l)
theorem mk_bs (l : Str) : (ByteArray.mk (List.toArray l)) = bs l := rfl
theorem bs_size (l : Str) : (bs l).size = l.length := by simp [bs, ByteArray.size]
theorem bs_app (a b : Str) : bs a ++ bs b = bs (a ++ b) := by
  apply ByteArray.ext
  simp [bs]
theorem bs_data (l : Str) : (bs l).data.toList = l := by simp [bs]
theorem bs_get (l : Str) (i : Nat) : (bs l)[i]? = l[i]? := by
  by_cases h : i < l.length
  · rw [List.getElem?_eq_getElem h]
    have : i < (bs l).size := by rw [bs_size]; exact h
    rw [getElem?_pos (bs l) i this]
    simp [bs, ByteArray.getElem_eq_getElem_data]
  · rw [List.getElem?_eq_none (by omega), getElem?_neg]
    rw [bs_size]; exact h
theorem bs_ext (l : Str) (i j : Nat) : (bs l).extract i j = bs ((l.take j).drop i) := by
  apply ByteArray.ext
  rw [ByteArray.data_extract]
  apply Array.ext'
  show ((l.toArray).extract i j).toList = ((l.take j).drop i)
  rw [Array.toList_extract, List.extract_eq_take_drop, List.drop_take]
theorem bs_toList (l : Str) : (bs l).toList = l := by
  rw [ByteArray.toList_eq]
  exact bs_data l
theorem bs_beq (a b : Str) : ((bs a).toList == (bs b).toList) = decide (a = b) := by
  rw [bs_toList, bs_toList]
  by_cases h : a = b <;> simp [h]
theorem bs_of (s : ByteArray) : s = bs s.data.toList := by
  apply ByteArray.ext
  simp [bs]
theorem bs_at (l : Str) (i : Nat) (b : UInt8) (hb : l[i]? = some b) : ∃ h : i < (bs l).size, (bs l)[i]'h = b := by
  have hi := (List.getElem?_eq_some_iff.1 hb).1
  have h : i < (bs l).size := by rw [bs_size]; exact hi
  refine ⟨h, ?_⟩
  have := bs_get l i
  rw [getElem?_pos (bs l) i h, hb] at this
  exact Option.some.inj this
theorem bs_dec (l : Str) (i : Nat) (b : UInt8) (hb : l[i]? = some b) (ha : b.toNat < 128) : Utf8.decode (bs l) i = (b.toNat, 1) := by
  obtain ⟨h, e⟩ := bs_at l i b hb
  have := decode_ascii (bs l) i h (by rw [e]; exact ha)
  rw [e] at this
  exact this
theorem bs_high (l : Str) (i : Nat) (b : UInt8) (hb : l[i]? = some b) (ha : 128 ≤ b.toNat) : 128 ≤ (Utf8.decode (bs l) i).1 ∧ 1 ≤ (Utf8.decode (bs l) i).2 := by
  obtain ⟨h, e⟩ := bs_at l i b hb
  exact decode_high (bs l) i h (by rw [e]; exact ha)
theorem bs_le (l : Str) (i : Nat) : (Utf8.decode (bs l) i).1 ≤ 2147483647 := decode_le (bs l) i
def Strs (xs : List Str) : List Cell := xs.map st
theorem Strs_length (xs : List Str) : (Strs xs).length = xs.length := by simp [Strs]
theorem Strs_getD (xs : List Str) (i : Nat) : (Strs xs).getD i (st []) = st (xs.getD i []) := by
  unfold Strs
  simp only [List.getD_eq_getElem?_getD, List.getElem?_map]
  cases xs[i]? <;> rfl
theorem Strs_getD' (xs : List Str) (i : Nat) (d : Cell) (h : i < xs.length) : (Strs xs).getD i d = st (xs.getD i []) := by
  unfold Strs
  simp only [List.getD_eq_getElem?_getD, List.getElem?_map, List.getElem?_eq_getElem h, Option.map_some, Option.getD_some]
theorem Strs_set (xs : List Str) (i : Nat) (s : Str) : (Strs xs).set i (st s) = Strs (xs.set i s) := by
  unfold Strs
  rw [List.map_set]
theorem Strs_app (xs : List Str) (s : Str) : Strs xs ++ [st s] = Strs (xs ++ [s]) := by simp [Strs]
theorem Strs_cat (a b : List Str) : Strs a ++ Strs b = Strs (a ++ b) := by simp [Strs]
theorem Strs_drop (xs : List Str) (i : Nat) : (Strs xs).drop i = Strs (xs.drop i) := by simp [Strs, List.map_drop]
theorem Strs_take (xs : List Str) (i : Nat) : (Strs xs).take i = Strs (xs.take i) := by simp [Strs, List.map_take]
theorem Strs_isG (xs : List Str) : ∀ c ∈ Strs xs, c.isG = true := by
  intro c hc
  obtain ⟨x, _, rfl⟩ := List.mem_map.1 hc
  rfl
theorem Strs_flat (xs : List Str) : flat (Strs xs) := by
  intro c hc
  obtain ⟨x, _, rfl⟩ := List.mem_map.1 hc
  rfl
abbrev gs (xs : List Str) (cap : Option Nat) : SV := .one (.gsl (Strs xs) 0 xs.length cap)
theorem FnSpec.of_calls {P : Program} {f : FuncId} {fn : Func} {args : List SV} {res : SV} (hf : P.funcs[f]? = some fn) (h1 : (fn.name == "runtime.NumGoroutine") = false) (h2 : fn.body.isNone = false) (hcl : res.cl (0 ≤ ·))
    (h : ∀ (w : World) (vals : Array Value) (m : Mem), (∀ ad v, m ad = some v → ad.spot = none ∧ w.cell? ad = some v) → VSL m (fun _ => none) args vals.toList →
      Calls P f vals w fun e w' => ∃ v, e = .returned v ∧ VS m (fun _ => none) res v ∧ RowKit.Below w.heap.size w w') : FnSpec P f args [] res [] := by
  refine ⟨⟨fn, hf, h1, h2⟩, fun w vals m π A hA hr hv hc => ?_⟩
  have hπ : π = fun _ => none := funext fun r => hr.live r (by cases r <;> rfl)
  subst hπ
  refine (h w vals m hr.mok hv).mono fun e w' ⟨v, e1, e2, e3⟩ => ⟨v, m, _, e1, ?_, e2, hcl⟩
  exact hr.world (fun _ => False) e3.os e3.tape e3.output e3.size (fun b hb _ => e3.block b hb) (fun b hb => hb.elim) (fun _ _ _ hb => hb) (fun _ _ _ hb => hb)
theorem FnSpec.of_callsG {P : Program} {f : FuncId} {fn : Func} {args : List SV} {res : SV} (hf : P.funcs[f]? = some fn) (h1 : (fn.name == "runtime.NumGoroutine") = false) (h2 : fn.body.isNone = false) (hcl : res.cl (0 ≤ ·))
    (h : ∀ (w : World) (vals : Array Value) (m : Mem), (∀ ad v, m ad = some v → ad.spot = none ∧ w.cell? ad = some v) → (∀ t ∈ tabs, ∀ b, P.globalNamed t.1 = some b → Lib.TabIs P w t.1 t.2.1 t.2.2) → VSL m (fun _ => none) args vals.toList →
      Calls P f vals w fun e w' => ∃ v, e = .returned v ∧ VS m (fun _ => none) res v ∧ RowKit.Below w.heap.size w w') : FnSpec P f args [] res [] := by
  refine ⟨⟨fn, hf, h1, h2⟩, fun w vals m π A hA hr hv hc => ?_⟩
  have hπ : π = fun _ => none := funext fun r => hr.live r (by cases r <;> rfl)
  subst hπ
  refine (h w vals m hr.mok (fun t ht b hb => (hr.gl t ht b hb).2) hv).mono fun e w' ⟨v, e1, e2, e3⟩ => ⟨v, m, _, e1, ?_, e2, hcl⟩
  exact hr.world (fun _ => False) e3.os e3.tape e3.output e3.size (fun b hb _ => e3.block b hb) (fun b hb => hb.elim) (fun _ _ _ hb => hb) (fun _ _ _ hb => hb)
section
variable {P : Program} {T : Tab} {A : An} {N : Nat} {all : Array Oper} {dr : Bool} {K : St → Prop} {rest : List Oper} {acc : List (List Nat × List Nat)} {tm : List (Nat × SV)} {hp : List (Nat × Option Row)} {nx : Nat} {dst : Option Tmp} {ty : TypeId} {pos : String} {after : Array Edge} (b : Bool)
theorem g_sliceH (t : TypeId) (x y : Operand) : GG P T A N all dr K rest acc tm hp nx ⟨dst, .slice t x none (some y) none, ty, pos, after, none⟩ b = S2B P T A N all dr K rest acc tm hp nx dst b (fun u v => sSlice T (hpL' hp) t u none (some v) none) SV.ref (evL tm x) (evL tm y) := rfl
theorem g_sliceL (t : TypeId) (x y : Operand) : GG P T A N all dr K rest acc tm hp nx ⟨dst, .slice t x (some y) none none, ty, pos, after, none⟩ b = S2B P T A N all dr K rest acc tm hp nx dst b (fun u v => sSlice T (hpL' hp) t u (some v) none none) SV.ref (evL tm x) (evL tm y) := rfl
end
theorem drop0 {α : Type} (l : List α) : List.drop (Int.toNat 0) l = l := rfl
attribute [go_sem] g_sliceH g_sliceL drop0 mk_bs bs_size bs_app bs_get bs_ext bs_beq Strs_length Strs_take Strs_drop Strs_cat Strs_app Strs_set Strs_getD
end Go.Proofs.YtfkcolodbjonkabDoor.Sh
