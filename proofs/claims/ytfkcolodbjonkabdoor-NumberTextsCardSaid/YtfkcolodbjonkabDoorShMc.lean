/- Ranges over strings, and strings of bytes, told of data. A place in a string is a row of three cells. -/
import Derived.Test.YtfkcolodbjonkabDoorShMa
import Derived.Laws.BytesString
namespace Go.Proofs.YtfkcolodbjonkabDoor.Sh
open Go.RowKit
set_option linter.unusedVariables false
set_option linter.unusedSimpArgs false

def sRange (T : Tab) (t : Nat) (x : SV) (n : Nat) : Res :=
  match slot t T.ts with
  | none => bad
  | some ti => match ti.kind, x with
    | .str, .one (.sc (.string s)) => ⟨True, .one (.mp n true), [(n, some ⟨[.sc (.string s), .sc (.int .i64 0), .sc (.bool true)], 0⟩)], 1⟩
    | _, _ => bad

def sNext (get : Nat → Option Row) (x : SV) (isS : Bool) : Res :=
  match isS, x with
  | true, .one (.mp r true) => (match get r with
    | some row => (match row.cells with
      | [.sc (.string s), .sc (.int .i64 p), .sc (.bool b)] => (match decide (p < (s.size : Int)) with
        | true => ⟨0 ≤ p ∧ row.esz = 0, .tup [V (.bool true), V (.int .i64 p), V (.int .i32 (Utf8.decode s p.toNat).1)], [(r, some ⟨[.sc (.string s), .sc (.int .i64 (p + (Utf8.decode s p.toNat).2)), .sc (.bool b)], 0⟩)], 0⟩
        | false => ⟨0 ≤ p ∧ row.esz = 0, .tup [V (.bool false)], [], 0⟩)
      | _ => bad)
    | none => bad)
  | _, _ => bad

def allU8 : List Cell → Bool
  | [] => true
  | .sc (.int .u8 _) :: r => allU8 r
  | _ => false
def u8of : Cell → UInt8
  | .sc (.int _ n) => UInt8.ofNat n.toNat
  | _ => 0
def bs (l : List UInt8) : ByteArray := ⟨l.toArray⟩

def sConvS (T : Tab) (get : Nat → Option Row) (s d : Nat) (x : SV) : Res :=
  match slot s T.ts, slot d T.ts with
  | some ts, some td => (match ts.kind, td.kind with
    | .slice e, .str => (match slot e T.ts, slc 1 get x with
      | some te, some (xc, k) => ⟨te.kind = .int .u8 ∧ xc.length = k * 1 ∧ allU8 xc = true, V (.string (bs (xc.map u8of))), [], 0⟩
      | _, _ => bad)
    | _, _ => sConv T s d x)
  | _, _ => sConv T s d x

section
variable {P : Program} {o : Oper} {w0 : Base} {A : Nat → Prop} {N : Nat} {Fr : Nat → Prop} {tm : Nat → Option SV} {hp : Nat → Option Row} {a : Act} {w : World} {m : Mem} {π : Plc} {n : Nat}

theorem run_getObj_of {r : Nat} {s : ByteArray} {k : Nat} (hb : w.heap[r]? = some (.stringIter s k)) : (getObj r).run P w = .ok (.stringIter s k) w := by
  simp [getObj, Sem.run, hb]
theorem run_setObj_of {r : Nat} {s : ByteArray} {k : Nat} (o' : Obj) (hb : w.heap[r]? = some (.stringIter s k)) : (setObj r o').run P w = .ok () { w with heap := w.heap.setIfInBounds r o' } := by
  simp [setObj, Sem.run, hb]
theorem sRange_ok (T : Tab) (hT : TOk P T) (h : RelAt P w0 A N Fr tm hp a w m π) (hf : Fr n) {t : Nat} {x : Operand} (ho : o.op = .range t x) {p : SV} (hp' : VS m π p (a.eval x))
    (hn : (sRange T t p n).need) : Good P o w0 A N Fr tm hp a w n (sRange T t p n) := by
  have hex : execOp a.eval o = (do pure (.value (← Instr.range t (a.eval x)))) := by unfold execOp; rw [ho]
  unfold sRange at hn ⊢
  split
  · rename_i e; rw [e] at hn; exact hn.elim
  · rename_i ti hl
    rw [hl] at hn
    simp only at hn
    have hti := hT t ti hl
    split at hn
    · rename_i s hk
      have hu := hti.str hk
      obtain ⟨e1, _⟩ := vs_sc hp'
      have h1 : RelAt P w0 A N Fr tm hp a (w.alloc (.stringIter s 0)) m π :=
        h.world (fun _ => False) rfl rfl rfl (by simp) (fun b hb _ => Below.heap_alloc _ _ _ hb) (fun b hb => hb.elim) (fun _ _ _ hb => hb) (fun _ _ _ hb => hb)
      have h2 := h1.adopt0 n hf ⟨w.heap.size, 0, 0, 0⟩ ⟨[.sc (.string s), .sc (.int .i64 0), .sc (.bool true)], 0⟩ #[.string s, .int .i64 0, .bool true] 0 (h.new _ h.keep.size) rfl
        (.inr ⟨rfl, .stringIter s 0, by show (w.heap.push _)[w.heap.size]? = _; simp, rfl⟩)
        ⟨fun e => absurd rfl e, fun _ => rfl⟩ ⟨fun e => absurd rfl e, fun _ => rfl⟩
        (fun i c hi => by
          match i, hi with
          | 0, hi => simp at hi; subst hi; exact ⟨_, rfl, VG.sc _ rfl⟩
          | 1, hi => simp at hi; subst hi; exact ⟨_, rfl, VG.sc _ rfl⟩
          | 2, hi => simp at hi; subst hi; exact ⟨_, rfl, VG.sc _ rfl⟩
          | i + 3, hi => simp at hi)
        (fun c hc => by simp at hc; rcases hc with rfl | rfl | rfl <;> trivial) (fun c hc => by simp at hc; rcases hc with rfl | rfl | rfl <;> exact fun hh => by cases hh)
        (fun r q hq => by have := h.lt hq; show q.b ≠ w.heap.size; omega)
        (fun ad v hv => by have := World.block_lt_of_cell? _ _ (h.mok ad v hv).2; show ad.block ≠ w.heap.size; omega)
      refine ⟨.pointer (some ⟨w.heap.size, 0, none⟩), _, m, _, .inl ?_, h2.frmono (fun r hr => ⟨hr.1, fun e => hr.2 (by simp only; omega)⟩), ⟨rfl, ?_⟩, fun hq => hq.2 (by simp only; omega)⟩
      · rw [hex, e1]
        simp [Instr.range, run_underlying hu, Result.andThen]
      · show match upd π n _ n with | none => True | some none => False | some (some p) => _
        rw [upd_same]
        exact ⟨rfl, rfl⟩
    · exact hn.elim

theorem iter_at (h : RelAt P w0 A N Fr tm hp a w m π) {r : Nat} {row : Row} (hr : hp r = some row) (hz : row.esz = 0) {s : ByteArray} {p : Int} {b : Bool} (hc : row.cells = [.sc (.string s), .sc (.int .i64 p), .sc (.bool b)]) {x : Value} (hx : VS m π (.one (.mp r true)) x) :
    ∃ q k, π r = some (some q) ∧ q.esz = 0 ∧ q.o = 0 ∧ x = .pointer (some ⟨q.b, 0, none⟩) ∧ w.heap[q.b]? = some (.stringIter s k) ∧ p = k ∧ b = true := by
  have hrow := h.rows r row hr
  unfold RowOk at hrow
  obtain ⟨h1, h2⟩ := hx
  cases hπ : π r with
  | none => rw [hπ] at hrow; exact hrow.elim
  | some q =>
    rw [hπ] at h2 hrow
    cases q with
    | none => exact h2.elim
    | some q =>
      simp only at h2
      obtain ⟨g1, g2, arr, e, g3, g4, g5, g6⟩ := hrow
      rcases g3 with ⟨e0, _⟩ | ⟨_, o, g3, g3'⟩
      · exact absurd h2.1 e0
      have hlen := g5.2 h2.1
      have ho := g4.2 h2.1
      rw [hc] at hlen
      have hat : ∀ (i : Nat) v, row.cells[i]? = some (.sc v) → arr[i]? = some v := by
        intro i v hi
        obtain ⟨y, k1, k2⟩ := g6 i _ hi
        rw [ho, Nat.zero_add] at k1
        cases k2
        exact k1
      have a0 := hat 0 _ (by rw [hc]; rfl)
      have a1 := hat 1 _ (by rw [hc]; rfl)
      have a2 := hat 2 _ (by rw [hc]; rfl)
      cases o <;> simp only [objArr, Option.some.injEq, reduceCtorEq] at g3'
      · rename_i es k
        exfalso
        have e1 : arr.size = 3 := hlen
        have e2 : (mapArr es).length = 2 * es.size := by
          unfold mapArr
          rw [List.length_flatMap]
          simp only [List.length_cons, List.length_nil, List.map_const', List.sum_replicate_nat, Array.length_toList]
          omega
        rw [g3'] at e2
        simp at e2
        omega
      · rename_i s' k
        refine ⟨q, k, rfl, h2.1, ho, h2.2, ?_⟩
        rw [← Array.getElem?_toList, ← g3'] at a0 a1 a2
        simp at a0 a1 a2
        subst a0
        exact ⟨g3, a1.symm, a2⟩

theorem sNext_ok (h : RelAt P w0 A N Fr tm hp a w m π) {x : Operand} {isS : Bool} (ho : o.op = .next x isS) {p : SV} (hp' : VS m π p (a.eval x))
    (hn : (sNext hp p isS).need) : Good P o w0 A N Fr tm hp a w n (sNext hp p isS) := by
  have hex : execOp a.eval o = (do pure (.value (← Instr.next (a.eval x) isS o.type))) := by unfold execOp; rw [ho]
  unfold sNext at hn ⊢
  split at hn
  · rename_i r
    split at hn
    · rename_i row hr
      split at hn
      · rename_i s p b hc
        have hz : row.esz = 0 := by split at hn <;> exact hn.2
        obtain ⟨q, k, hπ, hqz, hqo, ex, hb, rfl, rfl⟩ := iter_at h hr hz hc hp'
        have hgo : (getObj q.b).run P w = .ok (.stringIter s k) w := run_getObj_of hb
        by_cases hlt : (k : Int) < (s.size : Int)
        · simp only [decide_eq_true hlt] at hn ⊢
          have hlt' : k < s.size := by omega
          have hm : ∀ ad v, m ad = some v → ad.block ≠ q.b := fun ad v hv => h.dis r q ad v hπ hv
          have hrel := h.reobj hr hπ (.stringIter s (k + (Utf8.decode s k).2)) [.sc (.string s), .sc (.int .i64 ((k : Int) + (Utf8.decode s k).2)), .sc (.bool true)] #[.string s, .int .i64 ((k : Int) + (Utf8.decode s k).2), .bool true] 0 hm
            (.inr ⟨hqz, .stringIter s (k + (Utf8.decode s k).2), by show (w.heap.setIfInBounds q.b _)[q.b]? = _; rw [Array.getElem?_setIfInBounds_self_of_lt (h.lt hπ)], by simp [objArr]⟩)
            ⟨fun e => absurd hqz e, fun _ => hqo⟩ ⟨fun e => absurd hqz e, fun _ => rfl⟩
            (fun i c hi => by
              rw [hqo, Nat.zero_add]
              match i, hi with
              | 0, hi => simp at hi; subst hi; exact ⟨_, rfl, VG.sc _ rfl⟩
              | 1, hi => simp at hi; subst hi; exact ⟨_, rfl, VG.sc _ rfl⟩
              | 2, hi => simp at hi; subst hi; exact ⟨_, rfl, VG.sc _ rfl⟩
              | i + 3, hi => simp at hi)
            (fun c hc => by simp at hc; rcases hc with rfl | rfl | rfl <;> trivial) (fun c hc => by simp at hc; rcases hc with rfl | rfl | rfl <;> exact fun hh => by cases hh)
          rw [hz] at hrel
          refine ⟨.tuple #[.bool true, .int .i64 k, .int .i32 (Utf8.decode s k).1], _, m, π, .inl ?_, hrel.frmono (fun r hr => hr.1), ?_, ⟨trivial, trivial, trivial, trivial⟩⟩
          · rw [hex, ex]
            simp [Instr.next, hgo, hlt', run_setObj_of _ hb, goInt, Result.andThen]
          · refine ⟨#[.bool true, .int .i64 k, .int .i32 (Utf8.decode s k).1], rfl, VG.sc _ rfl, VG.sc _ rfl, ?_, trivial⟩
            rw [Int.toNat_natCast]
            exact VG.sc _ rfl
        · simp only [decide_eq_false hlt] at hn ⊢
          have hlt' : ¬ k < s.size := by omega
          refine good_pure h (v := .tuple #[.bool false]) ?_ ⟨#[.bool false], rfl, VG.sc _ rfl, trivial⟩ ⟨trivial, trivial⟩
          rw [hex, ex]
          simp [Instr.next, hgo, hlt', Result.andThen]
      · exact hn.elim
    · exact hn.elim
  · exact hn.elim

theorem bs_push (l : List UInt8) (b : UInt8) : (bs l).push b = bs (l ++ [b]) := by
  unfold bs
  simp [ByteArray.push]
theorem foldl_bs : ∀ (ns : List Int) (l : List UInt8), ns.foldl (fun r n => r.push (UInt8.ofNat n.toNat)) (bs l) = bs (l ++ ns.map fun n => UInt8.ofNat n.toNat)
  | [], l => by simp
  | n :: ns, l => by
    rw [List.foldl_cons, bs_push, foldl_bs ns]
    simp
theorem vl_u8 : ∀ {cs : List Cell} {vs : List Value}, VL m π cs vs → allU8 cs = true → ∃ ns : List Int, vs = ns.map (Value.int .u8) ∧ cs.map u8of = ns.map fun n => UInt8.ofNat n.toNat
  | [], [], _, _ => ⟨[], rfl, rfl⟩
  | [], _ :: _, h, _ => h.elim
  | _ :: _, [], h, _ => h.elim
  | c :: cs, v :: vs, ⟨h1, h2⟩, hu => by
    cases c with
    | sc x =>
      cases x with
      | int k n =>
        cases k <;> simp only [allU8] at hu <;> try (cases hu; done)
        obtain ⟨ns, e1, e2⟩ := vl_u8 h2 hu
        have e : v = .int .u8 n := by cases h1; rfl
        exact ⟨n :: ns, by rw [e, e1]; rfl, by rw [List.map_cons, e2]; rfl⟩
      | _ => cases hu
    | _ => cases hu

theorem sConvS_ok (T : Tab) (hT : TOk P T) (h : RelAt P w0 A N Fr tm hp a w m π) {s d : Nat} {x : Operand} (ho : o.op = .convert s d x) {p : SV}
    (hp' : VS m π p (a.eval x)) (hcl : p.cl Fr) (hn : (sConvS T hp s d p).need) : Good P o w0 A N Fr tm hp a w n (sConvS T hp s d p) := by
  unfold sConvS at hn ⊢
  cases hl : slot s T.ts with
  | none => rw [hl] at hn; exact sConv_ok T hT h ho hp' hn
  | some ts =>
    cases hl2 : slot d T.ts with
    | none => rw [hl, hl2] at hn; exact sConv_ok T hT h ho hp' hn
    | some td =>
      rw [hl, hl2] at hn
      simp only at hn ⊢
      split at hn
      · rename_i e hk hk2
        split at hn
        · rename_i te xc k hle hsl
          obtain ⟨n1, n2, n3⟩ := hn
          have hus := (hT s ts hl).slice hk
          have hud := (hT d td hl2).str hk2
          have hue := (hT e te hle).int n1
          obtain ⟨ad, c, vals, ev, q1, q2, q3, q4, q5, q6, q7⟩ := slc_ok h hp' hcl hsl n2 (by omega)
          obtain ⟨ns, e1, e2⟩ := vl_u8 q1 n3
          have hex : execOp a.eval o = (do pure (.value (← convert s d (a.eval x)))) := by unfold execOp; rw [ho]
          have hvl := q1.length
          refine good_val h (v := .string (bs (xc.map u8of))) ?_ rfl
          rw [hex, ev]
          cases ad with
          | none =>
            have hk0 := (q6 rfl).1
            subst hk0
            have hxc : xc = [] := List.length_eq_zero_iff.1 (by omega)
            subst hxc
            simp [run_convert_bytes_string w s d e none 0 c hus hue hud, Conv.bytesToString, Result.andThen, bs, ByteArray.empty, ByteArray.emptyWithCapacity]
            rfl
          | some dd =>
            have hld : (loadCells dd k).run P w = .ok (ns.map (Value.int .u8)).toArray w := by
              have := run_loadCells_list (P := P) (w := w) dd vals (fun j u hj => q5 dd rfl j u hj)
              rw [hvl, n2, Nat.mul_one, e1] at this
              exact this
            have hb := run_bytesToString (P := P) w dd k c ns hld
            have hfo : ns.foldl (fun r n => r.push (UInt8.ofNat n.toNat)) ByteArray.empty = bs (xc.map u8of) := by
              have := foldl_bs ns []
              rw [List.nil_append] at this
              rw [e2]
              exact this
            rw [hfo] at hb
            simp [run_convert_bytes_string w s d e (some dd) k c hus hue hud, hb]
        · exact hn.elim
      · exact sConv_ok T hT h ho hp' hn

theorem sConvS_loc (T : Tab) (s d : Nat) {x : SV} {get get' : Nat → Option Row} (hx : ∀ r ∈ x.ref, get r = get' r) : sConvS T get s d x = sConvS T get' s d x := by
  unfold sConvS
  split
  · split
    · rw [slc_loc hx]
    · rfl
  · rfl
theorem sConv_ups (T : Tab) (s d : Nat) (x : SV) (F : List Nat) (n : Nat) : UpsOk F n (sConv T s d x) := by
  refine ups_nil ?_
  unfold sConv
  split
  · split
    · unfold ari; split <;> rfl
    · rfl
    · rfl
  · rfl
theorem sConvS_ups (T : Tab) (get : Nat → Option Row) (s d : Nat) (x : SV) (F : List Nat) (n : Nat) : UpsOk F n (sConvS T get s d x) := by
  unfold sConvS
  split
  · split
    · split
      · exact ups_nil rfl
      · exact ups_nil rfl
    · exact sConv_ups T s d x F n
  · exact sConv_ups T s d x F n
theorem sRange_ups (T : Tab) (t : Nat) (x : SV) (F : List Nat) (n : Nat) : UpsOk F n (sRange T t x n) := by
  unfold sRange
  split
  · exact ups_nil rfl
  · split
    · exact ups_new rfl
    · exact ups_nil rfl
theorem sNext_loc {x : SV} (isS : Bool) {get get' : Nat → Option Row} (hx : ∀ r ∈ x.ref, get r = get' r) : sNext get x isS = sNext get' x isS := by
  unfold sNext
  split
  · rw [hx _ (by simp [SV.ref])]
  · rfl
theorem sNext_ups (get : Nat → Option Row) (x : SV) (isS : Bool) (F : List Nat) (n : Nat) (hF : ∀ r ∈ x.ref, r ∈ F) : UpsOk F n (sNext get x isS) := by
  unfold sNext
  split
  · split
    · split
      · split
        · exact ups_old rfl (hF _ (by simp [SV.ref]))
        · exact ups_nil rfl
      · exact ups_nil rfl
    · exact ups_nil rfl
  · exact ups_nil rfl
end
end Go.Proofs.YtfkcolodbjonkabDoor.Sh
