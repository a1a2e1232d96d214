/- Maps, told of data: a map is a row whose cells are its keys and values, one after the other. -/
import Derived.Test.YtfkcolodbjonkabDoorShHa
import Derived.MapKept
namespace Go.Proofs.YtfkcolodbjonkabDoor.Sh
open Go.RowKit
set_option linter.unusedVariables false
set_option linter.unusedSimpArgs false

def keyB : TK → Value → Bool
  | .int k, .int k' _ => decide (k' = k)
  | .str, .string _ => true
  | .bool, .bool _ => true
  | _, _ => false

def keyEq : Value → Value → Bool
  | .int _ a, .int _ b => a == b
  | .string a, .string b => a == b
  | .bool a, .bool b => a == b
  | _, _ => false

def mkeys (k : TK) : List Cell → Bool
  | [] => true
  | .sc v :: _ :: r => keyB k v && mkeys k r
  | _ => false

def mget (k : Value) : List Cell → Option Cell
  | .sc v :: c :: r => if keyEq k v = true then some c else mget k r
  | _ => none

def mset (k : Value) (x : Cell) : List Cell → List Cell
  | .sc v :: c :: r => if keyEq k v = true then .sc k :: x :: r else .sc v :: c :: mset k x r
  | _ => [.sc k, x]

def mval (z : List Value) : Option Cell → Cell
  | some c => c
  | none => .sc (z.headD (.bool false))

theorem mval_some (z : List Value) (c : Cell) : mval z (some c) = c := rfl
theorem mval_none (z : Value) : mval [z] none = .sc z := rfl

def sMakeMap (T : Tab) (t n : Nat) : Res :=
  match slot t T.ts with
  | none => bad
  | some ti => match ti.kind with
    | .map _ _ => ⟨True, .one (.mp n false), [(n, some ⟨[], 0⟩)], 1⟩
    | _ => bad

def sLookup (T : Tab) (get : Nat → Option Row) (t : Nat) (x i : SV) (ok : Bool) : Res :=
  match slot t T.ts, i with
  | some ti, .one (.sc k) => (match ti.kind, x with
    | .map kt et, .one (.mp r false) => (match slot kt T.ts, slot et T.ts, get r with
      | some tk, some te, some row => ⟨row.esz = 0 ∧ mkeys tk.kind row.cells = true ∧ keyB tk.kind k = true ∧ te.kind.isAgg = false,
          (if ok then .tup [.one (mval te.zero (mget k row.cells)), V (.bool (mget k row.cells).isSome)] else .one (mval te.zero (mget k row.cells))), [], 0⟩
      | _, _, _ => bad)
    | _, _ => bad)
  | _, _ => bad

def sMapUpdate (T : Tab) (get : Nat → Option Row) (t : Nat) (x i v : SV) : Res :=
  match slot t T.ts, i, v with
  | some ti, .one (.sc k), .one c => (match ti.kind, x with
    | .map kt et, .one (.mp r false) => (match slot kt T.ts, get r with
      | some tk, some row => ⟨row.esz = 0 ∧ mkeys tk.kind row.cells = true ∧ keyB tk.kind k = true ∧ c ≠ .un, .one .un, [(r, some ⟨mset k c row.cells, 0⟩)], 0⟩
      | _, _ => bad)
    | _, _ => bad)
  | _, _, _ => bad

theorem keyB_is {k : TK} {d : TypeDesc} {v : Value} (hf : k.fits d) (h : keyB k v = true) : MapKept.IsKey d v := by
  cases k <;> cases v <;> simp [keyB] at h <;> cases d <;> simp_all [TK.fits, MapKept.IsKey]

theorem keyEq_iff {d : TypeDesc} {a b : Value} (ha : MapKept.IsKey d a) (hb : MapKept.IsKey d b) : Instr.sameNow d a b = some (keyEq a b) ∧ (keyEq a b = true ↔ a = b) := by
  cases d <;> cases a <;> cases b <;> simp_all [MapKept.IsKey, Instr.sameNow, MapKept.bytes_beq, keyEq]

theorem key_one {k : TK} {v : Value} (h : keyB k v = true) : v.oneCell' = true := by
  cases k <;> cases v <;> simp [keyB] at h <;> rfl

theorem mget_find {m : Mem} {π : Plc} {k : TK} {d : TypeDesc} (hf : k.fits d) {kv : Value} (hk : keyB k kv = true) : ∀ (es : List MapEntry) (cs : List Cell) (i : Nat), mkeys k cs = true →
    VL m π cs (es.flatMap fun e => [e.key, e.val]) →
    (Instr.findNow d kv es i = some none ∧ mget kv cs = none ∧ ∀ x, mset kv x cs = cs ++ [.sc kv, x]) ∨
    ∃ j e c, Instr.findNow d kv es i = some (some (i + j, e.val)) ∧ es[j]? = some e ∧ e.key = kv ∧ mget kv cs = some c ∧ cs[2 * j + 1]? = some c ∧ ∀ x, mset kv x cs = (cs.set (2 * j + 1) x)
  | [], [], i, _, _ => .inl ⟨rfl, rfl, fun _ => rfl⟩
  | [], _ :: _, i, _, h => h.elim
  | e :: es, [], i, _, h => h.elim
  | e :: es, [c], i, hm, _ => by cases c <;> simp [mkeys] at hm
  | e :: es, c :: c2 :: cs, i, hm, ⟨h1, h2, h3⟩ => by
    cases c <;> simp only [mkeys, Bool.and_eq_true] at hm <;> try (cases hm; done)
    rename_i v
    have hv : e.key = v := by cases h1; rfl
    obtain ⟨q1, q2⟩ := keyEq_iff (keyB_is hf hk) (keyB_is hf hm.1)
    by_cases he : keyEq kv v = true
    · have e1 := q2.1 he
      refine .inr ⟨0, e, c2, ?_, rfl, by rw [hv, e1], ?_, rfl, fun x => ?_⟩
      · unfold Instr.findNow
        rw [hv, q1, he]
        rfl
      · simp only [mget, if_pos he]
      · simp only [mset, if_pos he]
        rw [e1]
        rfl
    · have he' : keyEq kv v = false := by cases hh : keyEq kv v <;> simp_all
      rcases mget_find hf hk es cs (i + 1) hm.2 h3 with ⟨g1, g2, g3⟩ | ⟨j, e', c', g1, g2, g3, g4, g5, g6⟩
      · refine .inl ⟨?_, ?_, fun x => ?_⟩
        · unfold Instr.findNow
          rw [hv, q1, he']
          exact g1
        · simp only [mget, if_neg he, g2]
        · simp only [mset, if_neg he, g3]
          rfl
      · refine .inr ⟨j + 1, e', c', ?_, by simpa using g2, g3, ?_, ?_, fun x => ?_⟩
        · unfold Instr.findNow
          rw [hv, q1, he']
          show Instr.findNow _ _ es (i + 1) = _
          rw [g1, Nat.add_assoc, Nat.add_comm 1 j]
        · simp only [mget, if_neg he, g4]
        · rw [show 2 * (j + 1) + 1 = (2 * j + 1) + 1 + 1 by omega]
          simpa using g5
        · simp only [mset, if_neg he, g6]
          rw [show 2 * (j + 1) + 1 = (2 * j + 1) + 1 + 1 by omega]
          rfl

theorem flatMap_set2 : ∀ (es : List MapEntry) (j : Nat) (e e' : MapEntry), es[j]? = some e → e'.key = e.key →
    (es.set j e').flatMap (fun e => [e.key, e.val]) = (es.flatMap fun e => [e.key, e.val]).set (2 * j + 1) e'.val
  | [], j, e, e', h, _ => by simp at h
  | x :: es, 0, e, e', h, hk => by
    simp at h
    subst h
    simp [hk]
  | x :: es, j + 1, e, e', h, hk => by
    have := flatMap_set2 es j e e' (by simpa using h) hk
    simp only [List.set_cons_succ, List.flatMap_cons, this]
    rw [show 2 * (j + 1) + 1 = (2 * j + 1) + 1 + 1 by omega]
    rfl

section
variable {P : Program} {o : Oper} {w0 : Base} {A : Nat → Prop} {N : Nat} {Fr : Nat → Prop} {tm : Nat → Option SV} {hp : Nat → Option Row} {a : Act} {w : World} {m : Mem} {π : Plc} {n : Nat}

theorem TIok.map {t : Nat} {ti : TI} (h : TIok P t ti) {k e : Nat} (hk : ti.kind = .map k e) : P.underlying t = some (.map k e) := by
  obtain ⟨i, d, z, _, h2, _, _, h5, _⟩ := h.ex
  rw [hk] at h5
  cases d <;> simp [TK.fits] at h5
  obtain ⟨rfl, rfl⟩ := h5
  exact h2

theorem sMakeMap_ok (T : Tab) (hT : TOk P T) (h : RelAt P w0 A N Fr tm hp a w m π) (hf : Fr n) {t : Nat} (ho : o.op = .makeMap t none)
    (hn : (sMakeMap T t n).need) : Good P o w0 A N Fr tm hp a w n (sMakeMap T t n) := by
  have hex : execOp a.eval o = (do pure (.value (← Instr.makeMap t none))) := by unfold execOp; rw [ho]; rfl
  unfold sMakeMap at hn ⊢
  split
  · rename_i e; rw [e] at hn; exact hn.elim
  · rename_i ti hl
    rw [hl] at hn
    simp only at hn
    split
    · have h1 : RelAt P w0 A N Fr tm hp a (w.alloc (.map #[] 0)) m π :=
        h.world (fun _ => False) rfl rfl rfl (by simp) (fun b hb _ => Below.heap_alloc _ _ _ hb) (fun b hb => hb.elim) (fun _ _ _ hb => hb) (fun _ _ _ hb => hb)
      have h2 := h1.adopt0 n hf ⟨w.heap.size, 0, 0, 0⟩ ⟨[], 0⟩ #[] 0 (h.new _ h.keep.size) rfl (.inr ⟨rfl, .map #[] 0, by show (w.heap.push _)[w.heap.size]? = _; simp, rfl⟩)
        ⟨fun e => absurd rfl e, fun _ => rfl⟩ ⟨fun e => absurd rfl e, fun _ => rfl⟩ (by simp) (by simp) (by simp)
        (fun r q hq => by have := h.lt hq; show q.b ≠ w.heap.size; omega)
        (fun ad v hv => by have := World.block_lt_of_cell? _ _ (h.mok ad v hv).2; show ad.block ≠ w.heap.size; omega)
      refine ⟨.map (some w.heap.size), _, m, _, .inl ?_, h2.frmono (fun r hr => ⟨hr.1, fun e => hr.2 (by simp only; omega)⟩), ⟨rfl, ?_⟩, fun hq => hq.2 (by simp only; omega)⟩
      · rw [hex]
        simp [Instr.makeMap]
      · show match upd π n _ n with | none => True | some none => False | some (some p) => _
        rw [upd_same]
        exact ⟨rfl, rfl⟩
    · rename_i hno
      split at hn
      · rename_i hk; exact absurd hk (hno _ _)
      · exact hn.elim

theorem mapObj_at (h : RelAt P w0 A N Fr tm hp a w m π) {r : Nat} {row : Row} (hr : hp r = some row) (hz : row.esz = 0) {tk : TK} (hev : mkeys tk row.cells = true) {x : Value} (hx : VS m π (.one (.mp r false)) x) :
    ∃ p es clock, π r = some (some p) ∧ p.esz = 0 ∧ x = .map (some p.b) ∧ w.heap[p.b]? = some (.map es clock) ∧ VL m π row.cells (mapArr es) := by
  have hrow := h.rows r row hr
  unfold RowOk at hrow
  obtain ⟨h1, h2⟩ := hx
  cases hπ : π r with
  | none => rw [hπ] at hrow; exact hrow.elim
  | some q =>
    rw [hπ] at h2 hrow
    cases q with
    | none => exact h2.elim
    | some p =>
      simp only at h2
      obtain ⟨g1, g2, arr, e, g3, g4, g5, g6⟩ := hrow
      rcases g3 with ⟨e0, _⟩ | ⟨_, o, g3, g3'⟩
      · exact absurd h2.1 e0
      have hlen := g5.2 h2.1
      have ho := g4.2 h2.1
      have hmk : ∃ es clock, o = .map es clock := by
        cases o <;> simp only [objArr, Option.some.injEq, reduceCtorEq] at g3'
        · exact ⟨_, _, rfl⟩
        · exfalso
          have : arr.size = 3 := by rw [← Array.length_toList, ← g3']; rfl
          rw [this] at hlen
          obtain ⟨c0, c1, c2, hc⟩ : ∃ c0 c1 c2, row.cells = [c0, c1, c2] := by
            match h : row.cells, hlen with
            | [a, b, c], _ => exact ⟨a, b, c, rfl⟩
          rw [hc] at hev
          cases c0 <;> cases c2 <;> simp [mkeys] at hev
      obtain ⟨es, clock, rfl⟩ := hmk
      simp only [objArr, Option.some.injEq] at g3'
      refine ⟨p, es, clock, rfl, h2.1, h2.2, g3, ?_⟩
      rw [g3']
      refine VL.of (by simpa using hlen) (fun i c v hi hv => ?_)
      obtain ⟨x, k1, k2⟩ := g6 i c hi
      rw [ho, Nat.zero_add] at k1
      have : v = x := by
        rw [Array.getElem?_toList] at hv
        rw [k1] at hv
        cases hv; rfl
      rw [this]; exact k2

theorem sLookup_ok (T : Tab) (hT : TOk P T) (h : RelAt P w0 A N Fr tm hp a w m π) {t : Nat} {x i : Operand} {ok : Bool} (ho : o.op = .lookup t x i ok) {p q : SV}
    (hp' : VS m π p (a.eval x)) (hq' : VS m π q (a.eval i)) (hn : (sLookup T hp t p q ok).need) : Good P o w0 A N Fr tm hp a w n (sLookup T hp t p q ok) := by
  have hex : execOp a.eval o = (do pure (.value (← Instr.lookup t (a.eval x) (a.eval i) ok))) := by unfold execOp; rw [ho]
  unfold sLookup at hn ⊢
  split at hn
  · rename_i ti k hl
    have hti := hT t ti hl
    obtain ⟨ei, _⟩ := vs_sc hq'
    split at hn
    · rename_i kt et r hk
      split at hn
      · rename_i tk te row hl2 hl3 hr
        obtain ⟨n1, n2, n3, n4⟩ := hn
        have hu := hti.map hk
        have htk := hT kt tk hl2
        have hte := hT et te hl3
        obtain ⟨dk, hdk, hfk⟩ := htk.und
        obtain ⟨p0, es, clock, hπ, hz, ex, hb, hvl⟩ := mapObj_at h hr n1 n2 hp'
        obtain ⟨it, d, z, z1, z2, z3, z4, z5, z6, z7, z8, z9⟩ := hte.ex
        have hzv : (zeroValue et).run P w = .ok z w := by simp [zeroValue, typeInfo, z1, z6]
        have hz1 : z.oneCell' = true := hte.flt n4 it z z1 z6
        have hz2 : te.zero = [z] := by
          rw [← z7]
          cases z <;> simp [Value.oneCell', Value.cells] at hz1 ⊢
        have hck : ∀ em, (Instr.checkKey em 10000 kt k).run P w = .ok () w := fun em => MapKept.run_checkKey hdk (keyB_is hfk n3) em 9999
        rcases mget_find hfk n3 es.toList row.cells 0 n2 hvl with ⟨f1, f2, f3⟩ | ⟨j, e, c, f1, f2, f3, f4, f5, f6⟩
        · have hrun : (Instr.lookup t (a.eval x) (a.eval i) ok).run P w = .ok (if ok then .tuple #[z, .bool false] else z) w := by
            rw [ex, ei]
            cases ok <;> simp [Instr.lookup, run_underlying hu, MapKept.run_getObj_map hb, hck, MapKept.run_findKey hdk f1, Result.andThen, hzv]
          refine good_pure h (v := if ok then .tuple #[z, .bool false] else z) (by rw [hex]; simp [hrun]) ?_ ?_
          · rw [f2, hz2]
            cases ok
            · exact VG.sc z hz1
            · exact ⟨#[z, .bool false], rfl, VG.sc z hz1, VG.sc _ rfl, trivial⟩
          · rw [f2]
            cases ok
            · exact trivial
            · exact ⟨trivial, trivial, trivial⟩
        · have hrun : (Instr.lookup t (a.eval x) (a.eval i) ok).run P w = .ok (if ok then .tuple #[e.val, .bool true] else e.val) w := by
            rw [ex, ei]
            cases ok <;> simp [Instr.lookup, run_underlying hu, MapKept.run_getObj_map hb, hck, MapKept.run_findKey hdk f1, Result.andThen]
          have hev : VC m π c e.val := by
            obtain ⟨u, k1, k2⟩ := hvl.get _ c f5
            have hfl : ∀ (l : List MapEntry) (j : Nat) e, l[j]? = some e → (l.flatMap fun e => [e.key, e.val])[2 * j + 1]? = some e.val := by
              intro l
              induction l with
              | nil => intro j e h; simp at h
              | cons y l ih =>
                intro j e h
                cases j with
                | zero => simp at h; subst h; simp
                | succ j =>
                  have := ih j e (by simpa using h)
                  rw [show 2 * (j + 1) + 1 = (2 * j + 1) + 1 + 1 by omega]
                  simpa using this
            rw [mapArr, hfl _ _ _ f2] at k1
            cases k1
            exact k2
          have hcl : c.cl Fr := h.rcl r row hr c (List.mem_of_getElem? f5)
          refine good_pure h (v := if ok then .tuple #[e.val, .bool true] else e.val) (by rw [hex]; simp [hrun]) ?_ ?_
          · rw [f4]
            cases ok
            · exact hev
            · exact ⟨#[e.val, .bool true], rfl, hev, VG.sc _ rfl, trivial⟩
          · rw [f4]
            cases ok
            · exact hcl
            · exact ⟨hcl, trivial, trivial⟩
      · exact hn.elim
    · exact hn.elim
  · exact hn.elim

theorem mset_mem {k : Value} {x : Cell} : ∀ (cs : List Cell) {c : Cell}, c ∈ mset k x cs → c = .sc k ∨ c = x ∨ c ∈ cs
  | [], c, h => by simp only [mset, List.mem_cons, List.not_mem_nil, or_false] at h ⊢; rcases h with e | e <;> simp [e]
  | [y], c, h => by
    have : c = .sc k ∨ c = x := by cases y <;> simpa [mset] using h
    rcases this with e | e <;> simp [e]
  | y :: z :: r, c, h => by
    cases y with
    | sc v =>
      simp only [mset] at h
      split at h
      · simp only [List.mem_cons] at h
        rcases h with e | e | e
        · exact .inl e
        · exact .inr (.inl e)
        · exact .inr (.inr (by simp [e]))
      · simp only [List.mem_cons] at h
        rcases h with e | e | e
        · exact .inr (.inr (by simp [e]))
        · exact .inr (.inr (by simp [e]))
        · rcases mset_mem r e with e | e | e
          · exact .inl e
          · exact .inr (.inl e)
          · exact .inr (.inr (by simp [e]))
    | _ =>
      simp only [mset, List.mem_cons, List.not_mem_nil, or_false] at h
      rcases h with e | e
      · exact .inl e
      · exact .inr (.inl e)

theorem sMapUpdate_ok (T : Tab) (hT : TOk P T) (h : RelAt P w0 A N Fr tm hp a w m π) {t : Nat} {x i y : Operand} (ho : o.op = .mapUpdate t x i y) {p q s : SV}
    (hp' : VS m π p (a.eval x)) (hq' : VS m π q (a.eval i)) (hs' : VS m π s (a.eval y)) (hcl : s.cl Fr) (hn : (sMapUpdate T hp t p q s).need) : Good P o w0 A N Fr tm hp a w n (sMapUpdate T hp t p q s) := by
  have hex : execOp a.eval o = (do Instr.mapUpdate t (a.eval x) (a.eval i) (a.eval y); pure .skip) := by unfold execOp; rw [ho]
  unfold sMapUpdate at hn ⊢
  split at hn
  · rename_i ti k c hl
    have hti := hT t ti hl
    obtain ⟨ei, _⟩ := vs_sc hq'
    split at hn
    · rename_i kt et r hk
      split at hn
      · rename_i tk row hl2 hr
        obtain ⟨n1, n2, n3, n4⟩ := hn
        have hu := hti.map hk
        have htk := hT kt tk hl2
        obtain ⟨dk, hdk, hfk⟩ := htk.und
        obtain ⟨p0, es, clock, hπ, hz, ex, hb, hvl⟩ := mapObj_at h hr n1 n2 hp'
        have hck : ∀ em, (Instr.checkKey em 10000 kt k).run P w = .ok () w := fun em => MapKept.run_checkKey hdk (keyB_is hfk n3) em 9999
        have hv1 : VC m π c (a.eval y) := hs'
        have hm : ∀ ad v, m ad = some v → ad.block ≠ p0.b := fun ad v hv => h.dis r p0 ad v hπ hv
        have hcl' : ∀ d ∈ mset k c row.cells, d.cl Fr := fun d hd => by
          rcases mset_mem _ hd with e | e | e
          · rw [e]; trivial
          · rw [e]; exact hcl
          · exact h.rcl r row hr d e
        have hso' : ∀ d ∈ mset k c row.cells, d ≠ .un := fun d hd => by
          rcases mset_mem _ hd with e | e | e
          · rw [e]; exact fun hh => by cases hh
          · rw [e]; exact n4
          · exact h.rsol r row hr d e
        have hgo : ∀ es' clock', (Instr.mapUpdate t (a.eval x) (a.eval i) (a.eval y)).run P w = .ok () { w with heap := w.heap.setIfInBounds p0.b (.map es' clock') } → VL m π (mset k c row.cells) (mapArr es') →
            Good P o w0 A N Fr tm hp a w n ⟨True, .one .un, [(r, some ⟨mset k c row.cells, 0⟩)], 0⟩ := by
          intro es' clock' hrun hvl'
          have hlen := hvl'.length
          have ho0 : p0.o = 0 := by
            have hro := h.rows r row hr
            unfold RowOk at hro
            rw [hπ] at hro
            obtain ⟨_, _, arr, e, _, g4, _⟩ := hro
            exact g4.2 hz
          have := h.reobj hr hπ (.map es' clock') (mset k c row.cells) (mapArr es').toArray 0 hm
            (.inr ⟨hz, .map es' clock', by show (w.heap.setIfInBounds p0.b _)[p0.b]? = _; rw [Array.getElem?_setIfInBounds_self_of_lt (h.lt hπ)], rfl⟩)
            ⟨fun e => absurd hz e, fun _ => ho0⟩ ⟨fun e => absurd hz e, fun _ => by simpa using hlen⟩
            (fun i c hi => by
              obtain ⟨u, k1, k2⟩ := hvl'.get i c hi
              exact ⟨u, by rw [ho0, Nat.zero_add]; simpa using k1, k2⟩) hcl' hso'
          rw [n1] at this
          refine ⟨undef, _, m, π, .inr ⟨?_, rfl⟩, this.frmono (fun r hr => hr.1), trivial, trivial⟩
          rw [hex]
          simp [hrun]
        have hmono : (⟨True, .one .un, [(r, some ⟨mset k c row.cells, 0⟩)], 0⟩ : Res).val = .one .un := rfl
        have fin : Good P o w0 A N Fr tm hp a w n ⟨True, .one .un, [(r, some ⟨mset k c row.cells, 0⟩)], 0⟩ := by
          rcases mget_find hfk n3 es.toList row.cells 0 n2 hvl with ⟨f1, f2, f3⟩ | ⟨j, e, c', f1, f2, f3, f4, f5, f6⟩
          · refine hgo (es.push { key := k, val := a.eval y, born := clock }) (clock + 1) ?_ ?_
            · rw [ex, ei]
              simp [Instr.mapUpdate, run_underlying hu, MapKept.run_getObj_map hb, hck, MapKept.run_findKey hdk f1, MapKept.run_setObj_map _ hb, Result.andThen]
            · rw [f3]
              have : mapArr (es.push { key := k, val := a.eval y, born := clock }) = mapArr es ++ [k, a.eval y] := by simp [mapArr]
              rw [this]
              have app : ∀ {xs : List Cell} {us : List Value}, VL m π xs us → VL m π (xs ++ [.sc k, c]) (us ++ [k, a.eval y]) := by
                intro xs
                induction xs with
                | nil => intro us hus; cases us with
                  | nil => exact ⟨VG.sc k (key_one n3), hv1, trivial⟩
                  | cons _ _ => exact hus.elim
                | cons x xs ih => intro us hus; cases us with
                  | nil => exact hus.elim
                  | cons u us => exact ⟨hus.1, ih hus.2⟩
              exact app hvl
          · have hj : es[j]? = some e := by simpa using f2
            rw [Nat.zero_add] at f1
            refine hgo (es.modify j fun e => { e with key := k, val := a.eval y }) clock ?_ ?_
            · have hst : (Instr.keyThatStays k k).run P w = .ok k w := MapKept.run_keyThatStays (keyB_is hfk n3)
              rw [ex, ei]
              simp [Instr.mapUpdate, run_underlying hu, MapKept.run_getObj_map hb, hck, MapKept.run_findKey hdk f1, hj, f3, hst, MapKept.run_setObj_map _ hb, Result.andThen]
            · rw [f6]
              have hlt : j < es.toList.length := by simpa using (Array.getElem?_eq_some_iff.1 hj).1
              have : mapArr (es.modify j fun e => { e with key := k, val := a.eval y }) = (mapArr es).set (2 * j + 1) (a.eval y) := by
                have e1 : (es.modify j fun e => { e with key := k, val := a.eval y }).toList = es.toList.set j { e with key := k, val := a.eval y } := by
                  apply List.ext_getElem?
                  intro i
                  simp only [Array.getElem?_toList, Array.getElem?_modify, List.getElem?_set]
                  by_cases hij : j = i
                  · subst hij
                    rw [if_pos rfl, if_pos rfl, if_pos hlt, hj]; rfl
                  · rw [if_neg hij, if_neg hij]
                unfold mapArr
                rw [e1, flatMap_set2 es.toList j e _ f2 (by simp [f3])]
              rw [this]
              have hset : ∀ {xs : List Cell} {us : List Value} (i : Nat), VL m π xs us → VL m π (xs.set i c) (us.set i (a.eval y)) := by
                intro xs
                induction xs with
                | nil => intro us i hus; cases us with
                  | nil => exact trivial
                  | cons _ _ => exact hus.elim
                | cons x xs ih => intro us i hus; cases us with
                  | nil => exact hus.elim
                  | cons u us => cases i with
                    | zero => exact ⟨hv1, hus.2⟩
                    | succ i => exact ⟨hus.1, ih i hus.2⟩
              exact hset _ hvl
        obtain ⟨v, w', m', π', k1, k2, k3, k4⟩ := fin
        exact ⟨v, w', m', π', k1, k2, k3, k4⟩
      · exact hn.elim
    · exact hn.elim
  · exact hn.elim

theorem sLookup_loc (T : Tab) (t : Nat) {x i : SV} {get get' : Nat → Option Row} (ok : Bool) (hx : ∀ r ∈ x.ref, get r = get' r) : sLookup T get t x i ok = sLookup T get' t x i ok := by
  unfold sLookup
  split
  · split
    · rename_i r hk
      rw [hx r (by simp [SV.ref])]
    · rfl
  · rfl
theorem sMapUpdate_loc (T : Tab) (t : Nat) {x i v : SV} {get get' : Nat → Option Row} (hx : ∀ r ∈ x.ref, get r = get' r) : sMapUpdate T get t x i v = sMapUpdate T get' t x i v := by
  unfold sMapUpdate
  split
  · split
    · rename_i r hk
      rw [hx r (by simp [SV.ref])]
    · rfl
  · rfl
theorem sLookup_ups (T : Tab) (get : Nat → Option Row) (t : Nat) (x i : SV) (ok : Bool) (F : List Nat) (n : Nat) : UpsOk F n (sLookup T get t x i ok) := by
  unfold sLookup
  split
  · split
    · split
      · exact ups_nil rfl
      · exact ups_nil rfl
    · exact ups_nil rfl
  · exact ups_nil rfl
theorem sMapUpdate_ups (T : Tab) (get : Nat → Option Row) (t : Nat) (x i v : SV) (F : List Nat) (n : Nat) (hF : ∀ r ∈ x.ref, r ∈ F) : UpsOk F n (sMapUpdate T get t x i v) := by
  unfold sMapUpdate
  split
  · split
    · split
      · exact ups_old rfl (hF _ (by simp [SV.ref]))
      · exact ups_nil rfl
    · exact ups_nil rfl
  · exact ups_nil rfl
theorem sMakeMap_ups (T : Tab) (t : Nat) (F : List Nat) (n : Nat) : UpsOk F n (sMakeMap T t n) := by
  unfold sMakeMap
  split
  · exact ups_nil rfl
  · split
    · exact ups_new rfl
    · exact ups_nil rfl
end
end Go.Proofs.YtfkcolodbjonkabDoor.Sh
