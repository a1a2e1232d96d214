/- What each kind of operation does, told of data: numbers, texts, parts of values, make, slicing. -/
import Derived.Test.YtfkcolodbjonkabDoorShE
namespace Go.Proofs.YtfkcolodbjonkabDoor.Sh
open Go.RowKit
set_option linter.unusedVariables false
set_option linter.unusedSimpArgs false

def inR (k : IntKind) (n : Int) : Prop := k.min ≤ n ∧ n ≤ k.max

def V (v : Value) : SV := .one (.sc v)

def ari (wr : Bool) (k : IntKind) (n : Int) : Res :=
  if wr then ⟨True, V (.int k (k.wrap n)), [], 0⟩ else ⟨inR k n, V (.int k n), [], 0⟩

def sBin (wr : Bool) (op : BinOp) (x y : SV) : Res :=
  match x, y with
  | .one (.sc (.int k a)), .one (.sc (.int k' b)) =>
    (match op with
    | .add => let r := ari wr k (a + b); ⟨k = k' ∧ r.need, r.val, [], 0⟩
    | .sub => let r := ari wr k (a - b); ⟨k = k' ∧ r.need, r.val, [], 0⟩
    | .mul => let r := ari wr k (a * b); ⟨k = k' ∧ r.need, r.val, [], 0⟩
    | .quo => let r := ari wr k (a.tdiv b); ⟨k = k' ∧ b ≠ 0 ∧ r.need, r.val, [], 0⟩
    | .rem => ⟨k = k' ∧ b ≠ 0, V (.int k (a.tmod b)), [], 0⟩
    | .and => ⟨k = k', V (.int k (k.wrap (BitVec.ofInt k.bits a &&& BitVec.ofInt k.bits b).toNat)), [], 0⟩
    | .or => ⟨k = k', V (.int k (k.wrap (BitVec.ofInt k.bits a ||| BitVec.ofInt k.bits b).toNat)), [], 0⟩
    | .xor => ⟨k = k', V (.int k (k.wrap (BitVec.ofInt k.bits a ^^^ BitVec.ofInt k.bits b).toNat)), [], 0⟩
    | .andNot => ⟨k = k', V (.int k (k.wrap (BitVec.ofInt k.bits a &&& ~~~ BitVec.ofInt k.bits b).toNat)), [], 0⟩
    | .shl => let r := ari wr k (a * 2 ^ (min b.toNat k.bits)); ⟨0 ≤ b ∧ r.need, r.val, [], 0⟩
    | .shr => ⟨0 ≤ b, V (.int k (a.fdiv (2 ^ (min b.toNat k.bits)))), [], 0⟩
    | .eql => ⟨k = k', V (.bool (decide (a = b))), [], 0⟩
    | .neq => ⟨k = k', V (.bool (!decide (a = b))), [], 0⟩
    | .lss => ⟨k = k', V (.bool (decide (a < b))), [], 0⟩
    | .leq => ⟨k = k', V (.bool (decide (a ≤ b))), [], 0⟩
    | .gtr => ⟨k = k', V (.bool (decide (b < a))), [], 0⟩
    | .geq => ⟨k = k', V (.bool (decide (b ≤ a))), [], 0⟩)
  | .one (.sc (.string a)), .one (.sc (.string b)) =>
    (match op with
    | .eql => ⟨True, V (.bool (a.toList == b.toList)), [], 0⟩
    | .neq => ⟨True, V (.bool (!(a.toList == b.toList))), [], 0⟩
    | .lss => ⟨True, V (.bool (Op.bytesLess a.toList b.toList)), [], 0⟩
    | .leq => ⟨True, V (.bool (Op.bytesLess a.toList b.toList || a.toList == b.toList)), [], 0⟩
    | .gtr => ⟨True, V (.bool (!(Op.bytesLess a.toList b.toList || a.toList == b.toList))), [], 0⟩
    | .geq => ⟨True, V (.bool (!(Op.bytesLess a.toList b.toList))), [], 0⟩
    | .add => ⟨((a.size + b.size : Nat) : Int) ≤ 9223372036854775807, V (.string (a ++ b)), [], 0⟩
    | _ => bad)
  | _, _ => bad

def eqCL : List Value → List Cell → List Cell → Prop × Bool
  | [], [], [] => (True, true)
  | z :: zs, .sc x :: xs, .sc y :: ys => (sameK x z = true ∧ sameK y z = true ∧ (eqCL zs xs ys).1, eqV x y && (eqCL zs xs ys).2)
  | _, _, _ => (False, false)

def sBinT (T : Tab) (get : Nat → Option Row) (op : BinOp) (t : Nat) (x y : SV) : Res :=
  match slot t T.ts with
  | none => sBin T.wr op x y
  | some ti => match ti.kind, x, y with
    | .bool, .one (.sc (.bool a)), .one (.sc (.bool b)) =>
      (match op with
      | .eql => ⟨True, V (.bool (a == b)), [], 0⟩
      | .neq => ⟨True, V (.bool (!(a == b))), [], 0⟩
      | _ => bad)
    | .slice _, .one (.osl r off len cap), .one (.sc (.slice none 0 0)) =>
      (match op with
      | .eql => ⟨0 < len ∧ live get r, V (.bool false), [], 0⟩
      | .neq => ⟨0 < len ∧ live get r, V (.bool true), [], 0⟩
      | _ => bad)
    | .slice _, .one (.gsl cs off len cap), .one (.sc (.slice none 0 0)) =>
      (match op with
      | .eql => ⟨0 < len, V (.bool false), [], 0⟩
      | .neq => ⟨0 < len, V (.bool true), [], 0⟩
      | _ => bad)
    | .slice _, .one (.sc (.slice (some _) 0 _)), .one (.sc (.slice none 0 0)) =>
      (match op with
      | .eql => ⟨True, V (.bool false), [], 0⟩
      | .neq => ⟨True, V (.bool true), [], 0⟩
      | _ => bad)
    | .slice _, .one (.sc (.slice none 0 0)), .one (.sc (.slice none 0 0)) =>
      (match op with
      | .eql => ⟨True, V (.bool true), [], 0⟩
      | .neq => ⟨True, V (.bool false), [], 0⟩
      | _ => bad)
    | _, .agg xs, .agg ys =>
      (match op with
      | .eql => ⟨ti.eq = true ∧ (eqCL ti.zero xs ys).1, V (.bool (eqCL ti.zero xs ys).2), [], 0⟩
      | .neq => ⟨ti.eq = true ∧ (eqCL ti.zero xs ys).1, V (.bool (!(eqCL ti.zero xs ys).2)), [], 0⟩
      | _ => bad)
    | _, _, _ => sBin T.wr op x y

def sUn (wr : Bool) (op : UnOp) (x : SV) : Res :=
  match op, x with
  | .not, .one (.sc (.bool b)) => ⟨True, V (.bool (!b)), [], 0⟩
  | .neg, .one (.sc (.int k n)) => ari wr k (0 - n)
  | .xor, .one (.sc (.int k n)) => ⟨True, V (.int k (k.wrap (BitVec.ofInt k.bits (if k.signed then -1 else k.max) ^^^ BitVec.ofInt k.bits n).toNat)), [], 0⟩
  | _, _ => bad

def sConv (T : Tab) (s d : Nat) (x : SV) : Res :=
  match slot s T.ts, slot d T.ts with
  | some ts, some td =>
    (match td.kind, x with
    | .int k, .one (.sc (.int k' n)) => ari T.wr k n
    | .str, .one (.sc (.string b)) => ⟨ts.kind = .str, V (.string b), [], 0⟩
    | _, _ => bad)
  | _, _ => bad

def sLen (T : Tab) (get : Nat → Option Row) (t : Nat) (x : SV) : Res :=
  match slot t T.ts with
  | none => bad
  | some ti => match ti.kind, x with
    | .slice _, .one (.osl r off len cap) => ⟨live get r, V (.int .i64 len), [], 0⟩
    | .slice _, .one (.gsl cs off len cap) => ⟨True, V (.int .i64 len), [], 0⟩
    | .slice _, .one (.sc (.slice none 0 0)) => ⟨True, V (.int .i64 0), [], 0⟩
    | .slice _, .one (.sc (.slice (some _) 0 _)) => ⟨True, V (.int .i64 0), [], 0⟩
    | .str, .one (.sc (.string b)) => ⟨True, V (.int .i64 b.size), [], 0⟩
    | .array n _, _ => ⟨True, V (.int .i64 n), [], 0⟩
    | _, _ => bad

def ints : List SV → Option (List (IntKind × Int))
  | [] => some []
  | .one (.sc (.int k n)) :: r => (match ints r with
    | some l => some ((k, n) :: l)
    | none => none)
  | _ :: _ => none

def foldMin : Int → List (IntKind × Int) → Int
  | x, [] => x
  | x, (_, y) :: r => foldMin (if y < x then y else x) r
def foldMax : Int → List (IntKind × Int) → Int
  | x, [] => x
  | x, (_, y) :: r => foldMax (if x < y then y else x) r

def sMin (xs : List SV) : Res :=
  match ints xs with
  | some ((k, x) :: r) => ⟨True, V (.int k (foldMin x r)), [], 0⟩
  | _ => bad
def sMax (xs : List SV) : Res :=
  match ints xs with
  | some ((k, x) :: r) => ⟨True, V (.int k (foldMax x r)), [], 0⟩
  | _ => bad

def sField (T : Tab) (t : Nat) (x : SV) (f : Nat) : Res :=
  match slot t T.ts with
  | none => bad
  | some ti => match ti.kind, x with
    | .struct fs, .agg cs => (match fs[f]? with
      | none => bad
      | some (fo, ft) => (match slot ft T.ts with
        | none => bad
        | some te => ⟨readNeed te cs fo, readAt te cs fo, [], 0⟩))
    | _, _ => bad

def sIndex (T : Tab) (t : Nat) (x i : SV) : Res :=
  match slot t T.ts, i with
  | some ti, .one (.sc (.int k n)) => (match ti.kind, x with
    | .array cnt e, .agg cs => (match slot e T.ts with
      | none => bad
      | some te => ⟨0 ≤ n ∧ n < (cnt : Int) ∧ readNeed te cs (n.toNat * te.size), readAt te cs (n.toNat * te.size), [], 0⟩)
    | .str, .one (.sc (.string s)) => ⟨0 ≤ n ∧ n < (s.size : Int), V (.int .u8 (((s[n.toNat]?).getD 0).toNat : Int)), [], 0⟩
    | _, _ => bad)
  | _, _ => bad

def sExtract (x : SV) (i : Nat) : Res :=
  match x with
  | .tup vs => ⟨i < vs.length, vs.getD i (.one .un), [], 0⟩
  | _ => bad

def zeros (sz : Nat) (zs : List Value) (k : Nat) : List Cell :=
  match sz with
  | 1 => List.replicate k (.sc (zs.headD (.bool false)))
  | _ => (List.replicate k (zs.map Cell.sc)).flatten

def sMake (T : Tab) (t : Nat) (l c : SV) (n : Nat) : Res :=
  match slot t T.ts, l, c with
  | some ti, .one (.sc (.int _ l)), .one (.sc (.int _ c)) => (match ti.kind with
    | .slice e => (match slot e T.ts with
      | none => bad
      | some te => ⟨0 ≤ l ∧ l ≤ c ∧ te.bytes * c ≤ 281474976710656 ∧ 0 < te.bytes ∧ 0 < te.size, .one (.osl n 0 l.toNat (some c.toNat)), [(n, some ⟨zeros te.size te.zero c.toNat, te.size⟩)], 1⟩)
    | _ => bad)
  | _, _, _ => bad

section
variable {P : Program} {o : Oper} {w0 : Base} {A : Nat → Prop} {N : Nat} {Fr : Nat → Prop} {tm : Nat → Option SV} {hp : Nat → Option Row} {a : Act} {w : World} {m : Mem} {π : Plc} {n : Nat}

theorem vs_sc {v u : Value} (h : VS m π (.one (.sc v)) u) : u = v ∧ v.oneCell' = true := by
  cases h; exact ⟨rfl, by assumption⟩

theorem good_val (h : RelAt P w0 A N Fr tm hp a w m π) {v : Value} {need : Prop} (hr : (execOp a.eval o).run P w = .ok (.value v) w) (h1 : v.oneCell' = true) :
    Good P o w0 A N Fr tm hp a w n ⟨need, V v, [], 0⟩ := good_pure h hr (VG.sc v h1) trivial

theorem wrap_in {k : IntKind} {n : Int} (h : inR k n) : k.wrap n = n := by
  obtain ⟨h1, h2⟩ := h
  revert h1 h2
  cases k <;> simp only [IntKind.min, IntKind.max, IntKind.wrap, IntKind.bits, IntKind.signed] <;> simp <;> omega

theorem good_ari (h : RelAt P w0 A N Fr tm hp a w m π) {wr : Bool} {k : IntKind} {x : Int} {need : Prop} (hn : (ari wr k x).need)
    (hr : (execOp a.eval o).run P w = .ok (.value (.int k (k.wrap x))) w) : Good P o w0 A N Fr tm hp a w n ⟨need, (ari wr k x).val, [], 0⟩ := by
  unfold ari at hn ⊢
  cases wr with
  | true => exact good_val h hr rfl
  | false =>
    simp only [Bool.false_eq_true, ↓reduceIte] at hn ⊢
    rw [wrap_in hn] at hr
    exact good_val h hr rfl

theorem good_ari' (h : RelAt P w0 A N Fr tm hp a w m π) {wr : Bool} {k : IntKind} {x : Int} (hn : (ari wr k x).need)
    (hr : (execOp a.eval o).run P w = .ok (.value (.int k (k.wrap x))) w) : Good P o w0 A N Fr tm hp a w n (ari wr k x) := by
  have e : ari wr k x = ⟨(ari wr k x).need, (ari wr k x).val, [], 0⟩ := by unfold ari; cases wr <;> rfl
  rw [e]
  exact good_ari h hn hr

theorem run_equal_bool {t : Nat} (hu : P.underlying t = some .bool) (x y : Bool) : (Op.equal t (.bool x) (.bool y)).run P w = .ok (x == y) w := by
  unfold Op.equal
  rw [show Op.maxDepth = 9999 + 1 from rfl, Op.equalIn]
  simp [underlying, hu]

theorem run_equal_nil {t e : Nat} (hu : P.underlying t = some (.slice e)) (b : Option Addr) (l c : Nat) : (Op.equal t (.slice b l c) (.slice none 0 0)).run P w = .ok b.isNone w := by
  unfold Op.equal
  rw [show Op.maxDepth = 9999 + 1 from rfl, Op.equalIn]
  cases b <;> simp [underlying, hu]

theorem eqCL_ok : ∀ {zs : List Value} {xs ys : List Cell} {vs us : List Value}, VL m π xs vs → VL m π ys us → (eqCL zs xs ys).1 → sameKL vs zs = true ∧ sameKL us zs = true ∧ (eqCL zs xs ys).2 = eqVL vs us
  | [], [], [], [], [], _, _, _ => ⟨rfl, rfl, rfl⟩
  | z :: zs, .sc x :: xs, .sc y :: ys, v :: vs, u :: us, ⟨h1, h2⟩, ⟨h3, h4⟩, ⟨g1, g2, g3⟩ => by
    have e1 : v = x := by cases h1; rfl
    have e2 : u = y := by cases h3; rfl
    subst e1; subst e2
    obtain ⟨i1, i2, i3⟩ := eqCL_ok h2 h4 g3
    refine ⟨?_, ?_, ?_⟩
    · simp only [sameKL, g1, i1, Bool.and_self]
    · simp only [sameKL, g2, i2, Bool.and_self]
    · simp only [eqCL, eqVL, i3]
  | z :: zs, .sc x :: xs, .sc y :: ys, [], _, h, _, _ => h.elim
  | z :: zs, .sc x :: xs, .sc y :: ys, _ :: _, [], _, h, _ => h.elim

theorem sBin_ok (h : RelAt P w0 A N Fr tm hp a w m π) {wr : Bool} {op : BinOp} {t yt : Nat} {x y : Operand} (ho : o.op = .binOp op t x y yt) {p q : SV}
    (hp' : VS m π p (a.eval x)) (hq' : VS m π q (a.eval y)) (hn : (sBin wr op p q).need) : Good P o w0 A N Fr tm hp a w n (sBin wr op p q) := by
  have hex : execOp a.eval o = (do pure (.value (← (do eqGuard op t x y (a.eval x) (a.eval y); binOp op t (a.eval x) (a.eval y))))) := by unfold execOp; rw [ho]
  unfold sBin at hn ⊢
  split at hn
  · rename_i k u k' v
    obtain ⟨e1, _⟩ := vs_sc hp'
    obtain ⟨e2, _⟩ := vs_sc hq'
    have hg : (eqGuard op t x y (.int k u) (.int k' v)).run P w = .ok () w := by
      unfold eqGuard; cases op <;> simp
    have hrun : ∀ r, (binOp op t (.int k u) (.int k' v)).run P w = .ok r w → (execOp a.eval o).run P w = .ok (.value r) w := by
      intro r hr
      rw [hex, e1, e2]
      simp [hg, hr]
    cases op <;> simp only at hn ⊢
    case add => exact good_ari h hn.2 (hrun _ (by obtain ⟨rfl, _⟩ := hn; simp [binOp, Op.intArith]))
    case sub => exact good_ari h hn.2 (hrun _ (by obtain ⟨rfl, _⟩ := hn; simp [binOp, Op.intArith]))
    case mul => exact good_ari h hn.2 (hrun _ (by obtain ⟨rfl, _⟩ := hn; simp [binOp, Op.intArith]))
    case quo => exact good_ari h hn.2.2 (hrun _ (by obtain ⟨rfl, h1, _⟩ := hn; simp [binOp, Op.intDiv, h1]))
    case rem => exact good_val h (hrun _ (by obtain ⟨rfl, h1⟩ := hn; simp [binOp, Op.intDiv, h1])) rfl
    case and => exact good_val h (hrun _ (by subst hn; simp [binOp, Op.intBits])) rfl
    case or => exact good_val h (hrun _ (by subst hn; simp [binOp, Op.intBits])) rfl
    case xor => exact good_val h (hrun _ (by subst hn; simp [binOp, Op.intBits])) rfl
    case andNot => exact good_val h (hrun _ (by subst hn; simp [binOp, Op.intBits])) rfl
    case shl => exact good_ari h hn.2 (hrun _ (by have := hn.1; have h0 : ¬ v < 0 := by omega
                                                  simp [binOp, Op.shift, h0]))
    case shr => exact good_val h (hrun _ (by have h0 : ¬ v < 0 := by omega
                                             simp [binOp, Op.shift, h0])) rfl
    case eql => exact good_val h (hrun _ (by subst hn; simp [binOp, Op.intCmp]; rfl)) rfl
    case neq => exact good_val h (hrun _ (by subst hn; simp [binOp, Op.intCmp, bne]; rfl)) rfl
    case lss => exact good_val h (hrun _ (by subst hn; simp [binOp, Op.intCmp])) rfl
    case leq => exact good_val h (hrun _ (by subst hn; simp [binOp, Op.intCmp])) rfl
    case gtr => exact good_val h (hrun _ (by subst hn; simp [binOp, Op.intCmp])) rfl
    case geq => exact good_val h (hrun _ (by subst hn; simp [binOp, Op.intCmp])) rfl
  · rename_i u v
    obtain ⟨e1, _⟩ := vs_sc hp'
    obtain ⟨e2, _⟩ := vs_sc hq'
    have hg : (eqGuard op t x y (.string u) (.string v)).run P w = .ok () w := by
      unfold eqGuard; cases op <;> simp
    have hrun : ∀ r, (binOp op t (.string u) (.string v)).run P w = .ok r w → (execOp a.eval o).run P w = .ok (.value r) w := by
      intro r hr
      rw [hex, e1, e2]
      simp [hg, hr]
    by_cases hop : op = .add
    · subst hop
      simp only at hn ⊢
      have h0 : ¬ (((u.size + v.size : Nat) : Int) > IntKind.i64.max) := by
        rw [show IntKind.i64.max = 9223372036854775807 from rfl]; omega
      refine good_val h (hrun _ ?_) rfl
      simp only [binOp, Op.stringOp, h0, ↓reduceIte, Sem.run_pure]
    · cases op <;> first
        | exact absurd rfl hop
        | exact hn.elim
        | exact good_val h (hrun _ (by simp [binOp, Op.stringOp])) rfl
  · exact hn.elim


theorem sBinT_ok (T : Tab) (hT : TOk P T) (h : RelAt P w0 A N Fr tm hp a w m π) {op : BinOp} {t yt : Nat} {x y : Operand} (ho : o.op = .binOp op t x y yt) {p q : SV}
    (hp' : VS m π p (a.eval x)) (hq' : VS m π q (a.eval y)) (hn : (sBinT T hp op t p q).need) : Good P o w0 A N Fr tm hp a w n (sBinT T hp op t p q) := by
  have hex : execOp a.eval o = (do pure (.value (← (do eqGuard op t x y (a.eval x) (a.eval y); binOp op t (a.eval x) (a.eval y))))) := by unfold execOp; rw [ho]
  unfold sBinT at hn ⊢
  cases hl : slot t T.ts with
  | none => rw [hl] at hn; exact sBin_ok h ho hp' hq' hn
  | some ti =>
    rw [hl] at hn
    have hti := hT t ti hl
    simp only at hn ⊢
    split at hn
    · rename_i hk
      obtain ⟨e1, _⟩ := vs_sc hp'
      obtain ⟨e2, _⟩ := vs_sc hq'
      obtain ⟨d, hu, hd⟩ := hti.und
      rw [hk] at hd
      have hd' : d = .bool := by cases d <;> simp [TK.fits] at hd; rfl
      subst hd'
      split at hn
      · exact good_val h (by rw [hex, e1, e2]; simp [eqGuard, binOp, run_equal_bool hu]) rfl
      · exact good_val h (by rw [hex, e1, e2]; simp [eqGuard, binOp, run_equal_bool hu]) rfl
      · exact hn.elim
    · rename_i e r off len cap hk
      obtain ⟨e2, _⟩ := vs_sc hq'
      have hu := hti.slice hk
      have hex2 : 0 < len ∧ live hp r → ∃ ad c, a.eval x = .slice (some ad) len c := by
        rintro ⟨h0, hlv⟩
        obtain ⟨row, q, hr, hq, hq2⟩ := live_row h hlv
        rcases osl_at h hp' hr with ⟨_, e, _⟩ | ⟨p, ad, c, _, e, _⟩
        · omega
        · exact ⟨ad, c, e⟩
      split at hn
      · obtain ⟨ad, c, e1⟩ := hex2 hn
        exact good_val h (by rw [hex, e1, e2]; simp [eqGuard, binOp, run_equal_nil hu]) rfl
      · obtain ⟨ad, c, e1⟩ := hex2 hn
        exact good_val h (by rw [hex, e1, e2]; simp [eqGuard, binOp, run_equal_nil hu]) rfl
      · exact hn.elim
    · rename_i e cs off len cap hk
      obtain ⟨e2, _⟩ := vs_sc hq'
      have hu := hti.slice hk
      have hex2 : 0 < len → ∃ ad c, a.eval x = .slice (some ad) len c := by
        intro h0
        generalize a.eval x = u at hp'
        cases hp' with
        | gnil _ _ _ hc => omega
        | gsl _ _ _ _ b o c ad vals hc hlc hm hv ha => exact ⟨ad, c, rfl⟩
      split at hn
      · obtain ⟨ad, c, e1⟩ := hex2 hn
        exact good_val h (by rw [hex, e1, e2]; simp [eqGuard, binOp, run_equal_nil hu]) rfl
      · obtain ⟨ad, c, e1⟩ := hex2 hn
        exact good_val h (by rw [hex, e1, e2]; simp [eqGuard, binOp, run_equal_nil hu]) rfl
      · exact hn.elim
    · rename_i hk
      obtain ⟨e1, _⟩ := vs_sc hp'
      obtain ⟨e2, _⟩ := vs_sc hq'
      have hu := hti.slice hk
      split at hn
      · exact good_val h (by rw [hex, e1, e2]; simp [eqGuard, binOp, run_equal_nil hu]) rfl
      · exact good_val h (by rw [hex, e1, e2]; simp [eqGuard, binOp, run_equal_nil hu]) rfl
      · exact hn.elim
    · rename_i hk
      obtain ⟨e1, _⟩ := vs_sc hp'
      obtain ⟨e2, _⟩ := vs_sc hq'
      have hu := hti.slice hk
      split at hn
      · exact good_val h (by rw [hex, e1, e2]; simp [eqGuard, binOp, run_equal_nil hu]) rfl
      · exact good_val h (by rw [hex, e1, e2]; simp [eqGuard, binOp, run_equal_nil hu]) rfl
      · exact hn.elim
    · rename_i _ _ _ xs ys
      obtain ⟨ax, e1, l1⟩ := hp'
      obtain ⟨ay, e2, l2⟩ := hq'
      have go : ti.eq = true ∧ (eqCL ti.zero xs ys).1 → (do eqGuard .eql t x y (a.eval x) (a.eval y)).run P w = .ok () w ∧ (do eqGuard .neq t x y (a.eval x) (a.eval y)).run P w = .ok () w ∧ (Op.equal t (a.eval x) (a.eval y)).run P w = .ok (eqCL ti.zero xs ys).2 w := by
        rintro ⟨he, hc⟩
        obtain ⟨q1, q2, q3⟩ := hti.eqs he
        obtain ⟨c1, c2, c3⟩ := eqCL_ok l1 l2 hc
        have := q3 w _ _ c1 c2
        rw [c3, e1, e2]
        exact ⟨by simp [eqGuard, q1], by simp [eqGuard, q1], by simpa using this⟩
      split at hn
      · obtain ⟨g1, g2, g3⟩ := go hn
        exact good_val h (by rw [hex]; simp only [Sem.run_bind, g1, Result.andThen_ok]; rw [e1, e2] at g3 ⊢; simp [binOp, g3]) rfl
      · obtain ⟨g1, g2, g3⟩ := go hn
        exact good_val h (by rw [hex]; simp only [Sem.run_bind, g2, Result.andThen_ok]; rw [e1, e2] at g3 ⊢; simp [binOp, g3]) rfl
      · exact hn.elim
    · exact sBin_ok h ho hp' hq' hn

theorem sUn_ok (h : RelAt P w0 A N Fr tm hp a w m π) {wr : Bool} {op : UnOp} {t : Nat} {x : Operand} (ho : o.op = .unOp op t x) {p : SV}
    (hp' : VS m π p (a.eval x)) (hn : (sUn wr op p).need) : Good P o w0 A N Fr tm hp a w n (sUn wr op p) := by
  have hex : execOp a.eval o = (do pure (.value (← Op.unary op (a.eval x)))) := by unfold execOp; rw [ho]
  unfold sUn at hn ⊢
  split at hn
  · obtain ⟨e1, _⟩ := vs_sc hp'
    exact good_val h (by rw [hex, e1]; simp [Op.unary]) rfl
  · obtain ⟨e1, _⟩ := vs_sc hp'
    exact good_ari' h hn (by rw [hex, e1]; simp [Op.unary, Op.intArith])
  · obtain ⟨e1, _⟩ := vs_sc hp'
    exact good_val h (by rw [hex, e1]; simp [Op.unary, Op.intBits]) rfl
  · exact hn.elim

theorem sConv_ok (T : Tab) (hT : TOk P T) (h : RelAt P w0 A N Fr tm hp a w m π) {s d : Nat} {x : Operand} (ho : o.op = .convert s d x) {p : SV}
    (hp' : VS m π p (a.eval x)) (hn : (sConv T s d p).need) : Good P o w0 A N Fr tm hp a w n (sConv T s d p) := by
  have hex : execOp a.eval o = (do pure (.value (← convert s d (a.eval x)))) := by unfold execOp; rw [ho]
  unfold sConv at hn ⊢
  cases hl : slot s T.ts with
  | none => rw [hl] at hn; exact hn.elim
  | some ts =>
    cases hl2 : slot d T.ts with
    | none => rw [hl, hl2] at hn; exact hn.elim
    | some td =>
      rw [hl, hl2] at hn
      simp only at hn ⊢
      have hts := hT s ts hl
      have htd := hT d td hl2
      split at hn
      · rename_i k k' u hk
        obtain ⟨e1, _⟩ := vs_sc hp'
        have hu := htd.int hk
        obtain ⟨ds, hus, _⟩ := hts.und
        exact good_ari' h hn (by rw [hex, e1]; simp [convert, underlying, hu, hus, Conv.intToInt])
      · rename_i b hk
        obtain ⟨e1, _⟩ := vs_sc hp'
        have hu := htd.str hk
        have hus := hts.str hn
        exact good_val h (by rw [hex, e1]; simp [convert, underlying, hu, hus]) rfl
      · exact hn.elim

theorem sExtract_ok (h : RelAt P w0 A N Fr tm hp a w m π) {x : Operand} {i : Nat} (ho : o.op = .extract x i) {p : SV}
    (hp' : VS m π p (a.eval x)) (hcl : p.cl Fr) (hn : (sExtract p i).need) : Good P o w0 A N Fr tm hp a w n (sExtract p i) := by
  have hex : execOp a.eval o = (do pure (.value (← Instr.extract (a.eval x) i))) := by unfold execOp; rw [ho]
  cases p with
  | one c => exact hn.elim
  | agg cs => exact hn.elim
  | tup vs =>
    simp only [sExtract] at hn ⊢
    obtain ⟨arr, e, hl⟩ := hp'
    obtain ⟨v, h1, h2⟩ := VSL.get hl i vs[i] (by simp [hn])
    have e2 : vs.getD i (.one .un) = vs[i] := by simp [List.getD, hn]
    rw [e2]
    refine good_pure h (v := v) ?_ h2 ?_
    · rw [hex, e]
      have h1' : arr[i]? = some v := by simpa using h1
      simp [Instr.extract, h1']
    · have : ∀ (l : List SV) (i : Nat) (hi : i < l.length), SV.clL Fr l → (l[i]).cl Fr := by
        intro l
        induction l with
        | nil => intro i hi; simp at hi
        | cons s ss ih =>
          intro i hi hc
          cases i with
          | zero => exact hc.1
          | succ j => exact ih j (by simpa using hi) hc.2
      exact this vs i hn hcl

theorem part_ok {t : Nat} {te : TI} (hte : TIok P t te) {cs : List Cell} {arr : Array Value} (hl : VL m π cs arr.toList) (hcl : ∀ c ∈ cs, c.cl Fr) (off : Nat) (hn : readNeed te cs off) :
    ∃ v, (part t arr off).run P w = .ok v w ∧ VS m π (readAt te cs off) v ∧ (readAt te cs off).cl Fr := by
  have hlen := hl.length
  have hagg : te.kind.isAgg = true → off + te.size ≤ cs.length → ∃ v, (part t arr off).run P w = .ok v w ∧ VS m π (.agg ((cs.drop off).take te.size)) v ∧ (SV.agg ((cs.drop off).take te.size)).cl Fr := by
    intro hk hn
    refine ⟨.agg (arr.extract off (off + te.size)), ?_, ⟨_, rfl, ?_⟩, fun c hc => hcl c (List.mem_of_mem_drop (List.mem_of_mem_take hc))⟩
    · simp [part, hte.isAgg, hk, hte.size]
    · refine VL.of (by simp at hlen ⊢; omega) (fun i c v hi hv => ?_)
      have hil : i < te.size := by have := (List.getElem?_eq_some_iff.1 hi).1; simp at this; omega
      rw [List.getElem?_take_of_lt hil, List.getElem?_drop] at hi
      obtain ⟨v', h1, h2⟩ := hl.get _ _ hi
      have : (arr.extract off (off + te.size)).toList[i]? = arr.toList[off + i]? := by
        simp only [Array.toList_extract, List.extract_eq_take_drop]
        rw [List.getElem?_take_of_lt (by omega), List.getElem?_drop]
      rw [this, h1] at hv
      cases hv; exact h2
  have hone : te.kind.isAgg = false → off < cs.length → ∃ v, (part t arr off).run P w = .ok v w ∧ VS m π (.one (cs.getD off (.sc (te.zero.headD (.bool false))))) v ∧ (SV.one (cs.getD off (.sc (te.zero.headD (.bool false))))).cl Fr := by
    intro hk hn
    obtain ⟨v, h1, h2⟩ := hl.get off cs[off] (by simp [hn])
    have e : cs.getD off (.sc (te.zero.headD (.bool false))) = cs[off] := by simp [List.getD, hn]
    rw [e]
    have h1' : arr[off]? = some v := by simpa using h1
    exact ⟨v, by simp [part, hte.isAgg, hk, h1'], h2, hcl _ (List.getElem_mem hn)⟩
  unfold readNeed at hn
  unfold readAt
  cases hk : te.kind <;> simp only [hk] at hn ⊢ <;> first
    | exact hagg (by simp [hk, TK.isAgg]) hn.1
    | exact hone (by simp [hk, TK.isAgg]) hn

theorem sField_ok (T : Tab) (hT : TOk P T) (h : RelAt P w0 A N Fr tm hp a w m π) {t : Nat} {x : Operand} {f : Nat} (ho : o.op = .field t x f) {p : SV}
    (hp' : VS m π p (a.eval x)) (hcl : p.cl Fr) (hn : (sField T t p f).need) : Good P o w0 A N Fr tm hp a w n (sField T t p f) := by
  have hex : execOp a.eval o = (do pure (.value (← Instr.field t (a.eval x) f))) := by unfold execOp; rw [ho]
  unfold sField at hn ⊢
  cases hl : slot t T.ts with
  | none => rw [hl] at hn; exact hn.elim
  | some ti =>
    rw [hl] at hn
    have hti := hT t ti hl
    simp only at hn ⊢
    split at hn
    · rename_i fs cs hk
      cases hfs : fs[f]? with
      | none => rw [hfs] at hn; exact hn.elim
      | some fo =>
        obtain ⟨fo, ft⟩ := fo
        rw [hfs] at hn
        simp only at hn ⊢
        cases hl2 : slot ft T.ts with
        | none => rw [hl2] at hn; exact hn.elim
        | some te =>
          rw [hl2] at hn
          simp only at hn ⊢
          have hte := hT ft te hl2
          obtain ⟨fl, hu, hfl⟩ := hti.struct hk
          have hfld : ∃ fd, fl[f]? = some fd ∧ fd.offset = fo ∧ fd.type = ft := by
            rw [← hfl, List.getElem?_map] at hfs
            simp only [Array.getElem?_toList] at hfs
            cases hq : fl[f]? with
            | none => rw [hq] at hfs; simp at hfs
            | some fd => rw [hq] at hfs; simp at hfs; exact ⟨fd, rfl, hfs.1, hfs.2⟩
          obtain ⟨fd, hfd, rfl, rfl⟩ := hfld
          obtain ⟨arr, e, hvl⟩ := hp'
          obtain ⟨v, h1, h2, h3⟩ := part_ok (P := P) (w := w) hte hvl hcl fd.offset hn
          refine good_pure h (v := v) ?_ h2 h3
          rw [hex, e]
          simp [Instr.field, underlying, hu, hfd, asAgg, h1]
    · exact hn.elim

theorem sIndex_ok (T : Tab) (hT : TOk P T) (h : RelAt P w0 A N Fr tm hp a w m π) {t : Nat} {x i : Operand} (ho : o.op = .index t x i) {p q : SV}
    (hp' : VS m π p (a.eval x)) (hq' : VS m π q (a.eval i)) (hcl : p.cl Fr) (hn : (sIndex T t p q).need) : Good P o w0 A N Fr tm hp a w n (sIndex T t p q) := by
  have hex : execOp a.eval o = (do pure (.value (← Instr.index t (a.eval x) (a.eval i)))) := by unfold execOp; rw [ho]
  unfold sIndex at hn ⊢
  split at hn
  · rename_i _ _ ti k k0 hl
    have hti := hT t ti hl
    obtain ⟨e2, _⟩ := vs_sc hq'
    split at hn
    · rename_i cnt e cs hk
      cases hl2 : slot e T.ts with
      | none => rw [hl2] at hn; exact hn.elim
      | some te =>
        rw [hl2] at hn
        simp only at hn ⊢
        have hte := hT e te hl2
        have hu := hti.array hk
        obtain ⟨h0, h1, h2⟩ := hn
        obtain ⟨arr, e1, hvl⟩ := hp'
        obtain ⟨v, g1, g2, g3⟩ := part_ok (P := P) (w := w) hte hvl hcl _ h2
        refine good_pure h (v := v) ?_ g2 g3
        rw [hex, e1, e2]
        simp [Instr.index, asIntOf, underlying, hu, h0, h1, hte.size, g1]
    · rename_i s hk
      obtain ⟨e1, _⟩ := vs_sc hp'
      have hu := hti.str hk
      obtain ⟨h0, h1⟩ := hn
      have hlt : k0.toNat < s.size := by omega
      refine good_val h ?_ rfl
      rw [hex, e1, e2]
      have hg : s[k0.toNat]? = some s[k0.toNat] := by simp [hlt]
      simp [Instr.index, asIntOf, underlying, hu, h0, hg]
    · exact hn.elim
  · exact hn.elim

end
end Go.Proofs.YtfkcolodbjonkabDoor.Sh
