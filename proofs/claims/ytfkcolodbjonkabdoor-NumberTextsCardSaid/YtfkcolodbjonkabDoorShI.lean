/- Every operation but a call of a Go function, told of data; it looks at the rows that it names alone. -/
import Derived.Test.YtfkcolodbjonkabDoorShMc
namespace Go.Proofs.YtfkcolodbjonkabDoor.Sh
open Go.RowKit
set_option linter.unusedVariables false
set_option linter.unusedSimpArgs false

def ofV : Value → SV
  | .agg cs => if cs.all (·.oneCell') then .agg (cs.toList.map .sc) else .one .un
  | .tuple _ => .one .un
  | v => V v

def evS (tm : Nat → Option SV) : Operand → SV
  | .tmp t => (tm t).getD (.one .un)
  | .const v => ofV v
  | .func f => .one (.fn f [])
  | .global _ => .one .un

def sCallB (T : Tab) (get : Nat → Option Row) (ρ : Operand → SV) (n : Nat) (c : Call) : Res :=
  match c.callee with
  | .builtin .len => (match c.args.toList, c.argTypes.toList with
    | [x], [t] => sLen T get t (ρ x)
    | _, _ => bad)
  | .builtin .append => (match c.args.toList, c.argTypes.toList with
    | [x, y], [t, t'] => if t = t' then sAppend1 T get t (ρ x) (ρ y) n else sAppendZ T get t t' (ρ x) (ρ y) n
    | _, _ => bad)
  | .builtin .cap => (match c.args.toList, c.argTypes.toList with
    | [x], [t] => sCap T get t (ρ x)
    | _, _ => bad)
  | .builtin .copy => (match c.args.toList, c.argTypes.toList with
    | [x, y], [t, _] => sCopy T get t (ρ x) (ρ y)
    | _, _ => bad)
  | .builtin .clear => (match c.args.toList, c.argTypes.toList with
    | [x], [t] => sClear T get t (ρ x)
    | _, _ => bad)
  | .builtin .min => sMin (c.args.toList.map ρ)
  | .builtin .max => sMax (c.args.toList.map ρ)
  | _ => bad

def sPick (c a b : SV) : Res :=
  match c with
  | .one (.sc (.bool t)) => ⟨True, if t = true then a else b, [], 0⟩
  | _ => bad

def cell1 : SV → Cell
  | .one c => c
  | _ => .un

def Cell.isG : Cell → Bool
  | .sc _ => true
  | .gsl _ _ _ _ => true
  | .gptr _ _ => true
  | .fn _ _ => true
  | _ => false

def sFunc (f : FuncId) (caps : List SV) : Res := ⟨∀ x ∈ caps, (cell1 x).isG = true, .one (.fn f (caps.map cell1)), [], 0⟩

def sop (T : Tab) (ρ : Operand → SV) (get : Nat → Option Row) (n : Nat) (op : Op) : Res :=
  match op with
  | .move x => ⟨True, ρ x, [], 0⟩
  | .assign x => ⟨True, ρ x, [], 0⟩
  | .pick c a b => sPick (ρ c) (ρ a) (ρ b)
  | .alloc t => sAlloc T t n
  | .box t x => sBox (ρ x) n
  | .build t ps => sBuild T t (ps.toList.map fun x => (x.1, ρ x.2))
  | .buildSlice t len ps => sBuildSlice T t len (ps.toList.map fun x => (x.1, ρ x.2)) n
  | .load t x => sLoad T get t (ρ x)
  | .store t x y => sStore T get t (ρ x) (ρ y)
  | .nilCheck x => sNil get (ρ x)
  | .binOp op t x y _ => sBinT T get op t (ρ x) (ρ y)
  | .unOp op _ x => sUn T.wr op (ρ x)
  | .convert s d x => sConvS T get s d (ρ x)
  | .makeSlice t l c => sMake T t (ρ l) (ρ c) n
  | .slice t x lo hi mx => sSlice T get t (ρ x) (lo.map ρ) (hi.map ρ) (mx.map ρ)
  | .fieldAddr t x f => sFieldAddr T get t (ρ x) f
  | .field t x f => sField T t (ρ x) f
  | .indexAddr t x i => sIndexAddr T get t (ρ x) (ρ i)
  | .index t x i => sIndex T t (ρ x) (ρ i)
  | .extract x i => sExtract (ρ x) i
  | .call c => sCallB T get ρ n c
  | .makeFunc (.func f) first cs => (match first.toList with
    | [] => sFunc f (cs.toList.map ρ)
    | _ => bad)
  | .makeMap t none => sMakeMap T t n
  | .range t x => sRange T t (ρ x) n
  | .next x isS => sNext get (ρ x) isS
  | .lookup t x i ok => sLookup T get t (ρ x) (ρ i) ok
  | .mapUpdate t x i v => sMapUpdate T get t (ρ x) (ρ i) (ρ v)
  | _ => bad

def fp (ρ : Operand → SV) (op : Op) : List Nat :=
  match op with
  | .load _ x => (ρ x).ref
  | .store _ x _ => (ρ x).ref
  | .nilCheck x => (ρ x).ref
  | .binOp _ _ x _ _ => (ρ x).ref
  | .slice _ x _ _ _ => (ρ x).ref
  | .fieldAddr _ x _ => (ρ x).ref
  | .indexAddr _ x _ => (ρ x).ref
  | .lookup _ x _ _ => (ρ x).ref
  | .next x _ => (ρ x).ref
  | .convert _ _ x => (ρ x).ref
  | .mapUpdate _ x _ _ => (ρ x).ref
  | .call c => c.args.toList.flatMap fun x => (ρ x).ref
  | _ => []

section
variable {P : Program} {o : Oper} {w0 : Base} {A : Nat → Prop} {N : Nat} {Fr : Nat → Prop} {tm : Nat → Option SV} {hp : Nat → Option Row} {a : Act} {w : World} {m : Mem} {π : Plc} {n : Nat}

theorem ofV_ok (v : Value) : VS m π (ofV v) v ∧ (ofV v).cl Fr := by
  unfold ofV
  split
  · rename_i cs
    split
    · rename_i h
      refine ⟨⟨cs, rfl, zero_vl (fun x hx => ?_)⟩, fun c hc => ?_⟩
      · exact Array.all_eq_true_iff_forall_mem.1 h x (by simpa using hx)
      · obtain ⟨x, _, rfl⟩ := List.mem_map.1 hc; trivial
    · exact ⟨trivial, trivial⟩
  · exact ⟨trivial, trivial⟩
  · rename_i h1 h2
    refine ⟨VG.sc v ?_, trivial⟩
    cases v <;> first | rfl | exact absurd rfl (h1 _) | exact absurd rfl (h2 _)

theorem evS_ok (h : RelAt P w0 A N Fr tm hp a w m π) (x : Operand) : VS m π (evS tm x) (a.eval x) ∧ (evS tm x).cl Fr := by
  cases x with
  | tmp t =>
    show VS m π ((tm t).getD (.one .un)) (a.tmps.getD t undef) ∧ ((tm t).getD (.one .un)).cl Fr
    cases ht : tm t with
    | none => exact ⟨trivial, trivial⟩
    | some v => exact ⟨h.tms t v ht, h.tcl t v ht⟩
  | const v => exact ofV_ok v
  | func f => exact ⟨VG.fn f [] #[] rfl (fun i x hi hx => by simp at hi), trivial⟩
  | global g => exact ⟨trivial, trivial⟩

theorem opt_ok {lo : Option Operand} {ρ : Operand → SV} (hρ : ∀ x ∈ lo.toList, VS m π (ρ x) (a.eval x)) :
    (∀ p y, lo.map ρ = some p → lo = some y → VS m π p (a.eval y)) ∧ (lo.map ρ).isSome = lo.isSome := by
  constructor
  · intro p y h1 h2
    subst h2
    simp at h1
    subst h1
    exact hρ y (by simp)
  · simp

theorem sop_ok (T : Tab) (hT : TOk P T) (hC : TClosed T = true) (h : RelAt P w0 A N Fr tm hp a w m π) (ρ : Operand → SV) (hρ : ∀ x ∈ o.op.operands, VS m π (ρ x) (a.eval x) ∧ (ρ x).cl Fr) (hf : Fr n)
    (hn : (sop T ρ hp n o.op).need) : Good P o w0 A N Fr tm hp a w n (sop T ρ hp n o.op) := by
  obtain ⟨dst, op, type, pos, after, guard⟩ := o
  simp only at hρ hn ⊢
  cases op with
  | move x =>
    obtain ⟨h1, h2⟩ := hρ x (by simp [Op.operands])
    exact good_pure h (v := a.eval x) (by simp [execOp]) h1 h2
  | assign x =>
    obtain ⟨h1, h2⟩ := hρ x (by simp [Op.operands])
    exact good_pure h (v := a.eval x) (by simp [execOp]) h1 h2
  | pick c x y =>
    obtain ⟨h1, _⟩ := hρ c (by simp [Op.operands])
    obtain ⟨h2, h3⟩ := hρ x (by simp [Op.operands])
    obtain ⟨h4, h5⟩ := hρ y (by simp [Op.operands])
    simp only [sop] at hn ⊢
    generalize ρ c = q at *
    have hq : ∃ t, q = V (.bool t) := by
      unfold sPick at hn
      split at hn
      · exact ⟨_, rfl⟩
      · exact hn.elim
    obtain ⟨t, rfl⟩ := hq
    obtain ⟨e1, _⟩ := vs_sc h1
    cases t with
    | true => exact good_pure h (v := a.eval x) (by simp [execOp, e1, asBool]) h2 h3
    | false => exact good_pure h (v := a.eval y) (by simp [execOp, e1, asBool]) h4 h5
  | alloc t => exact sAlloc_ok T hT h hf rfl hn
  | box t x => exact sBox_ok h hf rfl (hρ x (by simp [Op.operands])).1 (hρ x (by simp [Op.operands])).2 hn
  | build t ps => exact sBuild_ok T hT hC h rfl (fun x hx => hρ x (by simpa [Op.operands] using hx)) hn
  | buildSlice t len ps => exact sBuildSlice_ok T hT h hf rfl (fun x hx => hρ x (by simpa [Op.operands] using hx)) hn
  | load t x => exact sLoad_ok T hT h rfl (hρ x (by simp [Op.operands])).1 hn
  | store t x y => exact sStore_ok T hT h rfl (hρ x (by simp [Op.operands])).1 (hρ y (by simp [Op.operands])).1 (hρ y (by simp [Op.operands])).2 hn
  | nilCheck x => exact sNil_ok h rfl (hρ x (by simp [Op.operands])).1 (hρ x (by simp [Op.operands])).2 hn
  | binOp op t x y yt => exact sBinT_ok T hT h rfl (hρ x (by simp [Op.operands])).1 (hρ y (by simp [Op.operands])).1 hn
  | unOp op t x => exact sUn_ok h rfl (hρ x (by simp [Op.operands])).1 hn
  | convert s d x => exact sConvS_ok T hT h rfl (hρ x (by simp [Op.operands])).1 (hρ x (by simp [Op.operands])).2 hn
  | range t x => exact sRange_ok T hT h hf rfl (hρ x (by simp [Op.operands])).1 hn
  | next x isS => exact sNext_ok h rfl (hρ x (by simp [Op.operands])).1 hn
  | makeSlice t l c => exact sMake_ok T hT h hf rfl (hρ l (by simp [Op.operands])).1 (hρ c (by simp [Op.operands])).1 hn
  | slice t x lo hi mx =>
    have h1 := opt_ok (lo := lo) (ρ := ρ) (fun y hy => (hρ y (by simp [Op.operands] at hy ⊢; simp [hy])).1)
    have h2 := opt_ok (lo := hi) (ρ := ρ) (fun y hy => (hρ y (by simp [Op.operands] at hy ⊢; simp [hy])).1)
    have h3 := opt_ok (lo := mx) (ρ := ρ) (fun y hy => (hρ y (by simp [Op.operands] at hy ⊢; simp [hy])).1)
    exact sSlice_ok T hT h rfl (hρ x (by simp [Op.operands])).1 (hρ x (by simp [Op.operands])).2 h1.1 h1.2 h2.1 h2.2 h3.1 h3.2 hn
  | fieldAddr t x f => exact sFieldAddr_ok T hT h rfl (hρ x (by simp [Op.operands])).1 (hρ x (by simp [Op.operands])).2 hn
  | field t x f => exact sField_ok T hT h rfl (hρ x (by simp [Op.operands])).1 (hρ x (by simp [Op.operands])).2 hn
  | indexAddr t x i => exact sIndexAddr_ok T hT h rfl (hρ x (by simp [Op.operands])).1 (hρ i (by simp [Op.operands])).1 (hρ x (by simp [Op.operands])).2 hn
  | index t x i => exact sIndex_ok T hT h rfl (hρ x (by simp [Op.operands])).1 (hρ i (by simp [Op.operands])).1 (hρ x (by simp [Op.operands])).2 hn
  | extract x i => exact sExtract_ok h rfl (hρ x (by simp [Op.operands])).1 (hρ x (by simp [Op.operands])).2 hn
  | call c =>
    obtain ⟨callee, args, argTypes⟩ := c
    have hargs : ∀ x ∈ args.toList, VS m π (ρ x) (a.eval x) ∧ (ρ x).cl Fr := fun x hx => hρ x (by simp [Op.operands, Call.operands] at hx ⊢; simp [hx])
    have hvsl : ∀ l : List Operand, (∀ x ∈ l, VS m π (ρ x) (a.eval x) ∧ (ρ x).cl Fr) → VSL m π (l.map ρ) (l.map a.eval) := by
      intro l
      induction l with
      | nil => intro _; trivial
      | cons x l ih => exact fun hx => ⟨(hx x (by simp)).1, ih (fun y hy => hx y (by simp [hy]))⟩
    simp only [sop] at hn ⊢
    unfold sCallB at hn ⊢
    simp only at hn ⊢
    split at hn
    · split at hn
      · rename_i x t e1 e2
        have ea : args = #[x] := by apply Array.ext'; exact e1
        have et : argTypes = #[t] := by apply Array.ext'; exact e2
        exact sLen_ok T hT h rfl rfl ea et (hargs x (by rw [e1]; simp)).1 hn
      · exact hn.elim
    · split at hn
      · rename_i x y t t' e1 e2
        split at hn
        · rename_i ett
          subst ett
          have ea : args = #[x, y] := by apply Array.ext'; exact e1
          have et : argTypes = #[t, t] := by apply Array.ext'; exact e2
          rw [if_pos rfl]
          exact sAppend1_ok T hT h hf rfl rfl ea et (hargs x (by rw [e1]; simp)).1 (hargs y (by rw [e1]; simp)).1 (hargs y (by rw [e1]; simp)).2 (hargs x (by rw [e1]; simp)).2 hn
        · rename_i ett
          have ea : args = #[x, y] := by apply Array.ext'; exact e1
          have et : argTypes = #[t, t'] := by apply Array.ext'; exact e2
          rw [if_neg ett]
          exact sAppendZ_ok T hT h hf rfl rfl ea et (hargs x (by rw [e1]; simp)).1 (hargs y (by rw [e1]; simp)).1 (hargs x (by rw [e1]; simp)).2 hn
      · exact hn.elim
    · split at hn
      · rename_i x t e1 e2
        have ea : args = #[x] := by apply Array.ext'; exact e1
        have et : argTypes = #[t] := by apply Array.ext'; exact e2
        exact sCap_ok T hT h rfl rfl ea et (hargs x (by rw [e1]; simp)).1 hn
      · exact hn.elim
    · split at hn
      · rename_i x y t t' e1 e2
        have ea : args = #[x, y] := by apply Array.ext'; exact e1
        have et : argTypes = #[t, t'] := by apply Array.ext'; exact e2
        exact sCopy_ok T hT h rfl rfl ea et (hargs x (by rw [e1]; simp)).1 (hargs y (by rw [e1]; simp)).1 (hargs y (by rw [e1]; simp)).2 hn
      · exact hn.elim
    · split at hn
      · rename_i x t e1 e2
        have ea : args = #[x] := by apply Array.ext'; exact e1
        have et : argTypes = #[t] := by apply Array.ext'; exact e2
        exact sClear_ok T hT h rfl rfl ea et (hargs x (by rw [e1]; simp)).1 hn
      · exact hn.elim
    · exact sMin_ok h rfl rfl (by simpa using hvsl args.toList hargs) hn
    · exact sMax_ok h rfl rfl (by simpa using hvsl args.toList hargs) hn
    · exact hn.elim
  | makeFunc fn first cs =>
    cases fn with
    | func f =>
      simp only [sop] at hn ⊢
      split at hn
      · rename_i hf1
        have hcs : ∀ x ∈ cs.toList, VS m π (ρ x) (a.eval x) ∧ (ρ x).cl Fr := fun x hx => hρ x (by simp [Op.operands] at hx ⊢; simp [hx])
        have ef : first = #[] := by apply Array.ext'; exact hf1
        subst ef
        have one : ∀ s v, (cell1 s).isG = true → VS m π s v → VG m (cell1 s) v := by
          intro s v hg hv
          cases s with
          | one c => cases c <;> first | exact hv | (simp [cell1, Cell.isG] at hg)
          | _ => simp [cell1, Cell.isG] at hg
        refine good_pure h (v := .func (.func f) #[] (cs.map a.eval)) (by simp [execOp, Instr.makeFunc]) ?_ trivial
        refine VG.fn f _ _ (by simp) (fun i x hi hx => ?_)
        simp only [List.getElem?_map, Option.map_eq_some_iff] at hx
        obtain ⟨y, ⟨z, hz, rfl⟩, rfl⟩ := hx
        have hm := List.mem_of_getElem? hz
        have hi2 : i < cs.size := by simpa using hi
        have ez : cs[i] = z := by
          have := (List.getElem?_eq_some_iff.1 hz).2
          simpa using this
        have := one (ρ z) (a.eval z) (hn (ρ z) (List.mem_map.2 ⟨z, hm, rfl⟩)) (hcs z hm).1
        simpa [ez] using this
      · exact hn.elim
    | _ => exact hn.elim
  | makeMap t r =>
    cases r with
    | none => exact sMakeMap_ok T hT h hf rfl hn
    | some _ => exact hn.elim
  | lookup t x i ok => exact sLookup_ok T hT h rfl (hρ x (by simp [Op.operands])).1 (hρ i (by simp [Op.operands])).1 hn
  | mapUpdate t x i v => exact sMapUpdate_ok T hT h rfl (hρ x (by simp [Op.operands])).1 (hρ i (by simp [Op.operands])).1 (hρ v (by simp [Op.operands])).1 (hρ v (by simp [Op.operands])).2 hn
  | _ => exact hn.elim

theorem sop_loc (T : Tab) (ρ : Operand → SV) (get get' : Nat → Option Row) (n : Nat) (op : Op) (h : ∀ r ∈ fp ρ op, get r = get' r) : sop T ρ get n op = sop T ρ get' n op := by
  cases op with
  | load t x =>
    simp only [fp] at h
    simp only [sop, sLoad]
    split
    · rfl
    · cases hx : ρ x with
      | one c => cases c <;> first | rfl | (rename_i r off; rw [hx] at h; simp only [h r (by simp [SV.ref])])
      | _ => rfl
  | store t x y =>
    simp only [fp] at h
    simp only [sop, sStore]
    split
    · rfl
    · cases hx : ρ x with
      | one c => cases c <;> first | rfl | (rename_i r off; rw [hx] at h; simp only [h r (by simp [SV.ref])])
      | _ => rfl
  | nilCheck x =>
    simp only [fp] at h
    simp only [sop, sNil]
    cases hx : ρ x with
    | one c => cases c <;> first | rfl | (rename_i r off; rw [hx] at h; simp only [live, h r (by simp [SV.ref])])
    | _ => rfl
  | binOp op t x y yt =>
    simp only [fp] at h
    simp only [sop, sBinT]
    split
    · rfl
    · generalize ρ y = z
      generalize ρ x = q at h
      split <;> first | rfl | skip
      rename_i r off len cap _
      have hl : live get r = live get' r := by simp only [live, h r (by simp [SV.ref])]
      rw [hl]
  | slice t x lo hi mx =>
    simp only [fp] at h
    simp only [sop, sSlice]
    split
    · split
      · rfl
      · split
        · rfl
        · cases hx : ρ x with
          | one c =>
            cases c with
            | osl r off len cap => rw [hx] at h; simp only [live, h r (by simp [SV.ref])]
            | sc u => split <;> first | rfl | (rename_i e; cases e)
            | _ => rfl
          | _ => rfl
      · rfl
    · rfl
  | fieldAddr t x f =>
    simp only [fp] at h
    simp only [sop, sFieldAddr]
    split
    · rfl
    · split
      · split
        · rfl
        · split
          · rfl
          · cases hx : ρ x with
            | one c => cases c <;> first | rfl | (rename_i r off; rw [hx] at h; simp only [live, h r (by simp [SV.ref])])
            | _ => rfl
      · rfl
  | indexAddr t x i =>
    simp only [fp] at h
    simp only [sop, sIndexAddr]
    split
    · split
      · split
        · rfl
        · cases hx : ρ x with
          | one c => cases c <;> first | rfl | (rename_i r off _ _; rw [hx] at h; simp only [live, h r (by simp [SV.ref])])
          | _ => rfl
      · split
        · rfl
        · cases hx : ρ x with
          | one c => cases c <;> first | rfl | (rename_i r off; rw [hx] at h; simp only [live, h r (by simp [SV.ref])])
          | _ => rfl
      · rfl
    · rfl
  | call c =>
    simp only [fp] at h
    simp only [sop, sCallB]
    split
    · split
      · rename_i x t e1 e2
        have hx : ∀ r ∈ (ρ x).ref, get r = get' r := fun r hr => h r (by rw [e1]; simpa using hr)
        simp only [sLen]
        split
        · rfl
        · generalize ρ x = q at hx
          split <;> first | rfl | skip
          rename_i r off len cap _
          have hl : live get r = live get' r := by simp only [live, hx r (by simp [SV.ref])]
          rw [hl]
      · rfl
    · split
      · rename_i x y t t' e1 e2
        have hx : ∀ r ∈ (ρ x).ref, get r = get' r := fun r hr => h r (by rw [e1]; simp [hr])
        have hy : ∀ r ∈ (ρ y).ref, get r = get' r := fun r hr => h r (by rw [e1]; simp [hr])
        rw [sAppend1_loc T t n hx hy, sAppendZ_loc T t t' n hx]
      · rfl
    · split
      · rename_i x t e1 e2
        have hx : ∀ r ∈ (ρ x).ref, get r = get' r := fun r hr => h r (by rw [e1]; simpa using hr)
        exact sCap_loc T t hx
      · rfl
    · split
      · rename_i x y t t' e1 e2
        have hx : ∀ r ∈ (ρ x).ref, get r = get' r := fun r hr => h r (by rw [e1]; simp [hr])
        have hy : ∀ r ∈ (ρ y).ref, get r = get' r := fun r hr => h r (by rw [e1]; simp [hr])
        exact sCopy_loc T t hx hy
      · rfl
    · split
      · rename_i x t e1 e2
        have hx : ∀ r ∈ (ρ x).ref, get r = get' r := fun r hr => h r (by rw [e1]; simpa using hr)
        exact sClear_loc T t hx
      · rfl
    · rfl
    · rfl
    · rfl
  | makeFunc fn first cs => cases fn <;> rfl
  | makeMap t r => cases r <;> rfl
  | convert s d x =>
    simp only [fp] at h
    exact sConvS_loc T s d h
  | next x isS =>
    simp only [fp] at h
    exact sNext_loc isS h
  | lookup t x i ok =>
    simp only [fp] at h
    exact sLookup_loc T t ok h
  | mapUpdate t x i v =>
    simp only [fp] at h
    exact sMapUpdate_loc T t h
  | _ => rfl

end
end Go.Proofs.YtfkcolodbjonkabDoor.Sh
