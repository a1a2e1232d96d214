/- What is to be shown of a function's text, told of data: one proposition, made by the text. -/
import Derived.Test.YtfkcolodbjonkabDoorShO
namespace Go.Proofs.YtfkcolodbjonkabDoor.Sh
open Go.RowKit
set_option linter.unusedVariables false
set_option linter.unusedSimpArgs false

structure St where
  tm : List (Nat × SV)
  hp : List (Nat × Option Row)
  nx : Nat

def St.tmF (s : St) : Nat → Option SV := fun k => slot k s.tm
def lookR (r : Nat) : List (Nat × Option Row) → Option Row
  | [] => none
  | (j, x) :: l => if j = r then x else lookR r l
def St.hpF (s : St) : Nat → Option Row := fun r => lookR r s.hp

def putL (d : Option Tmp) (v : SV) (l : List (Nat × SV)) : List (Nat × SV) := match d with
  | some k => (k, v) :: l
  | none => l

def pushU : List (Nat × Option Row) → List (Nat × Option Row) → List (Nat × Option Row)
  | [], l => l
  | u :: us, l => pushU us (u :: l)

def St.put (s : St) (d : Option Tmp) (v : SV) : St := ⟨putL d v s.tm, s.hp, s.nx⟩
def St.ref (s : St) (d : Tmp) (b : Bool) : St := ⟨(d, V (.bool b)) :: s.tm, s.hp, s.nx⟩
def St.go (s : St) (d : Option Tmp) (v : SV) (ups : List (Nat × Option Row)) (new : Nat) : St := ⟨putL d v s.tm, pushU ups s.hp, s.nx + max 1 new⟩

def Imp (k : Nat) (s t : St) : Prop := ∀ (P : Program) (w0 : Base) (A : Nat → Prop) (N : Nat) (a : Act) (w : World) (m : Mem) (π : Plc), w0.k = k → RelAt P w0 A N (s.nx ≤ ·) s.tmF s.hpF a w m π → ∃ m' π', RelAt P w0 A N (t.nx ≤ ·) t.tmF t.hpF a w m' π'

theorem Imp.refl (k : Nat) (s : St) : Imp k s s := fun _ _ _ _ _ _ m π _ h => ⟨m, π, h⟩
theorem Imp.trans {k : Nat} {s t u : St} (h : Imp k s t) (h2 : Imp k t u) : Imp k s u := fun P w0 A N a w m π hk hr => by
  obtain ⟨m', π', h'⟩ := h P w0 A N a w m π hk hr
  exact h2 P w0 A N a w m' π' hk h'

structure An where
  cut : Nat → Bool
  lend : Nat → List Nat
  k : Nat
  br : Nat → Bool := fun _ => false
  imp : Nat → Bool := fun _ => false

def tmpOf : Operand → Nat
  | .tmp t => t
  | _ => 0

def cnd (b : Bool) (v : SV) : SV := if b = true then v else ud
def mrg (b : Bool) (x y : SV) : SV := if b = true then x else y

def GIs (v : Option SV) (want c : Bool) : Prop := ∃ b t, v = some (cnd b (V (.bool t))) ∧ c = (b && (t == want))

def GN (b : Bool) (r : Res) : Prop := b = true → r.need ∧ r.ups = [] ∧ r.new = 0
def gfp (b : Bool) (F : List Nat) : List Nat := if b = true then F else []

def isCall : Op → Option (Operand × List Operand)
  | .call c => (match c.callee with
    | .value x => some (x, c.args.toList)
    | _ => none)
  | _ => none

def lendIds (get : Nat → Option Row) (ps : List Nat) (args : List SV) : List Nat := ps.flatMap fun (i : Nat) =>
  if i < 100 then (match (args[i]? : Option SV) with
    | some (.one (.optr r _)) => [r]
    | some (.one (.osl r _ _ _)) => [r]
    | some (.one (.mp r _)) => [r]
    | _ => [])
  else (match (args[i - 100]? : Option SV) with
    | some (.one (.optr r _)) => (match get r with
      | some row => row.cells.flatMap Cell.refs
      | none => [])
    | _ => [])

def SCall (P : Program) (f : FuncId) (args : List SV) (L : List Nat) (s : St) (d : Option Tmp) (acc : List (List Nat × List Nat)) (k : List (List Nat × List Nat) → St → Prop) : Prop :=
  ∃ res outs g, CallG g L s.hpF args res outs ∧ FnSpecD P f (args.map (prepV L s.hpF)) (lentRows L s.hpF) res outs ∧
    k ((L ++ snaps L args, (gone g L args ++ outUpsFrom L s.nx 0 outs).map (·.1)) :: acc) (s.go d (res.ren (back L s.nx)) (gone g L args ++ outUpsFrom L s.nx 0 outs) (outs.length - L.length))

def sDo (P : Program) (T : Tab) (An' : An) (o : Oper) (acc : List (List Nat × List Nat)) (s : St) (k : List (List Nat × List Nat) → St → Prop) : Prop :=
  match o.op with
  | .pick c x y => (match evS s.tmF c with
    | .one (.sc (.bool t)) => (match An'.br (tmpOf c) with
      | true => (t = true → k (([], []) :: acc) (s.go o.dst (evS s.tmF x) [] 0)) ∧ (t = false → k (([], []) :: acc) (s.go o.dst (evS s.tmF y) [] 0))
      | false => k (([], []) :: acc) (s.go o.dst (mrg t (evS s.tmF x) (evS s.tmF y)) [] 0))
    | _ => False)
  | .call c => (match c.callee with
    | .value x => (match evS s.tmF x with
      | .one (.fn f caps) => SCall P f (c.args.toList.map (evS s.tmF) ++ caps.map SV.one) (lendIds s.hpF (An'.lend f) (c.args.toList.map (evS s.tmF) ++ caps.map SV.one)) s o.dst acc k
      | _ => False)
    | _ => (sop T (evS s.tmF) s.hpF s.nx o.op).need ∧ k ((fp (evS s.tmF) o.op, (sop T (evS s.tmF) s.hpF s.nx o.op).ups.map (·.1)) :: acc) (s.go o.dst (sop T (evS s.tmF) s.hpF s.nx o.op).val (sop T (evS s.tmF) s.hpF s.nx o.op).ups (sop T (evS s.tmF) s.hpF s.nx o.op).new))
  | _ => (sop T (evS s.tmF) s.hpF s.nx o.op).need ∧ k ((fp (evS s.tmF) o.op, (sop T (evS s.tmF) s.hpF s.nx o.op).ups.map (·.1)) :: acc) (s.go o.dst (sop T (evS s.tmF) s.hpF s.nx o.op).val (sop T (evS s.tmF) s.hpF s.nx o.op).ups (sop T (evS s.tmF) s.hpF s.nx o.op).new)

def gDo (P : Program) (T : Tab) (An' : An) (dr b : Bool) (o : Oper) (acc : List (List Nat × List Nat)) (s : St) (k : List (List Nat × List Nat) → St → Prop) : Prop :=
  match isCall o.op with
  | some (x, args) => (match evS s.tmF x with
    | .one (.fn f caps) => ∃ res, (b = true → CallG false (lendIds s.hpF (An'.lend f) (args.map (evS s.tmF) ++ caps.map SV.one)) s.hpF (args.map (evS s.tmF) ++ caps.map SV.one) res [] ∧
          FnSpec P f ((args.map (evS s.tmF) ++ caps.map SV.one).map (prepV (lendIds s.hpF (An'.lend f) (args.map (evS s.tmF) ++ caps.map SV.one)) s.hpF)) (lentRows (lendIds s.hpF (An'.lend f) (args.map (evS s.tmF) ++ caps.map SV.one)) s.hpF) res [] ∧
          lendIds s.hpF (An'.lend f) (args.map (evS s.tmF) ++ caps.map SV.one) = []) ∧
        k ((gfp b (snaps [] (args.map (evS s.tmF) ++ caps.map SV.one)), []) :: acc) (s.go o.dst (cnd b (res.ren (back [] s.nx))) [] 0)
    | _ => b = false ∧ k ((gfp b [], []) :: acc) (s.go o.dst (cnd b ud) [] 0))
  | none => GN b (sop T (evS s.tmF) s.hpF s.nx o.op) ∧ k ((gfp b (fp (evS s.tmF) o.op), []) :: acc) (s.go o.dst (cnd b (sop T (evS s.tmF) s.hpF s.nx o.op).val) [] 0)

def dstOk (N : Nat) (d : Option Tmp) : Prop := match d with
  | some k => k < N
  | none => True

def sops (P : Program) (T : Tab) (An' : An) (N : Nat) (all : Array Oper) (dr : Bool) (K : St → Prop) : List Oper → List (List Nat × List Nat) → St → Prop
  | [], acc, s => (dr = true → okc all acc.reverse = true) ∧ K s
  | o :: rest, acc, s => dstOk N o.dst ∧ (match o.guard with
    | none => sDo P T An' o acc s (sops P T An' N all dr K rest)
    | some (j, want) => (match all[j]? with
      | some oj => (match oj.dst with
        | some d => (match An'.br d with
          | false => ∃ c, GIs (slot d s.tm) want c ∧ gDo P T An' dr c o acc s (sops P T An' N all dr K rest)
          | true => (match slot d s.tm with
            | some (.one (.sc (.bool t))) => (t = want → sDo P T An' o acc (s.ref d want) (sops P T An' N all dr K rest)) ∧
              (t = !want → sops P T An' N all dr K rest (([], []) :: acc) ((s.ref d (!want)).go o.dst ud [] 0))
            | _ => False))
        | none => False)
      | none => False))

def thenK (k : St → Prop) (Q : Exit → St → Prop) : Exit → St → Prop
  | .normal, s => k s
  | .exit i, s => Q (.exit i) s
  | .ret, s => Q .ret s
  | _, _ => False

def blockK (id : Nat) (Q : Exit → St → Prop) : Exit → St → Prop
  | .normal, s => Q .normal s
  | .exit i, s => if i = id then Q .normal s else Q (.exit i) s
  | .ret, s => Q .ret s
  | _, _ => False

def loopK {ι : Type} (n : Nat) (st : ι → St) (inv : ι → Prop) (μ : ι → Nat) (x : ι) (Q : Exit → St → Prop) : Exit → St → Prop
  | .normal, s => ∃ x', Imp n s (st x') ∧ inv x' ∧ μ x' < μ x
  | .exit i, s => Q (.exit i) s
  | .ret, s => Q .ret s
  | _, _ => False

def impK (n : Nat) (J : St → Prop) : St → Prop := fun s => ∃ t, Imp n s t ∧ J t

def SLoop (n : Nat) (F : (Exit → St → Prop) → St → Prop) (Q : Exit → St → Prop) (s : St) : Prop :=
  ∃ (ι : Type) (st : ι → St) (inv : ι → Prop) (μ : ι → Nat), (∃ x, Imp n s (st x) ∧ inv x) ∧ ∀ x, inv x → F (loopK n st inv μ x Q) (st x)

def SCut (n : Nat) (t : Bool) (F G : (Exit → St → Prop) → St → Prop) (Q : Exit → St → Prop) (s : St) : Prop :=
  ∃ J : St → Prop, ((t = true → F (thenK (impK n J) Q) s) ∧ (t = false → G (thenK (impK n J) Q) s)) ∧ ∀ u, J u → Q .normal u

def SIf (t : Bool) (p q : Prop) : Prop := (t = true → p) ∧ (t = false → q)

def swp (P : Program) (T : Tab) (An' : An) (N : Nat) : Code → (Exit → St → Prop) → St → Prop
  | .skip, Q, s => Q .normal s
  | .seq a b, Q, s => swp P T An' N a (thenK (swp P T An' N b Q) Q) s
  | .cond c x y, Q, s => (match evS s.tmF c with
    | .one (.sc (.bool t)) => (match An'.cut (tmpOf c) with
      | false => SIf t (swp P T An' N x Q s) (swp P T An' N y Q s)
      | true => SCut An'.k t (swp P T An' N x) (swp P T An' N y) Q s)
    | _ => False)
  | .block id b, Q, s => swp P T An' N b (blockK id Q) s
  | .exit id, Q, s => Q (.exit id) s
  | .ret, Q, s => Q .ret s
  | .region id ops dr, Q, s => (match An'.imp id with
    | false => (dr = true → edgeOk ops = true) ∧ sops P T An' N ops dr (Q .normal) ops.toList [] s
    | true => ∃ t, Imp An'.k s t ∧ (dr = true → edgeOk ops = true) ∧ sops P T An' N ops dr (Q .normal) ops.toList [] t)
  | .loop b, Q, s => SLoop An'.k (swp P T An' N b) Q s
  | _, _, _ => False

def lift (P : Program) (w0 : Base) (A : Nat → Prop) (N : Nat) (Q : Exit → St → Prop) : Exit → Act → World → Prop := fun e a w => ∃ (s : St) (m : Mem) (π : Plc), RelAt P w0 A N (s.nx ≤ ·) s.tmF s.hpF a w m π ∧ Q e s

section
variable {P : Program} {T : Tab} {An' : An} {w0 : Base} {A : Nat → Prop} {N : Nat}

theorem tmF_put (s : St) (d : Option Tmp) (v : SV) (ups : List (Nat × Option Row)) (new : Nat) : (s.go d v ups new).tmF = updD s.tmF d v := by
  funext k
  cases d with
  | none => rfl
  | some j =>
    simp only [St.go, St.tmF, putL, updD, upd, slot]
    by_cases e : j = k
    · simp [e]
    · simp [e, Ne.symm e]

theorem lookR_push : ∀ (us l : List (Nat × Option Row)) (r : Nat), lookR r (pushU us l) = upds (fun r => lookR r l) us r
  | [], _, _ => rfl
  | (j, x) :: us, l, r => by
    unfold pushU upds
    rw [lookR_push us _ r]
    congr 1
    funext q
    simp only [lookR, upd]
    by_cases e : j = q
    · simp [e]
    · simp [e, Ne.symm e]

theorem hpF_go (s : St) (d : Option Tmp) (v : SV) (ups : List (Nat × Option Row)) (new : Nat) : (s.go d v ups new).hpF = upds s.hpF ups := by
  funext r
  exact lookR_push ups s.hp r

theorem tmF_ref (s : St) (d : Tmp) (b : Bool) (h : slot d s.tm = some (V (.bool b))) : (s.ref d b).tmF = s.tmF := by
  funext k
  simp only [St.ref, St.tmF, slot]
  by_cases e : d = k
  · subst e; simp [h]
  · simp [e]

theorem sop_ups (T : Tab) (ρ : Operand → SV) (get : Nat → Option Row) (n : Nat) (op : Op) (hn : (sop T ρ get n op).need) :
    (∀ u ∈ (sop T ρ get n op).ups, u.1 ∈ fp ρ op ∨ (n ≤ u.1 ∧ u.1 < n + max 1 (sop T ρ get n op).new)) := by
  have nil : ∀ (r : Res), r.ups = [] → ∀ u ∈ r.ups, u.1 ∈ fp ρ op ∨ (n ≤ u.1 ∧ u.1 < n + max 1 r.new) := fun r h u hu => by rw [h] at hu; simp at hu
  have one : ∀ (r : Res) (row : Option Row), r.ups = [(n, row)] → ∀ u ∈ r.ups, u.1 ∈ fp ρ op ∨ (n ≤ u.1 ∧ u.1 < n + max 1 r.new) := fun r row h u hu => by
    rw [h] at hu
    simp at hu
    subst hu
    right; simp only; omega
  have hari : ∀ wr k x, (ari wr k x).ups = [] := fun wr k x => by unfold ari; split <;> rfl
  have hbin : ∀ op' x y, (sBin T.wr op' x y).ups = [] := by
    intro op' x y
    unfold sBin
    split
    · cases op' <;> rfl
    · cases op' <;> rfl
    · rfl
  cases op with
  | move x => exact nil _ rfl
  | assign x => exact nil _ rfl
  | pick c x y => refine nil _ ?_; simp only [sop, sPick]; split <;> rfl
  | alloc t =>
    simp only [sop, sAlloc] at hn ⊢
    split at hn
    · exact hn.elim
    · exact one _ _ rfl
  | box t x => exact one _ _ rfl
  | build t ps => refine nil _ ?_; simp only [sop, sBuild]; repeat' split
                  all_goals rfl
  | buildSlice t len ps =>
    simp only [sop, sBuildSlice] at hn ⊢
    split at hn
    · exact hn.elim
    · split at hn
      · split at hn
        · exact hn.elim
        · exact one _ _ rfl
      · exact hn.elim
  | load t x => refine nil _ ?_; simp only [sop, sLoad]; repeat' split
                all_goals rfl
  | store t x y =>
    simp only [sop, sStore] at hn ⊢
    split at hn
    · exact hn.elim
    · split at hn
      · rename_i r off hx
        split at hn
        · intro u hu
          simp at hu
          subst hu
          left
          simp [fp, hx, SV.ref]
        · exact hn.elim
      · exact hn.elim
  | nilCheck x => refine nil _ ?_; simp only [sop, sNil]; repeat' split
                  all_goals rfl
  | binOp op' t x y yt =>
    refine nil _ ?_
    simp only [sop, sBinT]
    split
    · exact hbin _ _ _
    · split
      · split <;> rfl
      · split <;> rfl
      · split <;> rfl
      · split <;> rfl
      · split <;> rfl
      · split <;> rfl
      · exact hbin _ _ _
  | unOp op' t x =>
    refine nil _ ?_
    simp only [sop, sUn]
    split
    · rfl
    · exact hari _ _ _
    · rfl
    · rfl
  | convert s d x => exact sConvS_ups T get s d (ρ x) _ n
  | range t x => exact sRange_ups T t (ρ x) _ n
  | next x isS => exact sNext_ups get (ρ x) isS _ n (fun r hr => by simpa [fp] using hr)
  | makeSlice t l c =>
    simp only [sop, sMake] at hn ⊢
    split at hn
    · split at hn
      · split at hn
        · exact hn.elim
        · exact one _ _ rfl
      · exact hn.elim
    · exact hn.elim
  | slice t x lo hi mx => refine nil _ ?_; simp only [sop, sSlice]; repeat' split
                          all_goals rfl
  | fieldAddr t x f => refine nil _ ?_; simp only [sop, sFieldAddr]; repeat' split
                       all_goals rfl
  | field t x f => refine nil _ ?_; simp only [sop, sField]; repeat' split
                   all_goals rfl
  | indexAddr t x i => refine nil _ ?_; simp only [sop, sIndexAddr]; repeat' split
                       all_goals rfl
  | index t x i => refine nil _ ?_; simp only [sop, sIndex]; repeat' split
                   all_goals rfl
  | extract x i => refine nil _ ?_; simp only [sop, sExtract]; repeat' split
                   all_goals rfl
  | call c =>
    simp only [sop, sCallB] at hn ⊢
    split at hn
    · refine nil _ ?_
      repeat' split
      all_goals (try rfl)
      all_goals (simp only [sLen]; repeat' split)
      all_goals rfl
    · split at hn
      · rename_i x y t t' ea et
        have hF : ∀ r ∈ (ρ x).ref, r ∈ fp ρ (.call c) := fun r hr => by simp [fp, ea, hr]
        by_cases e : t = t'
        · rw [if_pos e]
          exact sAppend1_ups T get t (ρ x) (ρ y) _ n hF
        · rw [if_neg e]
          exact sAppendZ_ups T get t t' (ρ x) (ρ y) _ n
      · exact hn.elim
    · split at hn
      · exact sCap_ups T get _ _ _ n
      · exact hn.elim
    · split at hn
      · rename_i x y t t' ea et
        exact sCopy_ups T get t (ρ x) (ρ y) _ n (fun r hr => by simp [fp, ea, hr])
      · exact hn.elim
    · split at hn
      · rename_i x t ea et
        exact sClear_ups T get t (ρ x) _ n (fun r hr => by simp [fp, ea, hr])
      · exact hn.elim
    · refine nil _ ?_; simp only [sMin]; split <;> rfl
    · refine nil _ ?_; simp only [sMax]; split <;> rfl
    · exact hn.elim
  | makeFunc fn first cs =>
    cases fn with
    | func f =>
      simp only [sop] at hn ⊢
      split at hn
      · exact nil _ rfl
      · exact hn.elim
    | _ => exact hn.elim
  | makeMap t r =>
    cases r with
    | none => exact sMakeMap_ups T t _ n
    | some _ => exact hn.elim
  | lookup t x i ok => exact sLookup_ups T get t (ρ x) (ρ i) ok _ n
  | mapUpdate t x i v => exact sMapUpdate_ups T get t (ρ x) (ρ i) (ρ v) _ n (fun r hr => by simpa [fp] using hr)
  | _ => exact hn.elim

theorem sops_tr (hT : TOk P T) (hC : TClosed T = true) (all : Array Oper) (dr : Bool) (K : St → Prop) : ∀ (rest : List Oper) (acc : List (List Nat × List Nat)) (s : St), sops P T An' N all dr K rest acc s →
    ∃ rs s', Tr P all N rest s.tmF s.hpF s.nx rs s'.tmF s'.hpF s'.nx ∧ K s' ∧ (dr = true → okc all (acc.reverse ++ rs.map tag) = true)
  | [], acc, s, h => ⟨[], s, .nil _ _ _, h.2, by simpa using h.1⟩
  | o :: rest, acc, s, h => by
    obtain ⟨hd, h⟩ := h
    have hd' : ∀ k, o.dst = some k → k < N := by
      intro k hk
      unfold dstOk at hd
      rw [hk] at hd
      exact hd
    -- one operation that is carried out
    have hdo : ∀ s' : St, s'.tmF = s.tmF → s'.hpF = s.hpF → s'.nx = s.nx → guardIs all o s.tmF true → sDo P T An' o acc s' (sops P T An' N all dr K rest) →
        ∃ rs s2, Tr P all N (o :: rest) s.tmF s.hpF s.nx rs s2.tmF s2.hpF s2.nx ∧ K s2 ∧ (dr = true → okc all (acc.reverse ++ rs.map tag) = true) := by
      intro s' e1 e2 e3 hg hdo
      rw [← e1, ← e2, ← e3] at *
      have fin : ∀ (e : Ef), XLoc P o (evS s'.tmF) s'.hpF s'.nx e → (∀ u ∈ e.ups, u.1 ∈ e.fp ∨ (s'.nx ≤ u.1 ∧ u.1 < s'.nx + e.cost)) →
          sops P T An' N all dr K rest ((e.fp, e.ups.map (·.1)) :: acc) (s'.go o.dst e.val e.ups e.new) → ∃ rs s2, Tr P all N (o :: rest) s'.tmF s'.hpF s'.nx rs s2.tmF s2.hpF s2.nx ∧ K s2 ∧ (dr = true → okc all (acc.reverse ++ rs.map tag) = true) := by
        intro e hx hw hk
        obtain ⟨rs, s2, h1, h2, h3⟩ := sops_tr hT hC all dr K rest _ _ hk
        rw [tmF_put, hpF_go] at h1
        refine ⟨(o, e) :: rs, s2, .exec hg hd' hx hw h1, h2, fun hdr => ?_⟩
        have := h3 hdr
        simpa [tag] using this
      have finp : (sop T (evS s'.tmF) s'.hpF s'.nx o.op).need ∧ sops P T An' N all dr K rest ((fp (evS s'.tmF) o.op, (sop T (evS s'.tmF) s'.hpF s'.nx o.op).ups.map (·.1)) :: acc) (s'.go o.dst (sop T (evS s'.tmF) s'.hpF s'.nx o.op).val (sop T (evS s'.tmF) s'.hpF s'.nx o.op).ups (sop T (evS s'.tmF) s'.hpF s'.nx o.op).new) →
          ∃ rs s2, Tr P all N (o :: rest) s'.tmF s'.hpF s'.nx rs s2.tmF s2.hpF s2.nx ∧ K s2 ∧ (dr = true → okc all (acc.reverse ++ rs.map tag) = true) := by
        rintro ⟨hn, hk⟩
        exact fin _ (xloc_sop T hT hC o _ _ _ hn) (sop_ups T _ _ _ _ hn) hk
      unfold sDo at hdo
      split at hdo
      · rename_i c x y hop
        split at hdo
        · rename_i t ht
          have hs : sop T (evS s'.tmF) s'.hpF s'.nx o.op = ⟨True, if t = true then evS s'.tmF x else evS s'.tmF y, [], 0⟩ := by
            rw [hop]; simp only [sop, ht, sPick]
          have hfp : fp (evS s'.tmF) o.op = [] := by rw [hop]; rfl
          refine finp ⟨by rw [hs]; trivial, ?_⟩
          rw [hs, hfp]
          split at hdo
          · cases t with
            | true => exact hdo.1 rfl
            | false => exact hdo.2 rfl
          · exact hdo
        · exact hdo.elim
      · rename_i c hop
        split at hdo
        · rename_i x hx
          split at hdo
          · rename_i f caps hf
            obtain ⟨res, outs, g, h1, h2, h3⟩ := hdo
            refine fin ⟨res.ren (back _ s'.nx), gone g _ _ ++ outUpsFrom _ s'.nx 0 outs, outs.length - _, _ ++ snaps _ _⟩ (xloc_call hop hx hf h1 h2) ?_ h3
            intro u hu
            rcases List.mem_append.1 hu with hu | hu
            · cases g with
              | false => cases hu
              | true =>
                obtain ⟨r, hr, rfl⟩ := List.mem_map.1 hu
                exact .inl (List.mem_append.2 (.inr hr))
            have : u.1 ∈ (outUpsFrom (lendIds s'.hpF (An'.lend f) (c.args.toList.map (evS s'.tmF) ++ caps.map SV.one)) s'.nx 0 outs).map (·.1) := List.mem_map.2 ⟨u, hu, rfl⟩
            rw [outUps_ids] at this
            obtain ⟨i, hi, he⟩ := List.mem_map.1 this
            simp only [Nat.zero_add] at he
            rw [← he]
            unfold bk
            split
            · rename_i r hr
              exact .inl (List.mem_append.2 (.inl (List.mem_of_getElem? hr)))
            · rename_i hnone
              have hil : i < outs.length := by simpa using hi
              have hge : (lendIds s'.hpF (An'.lend f) (c.args.toList.map (evS s'.tmF) ++ caps.map SV.one)).length ≤ i := by
                rcases Nat.lt_or_ge i (lendIds s'.hpF (An'.lend f) (c.args.toList.map (evS s'.tmF) ++ caps.map SV.one)).length with hl | hl
                · rw [List.getElem?_eq_getElem hl] at hnone; cases hnone
                · exact hl
              right
              simp only [Ef.cost]
              omega
          · exact hdo.elim
        · exact finp hdo
      · exact finp hdo
    cases hgu : o.guard with
    | none =>
      rw [hgu] at h
      refine hdo s rfl rfl rfl ?_ h
      unfold guardIs; rw [hgu]
    | some jw =>
      obtain ⟨j, want⟩ := jw
      rw [hgu] at h
      simp only at h
      split at h
      · rename_i oj hoj
        split at h
        · rename_i d hdd
          split at h
          · -- no ways parted
            obtain ⟨cc, ⟨b0, t0, ht, hcc⟩, h⟩ := h
            · have hg : ∀ b, cc = b → guardIs all o s.tmF b := by
                intro b hb
                unfold guardIs; rw [hgu]
                refine ⟨oj, d, hoj, hdd, ?_⟩
                subst hb; subst hcc
                cases b0 with
                | true => exact .inl ⟨t0, ht, by simp⟩
                | false => exact .inr ⟨ht, by simp⟩
              have skipK : cc = false → ∀ v F, sops P T An' N all dr K rest ((gfp cc F, []) :: acc) (s.go o.dst (cnd cc v) [] 0) →
                  ∃ rs s2, Tr P all N (o :: rest) s.tmF s.hpF s.nx rs s2.tmF s2.hpF s2.nx ∧ K s2 ∧ (dr = true → okc all (acc.reverse ++ rs.map tag) = true) := by
                intro hb v F hk
                obtain ⟨rs, s2, h1, h2, h3⟩ := sops_tr hT hC all dr K rest _ _ hk
                rw [tmF_put, hpF_go, hb] at h1
                simp only [St.go] at h1
                refine ⟨(o, ⟨ud, [], 0, []⟩) :: rs, s2, .skip (hg _ hb) hd' (by simpa [cnd, upds, St.go] using h1), h2, fun hdr => ?_⟩
                have := h3 hdr
                simpa [tag, gfp, hb] using this
              have doK : cc = true → ∀ (v : SV) (F : List Nat), XLoc P o (evS s.tmF) s.hpF s.nx ⟨v, [], 0, F⟩ → sops P T An' N all dr K rest ((gfp cc F, []) :: acc) (s.go o.dst (cnd cc v) [] 0) →
                  ∃ rs s2, Tr P all N (o :: rest) s.tmF s.hpF s.nx rs s2.tmF s2.hpF s2.nx ∧ K s2 ∧ (dr = true → okc all (acc.reverse ++ rs.map tag) = true) := by
                intro hb v F hx hk
                obtain ⟨rs, s2, h1, h2, h3⟩ := sops_tr hT hC all dr K rest _ _ hk
                rw [tmF_put, hpF_go, hb] at h1
                simp only [St.go] at h1
                refine ⟨(o, ⟨v, [], 0, F⟩) :: rs, s2, .exec (hg _ hb) hd' hx (by simp) (by simpa [cnd, upds, Ef.cost, St.go] using h1), h2, fun hdr => ?_⟩
                have := h3 hdr
                simpa [tag, gfp, hb] using this
              unfold gDo at h
              split at h
              · rename_i x args hop
                split at h
                · rename_i f caps hf
                  obtain ⟨res, h1, h2⟩ := h
                  cases hb : cc with
                  | false => exact skipK hb _ _ h2
                  | true =>
                    obtain ⟨k1, k2, k3⟩ := h1 hb
                    unfold isCall at hop
                    split at hop
                    · rename_i c hc
                      split at hop
                      · rename_i x' hx'
                        obtain ⟨rfl, rfl⟩ := Prod.mk.inj (Option.some.inj hop)
                        have hxl := xloc_call (n := s.nx) hc hx' hf k1 k2.d
                        rw [k3] at hxl
                        exact doK hb _ _ hxl h2
                      · cases hop
                    · cases hop
                · obtain ⟨hb, h2⟩ := h
                  exact skipK hb _ _ h2
              · obtain ⟨h1, h2⟩ := h
                cases hb : cc with
                | false => exact skipK hb _ _ h2
                | true =>
                  obtain ⟨k1, k2, k3⟩ := h1 hb
                  have hx := xloc_sop T hT hC o _ _ _ k1
                  rw [k2, k3] at hx
                  exact doK hb _ _ hx h2
          · split at h
            · rename_i t ht
              by_cases e : t = want
              · subst e
                refine hdo (s.ref d t) (tmF_ref s d t ht) rfl rfl ?_ (h.1 rfl)
                unfold guardIs; rw [hgu]
                exact ⟨oj, d, hoj, hdd, .inl ⟨t, ht, by simp⟩⟩
              · have e' : t = !want := by cases t <;> cases want <;> simp_all
                subst e'
                obtain ⟨rs, s2, h1, h2, h3⟩ := sops_tr hT hC all dr K rest _ _ (h.2 rfl)
                rw [tmF_put, hpF_go, tmF_ref s d _ ht] at h1
                refine ⟨(o, ⟨ud, [], 0, []⟩) :: rs, s2, .skip ?_ hd' h1, h2, fun hdr => ?_⟩
                · unfold guardIs; rw [hgu]
                  exact ⟨oj, d, hoj, hdd, .inl ⟨_, ht, by cases want <;> rfl⟩⟩
                · have := h3 hdr
                  simpa [tag] using this
            · exact h.elim
        · exact h.elim
      · exact h.elim

theorem sops_wp (hm : P.follows .mixedOrders = true) (hT : TOk P T) (hC : TClosed T = true) {id : Nat} {all : Array Oper} {dr : Bool} {Q : Exit → St → Prop} {s : St} {a : Act} {w : World} {m : Mem} {π : Plc}
    (hE : dr = true → edgeOk all = true) (h : sops P T An' N all dr (Q .normal) all.toList [] s) (hr : RelAt P w0 A N (s.nx ≤ ·) s.tmF s.hpF a w m π) : (Code.region id all dr).wp P (lift P w0 A N Q) a w := by
  obtain ⟨rs, s', h1, h2, h3⟩ := sops_tr hT hC all dr (Q .normal) _ _ _ h
  cases dr with
  | false => exact wp_region_seq h1 (fun a' w' m' π' hr' => ⟨s', m', π', hr', h2⟩) hr
  | true => exact wp_region_drawn hm h1 (hE rfl) (by simpa using h3 rfl) (fun a' w' m' π' hr' => ⟨s', m', π', hr', h2⟩) hr

theorem swp_ok (hk : w0.k = An'.k) (hm : P.follows .mixedOrders = true) (hT : TOk P T) (hC : TClosed T = true) : ∀ (c : Code) (Q : Exit → St → Prop) (s : St) (a : Act) (w : World) (m : Mem) (π : Plc), swp P T An' N c Q s → RelAt P w0 A N (s.nx ≤ ·) s.tmF s.hpF a w m π → c.wp P (lift P w0 A N Q) a w := by
  intro c
  induction c with
  | skip => exact fun Q s a w m π h hr => wp_skip ⟨s, m, π, hr, h⟩
  | exit id => exact fun Q s a w m π h hr => wp_exit ⟨s, m, π, hr, h⟩
  | ret => exact fun Q s a w m π h hr => wp_ret ⟨s, m, π, hr, h⟩
  | region id ops dr =>
    intro Q s a w m π h hr
    unfold swp at h
    split at h
    · exact sops_wp hm hT hC h.1 h.2 hr
    · obtain ⟨t, h0, h1, h2⟩ := h
      obtain ⟨m', π', hr'⟩ := h0 _ _ _ _ _ _ _ _ hk hr
      exact sops_wp hm hT hC h1 h2 hr'
  | seq x y ihx ihy =>
    intro Q s a w m π h hr
    refine wp_seq (wp_mono (ihx _ s a w m π h hr) ?_)
    rintro e a' w' ⟨s', m', π', h1, h2⟩
    cases e with
    | normal => exact ihy Q s' a' w' m' π' h2 h1
    | exit i => exact ⟨s', m', π', h1, h2⟩
    | ret => exact ⟨s', m', π', h1, h2⟩
    | goto l => exact h2.elim
    | panic ch => exact h2.elim
    | outgrown => exact h2.elim
  | cond c x y ihx ihy =>
    intro Q s a w m π h hr
    unfold swp at h
    split at h
    · rename_i t ht
      have hev := (evS_ok hr c).1
      rw [ht] at hev
      have hct := (vs_sc hev).1
      split at h
      · refine wp_cond_split hct (fun e => ihx Q s a w m π (h.1 e) hr) (fun e => ihy Q s a w m π (h.2 e) hr)
      · obtain ⟨J, h1, h2⟩ := h
        have hkk : ∀ e a' w', lift P w0 A N (thenK (impK An'.k J) Q) e a' w' → lift P w0 A N Q e a' w' := by
          rintro e a' w' ⟨s', m', π', k1, k2⟩
          cases e with
          | normal =>
            obtain ⟨u, k3, k4⟩ := k2
            obtain ⟨m2, π2, k5⟩ := k3 _ _ _ _ _ _ _ _ hk k1
            exact ⟨u, m2, π2, k5, h2 u k4⟩
          | exit i => exact ⟨s', m', π', k1, k2⟩
          | ret => exact ⟨s', m', π', k1, k2⟩
          | goto l => exact k2.elim
          | panic ch => exact k2.elim
          | outgrown => exact k2.elim
        refine wp_cond_split hct (fun e => wp_mono (ihx _ s a w m π (h1.1 e) hr) hkk) (fun e => wp_mono (ihy _ s a w m π (h1.2 e) hr) hkk)
    · exact h.elim
  | block id b ih =>
    intro Q s a w m π h hr
    refine wp_block (wp_mono (ih _ s a w m π h hr) ?_)
    rintro e a' w' ⟨s', m', π', h1, h2⟩
    cases e with
    | normal => exact ⟨s', m', π', h1, h2⟩
    | exit i =>
      simp only [Exit.inBlock, blockK] at h2 ⊢
      split
      · rename_i e; rw [if_pos e] at h2; exact ⟨s', m', π', h1, h2⟩
      · rename_i e; rw [if_neg e] at h2; exact ⟨s', m', π', h1, h2⟩
    | ret => exact ⟨s', m', π', h1, h2⟩
    | goto l => exact h2.elim
    | panic ch => exact h2.elim
    | outgrown => exact h2.elim
  | loop b ih =>
    intro Q s a w m π h hr
    obtain ⟨ι, st, inv, μ, ⟨x, h1, h2⟩, h3⟩ := h
    obtain ⟨m', π', h4⟩ := h1 _ _ _ _ _ _ _ _ hk hr
    have key : ∀ (n : Nat) (x : ι) (a : Act) (w : World) (m : Mem) (π : Plc), μ x = n → inv x → RelAt P w0 A N ((st x).nx ≤ ·) (st x).tmF (st x).hpF a w m π →
        ∀ (bf : Frame) (k : List Item) (cs : List Frame), ∃ e a' w', lift P w0 A N Q e a' w' ∧ Arrives P (lone (bf.at a (.code b :: .inLoop b :: k)) cs w) bf k cs e a' w' := by
      intro n
      induction n using Nat.strongRecOn with
      | _ n ihn =>
        intro x a w m π hn hIt hrt bf k cs
        obtain ⟨e, a1, w1, ⟨s1, m1, π1, k1, k2⟩, harr⟩ := ih (loopK An'.k st inv μ x Q) (st x) a w m π (h3 x hIt) hrt bf (.inLoop b :: k) cs
        cases e with
        | normal =>
          obtain ⟨t', k3, k4, k5⟩ := k2
          obtain ⟨m2, π2, k6⟩ := k3 _ _ _ _ _ _ _ _ hk k1
          obtain ⟨e2, a2, w2, hq2, harr2⟩ := ihn (μ t') (by omega) t' a1 w1 m2 π2 rfl k4 k6 bf k cs
          exact ⟨e2, a2, w2, hq2, .of_steps (Steps.trans harr (.one step_inLoop)) harr2⟩
        | exit i => exact ⟨_, a1, w1, ⟨s1, m1, π1, k1, k2⟩, .pass (x := .inLoop b) rfl (fun _ _ => .inl (by simp)) harr⟩
        | ret => exact ⟨_, a1, w1, ⟨s1, m1, π1, k1, k2⟩, .pass (x := .inLoop b) rfl (fun _ _ => .inl (by simp)) harr⟩
        | goto l => exact k2.elim
        | panic ch => exact k2.elim
        | outgrown => exact k2.elim
    intro bf k cs
    obtain ⟨e, a', w', hq, harr⟩ := key _ x a w m' π' rfl h2 h4 bf k cs
    exact ⟨e, a', w', hq, .of_steps (.one step_loop) harr⟩
  | _ => exact fun Q s a w m π h hr => h.elim

end
end Go.Proofs.YtfkcolodbjonkabDoor.Sh
