/- Contracts of functions, told of values, on the way to MemberReads (part 3). -/
import Derived.Test.YtnahpejlhfeleabGreatMemberReadsM2
import Derived.Below
import Derived.ChangeArms
import Derived.OpenShut
import Derived.Carry
import Derived.Lib.Overlaps
import Derived.Laws.RangeString
import Derived.Laws.RangeAny
import Derived.Lib.Bytealg
import Derived.Test.YtnahpejlhfeleabGreatChecked
-- short names of the library's lemmas
open Nat renaming le_refl → zag, add_sub_cancel_left → zah, add_mul → zar, zero_le → zat
open List renaming flatMap_cons → zaa, append_nil → zab, toArray → zac, flatMap_nil → zad, map_congr_left → zaf, drop_of_length_le → zai, map_map → zak, map_nil → zal, mem_cons_of_mem → zam, replicate → zan, map_cons → zao, take_of_length_le → zaq, length_cons → zas
open Option renaming map_eq_some_iff → zap
open Bool renaming and_eq_true → zae, false_eq_true → zaj
set_option linter.unusedSimpArgs false
set_option linter.unusedVariables false
namespace Go.Proofs.YtnahpejlhfeleabGreat.Sh
open Go.RowKit
structure St where
  tm : List (Nat × SV)
  hp : List (Nat × Option Row)
  nx : Nat
def St.tmF (s : St) : Nat → Option SV := fun k => slot k s.tm
def lookR (r : Nat) : List (Nat × Option Row) → Option Row
  | [] => none
  | (j, x) :: l => if j = r then x else lookR r l
def St.hpF (s : St) : Nat → Option Row := fun r => lookR r s.hp
def putL (d : Option Tmp) (v : SV) (l : List (Nat × SV)) : List (Nat × SV) := match d with
  | some k => (k, v) :: l
  | none => l
def pushU : List (Nat × Option Row) → List (Nat × Option Row) → List (Nat × Option Row)
  | [], l => l
  | u :: us, l => pushU us (u :: l)
def St.put (s : St) (d : Option Tmp) (v : SV) : St := ⟨putL d v s.tm, s.hp, s.nx⟩
def St.ref (s : St) (d : Tmp) (b : Bool) : St := ⟨(d, V (.bool b)) :: s.tm, s.hp, s.nx⟩
def St.go (s : St) (d : Option Tmp) (v : SV) (ups : List (Nat × Option Row)) (new : Nat) : St := ⟨putL d v s.tm, pushU ups s.hp, s.nx + max 1 new⟩
def Imp (k : Nat) (s t : St) : Prop := ∀ (P : Program) (w0 : Base) (A : Nat → Prop) (N : Nat) (a : Act) (w : World) (m : Mem) (π : Plc), w0.k = k → RelAt P w0 A N (s.nx ≤ ·) s.tmF s.hpF a w m π → ∃ m' π', RelAt P w0 A N (t.nx ≤ ·) t.tmF t.hpF a w m' π'
theorem Imp.refl (k : Nat) (s : St) : Imp k s s := fun _ _ _ _ _ _ m π _ h => ⟨m, π, h⟩
theorem Imp.trans {k : Nat} {s t u : St} (h : Imp k s t) (h2 : Imp k t u) : Imp k s u := fun P w0 A N a w m π hk hr => by
  obtain ⟨m', π', h'⟩ := h P w0 A N a w m π hk hr
  exact h2 P w0 A N a w m' π' hk h'
structure An where
  cut : Nat → Bool
  lend : Nat → List Nat
  k : Nat
  br : Nat → Bool := fun _ => false
  imp : Nat → Bool := fun _ => false
def tmpOf : Operand → Nat
  | .tmp t => t
  | _ => 0
def cnd (b : Bool) (v : SV) : SV := if b = true then v else ud
def mrg (b : Bool) (x y : SV) : SV := if b = true then x else y
def GIs (v : Option SV) (want c : Bool) : Prop := ∃ b t, v = some (cnd b (V (.bool t))) ∧ c = (b && (t == want))
def GN (b : Bool) (r : Res) : Prop := b = true → r.need ∧ r.ups = [] ∧ r.new = 0
def gfp (b : Bool) (F : List Nat) : List Nat := if b = true then F else []
def isCall : Op → Option (Operand × List Operand)
  | .call c => (match c.callee with
    | .value x => some (x, c.args.toList)
    | _ => none)
  | _ => none
def lendIds (get : Nat → Option Row) (ps : List Nat) (args : List SV) : List Nat := ps.flatMap fun (i : Nat) =>
  if i < 100 then (match (args[i]? : Option SV) with
    | some (.one (.optr r _)) => [r]
    | some (.one (.osl r _ _ _)) => [r]
    | some (.one (.mp r _)) => [r]
    | _ => [])
  else (match (args[i - 100]? : Option SV) with
    | some (.one (.optr r _)) => (match get r with
      | some row => row.cells.flatMap Cell.refs
      | none => [])
    | _ => [])
def SCall (P : Program) (f : FuncId) (args : List SV) (L : List Nat) (s : St) (d : Option Tmp) (acc : List (List Nat × List Nat)) (k : List (List Nat × List Nat) → St → Prop) : Prop :=
  ∃ res outs g, CallG g L s.hpF args res outs ∧ FnSpecD P f (args.map (prepV L s.hpF)) (lentRows L s.hpF) res outs ∧
    k ((L ++ snaps L args, (gone g L args ++ outUpsFrom L s.nx 0 outs).map (·.1)) :: acc) (s.go d (res.ren (back L s.nx)) (gone g L args ++ outUpsFrom L s.nx 0 outs) (outs.length - L.length))
def sDo (P : Program) (T : Tab) (An' : An) (o : Oper) (acc : List (List Nat × List Nat)) (s : St) (k : List (List Nat × List Nat) → St → Prop) : Prop :=
  match o.op with
  | .pick c x y => (match evS s.tmF c with
    | .one (.sc (.bool t)) => (match An'.br (tmpOf c) with
      | true => (t = true → k (([], []) :: acc) (s.go o.dst (evS s.tmF x) [] 0)) ∧ (t = false → k (([], []) :: acc) (s.go o.dst (evS s.tmF y) [] 0))
      | false => k (([], []) :: acc) (s.go o.dst (mrg t (evS s.tmF x) (evS s.tmF y)) [] 0))
    | _ => False)
  | .call c => (match c.callee with
    | .value x => (match evS s.tmF x with
      | .one (.fn f caps) => SCall P f (c.args.toList.map (evS s.tmF) ++ caps.map SV.one) (lendIds s.hpF (An'.lend f) (c.args.toList.map (evS s.tmF) ++ caps.map SV.one)) s o.dst acc k
      | _ => False)
    | _ => (sop T (evS s.tmF) s.hpF s.nx o.op).need ∧ k ((fp (evS s.tmF) o.op, (sop T (evS s.tmF) s.hpF s.nx o.op).ups.map (·.1)) :: acc) (s.go o.dst (sop T (evS s.tmF) s.hpF s.nx o.op).val (sop T (evS s.tmF) s.hpF s.nx o.op).ups (sop T (evS s.tmF) s.hpF s.nx o.op).new))
  | _ => (sop T (evS s.tmF) s.hpF s.nx o.op).need ∧ k ((fp (evS s.tmF) o.op, (sop T (evS s.tmF) s.hpF s.nx o.op).ups.map (·.1)) :: acc) (s.go o.dst (sop T (evS s.tmF) s.hpF s.nx o.op).val (sop T (evS s.tmF) s.hpF s.nx o.op).ups (sop T (evS s.tmF) s.hpF s.nx o.op).new)
def gDo (P : Program) (T : Tab) (An' : An) (dr b : Bool) (o : Oper) (acc : List (List Nat × List Nat)) (s : St) (k : List (List Nat × List Nat) → St → Prop) : Prop :=
  match isCall o.op with
  | some (x, args) => (match evS s.tmF x with
    | .one (.fn f caps) => ∃ res, (b = true → CallG false (lendIds s.hpF (An'.lend f) (args.map (evS s.tmF) ++ caps.map SV.one)) s.hpF (args.map (evS s.tmF) ++ caps.map SV.one) res [] ∧
          FnSpec P f ((args.map (evS s.tmF) ++ caps.map SV.one).map (prepV (lendIds s.hpF (An'.lend f) (args.map (evS s.tmF) ++ caps.map SV.one)) s.hpF)) (lentRows (lendIds s.hpF (An'.lend f) (args.map (evS s.tmF) ++ caps.map SV.one)) s.hpF) res [] ∧
          lendIds s.hpF (An'.lend f) (args.map (evS s.tmF) ++ caps.map SV.one) = []) ∧
        k ((gfp b (snaps [] (args.map (evS s.tmF) ++ caps.map SV.one)), []) :: acc) (s.go o.dst (cnd b (res.ren (back [] s.nx))) [] 0)
    | _ => b = false ∧ k ((gfp b [], []) :: acc) (s.go o.dst (cnd b ud) [] 0))
  | none => GN b (sop T (evS s.tmF) s.hpF s.nx o.op) ∧ k ((gfp b (fp (evS s.tmF) o.op), []) :: acc) (s.go o.dst (cnd b (sop T (evS s.tmF) s.hpF s.nx o.op).val) [] 0)
def dstOk (N : Nat) (d : Option Tmp) : Prop := match d with
  | some k => k < N
  | none => True
def sops (P : Program) (T : Tab) (An' : An) (N : Nat) (all : Array Oper) (dr : Bool) (K : St → Prop) : List Oper → List (List Nat × List Nat) → St → Prop
  | [], acc, s => (dr = true → okc all acc.reverse = true) ∧ K s
  | o :: rest, acc, s => dstOk N o.dst ∧ (match o.guard with
    | none => sDo P T An' o acc s (sops P T An' N all dr K rest)
    | some (j, want) => (match all[j]? with
      | some oj => (match oj.dst with
        | some d => (match An'.br d with
          | false => ∃ c, GIs (slot d s.tm) want c ∧ gDo P T An' dr c o acc s (sops P T An' N all dr K rest)
          | true => (match slot d s.tm with
            | some (.one (.sc (.bool t))) => (t = want → sDo P T An' o acc (s.ref d want) (sops P T An' N all dr K rest)) ∧
              (t = !want → sops P T An' N all dr K rest (([], []) :: acc) ((s.ref d (!want)).go o.dst ud [] 0))
            | _ => False))
        | none => False)
      | none => False))
def thenK (k : St → Prop) (Q : Exit → St → Prop) : Exit → St → Prop
  | .normal, s => k s
  | .exit i, s => Q (.exit i) s
  | .ret, s => Q .ret s
  | _, _ => False
def blockK (id : Nat) (Q : Exit → St → Prop) : Exit → St → Prop
  | .normal, s => Q .normal s
  | .exit i, s => if i = id then Q .normal s else Q (.exit i) s
  | .ret, s => Q .ret s
  | _, _ => False
def loopK {ι : Type} (n : Nat) (st : ι → St) (inv : ι → Prop) (μ : ι → Nat) (x : ι) (Q : Exit → St → Prop) : Exit → St → Prop
  | .normal, s => ∃ x', Imp n s (st x') ∧ inv x' ∧ μ x' < μ x
  | .exit i, s => Q (.exit i) s
  | .ret, s => Q .ret s
  | _, _ => False
def impK (n : Nat) (J : St → Prop) : St → Prop := fun s => ∃ t, Imp n s t ∧ J t
def SLoop (n : Nat) (F : (Exit → St → Prop) → St → Prop) (Q : Exit → St → Prop) (s : St) : Prop :=
  ∃ (ι : Type) (st : ι → St) (inv : ι → Prop) (μ : ι → Nat), (∃ x, Imp n s (st x) ∧ inv x) ∧ ∀ x, inv x → F (loopK n st inv μ x Q) (st x)
def SCut (n : Nat) (t : Bool) (F G : (Exit → St → Prop) → St → Prop) (Q : Exit → St → Prop) (s : St) : Prop :=
  ∃ J : St → Prop, ((t = true → F (thenK (impK n J) Q) s) ∧ (t = false → G (thenK (impK n J) Q) s)) ∧ ∀ u, J u → Q .normal u
def SIf (t : Bool) (p q : Prop) : Prop := (t = true → p) ∧ (t = false → q)
def swp (P : Program) (T : Tab) (An' : An) (N : Nat) : Code → (Exit → St → Prop) → St → Prop
  | .skip, Q, s => Q .normal s
  | .seq a b, Q, s => swp P T An' N a (thenK (swp P T An' N b Q) Q) s
  | .cond c x y, Q, s => (match evS s.tmF c with
    | .one (.sc (.bool t)) => (match An'.cut (tmpOf c) with
      | false => SIf t (swp P T An' N x Q s) (swp P T An' N y Q s)
      | true => SCut An'.k t (swp P T An' N x) (swp P T An' N y) Q s)
    | _ => False)
  | .block id b, Q, s => swp P T An' N b (blockK id Q) s
  | .exit id, Q, s => Q (.exit id) s
  | .ret, Q, s => Q .ret s
  | .region id ops dr, Q, s => (match An'.imp id with
    | false => (dr = true → edgeOk ops = true) ∧ sops P T An' N ops dr (Q .normal) ops.toList [] s
    | true => ∃ t, Imp An'.k s t ∧ (dr = true → edgeOk ops = true) ∧ sops P T An' N ops dr (Q .normal) ops.toList [] t)
  | .loop b, Q, s => SLoop An'.k (swp P T An' N b) Q s
  | _, _, _ => False
def lift (P : Program) (w0 : Base) (A : Nat → Prop) (N : Nat) (Q : Exit → St → Prop) : Exit → Act → World → Prop := fun e a w => ∃ (s : St) (m : Mem) (π : Plc), RelAt P w0 A N (s.nx ≤ ·) s.tmF s.hpF a w m π ∧ Q e s
section
variable {P : Program} {T : Tab} {An' : An} {w0 : Base} {A : Nat → Prop} {N : Nat}
theorem tmF_put (s : St) (d : Option Tmp) (v : SV) (ups : List (Nat × Option Row)) (new : Nat) : (s.go d v ups new).tmF = updD s.tmF d v := by
 funext k
 cases d with
 | none => rfl
 | some j =>
   simp only [St.go, St.tmF, putL, updD, upd, slot]
   by_cases e : j = k
   · simp [e]
   · simp [e, Ne.symm e]
theorem lookR_push : ∀ (us l : List (Nat × Option Row)) (r : Nat), lookR r (pushU us l) = upds (fun r => lookR r l) us r
  | [], _, _ => rfl
  | (j, x) :: us, l, r => by
    unfold pushU upds
    rw [lookR_push us _ r]
    congr 1
    funext q
    simp only [lookR, upd]
    by_cases e : j = q
    · simp [e]
    · simp [e, Ne.symm e]
theorem hpF_go (s : St) (d : Option Tmp) (v : SV) (ups : List (Nat × Option Row)) (new : Nat) : (s.go d v ups new).hpF = upds s.hpF ups := by
 funext r
 exact lookR_push ups s.hp r
theorem tmF_ref (s : St) (d : Tmp) (b : Bool) (h : slot d s.tm = some (V (.bool b))) : (s.ref d b).tmF = s.tmF := by
 funext k
 simp only [St.ref, St.tmF, slot]
 by_cases e : d = k
 · subst e; simp [h]
 · simp [e]
theorem sop_ups (T : Tab) (ρ : Operand → SV) (get : Nat → Option Row) (n : Nat) (op : Op) (hn : (sop T ρ get n op).need) : (∀ u ∈ (sop T ρ get n op).ups, u.1 ∈ fp ρ op ∨ (n ≤ u.1 ∧ u.1 < n + max 1 (sop T ρ get n op).new)) := by
 have nil : ∀ (r : Res), r.ups = [] → ∀ u ∈ r.ups, u.1 ∈ fp ρ op ∨ (n ≤ u.1 ∧ u.1 < n + max 1 r.new) := fun r h u hu => by rw [h] at hu; simp at hu
 have one : ∀ (r : Res) (row : Option Row), r.ups = [(n, row)] → ∀ u ∈ r.ups, u.1 ∈ fp ρ op ∨ (n ≤ u.1 ∧ u.1 < n + max 1 r.new) := fun r row h u hu => by
   rw [h] at hu
   simp at hu
   subst hu
   right; simp only; omega
 have hari : ∀ wr k x, (ari wr k x).ups = [] := fun wr k x => by unfold ari; split <;> rfl
 have hbin : ∀ op' x y, (sBin T.wr op' x y).ups = [] := by
   intro op' x y
   unfold sBin
   split
   · cases op' <;> rfl
   · cases op' <;> rfl
   · rfl
 cases op with
 | move x => exact nil _ rfl
 | assign x => exact nil _ rfl
 | pick c x y => refine nil _ ?_; simp only [sop, sPick]; split <;> rfl
 | alloc t =>
   simp only [sop, sAlloc] at hn ⊢
   split at hn
   · exact hn.elim
   · exact one _ _ rfl
 | box t x => exact one _ _ rfl
 | build t ps => refine nil _ ?_; simp only [sop, sBuild]; repeat' split
                 all_goals rfl
 | buildSlice t len ps =>
   simp only [sop, sBuildSlice] at hn ⊢
   split at hn
   · exact hn.elim
   · split at hn
     · split at hn
       · exact hn.elim
       · exact one _ _ rfl
     · exact hn.elim
 | load t x => refine nil _ ?_; simp only [sop, sLoad]; repeat' split
               all_goals rfl
 | store t x y =>
   simp only [sop, sStore] at hn ⊢
   split at hn
   · exact hn.elim
   · split at hn
     · rename_i r off hx
       split at hn
       · intro u hu
         simp at hu
         subst hu
         left
         simp [fp, hx, SV.ref]
       · exact hn.elim
     · exact hn.elim
 | nilCheck x => refine nil _ ?_; simp only [sop, sNil]; repeat' split
                 all_goals rfl
 | binOp op' t x y yt =>
   refine nil _ ?_
   simp only [sop, sBinT]
   split
   · exact hbin _ _ _
   · split
     · split <;> rfl
     · split <;> rfl
     · split <;> rfl
     · split <;> rfl
     · split <;> rfl
     · split <;> rfl
     · exact hbin _ _ _
 | unOp op' t x =>
   refine nil _ ?_
   simp only [sop, sUn]
   split
   · rfl
   · exact hari _ _ _
   · rfl
   · rfl
 | convert s d x => exact sConvS_ups T get s d (ρ x) _ n
 | range t x => exact sRange_ups T t (ρ x) _ n
 | next x isS => exact sNext_ups get (ρ x) isS _ n (fun r hr => by simpa [fp] using hr)
 | makeSlice t l c =>
   simp only [sop, sMake] at hn ⊢
   split at hn
   · split at hn
     · split at hn
       · exact hn.elim
       · exact one _ _ rfl
     · exact hn.elim
   · exact hn.elim
 | slice t x lo hi mx => refine nil _ ?_; simp only [sop, sSlice]; repeat' split
                         all_goals rfl
 | fieldAddr t x f => refine nil _ ?_; simp only [sop, sFieldAddr]; repeat' split
                      all_goals rfl
 | field t x f => refine nil _ ?_; simp only [sop, sField]; repeat' split
                  all_goals rfl
 | indexAddr t x i => refine nil _ ?_; simp only [sop, sIndexAddr]; repeat' split
                      all_goals rfl
 | index t x i => refine nil _ ?_; simp only [sop, sIndex]; repeat' split
                  all_goals rfl
 | extract x i => refine nil _ ?_; simp only [sop, sExtract]; repeat' split
                  all_goals rfl
 | call c =>
   simp only [sop, sCallB] at hn ⊢
   split at hn
   · refine nil _ ?_
     repeat' split
     all_goals (try rfl)
     all_goals (simp only [sLen]; repeat' split)
     all_goals rfl
   · split at hn
     · rename_i x y t t' ea et
       have hF : ∀ r ∈ (ρ x).ref, r ∈ fp ρ (.call c) := fun r hr => by simp [fp, ea, hr]
       by_cases e : t = t'
       · rw [if_pos e]
         exact sAppend1_ups T get t (ρ x) (ρ y) _ n hF
       · rw [if_neg e]
         exact sAppendZ_ups T get t t' (ρ x) (ρ y) _ n
     · exact hn.elim
   · split at hn
     · exact sCap_ups T get _ _ _ n
     · exact hn.elim
   · split at hn
     · rename_i x y t t' ea et
       exact sCopy_ups T get t (ρ x) (ρ y) _ n (fun r hr => by simp [fp, ea, hr])
     · exact hn.elim
   · split at hn
     · rename_i x t ea et
       exact sClear_ups T get t (ρ x) _ n (fun r hr => by simp [fp, ea, hr])
     · exact hn.elim
   · refine nil _ ?_; simp only [sMin]; split <;> rfl
   · refine nil _ ?_; simp only [sMax]; split <;> rfl
   · exact hn.elim
 | makeFunc fn first cs =>
   cases fn with
   | func f =>
     simp only [sop] at hn ⊢
     split at hn
     · exact nil _ rfl
     · exact hn.elim
   | _ => exact hn.elim
 | makeMap t r =>
   cases r with
   | none => exact sMakeMap_ups T t _ n
   | some _ => exact hn.elim
 | lookup t x i ok => exact sLookup_ups T get t (ρ x) (ρ i) ok _ n
 | mapUpdate t x i v => exact sMapUpdate_ups T get t (ρ x) (ρ i) (ρ v) _ n (fun r hr => by simpa [fp] using hr)
 | _ => exact hn.elim
theorem sops_tr (hT : TOk P T) (hC : TClosed T = true) (all : Array Oper) (dr : Bool) (K : St → Prop) : ∀ (rest : List Oper) (acc : List (List Nat × List Nat)) (s : St), sops P T An' N all dr K rest acc s → ∃ rs s', Tr P all N rest s.tmF s.hpF s.nx rs s'.tmF s'.hpF s'.nx ∧ K s' ∧ (dr = true → okc all (acc.reverse ++ rs.map tag) = true)
  | [], acc, s, h => ⟨[], s, .nil _ _ _, h.2, by simpa using h.1⟩
  | o :: rest, acc, s, h => by
    obtain ⟨hd, h⟩ := h
    have hd' : ∀ k, o.dst = some k → k < N := by
      intro k hk
      unfold dstOk at hd
      rw [hk] at hd
      exact hd
    -- one operation that is carried out
    have hdo : ∀ s' : St, s'.tmF = s.tmF → s'.hpF = s.hpF → s'.nx = s.nx → guardIs all o s.tmF true → sDo P T An' o acc s' (sops P T An' N all dr K rest) →
        ∃ rs s2, Tr P all N (o :: rest) s.tmF s.hpF s.nx rs s2.tmF s2.hpF s2.nx ∧ K s2 ∧ (dr = true → okc all (acc.reverse ++ rs.map tag) = true) := by
      intro s' e1 e2 e3 hg hdo
      rw [← e1, ← e2, ← e3] at *
      have fin : ∀ (e : Ef), XLoc P o (evS s'.tmF) s'.hpF s'.nx e → (∀ u ∈ e.ups, u.1 ∈ e.fp ∨ (s'.nx ≤ u.1 ∧ u.1 < s'.nx + e.cost)) →
          sops P T An' N all dr K rest ((e.fp, e.ups.map (·.1)) :: acc) (s'.go o.dst e.val e.ups e.new) → ∃ rs s2, Tr P all N (o :: rest) s'.tmF s'.hpF s'.nx rs s2.tmF s2.hpF s2.nx ∧ K s2 ∧ (dr = true → okc all (acc.reverse ++ rs.map tag) = true) := by
        intro e hx hw hk
        obtain ⟨rs, s2, h1, h2, h3⟩ := sops_tr hT hC all dr K rest _ _ hk
        rw [tmF_put, hpF_go] at h1
        refine ⟨(o, e) :: rs, s2, .exec hg hd' hx hw h1, h2, fun hdr => ?_⟩
        have := h3 hdr
        simpa [tag] using this
      have finp : (sop T (evS s'.tmF) s'.hpF s'.nx o.op).need ∧ sops P T An' N all dr K rest ((fp (evS s'.tmF) o.op, (sop T (evS s'.tmF) s'.hpF s'.nx o.op).ups.map (·.1)) :: acc) (s'.go o.dst (sop T (evS s'.tmF) s'.hpF s'.nx o.op).val (sop T (evS s'.tmF) s'.hpF s'.nx o.op).ups (sop T (evS s'.tmF) s'.hpF s'.nx o.op).new) →
          ∃ rs s2, Tr P all N (o :: rest) s'.tmF s'.hpF s'.nx rs s2.tmF s2.hpF s2.nx ∧ K s2 ∧ (dr = true → okc all (acc.reverse ++ rs.map tag) = true) := by
        rintro ⟨hn, hk⟩
        exact fin _ (xloc_sop T hT hC o _ _ _ hn) (sop_ups T _ _ _ _ hn) hk
      unfold sDo at hdo
      split at hdo
      · rename_i c x y hop
        split at hdo
        · rename_i t ht
          have hs : sop T (evS s'.tmF) s'.hpF s'.nx o.op = ⟨True, if t = true then evS s'.tmF x else evS s'.tmF y, [], 0⟩ := by
            rw [hop]; simp only [sop, ht, sPick]
          have hfp : fp (evS s'.tmF) o.op = [] := by rw [hop]; rfl
          refine finp ⟨by rw [hs]; trivial, ?_⟩
          rw [hs, hfp]
          split at hdo
          · cases t with
            | true => exact hdo.1 rfl
            | false => exact hdo.2 rfl
          · exact hdo
        · exact hdo.elim
      · rename_i c hop
        split at hdo
        · rename_i x hx
          split at hdo
          · rename_i f caps hf
            obtain ⟨res, outs, g, h1, h2, h3⟩ := hdo
            refine fin ⟨res.ren (back _ s'.nx), gone g _ _ ++ outUpsFrom _ s'.nx 0 outs, outs.length - _, _ ++ snaps _ _⟩ (xloc_call hop hx hf h1 h2) ?_ h3
            intro u hu
            rcases List.mem_append.1 hu with hu | hu
            · cases g with
              | false => cases hu
              | true =>
                obtain ⟨r, hr, rfl⟩ := List.mem_map.1 hu
                exact .inl (List.mem_append.2 (.inr hr))
            have : u.1 ∈ (outUpsFrom (lendIds s'.hpF (An'.lend f) (c.args.toList.map (evS s'.tmF) ++ caps.map SV.one)) s'.nx 0 outs).map (·.1) := List.mem_map.2 ⟨u, hu, rfl⟩
            rw [outUps_ids] at this
            obtain ⟨i, hi, he⟩ := List.mem_map.1 this
            simp only [Nat.zero_add] at he
            rw [← he]
            unfold bk
            split
            · rename_i r hr
              exact .inl (List.mem_append.2 (.inl (List.mem_of_getElem? hr)))
            · rename_i hnone
              have hil : i < outs.length := by simpa using hi
              have hge : (lendIds s'.hpF (An'.lend f) (c.args.toList.map (evS s'.tmF) ++ caps.map SV.one)).length ≤ i := by
                rcases Nat.lt_or_ge i (lendIds s'.hpF (An'.lend f) (c.args.toList.map (evS s'.tmF) ++ caps.map SV.one)).length with hl | hl
                · rw [List.getElem?_eq_getElem hl] at hnone; cases hnone
                · exact hl
              right
              simp only [Ef.cost]
              omega
          · exact hdo.elim
        · exact finp hdo
      · exact finp hdo
    cases hgu : o.guard with
    | none =>
      rw [hgu] at h
      refine hdo s rfl rfl rfl ?_ h
      unfold guardIs; rw [hgu]
    | some jw =>
      obtain ⟨j, want⟩ := jw
      rw [hgu] at h
      simp only at h
      split at h
      · rename_i oj hoj
        split at h
        · rename_i d hdd
          split at h
          · -- no ways parted
            obtain ⟨cc, ⟨b0, t0, ht, hcc⟩, h⟩ := h
            · have hg : ∀ b, cc = b → guardIs all o s.tmF b := by
                intro b hb
                unfold guardIs; rw [hgu]
                refine ⟨oj, d, hoj, hdd, ?_⟩
                subst hb; subst hcc
                cases b0 with
                | true => exact .inl ⟨t0, ht, by simp⟩
                | false => exact .inr ⟨ht, by simp⟩
              have skipK : cc = false → ∀ v F, sops P T An' N all dr K rest ((gfp cc F, []) :: acc) (s.go o.dst (cnd cc v) [] 0) →
                  ∃ rs s2, Tr P all N (o :: rest) s.tmF s.hpF s.nx rs s2.tmF s2.hpF s2.nx ∧ K s2 ∧ (dr = true → okc all (acc.reverse ++ rs.map tag) = true) := by
                intro hb v F hk
                obtain ⟨rs, s2, h1, h2, h3⟩ := sops_tr hT hC all dr K rest _ _ hk
                rw [tmF_put, hpF_go, hb] at h1
                simp only [St.go] at h1
                refine ⟨(o, ⟨ud, [], 0, []⟩) :: rs, s2, .skip (hg _ hb) hd' (by simpa [cnd, upds, St.go] using h1), h2, fun hdr => ?_⟩
                have := h3 hdr
                simpa [tag, gfp, hb] using this
              have doK : cc = true → ∀ (v : SV) (F : List Nat), XLoc P o (evS s.tmF) s.hpF s.nx ⟨v, [], 0, F⟩ → sops P T An' N all dr K rest ((gfp cc F, []) :: acc) (s.go o.dst (cnd cc v) [] 0) →
                  ∃ rs s2, Tr P all N (o :: rest) s.tmF s.hpF s.nx rs s2.tmF s2.hpF s2.nx ∧ K s2 ∧ (dr = true → okc all (acc.reverse ++ rs.map tag) = true) := by
                intro hb v F hx hk
                obtain ⟨rs, s2, h1, h2, h3⟩ := sops_tr hT hC all dr K rest _ _ hk
                rw [tmF_put, hpF_go, hb] at h1
                simp only [St.go] at h1
                refine ⟨(o, ⟨v, [], 0, F⟩) :: rs, s2, .exec (hg _ hb) hd' hx (by simp) (by simpa [cnd, upds, Ef.cost, St.go] using h1), h2, fun hdr => ?_⟩
                have := h3 hdr
                simpa [tag, gfp, hb] using this
              unfold gDo at h
              split at h
              · rename_i x args hop
                split at h
                · rename_i f caps hf
                  obtain ⟨res, h1, h2⟩ := h
                  cases hb : cc with
                  | false => exact skipK hb _ _ h2
                  | true =>
                    obtain ⟨k1, k2, k3⟩ := h1 hb
                    unfold isCall at hop
                    split at hop
                    · rename_i c hc
                      split at hop
                      · rename_i x' hx'
                        obtain ⟨rfl, rfl⟩ := Prod.mk.inj (Option.some.inj hop)
                        have hxl := xloc_call (n := s.nx) hc hx' hf k1 k2.d
                        rw [k3] at hxl
                        exact doK hb _ _ hxl h2
                      · cases hop
                    · cases hop
                · obtain ⟨hb, h2⟩ := h
                  exact skipK hb _ _ h2
              · obtain ⟨h1, h2⟩ := h
                cases hb : cc with
                | false => exact skipK hb _ _ h2
                | true =>
                  obtain ⟨k1, k2, k3⟩ := h1 hb
                  have hx := xloc_sop T hT hC o _ _ _ k1
                  rw [k2, k3] at hx
                  exact doK hb _ _ hx h2
          · split at h
            · rename_i t ht
              by_cases e : t = want
              · subst e
                refine hdo (s.ref d t) (tmF_ref s d t ht) rfl rfl ?_ (h.1 rfl)
                unfold guardIs; rw [hgu]
                exact ⟨oj, d, hoj, hdd, .inl ⟨t, ht, by simp⟩⟩
              · have e' : t = !want := by cases t <;> cases want <;> simp_all
                subst e'
                obtain ⟨rs, s2, h1, h2, h3⟩ := sops_tr hT hC all dr K rest _ _ (h.2 rfl)
                rw [tmF_put, hpF_go, tmF_ref s d _ ht] at h1
                refine ⟨(o, ⟨ud, [], 0, []⟩) :: rs, s2, .skip ?_ hd' h1, h2, fun hdr => ?_⟩
                · unfold guardIs; rw [hgu]
                  exact ⟨oj, d, hoj, hdd, .inl ⟨_, ht, by cases want <;> rfl⟩⟩
                · have := h3 hdr
                  simpa [tag] using this
            · exact h.elim
        · exact h.elim
      · exact h.elim
theorem sops_wp (hm : P.follows .mixedOrders = true) (hT : TOk P T) (hC : TClosed T = true) {id : Nat} {all : Array Oper} {dr : Bool} {Q : Exit → St → Prop} {s : St} {a : Act} {w : World} {m : Mem} {π : Plc} (hE : dr = true → edgeOk all = true) (h : sops P T An' N all dr (Q .normal) all.toList [] s) (hr : RelAt P w0 A N (s.nx ≤ ·) s.tmF s.hpF a w m π) : (Code.region id all dr).wp P (lift P w0 A N Q) a w := by
 obtain ⟨rs, s', h1, h2, h3⟩ := sops_tr hT hC all dr (Q .normal) _ _ _ h
 cases dr with
 | false => exact wp_region_seq h1 (fun a' w' m' π' hr' => ⟨s', m', π', hr', h2⟩) hr
 | true => exact wp_region_drawn hm h1 (hE rfl) (by simpa using h3 rfl) (fun a' w' m' π' hr' => ⟨s', m', π', hr', h2⟩) hr
theorem swp_ok (hk : w0.k = An'.k) (hm : P.follows .mixedOrders = true) (hT : TOk P T) (hC : TClosed T = true) : ∀ (c : Code) (Q : Exit → St → Prop) (s : St) (a : Act) (w : World) (m : Mem) (π : Plc), swp P T An' N c Q s → RelAt P w0 A N (s.nx ≤ ·) s.tmF s.hpF a w m π → c.wp P (lift P w0 A N Q) a w := by
 intro c
 induction c with
 | skip => exact fun Q s a w m π h hr => wp_skip ⟨s, m, π, hr, h⟩
 | exit id => exact fun Q s a w m π h hr => wp_exit ⟨s, m, π, hr, h⟩
 | ret => exact fun Q s a w m π h hr => wp_ret ⟨s, m, π, hr, h⟩
 | region id ops dr =>
   intro Q s a w m π h hr
   unfold swp at h
   split at h
   · exact sops_wp hm hT hC h.1 h.2 hr
   · obtain ⟨t, h0, h1, h2⟩ := h
     obtain ⟨m', π', hr'⟩ := h0 _ _ _ _ _ _ _ _ hk hr
     exact sops_wp hm hT hC h1 h2 hr'
 | seq x y ihx ihy =>
   intro Q s a w m π h hr
   refine wp_seq (wp_mono (ihx _ s a w m π h hr) ?_)
   rintro e a' w' ⟨s', m', π', h1, h2⟩
   cases e with
   | normal => exact ihy Q s' a' w' m' π' h2 h1
   | exit i => exact ⟨s', m', π', h1, h2⟩
   | ret => exact ⟨s', m', π', h1, h2⟩
   | goto l => exact h2.elim
   | panic ch => exact h2.elim
   | outgrown => exact h2.elim
 | cond c x y ihx ihy =>
   intro Q s a w m π h hr
   unfold swp at h
   split at h
   · rename_i t ht
     have hev := (evS_ok hr c).1
     rw [ht] at hev
     have hct := (vs_sc hev).1
     split at h
     · refine wp_cond_split hct (fun e => ihx Q s a w m π (h.1 e) hr) (fun e => ihy Q s a w m π (h.2 e) hr)
     · obtain ⟨J, h1, h2⟩ := h
       have hkk : ∀ e a' w', lift P w0 A N (thenK (impK An'.k J) Q) e a' w' → lift P w0 A N Q e a' w' := by
         rintro e a' w' ⟨s', m', π', k1, k2⟩
         cases e with
         | normal =>
           obtain ⟨u, k3, k4⟩ := k2
           obtain ⟨m2, π2, k5⟩ := k3 _ _ _ _ _ _ _ _ hk k1
           exact ⟨u, m2, π2, k5, h2 u k4⟩
         | exit i => exact ⟨s', m', π', k1, k2⟩
         | ret => exact ⟨s', m', π', k1, k2⟩
         | goto l => exact k2.elim
         | panic ch => exact k2.elim
         | outgrown => exact k2.elim
       refine wp_cond_split hct (fun e => wp_mono (ihx _ s a w m π (h1.1 e) hr) hkk) (fun e => wp_mono (ihy _ s a w m π (h1.2 e) hr) hkk)
   · exact h.elim
 | block id b ih =>
   intro Q s a w m π h hr
   refine wp_block (wp_mono (ih _ s a w m π h hr) ?_)
   rintro e a' w' ⟨s', m', π', h1, h2⟩
   cases e with
   | normal => exact ⟨s', m', π', h1, h2⟩
   | exit i =>
     simp only [Exit.inBlock, blockK] at h2 ⊢
     split
     · rename_i e; rw [if_pos e] at h2; exact ⟨s', m', π', h1, h2⟩
     · rename_i e; rw [if_neg e] at h2; exact ⟨s', m', π', h1, h2⟩
   | ret => exact ⟨s', m', π', h1, h2⟩
   | goto l => exact h2.elim
   | panic ch => exact h2.elim
   | outgrown => exact h2.elim
 | loop b ih =>
   intro Q s a w m π h hr
   obtain ⟨ι, st, inv, μ, ⟨x, h1, h2⟩, h3⟩ := h
   obtain ⟨m', π', h4⟩ := h1 _ _ _ _ _ _ _ _ hk hr
   have key : ∀ (n : Nat) (x : ι) (a : Act) (w : World) (m : Mem) (π : Plc), μ x = n → inv x → RelAt P w0 A N ((st x).nx ≤ ·) (st x).tmF (st x).hpF a w m π →
       ∀ (bf : Frame) (k : List Item) (cs : List Frame), ∃ e a' w', lift P w0 A N Q e a' w' ∧ Arrives P (lone (bf.at a (.code b :: .inLoop b :: k)) cs w) bf k cs e a' w' := by
     intro n
     induction n using Nat.strongRecOn with
     | _ n ihn =>
       intro x a w m π hn hIt hrt bf k cs
       obtain ⟨e, a1, w1, ⟨s1, m1, π1, k1, k2⟩, harr⟩ := ih (loopK An'.k st inv μ x Q) (st x) a w m π (h3 x hIt) hrt bf (.inLoop b :: k) cs
       cases e with
       | normal =>
         obtain ⟨t', k3, k4, k5⟩ := k2
         obtain ⟨m2, π2, k6⟩ := k3 _ _ _ _ _ _ _ _ hk k1
         obtain ⟨e2, a2, w2, hq2, harr2⟩ := ihn (μ t') (by omega) t' a1 w1 m2 π2 rfl k4 k6 bf k cs
         exact ⟨e2, a2, w2, hq2, .of_steps (Steps.trans harr (.one step_inLoop)) harr2⟩
       | exit i => exact ⟨_, a1, w1, ⟨s1, m1, π1, k1, k2⟩, .pass (x := .inLoop b) rfl (fun _ _ => .inl (by simp)) harr⟩
       | ret => exact ⟨_, a1, w1, ⟨s1, m1, π1, k1, k2⟩, .pass (x := .inLoop b) rfl (fun _ _ => .inl (by simp)) harr⟩
       | goto l => exact k2.elim
       | panic ch => exact k2.elim
       | outgrown => exact k2.elim
   intro bf k cs
   obtain ⟨e, a', w', hq, harr⟩ := key _ x a w m' π' rfl h2 h4 bf k cs
   exact ⟨e, a', w', hq, .of_steps (.one step_loop) harr⟩
 | _ => exact fun Q s a w m π h hr => h.elim
end
end Go.Proofs.YtnahpejlhfeleabGreat.Sh
namespace Go.Proofs.YtnahpejlhfeleabGreat.Sh
open Go.RowKit
def argsTm : Nat → List SV → List (Nat × SV)
  | _, [] => []
  | i, x :: l => (i, x) :: argsTm (i + 1) l
def rowsHp : Nat → List Row → List (Nat × Option Row)
  | _, [] => []
  | i, x :: l => (i, some x) :: rowsHp (i + 1) l
def resV (T : Tab) (s : St) : List ResultVar → Prop × List SV
  | [] => (True, [])
  | .tmp t :: r => ((resV T s r).1, (evS s.tmF (.tmp t)) :: (resV T s r).2)
  | .cell a t :: r => ((sLoad T s.hpF t (evS s.tmF (.tmp a))).need ∧ (resV T s r).1, (sLoad T s.hpF t (evS s.tmF (.tmp a))).val :: (resV T s r).2)
def resS : List SV → SV
  | [x] => x
  | l => .tup l
def FinS (T : Tab) (rs : List ResultVar) (k : Nat) (res : SV) (outs : List (Option Row)) (s : St) : Prop :=
  ∃ σ : List Nat, σ.Nodup ∧ (∀ j, j < k → σ[j]? = some j) ∧ (resV T s rs).1 ∧ (resS (resV T s rs).2).ren (fun q => idx q σ) = res ∧ σ.map (fun r => renO (fun q => idx q σ) (s.hpF r)) = outs ∧
    ∀ r ∈ σ, ∀ row, s.hpF r = some row → ∀ c ∈ row.cells, ∀ q ∈ c.refs, q ∈ σ
def SVW (x y : SV) : Prop := (∀ (m : Mem) (π : Plc) (v : Value), VS m π x v → VS m π y v) ∧ ∀ (Fr : Nat → Prop), x.cl Fr → y.cl Fr
theorem SVW.refl (x : SV) : SVW x x := ⟨fun _ _ _ h => h, fun _ h => h⟩
def FinI (T : Tab) (rs : List ResultVar) (k : Nat) (res : SV) (outs : List (Option Row)) (s : St) : Prop := ∃ t res0, Imp k s t ∧ FinS T rs k res0 outs t ∧ SVW res0 res
def FinX (T : Tab) (rs : List ResultVar) (k : Nat) (res : SV) (outs : List (Option Row)) : Exit → St → Prop
  | .normal, s => FinI T rs k res outs s
  | .ret, s => FinI T rs k res outs s
  | _, _ => False
theorem slot_argsTm : ∀ (l : List SV) (i k : Nat), slot k (argsTm i l) = if i ≤ k then l[k - i]? else none
  | [], i, k => by simp [argsTm, slot]
  | x :: l, i, k => by
    unfold argsTm slot
    by_cases e : i = k
    · subst e; simp
    · rw [if_neg e, slot_argsTm l (i + 1) k]
      by_cases h : i + 1 ≤ k
      · rw [if_pos h, if_pos (by omega), show k - i = (k - (i + 1)) + 1 by omega]; simp
      · rw [if_neg h, if_neg (by omega)]
theorem lookR_rowsHp : ∀ (l : List Row) (i k : Nat), lookR k (rowsHp i l) = if i ≤ k then l[k - i]? else none
  | [], i, k => by simp [rowsHp, lookR]
  | x :: l, i, k => by
    unfold rowsHp lookR
    by_cases e : i = k
    · subst e; simp
    · rw [if_neg e, lookR_rowsHp l (i + 1) k]
      by_cases h : i + 1 ≤ k
      · rw [if_pos h, if_pos (by omega), show k - i = (k - (i + 1)) + 1 by omega]; simp
      · rw [if_neg h, if_neg (by omega)]
def resF (tmps : Array Value) : ResultVar → Sem Value
  | .tmp t => pure (tmps.getD t undef)
  | .cell x t => do loadVar t (← asAddr (tmps.getD x undef))
theorem results_eq (fn : Func) (tmps : Array Value) : results fn tmps = (do
    let vs ← fn.results.mapM (resF tmps)
    pure (if h : vs.size = 1 then vs[0] else .tuple vs)) := by
  unfold results
  congr 1
section
variable {P : Program} {T : Tab} {An' : An} {w0 : Base} {A : Nat → Prop} {N : Nat} {Fr : Nat → Prop} {tm : Nat → Option SV} {hp : Nat → Option Row} {a : Act} {w : World} {m : Mem} {π : Plc}
theorem load_val (hT : TOk P T) (h : RelAt P w0 A N Fr tm hp a w m π) {t : Nat} {p : SV} {u : Value} (hp' : VS m π p u) (hn : (sLoad T hp t p).need) :
    ∃ v, (do loadVar t (← asAddr u)).run P w = .ok v w ∧ VS m π (sLoad T hp t p).val v ∧ (sLoad T hp t p).val.cl Fr := by
  unfold sLoad at hn ⊢
  cases hl : slot t T.ts with
  | none => rw [hl] at hn; exact hn.elim
  | some ti =>
    rw [hl] at hn
    have hti := hT t ti hl
    cases p with
    | agg cs => exact hn.elim
    | tup vs => exact hn.elim
    | one c =>
      cases c with
      | sc u => exact hn.elim
      | gsl a b c d => exact hn.elim
      | fn f caps => exact hn.elim
      | un => exact hn.elim
      | mp _ _ => exact hn.elim
      | osl a b c d => exact hn.elim
      | optr r off =>
        simp only at hn ⊢
        cases hr : hp r with
        | none => rw [hr] at hn; exact hn.elim
        | some row =>
          rw [hr] at hn
          simp only at hn ⊢
          have hrow := h.rows r row hr
          unfold RowOk at hrow
          obtain ⟨h1, h2⟩ := hp'
          cases hπ : π r with
          | none => rw [hπ] at hrow; exact hrow.elim
          | some q =>
            rw [hπ] at h2
            cases q with
            | none => exact h2.elim
            | some pl =>
              simp only at h2
              obtain ⟨v, hv1, hv2, hv3⟩ := read_ok (P := P) hti row.cells pl.b pl.o off (h.rcl r row hr) (rowcells h hr hπ h2.1) hn
              exact ⟨v, by rw [h2.2]; simp only [asAddr, Sem.run_bind, Sem.run_pure, Result.andThen_ok, hv1], hv2, hv3⟩
      | gptr cs off =>
        simp only at hn ⊢
        cases hp' with
        | gptr _ _ b o vals hm hv =>
          obtain ⟨g1, g2⟩ := vg_ptr_cells h hm hv
          obtain ⟨v, hv1, hv2, hv3⟩ := read_ok (P := P) hti cs b o off g2 g1 hn
          exact ⟨v, by simp only [asAddr, Sem.run_bind, Sem.run_pure, Result.andThen_ok, hv1], hv2, hv3⟩
theorem results_ok (hT : TOk P T) {s : St} (h : RelAt P w0 A N Fr s.tmF s.hpF a w m π) : ∀ (rs : List ResultVar), (resV T s rs).1 → ∃ vs : List Value, (rs.mapM (resF a.tmps)).run P w = .ok vs w ∧ VSL m π (resV T s rs).2 vs ∧ SV.clL Fr (resV T s rs).2
  | [], _ => ⟨[], rfl, trivial, trivial⟩
  | .tmp t :: rs, hn => by
    obtain ⟨vs, h1, h2, h3⟩ := results_ok hT h rs hn
    have hev := evS_ok h (.tmp t)
    refine ⟨a.tmps.getD t undef :: vs, ?_, ⟨hev.1, h2⟩, hev.2, h3⟩
    rw [List.mapM_cons]
    simp only [resF, Sem.run_bind, Sem.run_pure, Result.andThen_ok, h1]
  | .cell x t :: rs, hn => by
    obtain ⟨vs, h1, h2, h3⟩ := results_ok hT h rs hn.2
    have hev := evS_ok h (.tmp x)
    obtain ⟨v, k1, k2, k3⟩ := load_val hT h (u := a.tmps.getD x undef) hev.1 hn.1
    refine ⟨v :: vs, ?_, ⟨k2, h2⟩, k3, h3⟩
    rw [List.mapM_cons]
    have k1' : (resF a.tmps (.cell x t)).run P w = .ok v w := k1
    simp only [Sem.run_bind, Sem.run_pure, Result.andThen_ok, k1', h1]
theorem resS_ok {fn : Func} {vs : List Value} (hrun : (fn.results.toList.mapM (resF a.tmps)).run P w = .ok vs w) {ss : List SV} (hv : VSL m π ss vs) (hc : SV.clL Fr ss) : ∃ v, (results fn a.tmps).run P w = .ok v w ∧ VS m π (resS ss) v ∧ (resS ss).cl Fr := by
 have hl := hv.length
 have hm : (fn.results.mapM (resF a.tmps)).run P w = .ok vs.toArray w := by
   rw [Array.mapM_eq_mapM_toList]
   simp only [Sem.run_map, hrun, Result.andThen_ok]
 have hres : (results fn a.tmps).run P w = .ok (if h : vs.toArray.size = 1 then vs.toArray[0] else .tuple vs.toArray) w := by
   rw [results_eq]
   simp only [Sem.run_bind]
   rw [hm]
   rfl
 clear hrun hm
 cases ss with
 | nil =>
   cases vs with
   | nil => exact ⟨.tuple #[], by rw [hres]; rfl, ⟨#[], rfl, trivial⟩, trivial⟩
   | cons v vs => simp at hl
 | cons s1 ss =>
   cases vs with
   | nil => simp at hl
   | cons v1 vs =>
     cases ss with
     | nil =>
       cases vs with
       | nil => exact ⟨v1, by rw [hres]; simp, hv.1, hc.1⟩
       | cons v vs => simp at hl
     | cons s2 ss =>
       cases vs with
       | nil => simp at hl
       | cons v2 vs =>
         refine ⟨.tuple (v1 :: v2 :: vs).toArray, ?_, ⟨_, rfl, hv⟩, hc⟩
         rw [hres]; simp
mutual
theorem clS_all {ρ : Nat → Option Nat} {Fr : Nat → Prop} (h : ∀ c : Cell, (c.ren ρ).cl Fr) : ∀ (s : SV), (s.ren ρ).cl Fr
  | .one c => h c
  | .agg cs => fun c hc => by
    obtain ⟨c0, _, rfl⟩ := List.mem_map.1 hc
    exact h c0
  | .tup vs => clL_all h vs
theorem clL_all {ρ : Nat → Option Nat} {Fr : Nat → Prop} (h : ∀ c : Cell, (c.ren ρ).cl Fr) : ∀ (ss : List SV), SV.clL Fr (SV.renL ρ ss)
  | [] => trivial
  | s :: ss => ⟨clS_all h s, clL_all h ss⟩
end
theorem fnspec_of (hm : P.follows .mixedOrders = true) (hT : TOk P T) (hC : TClosed T = true) (An' : An) {f : FuncId} {fn : Func} {c : Code} (hf : P.funcs[f]? = some fn) (hb : fn.body = some c) (hname : (fn.name == "runtime.NumGoroutine") = false) {args : List SV} {rows : List Row} {res : SV} {outs : List (Option Row)} (hk : An'.k = rows.length) (N : Nat) (hN : args.length + (fn.ntmps - args.length) = N) (rs : List ResultVar) (hrs : fn.results.toList = rs) (h : swp P T An' N c (FinX T rs rows.length res outs) ⟨argsTm 0 args, rowsHp 0 rows, rows.length⟩) : FnSpec P f args rows res outs := by
 subst hN; subst hrs
 refine ⟨⟨fn, hf, hname, by rw [hb]; rfl⟩, fun w vals m π A hA hrel hargs hcl => ?_⟩
 have hvl : vals.size = args.length := by have := hargs.length; simpa using this
 refine calls_of_wp hf hb ?_
 have hstart : RelAt P (base w m π rows.length A) A (args.length + (fn.ntmps - args.length)) (rows.length ≤ ·) (St.tmF ⟨argsTm 0 args, rowsHp 0 rows, rows.length⟩) (St.hpF ⟨argsTm 0 args, rowsHp 0 rows, rows.length⟩) { tmps := vals ++ Array.replicate (fn.ntmps - vals.size) undef, defers := [] } w m π := by
   have ehp : St.hpF ⟨argsTm 0 args, rowsHp 0 rows, rows.length⟩ = hpL (rows.map some) := by
     funext r
     simp only [St.hpF, lookR_rowsHp, hpL, List.getElem?_map, zat, ↓reduceIte, Nat.sub_zero]
     cases rows[r]? <;> rfl
   rw [ehp]
   refine { hrel with defers := rfl, size := by simp [hvl], tms := fun k v hk => ?_, tcl := fun k v hk => ?_ }
   · simp only [St.tmF, slot_argsTm, zat, ↓reduceIte, Nat.sub_zero] at hk
     obtain ⟨x, h1, h2⟩ := hargs.get k v hk
     have hlt : k < vals.size := by have := (List.getElem?_eq_some_iff.1 hk).1; omega
     have h1' : vals[k] = x := by
       simp [hlt] at h1; exact h1
     have : (vals ++ Array.replicate (fn.ntmps - vals.size) undef).getD k undef = x := by
       rw [Array.getD_eq_getD_getElem?, Array.getElem?_append_left hlt, Array.getElem?_eq_getElem hlt, h1']; rfl
     rw [this]; exact h2
   · simp only [St.tmF, slot_argsTm, zat, ↓reduceIte, Nat.sub_zero] at hk
     have : ∀ (l : List SV) (i : Nat) s, l[i]? = some s → SV.clL (rows.length ≤ ·) l → s.cl (rows.length ≤ ·) := by
       intro l
       induction l with
       | nil => intro i s hi; cases hi
       | cons y l ih =>
         intro i s hi hc
         cases i with
         | zero => simp at hi; exact hi ▸ hc.1
         | succ i => exact ih i s (by simpa using hi) hc.2
     exact this args k v hk hcl
 refine wp_mono (swp_ok hk.symm hm hT hC c _ _ _ w m π h hstart) ?_
 rintro e a' w' ⟨s', m', π', h1, h2⟩
 have hfin : FinI T fn.results.toList rows.length res outs s' → a'.defers = [] ∧ ∃ v, (results fn a'.tmps).run P w' = .ok v w' ∧ ∃ v' m' π', Ending.returned v = .returned v' ∧ RelAt P (base w m π rows.length A) A 0 (outs.length ≤ ·) (fun _ => none) (hpL outs) ⟨#[], []⟩ w' m' π' ∧ VS m' π' res v' ∧ res.cl (outs.length ≤ ·) := by
   rintro ⟨s', res0, ht, ⟨σ, q1, q2, q3, q4, q5, q6⟩, hwk⟩
   obtain ⟨m', π', h1⟩ := ht _ _ _ _ _ _ _ _ rfl h1
   suffices hsuf : a'.defers = [] ∧ ∃ v, (results fn a'.tmps).run P w' = .ok v w' ∧ ∃ v' m' π', Ending.returned v = .returned v' ∧ RelAt P (base w m π rows.length A) A 0 (outs.length ≤ ·) (fun _ => none) (hpL outs) ⟨#[], []⟩ w' m' π' ∧ VS m' π' res0 v' ∧ res0.cl (outs.length ≤ ·) by
     obtain ⟨x1, v, x2, v', m2, π2, x3, x4, x5, x6⟩ := hsuf
     exact ⟨x1, v, x2, v', m2, π2, x3, x4, hwk.1 _ _ _ x5, hwk.2 _ x6⟩
   clear hwk
   refine ⟨h1.defers, ?_⟩
   obtain ⟨vs, k1, k2, k3⟩ := results_ok hT h1 fn.results.toList q3
   obtain ⟨v, k4, k5, k6⟩ := resS_ok k1 k2 k3
   obtain ⟨πo, hπo⟩ : ∃ πo : Plc, πo = fun j => match σ[j]? with | some r => π' r | none => none := ⟨_, rfl⟩
   have hidx : ∀ q ∈ σ, ∃ j, idx q σ = some j ∧ πo j = π' q := by
     intro q hq
     cases hi : idx q σ with
     | some j => exact ⟨j, rfl, by rw [hπo]; simp only [idx_some hi]⟩
     | none => exact absurd hq (idx_none hi)
   have hren : ∀ c u, VC m' π' c u → VC m' πo (c.ren (fun q => idx q σ)) u := by
     intro c u hcu
     cases c with
     | osl r off len cap =>
       simp only [Cell.ren]
       cases hi : idx r σ with
       | none => trivial
       | some j =>
         have hj : πo j = π' r := by rw [hπo]; simp only [idx_some hi]
         exact ⟨hcu.1, by rw [hj]; exact hcu.2⟩
     | optr r off =>
       simp only [Cell.ren]
       cases hi : idx r σ with
       | none => trivial
       | some j =>
         have hj : πo j = π' r := by rw [hπo]; simp only [idx_some hi]
         exact ⟨hcu.1, by rw [hj]; exact hcu.2⟩
     | mp r kk =>
       simp only [Cell.ren]
       cases hi : idx r σ with
       | none => trivial
       | some j =>
         have hj : πo j = π' r := by rw [hπo]; simp only [idx_some hi]
         exact ⟨hcu.1, by rw [hj]; exact hcu.2⟩
     | _ => exact hcu
   have hlen : outs.length = σ.length := by rw [← q5]; simp
   have hclr : ∀ c : Cell, (c.ren (fun q => idx q σ)).cl (outs.length ≤ ·) := by
     intro c
     cases c with
     | osl r off len cap =>
       simp only [Cell.ren]
       cases hi : idx r σ with
       | none => trivial
       | some j =>
         have := (List.getElem?_eq_some_iff.1 (idx_some hi)).1
         show ¬ _
         omega
     | optr r off =>
       simp only [Cell.ren]
       cases hi : idx r σ with
       | none => trivial
       | some j =>
         have := (List.getElem?_eq_some_iff.1 (idx_some hi)).1
         show ¬ _
         omega
     | mp r kk =>
       simp only [Cell.ren]
       cases hi : idx r σ with
       | none => trivial
       | some j =>
         have := (List.getElem?_eq_some_iff.1 (idx_some hi)).1
         show ¬ _
         omega
     | _ => trivial
   have hout : ∀ j, hpL outs j = match σ[j]? with | some r => renO (fun q => idx q σ) (s'.hpF r) | none => none := by
     intro j
     rw [← q5]
     unfold hpL
     rw [List.getElem?_map]
     cases σ[j]? <;> rfl
   refine ⟨v, k4, v, m', πo, rfl, ?_, ?_, ?_⟩
   · refine ⟨rfl, rfl, fun k v hk => (by cases hk), fun k v hk => (by cases hk), ?_, ?_, ?_, ?_, ?_, ?_, h1.mok, ?_, h1.new, h1.keep, h1.mg, h1.gnew, ?_, ?_, hrel.gl⟩
     · intro j row hj
       rw [hout j] at hj
       cases hs : σ[j]? with
       | none => rw [hs] at hj; cases hj
       | some r =>
         rw [hs] at hj
         simp only at hj
         cases hr : s'.hpF r with
         | none => rw [hr] at hj; cases hj
         | some row0 =>
           rw [hr] at hj
           simp only [renO, Option.some.injEq] at hj
           subst hj
           have hro := h1.rows r row0 hr
           unfold RowOk at hro ⊢
           have hpo : πo j = π' r := by rw [hπo]; simp only [hs]
           rw [hpo]
           cases hq : π' r with
           | none => rw [hq] at hro; exact hro.elim
           | some q =>
             rw [hq] at hro
             cases q with
             | none => simp only at hro ⊢; simp [Row.ren, hro]
             | some p =>
               obtain ⟨g1, g2, arr, ee, g3, g4, g5, g6⟩ := hro
               refine ⟨g1, g2, arr, ee, g3, g4, ⟨fun hz => by simpa [Row.ren] using g5.1 hz, fun hz => by simpa [Row.ren] using g5.2 hz⟩, fun i c hi => ?_⟩
               simp only [Row.ren, List.getElem?_map, zap] at hi
               obtain ⟨c0, hc0, rfl⟩ := hi
               obtain ⟨x, r1, r2⟩ := g6 i c0 hc0
               exact ⟨x, r1, hren c0 x r2⟩
     · intro j row hj c hc
       rw [hout j] at hj
       cases hs : σ[j]? with
       | none => rw [hs] at hj; cases hj
       | some r =>
         rw [hs] at hj
         simp only at hj
         cases hr : s'.hpF r with
         | none => rw [hr] at hj; cases hj
         | some row0 =>
           rw [hr] at hj
           simp only [renO, Option.some.injEq] at hj
           subst hj
           obtain ⟨c0, hc0, rfl⟩ := List.mem_map.1 hc
           exact hclr c0
     · intro j row hj c hc
       rw [hout j] at hj
       cases hs : σ[j]? with
       | none => rw [hs] at hj; cases hj
       | some r =>
         rw [hs] at hj
         simp only at hj
         cases hr : s'.hpF r with
         | none => rw [hr] at hj; cases hj
         | some row0 =>
           rw [hr] at hj
           simp only [renO, Option.some.injEq] at hj
           subst hj
           obtain ⟨c0, hc0, rfl⟩ := List.mem_map.1 hc
           have hin := q6 r (List.mem_of_getElem? hs) row0 hr c0 hc0
           have hso := h1.rsol r row0 hr c0 hc0
           cases c0 with
           | osl r' _ _ _ =>
             obtain ⟨j', hj', _⟩ := hidx r' (hin r' (by simp [Cell.refs]))
             simp only [Cell.ren, hj']; exact fun hh => by cases hh
           | optr r' _ =>
             obtain ⟨j', hj', _⟩ := hidx r' (hin r' (by simp [Cell.refs]))
             simp only [Cell.ren, hj']; exact fun hh => by cases hh
           | mp r' kk =>
             obtain ⟨j', hj', _⟩ := hidx r' (hin r' (by simp [Cell.refs]))
             simp only [Cell.ren, hj']; exact fun hh => by cases hh
           | _ => exact hso
     · intro j hj
       rw [hout j] at hj
       cases hs : σ[j]? with
       | none => rw [hπo]; simp only [hs]
       | some r =>
         rw [hs] at hj
         simp only at hj
         cases hr : s'.hpF r with
         | none => rw [hπo]; simp only [hs]; exact h1.live r hr
         | some row0 => rw [hr] at hj; cases hj
     · intro j hj
       unfold hpL
       rw [List.getElem?_eq_none hj]
     · intro j j' p p' e1 e2 e3
       rw [hπo] at e1 e2
       cases hs : σ[j]? with
       | none => simp only [hs] at e1; cases e1
       | some r =>
         cases hs' : σ[j']? with
         | none => simp only [hs'] at e2; cases e2
         | some r' =>
           simp only [hs] at e1
           simp only [hs'] at e2
           have := h1.inj r r' p p' e1 e2 e3
           subst this
           have z1 := idx_of q1 hs
           have z2 := idx_of q1 hs'
           rw [z1] at z2; cases z2; rfl
     · intro j p ad u e1 hu
       rw [hπo] at e1
       cases hs : σ[j]? with
       | none => simp only [hs] at e1; cases e1
       | some r =>
         simp only [hs] at e1
         exact h1.dis r p ad u e1 hu
     · intro r hr
       have hs := q2 r hr
       have hpo : πo r = π' r := by rw [hπo]; simp only [hs]
       rw [hpo]
       exact h1.org r hr
     · intro r hr
       have hk : rows.length ≤ σ.length := by
         rcases Nat.lt_or_ge σ.length rows.length with hl | hl
         · have := q2 σ.length hl
           simp at this
         · exact hl
       show rows.length ≤ r
       omega
   · rw [← q4]
     exact vs_map (C := fun _ => True) (fun c u _ hcu => hren c u hcu) (allC_true _) k5
   · rw [← q4]
     exact clS_all hclr _
 cases e with
 | normal => exact hfin h2
 | ret => exact hfin h2
 | exit i => exact h2.elim
 | goto l => exact h2.elim
 | panic ch => exact h2.elim
 | outgrown => exact h2.elim
end
end Go.Proofs.YtnahpejlhfeleabGreat.Sh
namespace Go.Proofs.YtnahpejlhfeleabGreat.Sh
open Go.RowKit
def toN (M : List (Nat × Nat)) (r : Nat) : Option Nat := match M with
  | [] => none
  | (j, q) :: l => if q = r then some j else toN l r
def lk (s : St) (M : List (Nat × Nat)) (k : Nat) : Option SV := match slot k s.tm with
  | some u => some (u.ren (toN M))
  | none => none
theorem toN_mem {r j : Nat} : ∀ {M : List (Nat × Nat)}, toN M r = some j → (j, r) ∈ M
  | [], h => by cases h
  | (j', q) :: l, h => by
    unfold toN at h
    split at h
    · rename_i e; subst e; cases h; simp
    · exact zam _ (toN_mem h)
theorem toN_of {r j : Nat} : ∀ {M : List (Nat × Nat)}, (M.map (·.2)).Nodup → (j, r) ∈ M → toN M r = some j
  | [], _, h => by simp at h
  | (j', q) :: l, hn, h => by
    simp at hn
    unfold toN
    rcases List.mem_cons.1 h with e | e
    · cases e; simp
    · have : q ≠ r := fun e2 => by subst e2; exact hn.1 j e
      rw [if_neg this]
      exact toN_of (by simpa using hn.2) e
theorem slot_of {r j : Nat} : ∀ {M : List (Nat × Nat)}, (M.map (·.1)).Nodup → (j, r) ∈ M → slot j M = some r
  | [], _, h => by simp at h
  | (j', q) :: l, hn, h => by
    simp at hn
    unfold slot
    rcases List.mem_cons.1 h with e | e
    · cases e; simp
    · have : j' ≠ j := fun e2 => by subst e2; exact hn.1 r e
      rw [if_neg this]
      exact slot_of (by simpa using hn.2) e
theorem lookR_map (M : List (Nat × Nat)) (g : Nat → Option Row) (j : Nat) : lookR j (M.map fun p => (p.1, g p.2)) = match slot j M with
    | some r => g r
    | none => none := by
  induction M with
  | nil => rfl
  | cons p l ih =>
    simp only [zao, lookR, slot]
    split
    · rfl
    · exact ih
theorem imp_sub (k : Nat) (s t : St) (M : List (Nat × Nat)) (h1 : (M.map (·.1)).Nodup) (h2 : (M.map (·.2)).Nodup) (h3 : ∀ p ∈ M, p.1 < t.nx ∧ (p.1 < k → p.2 = p.1)) (h4 : k ≤ t.nx) (h5 : ∀ x ∈ t.tm, lk s M x.1 = some x.2) (h6 : t.hp = M.map fun p => (p.1, renO (toN M) (s.hpF p.2)))
    (h7 : ∀ p ∈ M, ∀ row, s.hpF p.2 = some row → ∀ c ∈ row.cells, ∀ q ∈ c.refs, (toN M q).isSome = true) : Imp k s t := by
  intro P w0 A N a w m π hk h
  obtain ⟨πo, hπo⟩ : ∃ πo : Plc, πo = fun j => match slot j M with | some r => π r | none => none := ⟨_, rfl⟩
  have hpo : ∀ j r, (j, r) ∈ M → πo j = π r := fun j r hm => by rw [hπo]; simp only [slot_of h1 hm]
  have hren : ∀ c u, VC m π c u → VC m πo (c.ren (toN M)) u := by
    intro c u hcu
    cases c with
    | osl r off len cap =>
      simp only [Cell.ren]
      cases hi : toN M r with
      | none => trivial
      | some j => exact ⟨hcu.1, by rw [hpo j r (toN_mem hi)]; exact hcu.2⟩
    | optr r off =>
      simp only [Cell.ren]
      cases hi : toN M r with
      | none => trivial
      | some j => exact ⟨hcu.1, by rw [hpo j r (toN_mem hi)]; exact hcu.2⟩
    | mp r kk =>
      simp only [Cell.ren]
      cases hi : toN M r with
      | none => trivial
      | some j => exact ⟨hcu.1, by rw [hpo j r (toN_mem hi)]; exact hcu.2⟩
    | _ => exact hcu
  have hclr : ∀ c : Cell, (c.ren (toN M)).cl (t.nx ≤ ·) := by
    intro c
    cases c with
    | osl r off len cap =>
      simp only [Cell.ren]
      cases hi : toN M r with
      | none => trivial
      | some j => exact Nat.not_le.2 (h3 _ (toN_mem hi)).1
    | optr r off =>
      simp only [Cell.ren]
      cases hi : toN M r with
      | none => trivial
      | some j => exact Nat.not_le.2 (h3 _ (toN_mem hi)).1
    | mp r kk =>
      simp only [Cell.ren]
      cases hi : toN M r with
      | none => trivial
      | some j => exact Nat.not_le.2 (h3 _ (toN_mem hi)).1
    | _ => trivial
  have htm : ∀ q v, t.tmF q = some v → ∃ u, s.tmF q = some u ∧ u.ren (toN M) = v := by
    intro q v hq
    have := h5 (q, v) (slot_mem hq)
    unfold lk at this
    split at this
    · rename_i u hu
      simp only [Option.some.injEq] at this
      exact ⟨u, hu, this⟩
    · cases this
  have hhp : ∀ j, t.hpF j = match slot j M with | some r => renO (toN M) (s.hpF r) | none => none := by
    intro j
    unfold St.hpF
    rw [h6]
    exact lookR_map M (fun r => renO (toN M) (s.hpF r)) j
  have hrow : ∀ j row, t.hpF j = some row → ∃ r row0, (j, r) ∈ M ∧ s.hpF r = some row0 ∧ row = row0.ren (toN M) := by
    intro j row hj
    rw [hhp j] at hj
    split at hj
    · rename_i r hr
      cases hs : s.hpF r with
      | none => rw [hs] at hj; cases hj
      | some row0 =>
        rw [hs] at hj
        simp only [renO, Option.some.injEq] at hj
        exact ⟨r, row0, slot_mem hr, hs, hj.symm⟩
    · cases hj
  refine ⟨m, πo, h.defers, h.size, ?_, ?_, ?_, ?_, ?_, ?_, ?_, ?_, h.mok, ?_, h.new, h.keep, h.mg, h.gnew, ?_, ?_, h.gl⟩
  · intro q v hq
    obtain ⟨u, hu, rfl⟩ := htm q v hq
    exact vs_map (C := fun _ => True) (fun c u _ hcu => hren c u hcu) (allC_true _) (h.tms q u hu)
  · intro q v hq
    obtain ⟨u, hu, rfl⟩ := htm q v hq
    exact clS_all hclr _
  · intro j row hj
    obtain ⟨r, row0, hm, hs, rfl⟩ := hrow j row hj
    have hro := h.rows r row0 hs
    unfold RowOk at hro ⊢
    rw [hpo j r hm]
    cases hq : π r with
    | none => rw [hq] at hro; exact hro.elim
    | some q =>
      rw [hq] at hro
      cases q with
      | none => simp only at hro ⊢; simp [Row.ren, hro]
      | some p =>
        obtain ⟨g1, g2, arr, ee, g3, g4, g5, g6⟩ := hro
        refine ⟨g1, g2, arr, ee, g3, g4, ⟨fun hz => by simpa [Row.ren] using g5.1 hz, fun hz => by simpa [Row.ren] using g5.2 hz⟩, fun i c hi => ?_⟩
        simp only [Row.ren, List.getElem?_map, zap] at hi
        obtain ⟨c0, hc0, rfl⟩ := hi
        obtain ⟨x, r1, r2⟩ := g6 i c0 hc0
        exact ⟨x, r1, hren c0 x r2⟩
  · intro j row hj c hc
    obtain ⟨r, row0, hm, hs, rfl⟩ := hrow j row hj
    obtain ⟨c0, hc0, rfl⟩ := List.mem_map.1 hc
    exact hclr c0
  · intro j row hj c hc
    obtain ⟨r, row0, hm, hs, rfl⟩ := hrow j row hj
    obtain ⟨c0, hc0, rfl⟩ := List.mem_map.1 hc
    have hso := h.rsol r row0 hs c0 hc0
    have hin := h7 (j, r) hm row0 hs c0 hc0
    cases c0 with
    | osl r' _ _ _ =>
      obtain ⟨j', hj'⟩ := Option.isSome_iff_exists.1 (hin r' (by simp [Cell.refs]))
      simp only [Cell.ren, hj']; exact fun hh => by cases hh
    | optr r' _ =>
      obtain ⟨j', hj'⟩ := Option.isSome_iff_exists.1 (hin r' (by simp [Cell.refs]))
      simp only [Cell.ren, hj']; exact fun hh => by cases hh
    | mp r' kk =>
      obtain ⟨j', hj'⟩ := Option.isSome_iff_exists.1 (hin r' (by simp [Cell.refs]))
      simp only [Cell.ren, hj']; exact fun hh => by cases hh
    | _ => exact hso
  · intro j hj
    rw [hhp j] at hj
    rw [hπo]
    simp only
    split at hj
    · rename_i r hr
      cases hs : s.hpF r with
      | none => exact h.live r hs
      | some row0 => rw [hs] at hj; cases hj
    · rfl
  · intro j hj
    cases hh : t.hpF j with
    | none => rfl
    | some row =>
      obtain ⟨r, row0, hm, hs, rfl⟩ := hrow j row hh
      have hlt : j < t.nx := (h3 _ hm).1
      have hge : t.nx ≤ j := hj
      omega
  · intro j j' p p' e1 e2 e3
    rw [hπo] at e1 e2
    simp only at e1 e2
    split at e1
    · rename_i r hr
      split at e2
      · rename_i r' hr'
        have := h.inj r r' p p' e1 e2 e3
        subst this
        have z1 := toN_of h2 (slot_mem hr)
        have z2 := toN_of h2 (slot_mem hr')
        rw [z1] at z2; cases z2; rfl
      · cases e2
    · cases e1
  · intro j p ad u e1 hu
    rw [hπo] at e1
    simp only at e1
    split at e1
    · rename_i r hr
      exact h.dis r p ad u e1 hu
    · cases e1
  · intro j hj
    rw [hk] at hj
    rw [hπo]
    simp only
    cases hl : slot j M with
    | none => exact .inr rfl
    | some r =>
      have := (h3 _ (slot_mem hl)).2 hj
      simp only at this
      subst this
      exact h.org r (by rw [hk]; exact hj)
  · intro j hj
    have hge : t.nx ≤ j := hj
    omega
def Cell.frz (r : Nat) (cells : List Cell) : Cell → Cell
  | .osl q off len cap => if q = r then .gsl cells off len cap else .osl q off len cap
  | .optr q off => if q = r then .gptr cells off else .optr q off
  | c => c
mutual
def SV.frz (r : Nat) (cells : List Cell) : SV → SV
  | .one c => .one (c.frz r cells)
  | .agg cs => .agg (cs.map (Cell.frz r cells))
  | .tup vs => .tup (SV.frzL r cells vs)
def SV.frzL (r : Nat) (cells : List Cell) : List SV → List SV
  | [] => []
  | s :: ss => s.frz r cells :: SV.frzL r cells ss
end
theorem vl_frz {m m2 : Mem} {π π2 : Plc} {g : Cell → Cell} {C : Cell → Prop} (hc : ∀ c v, C c → VC m π c v → VC m2 π2 (g c) v) : ∀ {cs : List Cell} {vs : List Value}, (∀ c ∈ cs, C c) → VL m π cs vs → VL m2 π2 (cs.map g) vs
  | [], [], _, _ => trivial
  | c :: cs, v :: vs, h, hv => ⟨hc c v (h c (by simp)) hv.1, vl_frz hc (fun c hx => h c (by simp [hx])) hv.2⟩
mutual
theorem vs_frz {m m2 : Mem} {π π2 : Plc} {r : Nat} {cells : List Cell} {C : Cell → Prop} (hc : ∀ c v, C c → VC m π c v → VC m2 π2 (c.frz r cells) v) : ∀ {s : SV} {v : Value}, s.allC C → VS m π s v → VS m2 π2 (s.frz r cells) v
  | .one c, v, h, hv => hc c v h hv
  | .agg cs, v, h, hv => by
    obtain ⟨arr, e, hl⟩ := hv
    exact ⟨arr, e, vl_frz hc h hl⟩
  | .tup vs, v, h, hv => by
    obtain ⟨arr, e, hl⟩ := hv
    exact ⟨arr, e, vsl_frz hc (ss := vs) h hl⟩
theorem vsl_frz {m m2 : Mem} {π π2 : Plc} {r : Nat} {cells : List Cell} {C : Cell → Prop} (hc : ∀ c v, C c → VC m π c v → VC m2 π2 (c.frz r cells) v) : ∀ {ss : List SV} {vs : List Value}, SV.allCL C ss → VSL m π ss vs → VSL m2 π2 (SV.frzL r cells ss) vs
  | [], [], _, _ => trivial
  | s :: ss, v :: vs, h, hv => ⟨vs_frz hc h.1 hv.1, vsl_frz hc h.2 hv.2⟩
end
def frzTm (r : Nat) (cells : List Cell) : List (Nat × SV) → List (Nat × SV)
  | [] => []
  | (k, v) :: l => (k, v.frz r cells) :: frzTm r cells l
def frzO (r : Nat) (cells : List Cell) : Option Row → Option Row
  | some row => some ⟨row.cells.map (Cell.frz r cells), row.esz⟩
  | none => none
def frzHp (r : Nat) (cells : List Cell) : List (Nat × Option Row) → List (Nat × Option Row)
  | [] => []
  | (k, v) :: l => (k, frzO r cells v) :: frzHp r cells l
theorem slot_frz (r : Nat) (cells : List Cell) (k : Nat) : ∀ l : List (Nat × SV), slot k (frzTm r cells l) = match slot k l with
    | some v => some (v.frz r cells)
    | none => none
  | [] => rfl
  | (j, v) :: l => by
    simp only [frzTm, slot]
    split
    · rfl
    · exact slot_frz r cells k l
theorem lookR_frz (r : Nat) (cells : List Cell) (k : Nat) : ∀ l : List (Nat × Option Row), lookR k (frzHp r cells l) = frzO r cells (lookR k l)
  | [] => rfl
  | (j, v) :: l => by
    simp only [frzHp, lookR]
    split
    · rfl
    · exact lookR_frz r cells k l
mutual
theorem clS_frz {r : Nat} {cells : List Cell} {Fr : Nat → Prop} (h : ∀ c : Cell, c.cl Fr → (c.frz r cells).cl Fr) : ∀ (s : SV), s.cl Fr → (s.frz r cells).cl Fr
  | .one c, hc => h c hc
  | .agg cs, hc => fun c hc2 => by
    obtain ⟨c0, h0, rfl⟩ := List.mem_map.1 hc2
    exact h c0 (hc c0 h0)
  | .tup vs, hc => clL_frz h vs hc
theorem clL_frz {r : Nat} {cells : List Cell} {Fr : Nat → Prop} (h : ∀ c : Cell, c.cl Fr → (c.frz r cells).cl Fr) : ∀ (ss : List SV), SV.clL Fr ss → SV.clL Fr (SV.frzL r cells ss)
  | [], _ => trivial
  | s :: ss, hc => ⟨clS_frz h s hc.1, clL_frz h ss hc.2⟩
end
theorem imp_frz (k : Nat) (s : St) (r : Nat) (row : Row) (hr : s.hpF r = some row) (hg : ∀ c ∈ row.cells, c.isG = true) : Imp k s ⟨frzTm r row.cells s.tm, (r, none) :: frzHp r row.cells s.hp, s.nx⟩ := by
 intro P w0 A N a w m π hk h
 have hcell : ∀ c u, VC m π c u → VC (memS m π w [r]) (upd π r none) (c.frz r row.cells) u := by
   intro c u hcu
   cases c with
   | osl q off len cap =>
     simp only [Cell.frz]
     by_cases e : q = r
     · subst e
       rw [if_pos rfl]
       have := prepC_ok h [] [q] (c := .osl q off len cap) (fun x hx _ => by simpa [Cell.refs] using hx) (fun x hx => by simp at hx; subst hx; exact ⟨row, hr, hg⟩) hcu
       simp only [prepC, idx, hr] at this
       exact VG.mono (fun _ _ h => h) this.1
     · rw [if_neg e]
       exact ⟨hcu.1, by rw [upd_ne _ _ _ _ e]; exact hcu.2⟩
   | optr q off =>
     simp only [Cell.frz]
     by_cases e : q = r
     · subst e
       rw [if_pos rfl]
       have := prepC_ok h [] [q] (c := .optr q off) (fun x hx _ => by simpa [Cell.refs] using hx) (fun x hx => by simp at hx; subst hx; exact ⟨row, hr, hg⟩) hcu
       simp only [prepC, idx, hr] at this
       exact VG.mono (fun _ _ h => h) this.1
     · rw [if_neg e]
       exact ⟨hcu.1, by rw [upd_ne _ _ _ _ e]; exact hcu.2⟩
   | un => trivial
   | mp q kk =>
     refine ⟨hcu.1, ?_⟩
     show match upd π r none q with | none => True | some none => False | some (some p) => _
     by_cases e : q = r
     · subst e
       rw [upd_same]
       trivial
     · rw [upd_ne _ _ _ _ e]; exact hcu.2
   | _ => exact VG.mono (memS_le h [r]) hcu
 have hclf : ∀ (Fr : Nat → Prop) (c : Cell), c.cl Fr → (c.frz r row.cells).cl Fr := by
   intro Fr c hc
   cases c with
   | osl q off len cap => simp only [Cell.frz]; split <;> first | trivial | exact hc
   | optr q off => simp only [Cell.frz]; split <;> first | trivial | exact hc
   | _ => trivial
 have ehp : ∀ q, St.hpF ⟨frzTm r row.cells s.tm, (r, none) :: frzHp r row.cells s.hp, s.nx⟩ q = if q = r then none else frzO r row.cells (s.hpF q) := by
   intro q
   simp only [St.hpF, lookR, lookR_frz]
   by_cases e : r = q
   · simp [e]
   · simp [e, Ne.symm e]
 have hrow : ∀ q row1, St.hpF ⟨frzTm r row.cells s.tm, (r, none) :: frzHp r row.cells s.hp, s.nx⟩ q = some row1 → q ≠ r ∧ ∃ row0, s.hpF q = some row0 ∧ row1 = ⟨row0.cells.map (Cell.frz r row.cells), row0.esz⟩ := by
   intro q row1 hq
   rw [ehp q] at hq
   split at hq
   · cases hq
   · rename_i hne
     refine ⟨hne, ?_⟩
     cases hs : s.hpF q with
     | none => rw [hs] at hq; cases hq
     | some row0 => rw [hs] at hq; simp only [frzO, Option.some.injEq] at hq; exact ⟨row0, rfl, hq.symm⟩
 have hro := h.rows r row hr
 refine ⟨memS m π w [r], upd π r none, h.defers, h.size, ?_, ?_, ?_, ?_, ?_, ?_, ?_, ?_, ?_, ?_, h.new, h.keep, ?_, h.gnew, ?_, h.frk, h.gl⟩
 · intro q v hq
   simp only [St.tmF, slot_frz] at hq
   split at hq
   · rename_i u hu
     cases hq
     exact vs_frz (C := fun _ => True) (fun c u _ hcu => hcell c u hcu) (allC_true _) (h.tms q u hu)
   · cases hq
 · intro q v hq
   simp only [St.tmF, slot_frz] at hq
   split at hq
   · rename_i u hu
     cases hq
     exact clS_frz (hclf _) _ (h.tcl q u hu)
   · cases hq
 · intro q row1 hq
   obtain ⟨hne, row0, hs, rfl⟩ := hrow q row1 hq
   have hro := h.rows q row0 hs
   unfold RowOk at hro ⊢
   rw [upd_ne _ _ _ _ hne]
   cases hq2 : π q with
   | none => rw [hq2] at hro; exact hro.elim
   | some x =>
     rw [hq2] at hro
     cases x with
     | none => simp only at hro ⊢; simp [hro]
     | some p =>
       obtain ⟨g1, g2, arr, ee, g3, g4, g5, g6⟩ := hro
       refine ⟨g1, g2, arr, ee, g3, g4, ⟨fun hz => by simpa using g5.1 hz, fun hz => by simpa using g5.2 hz⟩, fun i c hi => ?_⟩
       simp only [List.getElem?_map, zap] at hi
       obtain ⟨c0, hc0, rfl⟩ := hi
       obtain ⟨x, r1, r2⟩ := g6 i c0 hc0
       exact ⟨x, r1, hcell c0 x r2⟩
 · intro q row1 hq c hc
   obtain ⟨hne, row0, hs, rfl⟩ := hrow q row1 hq
   obtain ⟨c0, hc0, rfl⟩ := List.mem_map.1 hc
   exact hclf _ c0 (h.rcl q row0 hs c0 hc0)
 · intro q row1 hq c hc
   obtain ⟨hne, row0, hs, rfl⟩ := hrow q row1 hq
   obtain ⟨c0, hc0, rfl⟩ := List.mem_map.1 hc
   have hso := h.rsol q row0 hs c0 hc0
   cases c0 with
   | osl q' _ _ _ => simp only [Cell.frz]; split <;> exact fun hh => by cases hh
   | optr q' _ => simp only [Cell.frz]; split <;> exact fun hh => by cases hh
   | _ => exact hso
 · intro q hq
   rw [ehp q] at hq
   unfold upd
   split
   · rfl
   · rename_i hne
     rw [if_neg hne] at hq
     cases hs : s.hpF q with
     | none => exact h.live q hs
     | some row0 => rw [hs] at hq; cases hq
 · intro q hq
   have := h.fresh q hq
   rw [ehp q, this]
   split <;> rfl
 · intro q q' p p' e1 e2 e3
   unfold upd at e1 e2
   split at e1
   · cases e1
   · split at e2
     · cases e2
     · exact h.inj q q' p p' e1 e2 e3
 · intro ad v hv
   unfold memS at hv
   split at hv
   · rename_i hc
     rw [zae] at hc
     exact ⟨by simpa using hc.1, hv⟩
   · exact h.mok ad v hv
 · intro q p ad v e1 hv
   unfold upd at e1
   split at e1
   · cases e1
   · rename_i hne
     unfold memS at hv
     split at hv
     · rename_i hc
       rw [zae] at hc
       obtain ⟨r2, hr2, p2, hp2, hb2⟩ := inS_iff.1 hc.2
       simp at hr2
       subst hr2
       intro e
       exact hne (h.inj q r2 p p2 e1 hp2 (by rw [hb2, e]))
     · exact h.dis q p ad v e1 hv
 · intro ad v hv
   unfold memS at hv
   split at hv
   · rename_i hc
     rw [zae] at hc
     obtain ⟨r2, hr2, p2, hp2, hb2⟩ := inS_iff.1 hc.2
     simp at hr2
     subst hr2
     unfold RowOk at hro
     rw [hp2] at hro
     exact h.gnew ad (hb2 ▸ hro.1)
   · exact h.mg ad v hv
 · intro q hq
   unfold upd
   split
   · exact .inr rfl
   · exact h.org q hq
end Go.Proofs.YtnahpejlhfeleabGreat.Sh
namespace Go.Proofs.YtnahpejlhfeleabGreat.Sh
open Go.RowKit
def zeq : Value → Value → Bool
  | .int k a, .int k' b => decide (k = k') && decide (a = b)
  | .bool a, .bool b => a == b
  | .string a, .string b => decide (a = b)
  | .pointer none, .pointer none => true
  | .slice none 0 0, .slice none 0 0 => true
  | .map none, .map none => true
  | .nilFunc, .nilFunc => true
  | .nilIface, .nilIface => true
  | _, _ => false
theorem zeq_eq {a b : Value} (h : zeq a b = true) : a = b ∧ b.oneCell' = true := by
 unfold zeq at h
 split at h
 · simp at h; obtain ⟨rfl, rfl⟩ := h; exact ⟨rfl, rfl⟩
 · simp at h; subst h; exact ⟨rfl, rfl⟩
 · simp at h; subst h; exact ⟨rfl, rfl⟩
 · exact ⟨rfl, rfl⟩
 · exact ⟨rfl, rfl⟩
 · exact ⟨rfl, rfl⟩
 · exact ⟨rfl, rfl⟩
 · exact ⟨rfl, rfl⟩
 · cases h
def zeqL : List Value → List Value → Bool
  | [], [] => true
  | a :: l, b :: r => zeq a b && zeqL l r
  | _, _ => false
theorem zeqL_eq : ∀ {l r : List Value}, zeqL l r = true → l = r ∧ ∀ x ∈ r, x.oneCell' = true
  | [], [], _ => ⟨rfl, by simp⟩
  | a :: l, b :: r, h => by
    simp only [zeqL, zae] at h
    obtain ⟨h1, h2⟩ := h
    obtain ⟨rfl, h3⟩ := zeq_eq h1
    obtain ⟨rfl, h4⟩ := zeqL_eq h2
    exact ⟨rfl, fun x hx => by
      rcases List.mem_cons.1 hx with e | e
      · rw [e]; exact h3
      · exact h4 x e⟩
  | [], _ :: _, h => by cases h
  | _ :: _, [], h => by cases h
def fitsB : TK → TypeDesc → Bool
  | .int k, .int k' => decide (k' = k)
  | .bool, .bool => true
  | .str, .string => true
  | .ptr, .pointer _ => true
  | .slice e, .slice e' => decide (e' = e)
  | .array n e, .array n' e' => decide (n' = n) && decide (e' = e)
  | .map k e, .map k' e' => decide (k' = k) && decide (e' = e)
  | .struct fs, .struct fl => decide (fl.toList.map (fun f => (f.offset, f.type)) = fs)
  | .oth, .struct _ => false
  | .oth, .array _ _ => false
  | .oth, .slice _ => false
  | .oth, _ => true
  | _, _ => false
theorem fitsB_ok {k : TK} {d : TypeDesc} (h : fitsB k d = true) : k.fits d := by
 unfold fitsB at h
 unfold TK.fits
 split at h <;> simp_all
def chk1 (P : Program) (t : Nat) (ti : TI) : Bool :=
  match P.info? t, P.underlying t with
  | some i, some d => decide (i.size = ti.size) && decide (i.bytes = ti.bytes) && fitsB ti.kind d && (match i.zero with
    | some z => zeqL z.cells.toList ti.zero && (ti.kind.isAgg || z.oneCell')
    | none => false) && decide (ti.zero.length = ti.size) && (!ti.eq || eqChk P t ti.zero)
  | _, _ => false
theorem chk1_ok {P : Program} {t : Nat} {ti : TI} (h : chk1 P t ti = true) : TIok P t ti := by
 unfold chk1 at h
 split at h
 · rename_i i d hi hd
   simp only [zae, decide_eq_true_eq] at h
   obtain ⟨⟨⟨⟨⟨h1, h2⟩, h3⟩, h4⟩, h5⟩, h6⟩ := h
   split at h4
   · rename_i z hz
     rw [zae] at h4
     obtain ⟨e1, e2⟩ := zeqL_eq h4.1
     refine ⟨⟨i, d, z, hi, hd, h1, h2, fitsB_ok h3, hz, e1, h5, e2⟩, fun he => eqChk_ok (by simpa [he] using h6), fun hag i' z' hi' hz' => ?_⟩
     rw [hi] at hi'
     cases hi'
     rw [hz] at hz'
     cases hz'
     simpa [hag] using h4.2
   · cases h4
 · cases h
def chkT (P : Program) (l : List (Nat × TI)) : Bool := l.all fun x => chk1 P x.1 x.2
theorem chkT_ok {P : Program} {T : Tab} (h : chkT P T.ts = true) : TOk P T := by
 intro t ti hl
 exact chk1_ok (List.all_eq_true.1 h (t, ti) (slot_mem hl))
abbrev int (n : Int) : Cell := .sc (.int .i64 n)
abbrev bool (b : Bool) : Cell := .sc (.bool b)
abbrev i1 (n : Int) : SV := .one (int n)
abbrev b1 (b : Bool) : SV := .one (bool b)
def Ints (xs : List Int) : List Cell := xs.map int
abbrev gi (xs : List Int) (cap : Option Nat) : SV := .one (.gsl (Ints xs) 0 xs.length cap)
theorem Ints_length (xs : List Int) : (Ints xs).length = xs.length := by simp [Ints]
theorem Ints_getD (xs : List Int) (i : Nat) : (Ints xs).getD i (.sc (.int .i64 0)) = int (xs.getD i 0) := by
 unfold Ints
 simp only [List.getD_eq_getElem?_getD, List.getElem?_map]
 cases xs[i]? <;> rfl
theorem Ints_ren (ρ : Nat → Option Nat) (xs : List Int) : (Ints xs).map (Cell.ren ρ) = Ints xs := by
 unfold Ints
 rw [zak]
 apply zaf
 intro x _; rfl
theorem Ints_frz (r : Nat) (cells : List Cell) (xs : List Int) : (Ints xs).map (Cell.frz r cells) = Ints xs := by
 unfold Ints
 rw [zak]
 apply zaf
 intro x _; rfl
theorem Ints_set (xs : List Int) (i : Nat) (n : Int) : (Ints xs).set i (.sc (.int .i64 n)) = Ints (xs.set i n) := by
 unfold Ints
 rw [List.map_set]
theorem Ints_app (xs : List Int) (n : Int) : Ints xs ++ [.sc (.int .i64 n)] = Ints (xs ++ [n]) := by simp [Ints]
theorem Ints_drop (xs : List Int) (i : Nat) : (Ints xs).drop i = Ints (xs.drop i) := by simp [Ints, List.map_drop]
theorem Ints_take (xs : List Int) (i : Nat) : (Ints xs).take i = Ints (xs.take i) := by simp [Ints, List.map_take]
theorem Ints_isG (xs : List Int) : ∀ c ∈ Ints xs, c.isG = true := by
 intro c hc
 obtain ⟨x, _, rfl⟩ := List.mem_map.1 hc
 rfl
theorem Ints_noG (xs : List Int) : ∀ c ∈ Ints xs, c.noG = true := by
 intro c hc
 obtain ⟨x, _, rfl⟩ := List.mem_map.1 hc
 rfl
theorem Ints_refs (xs : List Int) : ∀ c ∈ Ints xs, ∀ (Q : Nat → Prop), ∀ q ∈ c.refs, Q q := by
 intro c hc
 obtain ⟨x, _, rfl⟩ := List.mem_map.1 hc
 intro Q q hq
 simp [Cell.refs] at hq
theorem Ints_rep (n : Nat) (x : Int) : zan n (Cell.sc (.int .i64 x)) = Ints (zan n x) := by simp [Ints]
theorem ofV_int (k : IntKind) (n : Int) : ofV (.int k n) = V (.int k n) := rfl
theorem ofV_bool (b : Bool) : ofV (.bool b) = V (.bool b) := rfl
theorem ofV_string (b : ByteArray) : ofV (.string b) = V (.string b) := rfl
theorem ofV_slice (a : Option Addr) (n c : Nat) : ofV (.slice a n c) = V (.slice a n c) := rfl
theorem ofV_pointer (a : Option Addr) : ofV (.pointer a) = V (.pointer a) := rfl
theorem max10 : max 1 0 = 1 := rfl
theorem max11 : max 1 1 = 1 := rfl
end Go.Proofs.YtnahpejlhfeleabGreat.Sh
namespace Go.Proofs.YtnahpejlhfeleabGreat.Sh
open Go.RowKit
theorem dst_some (N : Nat) (d : Tmp) : dstOk N (some d) = (d < N) := rfl
section
variable {P : Program} {T : Tab} {A : An} {N : Nat} {all : Array Oper} {dr : Bool} {K : St → Prop} {Q : Exit → St → Prop} {rest : List Oper} {acc : List (List Nat × List Nat)} {tm : List (Nat × SV)} {hp : List (Nat × Option Row)} {nx : Nat} {s : St}
abbrev evL (tm : List (Nat × SV)) (x : Operand) : SV := evS (fun k => slot k tm) x
abbrev hpL' (hp : List (Nat × Option Row)) : Nat → Option Row := fun r => lookR r hp
def S1 (P : Program) (T : Tab) (A : An) (N : Nat) (all : Array Oper) (dr : Bool) (K : St → Prop) (rest : List Oper) (acc : List (List Nat × List Nat)) (tm : List (Nat × SV)) (hp : List (Nat × Option Row)) (nx : Nat) (dst : Option Tmp) (r : Res) (F : List Nat) : Prop :=
  dstOk N dst ∧ r.need ∧ sops P T A N all dr K rest ((F, r.ups.map (·.1)) :: acc) (St.go ⟨tm, hp, nx⟩ dst r.val r.ups r.new)
@[congr] theorem S1_congr {nx' : Nat} {r r' : Res} {F F' : List Nat} {dst : Option Tmp} (h0 : nx = nx') (h1 : r = r') (h2 : F = F') : S1 P T A N all dr K rest acc tm hp nx dst r F = S1 P T A N all dr K rest acc tm hp nx' dst r' F' := by subst h0; subst h1; subst h2; rfl
def S2 (P : Program) (T : Tab) (A : An) (N : Nat) (all : Array Oper) (dr : Bool) (K : St → Prop) (rest : List Oper) (acc : List (List Nat × List Nat)) (tm : List (Nat × SV)) (hp : List (Nat × Option Row)) (nx : Nat) (dst : Option Tmp) (b : Bool) (r : Res) (F : List Nat) : Prop :=
  dstOk N dst ∧ GN b r ∧ sops P T A N all dr K rest ((gfp b F, []) :: acc) (St.go ⟨tm, hp, nx⟩ dst (cnd b r.val) [] 0)
@[congr] theorem S2_congr {nx' : Nat} {b b' : Bool} {r r' : Res} {F F' : List Nat} {dst : Option Tmp} (h0 : nx = nx') (hb : b = b') (h1 : r = r') (h2 : F = F') : S2 P T A N all dr K rest acc tm hp nx dst b r F = S2 P T A N all dr K rest acc tm hp nx' dst b' r' F' := by subst h0; subst hb; subst h1; subst h2; rfl
def S2U (P : Program) (T : Tab) (A : An) (N : Nat) (all : Array Oper) (dr : Bool) (K : St → Prop) (rest : List Oper) (acc : List (List Nat × List Nat)) (tm : List (Nat × SV)) (hp : List (Nat × Option Row)) (nx : Nat) (dst : Option Tmp) (b : Bool) (f : SV → Res) (p : SV → List Nat) (x : SV) : Prop :=
  S2 P T A N all dr K rest acc tm hp nx dst b (f x) (p x)
@[congr] theorem S2U_congr {nx' : Nat} {b b' : Bool} {f : SV → Res} {p : SV → List Nat} {x x' : SV} {dst : Option Tmp} (h0 : nx = nx') (hb : b = b') (h1 : x = x') : S2U P T A N all dr K rest acc tm hp nx dst b f p x = S2U P T A N all dr K rest acc tm hp nx' dst b' f p x' := by subst h0; subst hb; subst h1; rfl
def S2B (P : Program) (T : Tab) (A : An) (N : Nat) (all : Array Oper) (dr : Bool) (K : St → Prop) (rest : List Oper) (acc : List (List Nat × List Nat)) (tm : List (Nat × SV)) (hp : List (Nat × Option Row)) (nx : Nat) (dst : Option Tmp) (b : Bool) (f : SV → SV → Res) (p : SV → List Nat) (x y : SV) : Prop :=
  S2 P T A N all dr K rest acc tm hp nx dst b (f x y) (p x)
@[congr] theorem S2B_congr {nx' : Nat} {b b' : Bool} {f : SV → SV → Res} {p : SV → List Nat} {x x' y y' : SV} {dst : Option Tmp} (h0 : nx = nx') (hb : b = b') (h1 : x = x') (h2 : y = y') : S2B P T A N all dr K rest acc tm hp nx dst b f p x y = S2B P T A N all dr K rest acc tm hp nx' dst b' f p x' y' := by subst h0; subst hb; subst h1; subst h2; rfl
theorem s2_eq (b : Bool) {dst : Option Tmp} {r r' : Res} {F F' : List Nat} (h : b = true → r = r' ∧ F = F') : S2 P T A N all dr K rest acc tm hp nx dst b r F = S2 P T A N all dr K rest acc tm hp nx dst b r' F' := by
 cases b with
 | true => obtain ⟨h1, h2⟩ := h rfl; rw [h1, h2]
 | false => simp only [S2, GN, cnd, gfp]; simp
theorem s2u_cnd (b : Bool) (f : SV → Res) (p : SV → List Nat) (x : SV) {dst : Option Tmp} : S2U P T A N all dr K rest acc tm hp nx dst b f p (cnd b x) = S2U P T A N all dr K rest acc tm hp nx dst b f p x :=
  s2_eq b fun h => by simp [cnd, h]
theorem s2u_one (b : Bool) (f : SV → Res) (p : SV → List Nat) (c : Cell) {dst : Option Tmp} : S2U P T A N all dr K rest acc tm hp nx dst b f p (.one c) = S2 P T A N all dr K rest acc tm hp nx dst b (f (.one c)) (p (.one c)) := rfl
theorem s2u_agg (b : Bool) (f : SV → Res) (p : SV → List Nat) (c : List Cell) {dst : Option Tmp} : S2U P T A N all dr K rest acc tm hp nx dst b f p (.agg c) = S2 P T A N all dr K rest acc tm hp nx dst b (f (.agg c)) (p (.agg c)) := rfl
theorem s2u_tup (b : Bool) (f : SV → Res) (p : SV → List Nat) (c : List SV) {dst : Option Tmp} : S2U P T A N all dr K rest acc tm hp nx dst b f p (.tup c) = S2 P T A N all dr K rest acc tm hp nx dst b (f (.tup c)) (p (.tup c)) := rfl
theorem s2b_l (b : Bool) (f : SV → SV → Res) (p : SV → List Nat) (x y : SV) {dst : Option Tmp} : S2B P T A N all dr K rest acc tm hp nx dst b f p (cnd b x) y = S2B P T A N all dr K rest acc tm hp nx dst b f p x y :=
  s2_eq b fun h => by simp [cnd, h]
theorem s2b_r (b : Bool) (f : SV → SV → Res) (p : SV → List Nat) (x y : SV) {dst : Option Tmp} : S2B P T A N all dr K rest acc tm hp nx dst b f p x (cnd b y) = S2B P T A N all dr K rest acc tm hp nx dst b f p x y :=
  s2_eq b fun h => by simp [cnd, h]
theorem s2b_go (b : Bool) (f : SV → SV → Res) (p : SV → List Nat) (c d : Cell) {dst : Option Tmp} : S2B P T A N all dr K rest acc tm hp nx dst b f p (.one c) (.one d) = S2 P T A N all dr K rest acc tm hp nx dst b (f (.one c) (.one d)) (p (.one c)) := rfl
theorem s2b_ag (b : Bool) (f : SV → SV → Res) (p : SV → List Nat) (c : List Cell) (d : Cell) {dst : Option Tmp} : S2B P T A N all dr K rest acc tm hp nx dst b f p (.agg c) (.one d) = S2 P T A N all dr K rest acc tm hp nx dst b (f (.agg c) (.one d)) (p (.agg c)) := rfl
theorem s2b_gg (b : Bool) (f : SV → SV → Res) (p : SV → List Nat) (c d : List Cell) {dst : Option Tmp} : S2B P T A N all dr K rest acc tm hp nx dst b f p (.agg c) (.agg d) = S2 P T A N all dr K rest acc tm hp nx dst b (f (.agg c) (.agg d)) (p (.agg c)) := rfl
theorem s2_false {dst : Option Tmp} (r : Res) (F : List Nat) : S2 P T A N all dr K rest acc tm hp nx dst false r F = S1 P T A N all dr K rest acc tm hp nx dst ⟨True, ud, [], 0⟩ [] := by
 unfold S2 S1 GN
 simp only [cnd, gfp, zaj, if_false, false_implies, true_and, zal]
theorem s2u_false {dst : Option Tmp} (f : SV → Res) (p : SV → List Nat) (x : SV) : S2U P T A N all dr K rest acc tm hp nx dst false f p x = S1 P T A N all dr K rest acc tm hp nx dst ⟨True, ud, [], 0⟩ [] := s2_false _ _
theorem s2b_false {dst : Option Tmp} (f : SV → SV → Res) (p : SV → List Nat) (x y : SV) : S2B P T A N all dr K rest acc tm hp nx dst false f p x y = S1 P T A N all dr K rest acc tm hp nx dst ⟨True, ud, [], 0⟩ [] := s2_false _ _
theorem gfp_nil (b : Bool) : gfp b [] = [] := by cases b <;> rfl
theorem gfp_true (F : List Nat) : gfp true F = F := rfl
theorem gfp_false (F : List Nat) : gfp false F = [] := rfl
theorem cnd_true (v : SV) : cnd true v = v := rfl
theorem cnd_false (v : SV) : cnd false v = ud := rfl
theorem s1_some (d : Tmp) (need : Prop) (v : SV) (ups : List (Nat × Option Row)) (new : Nat) (F : List Nat) : S1 P T A N all dr K rest acc tm hp nx (some d) ⟨need, v, ups, new⟩ F = (d < N ∧ need ∧ sops P T A N all dr K rest ((F, ups.map (·.1)) :: acc) ⟨(d, v) :: tm, pushU ups hp, nx + max 1 new⟩) := by
 unfold S1
 rw [dst_some]
 rfl
theorem s1_none (need : Prop) (v : SV) (ups : List (Nat × Option Row)) (new : Nat) (F : List Nat) : S1 P T A N all dr K rest acc tm hp nx none ⟨need, v, ups, new⟩ F = (need ∧ sops P T A N all dr K rest ((F, ups.map (·.1)) :: acc) ⟨tm, pushU ups hp, nx + max 1 new⟩) := by
 unfold S1 dstOk
 exact propext ⟨fun h => h.2, fun h => ⟨trivial, h⟩⟩
theorem s2_some (d : Tmp) (b : Bool) (need : Prop) (v : SV) (F : List Nat) : S2 P T A N all dr K rest acc tm hp nx (some d) b ⟨need, v, [], 0⟩ F = (d < N ∧ (b = true → need) ∧ sops P T A N all dr K rest ((gfp b F, []) :: acc) ⟨(d, cnd b v) :: tm, hp, nx + 1⟩) := by
 unfold S2 GN
 rw [dst_some]
 simp only [and_true]
 rfl
theorem s2_none (b : Bool) (need : Prop) (v : SV) (F : List Nat) : S2 P T A N all dr K rest acc tm hp nx none b ⟨need, v, [], 0⟩ F = ((b = true → need) ∧ sops P T A N all dr K rest ((gfp b F, []) :: acc) ⟨tm, hp, nx + 1⟩) := by
 unfold S2 GN dstOk
 simp only [true_and, and_true]
 rfl
theorem o_nil_f : sops P T A N all false K [] acc s = K s := by rw [sops]; simp
def OKC (all : Array Oper) (acc : List (List Nat × List Nat)) : Prop := okc all acc.reverse = true
@[congr] theorem OKC_congr {acc' : List (List Nat × List Nat)} (h : acc = acc') : OKC all acc = OKC all acc' := by rw [h]
theorem o_nil_t : sops P T A N all true K [] acc s = (OKC all acc ∧ K s) := by rw [sops]; simp [OKC]
variable {dst : Option Tmp} {ty : TypeId} {pos : String} {after : Array Edge}
theorem o_move (x : Operand) : sops P T A N all dr K (⟨dst, .move x, ty, pos, after, none⟩ :: rest) acc ⟨tm, hp, nx⟩ = S1 P T A N all dr K rest acc tm hp nx dst ⟨True, evL tm x, [], 0⟩ [] := rfl
theorem o_assign (x : Operand) : sops P T A N all dr K (⟨dst, .assign x, ty, pos, after, none⟩ :: rest) acc ⟨tm, hp, nx⟩ = S1 P T A N all dr K rest acc tm hp nx dst ⟨True, evL tm x, [], 0⟩ [] := rfl
theorem o_alloc (t : TypeId) : sops P T A N all dr K (⟨dst, .alloc t, ty, pos, after, none⟩ :: rest) acc ⟨tm, hp, nx⟩ = S1 P T A N all dr K rest acc tm hp nx dst (sAlloc T t nx) [] := rfl
theorem o_box (t : TypeId) (x : Operand) : sops P T A N all dr K (⟨dst, .box t x, ty, pos, after, none⟩ :: rest) acc ⟨tm, hp, nx⟩ = S1 P T A N all dr K rest acc tm hp nx dst (sBox (evL tm x) nx) [] := rfl
theorem o_build (t : TypeId) (ps : List (Nat × Operand)) : sops P T A N all dr K (⟨dst, .build t (zac ps), ty, pos, after, none⟩ :: rest) acc ⟨tm, hp, nx⟩ = S1 P T A N all dr K rest acc tm hp nx dst (sBuild T t (ps.map fun x => (x.1, evL tm x.2))) [] := rfl
theorem o_buildSlice (t : TypeId) (len : Nat) (ps : List (Nat × Operand)) : sops P T A N all dr K (⟨dst, .buildSlice t len (zac ps), ty, pos, after, none⟩ :: rest) acc ⟨tm, hp, nx⟩ = S1 P T A N all dr K rest acc tm hp nx dst (sBuildSlice T t len (ps.map fun x => (x.1, evL tm x.2)) nx) [] := rfl
theorem o_load (t : TypeId) (x : Operand) : sops P T A N all dr K (⟨dst, .load t x, ty, pos, after, none⟩ :: rest) acc ⟨tm, hp, nx⟩ = S1 P T A N all dr K rest acc tm hp nx dst (sLoad T (hpL' hp) t (evL tm x)) (evL tm x).ref := rfl
theorem o_store (t : TypeId) (x y : Operand) : sops P T A N all dr K (⟨dst, .store t x y, ty, pos, after, none⟩ :: rest) acc ⟨tm, hp, nx⟩ = S1 P T A N all dr K rest acc tm hp nx dst (sStore T (hpL' hp) t (evL tm x) (evL tm y)) (evL tm x).ref := rfl
theorem o_nilCheck (x : Operand) : sops P T A N all dr K (⟨dst, .nilCheck x, ty, pos, after, none⟩ :: rest) acc ⟨tm, hp, nx⟩ = S1 P T A N all dr K rest acc tm hp nx dst (sNil (hpL' hp) (evL tm x)) (evL tm x).ref := rfl
theorem o_bin (op : BinOp) (t yt : TypeId) (x y : Operand) : sops P T A N all dr K (⟨dst, .binOp op t x y yt, ty, pos, after, none⟩ :: rest) acc ⟨tm, hp, nx⟩ = S1 P T A N all dr K rest acc tm hp nx dst (sBinT T (hpL' hp) op t (evL tm x) (evL tm y)) (evL tm x).ref := rfl
theorem o_un (op : UnOp) (t : TypeId) (x : Operand) : sops P T A N all dr K (⟨dst, .unOp op t x, ty, pos, after, none⟩ :: rest) acc ⟨tm, hp, nx⟩ = S1 P T A N all dr K rest acc tm hp nx dst (sUn T.wr op (evL tm x)) [] := rfl
theorem o_conv (t d : TypeId) (x : Operand) : sops P T A N all dr K (⟨dst, .convert t d x, ty, pos, after, none⟩ :: rest) acc ⟨tm, hp, nx⟩ = S1 P T A N all dr K rest acc tm hp nx dst (sConvS T (hpL' hp) t d (evL tm x)) (evL tm x).ref := rfl
theorem o_make (t : TypeId) (x y : Operand) : sops P T A N all dr K (⟨dst, .makeSlice t x y, ty, pos, after, none⟩ :: rest) acc ⟨tm, hp, nx⟩ = S1 P T A N all dr K rest acc tm hp nx dst (sMake T t (evL tm x) (evL tm y) nx) [] := rfl
theorem o_makeFunc (f : FuncId) (cs : List Operand) : sops P T A N all dr K (⟨dst, .makeFunc (.func f) #[] (zac cs), ty, pos, after, none⟩ :: rest) acc ⟨tm, hp, nx⟩ = S1 P T A N all dr K rest acc tm hp nx dst (sFunc f (cs.map (evL tm))) [] := rfl
theorem o_slice (t : TypeId) (x : Operand) (lo hi mx : Option Operand) : sops P T A N all dr K (⟨dst, .slice t x lo hi mx, ty, pos, after, none⟩ :: rest) acc ⟨tm, hp, nx⟩ = S1 P T A N all dr K rest acc tm hp nx dst (sSlice T (hpL' hp) t (evL tm x) (lo.map (evL tm)) (hi.map (evL tm)) (mx.map (evL tm))) (evL tm x).ref := rfl
theorem o_fieldAddr (t : TypeId) (x : Operand) (f : Nat) : sops P T A N all dr K (⟨dst, .fieldAddr t x f, ty, pos, after, none⟩ :: rest) acc ⟨tm, hp, nx⟩ = S1 P T A N all dr K rest acc tm hp nx dst (sFieldAddr T (hpL' hp) t (evL tm x) f) (evL tm x).ref := rfl
theorem o_field (t : TypeId) (x : Operand) (f : Nat) : sops P T A N all dr K (⟨dst, .field t x f, ty, pos, after, none⟩ :: rest) acc ⟨tm, hp, nx⟩ = S1 P T A N all dr K rest acc tm hp nx dst (sField T t (evL tm x) f) [] := rfl
theorem o_indexAddr (t : TypeId) (x i : Operand) : sops P T A N all dr K (⟨dst, .indexAddr t x i, ty, pos, after, none⟩ :: rest) acc ⟨tm, hp, nx⟩ = S1 P T A N all dr K rest acc tm hp nx dst (sIndexAddr T (hpL' hp) t (evL tm x) (evL tm i)) (evL tm x).ref := rfl
theorem o_index (t : TypeId) (x i : Operand) : sops P T A N all dr K (⟨dst, .index t x i, ty, pos, after, none⟩ :: rest) acc ⟨tm, hp, nx⟩ = S1 P T A N all dr K rest acc tm hp nx dst (sIndex T t (evL tm x) (evL tm i)) [] := rfl
theorem o_extract (x : Operand) (i : Nat) : sops P T A N all dr K (⟨dst, .extract x i, ty, pos, after, none⟩ :: rest) acc ⟨tm, hp, nx⟩ = S1 P T A N all dr K rest acc tm hp nx dst (sExtract (evL tm x) i) [] := rfl
theorem o_len (x : Operand) (t : TypeId) : sops P T A N all dr K (⟨dst, .call ⟨.builtin .len, #[x], #[t]⟩, ty, pos, after, none⟩ :: rest) acc ⟨tm, hp, nx⟩ = S1 P T A N all dr K rest acc tm hp nx dst (sLen T (hpL' hp) t (evL tm x)) (evL tm x).ref := by
 show (dstOk N dst ∧ _) = _
 simp only [sDo, sop, sCallB, fp, S1, zaa, zad, zab]
 rfl
theorem o_append (x y : Operand) (t : TypeId) : sops P T A N all dr K (⟨dst, .call ⟨.builtin .append, #[x, y], #[t, t]⟩, ty, pos, after, none⟩ :: rest) acc ⟨tm, hp, nx⟩ = S1 P T A N all dr K rest acc tm hp nx dst (sAppend1 T (hpL' hp) t (evL tm x) (evL tm y) nx) ((evL tm x).ref ++ (evL tm y).ref) := by
 show (dstOk N dst ∧ _) = _
 simp only [sDo, sop, sCallB, fp, S1, zaa, zad, zab, if_pos]
 rfl
theorem o_appendZ (x y : Operand) (t t' : TypeId) (h : t ≠ t') : sops P T A N all dr K (⟨dst, .call ⟨.builtin .append, #[x, y], #[t, t']⟩, ty, pos, after, none⟩ :: rest) acc ⟨tm, hp, nx⟩ = S1 P T A N all dr K rest acc tm hp nx dst (sAppendZ T (hpL' hp) t t' (evL tm x) (evL tm y) nx) ((evL tm x).ref ++ (evL tm y).ref) := by
 show (dstOk N dst ∧ _) = _
 simp only [sDo, sop, sCallB, fp, S1, if_neg h, zaa, zad, zab]
 rfl
theorem o_cap (x : Operand) (t : TypeId) : sops P T A N all dr K (⟨dst, .call ⟨.builtin .cap, #[x], #[t]⟩, ty, pos, after, none⟩ :: rest) acc ⟨tm, hp, nx⟩ = S1 P T A N all dr K rest acc tm hp nx dst (sCap T (hpL' hp) t (evL tm x)) (evL tm x).ref := by
 show (dstOk N dst ∧ _) = _
 simp only [sDo, sop, sCallB, fp, S1, zaa, zad, zab]
 rfl
theorem o_copy (x y : Operand) (t t' : TypeId) : sops P T A N all dr K (⟨dst, .call ⟨.builtin .copy, #[x, y], #[t, t']⟩, ty, pos, after, none⟩ :: rest) acc ⟨tm, hp, nx⟩ = S1 P T A N all dr K rest acc tm hp nx dst (sCopy T (hpL' hp) t (evL tm x) (evL tm y)) ((evL tm x).ref ++ (evL tm y).ref) := by
 show (dstOk N dst ∧ _) = _
 simp only [sDo, sop, sCallB, fp, S1, zaa, zad, zab]
 rfl
theorem o_clear (x : Operand) (t : TypeId) : sops P T A N all dr K (⟨dst, .call ⟨.builtin .clear, #[x], #[t]⟩, ty, pos, after, none⟩ :: rest) acc ⟨tm, hp, nx⟩ = S1 P T A N all dr K rest acc tm hp nx dst (sClear T (hpL' hp) t (evL tm x)) (evL tm x).ref := by
 show (dstOk N dst ∧ _) = _
 simp only [sDo, sop, sCallB, fp, S1, zaa, zad, zab]
 rfl
theorem o_makeMap (t : TypeId) : sops P T A N all dr K (⟨dst, .makeMap t none, ty, pos, after, none⟩ :: rest) acc ⟨tm, hp, nx⟩ = S1 P T A N all dr K rest acc tm hp nx dst (sMakeMap T t nx) [] := rfl
theorem o_lookup (t : TypeId) (x i : Operand) (ok : Bool) : sops P T A N all dr K (⟨dst, .lookup t x i ok, ty, pos, after, none⟩ :: rest) acc ⟨tm, hp, nx⟩ = S1 P T A N all dr K rest acc tm hp nx dst (sLookup T (hpL' hp) t (evL tm x) (evL tm i) ok) (evL tm x).ref := rfl
theorem o_mapUpdate (t : TypeId) (x i v : Operand) : sops P T A N all dr K (⟨dst, .mapUpdate t x i v, ty, pos, after, none⟩ :: rest) acc ⟨tm, hp, nx⟩ = S1 P T A N all dr K rest acc tm hp nx dst (sMapUpdate T (hpL' hp) t (evL tm x) (evL tm i) (evL tm v)) (evL tm x).ref := rfl
theorem o_range (t : TypeId) (x : Operand) : sops P T A N all dr K (⟨dst, .range t x, ty, pos, after, none⟩ :: rest) acc ⟨tm, hp, nx⟩ = S1 P T A N all dr K rest acc tm hp nx dst (sRange T t (evL tm x) nx) [] := rfl
theorem o_next (x : Operand) (isS : Bool) : sops P T A N all dr K (⟨dst, .next x isS, ty, pos, after, none⟩ :: rest) acc ⟨tm, hp, nx⟩ = S1 P T A N all dr K rest acc tm hp nx dst (sNext (hpL' hp) (evL tm x) isS) (evL tm x).ref := rfl
theorem o_min (x y : Operand) (tys : Array TypeId) : sops P T A N all dr K (⟨dst, .call ⟨.builtin .min, #[x, y], tys⟩, ty, pos, after, none⟩ :: rest) acc ⟨tm, hp, nx⟩ = S1 P T A N all dr K rest acc tm hp nx dst (sMin [evL tm x, evL tm y]) ((evL tm x).ref ++ (evL tm y).ref) := by
 show (dstOk N dst ∧ _) = _
 simp only [sDo, sop, sCallB, fp, S1, zaa, zad, zab]
 rfl
theorem o_max (x y : Operand) (tys : Array TypeId) : sops P T A N all dr K (⟨dst, .call ⟨.builtin .max, #[x, y], tys⟩, ty, pos, after, none⟩ :: rest) acc ⟨tm, hp, nx⟩ = S1 P T A N all dr K rest acc tm hp nx dst (sMax [evL tm x, evL tm y]) ((evL tm x).ref ++ (evL tm y).ref) := by
 show (dstOk N dst ∧ _) = _
 simp only [sDo, sop, sCallB, fp, S1, zaa, zad, zab]
 rfl
def PK (P : Program) (T : Tab) (A : An) (N : Nat) (all : Array Oper) (dr : Bool) (K : St → Prop) (rest : List Oper) (acc : List (List Nat × List Nat)) (tm : List (Nat × SV)) (hp : List (Nat × Option Row)) (nx : Nat) (dst : Option Tmp) (br : Bool) (c x y : SV) : Prop :=
  dstOk N dst ∧ (match c with
    | .one (.sc (.bool t)) => (match br with
      | true => (t = true → sops P T A N all dr K rest (([], []) :: acc) (St.go ⟨tm, hp, nx⟩ dst x [] 0)) ∧ (t = false → sops P T A N all dr K rest (([], []) :: acc) (St.go ⟨tm, hp, nx⟩ dst y [] 0))
      | false => sops P T A N all dr K rest (([], []) :: acc) (St.go ⟨tm, hp, nx⟩ dst (mrg t x y) [] 0))
    | _ => False)
@[congr] theorem PK_congr {nx' : Nat} {br br' : Bool} {c c' x x' y y' : SV} (h0 : nx = nx') (h1 : br = br') (h2 : c = c') (h3 : x = x') (h4 : y = y') : PK P T A N all dr K rest acc tm hp nx dst br c x y = PK P T A N all dr K rest acc tm hp nx' dst br' c' x' y' := by subst h0; subst h1; subst h2; subst h3; subst h4; rfl
theorem o_pick (c x y : Operand) : sops P T A N all dr K (⟨dst, .pick c x y, ty, pos, after, none⟩ :: rest) acc ⟨tm, hp, nx⟩ = PK P T A N all dr K rest acc tm hp nx dst (A.br (tmpOf c)) (evL tm c) (evL tm x) (evL tm y) := rfl
theorem pk_f (t : Bool) (x y : SV) : PK P T A N all dr K rest acc tm hp nx dst false (.one (.sc (.bool t))) x y = S1 P T A N all dr K rest acc tm hp nx dst ⟨True, mrg t x y, [], 0⟩ [] := by
 unfold PK S1; simp only [true_and]; rfl
def PT (t : Bool) (p q : Prop) : Prop := (t = true → p) ∧ (t = false → q)
theorem pk_t (d : Tmp) (t : Bool) (x y : SV) : PK P T A N all dr K rest acc tm hp nx (some d) true (.one (.sc (.bool t))) x y = (d < N ∧ PT t (sops P T A N all dr K rest (([], []) :: acc) ⟨(d, x) :: tm, hp, nx + 1⟩) (sops P T A N all dr K rest (([], []) :: acc) ⟨(d, y) :: tm, hp, nx + 1⟩)) := by
 unfold PK PT
 rw [dst_some]
 rfl
theorem mrg_true (x y : SV) : mrg true x y = x := rfl
theorem mrg_false (x y : SV) : mrg false x y = y := rfl
theorem mrg_cl (t : Bool) (x y : SV) : mrg t (cnd t x) y = mrg t x y := by cases t <;> rfl
theorem mrg_cr (t : Bool) (x y : SV) : mrg t x (cnd (!t) y) = mrg t x y := by cases t <;> rfl
theorem mrg_cn (t : Bool) (x y : SV) : mrg (!t) x (cnd t y) = mrg (!t) x y := by cases t <;> rfl
theorem mrg_b (t a b : Bool) : mrg t (.one (.sc (.bool a))) (.one (.sc (.bool b))) = .one (.sc (.bool (bif t then a else b))) := by cases t <;> rfl
theorem mrg_i (t : Bool) (k : IntKind) (a b : Int) : mrg t (.one (.sc (.int k a))) (.one (.sc (.int k b))) = .one (.sc (.int k (if t = true then a else b))) := by cases t <;> rfl
def gtmp (all : Array Oper) (j : Nat) : Option Tmp := match all[j]? with
  | some oj => oj.dst
  | none => none
def GU (P : Program) (T : Tab) (A : An) (N : Nat) (all : Array Oper) (dr : Bool) (K : St → Prop) (rest : List Oper) (acc : List (List Nat × List Nat)) (tm : List (Nat × SV)) (hp : List (Nat × Option Row)) (nx : Nat) (o : Oper) (want : Bool) (d : Option Tmp) : Prop :=
  dstOk N o.dst ∧ (match d with
        | some d => (match A.br d with
          | false => ∃ c, GIs (slot d tm) want c ∧ gDo P T A dr c o acc ⟨tm, hp, nx⟩ (sops P T A N all dr K rest)
          | true => (match slot d tm with
            | some (.one (.sc (.bool t))) => (t = want → sDo P T A o acc (St.ref ⟨tm, hp, nx⟩ d want) (sops P T A N all dr K rest)) ∧
              (t = !want → sops P T A N all dr K rest (([], []) :: acc) ((St.ref ⟨tm, hp, nx⟩ d (!want)).go o.dst ud [] 0))
            | _ => False))
        | none => False)
@[congr] theorem GU_congr {nx' : Nat} {o : Oper} {want : Bool} {d d' : Option Tmp} (h0 : nx = nx') (h : d = d') : GU P T A N all dr K rest acc tm hp nx o want d = GU P T A N all dr K rest acc tm hp nx' o want d' := by subst h0; subst h; rfl
theorem o_guard (op : Op) (j : Nat) (want : Bool) : sops P T A N all dr K (⟨dst, op, ty, pos, after, some (j, want)⟩ :: rest) acc ⟨tm, hp, nx⟩ = GU P T A N all dr K rest acc tm hp nx ⟨dst, op, ty, pos, after, none⟩ want (gtmp all j) := by
 unfold GU gtmp
 rw [sops]
 congr 1
 simp only
 cases all[j]? with
 | none => rfl
 | some oj =>
   cases oj.dst with
   | none => rfl
   | some d => rfl
def GV (P : Program) (T : Tab) (A : An) (N : Nat) (all : Array Oper) (dr : Bool) (K : St → Prop) (rest : List Oper) (acc : List (List Nat × List Nat)) (tm : List (Nat × SV)) (hp : List (Nat × Option Row)) (nx : Nat) (o : Oper) (want : Bool) (d : Tmp) (br : Bool) (v : Option SV) : Prop :=
  dstOk N o.dst ∧ (match br with
          | false => ∃ c, GIs v want c ∧ gDo P T A dr c o acc ⟨tm, hp, nx⟩ (sops P T A N all dr K rest)
          | true => (match v with
            | some (.one (.sc (.bool t))) => (t = want → sDo P T A o acc (St.ref ⟨tm, hp, nx⟩ d want) (sops P T A N all dr K rest)) ∧
              (t = !want → sops P T A N all dr K rest (([], []) :: acc) ((St.ref ⟨tm, hp, nx⟩ d (!want)).go o.dst ud [] 0))
            | _ => False))
@[congr] theorem GV_congr {nx' : Nat} {o : Oper} {want : Bool} {d : Tmp} {br br' : Bool} {v v' : Option SV} (h0 : nx = nx') (h : br = br') (h2 : v = v') : GV P T A N all dr K rest acc tm hp nx o want d br v = GV P T A N all dr K rest acc tm hp nx' o want d br' v' := by subst h0; subst h; subst h2; rfl
theorem gu_some (o : Oper) (want : Bool) (d : Tmp) : GU P T A N all dr K rest acc tm hp nx o want (some d) = GV P T A N all dr K rest acc tm hp nx o want d (A.br d) (slot d tm) := rfl
def GG (P : Program) (T : Tab) (A : An) (N : Nat) (all : Array Oper) (dr : Bool) (K : St → Prop) (rest : List Oper) (acc : List (List Nat × List Nat)) (tm : List (Nat × SV)) (hp : List (Nat × Option Row)) (nx : Nat) (o : Oper) (b : Bool) : Prop :=
  dstOk N o.dst ∧ gDo P T A dr b o acc ⟨tm, hp, nx⟩ (sops P T A N all dr K rest)
@[congr] theorem GG_congr {o : Oper} {b b' : Bool} (h : b = b') : GG P T A N all dr K rest acc tm hp nx o b = GG P T A N all dr K rest acc tm hp nx o b' := by subst h; rfl
theorem gis_eq (b t want c : Bool) : GIs (some (cnd b (.one (.sc (.bool t))))) want c ↔ c = (b && (t == want)) := by
 refine ⟨fun ⟨b', t', h, hc⟩ => ?_, fun h => ⟨b, t, rfl, h⟩⟩
 subst hc
 have h := Option.some.inj h
 cases b <;> cases b' <;> simp only [cnd, ud, V] at h ⊢ <;> simp at h ⊢
 rw [h]
theorem gv_f (o : Oper) (want : Bool) (d : Tmp) (t : Bool) : GV P T A N all dr K rest acc tm hp nx o want d false (some (.one (.sc (.bool t)))) = GG P T A N all dr K rest acc tm hp nx o (t == want) := by
 have := gis_eq true t want
 simp only [cnd, if_true, Bool.true_and] at this
 simp only [GV, GG, this, exists_eq_left]
theorem gv_c (o : Oper) (want : Bool) (d : Tmp) (b t : Bool) : GV P T A N all dr K rest acc tm hp nx o want d false (some (cnd b (.one (.sc (.bool t))))) = GG P T A N all dr K rest acc tm hp nx o (b && (t == want)) := by
 simp only [GV, GG, gis_eq, exists_eq_left]
theorem gv_ud (o : Oper) (want : Bool) (d : Tmp) : GV P T A N all dr K rest acc tm hp nx o want d false (some ud) = GG P T A N all dr K rest acc tm hp nx o false := by
 have := gis_eq false false want
 simp only [cnd, zaj, if_false, Bool.false_and] at this
 simp only [GV, GG, this, exists_eq_left]
def GT (t : Bool) (p q : Prop) : Prop := (t = true → p) ∧ (t = false → q)
@[congr] theorem GT_congr {t t' : Bool} {p q : Prop} (h : t = t') : GT t p q = GT t' p q := by subst h; rfl
theorem gv_t (op : Op) (want : Bool) (d d' : Tmp) (t : Bool) : GV P T A N all dr K rest acc tm hp nx ⟨some d', op, ty, pos, after, none⟩ want d true (some (.one (.sc (.bool t)))) = (d' < N ∧ GT (t == want) (sops P T A N all dr K (⟨some d', op, ty, pos, after, none⟩ :: rest) acc ⟨(d, .one (.sc (.bool want))) :: tm, hp, nx⟩) (sops P T A N all dr K rest (([], []) :: acc) ⟨(d', ud) :: (d, .one (.sc (.bool (!want)))) :: tm, hp, nx + 1⟩)) := by
 unfold GV GT
 have e := dst_some N d'
 simp only [e]
 refine propext ⟨fun ⟨h1, h2, h3⟩ => ⟨h1, fun hb => ?_, fun hb => ?_⟩, fun ⟨h1, h2, h3⟩ => ⟨h1, fun hb => ?_, fun hb => ?_⟩⟩
 · rw [sops]
   exact ⟨by rw [dst_some]; exact h1, h2 (by simpa using hb)⟩
 · exact h3 (by revert hb; cases t <;> cases want <;> simp)
 · have := h2 (by simpa using hb)
   rw [sops] at this
   exact this.2
 · exact h3 (by revert hb; cases t <;> cases want <;> simp)
theorem bq_true (t : Bool) : (t == true) = t := by cases t <;> rfl
theorem bq_false (t : Bool) : (t == false) = !t := by cases t <;> rfl
variable (b : Bool)
theorem g_move (x : Operand) : GG P T A N all dr K rest acc tm hp nx ⟨dst, .move x, ty, pos, after, none⟩ b = S2U P T A N all dr K rest acc tm hp nx dst b (fun v => ⟨True, v, [], 0⟩) (fun _ => []) (evL tm x) := rfl
theorem g_assign (x : Operand) : GG P T A N all dr K rest acc tm hp nx ⟨dst, .assign x, ty, pos, after, none⟩ b = S2U P T A N all dr K rest acc tm hp nx dst b (fun v => ⟨True, v, [], 0⟩) (fun _ => []) (evL tm x) := rfl
theorem g_load (t : TypeId) (x : Operand) : GG P T A N all dr K rest acc tm hp nx ⟨dst, .load t x, ty, pos, after, none⟩ b = S2U P T A N all dr K rest acc tm hp nx dst b (sLoad T (hpL' hp) t) SV.ref (evL tm x) := rfl
theorem g_nilCheck (x : Operand) : GG P T A N all dr K rest acc tm hp nx ⟨dst, .nilCheck x, ty, pos, after, none⟩ b = S2U P T A N all dr K rest acc tm hp nx dst b (sNil (hpL' hp)) SV.ref (evL tm x) := rfl
theorem g_bin (op : BinOp) (t yt : TypeId) (x y : Operand) : GG P T A N all dr K rest acc tm hp nx ⟨dst, .binOp op t x y yt, ty, pos, after, none⟩ b = S2B P T A N all dr K rest acc tm hp nx dst b (sBinT T (hpL' hp) op t) SV.ref (evL tm x) (evL tm y) := rfl
theorem g_un (op : UnOp) (t : TypeId) (x : Operand) : GG P T A N all dr K rest acc tm hp nx ⟨dst, .unOp op t x, ty, pos, after, none⟩ b = S2U P T A N all dr K rest acc tm hp nx dst b (sUn T.wr op) (fun _ => []) (evL tm x) := rfl
theorem g_conv (t d : TypeId) (x : Operand) : GG P T A N all dr K rest acc tm hp nx ⟨dst, .convert t d x, ty, pos, after, none⟩ b = S2U P T A N all dr K rest acc tm hp nx dst b (sConvS T (hpL' hp) t d) SV.ref (evL tm x) := rfl
theorem g_fieldAddr (t : TypeId) (x : Operand) (f : Nat) : GG P T A N all dr K rest acc tm hp nx ⟨dst, .fieldAddr t x f, ty, pos, after, none⟩ b = S2U P T A N all dr K rest acc tm hp nx dst b (fun v => sFieldAddr T (hpL' hp) t v f) SV.ref (evL tm x) := rfl
theorem g_field (t : TypeId) (x : Operand) (f : Nat) : GG P T A N all dr K rest acc tm hp nx ⟨dst, .field t x f, ty, pos, after, none⟩ b = S2U P T A N all dr K rest acc tm hp nx dst b (fun v => sField T t v f) (fun _ => []) (evL tm x) := rfl
theorem g_indexAddr (t : TypeId) (x i : Operand) : GG P T A N all dr K rest acc tm hp nx ⟨dst, .indexAddr t x i, ty, pos, after, none⟩ b = S2B P T A N all dr K rest acc tm hp nx dst b (sIndexAddr T (hpL' hp) t) SV.ref (evL tm x) (evL tm i) := rfl
theorem g_lookup (t : TypeId) (x i : Operand) (ok : Bool) : GG P T A N all dr K rest acc tm hp nx ⟨dst, .lookup t x i ok, ty, pos, after, none⟩ b = S2B P T A N all dr K rest acc tm hp nx dst b (fun u v => sLookup T (hpL' hp) t u v ok) SV.ref (evL tm x) (evL tm i) := rfl
theorem g_index (t : TypeId) (x i : Operand) : GG P T A N all dr K rest acc tm hp nx ⟨dst, .index t x i, ty, pos, after, none⟩ b = S2B P T A N all dr K rest acc tm hp nx dst b (sIndex T t) (fun _ => []) (evL tm x) (evL tm i) := rfl
theorem g_extract (x : Operand) (i : Nat) : GG P T A N all dr K rest acc tm hp nx ⟨dst, .extract x i, ty, pos, after, none⟩ b = S2U P T A N all dr K rest acc tm hp nx dst b (fun v => sExtract v i) (fun _ => []) (evL tm x) := rfl
theorem g_len (x : Operand) (t : TypeId) : GG P T A N all dr K rest acc tm hp nx ⟨dst, .call ⟨.builtin .len, #[x], #[t]⟩, ty, pos, after, none⟩ b = S2U P T A N all dr K rest acc tm hp nx dst b (sLen T (hpL' hp) t) SV.ref (evL tm x) := by
 simp only [GG, gDo, isCall, sop, sCallB, fp, S2U, S2, zaa, zad, zab]
 rfl
def S2M (P : Program) (T : Tab) (A : An) (N : Nat) (all : Array Oper) (dr : Bool) (K : St → Prop) (rest : List Oper) (acc : List (List Nat × List Nat)) (tm : List (Nat × SV)) (hp : List (Nat × Option Row)) (nx : Nat) (dst : Option Tmp) (b : Bool) (f : SV → SV → Res) (x y : SV) : Prop :=
  S2 P T A N all dr K rest acc tm hp nx dst b (f x y) (x.ref ++ y.ref)
@[congr] theorem S2M_congr {nx' : Nat} {b b' : Bool} {f : SV → SV → Res} {x x' y y' : SV} {dst : Option Tmp} (h0 : nx = nx') (hb : b = b') (h1 : x = x') (h2 : y = y') : S2M P T A N all dr K rest acc tm hp nx dst b f x y = S2M P T A N all dr K rest acc tm hp nx' dst b' f x' y' := by subst h0; subst hb; subst h1; subst h2; rfl
theorem s2m_l (b : Bool) (f : SV → SV → Res) (x y : SV) {dst : Option Tmp} : S2M P T A N all dr K rest acc tm hp nx dst b f (cnd b x) y = S2M P T A N all dr K rest acc tm hp nx dst b f x y :=
  s2_eq b fun h => by simp [cnd, h]
theorem s2m_r (b : Bool) (f : SV → SV → Res) (x y : SV) {dst : Option Tmp} : S2M P T A N all dr K rest acc tm hp nx dst b f x (cnd b y) = S2M P T A N all dr K rest acc tm hp nx dst b f x y :=
  s2_eq b fun h => by simp [cnd, h]
theorem s2m_ii (b : Bool) (f : SV → SV → Res) (k k' : IntKind) (m n : Int) {dst : Option Tmp} : S2M P T A N all dr K rest acc tm hp nx dst b f (.one (.sc (.int k m))) (.one (.sc (.int k' n))) = S2 P T A N all dr K rest acc tm hp nx dst b (f (.one (.sc (.int k m))) (.one (.sc (.int k' n)))) [] := rfl
theorem s2m_false {dst : Option Tmp} (f : SV → SV → Res) (x y : SV) : S2M P T A N all dr K rest acc tm hp nx dst false f x y = S1 P T A N all dr K rest acc tm hp nx dst ⟨True, ud, [], 0⟩ [] := s2_false _ _
theorem g_min (x y : Operand) (tys : Array TypeId) : GG P T A N all dr K rest acc tm hp nx ⟨dst, .call ⟨.builtin .min, #[x, y], tys⟩, ty, pos, after, none⟩ b = S2M P T A N all dr K rest acc tm hp nx dst b (fun u v => sMin [u, v]) (evL tm x) (evL tm y) := by
 simp only [GG, gDo, isCall, sop, sCallB, fp, S2M, S2, zaa, zad, zab]
 rfl
theorem g_max (x y : Operand) (tys : Array TypeId) : GG P T A N all dr K rest acc tm hp nx ⟨dst, .call ⟨.builtin .max, #[x, y], tys⟩, ty, pos, after, none⟩ b = S2M P T A N all dr K rest acc tm hp nx dst b (fun u v => sMax [u, v]) (evL tm x) (evL tm y) := by
 simp only [GG, gDo, isCall, sop, sCallB, fp, S2M, S2, zaa, zad, zab]
 rfl
def S2P (P : Program) (T : Tab) (A : An) (N : Nat) (all : Array Oper) (dr : Bool) (K : St → Prop) (rest : List Oper) (acc : List (List Nat × List Nat)) (tm : List (Nat × SV)) (hp : List (Nat × Option Row)) (nx : Nat) (dst : Option Tmp) (b : Bool) (c x y : SV) : Prop :=
  S2 P T A N all dr K rest acc tm hp nx dst b (sPick c x y) []
@[congr] theorem S2P_congr {nx' : Nat} {c c' x x' y y' : SV} (h0 : nx = nx') (h1 : c = c') (h2 : x = x') (h3 : y = y') : S2P P T A N all dr K rest acc tm hp nx dst b c x y = S2P P T A N all dr K rest acc tm hp nx' dst b c' x' y' := by subst h0; subst h1; subst h2; subst h3; rfl
theorem g_pick (c x y : Operand) : GG P T A N all dr K rest acc tm hp nx ⟨dst, .pick c x y, ty, pos, after, none⟩ b = S2P P T A N all dr K rest acc tm hp nx dst b (evL tm c) (evL tm x) (evL tm y) := rfl
theorem s2p_c (c x y : SV) : S2P P T A N all dr K rest acc tm hp nx dst b (cnd b c) x y = S2P P T A N all dr K rest acc tm hp nx dst b c x y := s2_eq b fun h => by simp [cnd, h]
theorem s2p_x (c x y : SV) : S2P P T A N all dr K rest acc tm hp nx dst b c (cnd b x) y = S2P P T A N all dr K rest acc tm hp nx dst b c x y := s2_eq b fun h => by simp [cnd, h]
theorem s2p_y (c x y : SV) : S2P P T A N all dr K rest acc tm hp nx dst b c x (cnd b y) = S2P P T A N all dr K rest acc tm hp nx dst b c x y := s2_eq b fun h => by simp [cnd, h]
theorem s2p_xt (t : Bool) (x y : SV) : S2P P T A N all dr K rest acc tm hp nx dst b (.one (.sc (.bool t))) (cnd (b && t) x) y = S2P P T A N all dr K rest acc tm hp nx dst b (.one (.sc (.bool t))) x y := s2_eq b fun h => by subst h; cases t <;> simp [cnd, sPick]
theorem s2p_yt (t : Bool) (x y : SV) : S2P P T A N all dr K rest acc tm hp nx dst b (.one (.sc (.bool t))) x (cnd (b && !t) y) = S2P P T A N all dr K rest acc tm hp nx dst b (.one (.sc (.bool t))) x y := s2_eq b fun h => by subst h; cases t <;> simp [cnd, sPick]
theorem s2p_yn (t : Bool) (x y : SV) : S2P P T A N all dr K rest acc tm hp nx dst b (.one (.sc (.bool (!t)))) x (cnd (b && t) y) = S2P P T A N all dr K rest acc tm hp nx dst b (.one (.sc (.bool (!t)))) x y := s2_eq b fun h => by subst h; cases t <;> simp [cnd, sPick]
theorem s2p_false (c x y : SV) : S2P P T A N all dr K rest acc tm hp nx dst false c x y = S1 P T A N all dr K rest acc tm hp nx dst ⟨True, ud, [], 0⟩ [] := s2_false _ _
theorem s2p_true (t : Bool) (x y : SV) : S2P P T A N all dr K rest acc tm hp nx dst true (.one (.sc (.bool t))) x y = S1 P T A N all dr K rest acc tm hp nx dst ⟨True, mrg t x y, [], 0⟩ [] := by
 unfold S2P S2 S1 GN
 simp only [sPick, cnd, gfp, if_true, true_implies, true_and, zal]
 rfl
theorem s2p_b (t p q : Bool) : S2P P T A N all dr K rest acc tm hp nx dst b (.one (.sc (.bool t))) (.one (.sc (.bool p))) (.one (.sc (.bool q))) = S2 P T A N all dr K rest acc tm hp nx dst b ⟨True, .one (.sc (.bool (bif t then p else q))), [], 0⟩ [] := s2_eq b fun h => by cases t <;> simp [sPick]
theorem s2p_i (t : Bool) (k : IntKind) (p q : Int) : S2P P T A N all dr K rest acc tm hp nx dst b (.one (.sc (.bool t))) (.one (.sc (.int k p))) (.one (.sc (.int k q))) = S2 P T A N all dr K rest acc tm hp nx dst b ⟨True, .one (.sc (.int k (if t = true then p else q))), [], 0⟩ [] := s2_eq b fun h => by cases t <;> simp [sPick]
def CG (P : Program) (T : Tab) (A : An) (N : Nat) (all : Array Oper) (dr : Bool) (K : St → Prop) (rest : List Oper) (acc : List (List Nat × List Nat)) (tm : List (Nat × SV)) (hp : List (Nat × Option Row)) (nx : Nat) (dst : Option Tmp) (b : Bool) (fv : SV) (args : List SV) : Prop :=
  dstOk N dst ∧ (match fv with
    | .one (.fn f caps) => ∃ res, (b = true → CallG false (lendIds (hpL' hp) (A.lend f) (args ++ caps.map SV.one)) (hpL' hp) (args ++ caps.map SV.one) res [] ∧
          FnSpec P f ((args ++ caps.map SV.one).map (prepV (lendIds (hpL' hp) (A.lend f) (args ++ caps.map SV.one)) (hpL' hp))) (lentRows (lendIds (hpL' hp) (A.lend f) (args ++ caps.map SV.one)) (hpL' hp)) res [] ∧
          lendIds (hpL' hp) (A.lend f) (args ++ caps.map SV.one) = []) ∧
        sops P T A N all dr K rest ((gfp b (snaps [] (args ++ caps.map SV.one)), []) :: acc) (St.go ⟨tm, hp, nx⟩ dst (cnd b (res.ren (back [] nx))) [] 0)
    | _ => b = false ∧ sops P T A N all dr K rest ((gfp b [], []) :: acc) (St.go ⟨tm, hp, nx⟩ dst (cnd b ud) [] 0))
@[congr] theorem CG_congr {nx' : Nat} {fv fv' : SV} {args args' : List SV} (h0 : nx = nx') (h1 : fv = fv') (h2 : args = args') : CG P T A N all dr K rest acc tm hp nx dst b fv args = CG P T A N all dr K rest acc tm hp nx' dst b fv' args' := by subst h0; subst h1; subst h2; rfl
theorem g_call (x : Operand) (asx : List Operand) (tys : Array TypeId) : GG P T A N all dr K rest acc tm hp nx ⟨dst, .call ⟨.value x, zac asx, tys⟩, ty, pos, after, none⟩ b = CG P T A N all dr K rest acc tm hp nx dst b (evL tm x) (asx.map (evL tm)) := rfl
theorem cg_call {f : FuncId} {args args' : List SV} {res : SV} {F : List Nat} (h : b = true → FnSpec P f args' [] res []) (ha : b = true → args.map (prepV [] (hpL' hp)) = args') (hl : lendIds (hpL' hp) (A.lend f) args = []) (hs : b = true → snaps [] args = F) (hf : b = true → (∀ r ∈ F, ∃ row, hpL' hp r = some row ∧ ∀ c ∈ row.cells, c.isG = true) ∧ (F = [] ∨ res.noG)) (hk : S2 P T A N all dr K rest acc tm hp nx dst b ⟨True, res.ren (back [] nx), [], 0⟩ F) : CG P T A N all dr K rest acc tm hp nx dst b (.one (.fn f [])) args := by
 obtain ⟨h1, _, h2⟩ := hk
 refine ⟨h1, res, fun hb => ?_, ?_⟩
 · simp only [zal, zab]
   rw [hl]
   have hf := hf hb
   rw [← hs hb] at hf
   refine ⟨⟨by simp, by simp, hf.1, by simp, .inr (hf.2.imp id fun hg => ⟨hg, by simp⟩)⟩, ?_, rfl⟩
   rw [ha hb]
   exact h hb
 · simp only [zal, zab]
   have : gfp b (snaps [] args) = gfp b F := by
     cases b with
     | true => rw [hs rfl]
     | false => rfl
   rw [this]
   exact h2
theorem cg_f (f : FuncId) (args : List SV) : CG P T A N all dr K rest acc tm hp nx dst false (.one (.fn f [])) args = S1 P T A N all dr K rest acc tm hp nx dst ⟨True, ud, [], 0⟩ [] := by
 unfold CG S1
 simp only [cnd, gfp, zaj, if_false, false_implies, true_and, zal]
 exact propext ⟨fun ⟨h1, _, h2⟩ => ⟨h1, h2⟩, fun ⟨h1, h2⟩ => ⟨h1, .one .un, h2⟩⟩
theorem cg_ud (args : List SV) : CG P T A N all dr K rest acc tm hp nx dst false ud args = S1 P T A N all dr K rest acc tm hp nx dst ⟨True, ud, [], 0⟩ [] := by
 unfold CG S1
 simp only [ud, cnd, gfp, zaj, if_false, true_and, zal]
theorem cg_tp {f : FuncId} {args args' : List SV} {res : SV} (h : FnSpec P f args' [] res []) (ha : args.map (prepV [] (hpL' hp)) = args') (hl : lendIds (hpL' hp) (A.lend f) args = []) (hs : snaps [] args = []) (hk : S1 P T A N all dr K rest acc tm hp nx dst ⟨True, res.ren (back [] nx), [], 0⟩ []) : CG P T A N all dr K rest acc tm hp nx dst true (.one (.fn f [])) args := cg_call true (fun _ => h) (fun _ => ha) hl (fun _ => hs) (fun _ => ⟨by simp, .inl rfl⟩) ⟨hk.1, fun _ => ⟨hk.2.1, rfl, rfl⟩, hk.2.2⟩
theorem cg_ts {f : FuncId} {args args' : List SV} {res : SV} {F : List Nat} (h : FnSpec P f args' [] res []) (ha : args.map (prepV [] (hpL' hp)) = args') (hl : lendIds (hpL' hp) (A.lend f) args = []) (hs : snaps [] args = F) (hf : ∀ r ∈ F, ∃ row, hpL' hp r = some row ∧ ∀ c ∈ row.cells, c.isG = true) (hg : res.noG) (hk : S1 P T A N all dr K rest acc tm hp nx dst ⟨True, res.ren (back [] nx), [], 0⟩ F) : CG P T A N all dr K rest acc tm hp nx dst true (.one (.fn f [])) args := cg_call true (fun _ => h) (fun _ => ha) hl (fun _ => hs) (fun _ => ⟨hf, .inr hg⟩) ⟨hk.1, fun _ => ⟨hk.2.1, rfl, rfl⟩, hk.2.2⟩
theorem cg_any {f : FuncId} {args args' : List SV} {res : SV} (h : FnSpec P f args' [] res []) (ha : b = true → args.map (prepV [] (hpL' hp)) = args') (hl : lendIds (hpL' hp) (A.lend f) args = []) (hs : b = true → snaps [] args = []) (hk : S2 P T A N all dr K rest acc tm hp nx dst b ⟨True, res.ren (back [] nx), [], 0⟩ []) : CG P T A N all dr K rest acc tm hp nx dst b (.one (.fn f [])) args := cg_call b (fun _ => h) ha hl hs (fun _ => ⟨by simp, .inl rfl⟩) hk
theorem cg_show {f : FuncId} {args args' : List SV} {res : SV} {F : List Nat} (h : FnSpec P f args' [] res []) (ha : b = true → args.map (prepV [] (hpL' hp)) = args') (hl : lendIds (hpL' hp) (A.lend f) args = []) (hs : b = true → snaps [] args = F) (hf : ∀ r ∈ F, ∃ row, hpL' hp r = some row ∧ ∀ c ∈ row.cells, c.isG = true) (hg : res.noG) (hk : S2 P T A N all dr K rest acc tm hp nx dst b ⟨True, res.ren (back [] nx), [], 0⟩ F) : CG P T A N all dr K rest acc tm hp nx dst b (.one (.fn f [])) args := cg_call b (fun _ => h) ha hl hs (fun _ => ⟨hf, .inr hg⟩) hk
def CV (P : Program) (T : Tab) (A : An) (N : Nat) (all : Array Oper) (dr : Bool) (K : St → Prop) (rest : List Oper) (acc : List (List Nat × List Nat)) (tm : List (Nat × SV)) (hp : List (Nat × Option Row)) (nx : Nat) (dst : Option Tmp) (fv : SV) (args : List SV) : Prop :=
  dstOk N dst ∧ (match fv with
      | .one (.fn f caps) => SCall P f (args ++ caps.map SV.one) (lendIds (hpL' hp) (A.lend f) (args ++ caps.map SV.one)) ⟨tm, hp, nx⟩ dst acc (sops P T A N all dr K rest)
      | _ => False)
@[congr] theorem CV_congr {nx' : Nat} {fv fv' : SV} {args args' : List SV} (h0 : nx = nx') (h1 : fv = fv') (h2 : args = args') : CV P T A N all dr K rest acc tm hp nx dst fv args = CV P T A N all dr K rest acc tm hp nx' dst fv' args' := by subst h0; subst h1; subst h2; rfl
theorem o_call (x : Operand) (asx : List Operand) (tys : Array TypeId) : sops P T A N all dr K (⟨dst, .call ⟨.value x, zac asx, tys⟩, ty, pos, after, none⟩ :: rest) acc ⟨tm, hp, nx⟩ = CV P T A N all dr K rest acc tm hp nx dst (evL tm x) (asx.map (evL tm)) := by
 rw [sops]
 unfold CV
 congr 1
def CL (P : Program) (T : Tab) (A : An) (N : Nat) (all : Array Oper) (dr : Bool) (K : St → Prop) (rest : List Oper) (acc : List (List Nat × List Nat)) (tm : List (Nat × SV)) (hp : List (Nat × Option Row)) (nx : Nat) (dst : Option Tmp) (f : FuncId) (args : List SV) (L : List Nat) : Prop :=
  dstOk N dst ∧ SCall P f args L ⟨tm, hp, nx⟩ dst acc (sops P T A N all dr K rest)
@[congr] theorem CL_congr {f : FuncId} {args : List SV} {L L' : List Nat} (h : L = L') : CL P T A N all dr K rest acc tm hp nx dst f args L = CL P T A N all dr K rest acc tm hp nx dst f args L' := by subst h; rfl
theorem cv_fn (f : FuncId) (args : List SV) : CV P T A N all dr K rest acc tm hp nx dst (.one (.fn f [])) args = CL P T A N all dr K rest acc tm hp nx dst f args (lendIds (hpL' hp) (A.lend f) args) := by
 unfold CV CL; simp only [zal, zab]
theorem cv_fnc (f : FuncId) (c : Cell) (caps : List Cell) (args : List SV) : CV P T A N all dr K rest acc tm hp nx dst (.one (.fn f (c :: caps))) args = CL P T A N all dr K rest acc tm hp nx dst f (args ++ .one c :: caps.map SV.one) (lendIds (hpL' hp) (A.lend f) (args ++ .one c :: caps.map SV.one)) := rfl
theorem cl_call {f : FuncId} {args args' : List SV} {L : List Nat} {rows : List Row} {res : SV} {outs : List (Option Row)} (h : FnSpec P f args' rows res outs) (hok : CallOk L (hpL' hp) args res outs) (ha : args.map (prepV L (hpL' hp)) = args') (hr : lentRows L (hpL' hp) = rows) (hk : S1 P T A N all dr K rest acc tm hp nx dst ⟨True, res.ren (back L nx), outUpsFrom L nx 0 outs, outs.length - L.length⟩ (L ++ snaps L args)) : CL P T A N all dr K rest acc tm hp nx dst f args L := by
 obtain ⟨h1, _, h2⟩ := hk
 refine ⟨h1, res, outs, false, ⟨hok.nodup, hok.live, hok.shown, hok.long, .inr hok.fresh⟩, ?_, h2⟩
 subst ha; subst hr
 exact h.d
theorem cl_use0 {f : FuncId} {args args' : List SV} {L S : List Nat} {rows : List Row} {res : SV} {outs : List (Option Row)} (h : FnSpec P f args' rows res outs) (hok : CallG true L (hpL' hp) args res outs) (ha : args.map (prepV L (hpL' hp)) = args') (hr : lentRows L (hpL' hp) = rows) (hs : snaps L args = S) (hk : S1 P T A N all dr K rest acc tm hp nx dst ⟨True, res.ren (back L nx), S.map (fun r => (r, none)) ++ outUpsFrom L nx 0 outs, outs.length - L.length⟩ (L ++ S)) : CL P T A N all dr K rest acc tm hp nx dst f args L := by
 obtain ⟨h1, _, h2⟩ := hk
 subst hs
 refine ⟨h1, res, outs, true, hok, ?_, h2⟩
 subst ha; subst hr
 exact h.d
theorem cl_plain {f : FuncId} {args args' : List SV} {res : SV} {outs : List (Option Row)} (h : FnSpec P f args' [] res outs) (hs : snaps [] args = []) (ha : args.map (prepV [] (hpL' hp)) = args') (hk : S1 P T A N all dr K rest acc tm hp nx dst ⟨True, res.ren (back [] nx), outUpsFrom [] nx 0 outs, outs.length⟩ []) : CL P T A N all dr K rest acc tm hp nx dst f args [] := by
 refine cl_call h ⟨by simp, by simp, by rw [hs]; simp, by simp, .inl hs⟩ ha rfl ?_
 rw [hs]
 exact hk
theorem cl_show {f : FuncId} {args args' : List SV} {res : SV} {outs : List (Option Row)} (h : FnSpec P f args' [] res outs) (ha : args.map (prepV [] (hpL' hp)) = args') (hs : ∀ r ∈ snaps [] args, ∃ row, hpL' hp r = some row ∧ ∀ c ∈ row.cells, c.isG = true) (hg : res.noG ∧ ∀ x ∈ outs, ∀ row, x = some row → ∀ c ∈ row.cells, c.noG = true) (hk : S1 P T A N all dr K rest acc tm hp nx dst ⟨True, res.ren (back [] nx), outUpsFrom [] nx 0 outs, outs.length⟩ (snaps [] args)) : CL P T A N all dr K rest acc tm hp nx dst f args [] := by
 refine cl_call h ⟨by simp, by simp, hs, by simp, .inr hg⟩ ha rfl ?_
 exact hk
inductive Sub : List (List Nat × List Nat) → List (List Nat × List Nat) → Prop
  | nil : Sub [] []
  | gfp (b : Bool) (F w : List Nat) {a a' : List (List Nat × List Nat)} (h : Sub a a') : Sub ((gfp b F, w) :: a) ((F, w) :: a')
  | same (F w : List Nat) {a a' : List (List Nat × List Nat)} (h : Sub a a') : Sub ((F, w) :: a) ((F, w) :: a')
theorem Sub.get {a a' : List (List Nat × List Nat)} (h : Sub a a') : a.length = a'.length ∧ ∀ (i : Nat) p, a[i]? = some p → ∃ q, a'[i]? = some q ∧ (∀ r ∈ p.1, r ∈ q.1) ∧ p.2 = q.2 := by
 induction h with
 | nil => exact ⟨rfl, fun i p hp => by simp at hp⟩
 | gfp b F w h ih =>
   refine ⟨by simp [ih.1], fun i p hp => ?_⟩
   cases i with
   | zero =>
     simp at hp
     subst hp
     refine ⟨(F, w), rfl, fun r hr => ?_, rfl⟩
     cases b with
     | true => exact hr
     | false => simp [Sh.gfp] at hr
   | succ i => exact ih.2 i p (by simpa using hp)
 | same F w h ih =>
   refine ⟨by simp [ih.1], fun i p hp => ?_⟩
   cases i with
   | zero => simp at hp; subst hp; exact ⟨(F, w), rfl, fun r hr => hr, rfl⟩
   | succ i => exact ih.2 i p (by simpa using hp)
theorem w_skip : swp P T A N .skip Q s = Q .normal s := rfl
theorem w_exit (id : Nat) : swp P T A N (.exit id) Q s = Q (.exit id) s := rfl
theorem w_ret : swp P T A N .ret Q s = Q .ret s := rfl
theorem w_seq (a b : Code) : swp P T A N (.seq a b) Q s = swp P T A N a (thenK (swp P T A N b Q) Q) s := rfl
theorem w_block (id : Nat) (b : Code) : swp P T A N (.block id b) Q s = swp P T A N b (blockK id Q) s := rfl
def RGF (P : Program) (T : Tab) (A : An) (N : Nat) (l : List Oper) (Q : Exit → St → Prop) (s : St) (b : Bool) : Prop := match b with
  | false => sops P T A N (zac l) false (Q .normal) l [] s
  | true => ∃ t, Imp A.k s t ∧ sops P T A N (zac l) false (Q .normal) l [] t
@[congr] theorem RGF_congr {l : List Oper} {b b' : Bool} (h : b = b') : RGF P T A N l Q s b = RGF P T A N l Q s b' := by rw [h]
theorem w_region_f (id : Nat) (l : List Oper) : swp P T A N (.region id (zac l) false) Q s = RGF P T A N l Q s (A.imp id) := by
 rw [swp]; cases A.imp id <;> simp [RGF]
theorem rgf_f (l : List Oper) : RGF P T A N l Q s false = sops P T A N (zac l) false (Q .normal) l [] s := rfl
theorem rgf_t {l : List Oper} (t : St) (h : Imp A.k s t) (hk : sops P T A N (zac l) false (Q .normal) l [] t) : RGF P T A N l Q s true := ⟨t, h, hk⟩
def EDG (all : Array Oper) : Prop := edgeOk all = true
@[congr] theorem EDG_congr : EDG all = EDG all := rfl
def RGT (P : Program) (T : Tab) (A : An) (N : Nat) (l : List Oper) (Q : Exit → St → Prop) (s : St) (b : Bool) : Prop := match b with
  | false => EDG (zac l) ∧ sops P T A N (zac l) true (Q .normal) l [] s
  | true => ∃ t, Imp A.k s t ∧ EDG (zac l) ∧ sops P T A N (zac l) true (Q .normal) l [] t
@[congr] theorem RGT_congr {l : List Oper} {b b' : Bool} (h : b = b') : RGT P T A N l Q s b = RGT P T A N l Q s b' := by rw [h]
theorem w_region_t (id : Nat) (l : List Oper) : swp P T A N (.region id (zac l) true) Q s = RGT P T A N l Q s (A.imp id) := by
 rw [swp]; cases A.imp id <;> simp [RGT, EDG]
theorem rgt_f (l : List Oper) : RGT P T A N l Q s false = (EDG (zac l) ∧ sops P T A N (zac l) true (Q .normal) l [] s) := rfl
def CD (P : Program) (T : Tab) (A : An) (N : Nat) (x y : Code) (Q : Exit → St → Prop) (tm : List (Nat × SV)) (hp : List (Nat × Option Row)) (nx : Nat) (cut : Bool) (c : SV) : Prop :=
  match c with
    | .one (.sc (.bool t)) => (match cut with
      | false => SIf t (swp P T A N x Q ⟨tm, hp, nx⟩) (swp P T A N y Q ⟨tm, hp, nx⟩)
      | true => SCut A.k t (swp P T A N x) (swp P T A N y) Q ⟨tm, hp, nx⟩)
    | _ => False
@[congr] theorem CD_congr {x y : Code} {nx' : Nat} {cut cut' : Bool} {c c' : SV} (h0 : nx = nx') (h1 : cut = cut') (h2 : c = c') : CD P T A N x y Q tm hp nx cut c = CD P T A N x y Q tm hp nx' cut' c' := by subst h0; subst h1; subst h2; rfl
theorem w_cond (c : Operand) (x y : Code) : swp P T A N (.cond c x y) Q ⟨tm, hp, nx⟩ = CD P T A N x y Q tm hp nx (A.cut (tmpOf c)) (evL tm c) := rfl
theorem cd_t (x y : Code) (cut : Bool) (h : cut = false) : CD P T A N x y Q tm hp nx cut (.one (.sc (.bool true))) = swp P T A N x Q ⟨tm, hp, nx⟩ := by
 subst h; simp [CD, SIf]
theorem cd_true (x y : Code) : CD P T A N x y Q tm hp nx false (.one (.sc (.bool true))) = swp P T A N x Q ⟨tm, hp, nx⟩ := cd_t x y _ rfl
theorem cd_false (x y : Code) : CD P T A N x y Q tm hp nx false (.one (.sc (.bool false))) = swp P T A N y Q ⟨tm, hp, nx⟩ := by simp [CD, SIf]
theorem cd_cut {x y : Code} {t : Bool} (J : St → Prop) (h1 : t = true → swp P T A N x (thenK (impK A.k J) Q) ⟨tm, hp, nx⟩) (h2 : t = false → swp P T A N y (thenK (impK A.k J) Q) ⟨tm, hp, nx⟩) (h3 : ∀ u, J u → Q .normal u) : CD P T A N x y Q tm hp nx true (.one (.sc (.bool t))) := ⟨J, ⟨h1, h2⟩, h3⟩
theorem cd_cut1 {x y : Code} {t : Bool} (u : St) (h1 : t = true → swp P T A N x (thenK (impK A.k (· = u)) Q) ⟨tm, hp, nx⟩) (h2 : t = false → swp P T A N y (thenK (impK A.k (· = u)) Q) ⟨tm, hp, nx⟩) (h3 : Q .normal u) : CD P T A N x y Q tm hp nx true (.one (.sc (.bool t))) := cd_cut (· = u) h1 h2 (fun _ e => e ▸ h3)
theorem k_imp (n : Nat) (J : St → Prop) : impK n J s = ∃ t, Imp n s t ∧ J t := rfl
theorem k_seq (k : St → Prop) : thenK k Q .normal s = k s := rfl
theorem k_seq_exit (k : St → Prop) (i : Nat) : thenK k Q (.exit i) s = Q (.exit i) s := rfl
theorem k_seq_ret (k : St → Prop) : thenK k Q .ret s = Q .ret s := rfl
theorem k_blk (id : Nat) : blockK id Q .normal s = Q .normal s := rfl
theorem k_blk_exit (id i : Nat) : blockK id Q (.exit i) s = if i = id then Q .normal s else Q (.exit i) s := rfl
theorem k_blk_ret (id : Nat) : blockK id Q .ret s = Q .ret s := rfl
def LP (P : Program) (T : Tab) (A : An) (N : Nat) (b : Code) (Q : Exit → St → Prop) (s : St) : Prop := SLoop A.k (swp P T A N b) Q s
@[congr] theorem LP_congr {b : Code} : LP P T A N b Q s = LP P T A N b Q s := rfl
theorem w_loop_eq (b : Code) : swp P T A N (.loop b) Q s = LP P T A N b Q s := rfl
def LK {ι : Type} (n : Nat) (st : ι → St) (inv : ι → Prop) (μ : ι → Nat) (x : ι) (Q : Exit → St → Prop) : Exit → St → Prop := loopK n st inv μ x Q
def LE {ι : Type} (n : Nat) (st : ι → St) (inv : ι → Prop) (μ : ι → Nat) (x : ι) (s : St) : Prop := ∃ x', Imp n s (st x') ∧ inv x' ∧ μ x' < μ x
@[congr] theorem LE_congr {ι : Type} {n : Nat} {st : ι → St} {inv : ι → Prop} {μ : ι → Nat} {x : ι} : LE n st inv μ x s = LE n st inv μ x s := rfl
theorem w_loop {ι : Type} (st : ι → St) (inv : ι → Prop) (μ : ι → Nat) {b : Code} (x : ι) (h0 : Imp A.k s (st x)) (h1 : inv x) (h2 : ∀ x, inv x → swp P T A N b (LK A.k st inv μ x Q) (st x)) : LP P T A N b Q s :=
  ⟨ι, st, inv, μ, ⟨x, h0, h1⟩, h2⟩
theorem k_loop {ι : Type} (n : Nat) (st : ι → St) (inv : ι → Prop) (μ : ι → Nat) (x : ι) : LK n st inv μ x Q .normal s = LE n st inv μ x s := rfl
theorem k_loop_exit {ι : Type} (n : Nat) (st : ι → St) (inv : ι → Prop) (μ : ι → Nat) (x : ι) (i : Nat) : LK n st inv μ x Q (.exit i) s = Q (.exit i) s := rfl
theorem k_loop_ret {ι : Type} (n : Nat) (st : ι → St) (inv : ι → Prop) (μ : ι → Nat) (x : ι) : LK n st inv μ x Q .ret s = Q .ret s := rfl
theorem le_mk {ι : Type} {n : Nat} {st : ι → St} {inv : ι → Prop} {μ : ι → Nat} {x : ι} (x' : ι) (h : Imp n s (st x')) (h1 : inv x') (h2 : μ x' < μ x) : LE n st inv μ x s := ⟨x', h, h1, h2⟩
def FS (T : Tab) (rs : List ResultVar) (k : Nat) (res : SV) (outs : List (Option Row)) (s : St) : Prop := FinI T rs k res outs s
theorem k_fin (rs : List ResultVar) (k : Nat) (res : SV) (outs : List (Option Row)) : FinX T rs k res outs .normal s = FS T rs k res outs s := rfl
theorem k_fin_ret (rs : List ResultVar) (k : Nat) (res : SV) (outs : List (Option Row)) : FinX T rs k res outs .ret s = FS T rs k res outs s := rfl
theorem fs_nil {rs : List ResultVar} {res : SV} (h1 : (resV T s rs).1) (h2 : (resS (resV T s rs).2).ren (fun _ => none) = res) : FS T rs 0 res [] s :=
  ⟨s, res, Imp.refl _ _, ⟨[], by simp, fun j hj => by omega, h1, h2, rfl, fun r hr => by cases hr⟩, SVW.refl _⟩
theorem fs_w {rs : List ResultVar} {res : SV} (h1 : (resV T s rs).1) (h2 : SVW ((resS (resV T s rs).2).ren (fun _ => none)) res) : FS T rs 0 res [] s :=
  ⟨s, _, Imp.refl _ _, ⟨[], by simp, fun j hj => by omega, h1, rfl, rfl, fun r hr => by cases hr⟩, h2⟩
theorem fs_res {rs : List ResultVar} {k : Nat} {res0 res : SV} {outs : List (Option Row)} (hw : SVW res0 res) (h : FS T rs k res0 outs s) : FS T rs k res outs s := by
 obtain ⟨u, r0, h1, h2, h3⟩ := h
 exact ⟨u, r0, h1, h2, ⟨fun m π v hv => hw.1 m π v (h3.1 m π v hv), fun Fr hc => hw.2 Fr (h3.2 Fr hc)⟩⟩
theorem fs_imp {rs : List ResultVar} {k : Nat} {res : SV} {outs : List (Option Row)} (t : St) (hi : Imp k s t) (h : FS T rs k res outs t) : FS T rs k res outs s := by
 obtain ⟨u, r0, h1, h2⟩ := h
 exact ⟨u, r0, hi.trans h1, h2⟩
theorem fs_mk {rs : List ResultVar} {k : Nat} {res : SV} {outs : List (Option Row)} (σ : List Nat) (hn : σ.Nodup) (hk : ∀ j, j < k → σ[j]? = some j) (h1 : (resV T s rs).1) (h2 : (resS (resV T s rs).2).ren (fun q => idx q σ) = res)
    (h3 : σ.map (fun r => renO (fun q => idx q σ) (s.hpF r)) = outs) (h4 : ∀ r ∈ σ, ∀ row, s.hpF r = some row → ∀ c ∈ row.cells, ∀ q ∈ c.refs, q ∈ σ) : FS T rs k res outs s := ⟨s, res, Imp.refl _ _, ⟨σ, hn, hk, h1, h2, h3, h4⟩, SVW.refl _⟩
end
theorem inR_i64 (n : Int) : inR .i64 n = (-9223372036854775808 ≤ n ∧ n ≤ 9223372036854775807) := rfl
theorem imp_tm (k : Nat) (s t : St) (h5 : ∀ x ∈ t.tm, slot x.1 s.tm = some x.2) (h6 : t.hp = s.hp) (h4 : s.nx ≤ t.nx) : Imp k s t := by
 intro P w0 A N a w m π hk h
 have hsub : ∀ r, t.nx ≤ r → s.nx ≤ r := fun r hr => Nat.le_trans h4 hr
 have h1 := h.frmono hsub
 have ehp : t.hpF = s.hpF := by unfold St.hpF; rw [h6]
 refine ⟨m, π, ?_⟩
 rw [ehp]
 have hmem : ∀ (l : List (Nat × SV)) j v, slot j l = some v → (j, v) ∈ l := by
   intro l
   induction l with
   | nil => intro j v hj; cases hj
   | cons y l ih =>
     intro j v hj
     unfold slot at hj
     split at hj
     · rename_i e; cases hj; subst e; simp
     · exact zam _ (ih j v hj)
 exact h1.weaken fun j v hj => h5 (j, v) (hmem _ _ _ hj)
def flat (cs : List Cell) : Prop := ∀ c ∈ cs, c.refs = []
theorem flat_nil : flat [] := by simp [flat]
theorem flat_cons (c : Cell) (cs : List Cell) : flat (c :: cs) = (c.refs = [] ∧ flat cs) := by simp [flat]
theorem flat_app (a b : List Cell) : flat (a ++ b) = (flat a ∧ flat b) := by
 simp only [flat, List.mem_append, or_imp, forall_and]
theorem flat_ints (xs : List Int) : flat (Ints xs) := by
 intro c hc
 obtain ⟨x, _, rfl⟩ := List.mem_map.1 hc
 rfl
theorem flat_ren {cs : List Cell} (h : flat cs) (ρ : Nat → Option Nat) : cs.map (Cell.ren ρ) = cs := by
 induction cs with
 | nil => rfl
 | cons c cs ih =>
   rw [flat_cons] at h
   rw [zao, ih h.2]
   congr 1
   have := h.1
   cases c <;> first
     | rfl
     | (simp [Cell.refs] at this)
theorem imp_ren (k : Nat) (s t : St) (R : List (Nat × Nat × Row)) (h1 : (R.map (·.1)).Nodup) (h2 : (R.map (·.2.1)).Nodup) (h3 : ∀ p ∈ R, p.1 < t.nx ∧ (p.1 < k → p.2.1 = p.1)) (h4 : k ≤ t.nx) (h5 : ∀ x ∈ t.tm, lk s (R.map fun p => (p.1, p.2.1)) x.1 = some x.2) (h6 : t.hp = R.map fun p => (p.1, some p.2.2)) (h7 : ∀ p ∈ R, s.hpF p.2.1 = some p.2.2) (h8 : ∀ p ∈ R, flat p.2.2.cells) : Imp k s t := by
 refine imp_sub k s t (R.map fun p => (p.1, p.2.1)) (by rw [zak]; exact h1) (by rw [zak]; exact h2) ?_ h4 h5 ?_ ?_
 · intro p hp
   obtain ⟨q, hq, rfl⟩ := List.mem_map.1 hp
   exact h3 q hq
 · rw [h6, zak]
   apply zaf
   intro p hp
   simp only [Function.comp, h7 p hp, renO, Row.ren, flat_ren (h8 p hp)]
 · intro p hp row hrow c hc q hq
   obtain ⟨p', hp', rfl⟩ := List.mem_map.1 hp
   rw [h7 p' hp'] at hrow
   cases hrow
   rw [h8 p' hp' c hc] at hq
   cases hq
theorem fs_flat {T : Tab} {s : St} {rs : List ResultVar} {k : Nat} {res : SV} {outs : List (Option Row)} (R : List (Nat × Row)) (hn : (R.map (·.1)).Nodup) (hk : ∀ j, j < k → (R.map (·.1))[j]? = some j) (h1 : (resV T s rs).1) (h2 : (resS (resV T s rs).2).ren (fun q => idx q (R.map (·.1))) = res)
    (h3 : ∀ p ∈ R, s.hpF p.1 = some p.2) (h8 : ∀ p ∈ R, flat p.2.cells) (ho : R.map (fun p => some p.2) = outs) : FS T rs k res outs s := by
  refine fs_mk (R.map (·.1)) hn hk h1 h2 ?_ ?_
  · rw [← ho, zak]
    apply zaf
    intro p hp
    simp only [Function.comp, h3 p hp, renO, Row.ren, flat_ren (h8 p hp)]
  · intro r hr row hrow c hc q hq
    obtain ⟨p, hp, rfl⟩ := List.mem_map.1 hr
    rw [h3 p hp] at hrow
    cases hrow
    rw [h8 p hp c hc] at hq
    cases hq
theorem lent_flat {L : List Nat} {get : Nat → Option Row} : ∀ {M : List Nat} {rows : List Row}, M.map get = rows.map some → (∀ row ∈ rows, flat row.cells) → (M.map fun r => match get r with
    | some row => row.ren fun q => idx q L
    | none => ⟨[], 0⟩) = rows
  | [], [], _, _ => rfl
  | r :: M, row :: rows, h, hf => by
    simp only [zao, List.cons.injEq] at h
    rw [zao, lent_flat h.2 (fun x hx => hf x (by simp [hx])), h.1]
    simp only [Row.ren, flat_ren (hf row (by simp))]
  | [], _ :: _, h, _ => by simp at h
  | _ :: _, [], h, _ => by simp at h
section
variable {P : Program} {T : Tab} {A : An} {N : Nat} {all : Array Oper} {dr : Bool} {K : St → Prop} {rest : List Oper} {acc : List (List Nat × List Nat)} {tm : List (Nat × SV)} {hp : List (Nat × Option Row)} {nx : Nat} {dst : Option Tmp}
theorem cl_lend {f : FuncId} {args args' : List SV} {L : List Nat} {rows : List Row} {res : SV} {outs : List (Option Row)} (hr : L.map (hpL' hp) = rows.map some) (h : FnSpec P f args' rows res outs) (ha : args.map (prepV L (hpL' hp)) = args') (hf : ∀ row ∈ rows, flat row.cells) (hs : snaps L args = []) (hn : L.Nodup) (hl : L.length ≤ outs.length) (hk : S1 P T A N all dr K rest acc tm hp nx dst ⟨True, res.ren (back L nx), outUpsFrom L nx 0 outs, outs.length - L.length⟩ L) : CL P T A N all dr K rest acc tm hp nx dst f args L := by
 refine cl_call h ⟨hn, ?_, by rw [hs]; simp, hl, .inl hs⟩ ha (lent_flat hr hf) ?_
 · intro r hr'
   have : hpL' hp r ∈ rows.map some := by rw [← hr]; exact List.mem_map_of_mem hr'
   obtain ⟨row, h1, h2⟩ := List.mem_map.1 this
   exact ⟨row, h2.symm, fun c hc q hq => by rw [hf row h1 c hc] at hq; cases hq⟩
 · rw [hs, zab]; exact hk
theorem cl_lendx {f : FuncId} {args args' : List SV} {L : List Nat} {rows : List Row} {res : SV} {outs : List (Option Row)} (ha : args.map (prepV L (hpL' hp)) = args') (hr : lentRows L (hpL' hp) = rows) (h : FnSpec P f args' rows res outs) (hf : ∀ r ∈ L, ∃ row, hpL' hp r = some row ∧ ∀ c ∈ row.cells, ∀ q ∈ c.refs, q ∈ L) (hs : snaps L args = []) (hn : L.Nodup) (hl : L.length ≤ outs.length) (hk : S1 P T A N all dr K rest acc tm hp nx dst ⟨True, res.ren (back L nx), outUpsFrom L nx 0 outs, outs.length - L.length⟩ L) : CL P T A N all dr K rest acc tm hp nx dst f args L := by
 refine cl_call h ⟨hn, hf, by rw [hs]; simp, hl, .inl hs⟩ ha hr ?_
 rw [hs, zab]; exact hk
theorem cl_use {f : FuncId} {args args' : List SV} {L S : List Nat} {rows : List Row} {res : SV} {outs : List (Option Row)} (hr : L.map (hpL' hp) = rows.map some) (h : FnSpec P f args' rows res outs) (ha : args.map (prepV L (hpL' hp)) = args') (hf : ∀ row ∈ rows, flat row.cells) (hs : snaps L args = S) (hg : ∀ r ∈ S, ∃ row, hpL' hp r = some row ∧ ∀ c ∈ row.cells, c.isG = true) (hn : L.Nodup) (hl : L.length ≤ outs.length) (hk : S1 P T A N all dr K rest acc tm hp nx dst ⟨True, res.ren (back L nx), S.map (fun r => (r, none)) ++ outUpsFrom L nx 0 outs, outs.length - L.length⟩ (L ++ S)) : CL P T A N all dr K rest acc tm hp nx dst f args L := by
 refine cl_use0 h ⟨hn, ?_, by rw [hs]; exact hg, hl, .inl rfl⟩ ha (lent_flat hr hf) hs hk
 intro r hr'
 have : hpL' hp r ∈ rows.map some := by rw [← hr]; exact List.mem_map_of_mem hr'
 obtain ⟨row, h1, h2⟩ := List.mem_map.1 this
 exact ⟨row, h2.symm, fun c hc q hq => by rw [hf row h1 c hc] at hq; cases hq⟩
end
theorem map1 (a : Row) : [some a] = [a].map some := rfl
theorem map2 (a b : Row) : [some a, some b] = [a, b].map some := rfl
theorem map3 (a b c : Row) : [some a, some b, some c] = [a, b, c].map some := rfl
theorem Ints_cat (a b : List Int) : Ints a ++ Ints b = Ints (a ++ b) := by simp [Ints]
theorem take1 {α : Type} (x : α) : List.take 1 [x] = [x] := rfl
theorem max12 : max 1 2 = 2 := rfl
theorem max13 : max 1 3 = 3 := rfl
theorem max14 : max 1 4 = 4 := rfl
theorem snaps_nil (args : List SV) : snaps [] args = args.flatMap SV.refs := by simp [snaps, idx]
attribute [go_sem ↓] w_skip w_exit w_ret w_seq w_block w_region_f w_region_t w_cond w_loop_eq k_seq k_seq_exit k_seq_ret k_blk k_blk_exit k_blk_ret k_loop k_loop_exit k_loop_ret k_fin k_fin_ret k_imp o_nil_f o_nil_t o_move o_assign o_alloc o_box o_build o_buildSlice o_load o_store o_nilCheck o_bin o_un o_conv o_make o_makeFunc o_slice o_fieldAddr o_field o_indexAddr o_index o_extract o_len o_append o_appendZ o_cap o_copy o_clear o_min o_max o_pick o_guard o_call g_move g_assign g_load g_nilCheck g_bin g_un g_conv g_fieldAddr g_field g_indexAddr g_index g_extract g_len g_pick g_call g_min g_max
attribute [go_sem] o_range o_next sRange sNext sConvS allU8 u8of o_makeMap o_lookup o_mapUpdate g_lookup sMakeMap sLookup sMapUpdate keyB mval_some mval_none cg_ud s2m_l s2m_r s2m_ii s2m_false List.take_length List.take_succ_cons List.take_zero List.drop_succ_cons rgf_f rgt_f eqCL eqV sameK gv_ud cg_f s2p_true s2_false s2u_false s2b_false s2p_false s1_some s1_none s2_some s2_none s2u_cnd s2u_one s2u_agg s2u_tup s2b_l s2b_r s2b_go s2b_ag s2b_gg cnd_true cnd_false gfp_nil gfp_true gfp_false pk_f pk_t mrg_true mrg_false mrg_cl mrg_cr mrg_cn s2p_yn mrg_b mrg_i gtmp gu_some gv_f gv_c gv_t s2p_c s2p_x s2p_y s2p_xt s2p_yt s2p_b s2p_i bq_true bq_false cv_fn cv_fnc cd_true cd_false evL hpL' evS ofV_int ofV_bool ofV_string ofV_slice ofV_pointer slot lookR pushU SV.ref sAlloc sBox sBuild sBuildSlice sLoad sStore sNil sBin sBinT sUn sConv sMake sFunc cell1 Cell.isG sSlice sFieldAddr sField sIndexAddr sIndex sExtract sLen sMin sMax sAppend1 sAppendK sAppendZ sCap sCopy sClear top sAppend slc ari V readAt readNeed sFill plS zeros ints foldMin foldMax bnd capOf tmpOf live argsTm rowsHp lendIds SV.cells SV.solid putAt inR_i64 List.filterMap_nil List.filterMap_cons zad zaa Cell.refs zao zal List.getElem?_toArray List.getElem?_cons_succ List.getElem?_cons_zero List.getElem?_nil zas List.length_nil zab List.nil_append List.cons_append List.getD_cons_zero List.set_cons_zero List.set_cons_succ List.forall_mem_cons List.not_mem_nil List.getD_cons_succ Option.map_some Option.map_none Option.getD_some Option.getD_none Option.isSome_some Option.isSome_none Nat.mul_one Nat.zero_add Nat.add_zero if_true if_false eq_self_iff_true true_and and_true Bool.true_and Bool.and_true false_and and_false true_implies implies_true false_implies zaj Bool.true_eq_false Bool.not_true Bool.not_false Bool.not_not Int.toNat_natCast Int.add_sub_cancel Nat.max_self max10 max11 max12 max13 max14 Ints_length Ints_rep Ints_cat Ints_take Ints_drop take1 List.drop_zero List.length_append Ints_set Ints_app List.length_replicate List.length_set Ints_getD List.headD_cons ne_eq not_true_eq_false not_false_eq_true decide_true decide_false cond_true cond_false Bool.cond_false_right Bool.cond_true_right Bool.cond_false_left Bool.cond_true_left
end Go.Proofs.YtnahpejlhfeleabGreat.Sh
namespace Go.Proofs.YtnahpejlhfeleabGreat.Sh
open Go.RowKit
def memW (w : World) : Mem := fun ad => if ad.spot = none ∧ ad.block < w.heap.size then w.cell? ad else none
theorem memW_some {w : World} {ad : Addr} {v : Value} (h : w.cell? ad = some v) : memW w ad = some v := by
 unfold memW
 have h0 := h
 unfold World.cell? at h
 split at h
 · rename_i c e f hb
   split at h
   · cases h
   · rename_i hs
     rw [if_pos ⟨by simpa using hs, (Array.getElem?_eq_some_iff.1 hb).1⟩]
     exact h0
 · cases h
theorem GL.none {P : Program} {A : Nat → Prop} {w : World} (h : (tabs.all fun t => (P.globalNamed t.1).isNone) = true) : GL P A w := by
 intro t ht b hb
 have := List.all_eq_true.1 h t ht
 rw [hb] at this
 cases this
theorem GL.of {P : Program} {w : World} (h : ∀ t ∈ tabs, ∀ b, P.globalNamed t.1 = some b → Lib.TabIs P w t.1 t.2.1 t.2.2) : GL P (fun b => w.heap.size ≤ b) w := by
 intro t ht b hb
 refine ⟨fun hle => ?_, h t ht b hb⟩
 have h2 : w.var? P t.1 = some _ := h t ht b hb
 unfold World.var? at h2
 rw [hb] at h2
 simp only [Option.bind_some, Array.getElem?_eq_none hle] at h2
 cases h2
theorem entry {P : Program} {f : FuncId} {args : List SV} (h : FnSpec P f args [] (b1 true) []) (w : World) (vals : Array Value) (hv : VSL (memW w) (fun _ => none) args vals.toList) (hcl : SV.clL (0 ≤ ·) args) (hg : GL P (fun b => w.heap.size ≤ b) w) :
    Calls P f vals w fun e w' => e = .returned (.bool true) ∧ Below w.heap.size w w' := by
  have hrel : RelAt P (base w (memW w) (fun _ => none) 0 (fun b => w.heap.size ≤ b)) (fun b => w.heap.size ≤ b) 0 (0 ≤ ·) (fun _ => none) (hpL (([] : List Row).map some)) ⟨#[], []⟩ w (memW w) (fun _ => none) :=
    { defers := rfl, size := rfl, tms := fun k v hk => by simp at hk, tcl := fun k v hk => by simp at hk, rows := fun r row hr => by simp [hpL] at hr, rcl := fun r row hr => by simp [hpL] at hr,
      rsol := fun r row hr => by simp [hpL] at hr, live := fun r _ => rfl, fresh := fun r _ => by simp [hpL], inj := fun r r' p p' hr => by simp at hr,
      mok := fun ad v hm => by
        unfold memW at hm
        split at hm
        · rename_i hs; exact ⟨hs.1, hm⟩
        · cases hm
      dis := fun r p ad v hr => by simp at hr, new := fun b hb => hb, keep := ⟨rfl, rfl, rfl, zag _, fun _ _ _ => rfl⟩,
      mg := fun ad v hm => .inl (by rw [hm]; rfl), gnew := fun ad ha => .inr ha, org := fun r _ => .inr rfl, frk := fun r hr => hr, gl := hg }
  refine (h.2 w vals (memW w) (fun _ => none) (fun b => w.heap.size ≤ b) (fun b => by simp) hrel hv hcl).mono ?_
  rintro e w' ⟨v, m', π', rfl, h1, h2, h3⟩
  have hv := (vs_sc h2).1
  subst hv
  refine ⟨rfl, h1.keep.os, h1.keep.tape, h1.keep.output, h1.keep.size, fun k hk => h1.keep.block k hk (by simpa using hk)⟩
theorem wf_i64 {n : Int} (h : (Lit.int .i64 n).wf = true) : -9223372036854775808 ≤ n ∧ n ≤ 9223372036854775807 := by
 have : IntKind.i64.min ≤ n ∧ n ≤ IntKind.i64.max := by simpa [Lit.wf] using h
 exact this
end Go.Proofs.YtnahpejlhfeleabGreat.Sh
namespace Go.Proofs.YtnahpejlhfeleabGreat.Sh
open Go.RowKit Go.WideShapes Go.ChangeShapes
def GFlds (G : TypeId → List Cell → Prop) : List TypeId → List Cell → Prop
  | [], cs => cs = []
  | t :: ts, cs => ∃ a b, cs = a ++ b ∧ G t a ∧ GFlds G ts b
def GTy (P : Program) : Nat → TypeId → List Cell → Prop
  | 0, _, _ => False
  | n + 1, t, cs => match P.underlying t with
    | some .bool => ∃ b, cs = [.sc (.bool b)]
    | some (.int k) => ∃ m, cs = [.sc (.int k m)] ∧ (Lit.int k m).wf = true
    | some .string => ∃ s : ByteArray, cs = [.sc (.string s)] ∧ s.size ≤ maxLen
    | some (.slice e) => ∃ ess : List (List Cell), cs = [.gsl ess.flatten 0 ess.length none] ∧ ess.length ≤ maxLen ∧ ∀ es ∈ ess, GTy P n e es
    | some (.struct fs) => GFlds (GTy P n) (fs.toList.map (·.type)) cs
    | some (.array k e) => GFlds (GTy P n) (zan k e) cs
    | _ => False
def supp (P : Program) : Nat → TypeId → Bool
  | 0, _ => false
  | n + 1, t => match P.underlying t with
    | some .bool => true
    | some (.int _) => true
    | some .string => true
    | some (.slice e) => decide (0 < P.cellsOf e) && supp P n e
    | some (.struct fs) => tiles P 0 fs.toList (P.cellsOf t) && fs.toList.all fun f => supp P n f.type
    | some (.array k e) => decide (P.cellsOf t = k * P.cellsOf e) && supp P n e
    | _ => false
def VGL (w : World) (gs : List Cell) (cs : List Value) : Prop := gs.length = cs.length ∧ ∀ (i : Nat) g v, gs[i]? = some g → cs[i]? = some v → VG (memW w) g v
theorem VGL.append {w : World} {a b : List Cell} {c d : List Value} (h1 : VGL w a c) (h2 : VGL w b d) : VGL w (a ++ b) (c ++ d) := by
 refine ⟨by simp [h1.1, h2.1], fun i g v hg hv => ?_⟩
 rcases Nat.lt_or_ge i a.length with hi | hi
 · rw [List.getElem?_append_left hi] at hg
   rw [List.getElem?_append_left (by rw [← h1.1]; exact hi)] at hv
   exact h1.2 i g v hg hv
 · rw [List.getElem?_append_right hi] at hg
   rw [List.getElem?_append_right (by rw [← h1.1]; exact hi), ← h1.1] at hv
   exact h2.2 _ g v hg hv
theorem VGL.vl {w : World} : ∀ {gs : List Cell} {cs : List Value}, VGL w gs cs → VL (memW w) (fun _ => none) gs cs
  | [], [], _ => trivial
  | g :: gs, v :: cs, h => by
    refine ⟨?_, VGL.vl (gs := gs) (cs := cs) ⟨by simpa using h.1, fun i g' v' hg hv => h.2 (i + 1) g' v' (by simpa using hg) (by simpa using hv)⟩⟩
    have := h.2 0 g v (by simp) (by simp)
    cases g <;> first | exact this | cases this
  | [], _ :: _, h => by cases h.1
  | _ :: _, [], h => by cases h.1
theorem cells?_get {w : World} {base n : Nat} {a : Addr} {cs : List Value} (h : w.cells? base a n = some cs) : cs.length = n ∧ ∀ i v, cs[i]? = some v → w.cell? (a.add i) = some v := by
 unfold World.cells? at h
 split at h
 · have key : ∀ (l : List Nat) (cs : List Value), l.mapM (fun i => w.cell? (a.add i)) = some cs → cs.length = l.length ∧ ∀ (i : Nat) v, cs[i]? = some v → ∃ j, l[i]? = some j ∧ w.cell? (a.add j) = some v := by
     intro l
     induction l with
     | nil => intro cs h; simp at h; subst h; exact ⟨rfl, fun i v hv => by cases hv⟩
     | cons x l ih =>
       intro cs h
       rw [List.mapM_cons] at h
       simp only [bind, Option.bind_eq_some_iff, pure, Option.some.injEq] at h
       obtain ⟨y, hy, ys, hys, rfl⟩ := h
       obtain ⟨h1, h2⟩ := ih ys hys
       refine ⟨by simp [h1], fun i v hv => ?_⟩
       cases i with
       | zero => simp at hv; subst hv; exact ⟨x, by simp, hy⟩
       | succ i => simpa using h2 i v (by simpa using hv)
   obtain ⟨h1, h2⟩ := key _ _ h
   refine ⟨by simpa using h1, fun i v hv => ?_⟩
   obtain ⟨j, hj, hc⟩ := h2 i v hv
   have hi : i < n := by
     have := (List.getElem?_eq_some_iff.1 hv).1
     rw [h1] at this; simpa using this
   rw [List.getElem?_range hi] at hj
   cases hj
   exact hc
 · cases h
theorem spot_none {w : World} {a : Addr} {v : Value} (h : w.cell? (a.add 0) = some v) : a = ⟨a.block, a.off, none⟩ := by
 unfold Addr.add at h
 rw [if_pos rfl] at h
 unfold World.cell? at h
 split at h
 · split at h
   · cases h
   · rename_i hs
     cases a
     simp at hs ⊢
     exact hs
 · cases h
theorem add_some {a : Addr} {i : Nat} (h : a = ⟨a.block, a.off, none⟩) : a.add i = ⟨a.block, a.off + i, none⟩ := by
 unfold Addr.add
 split
 · rename_i h0; subst h0; exact h
 · rfl
section
variable {H : Type} {enc : TypeId × Value → H} {P : Program} {w : World} {base : Nat} {sp : Nat → Bool} {hd : Bool}
def Told (enc : TypeId × Value → H) (P : Program) (w : World) (base : Nat) (sp : Nat → Bool) (hd : Bool) (n : Nat) (t : TypeId) : Prop :=
  ∀ (fuel : Nat) (cs : List Value) (x : DataW H × List MemPlace), DataW.trod enc P w base sp hd fuel t cs = some x → ∃ gs, GTy P n t gs ∧ VGL w gs cs
theorem told_fields {n : Nat} {cs : List Value} : ∀ (fs : List Field) (o : Nat), tiles P o fs cs.length = true → (∀ f ∈ fs, Told enc P w base sp hd n f.type ∧ ∃ fuel x, DataW.trod enc P w base sp hd fuel f.type ((cs.drop f.offset).take (P.cellsOf f.type)) = some x) → ∃ gs, GFlds (GTy P n) (fs.map (·.type)) gs ∧ VGL w gs (cs.drop o)
  | [], o, ht, _ => by
    simp only [tiles, decide_eq_true_eq] at ht
    refine ⟨[], rfl, ?_⟩
    rw [zai (by omega)]
    exact ⟨rfl, fun i g v hg => by cases hg⟩
  | f :: fs, o, ht, hf => by
    simp only [tiles, zae, decide_eq_true_eq] at ht
    obtain ⟨rfl, ht⟩ := ht
    obtain ⟨h1, fuel, x, h2⟩ := hf f (by simp)
    obtain ⟨a, ha, hav⟩ := h1 _ _ _ h2
    obtain ⟨b, hb, hbv⟩ := told_fields fs _ ht (fun g hg => hf g (by simp [hg]))
    refine ⟨a ++ b, ⟨a, b, rfl, ha, hb⟩, ?_⟩
    have e : cs.drop f.offset = (cs.drop f.offset).take (P.cellsOf f.type) ++ cs.drop (f.offset + P.cellsOf f.type) := by
      rw [← List.drop_drop, List.take_append_drop]
    rw [e]
    exact hav.append hbv
theorem told_items {n c : Nat} {e : TypeId} {cs : List Value} (h : Told enc P w base sp hd n e) : ∀ (k o : Nat), (o + k) * c = cs.length → (∀ i, i < o + k → ∃ fuel x, DataW.trod enc P w base sp hd fuel e ((cs.drop (i * c)).take c) = some x) → ∃ gs, GFlds (GTy P n) (zan k e) gs ∧ VGL w gs (cs.drop (o * c))
  | 0, o, hl, _ => by
    rw [Nat.add_zero] at hl
    refine ⟨[], rfl, ?_⟩
    rw [zai (by omega)]
    exact ⟨rfl, fun i g v hg => by cases hg⟩
  | k + 1, o, hl, hf => by
    obtain ⟨fuel, x, h2⟩ := hf o (by omega)
    obtain ⟨a, ha, hav⟩ := h _ _ _ h2
    obtain ⟨b, hb, hbv⟩ := told_items h k (o + 1) (by rw [← hl]; congr 1; omega) (fun i hi => hf i (by omega))
    refine ⟨a ++ b, ⟨a, b, rfl, ha, hb⟩, ?_⟩
    have e : cs.drop (o * c) = (cs.drop (o * c)).take c ++ cs.drop ((o + 1) * c) := by
      rw [zar, Nat.one_mul, ← List.drop_drop, List.take_append_drop]
    rw [e]
    exact hav.append hbv
theorem told_rows {n : Nat} {e : TypeId} {a : Addr} (h : Told enc P w base sp hd n e) (hpos : 0 < P.cellsOf e) : ∀ (len : Nat), (∀ i, i < len → ∃ fuel cs x, w.cells? base (a.add (i * P.cellsOf e)) (P.cellsOf e) = some cs ∧ DataW.trod enc P w base sp hd fuel e cs = some x) → ∃ ess : List (List Cell), ess.length = len ∧ (∀ es ∈ ess, GTy P n e es) ∧ ess.flatten.length = len * P.cellsOf e ∧ (0 < len → a = ⟨a.block, a.off, none⟩) ∧ ∀ (i : Nat) g, ess.flatten[i]? = some g → ∃ v, w.cell? ⟨a.block, a.off + i, none⟩ = some v ∧ VG (memW w) g v
  | 0, _ => ⟨[], rfl, by simp, by simp, by omega, by simp⟩
  | len + 1, hf => by
    obtain ⟨ess, h1, h2, h3, h4, h5⟩ := told_rows h hpos len (fun i hi => hf i (by omega))
    obtain ⟨fuel, cs, x, hc, ht⟩ := hf len (by omega)
    obtain ⟨gs, hg, hgv⟩ := h _ _ _ ht
    obtain ⟨hl, hcell⟩ := cells?_get hc
    have ha : a = ⟨a.block, a.off, none⟩ := by
      rcases Nat.eq_zero_or_pos len with h0 | h0
      · subst h0
        have hlt : 0 < cs.length := by omega
        have := hcell 0 cs[0] (by simp [hlt])
        simp only [Nat.zero_mul] at this
        have e0 : a.add 0 = a := by unfold Addr.add; rw [if_pos rfl]
        rw [e0] at this
        exact spot_none this
      · exact h4 h0
    refine ⟨ess ++ [gs], by simp [h1], fun es hes => ?_, by simp [h3, hgv.1, hl, zar], fun _ => ha, fun i g hi => ?_⟩
    · rcases List.mem_append.1 hes with q | q
      · exact h2 es q
      · simp at q; subst q; exact hg
    · simp only [List.flatten_append, List.flatten_cons, List.flatten_nil, zab] at hi
      rcases Nat.lt_or_ge i ess.flatten.length with hlt | hge
      · rw [List.getElem?_append_left hlt] at hi
        exact h5 i g hi
      · rw [List.getElem?_append_right hge, h3] at hi
        have hlt2 : i - len * P.cellsOf e < cs.length := by
          have := (List.getElem?_eq_some_iff.1 hi).1
          rw [← hgv.1]; exact this
        have hv := hcell (i - len * P.cellsOf e) cs[i - len * P.cellsOf e] (by simp [hlt2])
        have e2 : (a.add (len * P.cellsOf e)).add (i - len * P.cellsOf e) = ⟨a.block, a.off + i, none⟩ := by
          rw [add_some ha, addr_add]
          congr 1
          omega
        rw [e2] at hv
        exact ⟨_, hv, hgv.2 _ g _ hi (by simp [hlt2])⟩
theorem told_ok : ∀ (n : Nat) (t : TypeId), supp P n t = true → Told enc P w base sp hd n t
  | 0, _, h => by cases h
  | n + 1, t, hs => by
    intro fuel cs x h
    unfold supp at hs
    unfold GTy
    cases hu : P.underlying t with
    | none => simp [hu] at hs
    | some k =>
      cases k <;> simp only [hu] at hs ⊢ <;> try (cases hs; done)
      case bool =>
        obtain ⟨b, rfl, _⟩ := DataW.trod_bool hu h
        exact ⟨_, ⟨b, rfl⟩, rfl, fun i g v hg hv => by
          cases i with
          | zero => simp at hg hv; subst hg; subst hv; exact VG.sc _ rfl
          | succ i => simp at hg⟩
      case int k =>
        obtain ⟨b, rfl, _, hw⟩ := DataW.trod_int hu h
        exact ⟨_, ⟨b, rfl, hw⟩, rfl, fun i g v hg hv => by
          cases i with
          | zero => simp at hg hv; subst hg; subst hv; exact VG.sc _ rfl
          | succ i => simp at hg⟩
      case string =>
        obtain ⟨b, rfl, _, hw⟩ := DataW.trod_string hu h
        exact ⟨_, ⟨b, rfl, hw⟩, rfl, fun i g v hg hv => by
          cases i with
          | zero => simp at hg hv; subst hg; subst hv; exact VG.sc _ rfl
          | succ i => simp at hg⟩
      case slice e =>
        simp only [zae, decide_eq_true_eq] at hs
        rcases DataW.trod_slice hu h with ⟨rfl, _⟩ | ⟨a, len, cap, elems, rest, m, _, rfl, _, hb, hlc, hcm, hel, hget, _⟩
        · refine ⟨_, ⟨[], rfl, by simp, by simp⟩, rfl, fun i g v hg hv => ?_⟩
          cases i with
          | zero => simp at hg hv; subst hg; subst hv; exact VG.gnil _ _ _ (fun k hk => by cases hk)
          | succ i => simp at hg
        · obtain ⟨ess, h1, h2, h3, h4, h5⟩ := told_rows (told_ok n e hs.2) hs.1 (a := a) len (fun i hi => by
            have := hget i hi
            rw [List.getElem?_eq_getElem (by rw [hel]; exact hi)] at this
            obtain ⟨cs, hc, ht⟩ := Option.bind_eq_some_iff.1 this
            exact ⟨m, cs, _, hc, ht⟩)
          refine ⟨_, ⟨ess, rfl, by omega, h2⟩, rfl, fun i g v hg hv => ?_⟩
          cases i with
          | succ i => simp at hg
          | zero =>
            simp at hg hv; subst hg; subst hv
            rw [h1]
            classical
            refine VG.gsl _ 0 len none a.block a.off cap a (fun i => (w.cell? ⟨a.block, a.off + i, none⟩).getD (.bool false)) (fun k hk => by cases hk) hlc (fun i c hi => ?_) (fun i c hi => ?_) ?_
            · obtain ⟨v, hv, _⟩ := h5 i c hi
              rw [hv]; exact memW_some hv
            · obtain ⟨v, hv, hvg⟩ := h5 i c hi
              rw [hv]; exact hvg
            · rcases Nat.eq_zero_or_pos len with h0 | h0
              · exact .inr h0
              · left; simpa using h4 h0
      case struct fs =>
        simp only [zae, List.all_eq_true] at hs
        obtain ⟨xs, m, _, _, hl, hxl, hget⟩ := DataW.trod_struct hu h
        obtain ⟨gs, hg, hv⟩ := told_fields (enc := enc) (sp := sp) (hd := hd) (base := base) (w := w) (n := n) (cs := cs) fs.toList 0 (by rw [hl]; exact hs.1) (fun f hf => by
          refine ⟨told_ok n f.type (hs.2 f hf), m, ?_⟩
          obtain ⟨i, hi, rfl⟩ := List.getElem_of_mem hf
          have hi' : i < fs.size := by simpa using hi
          have := hget i fs[i] (by simp [hi'])
          rw [List.getElem?_eq_getElem (by rw [hxl]; exact hi')] at this
          exact ⟨_, by simpa using this⟩)
        exact ⟨gs, hg, by simpa using hv⟩
      case array k e =>
        simp only [zae, decide_eq_true_eq] at hs
        obtain ⟨xs, m, _, _, hl, hxl, hget⟩ := DataW.trod_array hu h
        obtain ⟨gs, hg, hv⟩ := told_items (c := P.cellsOf e) (cs := cs) (told_ok n e hs.2) k 0 (by rw [hl, hs.1]; simp) (fun i hi => by
          have := hget i (by omega)
          rw [List.getElem?_eq_getElem (by omega)] at this
          exact ⟨m, _, this⟩)
        exact ⟨gs, hg, by simpa using hv⟩
def svOf (P : Program) (t : TypeId) (gs : List Cell) : SV := match P.underlying t with
  | some (.struct _) => .agg gs
  | some (.array _ _) => .agg gs
  | _ => .one (gs.headD .un)
theorem vg_cl {Fr : Nat → Prop} {m : Mem} {g : Cell} {v : Value} (h : VG m g v) : g.cl Fr := by cases h <;> trivial
theorem told_value {n : Nat} {t : TypeId} {v : Value} {d : DataW H} {p : List MemPlace} {r : Reach} {b0 : Nat} (hs : supp P n t = true) (hval : Value.okWide P w r b0 t v) (h : DataW.Trod enc P w base sp hd t v d p) : ∃ gs, GTy P n t gs ∧ VS (memW w) (fun _ => none) (svOf P t gs) v ∧ (svOf P t gs).cl (0 ≤ ·) := by
 obtain ⟨fuel, hf⟩ := h
 obtain ⟨gs, hg, hv⟩ := told_ok n t hs _ _ _ hf
 refine ⟨gs, hg, ?_⟩
 have hcl : ∀ g ∈ gs, g.cl (0 ≤ ·) := by
   intro g hgm
   obtain ⟨i, hi, rfl⟩ := List.getElem_of_mem hgm
   have hi2 : i < v.cells.toList.length := by rw [← hv.1]; exact hi
   exact vg_cl (hv.2 i gs[i] v.cells.toList[i] (by simp [hi]) (by simp [hi2]))
 cases n with
 | zero => cases hs
 | succ n =>
   unfold supp at hs
   unfold svOf
   have one : ∀ u, v.cells.toList = [u] → v = u → VS (memW w) (fun _ => none) (.one (gs.headD .un)) v ∧ (SV.one (gs.headD .un)).cl (0 ≤ ·) := by
     intro u hu he
     subst he
     rw [hu] at hv
     match gs, hv, hcl with
     | [g], hv, hcl => exact ⟨(VGL.vl hv).1, hcl g (by simp)⟩
     | [], hv, _ => cases hv.1
     | _ :: _ :: _, hv, _ => have := hv.1; simp at this
   cases hu : P.underlying t with
   | none => simp [hu] at hs
   | some k =>
     cases k <;> simp only [hu] at hs ⊢ <;> try (cases hs; done)
     case bool =>
       simp only [Value.okWide, hu, Cell.okWide] at hval
       cases v <;> first | exact one _ rfl rfl | (simp [Cell.ok] at hval)
     case int k =>
       simp only [Value.okWide, hu, Cell.okWide] at hval
       cases v <;> first | exact one _ rfl rfl | (simp [Cell.ok] at hval)
     case string =>
       simp only [Value.okWide, hu, Cell.okWide] at hval
       cases v <;> first | exact one _ rfl rfl | (simp [Cell.ok] at hval)
     case slice e =>
       obtain ⟨a, len, cap, rfl⟩ := okWide_slice hu hval
       exact one _ rfl rfl
     case struct fs =>
       obtain ⟨cs, rfl, _⟩ := okWide_struct hu hval
       exact ⟨⟨cs, rfl, VGL.vl hv⟩, hcl⟩
     case array k e =>
       simp only [Value.okWide, hu] at hval
       obtain ⟨cs, rfl, _⟩ := hval
       exact ⟨⟨cs, rfl, VGL.vl hv⟩, hcl⟩
theorem gty_int {n : Nat} {t : TypeId} {k : IntKind} {g : List Cell} (ht : P.underlying t = some (.int k)) (h : GTy P (n + 1) t g) : ∃ m, g = [.sc (.int k m)] ∧ (Lit.int k m).wf = true := by
 unfold GTy at h; rw [ht] at h; exact h
theorem gty_str {n : Nat} {t : TypeId} {g : List Cell} (ht : P.underlying t = some .string) (h : GTy P (n + 1) t g) : ∃ s : ByteArray, g = [.sc (.string s)] ∧ s.size ≤ maxLen := by
 unfold GTy at h; rw [ht] at h; exact h
theorem gty_struct {n : Nat} {t : TypeId} {fs : Array Field} {g : List Cell} (ht : P.underlying t = some (.struct fs)) (h : GTy P (n + 1) t g) : GFlds (GTy P n) (fs.toList.map (·.type)) g := by
 unfold GTy at h; rw [ht] at h; exact h
theorem gty_slice {n : Nat} {t e : TypeId} {g : List Cell} (ht : P.underlying t = some (.slice e)) (h : GTy P (n + 1) t g) : ∃ ess : List (List Cell), g = [.gsl ess.flatten 0 ess.length none] ∧ ess.length ≤ maxLen ∧ ∀ es ∈ ess, GTy P n e es := by
 unfold GTy at h; rw [ht] at h; exact h
theorem gty_ints {n : Nat} {t e : TypeId} {g : List Cell} (ht : P.underlying t = some (.slice e)) (he : P.underlying e = some (.int .i64)) (h : GTy P (n + 2) t g) : ∃ l : List Int, g = [.gsl (Ints l) 0 l.length none] ∧ l.length ≤ maxLen ∧ ∀ x ∈ l, -9223372036854775808 ≤ x ∧ x ≤ 9223372036854775807 := by
 obtain ⟨ess, rfl, hl, hf⟩ := gty_slice ht h
 have : ∃ l : List Int, ess = l.map (fun x => [int x]) ∧ ∀ x ∈ l, (Lit.int .i64 x).wf = true := by
   clear hl h
   induction ess with
   | nil => exact ⟨[], rfl, by simp⟩
   | cons es ess ih =>
     obtain ⟨l, rfl, h2⟩ := ih (fun x hx => hf x (by simp [hx]))
     obtain ⟨m, rfl, hm⟩ := gty_int he (hf es (by simp))
     exact ⟨m :: l, rfl, fun x hx => by rcases List.mem_cons.1 hx with rfl | q; (· exact hm); exact h2 x q⟩
 obtain ⟨l, rfl, h2⟩ := this
 have e1 : (l.map fun x => [int x]).flatten = Ints l := by
   unfold Ints
   clear h h2 hl hf
   induction l with
   | nil => rfl
   | cons x l ih => simp [ih]
 refine ⟨l, by rw [e1]; simp, by simpa using hl, fun x hx => wf_i64 (h2 x hx)⟩
end
end Go.Proofs.YtnahpejlhfeleabGreat.Sh
namespace Go.Proofs.YtnahpejlhfeleabGreat.Sh
open Go.RowKit
def Bools (xs : List Bool) : List Cell := xs.map bool
theorem Bools_length (xs : List Bool) : (Bools xs).length = xs.length := by simp [Bools]
theorem Bools_getD (xs : List Bool) (i : Nat) : (Bools xs).getD i (.sc (.bool false)) = bool (xs.getD i false) := by
 simp only [Bools, List.getD_eq_getElem?_getD, List.getElem?_map]
 cases xs[i]? <;> rfl
theorem Bools_set (xs : List Bool) (i : Nat) (b : Bool) : (Bools xs).set i (.sc (.bool b)) = Bools (xs.set i b) := by simp [Bools, List.map_set]
theorem Bools_ren (ρ : Nat → Option Nat) (xs : List Bool) : (Bools xs).map (Cell.ren ρ) = Bools xs := by
 simp only [Bools, zak]; apply zaf; intros; rfl
theorem Bools_frz (r : Nat) (cells : List Cell) (xs : List Bool) : (Bools xs).map (Cell.frz r cells) = Bools xs := by
 simp only [Bools, zak]; apply zaf; intros; rfl
theorem Bools_rep (n : Nat) (b : Bool) : zan n (Cell.sc (.bool b)) = Bools (zan n b) := by simp [Bools]
theorem flat_bools (xs : List Bool) : flat (Bools xs) := by
 intro c hc
 obtain ⟨b, _, rfl⟩ := List.mem_map.1 hc
 rfl
theorem Bools_isG (xs : List Bool) : ∀ c ∈ Bools xs, c.isG = true := by
 intro c hc
 obtain ⟨b, _, rfl⟩ := List.mem_map.1 hc
 rfl
attribute [go_sem] Bools_length Bools_getD Bools_set Bools_rep
theorem fs_frz {T : Tab} {rs : List ResultVar} {k : Nat} {res : SV} {outs : List (Option Row)} {s : St} (r : Nat) (row : Row) (hr : s.hpF r = some row) (hg : ∀ c ∈ row.cells, c.isG = true) (h : FS T rs k res outs ⟨frzTm r row.cells s.tm, (r, none) :: frzHp r row.cells s.hp, s.nx⟩) : FS T rs k res outs s := fs_imp _ (imp_frz k s r row hr hg) h
theorem gt_true (p q : Prop) : Sh.GT true p q = p := by simp [Sh.GT]
theorem gt_false (p q : Prop) : Sh.GT false p q = q := by simp [Sh.GT]
theorem pt_true (p q : Prop) : PT true p q = p := by simp [PT]
theorem pt_false (p q : Prop) : PT false p q = q := by simp [PT]
attribute [go_sem] gt_true gt_false pt_true pt_false
theorem gt_if {t : Bool} {p q : Prop} (h1 : t = true → p) (h2 : t = false → q) : Sh.GT t p q := ⟨h1, h2⟩
end Go.Proofs.YtnahpejlhfeleabGreat.Sh
namespace Go.Proofs.YtnahpejlhfeleabGreat.Sh
open Go.RowKit
def CW (c d : Cell) : Prop := (∀ (m : Mem) (π : Plc) (v : Value), VC m π c v → VC m π d v) ∧ ∀ (Fr : Nat → Prop), c.cl Fr → d.cl Fr
theorem cw_rfl (c : Cell) : CW c c := ⟨fun _ _ _ h => h, fun _ h => h⟩
theorem cw_trans {c d e : Cell} (h : CW c d) (h2 : CW d e) : CW c e := ⟨fun m π v hv => h2.1 m π v (h.1 m π v hv), fun Fr hc => h2.2 Fr (h.2 Fr hc)⟩
theorem cw_nil (cs : List Cell) (off : Nat) (cap : Option Nat) (h : ∀ k, cap = some k → k = 0) : CW (.sc (.slice none 0 0)) (.gsl cs off 0 cap) := by
 refine ⟨fun m π v hv => ?_, fun _ _ => trivial⟩
 cases hv
 exact VG.gnil cs off cap h
theorem cw_niln (cs : List Cell) (off : Nat) : CW (.sc (.slice none 0 0)) (.gsl cs off 0 none) := cw_nil cs off none (fun k h => by cases h)
theorem cw_gnil : CW (.sc (.slice none 0 0)) (.gsl [] 0 0 none) := cw_niln [] 0
theorem cw_cap (cs : List Cell) (off len : Nat) (cap : Option Nat) : CW (.gsl cs off len cap) (.gsl cs off len none) := by
 refine ⟨fun m π v hv => ?_, fun _ _ => trivial⟩
 cases hv with
 | gsl _ _ _ _ b o c ad vals hc hlc hm hv ha => exact VG.gsl cs off len none b o c ad vals (fun k h => by cases h) hlc hm hv ha
 | gnil _ _ _ hc => exact VG.gnil cs off none (fun k h => by cases h)
theorem cw_sub (cs : List Cell) (off len : Nat) (cap : Option Nat) (n k : Nat) : CW (.gsl cs (n + off) len cap) (.gsl ((cs.drop n).take k) off len cap) := by
 refine ⟨fun m π v hv => ?_, fun _ _ => trivial⟩
 have hget : ∀ (i : Nat) (x : Cell), ((cs.drop n).take k)[i]? = some x → cs[n + i]? = some x := by
   intro i x hi
   rw [List.getElem?_take] at hi
   split at hi
   · rw [List.getElem?_drop] at hi; exact hi
   · cases hi
 cases hv with
 | gsl _ _ _ _ b o c ad vals hc hlc hm hv ha =>
   refine VG.gsl _ off len cap b (o + n) c ad (fun i => vals (n + i)) hc hlc (fun i x hi => ?_) (fun i x hi => hv _ x (hget i x hi)) ?_
   · rw [Nat.add_assoc]; exact hm _ x (hget i x hi)
   · rw [Nat.add_assoc]; exact ha
 | gnil _ _ _ hc => exact VG.gnil _ off cap hc
theorem cw_take (cs : List Cell) (off len : Nat) (cap : Option Nat) (k : Nat) : CW (.gsl cs off len cap) (.gsl (cs.take k) off len cap) := by
 have := cw_sub cs off len cap 0 k
 rwa [Nat.zero_add, List.drop_zero] at this
def CWL : List Cell → List Cell → Prop
  | [], [] => True
  | c :: cs, d :: ds => CW c d ∧ CWL cs ds
  | _, _ => False
mutual
def SW : SV → SV → Prop
  | .one c, .one d => CW c d
  | .agg cs, .agg ds => CWL cs ds
  | .tup vs, .tup us => SWL vs us
  | _, _ => False
def SWL : List SV → List SV → Prop
  | [], [] => True
  | s :: ss, t :: ts => SW s t ∧ SWL ss ts
  | _, _ => False
end
theorem CWL.rfl : ∀ cs : List Cell, CWL cs cs
  | [] => trivial
  | c :: cs => ⟨cw_rfl c, CWL.rfl cs⟩
theorem CWL.vl : ∀ {cs ds : List Cell} {m : Mem} {π : Plc} {vs : List Value}, CWL cs ds → VL m π cs vs → VL m π ds vs
  | [], [], _, _, _, _, h => h
  | c :: cs, d :: ds, m, π, v :: vs, h, hv => ⟨h.1.1 m π v hv.1, CWL.vl h.2 hv.2⟩
  | _ :: _, _ :: _, _, _, [], _, hv => hv.elim
  | [], _ :: _, _, _, _, h, _ => h.elim
  | _ :: _, [], _, _, _, h, _ => h.elim
theorem CWL.cl : ∀ {cs ds : List Cell} {Fr : Nat → Prop}, CWL cs ds → (∀ c ∈ cs, c.cl Fr) → ∀ d ∈ ds, d.cl Fr
  | [], [], _, _, _ => fun d hd => by cases hd
  | c :: cs, d :: ds, Fr, h, hc => fun x hx => by
    rcases List.mem_cons.1 hx with e | e
    · rw [e]; exact h.1.2 Fr (hc c (by simp))
    · exact CWL.cl h.2 (fun c hc' => hc c (by simp [hc'])) x e
  | [], _ :: _, _, h, _ => h.elim
  | _ :: _, [], _, h, _ => h.elim
mutual
theorem SW.rfl : ∀ s : SV, SW s s
  | .one c => cw_rfl c
  | .agg cs => CWL.rfl cs
  | .tup vs => SWL.rfl vs
theorem SWL.rfl : ∀ ss : List SV, SWL ss ss
  | [] => trivial
  | s :: ss => ⟨SW.rfl s, SWL.rfl ss⟩
end
mutual
theorem SW.vs {m : Mem} {π : Plc} : ∀ {s t : SV} {v : Value}, SW s t → VS m π s v → VS m π t v
  | .one c, .one d, v, h, hv => h.1 m π v hv
  | .agg cs, .agg ds, v, h, hv => by
    obtain ⟨arr, rfl, h2⟩ := hv
    exact ⟨arr, by rfl, CWL.vl h h2⟩
  | .tup vs, .tup us, v, h, hv => by
    obtain ⟨arr, rfl, h2⟩ := hv
    exact ⟨arr, by rfl, SWL.vs h h2⟩
  | .one _, .agg _, _, h, _ => h.elim
  | .one _, .tup _, _, h, _ => h.elim
  | .agg _, .one _, _, h, _ => h.elim
  | .agg _, .tup _, _, h, _ => h.elim
  | .tup _, .one _, _, h, _ => h.elim
  | .tup _, .agg _, _, h, _ => h.elim
theorem SWL.vs {m : Mem} {π : Plc} : ∀ {ss ts : List SV} {vs : List Value}, SWL ss ts → VSL m π ss vs → VSL m π ts vs
  | [], [], _, _, hv => hv
  | s :: ss, t :: ts, v :: vs, h, hv => ⟨SW.vs h.1 hv.1, SWL.vs h.2 hv.2⟩
  | _ :: _, _ :: _, [], _, hv => hv.elim
  | [], _ :: _, _, h, _ => h.elim
  | _ :: _, [], _, h, _ => h.elim
end
mutual
theorem SW.cl {Fr : Nat → Prop} : ∀ {s t : SV}, SW s t → s.cl Fr → t.cl Fr
  | .one c, .one d, h, hc => h.2 Fr hc
  | .agg cs, .agg ds, h, hc => CWL.cl h hc
  | .tup vs, .tup us, h, hc => SWL.cl h hc
  | .one _, .agg _, h, _ => h.elim
  | .one _, .tup _, h, _ => h.elim
  | .agg _, .one _, h, _ => h.elim
  | .agg _, .tup _, h, _ => h.elim
  | .tup _, .one _, h, _ => h.elim
  | .tup _, .agg _, h, _ => h.elim
theorem SWL.cl {Fr : Nat → Prop} : ∀ {ss ts : List SV}, SWL ss ts → SV.clL Fr ss → SV.clL Fr ts
  | [], [], _, hc => hc
  | s :: ss, t :: ts, h, hc => ⟨SW.cl h.1 hc.1, SWL.cl h.2 hc.2⟩
  | [], _ :: _, h, _ => h.elim
  | _ :: _, [], h, _ => h.elim
end
theorem svw_of {s t : SV} (h : SW s t) : SVW s t := ⟨fun _ _ _ hv => SW.vs h hv, fun _ hc => SW.cl h hc⟩
section
variable {P : Program} {f : FuncId} {args args' : List SV} {rows : List Row} {res res' : SV} {outs : List (Option Row)}
theorem FnSpec.pre (h : FnSpec P f args rows res outs) (hw : SWL args' args) : FnSpec P f args' rows res outs :=
  ⟨h.1, fun w vals m π A hA hr hv hc => h.2 w vals m π A hA hr (SWL.vs hw hv) (SWL.cl hw hc)⟩
end
theorem imp_w (k : Nat) (s t : St) (h5 : ∀ x ∈ t.tm, ∃ v, slot x.1 s.tm = some v ∧ SVW v x.2) (h6 : t.hp = s.hp) (h4 : s.nx ≤ t.nx) : Imp k s t := by
 intro P w0 A N a w m π hk h
 have hsub : ∀ r, t.nx ≤ r → s.nx ≤ r := fun r hr => Nat.le_trans h4 hr
 have h1 := h.frmono hsub
 have ehp : t.hpF = s.hpF := by unfold St.hpF; rw [h6]
 refine ⟨m, π, ?_⟩
 rw [ehp]
 have hmem : ∀ (l : List (Nat × SV)) j v, slot j l = some v → (j, v) ∈ l := by
   intro l
   induction l with
   | nil => intro j v hj; cases hj
   | cons y l ih =>
     intro j v hj
     unfold slot at hj
     split at hj
     · rename_i e; cases hj; subst e; simp
     · exact zam _ (ih j v hj)
 refine { h1 with tms := fun j v hj => ?_, tcl := fun j v hj => ?_ }
 · obtain ⟨u, hu, hw⟩ := h5 (j, v) (hmem _ _ _ hj)
   exact hw.1 _ _ _ (h1.tms j u hu)
 · obtain ⟨u, hu, hw⟩ := h5 (j, v) (hmem _ _ _ hj)
   exact hw.2 _ (h1.tcl j u hu)
theorem Ints_refs0 (xs : List Int) (r : Nat) : ∀ c ∈ Ints xs, r ∉ c.refs := fun c hc hr => Ints_refs xs c hc (fun _ => False) r hr
def Cell.noMp : Cell → Bool
  | .mp _ _ => false
  | _ => true
mutual
theorem clS_frz01 {cells : List Cell} (h : ∀ c : Cell, c.noMp = true → c.cl (1 ≤ ·) → (c.frz 0 cells).cl (0 ≤ ·)) : ∀ s : SV, s.allC (fun c => c.noMp = true) → s.cl (1 ≤ ·) → (s.frz 0 cells).cl (0 ≤ ·)
  | .one c, hn, hc => h c hn hc
  | .agg cs, hn, hc => fun c hm => by
    obtain ⟨c0, h0, rfl⟩ := List.mem_map.1 hm
    exact h c0 (hn c0 h0) (hc c0 h0)
  | .tup vs, hn, hc => clL_frz01 h vs hn hc
theorem clL_frz01 {cells : List Cell} (h : ∀ c : Cell, c.noMp = true → c.cl (1 ≤ ·) → (c.frz 0 cells).cl (0 ≤ ·)) : ∀ ss : List SV, SV.allCL (fun c => c.noMp = true) ss → SV.clL (1 ≤ ·) ss → SV.clL (0 ≤ ·) (SV.frzL 0 cells ss)
  | [], _, _ => trivial
  | s :: ss, hn, hc => ⟨clS_frz01 h s hn.1 hc.1, clL_frz01 h ss hn.2 hc.2⟩
end
section
variable {P : Program} {T : Tab} {A : An} {N : Nat} {all : Array Oper} {dr : Bool} {K : St → Prop} {rest : List Oper} {acc : List (List Nat × List Nat)} {tm : List (Nat × SV)} {hp : List (Nat × Option Row)} {nx : Nat} {dst : Option Tmp} {Q : Exit → St → Prop} {s : St} {c : Code}
theorem s1_id {r : Res} {F : List Nat} (h : S1 P T A N all dr K rest acc tm hp nx dst r F) : S1 P T A N all dr K rest acc tm hp nx dst r F := h
theorem s2_id {r : Res} {F : List Nat} {b : Bool} (h : S2 P T A N all dr K rest acc tm hp nx dst b r F) : S2 P T A N all dr K rest acc tm hp nx dst b r F := h
theorem swp_id (h : swp P T A N c Q s) : swp P T A N c Q s := h
theorem sops_id (h : sops P T A N all dr K rest acc s) : sops P T A N all dr K rest acc s := h
end
end Go.Proofs.YtnahpejlhfeleabGreat.Sh
namespace Go.Proofs.YtnahpejlhfeleabGreat.Sh
open Go.RowKit
theorem ofV_nilFunc : ofV .nilFunc = V .nilFunc := rfl
attribute [go_sem] ofV_nilFunc
theorem flatMap_len {α : Type} {f : α → List Cell} {n : Nat} (hf : ∀ x, (f x).length = n) : ∀ xs : List α, (xs.flatMap f).length = xs.length * n
  | [] => by simp
  | x :: xs => by rw [zaa, List.length_append, hf, flatMap_len hf xs, zas, zar]; omega
theorem flatMap_at {α : Type} {f : α → List Cell} {n : Nat} (hf : ∀ x, (f x).length = n) (z : α) : ∀ (xs : List α) (i : Nat), i < xs.length → ((xs.flatMap f).drop (i * n)).take n = f (xs.getD i z)
  | [], i, h => by simp at h
  | x :: xs, 0, _ => by
    rw [Nat.zero_mul, List.drop_zero, zaa, List.take_append_of_le_length (by rw [hf]; exact zag _), zaq (by rw [hf]; exact zag _)]
    rfl
  | x :: xs, i + 1, h => by
    have e : (i + 1) * n = (f x).length + i * n := by rw [hf, zar]; omega
    rw [zaa, e, List.drop_append, zai (by omega), List.nil_append, zah]
    rw [flatMap_at hf z xs i (by simpa using h)]
    rfl
theorem flatMap_set {α : Type} {f : α → List Cell} {n : Nat} (hf : ∀ x, (f x).length = n) (v : α) : ∀ (xs : List α) (i : Nat), i < xs.length → putAt (xs.flatMap f) (i * n) (f v) = (xs.set i v).flatMap f := by
 have pat : ∀ (new a b : List Cell) (k : Nat), k = a.length → new.length ≤ b.length → putAt (a ++ b) k new = a ++ new ++ b.drop new.length := by
   intro new
   induction new with
   | nil => intro a b k hk hl; simp [putAt]
   | cons c new ih =>
     intro a b k hk hl
     cases b with
     | nil => simp at hl
     | cons d b =>
       unfold putAt
       have : (a ++ d :: b).set k c = (a ++ [c]) ++ b := by
         subst hk
         rw [List.set_append_right _ _ (zag _)]; simp
       rw [this, ih (a ++ [c]) b (k + 1) (by simp [hk]) (by simpa using hl)]
       simp
 intro xs
 induction xs with
 | nil => intro i h; simp at h
 | cons x xs ih =>
   intro i h
   cases i with
   | zero =>
     rw [Nat.zero_mul, zaa]
     have := pat (f v) [] (f x ++ xs.flatMap f) 0 rfl (by simp [hf])
     simp only [List.nil_append] at this
     rw [this, List.set_cons_zero, zaa, List.drop_append, zai (by simp [hf])]
     simp [hf]
   | succ i =>
     have e : (i + 1) * n = (f x).length + i * n := by rw [hf, zar]; omega
     have key : ∀ (new a b : List Cell) (k : Nat), putAt (a ++ b) (a.length + k) new = a ++ putAt b k new := by
       intro new
       induction new with
       | nil => intro a b k; rfl
       | cons c new ihn =>
         intro a b k
         unfold putAt
         rw [List.set_append_right _ _ (by omega), zah, Nat.add_assoc]
         exact ihn a _ (k + 1)
     rw [zaa, e, key, ih i (by simpa using h), List.set_cons_succ, zaa]
theorem flatMap_fld {α : Type} {f : α → List Cell} {n : Nat} (hf : ∀ x, (f x).length = n) (z : α) (xs : List α) (i o : Nat) (d : Cell) (h : i < xs.length) (ho : o < n) : (xs.flatMap f).getD (i * n + o) d = (f (xs.getD i z)).getD o d := by
 have h1 := flatMap_at hf z xs i h
 rw [← h1]
 simp only [List.getD_eq_getElem?_getD, List.getElem?_take_of_lt ho, List.getElem?_drop]
end Go.Proofs.YtnahpejlhfeleabGreat.Sh
namespace Go.Proofs.YtnahpejlhfeleabGreat.Sh
open Go.RowKit
theorem FnSpec.capk {P : Program} {f : FuncId} {r off len : Nat} {args : List SV} {rows : List Row} {res : SV} {outs : List (Option Row)} (h : ∀ c, len ≤ c → FnSpec P f (.one (.osl r off len (some c)) :: args) rows res outs) : FnSpec P f (.one (.osl r off len none) :: args) rows res outs := by
 refine ⟨(h len (zag _)).1, fun w vals m π A hA hr hv hc => ?_⟩
 have key : ∃ c, len ≤ c ∧ VSL m π (.one (.osl r off len (some c)) :: args) vals.toList := by
   generalize vals.toList = vs at hv
   cases vs with
   | nil => exact hv.elim
   | cons v vs =>
     obtain ⟨⟨h1, h2⟩, h3⟩ := hv
     cases hπ : π r with
     | none => exact ⟨len, zag _, ⟨h1, by rw [hπ]; trivial⟩, h3⟩
     | some q =>
       rw [hπ] at h2
       cases q with
       | none =>
         obtain ⟨a1, a2, a3⟩ := h2
         exact ⟨0, by omega, ⟨h1, by rw [hπ]; exact ⟨a1, fun k hk => by cases hk; rfl, a3⟩⟩, h3⟩
       | some p =>
         obtain ⟨gz, ad, c, e1, e2, _, e4⟩ := h2
         exact ⟨c, e2, ⟨h1, by rw [hπ]; exact ⟨gz, ad, c, e1, e2, fun k hk => by cases hk; rfl, e4⟩⟩, h3⟩
 obtain ⟨c, hle, hv'⟩ := key
 exact (h c hle).2 w vals m π A hA hr hv' ⟨hc.1, hc.2⟩
theorem cw_ocap (r off len : Nat) (cap : Option Nat) : CW (.osl r off len cap) (.osl r off len none) := by
 refine ⟨fun m π v hv => ?_, fun _ hc => hc⟩
 obtain ⟨h1, h2⟩ := hv
 refine ⟨h1, ?_⟩
 cases hπ : π r with
 | none => trivial
 | some q =>
   rw [hπ] at h2
   cases q with
   | none => exact ⟨h2.1, (fun k hk => by cases hk), h2.2.2⟩
   | some p =>
     obtain ⟨gz, ad, c, e1, e2, _, e4⟩ := h2
     exact ⟨gz, ad, c, e1, e2, (fun k hk => by cases hk), e4⟩
section
variable {P : Program} {w0 : Base} {A : Nat → Prop} {N : Nat} {Fr : Nat → Prop} {tm : Nat → Option SV} {hp : Nat → Option Row} {a : Act} {w : World} {m : Mem} {π : Plc}
end
theorem FnSpec.niln {P : Program} {f : FuncId} {cs : List Cell} {off : Nat} {cap : Option Nat} {args : List SV} {rows : List Row} {res : SV} {outs : List (Option Row)} (h1 : FnSpec P f (.one (.sc (.slice none 0 0)) :: args) rows res outs) (h2 : ∀ ad c, FnSpec P f (.one (.sc (.slice (some ad) 0 c)) :: args) rows res outs) : FnSpec P f (.one (.gsl cs off 0 cap) :: args) rows res outs := by
 refine ⟨h1.1, fun w vals m π A hA hr hv hc => ?_⟩
 have key : VSL m π (.one (.sc (.slice none 0 0)) :: args) vals.toList ∨ ∃ ad c, VSL m π (.one (.sc (.slice (some ad) 0 c)) :: args) vals.toList := by
   generalize vals.toList = vs at hv
   cases vs with
   | nil => exact hv.elim
   | cons v vs =>
     obtain ⟨hv1, hv2⟩ := hv
     cases hv1 with
     | gnil _ _ _ hc => exact .inl ⟨VG.sc _ rfl, hv2⟩
     | gsl _ _ _ _ b o c ad vals hc hlc hm hv ha => exact .inr ⟨ad, c, VG.sc _ rfl, hv2⟩
 rcases key with h | ⟨ad, c, h⟩
 · exact h1.2 w vals m π A hA hr h ⟨trivial, hc.2⟩
 · exact (h2 ad c).2 w vals m π A hA hr h ⟨trivial, hc.2⟩
theorem FnSpec.nilrow {P : Program} {f : FuncId} {args : List SV} (e : Nat) (h : FnSpec P f args [] (.one (.sc (.slice none 0 0))) []) : FnSpec P f args [] (.one (.osl 0 0 0 none)) [some ⟨[], e⟩] := by
 refine ⟨h.1, fun w vals m π A hA hr hv hc => (h.2 w vals m π A hA hr hv hc).mono fun e1 w' ⟨v, m', π', h1, h2, h3, h4⟩ => ?_⟩
 have hn := h2.nilrow 0 (zag _) e
 refine ⟨v, m', upd π' 0 (some none), h1, ?_, ?_, ?_⟩
 · have e2 : hpL [some (⟨[], e⟩ : Row)] = upd (hpL []) 0 (some ⟨[], e⟩) := by
     funext r
     cases r <;> simp [hpL, upd]
   rw [e2]
   exact hn.frmono (fun r hr => ⟨zat _, by simp only [zas, List.length_nil] at hr; omega⟩)
 · cases h3
   refine ⟨rfl, ?_⟩
   rw [upd_same]
   exact ⟨rfl, (fun k hk => by cases hk), none, rfl⟩
 · exact fun hq => by simp only [zas, List.length_nil] at hq; omega
theorem inR_u64 (n : Int) : inR .u64 n = (0 ≤ n ∧ n ≤ 18446744073709551615) := rfl
attribute [go_sem] inR_u64
end Go.Proofs.YtnahpejlhfeleabGreat.Sh
namespace Go.Proofs.YtnahpejlhfeleabGreat.Sh
open Go
abbrev Str := List UInt8
abbrev st (l : Str) : Cell := .sc (.string (bs l))
abbrev s1 (l : Str) : SV := .one (st l)
theorem mk_bs (l : Str) : (ByteArray.mk (zac l)) = bs l := rfl
theorem bs_size (l : Str) : (bs l).size = l.length := by simp [bs, ByteArray.size]
theorem bs_app (a b : Str) : bs a ++ bs b = bs (a ++ b) := by
 apply ByteArray.ext
 simp [bs]
theorem bs_data (l : Str) : (bs l).data.toList = l := by simp [bs]
theorem bs_get (l : Str) (i : Nat) : (bs l)[i]? = l[i]? := by
 by_cases h : i < l.length
 · rw [List.getElem?_eq_getElem h]
   have : i < (bs l).size := by rw [bs_size]; exact h
   rw [getElem?_pos (bs l) i this]
   simp [bs, ByteArray.getElem_eq_getElem_data]
 · rw [List.getElem?_eq_none (by omega), getElem?_neg]
   rw [bs_size]; exact h
theorem bs_ext (l : Str) (i j : Nat) : (bs l).extract i j = bs ((l.take j).drop i) := by
 apply ByteArray.ext
 rw [ByteArray.data_extract]
 apply Array.ext'
 show ((l.toArray).extract i j).toList = ((l.take j).drop i)
 rw [Array.toList_extract, List.extract_eq_take_drop, List.drop_take]
theorem bs_toList (l : Str) : (bs l).toList = l := by
 rw [ByteArray.toList_eq]
 exact bs_data l
theorem bs_beq (a b : Str) : ((bs a).toList == (bs b).toList) = decide (a = b) := by
 rw [bs_toList, bs_toList]
 by_cases h : a = b <;> simp [h]
theorem bs_of (s : ByteArray) : s = bs s.data.toList := by
 apply ByteArray.ext
 simp [bs]
theorem bs_at (l : Str) (i : Nat) (b : UInt8) (hb : l[i]? = some b) : ∃ h : i < (bs l).size, (bs l)[i]'h = b := by
 have hi := (List.getElem?_eq_some_iff.1 hb).1
 have h : i < (bs l).size := by rw [bs_size]; exact hi
 refine ⟨h, ?_⟩
 have := bs_get l i
 rw [getElem?_pos (bs l) i h, hb] at this
 exact Option.some.inj this
theorem bs_dec (l : Str) (i : Nat) (b : UInt8) (hb : l[i]? = some b) (ha : b.toNat < 128) : Utf8.decode (bs l) i = (b.toNat, 1) := by
 obtain ⟨h, e⟩ := bs_at l i b hb
 have := decode_ascii (bs l) i h (by rw [e]; exact ha)
 rw [e] at this
 exact this
theorem bs_high (l : Str) (i : Nat) (b : UInt8) (hb : l[i]? = some b) (ha : 128 ≤ b.toNat) : 128 ≤ (Utf8.decode (bs l) i).1 ∧ 1 ≤ (Utf8.decode (bs l) i).2 := by
 obtain ⟨h, e⟩ := bs_at l i b hb
 exact decode_high (bs l) i h (by rw [e]; exact ha)
theorem bs_le (l : Str) (i : Nat) : (Utf8.decode (bs l) i).1 ≤ 2147483647 := decode_le (bs l) i
def Strs (xs : List Str) : List Cell := xs.map st
theorem Strs_length (xs : List Str) : (Strs xs).length = xs.length := by simp [Strs]
theorem Strs_getD (xs : List Str) (i : Nat) : (Strs xs).getD i (st []) = st (xs.getD i []) := by
 unfold Strs
 simp only [List.getD_eq_getElem?_getD, List.getElem?_map]
 cases xs[i]? <;> rfl
theorem Strs_getD' (xs : List Str) (i : Nat) (d : Cell) (h : i < xs.length) : (Strs xs).getD i d = st (xs.getD i []) := by
 unfold Strs
 simp only [List.getD_eq_getElem?_getD, List.getElem?_map, List.getElem?_eq_getElem h, Option.map_some, Option.getD_some]
theorem Strs_set (xs : List Str) (i : Nat) (s : Str) : (Strs xs).set i (st s) = Strs (xs.set i s) := by
 unfold Strs
 rw [List.map_set]
theorem Strs_app (xs : List Str) (s : Str) : Strs xs ++ [st s] = Strs (xs ++ [s]) := by simp [Strs]
theorem Strs_cat (a b : List Str) : Strs a ++ Strs b = Strs (a ++ b) := by simp [Strs]
theorem Strs_drop (xs : List Str) (i : Nat) : (Strs xs).drop i = Strs (xs.drop i) := by simp [Strs, List.map_drop]
theorem Strs_take (xs : List Str) (i : Nat) : (Strs xs).take i = Strs (xs.take i) := by simp [Strs, List.map_take]
theorem Strs_isG (xs : List Str) : ∀ c ∈ Strs xs, c.isG = true := by
 intro c hc
 obtain ⟨x, _, rfl⟩ := List.mem_map.1 hc
 rfl
theorem Strs_flat (xs : List Str) : flat (Strs xs) := by
 intro c hc
 obtain ⟨x, _, rfl⟩ := List.mem_map.1 hc
 rfl
abbrev gs (xs : List Str) (cap : Option Nat) : SV := .one (.gsl (Strs xs) 0 xs.length cap)
section
variable {P : Program} {T : Tab} {A : An} {N : Nat} {all : Array Oper} {dr : Bool} {K : St → Prop} {rest : List Oper} {acc : List (List Nat × List Nat)} {tm : List (Nat × SV)} {hp : List (Nat × Option Row)} {nx : Nat} {dst : Option Tmp} {ty : TypeId} {pos : String} {after : Array Edge} (b : Bool)
theorem g_sliceH (t : TypeId) (x y : Operand) : GG P T A N all dr K rest acc tm hp nx ⟨dst, .slice t x none (some y) none, ty, pos, after, none⟩ b = S2B P T A N all dr K rest acc tm hp nx dst b (fun u v => sSlice T (hpL' hp) t u none (some v) none) SV.ref (evL tm x) (evL tm y) := rfl
theorem g_sliceL (t : TypeId) (x y : Operand) : GG P T A N all dr K rest acc tm hp nx ⟨dst, .slice t x (some y) none none, ty, pos, after, none⟩ b = S2B P T A N all dr K rest acc tm hp nx dst b (fun u v => sSlice T (hpL' hp) t u (some v) none none) SV.ref (evL tm x) (evL tm y) := rfl
end
theorem drop0 {α : Type} (l : List α) : List.drop (Int.toNat 0) l = l := rfl
attribute [go_sem] g_sliceH g_sliceL drop0 mk_bs bs_size bs_app bs_get bs_ext bs_beq Strs_length Strs_take Strs_drop Strs_cat Strs_app Strs_set Strs_getD
end Go.Proofs.YtnahpejlhfeleabGreat.Sh
namespace Go.Proofs.YtnahpejlhfeleabGreat.Sh
open Go.RowKit
class Rec (α : Type) where
  cs : α → List Cell
  n : Nat
  z : α
  len : ∀ x, (cs x).length = n
  g : ∀ x, ∀ c ∈ cs x, c.isG = true
def Cs {α : Type} [Rec α] (l : List α) : List Cell := l.flatMap Rec.cs
section
variable {α : Type} [Rec α]
theorem isG_ren {c : Cell} (h : c.isG = true) (ρ : Nat → Option Nat) : c.ren ρ = c := by cases c <;> first | rfl | cases h
theorem isG_frz {c : Cell} (h : c.isG = true) (r : Nat) (cs : List Cell) : c.frz r cs = c := by cases c <;> first | rfl | cases h
theorem isG_refs {c : Cell} (h : c.isG = true) : c.refs = [] := by cases c <;> first | rfl | cases h
theorem map_id_of {l : List Cell} {f : Cell → Cell} (h : ∀ c ∈ l, f c = c) : l.map f = l := by
 induction l with
 | nil => rfl
 | cons c l ih => rw [zao, h c List.mem_cons_self, ih fun d hd => h d (zam _ hd)]
theorem Cs_isG (l : List α) : ∀ c ∈ Cs l, c.isG = true := fun c hc => by
  obtain ⟨x, _, hx⟩ := List.mem_flatMap.1 hc
  exact Rec.g x c hx
theorem Cs_ren (ρ : Nat → Option Nat) (l : List α) : (Cs l).map (Cell.ren ρ) = Cs l := map_id_of fun c hc => isG_ren (Cs_isG l c hc) ρ
theorem Cs_frz (r : Nat) (cs : List Cell) (l : List α) : (Cs l).map (Cell.frz r cs) = Cs l := map_id_of fun c hc => isG_frz (Cs_isG l c hc) r cs
theorem Cs_flat (l : List α) : flat (Cs l) := fun c hc => isG_refs (Cs_isG l c hc)
theorem Cs_len (l : List α) : (Cs l).length = l.length * Rec.n α := flatMap_len Rec.len l
theorem Cs_nil : Cs ([] : List α) = [] := rfl
theorem Cs_app (l m : List α) : Cs l ++ Cs m = Cs (l ++ m) := by simp [Cs]
theorem Cs_one (x : α) : Rec.cs x = Cs [x] := by simp [Cs]
theorem Cs_snoc (l : List α) (x : α) : Cs l ++ Rec.cs x = Cs (l ++ [x]) := by rw [Cs_one, Cs_app]
theorem Cs_td (l : List α) (i : Nat) (h : i < l.length) : ((Cs l).drop (i * Rec.n α)).take (Rec.n α) = Rec.cs (l.getD i Rec.z) := flatMap_at Rec.len Rec.z l i h
theorem Cs_fld (l : List α) (i o : Nat) (d : Cell) (h : i < l.length) (ho : o < Rec.n α) : (Cs l).getD (i * Rec.n α + o) d = (Rec.cs (l.getD i Rec.z)).getD o d := flatMap_fld Rec.len Rec.z l i o d h ho
theorem Cs_set (l : List α) (i : Nat) (v : α) (h : i < l.length) : putAt (Cs l) (i * Rec.n α) (Rec.cs v) = Cs (l.set i v) := flatMap_set Rec.len v l i h
theorem Cs_setf : ∀ (l : List α) (i o : Nat) (v : α) (c : Cell), i < l.length → o < Rec.n α → Rec.cs v = (Rec.cs (l.getD i Rec.z)).set o c → (Cs l).set (i * Rec.n α + o) c = Cs (l.set i v)
  | [], i, o, v, c, h, _, _ => by simp at h
  | x :: l, 0, o, v, c, _, ho, hv => by
    have e : (x :: l).getD 0 Rec.z = x := rfl
    rw [e] at hv
    rw [Nat.zero_mul, Nat.zero_add, List.set_cons_zero, Cs, zaa, List.set_append_left _ _ (by rw [Rec.len]; exact ho), ← hv, Cs, zaa]
  | x :: l, i + 1, o, v, c, h, ho, hv => by
    have e : (i + 1) * Rec.n α + o = (Rec.cs x).length + (i * Rec.n α + o) := by rw [Rec.len, zar]; omega
    have ih := Cs_setf l i o v c (by simpa using h) ho hv
    simp only [Cs] at ih
    rw [List.set_cons_succ, Cs, zaa, e, List.set_append_right _ _ (by omega), zah, ih, Cs, zaa]
theorem Cs_take (l : List α) (k : Nat) : (Cs l).take (k * Rec.n α) = Cs (l.take k) := by
 induction l generalizing k with
 | nil => simp [Cs]
 | cons x l ih =>
   cases k with
   | zero => simp [Cs]
   | succ k =>
     have e : (k + 1) * Rec.n α = (Rec.cs x).length + k * Rec.n α := by rw [Rec.len, zar]; omega
     have h2 := ih k
     simp only [Cs] at h2
     rw [Cs, zaa, e, List.take_append, zaq (by omega), zah, h2]
     simp [Cs]
theorem Cs_all (l : List α) (k : Nat) (h : l.length * Rec.n α ≤ k) : (Cs l).take k = Cs l := zaq (by rw [Cs_len]; exact h)
theorem getD_mem {α : Type} (l : List α) (i : Nat) (z : α) (h : i < l.length) : l.getD i z ∈ l := by
 rw [List.getD_eq_getElem?_getD, List.getElem?_eq_getElem h]; exact List.getElem_mem h
theorem drop_getD {α : Type} (l : List α) (i : Nat) (z : α) (h : i < l.length) : l.drop i = l.getD i z :: l.drop (i + 1) := by
 rw [List.drop_eq_getElem_cons h, List.getD_eq_getElem?_getD, List.getElem?_eq_getElem h]; rfl
theorem take_getD {α : Type} (l : List α) (i : Nat) (z : α) (h : i < l.length) : l.take (i + 1) = l.take i ++ [l.getD i z] := by
 rw [List.take_add_one, List.getElem?_eq_getElem h, List.getD_eq_getElem?_getD, List.getElem?_eq_getElem h]; rfl
theorem getD_at {α : Type} (l : List α) (i : Nat) (z : α) (h : i < l.length) : l.getD i z = l[i] := by
 rw [List.getD_eq_getElem?_getD, List.getElem?_eq_getElem h]; rfl
def ixR {α : Type} (q : α → Bool) : List α → Nat → Int
  | [], _ => -1
  | b :: r, i => if q b = true then (i : Int) else ixR q r (i + 1)
theorem ixR_any {α : Type} (q : α → Bool) : ∀ (s : List α) i, decide (0 ≤ ixR q s i) = s.any q
  | [], i => rfl
  | b :: r, i => by
    unfold ixR
    by_cases h : q b = true
    · rw [if_pos h, List.any_cons, h, decide_eq_true (by omega)]; rfl
    · rw [if_neg h, List.any_cons, Bool.eq_false_iff.2 h, ixR_any q r (i + 1)]; rfl
abbrev gr (l : List α) (k : Option Nat) : SV := .one (.gsl (Cs l) 0 l.length k)
end
theorem imp_nilA (k : Nat) (s : St) (q esz n : Nat) (hn : s.nx ≤ n) (hq : slot q s.tm = some (V (.slice none 0 0))) : Imp k s ⟨(q, .one (.osl n 0 0 none)) :: s.tm, (n, some ⟨[], esz⟩) :: s.hp, n + 1⟩ := by
 intro P w0 A N a w m π hk h
 have h1 := h.nilrow n hn esz
 have hsub : ∀ r, n + 1 ≤ r → s.nx ≤ r ∧ r ≠ n := fun r hr => ⟨by omega, by omega⟩
 have h2 := h1.frmono hsub
 refine ⟨m, upd π n (some none), ?_⟩
 have ehp : St.hpF ⟨(q, .one (.osl n 0 0 none)) :: s.tm, (n, some ⟨[], esz⟩) :: s.hp, n + 1⟩ = upd s.hpF n (some ⟨[], esz⟩) := by
   funext r
   simp only [St.hpF, lookR, upd]
   by_cases e : n = r
   · simp [e]
   · simp [e, Ne.symm e]
 rw [ehp]
 refine { h2 with tms := fun j v hj => ?_, tcl := fun j v hj => ?_ }
 · simp only [St.tmF, slot] at hj
   split at hj
   · rename_i e
     subst e
     cases hj
     have hv := (vs_sc (h.tms q _ hq)).1
     rw [hv]
     refine ⟨rfl, ?_⟩
     rw [upd_same]
     exact ⟨rfl, fun k hk => (by cases hk), none, rfl⟩
   · exact h2.tms j v hj
 · simp only [St.tmF, slot] at hj
   split at hj
   · cases hj
     show ¬ _
     simp only; omega
   · exact h2.tcl j v hj
def cmpv (a b : Int) : Int := if a < b then -1 else if b < a then 1 else 0
theorem cmpv_lt (a b : Int) : decide (cmpv a b < 0) = decide (a < b) := by
 unfold cmpv; split
 · rename_i h; simp [h]
 · rename_i h; split <;> simp [h]
theorem cmpv_eq (a b : Int) : decide (cmpv a b = 0) = decide (a = b) := by
 unfold cmpv; split
 · rename_i h; simp; omega
 · rename_i h; split
   · simp; omega
   · simp; omega
def bsG (f : Nat → Int) (id : Int) : Nat → Nat → Nat → Nat
  | 0, i, _ => i
  | n + 1, i, j => if i < j then (if f ((i + j) / 2) < id then bsG f id n ((i + j) / 2 + 1) j else bsG f id n i ((i + j) / 2)) else i
theorem bsG_fuel (f : Nat → Int) (id : Int) : ∀ (n m i j : Nat), j - i ≤ n → j - i ≤ m → bsG f id n i j = bsG f id m i j
  | 0, 0, i, j, _, _ => rfl
  | 0, m + 1, i, j, h, _ => by rw [bsG, bsG, if_neg (by omega)]
  | n + 1, 0, i, j, _, h => by rw [bsG, bsG, if_neg (by omega)]
  | n + 1, m + 1, i, j, h1, h2 => by
    rw [bsG, bsG]
    by_cases h : i < j
    · rw [if_pos h, if_pos h]
      split
      · exact bsG_fuel f id n m _ _ (by omega) (by omega)
      · exact bsG_fuel f id n m _ _ (by omega) (by omega)
    · rw [if_neg h, if_neg h]
theorem bsG_le (f : Nat → Int) (id : Int) : ∀ (n i j : Nat), i ≤ j → i ≤ bsG f id n i j ∧ bsG f id n i j ≤ j
  | 0, i, j, h => ⟨zag _, h⟩
  | n + 1, i, j, h => by
    rw [bsG]
    split
    · split
      · have := bsG_le f id n ((i + j) / 2 + 1) j (by omega); omega
      · have := bsG_le f id n i ((i + j) / 2) (by omega); omega
    · omega
theorem bsG_asc (f : Nat → Int) (id : Int) (N : Nat) (ha : ∀ i j, i < j → j < N → f i < f j) : ∀ (n i j : Nat), j - i ≤ n → i ≤ j → j ≤ N → (∀ k, k < i → f k < id) → (∀ k, j ≤ k → k < N → id ≤ f k) → (∀ k, k < bsG f id n i j → f k < id) ∧ ∀ k, bsG f id n i j ≤ k → k < N → id ≤ f k
  | 0, i, j, hn, hij, hj, h1, h2 => by
    have : j = i := by omega
    subst this
    exact ⟨h1, h2⟩
  | n + 1, i, j, hn, hij, hj, h1, h2 => by
    rw [bsG]
    by_cases h : i < j
    · rw [if_pos h]
      by_cases hc : f ((i + j) / 2) < id
      · rw [if_pos hc]
        refine bsG_asc f id N ha n _ j (by omega) (by omega) hj (fun k hk => ?_) h2
        by_cases e : k = (i + j) / 2
        · rw [e]; exact hc
        · have := ha k ((i + j) / 2) (by omega) (by omega); omega
      · rw [if_neg hc]
        refine bsG_asc f id N ha n i _ (by omega) (by omega) (by omega) h1 (fun k hk hkN => ?_)
        by_cases e : k = (i + j) / 2
        · rw [e]; omega
        · have := ha ((i + j) / 2) k (by omega) hkN; omega
    · rw [if_neg h]
      have : j = i := by omega
      subst this
      exact ⟨h1, h2⟩
section
variable {α : Type} [Rec α]
def bsV (ky : α → Int) (l : List α) (id : Int) : Nat := bsG (fun i => ky (l.getD i Rec.z)) id l.length 0 l.length
def bsF (ky : α → Int) (l : List α) (id : Int) : Bool := decide (bsV ky l id < l.length) && decide (ky (l.getD (bsV ky l id) Rec.z) = id)
theorem bsV_le (ky : α → Int) (l : List α) (id : Int) : bsV ky l id ≤ l.length := (bsG_le _ id l.length 0 l.length (zat _)).2
theorem bsF_at (ky : α → Int) (l : List α) (id : Int) (h : bsF ky l id = true) : bsV ky l id < l.length ∧ ky (l.getD (bsV ky l id) Rec.z) = id := by
 unfold bsF at h
 simpa using h
theorem bs_found (ky : α → Int) (l : List α) (ha : ∀ i j, i < j → j < l.length → ky (l.getD i Rec.z) < ky (l.getD j Rec.z)) (k : Nat) (hk : k < l.length) : bsV ky l (ky (l.getD k Rec.z)) = k ∧ bsF ky l (ky (l.getD k Rec.z)) = true := by
 have h := bsG_asc (fun i => ky (l.getD i Rec.z)) (ky (l.getD k Rec.z)) l.length ha l.length 0 l.length (by omega) (zat _) (zag _) (fun k hk => absurd hk (Nat.not_lt_zero _)) (fun k h1 h2 => by omega)
 have e : bsV ky l (ky (l.getD k Rec.z)) = k := by
   show bsG _ _ _ _ _ = k
   rcases Nat.lt_trichotomy (bsG (fun i => ky (l.getD i Rec.z)) (ky (l.getD k Rec.z)) l.length 0 l.length) k with c | c | c
   · have h1 := h.2 _ (zag _) (by omega)
     have h2 := ha _ k c hk
     omega
   · exact c
   · have h1 := h.1 k c
     omega
 refine ⟨e, ?_⟩
 unfold bsF
 rw [e, decide_eq_true hk, decide_eq_true rfl]; rfl
theorem bs_not (ky : α → Int) (l : List α) (id : Int) (h : ∀ x ∈ l, ky x ≠ id) : bsF ky l id = false := by
 rw [Bool.eq_false_iff]
 intro hf
 obtain ⟨h1, h2⟩ := bsF_at ky l id hf
 exact h _ (getD_mem l _ Rec.z h1) h2
theorem bs_any (ky : α → Int) (l : List α) (ha : ∀ i j, i < j → j < l.length → ky (l.getD i Rec.z) < ky (l.getD j Rec.z)) (id : Int) : bsF ky l id = l.any fun x => decide (ky x = id) := by
 cases hany : l.any fun x => decide (ky x = id) with
 | false =>
   refine bs_not ky l id fun x hx e => ?_
   have := List.any_eq_false.1 hany x hx
   exact this (decide_eq_true e)
 | true =>
   obtain ⟨x, hx, e⟩ := List.any_eq_true.1 hany
   obtain ⟨i, hi, rfl⟩ := List.getElem_of_mem hx
   have e2 := of_decide_eq_true e
   rw [← getD_at l i Rec.z hi] at e2
   rw [← e2]
   exact (bs_found ky l ha i hi).2
end
section
variable {P : Program} {w0 : Base} {A : Nat → Prop} {N : Nat} {Fr : Nat → Prop} {tm : Nat → Option SV} {hp : Nat → Option Row} {a : Act} {w : World} {m : Mem} {π : Plc}
theorem RelAt.recell (h : RelAt P w0 A N Fr tm hp a w m π) {r : Nat} {cs ds : List Cell} {e : Nat} (hr : hp r = some ⟨cs, e⟩) (hl : ds.length = cs.length) (hw : ∀ (i : Nat) d, ds[i]? = some d → ∃ c, cs[i]? = some c ∧ ∀ v, VC m π c v → VC m π d v) (hcl : ∀ d ∈ ds, d.cl Fr) (hs : ∀ d ∈ ds, d ≠ .un) : RelAt P w0 A N Fr tm (upd hp r (some ⟨ds, e⟩)) a w m π := by
 refine { h with rows := fun q row hq => ?_, rcl := fun q row hq => ?_, rsol := fun q row hq => ?_, live := fun q hq => ?_, fresh := fun q hq => ?_ }
 · unfold upd at hq
   by_cases e1 : q = r
   · subst e1
     simp only [↓reduceIte, Option.some.injEq] at hq
     subst hq
     have := h.rows q _ hr
     unfold RowOk at this ⊢
     cases hπ : π q with
     | none => rw [hπ] at this; exact this
     | some x =>
       rw [hπ] at this
       cases x with
       | none =>
         simp only at this ⊢
         rw [this] at hl
         exact List.length_eq_zero_iff.1 hl
       | some p =>
         obtain ⟨k1, k2, arr, ty, k3, k4, k5, k6⟩ := this
         refine ⟨k1, k2, arr, ty, k3, k4, ⟨fun hz => by have := k5.1 hz; simp only at this ⊢; omega, fun hz => by have := k5.2 hz; simp only at this ⊢; omega⟩, fun i c hi => ?_⟩
         obtain ⟨c0, g1, g2⟩ := hw i c hi
         obtain ⟨x, g3, g4⟩ := k6 i c0 g1
         exact ⟨x, g3, g2 _ g4⟩
   · simp only [e1, ↓reduceIte] at hq
     exact h.rows q row hq
 · unfold upd at hq
   by_cases e1 : q = r
   · subst e1
     simp only [↓reduceIte, Option.some.injEq] at hq
     subst hq
     exact hcl
   · simp only [e1, ↓reduceIte] at hq
     exact h.rcl q row hq
 · unfold upd at hq
   by_cases e1 : q = r
   · subst e1
     simp only [↓reduceIte, Option.some.injEq] at hq
     subst hq
     exact hs
   · simp only [e1, ↓reduceIte] at hq
     exact h.rsol q row hq
 · unfold upd at hq
   by_cases e1 : q = r
   · simp [e1] at hq
   · simp only [e1, ↓reduceIte] at hq; exact h.live q hq
 · unfold upd
   have := h.fresh q hq
   by_cases e1 : q = r
   · subst e1; rw [hr] at this; cases this
   · simp only [e1, ↓reduceIte]; exact this
end
theorem imp_nilC (k : Nat) (s : St) (r j esz n : Nat) (hn : s.nx ≤ n) {row : Row} (hr : s.hpF r = some row) (hj : row.cells[j]? = some (.sc (.slice none 0 0))) : Imp k s ⟨s.tm, (n, some ⟨[], esz⟩) :: (r, some ⟨row.cells.set j (.osl n 0 0 none), row.esz⟩) :: s.hp, n + 1⟩ := by
 intro P w0 A N a w m π hk h
 have hrn : n ≠ r := fun e => by have := h.fresh n hn; rw [e, hr] at this; cases this
 have h1 := h.nilrow n hn esz
 have hsub : ∀ r, n + 1 ≤ r → s.nx ≤ r ∧ r ≠ n := fun r hr => ⟨by omega, by omega⟩
 have h2 := h1.frmono hsub
 refine ⟨m, upd π n (some none), ?_⟩
 have hjl : j < row.cells.length := (List.getElem?_eq_some_iff.1 hj).1
 have hr2 : upd s.hpF n (some ⟨[], esz⟩) r = some ⟨row.cells, row.esz⟩ := by rw [upd_ne _ _ _ _ (Ne.symm hrn)]; exact hr
 have h3 := h2.recell (ds := row.cells.set j (.osl n 0 0 none)) hr2 (by simp) (fun i d hd => by
   by_cases e : j = i
   · subst e
     rw [List.getElem?_set_self hjl] at hd
     cases hd
     refine ⟨_, hj, fun v hv => ?_⟩
     cases hv
     refine ⟨rfl, ?_⟩
     rw [upd_same]
     exact ⟨rfl, fun k hk => (by cases hk), none, rfl⟩
   · rw [List.getElem?_set_ne e] at hd
     exact ⟨d, hd, fun v hv => hv⟩) (fun d hd => by
   rcases List.mem_or_eq_of_mem_set hd with hd | hd
   · exact h2.rcl r _ hr2 d hd
   · subst hd; show ¬ (n + 1 ≤ n); omega) (fun d hd => by
   rcases List.mem_or_eq_of_mem_set hd with hd | hd
   · exact h2.rsol r _ hr2 d hd
   · subst hd; intro h; cases h)
 have ehp : St.hpF ⟨s.tm, (n, some ⟨[], esz⟩) :: (r, some ⟨row.cells.set j (.osl n 0 0 none), row.esz⟩) :: s.hp, n + 1⟩ = upd (upd s.hpF n (some ⟨[], esz⟩)) r (some ⟨row.cells.set j (.osl n 0 0 none), row.esz⟩) := by
   funext q
   simp only [St.hpF, lookR, upd]
   by_cases e : n = q
   · subst e; simp [hrn]
   · by_cases e2 : r = q
     · simp [e, e2]
     · simp [e, e2, Ne.symm e, Ne.symm e2]
 rw [ehp]
 exact h3
attribute [go_sem] Cs_ren Cs_frz
end Go.Proofs.YtnahpejlhfeleabGreat.Sh
namespace Go.Proofs.YtnahpejlhfeleabGreat
open Go.Proofs.YtnahpejlhfeleabGreat.Sh
def TL : List (Nat × TI) := [(1, ⟨1, 8, .oth, [.nilFunc], false⟩),
  (2, ⟨1, 8, .int .i64, [.int .i64 0], false⟩),
  (3, ⟨1, 8, .int .i64, [.int .i64 0], false⟩),
  (4, ⟨1, 1, .bool, [.bool false], false⟩),
  (5, ⟨1, 1, .int .u8, [.int .u8 0], false⟩),
  (6, ⟨1, 1, .int .u8, [.int .u8 0], false⟩),
  (7, ⟨4, 24, .struct [(0, 2), (1, 3), (2, 4), (3, 6)], [.int .i64 0, .int .i64 0, .bool false, .int .u8 0], true⟩),
  (8, ⟨4, 24, .struct [(0, 2), (1, 3), (2, 4), (3, 6)], [.int .i64 0, .int .i64 0, .bool false, .int .u8 0], true⟩),
  (9, ⟨1, 16, .str, [.string ⟨#[]⟩], false⟩),
  (10, ⟨1, 16, .str, [.string ⟨#[]⟩], false⟩),
  (11, ⟨1, 16, .str, [.string ⟨#[]⟩], false⟩),
  (12, ⟨1, 8, .int .u64, [.int .u64 0], false⟩),
  (13, ⟨2, 24, .struct [(0, 9), (1, 12)], [.string ⟨#[]⟩, .int .u64 0], false⟩),
  (14, ⟨2, 24, .struct [(0, 9), (1, 12)], [.string ⟨#[]⟩, .int .u64 0], false⟩),
  (15, ⟨1, 8, .ptr, [.pointer none], false⟩),
  (16, ⟨1, 8, .ptr, [.pointer none], false⟩),
  (17, ⟨1, 8, .ptr, [.pointer none], false⟩),
  (18, ⟨1, 8, .struct [(0, 17)], [.pointer none], false⟩),
  (19, ⟨1, 8, .struct [(0, 17)], [.pointer none], false⟩),
  (21, ⟨1, 4, .int .i32, [.int .i32 0], false⟩),
  (22, ⟨1, 24, .slice 3, [.slice none 0 0], false⟩),
  (23, ⟨1, 24, .slice 61, [.slice none 0 0], false⟩),
  (24, ⟨2, 32, .struct [(0, 23), (1, 3)], [.slice none 0 0, .int .i64 0], false⟩),
  (25, ⟨2, 32, .struct [(0, 23), (1, 3)], [.slice none 0 0, .int .i64 0], false⟩),
  (26, ⟨1, 24, .slice 40, [.slice none 0 0], false⟩),
  (27, ⟨4, 64, .struct [(0, 25), (2, 26), (3, 3)], [.slice none 0 0, .int .i64 0, .slice none 0 0, .int .i64 0], false⟩),
  (28, ⟨4, 64, .struct [(0, 25), (2, 26), (3, 3)], [.slice none 0 0, .int .i64 0, .slice none 0 0, .int .i64 0], false⟩),
  (29, ⟨1, 8, .oth, [.nilFunc], false⟩),
  (30, ⟨1, 8, .oth, [.nilFunc], false⟩),
  (31, ⟨1, 8, .ptr, [.pointer none], false⟩),
  (32, ⟨1, 8, .oth, [.nilFunc], false⟩),
  (33, ⟨1, 8, .oth, [.nilFunc], false⟩),
  (34, ⟨1, 8, .oth, [.nilFunc], false⟩),
  (35, ⟨1, 24, .slice 28, [.slice none 0 0], false⟩),
  (36, ⟨1, 8, .oth, [.nilFunc], false⟩),
  (37, ⟨1, 8, .oth, [.nilFunc], false⟩),
  (38, ⟨1, 8, .oth, [.nilFunc], false⟩),
  (39, ⟨4, 32, .struct [(0, 3), (1, 3), (2, 3), (3, 3)], [.int .i64 0, .int .i64 0, .int .i64 0, .int .i64 0], true⟩),
  (40, ⟨4, 32, .struct [(0, 3), (1, 3), (2, 3), (3, 3)], [.int .i64 0, .int .i64 0, .int .i64 0, .int .i64 0], true⟩),
  (42, ⟨1, 8, .oth, [.nilFunc], false⟩),
  (43, ⟨1, 8, .oth, [.nilFunc], false⟩),
  (44, ⟨1, 8, .oth, [.nilFunc], false⟩),
  (45, ⟨1, 8, .oth, [.nilFunc], false⟩),
  (46, ⟨1, 8, .oth, [.nilFunc], false⟩),
  (47, ⟨1, 8, .oth, [.nilFunc], false⟩),
  (48, ⟨1, 8, .oth, [.nilFunc], false⟩),
  (49, ⟨1, 8, .oth, [.nilFunc], false⟩),
  (50, ⟨1, 8, .oth, [.nilFunc], false⟩),
  (51, ⟨1, 8, .int .i64, [.int .i64 0], false⟩),
  (53, ⟨1, 8, .oth, [.nilFunc], false⟩),
  (54, ⟨1, 8, .oth, [.nilFunc], false⟩),
  (56, ⟨1, 8, .oth, [.nilFunc], false⟩),
  (57, ⟨1, 8, .oth, [.nilFunc], false⟩),
  (58, ⟨1, 8, .oth, [.nilFunc], false⟩),
  (59, ⟨1, 8, .oth, [.nilFunc], false⟩),
  (60, ⟨6, 56, .struct [(0, 3), (1, 3), (2, 9), (3, 3), (4, 3), (5, 3)], [.int .i64 0, .int .i64 0, .string ⟨#[]⟩, .int .i64 0, .int .i64 0, .int .i64 0], true⟩),
  (61, ⟨6, 56, .struct [(0, 3), (1, 3), (2, 9), (3, 3), (4, 3), (5, 3)], [.int .i64 0, .int .i64 0, .string ⟨#[]⟩, .int .i64 0, .int .i64 0, .int .i64 0], true⟩),
  (62, ⟨1, 8, .oth, [.nilFunc], false⟩),
  (63, ⟨2, 32, .struct [(0, 22), (1, 3)], [.slice none 0 0, .int .i64 0], false⟩),
  (64, ⟨2, 32, .struct [(0, 22), (1, 3)], [.slice none 0 0, .int .i64 0], false⟩),
  (65, ⟨1, 8, .oth, [.nilFunc], false⟩),
  (66, ⟨1, 8, .oth, [.nilFunc], false⟩),
  (67, ⟨1, 8, .oth, [.nilFunc], false⟩),
  (68, ⟨1, 8, .ptr, [.pointer none], false⟩),
  (69, ⟨1, 8, .oth, [.nilFunc], false⟩),
  (70, ⟨1, 8, .ptr, [.pointer none], false⟩),
  (71, ⟨1, 8, .oth, [.nilFunc], false⟩),
  (72, ⟨1, 8, .oth, [.nilFunc], false⟩),
  (73, ⟨1, 8, .oth, [.nilFunc], false⟩),
  (74, ⟨1, 8, .oth, [.nilFunc], false⟩),
  (75, ⟨1, 8, .oth, [.nilFunc], false⟩),
  (76, ⟨1, 8, .oth, [.nilFunc], false⟩),
  (78, ⟨1, 8, .oth, [.nilFunc], false⟩),
  (79, ⟨1, 8, .oth, [.nilFunc], false⟩),
  (80, ⟨1, 8, .oth, [.nilFunc], false⟩),
  (81, ⟨1, 8, .oth, [.nilFunc], false⟩),
  (82, ⟨1, 8, .oth, [.nilFunc], false⟩),
  (84, ⟨1, 8, .oth, [.nilFunc], false⟩),
  (85, ⟨1, 8, .oth, [.nilFunc], false⟩),
  (86, ⟨1, 8, .oth, [.nilFunc], false⟩),
  (87, ⟨1, 8, .oth, [.nilFunc], false⟩),
  (89, ⟨1, 8, .oth, [.nilFunc], false⟩),
  (90, ⟨1, 8, .oth, [.nilFunc], false⟩),
  (92, ⟨1, 8, .oth, [.nilFunc], false⟩),
  (93, ⟨1, 8, .oth, [.nilFunc], false⟩),
  (94, ⟨1, 8, .oth, [.nilFunc], false⟩),
  (95, ⟨1, 8, .oth, [.nilFunc], false⟩),
  (96, ⟨1, 8, .oth, [.nilFunc], false⟩),
  (97, ⟨1, 24, .slice 9, [.slice none 0 0], false⟩),
  (98, ⟨1, 8, .oth, [.nilFunc], false⟩),
  (99, ⟨64, 512, .array 64 3, [.int .i64 0, .int .i64 0, .int .i64 0, .int .i64 0, .int .i64 0, .int .i64 0, .int .i64 0, .int .i64 0, .int .i64 0, .int .i64 0, .int .i64 0, .int .i64 0, .int .i64 0, .int .i64 0, .int .i64 0, .int .i64 0, .int .i64 0, .int .i64 0, .int .i64 0, .int .i64 0, .int .i64 0, .int .i64 0, .int .i64 0, .int .i64 0, .int .i64 0, .int .i64 0, .int .i64 0, .int .i64 0, .int .i64 0, .int .i64 0, .int .i64 0, .int .i64 0, .int .i64 0, .int .i64 0, .int .i64 0, .int .i64 0, .int .i64 0, .int .i64 0, .int .i64 0, .int .i64 0, .int .i64 0, .int .i64 0, .int .i64 0, .int .i64 0, .int .i64 0, .int .i64 0, .int .i64 0, .int .i64 0, .int .i64 0, .int .i64 0, .int .i64 0, .int .i64 0, .int .i64 0, .int .i64 0, .int .i64 0, .int .i64 0, .int .i64 0, .int .i64 0, .int .i64 0, .int .i64 0, .int .i64 0, .int .i64 0, .int .i64 0, .int .i64 0], true⟩),
  (100, ⟨1, 8, .oth, [.nilFunc], false⟩),
  (101, ⟨1, 8, .oth, [.nilFunc], false⟩),
  (102, ⟨1, 8, .oth, [.nilFunc], false⟩),
  (103, ⟨1, 8, .oth, [.nilFunc], false⟩),
  (104, ⟨1, 8, .oth, [.nilFunc], false⟩),
  (105, ⟨1, 8, .oth, [.nilFunc], false⟩),
  (106, ⟨1, 8, .oth, [.nilFunc], false⟩),
  (107, ⟨1, 8, .oth, [.nilFunc], false⟩),
  (108, ⟨1, 8, .oth, [.nilFunc], false⟩),
  (109, ⟨1, 8, .map 3 22, [.map none], false⟩),
  (110, ⟨1, 8, .oth, [.nilFunc], false⟩),
  (111, ⟨1, 8, .oth, [.nilFunc], false⟩),
  (112, ⟨1, 8, .oth, [.nilFunc], false⟩),
  (113, ⟨1, 8, .oth, [.nilFunc], false⟩),
  (114, ⟨1, 8, .oth, [.nilFunc], false⟩),
  (115, ⟨1, 8, .int .u64, [.int .u64 0], false⟩),
  (116, ⟨1, 8, .oth, [.nilFunc], false⟩),
  (117, ⟨1, 8, .oth, [.nilFunc], false⟩),
  (118, ⟨1, 8, .oth, [.nilFunc], false⟩),
  (119, ⟨1, 8, .oth, [.nilFunc], false⟩),
  (120, ⟨4, 40, .struct [(0, 17), (1, 17), (2, 17), (3, 9)], [.pointer none, .pointer none, .pointer none, .string ⟨#[]⟩], false⟩),
  (121, ⟨4, 40, .struct [(0, 17), (1, 17), (2, 17), (3, 9)], [.pointer none, .pointer none, .pointer none, .string ⟨#[]⟩], false⟩),
  (125, ⟨1, 4, .int .u32, [.int .u32 0], false⟩),
  (126, ⟨1, 1, .int .u8, [.int .u8 0], false⟩),
  (127, ⟨1, 1, .int .u8, [.int .u8 0], false⟩),
  (128, ⟨1, 8, .oth, [.nilFunc], false⟩),
  (129, ⟨1, 8, .ptr, [.pointer none], false⟩),
  (130, ⟨1, 4, .int .i32, [.int .i32 0], false⟩),
  (131, ⟨1, 4, .int .i32, [.int .i32 0], false⟩),
  (132, ⟨11, 48, .struct [(0, 12), (1, 12), (2, 125), (3, 126), (4, 5), (5, 5), (6, 127), (7, 128), (8, 129), (9, 130), (10, 131)], [.int .u64 0, .int .u64 0, .int .u32 0, .int .u8 0, .int .u8 0, .int .u8 0, .int .u8 0, .nilFunc, .pointer none, .int .i32 0, .int .i32 0], false⟩),
  (133, ⟨11, 48, .struct [(0, 12), (1, 12), (2, 125), (3, 126), (4, 5), (5, 5), (6, 127), (7, 128), (8, 129), (9, 130), (10, 131)], [.int .u64 0, .int .u64 0, .int .u32 0, .int .u8 0, .int .u8 0, .int .u8 0, .int .u8 0, .nilFunc, .pointer none, .int .i32 0, .int .i32 0], false⟩)]
def TT : Tab := ⟨TL, false⟩
theorem TL_ok : chkT Tryz.prog TL = true := by kernel_rfl
theorem TT_ok : TOk Tryz.prog TT := chkT_ok TL_ok
theorem TT_cl : TClosed TT = true := by kernel_rfl
theorem mixed : Tryz.prog.follows .mixedOrders = true := by kernel_rfl
theorem l1 : slot 1 TT.ts = some ⟨1, 8, .oth, [.nilFunc], false⟩ := rfl
theorem l2 : slot 2 TT.ts = some ⟨1, 8, .int .i64, [.int .i64 0], false⟩ := rfl
theorem l3 : slot 3 TT.ts = some ⟨1, 8, .int .i64, [.int .i64 0], false⟩ := rfl
theorem l4 : slot 4 TT.ts = some ⟨1, 1, .bool, [.bool false], false⟩ := rfl
theorem l5 : slot 5 TT.ts = some ⟨1, 1, .int .u8, [.int .u8 0], false⟩ := rfl
theorem l6 : slot 6 TT.ts = some ⟨1, 1, .int .u8, [.int .u8 0], false⟩ := rfl
theorem l7 : slot 7 TT.ts = some ⟨4, 24, .struct [(0, 2), (1, 3), (2, 4), (3, 6)], [.int .i64 0, .int .i64 0, .bool false, .int .u8 0], true⟩ := rfl
theorem l8 : slot 8 TT.ts = some ⟨4, 24, .struct [(0, 2), (1, 3), (2, 4), (3, 6)], [.int .i64 0, .int .i64 0, .bool false, .int .u8 0], true⟩ := rfl
theorem l9 : slot 9 TT.ts = some ⟨1, 16, .str, [.string ⟨#[]⟩], false⟩ := rfl
theorem l10 : slot 10 TT.ts = some ⟨1, 16, .str, [.string ⟨#[]⟩], false⟩ := rfl
theorem l11 : slot 11 TT.ts = some ⟨1, 16, .str, [.string ⟨#[]⟩], false⟩ := rfl
theorem l12 : slot 12 TT.ts = some ⟨1, 8, .int .u64, [.int .u64 0], false⟩ := rfl
theorem l13 : slot 13 TT.ts = some ⟨2, 24, .struct [(0, 9), (1, 12)], [.string ⟨#[]⟩, .int .u64 0], false⟩ := rfl
theorem l14 : slot 14 TT.ts = some ⟨2, 24, .struct [(0, 9), (1, 12)], [.string ⟨#[]⟩, .int .u64 0], false⟩ := rfl
theorem l15 : slot 15 TT.ts = some ⟨1, 8, .ptr, [.pointer none], false⟩ := rfl
theorem l16 : slot 16 TT.ts = some ⟨1, 8, .ptr, [.pointer none], false⟩ := rfl
theorem l17 : slot 17 TT.ts = some ⟨1, 8, .ptr, [.pointer none], false⟩ := rfl
theorem l18 : slot 18 TT.ts = some ⟨1, 8, .struct [(0, 17)], [.pointer none], false⟩ := rfl
theorem l19 : slot 19 TT.ts = some ⟨1, 8, .struct [(0, 17)], [.pointer none], false⟩ := rfl
theorem l21 : slot 21 TT.ts = some ⟨1, 4, .int .i32, [.int .i32 0], false⟩ := rfl
theorem l22 : slot 22 TT.ts = some ⟨1, 24, .slice 3, [.slice none 0 0], false⟩ := rfl
theorem l23 : slot 23 TT.ts = some ⟨1, 24, .slice 61, [.slice none 0 0], false⟩ := rfl
theorem l24 : slot 24 TT.ts = some ⟨2, 32, .struct [(0, 23), (1, 3)], [.slice none 0 0, .int .i64 0], false⟩ := rfl
theorem l25 : slot 25 TT.ts = some ⟨2, 32, .struct [(0, 23), (1, 3)], [.slice none 0 0, .int .i64 0], false⟩ := rfl
theorem l26 : slot 26 TT.ts = some ⟨1, 24, .slice 40, [.slice none 0 0], false⟩ := rfl
theorem l27 : slot 27 TT.ts = some ⟨4, 64, .struct [(0, 25), (2, 26), (3, 3)], [.slice none 0 0, .int .i64 0, .slice none 0 0, .int .i64 0], false⟩ := rfl
theorem l28 : slot 28 TT.ts = some ⟨4, 64, .struct [(0, 25), (2, 26), (3, 3)], [.slice none 0 0, .int .i64 0, .slice none 0 0, .int .i64 0], false⟩ := rfl
theorem l29 : slot 29 TT.ts = some ⟨1, 8, .oth, [.nilFunc], false⟩ := rfl
theorem l30 : slot 30 TT.ts = some ⟨1, 8, .oth, [.nilFunc], false⟩ := rfl
theorem l31 : slot 31 TT.ts = some ⟨1, 8, .ptr, [.pointer none], false⟩ := rfl
theorem l32 : slot 32 TT.ts = some ⟨1, 8, .oth, [.nilFunc], false⟩ := rfl
theorem l33 : slot 33 TT.ts = some ⟨1, 8, .oth, [.nilFunc], false⟩ := rfl
theorem l34 : slot 34 TT.ts = some ⟨1, 8, .oth, [.nilFunc], false⟩ := rfl
theorem l35 : slot 35 TT.ts = some ⟨1, 24, .slice 28, [.slice none 0 0], false⟩ := rfl
theorem l36 : slot 36 TT.ts = some ⟨1, 8, .oth, [.nilFunc], false⟩ := rfl
theorem l37 : slot 37 TT.ts = some ⟨1, 8, .oth, [.nilFunc], false⟩ := rfl
theorem l38 : slot 38 TT.ts = some ⟨1, 8, .oth, [.nilFunc], false⟩ := rfl
theorem l39 : slot 39 TT.ts = some ⟨4, 32, .struct [(0, 3), (1, 3), (2, 3), (3, 3)], [.int .i64 0, .int .i64 0, .int .i64 0, .int .i64 0], true⟩ := rfl
theorem l40 : slot 40 TT.ts = some ⟨4, 32, .struct [(0, 3), (1, 3), (2, 3), (3, 3)], [.int .i64 0, .int .i64 0, .int .i64 0, .int .i64 0], true⟩ := rfl
theorem l42 : slot 42 TT.ts = some ⟨1, 8, .oth, [.nilFunc], false⟩ := rfl
theorem l43 : slot 43 TT.ts = some ⟨1, 8, .oth, [.nilFunc], false⟩ := rfl
theorem l44 : slot 44 TT.ts = some ⟨1, 8, .oth, [.nilFunc], false⟩ := rfl
theorem l45 : slot 45 TT.ts = some ⟨1, 8, .oth, [.nilFunc], false⟩ := rfl
theorem l46 : slot 46 TT.ts = some ⟨1, 8, .oth, [.nilFunc], false⟩ := rfl
theorem l47 : slot 47 TT.ts = some ⟨1, 8, .oth, [.nilFunc], false⟩ := rfl
theorem l48 : slot 48 TT.ts = some ⟨1, 8, .oth, [.nilFunc], false⟩ := rfl
theorem l49 : slot 49 TT.ts = some ⟨1, 8, .oth, [.nilFunc], false⟩ := rfl
theorem l50 : slot 50 TT.ts = some ⟨1, 8, .oth, [.nilFunc], false⟩ := rfl
theorem l51 : slot 51 TT.ts = some ⟨1, 8, .int .i64, [.int .i64 0], false⟩ := rfl
theorem l53 : slot 53 TT.ts = some ⟨1, 8, .oth, [.nilFunc], false⟩ := rfl
theorem l54 : slot 54 TT.ts = some ⟨1, 8, .oth, [.nilFunc], false⟩ := rfl
theorem l56 : slot 56 TT.ts = some ⟨1, 8, .oth, [.nilFunc], false⟩ := rfl
theorem l57 : slot 57 TT.ts = some ⟨1, 8, .oth, [.nilFunc], false⟩ := rfl
theorem l58 : slot 58 TT.ts = some ⟨1, 8, .oth, [.nilFunc], false⟩ := rfl
theorem l59 : slot 59 TT.ts = some ⟨1, 8, .oth, [.nilFunc], false⟩ := rfl
theorem l60 : slot 60 TT.ts = some ⟨6, 56, .struct [(0, 3), (1, 3), (2, 9), (3, 3), (4, 3), (5, 3)], [.int .i64 0, .int .i64 0, .string ⟨#[]⟩, .int .i64 0, .int .i64 0, .int .i64 0], true⟩ := rfl
theorem l61 : slot 61 TT.ts = some ⟨6, 56, .struct [(0, 3), (1, 3), (2, 9), (3, 3), (4, 3), (5, 3)], [.int .i64 0, .int .i64 0, .string ⟨#[]⟩, .int .i64 0, .int .i64 0, .int .i64 0], true⟩ := rfl
theorem l62 : slot 62 TT.ts = some ⟨1, 8, .oth, [.nilFunc], false⟩ := rfl
theorem l63 : slot 63 TT.ts = some ⟨2, 32, .struct [(0, 22), (1, 3)], [.slice none 0 0, .int .i64 0], false⟩ := rfl
theorem l64 : slot 64 TT.ts = some ⟨2, 32, .struct [(0, 22), (1, 3)], [.slice none 0 0, .int .i64 0], false⟩ := rfl
theorem l65 : slot 65 TT.ts = some ⟨1, 8, .oth, [.nilFunc], false⟩ := rfl
theorem l66 : slot 66 TT.ts = some ⟨1, 8, .oth, [.nilFunc], false⟩ := rfl
theorem l67 : slot 67 TT.ts = some ⟨1, 8, .oth, [.nilFunc], false⟩ := rfl
theorem l68 : slot 68 TT.ts = some ⟨1, 8, .ptr, [.pointer none], false⟩ := rfl
theorem l69 : slot 69 TT.ts = some ⟨1, 8, .oth, [.nilFunc], false⟩ := rfl
theorem l70 : slot 70 TT.ts = some ⟨1, 8, .ptr, [.pointer none], false⟩ := rfl
theorem l71 : slot 71 TT.ts = some ⟨1, 8, .oth, [.nilFunc], false⟩ := rfl
theorem l72 : slot 72 TT.ts = some ⟨1, 8, .oth, [.nilFunc], false⟩ := rfl
theorem l73 : slot 73 TT.ts = some ⟨1, 8, .oth, [.nilFunc], false⟩ := rfl
theorem l74 : slot 74 TT.ts = some ⟨1, 8, .oth, [.nilFunc], false⟩ := rfl
theorem l75 : slot 75 TT.ts = some ⟨1, 8, .oth, [.nilFunc], false⟩ := rfl
theorem l76 : slot 76 TT.ts = some ⟨1, 8, .oth, [.nilFunc], false⟩ := rfl
theorem l78 : slot 78 TT.ts = some ⟨1, 8, .oth, [.nilFunc], false⟩ := rfl
theorem l79 : slot 79 TT.ts = some ⟨1, 8, .oth, [.nilFunc], false⟩ := rfl
theorem l80 : slot 80 TT.ts = some ⟨1, 8, .oth, [.nilFunc], false⟩ := rfl
theorem l81 : slot 81 TT.ts = some ⟨1, 8, .oth, [.nilFunc], false⟩ := rfl
theorem l82 : slot 82 TT.ts = some ⟨1, 8, .oth, [.nilFunc], false⟩ := rfl
theorem l84 : slot 84 TT.ts = some ⟨1, 8, .oth, [.nilFunc], false⟩ := rfl
theorem l85 : slot 85 TT.ts = some ⟨1, 8, .oth, [.nilFunc], false⟩ := rfl
theorem l86 : slot 86 TT.ts = some ⟨1, 8, .oth, [.nilFunc], false⟩ := rfl
theorem l87 : slot 87 TT.ts = some ⟨1, 8, .oth, [.nilFunc], false⟩ := rfl
theorem l89 : slot 89 TT.ts = some ⟨1, 8, .oth, [.nilFunc], false⟩ := rfl
theorem l90 : slot 90 TT.ts = some ⟨1, 8, .oth, [.nilFunc], false⟩ := rfl
theorem l92 : slot 92 TT.ts = some ⟨1, 8, .oth, [.nilFunc], false⟩ := rfl
theorem l93 : slot 93 TT.ts = some ⟨1, 8, .oth, [.nilFunc], false⟩ := rfl
theorem l94 : slot 94 TT.ts = some ⟨1, 8, .oth, [.nilFunc], false⟩ := rfl
theorem l95 : slot 95 TT.ts = some ⟨1, 8, .oth, [.nilFunc], false⟩ := rfl
theorem l96 : slot 96 TT.ts = some ⟨1, 8, .oth, [.nilFunc], false⟩ := rfl
theorem l97 : slot 97 TT.ts = some ⟨1, 24, .slice 9, [.slice none 0 0], false⟩ := rfl
theorem l98 : slot 98 TT.ts = some ⟨1, 8, .oth, [.nilFunc], false⟩ := rfl
theorem l99 : slot 99 TT.ts = some ⟨64, 512, .array 64 3, [.int .i64 0, .int .i64 0, .int .i64 0, .int .i64 0, .int .i64 0, .int .i64 0, .int .i64 0, .int .i64 0, .int .i64 0, .int .i64 0, .int .i64 0, .int .i64 0, .int .i64 0, .int .i64 0, .int .i64 0, .int .i64 0, .int .i64 0, .int .i64 0, .int .i64 0, .int .i64 0, .int .i64 0, .int .i64 0, .int .i64 0, .int .i64 0, .int .i64 0, .int .i64 0, .int .i64 0, .int .i64 0, .int .i64 0, .int .i64 0, .int .i64 0, .int .i64 0, .int .i64 0, .int .i64 0, .int .i64 0, .int .i64 0, .int .i64 0, .int .i64 0, .int .i64 0, .int .i64 0, .int .i64 0, .int .i64 0, .int .i64 0, .int .i64 0, .int .i64 0, .int .i64 0, .int .i64 0, .int .i64 0, .int .i64 0, .int .i64 0, .int .i64 0, .int .i64 0, .int .i64 0, .int .i64 0, .int .i64 0, .int .i64 0, .int .i64 0, .int .i64 0, .int .i64 0, .int .i64 0, .int .i64 0, .int .i64 0, .int .i64 0, .int .i64 0], true⟩ := rfl
theorem l100 : slot 100 TT.ts = some ⟨1, 8, .oth, [.nilFunc], false⟩ := rfl
theorem l101 : slot 101 TT.ts = some ⟨1, 8, .oth, [.nilFunc], false⟩ := rfl
theorem l102 : slot 102 TT.ts = some ⟨1, 8, .oth, [.nilFunc], false⟩ := rfl
theorem l103 : slot 103 TT.ts = some ⟨1, 8, .oth, [.nilFunc], false⟩ := rfl
theorem l104 : slot 104 TT.ts = some ⟨1, 8, .oth, [.nilFunc], false⟩ := rfl
theorem l105 : slot 105 TT.ts = some ⟨1, 8, .oth, [.nilFunc], false⟩ := rfl
theorem l106 : slot 106 TT.ts = some ⟨1, 8, .oth, [.nilFunc], false⟩ := rfl
theorem l107 : slot 107 TT.ts = some ⟨1, 8, .oth, [.nilFunc], false⟩ := rfl
theorem l108 : slot 108 TT.ts = some ⟨1, 8, .oth, [.nilFunc], false⟩ := rfl
theorem l109 : slot 109 TT.ts = some ⟨1, 8, .map 3 22, [.map none], false⟩ := rfl
theorem l110 : slot 110 TT.ts = some ⟨1, 8, .oth, [.nilFunc], false⟩ := rfl
theorem l111 : slot 111 TT.ts = some ⟨1, 8, .oth, [.nilFunc], false⟩ := rfl
theorem l112 : slot 112 TT.ts = some ⟨1, 8, .oth, [.nilFunc], false⟩ := rfl
theorem l113 : slot 113 TT.ts = some ⟨1, 8, .oth, [.nilFunc], false⟩ := rfl
theorem l114 : slot 114 TT.ts = some ⟨1, 8, .oth, [.nilFunc], false⟩ := rfl
theorem l115 : slot 115 TT.ts = some ⟨1, 8, .int .u64, [.int .u64 0], false⟩ := rfl
theorem l116 : slot 116 TT.ts = some ⟨1, 8, .oth, [.nilFunc], false⟩ := rfl
theorem l117 : slot 117 TT.ts = some ⟨1, 8, .oth, [.nilFunc], false⟩ := rfl
theorem l118 : slot 118 TT.ts = some ⟨1, 8, .oth, [.nilFunc], false⟩ := rfl
theorem l119 : slot 119 TT.ts = some ⟨1, 8, .oth, [.nilFunc], false⟩ := rfl
theorem l120 : slot 120 TT.ts = some ⟨4, 40, .struct [(0, 17), (1, 17), (2, 17), (3, 9)], [.pointer none, .pointer none, .pointer none, .string ⟨#[]⟩], false⟩ := rfl
theorem l121 : slot 121 TT.ts = some ⟨4, 40, .struct [(0, 17), (1, 17), (2, 17), (3, 9)], [.pointer none, .pointer none, .pointer none, .string ⟨#[]⟩], false⟩ := rfl
theorem l125 : slot 125 TT.ts = some ⟨1, 4, .int .u32, [.int .u32 0], false⟩ := rfl
theorem l126 : slot 126 TT.ts = some ⟨1, 1, .int .u8, [.int .u8 0], false⟩ := rfl
theorem l127 : slot 127 TT.ts = some ⟨1, 1, .int .u8, [.int .u8 0], false⟩ := rfl
theorem l128 : slot 128 TT.ts = some ⟨1, 8, .oth, [.nilFunc], false⟩ := rfl
theorem l129 : slot 129 TT.ts = some ⟨1, 8, .ptr, [.pointer none], false⟩ := rfl
theorem l130 : slot 130 TT.ts = some ⟨1, 4, .int .i32, [.int .i32 0], false⟩ := rfl
theorem l131 : slot 131 TT.ts = some ⟨1, 4, .int .i32, [.int .i32 0], false⟩ := rfl
theorem l132 : slot 132 TT.ts = some ⟨11, 48, .struct [(0, 12), (1, 12), (2, 125), (3, 126), (4, 5), (5, 5), (6, 127), (7, 128), (8, 129), (9, 130), (10, 131)], [.int .u64 0, .int .u64 0, .int .u32 0, .int .u8 0, .int .u8 0, .int .u8 0, .int .u8 0, .nilFunc, .pointer none, .int .i32 0, .int .i32 0], false⟩ := rfl
theorem l133 : slot 133 TT.ts = some ⟨11, 48, .struct [(0, 12), (1, 12), (2, 125), (3, 126), (4, 5), (5, 5), (6, 127), (7, 128), (8, 129), (9, 130), (10, 131)], [.int .u64 0, .int .u64 0, .int .u32 0, .int .u8 0, .int .u8 0, .int .u8 0, .int .u8 0, .nilFunc, .pointer none, .int .i32 0, .int .i32 0], false⟩ := rfl
theorem TT_wr : TT.wr = false := rfl
attribute [go_sem] TT_wr l1 l2 l3 l4 l5 l6 l7 l8 l9 l10 l11 l12 l13 l14 l15 l16 l17 l18 l19 l21 l22 l23 l24 l25 l26 l27 l28 l29 l30 l31 l32 l33 l34 l35 l36 l37 l38 l39 l40 l42 l43 l44 l45 l46 l47 l48 l49 l50 l51 l53 l54 l56 l57 l58 l59 l60 l61 l62 l63 l64 l65 l66 l67 l68 l69 l70 l71 l72 l73 l74 l75 l76 l78 l79 l80 l81 l82 l84 l85 l86 l87 l89 l90 l92 l93 l94 l95 l96 l97 l98 l99 l100 l101 l102 l103 l104 l105 l106 l107 l108 l109 l110 l111 l112 l113 l114 l115 l116 l117 l118 l119 l120 l121 l125 l126 l127 l128 l129 l130 l131 l132 l133
end Go.Proofs.YtnahpejlhfeleabGreat
