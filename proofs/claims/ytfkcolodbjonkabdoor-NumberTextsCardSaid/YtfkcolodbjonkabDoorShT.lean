/- The laws by which a text's proposition is reckoned out, a step at a time. -/
import Derived.Test.YtfkcolodbjonkabDoorShS
namespace Go.Proofs.YtfkcolodbjonkabDoor.Sh
open Go.RowKit
set_option linter.unusedVariables false
set_option linter.unusedSimpArgs false

theorem dst_some (N : Nat) (d : Tmp) : dstOk N (some d) = (d < N) := rfl

section
variable {P : Program} {T : Tab} {A : An} {N : Nat} {all : Array Oper} {dr : Bool} {K : St → Prop} {Q : Exit → St → Prop} {rest : List Oper} {acc : List (List Nat × List Nat)} {tm : List (Nat × SV)} {hp : List (Nat × Option Row)} {nx : Nat} {s : St}

abbrev evL (tm : List (Nat × SV)) (x : Operand) : SV := evS (fun k => slot k tm) x
abbrev hpL' (hp : List (Nat × Option Row)) : Nat → Option Row := fun r => lookR r hp

def S1 (P : Program) (T : Tab) (A : An) (N : Nat) (all : Array Oper) (dr : Bool) (K : St → Prop) (rest : List Oper) (acc : List (List Nat × List Nat)) (tm : List (Nat × SV)) (hp : List (Nat × Option Row)) (nx : Nat) (dst : Option Tmp) (r : Res) (F : List Nat) : Prop :=
  dstOk N dst ∧ r.need ∧ sops P T A N all dr K rest ((F, r.ups.map (·.1)) :: acc) (St.go ⟨tm, hp, nx⟩ dst r.val r.ups r.new)
@[congr] theorem S1_congr {nx' : Nat} {r r' : Res} {F F' : List Nat} {dst : Option Tmp} (h0 : nx = nx') (h1 : r = r') (h2 : F = F') : S1 P T A N all dr K rest acc tm hp nx dst r F = S1 P T A N all dr K rest acc tm hp nx' dst r' F' := by subst h0; subst h1; subst h2; rfl

def S2 (P : Program) (T : Tab) (A : An) (N : Nat) (all : Array Oper) (dr : Bool) (K : St → Prop) (rest : List Oper) (acc : List (List Nat × List Nat)) (tm : List (Nat × SV)) (hp : List (Nat × Option Row)) (nx : Nat) (dst : Option Tmp) (b : Bool) (r : Res) (F : List Nat) : Prop :=
  dstOk N dst ∧ GN b r ∧ sops P T A N all dr K rest ((gfp b F, []) :: acc) (St.go ⟨tm, hp, nx⟩ dst (cnd b r.val) [] 0)
@[congr] theorem S2_congr {nx' : Nat} {b b' : Bool} {r r' : Res} {F F' : List Nat} {dst : Option Tmp} (h0 : nx = nx') (hb : b = b') (h1 : r = r') (h2 : F = F') : S2 P T A N all dr K rest acc tm hp nx dst b r F = S2 P T A N all dr K rest acc tm hp nx' dst b' r' F' := by subst h0; subst hb; subst h1; subst h2; rfl

def S2U (P : Program) (T : Tab) (A : An) (N : Nat) (all : Array Oper) (dr : Bool) (K : St → Prop) (rest : List Oper) (acc : List (List Nat × List Nat)) (tm : List (Nat × SV)) (hp : List (Nat × Option Row)) (nx : Nat) (dst : Option Tmp) (b : Bool) (f : SV → Res) (p : SV → List Nat) (x : SV) : Prop :=
  S2 P T A N all dr K rest acc tm hp nx dst b (f x) (p x)
@[congr] theorem S2U_congr {nx' : Nat} {b b' : Bool} {f : SV → Res} {p : SV → List Nat} {x x' : SV} {dst : Option Tmp} (h0 : nx = nx') (hb : b = b') (h1 : x = x') : S2U P T A N all dr K rest acc tm hp nx dst b f p x = S2U P T A N all dr K rest acc tm hp nx' dst b' f p x' := by subst h0; subst hb; subst h1; rfl

def S2B (P : Program) (T : Tab) (A : An) (N : Nat) (all : Array Oper) (dr : Bool) (K : St → Prop) (rest : List Oper) (acc : List (List Nat × List Nat)) (tm : List (Nat × SV)) (hp : List (Nat × Option Row)) (nx : Nat) (dst : Option Tmp) (b : Bool) (f : SV → SV → Res) (p : SV → List Nat) (x y : SV) : Prop :=
  S2 P T A N all dr K rest acc tm hp nx dst b (f x y) (p x)
@[congr] theorem S2B_congr {nx' : Nat} {b b' : Bool} {f : SV → SV → Res} {p : SV → List Nat} {x x' y y' : SV} {dst : Option Tmp} (h0 : nx = nx') (hb : b = b') (h1 : x = x') (h2 : y = y') : S2B P T A N all dr K rest acc tm hp nx dst b f p x y = S2B P T A N all dr K rest acc tm hp nx' dst b' f p x' y' := by subst h0; subst hb; subst h1; subst h2; rfl

theorem s2_eq (b : Bool) {dst : Option Tmp} {r r' : Res} {F F' : List Nat} (h : b = true → r = r' ∧ F = F') : S2 P T A N all dr K rest acc tm hp nx dst b r F = S2 P T A N all dr K rest acc tm hp nx dst b r' F' := by
  cases b with
  | true => obtain ⟨h1, h2⟩ := h rfl; rw [h1, h2]
  | false => simp only [S2, GN, cnd, gfp]; simp
theorem s2u_cnd (b : Bool) (f : SV → Res) (p : SV → List Nat) (x : SV) {dst : Option Tmp} : S2U P T A N all dr K rest acc tm hp nx dst b f p (cnd b x) = S2U P T A N all dr K rest acc tm hp nx dst b f p x :=
  s2_eq b fun h => by simp [cnd, h]
theorem s2u_one (b : Bool) (f : SV → Res) (p : SV → List Nat) (c : Cell) {dst : Option Tmp} : S2U P T A N all dr K rest acc tm hp nx dst b f p (.one c) = S2 P T A N all dr K rest acc tm hp nx dst b (f (.one c)) (p (.one c)) := rfl
theorem s2u_agg (b : Bool) (f : SV → Res) (p : SV → List Nat) (c : List Cell) {dst : Option Tmp} : S2U P T A N all dr K rest acc tm hp nx dst b f p (.agg c) = S2 P T A N all dr K rest acc tm hp nx dst b (f (.agg c)) (p (.agg c)) := rfl
theorem s2u_tup (b : Bool) (f : SV → Res) (p : SV → List Nat) (c : List SV) {dst : Option Tmp} : S2U P T A N all dr K rest acc tm hp nx dst b f p (.tup c) = S2 P T A N all dr K rest acc tm hp nx dst b (f (.tup c)) (p (.tup c)) := rfl
theorem s2b_l (b : Bool) (f : SV → SV → Res) (p : SV → List Nat) (x y : SV) {dst : Option Tmp} : S2B P T A N all dr K rest acc tm hp nx dst b f p (cnd b x) y = S2B P T A N all dr K rest acc tm hp nx dst b f p x y :=
  s2_eq b fun h => by simp [cnd, h]
theorem s2b_r (b : Bool) (f : SV → SV → Res) (p : SV → List Nat) (x y : SV) {dst : Option Tmp} : S2B P T A N all dr K rest acc tm hp nx dst b f p x (cnd b y) = S2B P T A N all dr K rest acc tm hp nx dst b f p x y :=
  s2_eq b fun h => by simp [cnd, h]
theorem s2b_go (b : Bool) (f : SV → SV → Res) (p : SV → List Nat) (c d : Cell) {dst : Option Tmp} : S2B P T A N all dr K rest acc tm hp nx dst b f p (.one c) (.one d) = S2 P T A N all dr K rest acc tm hp nx dst b (f (.one c) (.one d)) (p (.one c)) := rfl
theorem s2b_ag (b : Bool) (f : SV → SV → Res) (p : SV → List Nat) (c : List Cell) (d : Cell) {dst : Option Tmp} : S2B P T A N all dr K rest acc tm hp nx dst b f p (.agg c) (.one d) = S2 P T A N all dr K rest acc tm hp nx dst b (f (.agg c) (.one d)) (p (.agg c)) := rfl

theorem s2b_gg (b : Bool) (f : SV → SV → Res) (p : SV → List Nat) (c d : List Cell) {dst : Option Tmp} : S2B P T A N all dr K rest acc tm hp nx dst b f p (.agg c) (.agg d) = S2 P T A N all dr K rest acc tm hp nx dst b (f (.agg c) (.agg d)) (p (.agg c)) := rfl
theorem s2_false {dst : Option Tmp} (r : Res) (F : List Nat) : S2 P T A N all dr K rest acc tm hp nx dst false r F = S1 P T A N all dr K rest acc tm hp nx dst ⟨True, ud, [], 0⟩ [] := by
  unfold S2 S1 GN
  simp only [cnd, gfp, Bool.false_eq_true, if_false, false_implies, true_and, List.map_nil]
theorem s2u_false {dst : Option Tmp} (f : SV → Res) (p : SV → List Nat) (x : SV) : S2U P T A N all dr K rest acc tm hp nx dst false f p x = S1 P T A N all dr K rest acc tm hp nx dst ⟨True, ud, [], 0⟩ [] := s2_false _ _
theorem s2b_false {dst : Option Tmp} (f : SV → SV → Res) (p : SV → List Nat) (x y : SV) : S2B P T A N all dr K rest acc tm hp nx dst false f p x y = S1 P T A N all dr K rest acc tm hp nx dst ⟨True, ud, [], 0⟩ [] := s2_false _ _
theorem gfp_nil (b : Bool) : gfp b [] = [] := by cases b <;> rfl
theorem gfp_true (F : List Nat) : gfp true F = F := rfl
theorem gfp_false (F : List Nat) : gfp false F = [] := rfl
theorem cnd_true (v : SV) : cnd true v = v := rfl
theorem cnd_false (v : SV) : cnd false v = ud := rfl

theorem s1_some (d : Tmp) (need : Prop) (v : SV) (ups : List (Nat × Option Row)) (new : Nat) (F : List Nat) : S1 P T A N all dr K rest acc tm hp nx (some d) ⟨need, v, ups, new⟩ F = (d < N ∧ need ∧ sops P T A N all dr K rest ((F, ups.map (·.1)) :: acc) ⟨(d, v) :: tm, pushU ups hp, nx + max 1 new⟩) := by
  unfold S1
  rw [dst_some]
  rfl
theorem s1_none (need : Prop) (v : SV) (ups : List (Nat × Option Row)) (new : Nat) (F : List Nat) : S1 P T A N all dr K rest acc tm hp nx none ⟨need, v, ups, new⟩ F = (need ∧ sops P T A N all dr K rest ((F, ups.map (·.1)) :: acc) ⟨tm, pushU ups hp, nx + max 1 new⟩) := by
  unfold S1 dstOk
  exact propext ⟨fun h => h.2, fun h => ⟨trivial, h⟩⟩
theorem s2_some (d : Tmp) (b : Bool) (need : Prop) (v : SV) (F : List Nat) : S2 P T A N all dr K rest acc tm hp nx (some d) b ⟨need, v, [], 0⟩ F = (d < N ∧ (b = true → need) ∧ sops P T A N all dr K rest ((gfp b F, []) :: acc) ⟨(d, cnd b v) :: tm, hp, nx + 1⟩) := by
  unfold S2 GN
  rw [dst_some]
  simp only [and_true]
  rfl
theorem s2_none (b : Bool) (need : Prop) (v : SV) (F : List Nat) : S2 P T A N all dr K rest acc tm hp nx none b ⟨need, v, [], 0⟩ F = ((b = true → need) ∧ sops P T A N all dr K rest ((gfp b F, []) :: acc) ⟨tm, hp, nx + 1⟩) := by
  unfold S2 GN dstOk
  simp only [true_and, and_true]
  rfl

/-! ### operations, each in its turn -/

theorem o_nil_f : sops P T A N all false K [] acc s = K s := by rw [sops]; simp
def OKC (all : Array Oper) (acc : List (List Nat × List Nat)) : Prop := okc all acc.reverse = true
@[congr] theorem OKC_congr {acc' : List (List Nat × List Nat)} (h : acc = acc') : OKC all acc = OKC all acc' := by rw [h]
theorem o_nil_t : sops P T A N all true K [] acc s = (OKC all acc ∧ K s) := by rw [sops]; simp [OKC]

variable {dst : Option Tmp} {ty : TypeId} {pos : String} {after : Array Edge}

theorem o_move (x : Operand) : sops P T A N all dr K (⟨dst, .move x, ty, pos, after, none⟩ :: rest) acc ⟨tm, hp, nx⟩ = S1 P T A N all dr K rest acc tm hp nx dst ⟨True, evL tm x, [], 0⟩ [] := rfl
theorem o_assign (x : Operand) : sops P T A N all dr K (⟨dst, .assign x, ty, pos, after, none⟩ :: rest) acc ⟨tm, hp, nx⟩ = S1 P T A N all dr K rest acc tm hp nx dst ⟨True, evL tm x, [], 0⟩ [] := rfl
theorem o_alloc (t : TypeId) : sops P T A N all dr K (⟨dst, .alloc t, ty, pos, after, none⟩ :: rest) acc ⟨tm, hp, nx⟩ = S1 P T A N all dr K rest acc tm hp nx dst (sAlloc T t nx) [] := rfl
theorem o_box (t : TypeId) (x : Operand) : sops P T A N all dr K (⟨dst, .box t x, ty, pos, after, none⟩ :: rest) acc ⟨tm, hp, nx⟩ = S1 P T A N all dr K rest acc tm hp nx dst (sBox (evL tm x) nx) [] := rfl
theorem o_build (t : TypeId) (ps : List (Nat × Operand)) : sops P T A N all dr K (⟨dst, .build t (List.toArray ps), ty, pos, after, none⟩ :: rest) acc ⟨tm, hp, nx⟩ = S1 P T A N all dr K rest acc tm hp nx dst (sBuild T t (ps.map fun x => (x.1, evL tm x.2))) [] := rfl
theorem o_buildSlice (t : TypeId) (len : Nat) (ps : List (Nat × Operand)) : sops P T A N all dr K (⟨dst, .buildSlice t len (List.toArray ps), ty, pos, after, none⟩ :: rest) acc ⟨tm, hp, nx⟩ = S1 P T A N all dr K rest acc tm hp nx dst (sBuildSlice T t len (ps.map fun x => (x.1, evL tm x.2)) nx) [] := rfl
theorem o_load (t : TypeId) (x : Operand) : sops P T A N all dr K (⟨dst, .load t x, ty, pos, after, none⟩ :: rest) acc ⟨tm, hp, nx⟩ = S1 P T A N all dr K rest acc tm hp nx dst (sLoad T (hpL' hp) t (evL tm x)) (evL tm x).ref := rfl
theorem o_store (t : TypeId) (x y : Operand) : sops P T A N all dr K (⟨dst, .store t x y, ty, pos, after, none⟩ :: rest) acc ⟨tm, hp, nx⟩ = S1 P T A N all dr K rest acc tm hp nx dst (sStore T (hpL' hp) t (evL tm x) (evL tm y)) (evL tm x).ref := rfl
theorem o_nilCheck (x : Operand) : sops P T A N all dr K (⟨dst, .nilCheck x, ty, pos, after, none⟩ :: rest) acc ⟨tm, hp, nx⟩ = S1 P T A N all dr K rest acc tm hp nx dst (sNil (hpL' hp) (evL tm x)) (evL tm x).ref := rfl
theorem o_bin (op : BinOp) (t yt : TypeId) (x y : Operand) : sops P T A N all dr K (⟨dst, .binOp op t x y yt, ty, pos, after, none⟩ :: rest) acc ⟨tm, hp, nx⟩ = S1 P T A N all dr K rest acc tm hp nx dst (sBinT T (hpL' hp) op t (evL tm x) (evL tm y)) (evL tm x).ref := rfl
theorem o_un (op : UnOp) (t : TypeId) (x : Operand) : sops P T A N all dr K (⟨dst, .unOp op t x, ty, pos, after, none⟩ :: rest) acc ⟨tm, hp, nx⟩ = S1 P T A N all dr K rest acc tm hp nx dst (sUn T.wr op (evL tm x)) [] := rfl
theorem o_conv (t d : TypeId) (x : Operand) : sops P T A N all dr K (⟨dst, .convert t d x, ty, pos, after, none⟩ :: rest) acc ⟨tm, hp, nx⟩ = S1 P T A N all dr K rest acc tm hp nx dst (sConvS T (hpL' hp) t d (evL tm x)) (evL tm x).ref := rfl
theorem o_make (t : TypeId) (x y : Operand) : sops P T A N all dr K (⟨dst, .makeSlice t x y, ty, pos, after, none⟩ :: rest) acc ⟨tm, hp, nx⟩ = S1 P T A N all dr K rest acc tm hp nx dst (sMake T t (evL tm x) (evL tm y) nx) [] := rfl
theorem o_makeFunc (f : FuncId) (cs : List Operand) : sops P T A N all dr K (⟨dst, .makeFunc (.func f) #[] (List.toArray cs), ty, pos, after, none⟩ :: rest) acc ⟨tm, hp, nx⟩ = S1 P T A N all dr K rest acc tm hp nx dst (sFunc f (cs.map (evL tm))) [] := rfl
theorem o_slice (t : TypeId) (x : Operand) (lo hi mx : Option Operand) : sops P T A N all dr K (⟨dst, .slice t x lo hi mx, ty, pos, after, none⟩ :: rest) acc ⟨tm, hp, nx⟩ = S1 P T A N all dr K rest acc tm hp nx dst (sSlice T (hpL' hp) t (evL tm x) (lo.map (evL tm)) (hi.map (evL tm)) (mx.map (evL tm))) (evL tm x).ref := rfl
theorem o_fieldAddr (t : TypeId) (x : Operand) (f : Nat) : sops P T A N all dr K (⟨dst, .fieldAddr t x f, ty, pos, after, none⟩ :: rest) acc ⟨tm, hp, nx⟩ = S1 P T A N all dr K rest acc tm hp nx dst (sFieldAddr T (hpL' hp) t (evL tm x) f) (evL tm x).ref := rfl
theorem o_field (t : TypeId) (x : Operand) (f : Nat) : sops P T A N all dr K (⟨dst, .field t x f, ty, pos, after, none⟩ :: rest) acc ⟨tm, hp, nx⟩ = S1 P T A N all dr K rest acc tm hp nx dst (sField T t (evL tm x) f) [] := rfl
theorem o_indexAddr (t : TypeId) (x i : Operand) : sops P T A N all dr K (⟨dst, .indexAddr t x i, ty, pos, after, none⟩ :: rest) acc ⟨tm, hp, nx⟩ = S1 P T A N all dr K rest acc tm hp nx dst (sIndexAddr T (hpL' hp) t (evL tm x) (evL tm i)) (evL tm x).ref := rfl
theorem o_index (t : TypeId) (x i : Operand) : sops P T A N all dr K (⟨dst, .index t x i, ty, pos, after, none⟩ :: rest) acc ⟨tm, hp, nx⟩ = S1 P T A N all dr K rest acc tm hp nx dst (sIndex T t (evL tm x) (evL tm i)) [] := rfl
theorem o_extract (x : Operand) (i : Nat) : sops P T A N all dr K (⟨dst, .extract x i, ty, pos, after, none⟩ :: rest) acc ⟨tm, hp, nx⟩ = S1 P T A N all dr K rest acc tm hp nx dst (sExtract (evL tm x) i) [] := rfl
theorem o_len (x : Operand) (t : TypeId) : sops P T A N all dr K (⟨dst, .call ⟨.builtin .len, #[x], #[t]⟩, ty, pos, after, none⟩ :: rest) acc ⟨tm, hp, nx⟩ = S1 P T A N all dr K rest acc tm hp nx dst (sLen T (hpL' hp) t (evL tm x)) (evL tm x).ref := by
  show (dstOk N dst ∧ _) = _
  simp only [sDo, sop, sCallB, fp, S1, List.flatMap_cons, List.flatMap_nil, List.append_nil]
  rfl
theorem o_append (x y : Operand) (t : TypeId) : sops P T A N all dr K (⟨dst, .call ⟨.builtin .append, #[x, y], #[t, t]⟩, ty, pos, after, none⟩ :: rest) acc ⟨tm, hp, nx⟩ = S1 P T A N all dr K rest acc tm hp nx dst (sAppend1 T (hpL' hp) t (evL tm x) (evL tm y) nx) ((evL tm x).ref ++ (evL tm y).ref) := by
  show (dstOk N dst ∧ _) = _
  simp only [sDo, sop, sCallB, fp, S1, List.flatMap_cons, List.flatMap_nil, List.append_nil, if_pos]
  rfl

theorem o_appendZ (x y : Operand) (t t' : TypeId) (h : t ≠ t') : sops P T A N all dr K (⟨dst, .call ⟨.builtin .append, #[x, y], #[t, t']⟩, ty, pos, after, none⟩ :: rest) acc ⟨tm, hp, nx⟩ = S1 P T A N all dr K rest acc tm hp nx dst (sAppendZ T (hpL' hp) t t' (evL tm x) (evL tm y) nx) ((evL tm x).ref ++ (evL tm y).ref) := by
  show (dstOk N dst ∧ _) = _
  simp only [sDo, sop, sCallB, fp, S1, if_neg h, List.flatMap_cons, List.flatMap_nil, List.append_nil]
  rfl
theorem o_cap (x : Operand) (t : TypeId) : sops P T A N all dr K (⟨dst, .call ⟨.builtin .cap, #[x], #[t]⟩, ty, pos, after, none⟩ :: rest) acc ⟨tm, hp, nx⟩ = S1 P T A N all dr K rest acc tm hp nx dst (sCap T (hpL' hp) t (evL tm x)) (evL tm x).ref := by
  show (dstOk N dst ∧ _) = _
  simp only [sDo, sop, sCallB, fp, S1, List.flatMap_cons, List.flatMap_nil, List.append_nil]
  rfl
theorem o_copy (x y : Operand) (t t' : TypeId) : sops P T A N all dr K (⟨dst, .call ⟨.builtin .copy, #[x, y], #[t, t']⟩, ty, pos, after, none⟩ :: rest) acc ⟨tm, hp, nx⟩ = S1 P T A N all dr K rest acc tm hp nx dst (sCopy T (hpL' hp) t (evL tm x) (evL tm y)) ((evL tm x).ref ++ (evL tm y).ref) := by
  show (dstOk N dst ∧ _) = _
  simp only [sDo, sop, sCallB, fp, S1, List.flatMap_cons, List.flatMap_nil, List.append_nil]
  rfl
theorem o_clear (x : Operand) (t : TypeId) : sops P T A N all dr K (⟨dst, .call ⟨.builtin .clear, #[x], #[t]⟩, ty, pos, after, none⟩ :: rest) acc ⟨tm, hp, nx⟩ = S1 P T A N all dr K rest acc tm hp nx dst (sClear T (hpL' hp) t (evL tm x)) (evL tm x).ref := by
  show (dstOk N dst ∧ _) = _
  simp only [sDo, sop, sCallB, fp, S1, List.flatMap_cons, List.flatMap_nil, List.append_nil]
  rfl
theorem o_makeMap (t : TypeId) : sops P T A N all dr K (⟨dst, .makeMap t none, ty, pos, after, none⟩ :: rest) acc ⟨tm, hp, nx⟩ = S1 P T A N all dr K rest acc tm hp nx dst (sMakeMap T t nx) [] := rfl
theorem o_lookup (t : TypeId) (x i : Operand) (ok : Bool) : sops P T A N all dr K (⟨dst, .lookup t x i ok, ty, pos, after, none⟩ :: rest) acc ⟨tm, hp, nx⟩ = S1 P T A N all dr K rest acc tm hp nx dst (sLookup T (hpL' hp) t (evL tm x) (evL tm i) ok) (evL tm x).ref := rfl
theorem o_mapUpdate (t : TypeId) (x i v : Operand) : sops P T A N all dr K (⟨dst, .mapUpdate t x i v, ty, pos, after, none⟩ :: rest) acc ⟨tm, hp, nx⟩ = S1 P T A N all dr K rest acc tm hp nx dst (sMapUpdate T (hpL' hp) t (evL tm x) (evL tm i) (evL tm v)) (evL tm x).ref := rfl
theorem o_range (t : TypeId) (x : Operand) : sops P T A N all dr K (⟨dst, .range t x, ty, pos, after, none⟩ :: rest) acc ⟨tm, hp, nx⟩ = S1 P T A N all dr K rest acc tm hp nx dst (sRange T t (evL tm x) nx) [] := rfl
theorem o_next (x : Operand) (isS : Bool) : sops P T A N all dr K (⟨dst, .next x isS, ty, pos, after, none⟩ :: rest) acc ⟨tm, hp, nx⟩ = S1 P T A N all dr K rest acc tm hp nx dst (sNext (hpL' hp) (evL tm x) isS) (evL tm x).ref := rfl
theorem o_min (x y : Operand) (tys : Array TypeId) : sops P T A N all dr K (⟨dst, .call ⟨.builtin .min, #[x, y], tys⟩, ty, pos, after, none⟩ :: rest) acc ⟨tm, hp, nx⟩ = S1 P T A N all dr K rest acc tm hp nx dst (sMin [evL tm x, evL tm y]) ((evL tm x).ref ++ (evL tm y).ref) := by
  show (dstOk N dst ∧ _) = _
  simp only [sDo, sop, sCallB, fp, S1, List.flatMap_cons, List.flatMap_nil, List.append_nil]
  rfl
theorem o_max (x y : Operand) (tys : Array TypeId) : sops P T A N all dr K (⟨dst, .call ⟨.builtin .max, #[x, y], tys⟩, ty, pos, after, none⟩ :: rest) acc ⟨tm, hp, nx⟩ = S1 P T A N all dr K rest acc tm hp nx dst (sMax [evL tm x, evL tm y]) ((evL tm x).ref ++ (evL tm y).ref) := by
  show (dstOk N dst ∧ _) = _
  simp only [sDo, sop, sCallB, fp, S1, List.flatMap_cons, List.flatMap_nil, List.append_nil]
  rfl

def PK (P : Program) (T : Tab) (A : An) (N : Nat) (all : Array Oper) (dr : Bool) (K : St → Prop) (rest : List Oper) (acc : List (List Nat × List Nat)) (tm : List (Nat × SV)) (hp : List (Nat × Option Row)) (nx : Nat) (dst : Option Tmp) (br : Bool) (c x y : SV) : Prop :=
  dstOk N dst ∧ (match c with
    | .one (.sc (.bool t)) => (match br with
      | true => (t = true → sops P T A N all dr K rest (([], []) :: acc) (St.go ⟨tm, hp, nx⟩ dst x [] 0)) ∧ (t = false → sops P T A N all dr K rest (([], []) :: acc) (St.go ⟨tm, hp, nx⟩ dst y [] 0))
      | false => sops P T A N all dr K rest (([], []) :: acc) (St.go ⟨tm, hp, nx⟩ dst (mrg t x y) [] 0))
    | _ => False)
@[congr] theorem PK_congr {nx' : Nat} {br br' : Bool} {c c' x x' y y' : SV} (h0 : nx = nx') (h1 : br = br') (h2 : c = c') (h3 : x = x') (h4 : y = y') : PK P T A N all dr K rest acc tm hp nx dst br c x y = PK P T A N all dr K rest acc tm hp nx' dst br' c' x' y' := by subst h0; subst h1; subst h2; subst h3; subst h4; rfl
theorem o_pick (c x y : Operand) : sops P T A N all dr K (⟨dst, .pick c x y, ty, pos, after, none⟩ :: rest) acc ⟨tm, hp, nx⟩ = PK P T A N all dr K rest acc tm hp nx dst (A.br (tmpOf c)) (evL tm c) (evL tm x) (evL tm y) := rfl
theorem pk_f (t : Bool) (x y : SV) : PK P T A N all dr K rest acc tm hp nx dst false (.one (.sc (.bool t))) x y = S1 P T A N all dr K rest acc tm hp nx dst ⟨True, mrg t x y, [], 0⟩ [] := by
  unfold PK S1; simp only [true_and]; rfl
def PT (t : Bool) (p q : Prop) : Prop := (t = true → p) ∧ (t = false → q)
theorem pk_t (d : Tmp) (t : Bool) (x y : SV) : PK P T A N all dr K rest acc tm hp nx (some d) true (.one (.sc (.bool t))) x y = (d < N ∧ PT t (sops P T A N all dr K rest (([], []) :: acc) ⟨(d, x) :: tm, hp, nx + 1⟩) (sops P T A N all dr K rest (([], []) :: acc) ⟨(d, y) :: tm, hp, nx + 1⟩)) := by
  unfold PK PT
  rw [dst_some]
  rfl

theorem mrg_true (x y : SV) : mrg true x y = x := rfl
theorem mrg_false (x y : SV) : mrg false x y = y := rfl
theorem mrg_cl (t : Bool) (x y : SV) : mrg t (cnd t x) y = mrg t x y := by cases t <;> rfl
theorem mrg_cr (t : Bool) (x y : SV) : mrg t x (cnd (!t) y) = mrg t x y := by cases t <;> rfl
theorem mrg_cn (t : Bool) (x y : SV) : mrg (!t) x (cnd t y) = mrg (!t) x y := by cases t <;> rfl
theorem mrg_b (t a b : Bool) : mrg t (.one (.sc (.bool a))) (.one (.sc (.bool b))) = .one (.sc (.bool (bif t then a else b))) := by cases t <;> rfl
theorem mrg_i (t : Bool) (k : IntKind) (a b : Int) : mrg t (.one (.sc (.int k a))) (.one (.sc (.int k b))) = .one (.sc (.int k (if t = true then a else b))) := by cases t <;> rfl

/-! ### under a condition -/

def gtmp (all : Array Oper) (j : Nat) : Option Tmp := match all[j]? with
  | some oj => oj.dst
  | none => none

def GU (P : Program) (T : Tab) (A : An) (N : Nat) (all : Array Oper) (dr : Bool) (K : St → Prop) (rest : List Oper) (acc : List (List Nat × List Nat)) (tm : List (Nat × SV)) (hp : List (Nat × Option Row)) (nx : Nat) (o : Oper) (want : Bool) (d : Option Tmp) : Prop :=
  dstOk N o.dst ∧ (match d with
        | some d => (match A.br d with
          | false => ∃ c, GIs (slot d tm) want c ∧ gDo P T A dr c o acc ⟨tm, hp, nx⟩ (sops P T A N all dr K rest)
          | true => (match slot d tm with
            | some (.one (.sc (.bool t))) => (t = want → sDo P T A o acc (St.ref ⟨tm, hp, nx⟩ d want) (sops P T A N all dr K rest)) ∧
              (t = !want → sops P T A N all dr K rest (([], []) :: acc) ((St.ref ⟨tm, hp, nx⟩ d (!want)).go o.dst ud [] 0))
            | _ => False))
        | none => False)
@[congr] theorem GU_congr {nx' : Nat} {o : Oper} {want : Bool} {d d' : Option Tmp} (h0 : nx = nx') (h : d = d') : GU P T A N all dr K rest acc tm hp nx o want d = GU P T A N all dr K rest acc tm hp nx' o want d' := by subst h0; subst h; rfl

theorem o_guard (op : Op) (j : Nat) (want : Bool) : sops P T A N all dr K (⟨dst, op, ty, pos, after, some (j, want)⟩ :: rest) acc ⟨tm, hp, nx⟩ = GU P T A N all dr K rest acc tm hp nx ⟨dst, op, ty, pos, after, none⟩ want (gtmp all j) := by
  unfold GU gtmp
  rw [sops]
  congr 1
  simp only
  cases all[j]? with
  | none => rfl
  | some oj =>
    cases oj.dst with
    | none => rfl
    | some d => rfl

def GV (P : Program) (T : Tab) (A : An) (N : Nat) (all : Array Oper) (dr : Bool) (K : St → Prop) (rest : List Oper) (acc : List (List Nat × List Nat)) (tm : List (Nat × SV)) (hp : List (Nat × Option Row)) (nx : Nat) (o : Oper) (want : Bool) (d : Tmp) (br : Bool) (v : Option SV) : Prop :=
  dstOk N o.dst ∧ (match br with
          | false => ∃ c, GIs v want c ∧ gDo P T A dr c o acc ⟨tm, hp, nx⟩ (sops P T A N all dr K rest)
          | true => (match v with
            | some (.one (.sc (.bool t))) => (t = want → sDo P T A o acc (St.ref ⟨tm, hp, nx⟩ d want) (sops P T A N all dr K rest)) ∧
              (t = !want → sops P T A N all dr K rest (([], []) :: acc) ((St.ref ⟨tm, hp, nx⟩ d (!want)).go o.dst ud [] 0))
            | _ => False))
@[congr] theorem GV_congr {nx' : Nat} {o : Oper} {want : Bool} {d : Tmp} {br br' : Bool} {v v' : Option SV} (h0 : nx = nx') (h : br = br') (h2 : v = v') : GV P T A N all dr K rest acc tm hp nx o want d br v = GV P T A N all dr K rest acc tm hp nx' o want d br' v' := by subst h0; subst h; subst h2; rfl
theorem gu_some (o : Oper) (want : Bool) (d : Tmp) : GU P T A N all dr K rest acc tm hp nx o want (some d) = GV P T A N all dr K rest acc tm hp nx o want d (A.br d) (slot d tm) := rfl

def GG (P : Program) (T : Tab) (A : An) (N : Nat) (all : Array Oper) (dr : Bool) (K : St → Prop) (rest : List Oper) (acc : List (List Nat × List Nat)) (tm : List (Nat × SV)) (hp : List (Nat × Option Row)) (nx : Nat) (o : Oper) (b : Bool) : Prop :=
  dstOk N o.dst ∧ gDo P T A dr b o acc ⟨tm, hp, nx⟩ (sops P T A N all dr K rest)
@[congr] theorem GG_congr {o : Oper} {b b' : Bool} (h : b = b') : GG P T A N all dr K rest acc tm hp nx o b = GG P T A N all dr K rest acc tm hp nx o b' := by subst h; rfl
theorem gis_eq (b t want c : Bool) : GIs (some (cnd b (.one (.sc (.bool t))))) want c ↔ c = (b && (t == want)) := by
  refine ⟨fun ⟨b', t', h, hc⟩ => ?_, fun h => ⟨b, t, rfl, h⟩⟩
  subst hc
  have h := Option.some.inj h
  cases b <;> cases b' <;> simp only [cnd, ud, V] at h ⊢ <;> simp at h ⊢
  rw [h]
theorem gv_f (o : Oper) (want : Bool) (d : Tmp) (t : Bool) : GV P T A N all dr K rest acc tm hp nx o want d false (some (.one (.sc (.bool t)))) = GG P T A N all dr K rest acc tm hp nx o (t == want) := by
  have := gis_eq true t want
  simp only [cnd, if_true, Bool.true_and] at this
  simp only [GV, GG, this, exists_eq_left]
theorem gv_c (o : Oper) (want : Bool) (d : Tmp) (b t : Bool) : GV P T A N all dr K rest acc tm hp nx o want d false (some (cnd b (.one (.sc (.bool t))))) = GG P T A N all dr K rest acc tm hp nx o (b && (t == want)) := by
  simp only [GV, GG, gis_eq, exists_eq_left]
theorem gv_ud (o : Oper) (want : Bool) (d : Tmp) : GV P T A N all dr K rest acc tm hp nx o want d false (some ud) = GG P T A N all dr K rest acc tm hp nx o false := by
  have := gis_eq false false want
  simp only [cnd, Bool.false_eq_true, if_false, Bool.false_and] at this
  simp only [GV, GG, this, exists_eq_left]
def GT (t : Bool) (p q : Prop) : Prop := (t = true → p) ∧ (t = false → q)
@[congr] theorem GT_congr {t t' : Bool} {p q : Prop} (h : t = t') : GT t p q = GT t' p q := by subst h; rfl
theorem gv_t (op : Op) (want : Bool) (d d' : Tmp) (t : Bool) : GV P T A N all dr K rest acc tm hp nx ⟨some d', op, ty, pos, after, none⟩ want d true (some (.one (.sc (.bool t)))) =
    (d' < N ∧ GT (t == want) (sops P T A N all dr K (⟨some d', op, ty, pos, after, none⟩ :: rest) acc ⟨(d, .one (.sc (.bool want))) :: tm, hp, nx⟩) (sops P T A N all dr K rest (([], []) :: acc) ⟨(d', ud) :: (d, .one (.sc (.bool (!want)))) :: tm, hp, nx + 1⟩)) := by
  unfold GV GT
  have e := dst_some N d'
  simp only [e]
  refine propext ⟨fun ⟨h1, h2, h3⟩ => ⟨h1, fun hb => ?_, fun hb => ?_⟩, fun ⟨h1, h2, h3⟩ => ⟨h1, fun hb => ?_, fun hb => ?_⟩⟩
  · rw [sops]
    exact ⟨by rw [dst_some]; exact h1, h2 (by simpa using hb)⟩
  · exact h3 (by revert hb; cases t <;> cases want <;> simp)
  · have := h2 (by simpa using hb)
    rw [sops] at this
    exact this.2
  · exact h3 (by revert hb; cases t <;> cases want <;> simp)

theorem bq_true (t : Bool) : (t == true) = t := by cases t <;> rfl
theorem bq_false (t : Bool) : (t == false) = !t := by cases t <;> rfl

variable (b : Bool)
theorem g_move (x : Operand) : GG P T A N all dr K rest acc tm hp nx ⟨dst, .move x, ty, pos, after, none⟩ b = S2U P T A N all dr K rest acc tm hp nx dst b (fun v => ⟨True, v, [], 0⟩) (fun _ => []) (evL tm x) := rfl
theorem g_assign (x : Operand) : GG P T A N all dr K rest acc tm hp nx ⟨dst, .assign x, ty, pos, after, none⟩ b = S2U P T A N all dr K rest acc tm hp nx dst b (fun v => ⟨True, v, [], 0⟩) (fun _ => []) (evL tm x) := rfl
theorem g_load (t : TypeId) (x : Operand) : GG P T A N all dr K rest acc tm hp nx ⟨dst, .load t x, ty, pos, after, none⟩ b = S2U P T A N all dr K rest acc tm hp nx dst b (sLoad T (hpL' hp) t) SV.ref (evL tm x) := rfl
theorem g_nilCheck (x : Operand) : GG P T A N all dr K rest acc tm hp nx ⟨dst, .nilCheck x, ty, pos, after, none⟩ b = S2U P T A N all dr K rest acc tm hp nx dst b (sNil (hpL' hp)) SV.ref (evL tm x) := rfl
theorem g_bin (op : BinOp) (t yt : TypeId) (x y : Operand) : GG P T A N all dr K rest acc tm hp nx ⟨dst, .binOp op t x y yt, ty, pos, after, none⟩ b = S2B P T A N all dr K rest acc tm hp nx dst b (sBinT T (hpL' hp) op t) SV.ref (evL tm x) (evL tm y) := rfl
theorem g_un (op : UnOp) (t : TypeId) (x : Operand) : GG P T A N all dr K rest acc tm hp nx ⟨dst, .unOp op t x, ty, pos, after, none⟩ b = S2U P T A N all dr K rest acc tm hp nx dst b (sUn T.wr op) (fun _ => []) (evL tm x) := rfl
theorem g_conv (t d : TypeId) (x : Operand) : GG P T A N all dr K rest acc tm hp nx ⟨dst, .convert t d x, ty, pos, after, none⟩ b = S2U P T A N all dr K rest acc tm hp nx dst b (sConvS T (hpL' hp) t d) SV.ref (evL tm x) := rfl
theorem g_fieldAddr (t : TypeId) (x : Operand) (f : Nat) : GG P T A N all dr K rest acc tm hp nx ⟨dst, .fieldAddr t x f, ty, pos, after, none⟩ b = S2U P T A N all dr K rest acc tm hp nx dst b (fun v => sFieldAddr T (hpL' hp) t v f) SV.ref (evL tm x) := rfl
theorem g_field (t : TypeId) (x : Operand) (f : Nat) : GG P T A N all dr K rest acc tm hp nx ⟨dst, .field t x f, ty, pos, after, none⟩ b = S2U P T A N all dr K rest acc tm hp nx dst b (fun v => sField T t v f) (fun _ => []) (evL tm x) := rfl
theorem g_indexAddr (t : TypeId) (x i : Operand) : GG P T A N all dr K rest acc tm hp nx ⟨dst, .indexAddr t x i, ty, pos, after, none⟩ b = S2B P T A N all dr K rest acc tm hp nx dst b (sIndexAddr T (hpL' hp) t) SV.ref (evL tm x) (evL tm i) := rfl
theorem g_lookup (t : TypeId) (x i : Operand) (ok : Bool) : GG P T A N all dr K rest acc tm hp nx ⟨dst, .lookup t x i ok, ty, pos, after, none⟩ b = S2B P T A N all dr K rest acc tm hp nx dst b (fun u v => sLookup T (hpL' hp) t u v ok) SV.ref (evL tm x) (evL tm i) := rfl
theorem g_index (t : TypeId) (x i : Operand) : GG P T A N all dr K rest acc tm hp nx ⟨dst, .index t x i, ty, pos, after, none⟩ b = S2B P T A N all dr K rest acc tm hp nx dst b (sIndex T t) (fun _ => []) (evL tm x) (evL tm i) := rfl
theorem g_extract (x : Operand) (i : Nat) : GG P T A N all dr K rest acc tm hp nx ⟨dst, .extract x i, ty, pos, after, none⟩ b = S2U P T A N all dr K rest acc tm hp nx dst b (fun v => sExtract v i) (fun _ => []) (evL tm x) := rfl
theorem g_len (x : Operand) (t : TypeId) : GG P T A N all dr K rest acc tm hp nx ⟨dst, .call ⟨.builtin .len, #[x], #[t]⟩, ty, pos, after, none⟩ b = S2U P T A N all dr K rest acc tm hp nx dst b (sLen T (hpL' hp) t) SV.ref (evL tm x) := by
  simp only [GG, gDo, isCall, sop, sCallB, fp, S2U, S2, List.flatMap_cons, List.flatMap_nil, List.append_nil]
  rfl

def S2M (P : Program) (T : Tab) (A : An) (N : Nat) (all : Array Oper) (dr : Bool) (K : St → Prop) (rest : List Oper) (acc : List (List Nat × List Nat)) (tm : List (Nat × SV)) (hp : List (Nat × Option Row)) (nx : Nat) (dst : Option Tmp) (b : Bool) (f : SV → SV → Res) (x y : SV) : Prop :=
  S2 P T A N all dr K rest acc tm hp nx dst b (f x y) (x.ref ++ y.ref)
@[congr] theorem S2M_congr {nx' : Nat} {b b' : Bool} {f : SV → SV → Res} {x x' y y' : SV} {dst : Option Tmp} (h0 : nx = nx') (hb : b = b') (h1 : x = x') (h2 : y = y') : S2M P T A N all dr K rest acc tm hp nx dst b f x y = S2M P T A N all dr K rest acc tm hp nx' dst b' f x' y' := by subst h0; subst hb; subst h1; subst h2; rfl
theorem s2m_l (b : Bool) (f : SV → SV → Res) (x y : SV) {dst : Option Tmp} : S2M P T A N all dr K rest acc tm hp nx dst b f (cnd b x) y = S2M P T A N all dr K rest acc tm hp nx dst b f x y :=
  s2_eq b fun h => by simp [cnd, h]
theorem s2m_r (b : Bool) (f : SV → SV → Res) (x y : SV) {dst : Option Tmp} : S2M P T A N all dr K rest acc tm hp nx dst b f x (cnd b y) = S2M P T A N all dr K rest acc tm hp nx dst b f x y :=
  s2_eq b fun h => by simp [cnd, h]
theorem s2m_ii (b : Bool) (f : SV → SV → Res) (k k' : IntKind) (m n : Int) {dst : Option Tmp} : S2M P T A N all dr K rest acc tm hp nx dst b f (.one (.sc (.int k m))) (.one (.sc (.int k' n))) = S2 P T A N all dr K rest acc tm hp nx dst b (f (.one (.sc (.int k m))) (.one (.sc (.int k' n)))) [] := rfl
theorem s2m_false {dst : Option Tmp} (f : SV → SV → Res) (x y : SV) : S2M P T A N all dr K rest acc tm hp nx dst false f x y = S1 P T A N all dr K rest acc tm hp nx dst ⟨True, ud, [], 0⟩ [] := s2_false _ _
theorem g_min (x y : Operand) (tys : Array TypeId) : GG P T A N all dr K rest acc tm hp nx ⟨dst, .call ⟨.builtin .min, #[x, y], tys⟩, ty, pos, after, none⟩ b = S2M P T A N all dr K rest acc tm hp nx dst b (fun u v => sMin [u, v]) (evL tm x) (evL tm y) := by
  simp only [GG, gDo, isCall, sop, sCallB, fp, S2M, S2, List.flatMap_cons, List.flatMap_nil, List.append_nil]
  rfl
theorem g_max (x y : Operand) (tys : Array TypeId) : GG P T A N all dr K rest acc tm hp nx ⟨dst, .call ⟨.builtin .max, #[x, y], tys⟩, ty, pos, after, none⟩ b = S2M P T A N all dr K rest acc tm hp nx dst b (fun u v => sMax [u, v]) (evL tm x) (evL tm y) := by
  simp only [GG, gDo, isCall, sop, sCallB, fp, S2M, S2, List.flatMap_cons, List.flatMap_nil, List.append_nil]
  rfl

def S2P (P : Program) (T : Tab) (A : An) (N : Nat) (all : Array Oper) (dr : Bool) (K : St → Prop) (rest : List Oper) (acc : List (List Nat × List Nat)) (tm : List (Nat × SV)) (hp : List (Nat × Option Row)) (nx : Nat) (dst : Option Tmp) (b : Bool) (c x y : SV) : Prop :=
  S2 P T A N all dr K rest acc tm hp nx dst b (sPick c x y) []
@[congr] theorem S2P_congr {nx' : Nat} {c c' x x' y y' : SV} (h0 : nx = nx') (h1 : c = c') (h2 : x = x') (h3 : y = y') : S2P P T A N all dr K rest acc tm hp nx dst b c x y = S2P P T A N all dr K rest acc tm hp nx' dst b c' x' y' := by subst h0; subst h1; subst h2; subst h3; rfl
theorem g_pick (c x y : Operand) : GG P T A N all dr K rest acc tm hp nx ⟨dst, .pick c x y, ty, pos, after, none⟩ b = S2P P T A N all dr K rest acc tm hp nx dst b (evL tm c) (evL tm x) (evL tm y) := rfl
theorem s2p_c (c x y : SV) : S2P P T A N all dr K rest acc tm hp nx dst b (cnd b c) x y = S2P P T A N all dr K rest acc tm hp nx dst b c x y := s2_eq b fun h => by simp [cnd, h]
theorem s2p_x (c x y : SV) : S2P P T A N all dr K rest acc tm hp nx dst b c (cnd b x) y = S2P P T A N all dr K rest acc tm hp nx dst b c x y := s2_eq b fun h => by simp [cnd, h]
theorem s2p_y (c x y : SV) : S2P P T A N all dr K rest acc tm hp nx dst b c x (cnd b y) = S2P P T A N all dr K rest acc tm hp nx dst b c x y := s2_eq b fun h => by simp [cnd, h]
theorem s2p_xt (t : Bool) (x y : SV) : S2P P T A N all dr K rest acc tm hp nx dst b (.one (.sc (.bool t))) (cnd (b && t) x) y = S2P P T A N all dr K rest acc tm hp nx dst b (.one (.sc (.bool t))) x y := s2_eq b fun h => by subst h; cases t <;> simp [cnd, sPick]
theorem s2p_yt (t : Bool) (x y : SV) : S2P P T A N all dr K rest acc tm hp nx dst b (.one (.sc (.bool t))) x (cnd (b && !t) y) = S2P P T A N all dr K rest acc tm hp nx dst b (.one (.sc (.bool t))) x y := s2_eq b fun h => by subst h; cases t <;> simp [cnd, sPick]
theorem s2p_yn (t : Bool) (x y : SV) : S2P P T A N all dr K rest acc tm hp nx dst b (.one (.sc (.bool (!t)))) x (cnd (b && t) y) = S2P P T A N all dr K rest acc tm hp nx dst b (.one (.sc (.bool (!t)))) x y := s2_eq b fun h => by subst h; cases t <;> simp [cnd, sPick]
theorem s2p_false (c x y : SV) : S2P P T A N all dr K rest acc tm hp nx dst false c x y = S1 P T A N all dr K rest acc tm hp nx dst ⟨True, ud, [], 0⟩ [] := s2_false _ _
theorem s2p_true (t : Bool) (x y : SV) : S2P P T A N all dr K rest acc tm hp nx dst true (.one (.sc (.bool t))) x y = S1 P T A N all dr K rest acc tm hp nx dst ⟨True, mrg t x y, [], 0⟩ [] := by
  unfold S2P S2 S1 GN
  simp only [sPick, cnd, gfp, if_true, true_implies, true_and, List.map_nil]
  rfl
theorem s2p_b (t p q : Bool) : S2P P T A N all dr K rest acc tm hp nx dst b (.one (.sc (.bool t))) (.one (.sc (.bool p))) (.one (.sc (.bool q))) = S2 P T A N all dr K rest acc tm hp nx dst b ⟨True, .one (.sc (.bool (bif t then p else q))), [], 0⟩ [] := s2_eq b fun h => by cases t <;> simp [sPick]
theorem s2p_i (t : Bool) (k : IntKind) (p q : Int) : S2P P T A N all dr K rest acc tm hp nx dst b (.one (.sc (.bool t))) (.one (.sc (.int k p))) (.one (.sc (.int k q))) = S2 P T A N all dr K rest acc tm hp nx dst b ⟨True, .one (.sc (.int k (if t = true then p else q))), [], 0⟩ [] := s2_eq b fun h => by cases t <;> simp [sPick]

def CG (P : Program) (T : Tab) (A : An) (N : Nat) (all : Array Oper) (dr : Bool) (K : St → Prop) (rest : List Oper) (acc : List (List Nat × List Nat)) (tm : List (Nat × SV)) (hp : List (Nat × Option Row)) (nx : Nat) (dst : Option Tmp) (b : Bool) (fv : SV) (args : List SV) : Prop :=
  dstOk N dst ∧ (match fv with
    | .one (.fn f caps) => ∃ res, (b = true → CallG false (lendIds (hpL' hp) (A.lend f) (args ++ caps.map SV.one)) (hpL' hp) (args ++ caps.map SV.one) res [] ∧
          FnSpec P f ((args ++ caps.map SV.one).map (prepV (lendIds (hpL' hp) (A.lend f) (args ++ caps.map SV.one)) (hpL' hp))) (lentRows (lendIds (hpL' hp) (A.lend f) (args ++ caps.map SV.one)) (hpL' hp)) res [] ∧
          lendIds (hpL' hp) (A.lend f) (args ++ caps.map SV.one) = []) ∧
        sops P T A N all dr K rest ((gfp b (snaps [] (args ++ caps.map SV.one)), []) :: acc) (St.go ⟨tm, hp, nx⟩ dst (cnd b (res.ren (back [] nx))) [] 0)
    | _ => b = false ∧ sops P T A N all dr K rest ((gfp b [], []) :: acc) (St.go ⟨tm, hp, nx⟩ dst (cnd b ud) [] 0))
@[congr] theorem CG_congr {nx' : Nat} {fv fv' : SV} {args args' : List SV} (h0 : nx = nx') (h1 : fv = fv') (h2 : args = args') : CG P T A N all dr K rest acc tm hp nx dst b fv args = CG P T A N all dr K rest acc tm hp nx' dst b fv' args' := by subst h0; subst h1; subst h2; rfl
theorem g_call (x : Operand) (as : List Operand) (tys : Array TypeId) : GG P T A N all dr K rest acc tm hp nx ⟨dst, .call ⟨.value x, List.toArray as, tys⟩, ty, pos, after, none⟩ b = CG P T A N all dr K rest acc tm hp nx dst b (evL tm x) (as.map (evL tm)) := rfl
theorem cg_call {f : FuncId} {args args' : List SV} {res : SV} {F : List Nat} (h : b = true → FnSpec P f args' [] res []) (ha : b = true → args.map (prepV [] (hpL' hp)) = args') (hl : lendIds (hpL' hp) (A.lend f) args = [])
    (hs : b = true → snaps [] args = F) (hf : b = true → (∀ r ∈ F, ∃ row, hpL' hp r = some row ∧ ∀ c ∈ row.cells, c.isG = true) ∧ (F = [] ∨ res.noG))
    (hk : S2 P T A N all dr K rest acc tm hp nx dst b ⟨True, res.ren (back [] nx), [], 0⟩ F) : CG P T A N all dr K rest acc tm hp nx dst b (.one (.fn f [])) args := by
  obtain ⟨h1, _, h2⟩ := hk
  refine ⟨h1, res, fun hb => ?_, ?_⟩
  · simp only [List.map_nil, List.append_nil]
    rw [hl]
    have hf := hf hb
    rw [← hs hb] at hf
    refine ⟨⟨by simp, by simp, hf.1, by simp, .inr (hf.2.imp id fun hg => ⟨hg, by simp⟩)⟩, ?_, rfl⟩
    rw [ha hb]
    exact h hb
  · simp only [List.map_nil, List.append_nil]
    have : gfp b (snaps [] args) = gfp b F := by
      cases b with
      | true => rw [hs rfl]
      | false => rfl
    rw [this]
    exact h2

theorem cg_f (f : FuncId) (args : List SV) : CG P T A N all dr K rest acc tm hp nx dst false (.one (.fn f [])) args = S1 P T A N all dr K rest acc tm hp nx dst ⟨True, ud, [], 0⟩ [] := by
  unfold CG S1
  simp only [cnd, gfp, Bool.false_eq_true, if_false, false_implies, true_and, List.map_nil]
  exact propext ⟨fun ⟨h1, _, h2⟩ => ⟨h1, h2⟩, fun ⟨h1, h2⟩ => ⟨h1, .one .un, h2⟩⟩
theorem cg_ud (args : List SV) : CG P T A N all dr K rest acc tm hp nx dst false ud args = S1 P T A N all dr K rest acc tm hp nx dst ⟨True, ud, [], 0⟩ [] := by
  unfold CG S1
  simp only [ud, cnd, gfp, Bool.false_eq_true, if_false, true_and, List.map_nil]
theorem cg_tp {f : FuncId} {args args' : List SV} {res : SV} (h : FnSpec P f args' [] res []) (ha : args.map (prepV [] (hpL' hp)) = args') (hl : lendIds (hpL' hp) (A.lend f) args = []) (hs : snaps [] args = [])
    (hk : S1 P T A N all dr K rest acc tm hp nx dst ⟨True, res.ren (back [] nx), [], 0⟩ []) : CG P T A N all dr K rest acc tm hp nx dst true (.one (.fn f [])) args := cg_call true (fun _ => h) (fun _ => ha) hl (fun _ => hs) (fun _ => ⟨by simp, .inl rfl⟩) ⟨hk.1, fun _ => ⟨hk.2.1, rfl, rfl⟩, hk.2.2⟩
/-! ### calls -/

def CV (P : Program) (T : Tab) (A : An) (N : Nat) (all : Array Oper) (dr : Bool) (K : St → Prop) (rest : List Oper) (acc : List (List Nat × List Nat)) (tm : List (Nat × SV)) (hp : List (Nat × Option Row)) (nx : Nat) (dst : Option Tmp) (fv : SV) (args : List SV) : Prop :=
  dstOk N dst ∧ (match fv with
      | .one (.fn f caps) => SCall P f (args ++ caps.map SV.one) (lendIds (hpL' hp) (A.lend f) (args ++ caps.map SV.one)) ⟨tm, hp, nx⟩ dst acc (sops P T A N all dr K rest)
      | _ => False)
@[congr] theorem CV_congr {nx' : Nat} {fv fv' : SV} {args args' : List SV} (h0 : nx = nx') (h1 : fv = fv') (h2 : args = args') : CV P T A N all dr K rest acc tm hp nx dst fv args = CV P T A N all dr K rest acc tm hp nx' dst fv' args' := by subst h0; subst h1; subst h2; rfl
theorem o_call (x : Operand) (as : List Operand) (tys : Array TypeId) : sops P T A N all dr K (⟨dst, .call ⟨.value x, List.toArray as, tys⟩, ty, pos, after, none⟩ :: rest) acc ⟨tm, hp, nx⟩ = CV P T A N all dr K rest acc tm hp nx dst (evL tm x) (as.map (evL tm)) := by
  rw [sops]
  unfold CV
  congr 1
def CL (P : Program) (T : Tab) (A : An) (N : Nat) (all : Array Oper) (dr : Bool) (K : St → Prop) (rest : List Oper) (acc : List (List Nat × List Nat)) (tm : List (Nat × SV)) (hp : List (Nat × Option Row)) (nx : Nat) (dst : Option Tmp) (f : FuncId) (args : List SV) (L : List Nat) : Prop :=
  dstOk N dst ∧ SCall P f args L ⟨tm, hp, nx⟩ dst acc (sops P T A N all dr K rest)
@[congr] theorem CL_congr {f : FuncId} {args : List SV} {L L' : List Nat} (h : L = L') : CL P T A N all dr K rest acc tm hp nx dst f args L = CL P T A N all dr K rest acc tm hp nx dst f args L' := by subst h; rfl
theorem cv_fn (f : FuncId) (args : List SV) : CV P T A N all dr K rest acc tm hp nx dst (.one (.fn f [])) args = CL P T A N all dr K rest acc tm hp nx dst f args (lendIds (hpL' hp) (A.lend f) args) := by
  unfold CV CL; simp only [List.map_nil, List.append_nil]
theorem cv_fnc (f : FuncId) (c : Cell) (caps : List Cell) (args : List SV) : CV P T A N all dr K rest acc tm hp nx dst (.one (.fn f (c :: caps))) args = CL P T A N all dr K rest acc tm hp nx dst f (args ++ .one c :: caps.map SV.one) (lendIds (hpL' hp) (A.lend f) (args ++ .one c :: caps.map SV.one)) := rfl
theorem cl_call {f : FuncId} {args args' : List SV} {L : List Nat} {rows : List Row} {res : SV} {outs : List (Option Row)} (h : FnSpec P f args' rows res outs) (hok : CallOk L (hpL' hp) args res outs) (ha : args.map (prepV L (hpL' hp)) = args') (hr : lentRows L (hpL' hp) = rows)
    (hk : S1 P T A N all dr K rest acc tm hp nx dst ⟨True, res.ren (back L nx), outUpsFrom L nx 0 outs, outs.length - L.length⟩ (L ++ snaps L args)) : CL P T A N all dr K rest acc tm hp nx dst f args L := by
  obtain ⟨h1, _, h2⟩ := hk
  refine ⟨h1, res, outs, false, ⟨hok.nodup, hok.live, hok.shown, hok.long, .inr hok.fresh⟩, ?_, h2⟩
  subst ha; subst hr
  exact h.d
theorem cl_use0 {f : FuncId} {args args' : List SV} {L S : List Nat} {rows : List Row} {res : SV} {outs : List (Option Row)} (h : FnSpec P f args' rows res outs) (hok : CallG true L (hpL' hp) args res outs) (ha : args.map (prepV L (hpL' hp)) = args') (hr : lentRows L (hpL' hp) = rows) (hs : snaps L args = S)
    (hk : S1 P T A N all dr K rest acc tm hp nx dst ⟨True, res.ren (back L nx), S.map (fun r => (r, none)) ++ outUpsFrom L nx 0 outs, outs.length - L.length⟩ (L ++ S)) : CL P T A N all dr K rest acc tm hp nx dst f args L := by
  obtain ⟨h1, _, h2⟩ := hk
  subst hs
  refine ⟨h1, res, outs, true, hok, ?_, h2⟩
  subst ha; subst hr
  exact h.d
theorem cl_plain {f : FuncId} {args args' : List SV} {res : SV} {outs : List (Option Row)} (h : FnSpec P f args' [] res outs) (hs : snaps [] args = []) (ha : args.map (prepV [] (hpL' hp)) = args')
    (hk : S1 P T A N all dr K rest acc tm hp nx dst ⟨True, res.ren (back [] nx), outUpsFrom [] nx 0 outs, outs.length⟩ []) : CL P T A N all dr K rest acc tm hp nx dst f args [] := by
  refine cl_call h ⟨by simp, by simp, by rw [hs]; simp, by simp, .inl hs⟩ ha rfl ?_
  rw [hs]
  exact hk

inductive Sub : List (List Nat × List Nat) → List (List Nat × List Nat) → Prop
  | nil : Sub [] []
  | gfp (b : Bool) (F w : List Nat) {a a' : List (List Nat × List Nat)} (h : Sub a a') : Sub ((gfp b F, w) :: a) ((F, w) :: a')
  | same (F w : List Nat) {a a' : List (List Nat × List Nat)} (h : Sub a a') : Sub ((F, w) :: a) ((F, w) :: a')

theorem Sub.get {a a' : List (List Nat × List Nat)} (h : Sub a a') : a.length = a'.length ∧ ∀ (i : Nat) p, a[i]? = some p → ∃ q, a'[i]? = some q ∧ (∀ r ∈ p.1, r ∈ q.1) ∧ p.2 = q.2 := by
  induction h with
  | nil => exact ⟨rfl, fun i p hp => by simp at hp⟩
  | gfp b F w h ih =>
    refine ⟨by simp [ih.1], fun i p hp => ?_⟩
    cases i with
    | zero =>
      simp at hp
      subst hp
      refine ⟨(F, w), rfl, fun r hr => ?_, rfl⟩
      cases b with
      | true => exact hr
      | false => simp [Sh.gfp] at hr
    | succ i => exact ih.2 i p (by simpa using hp)
  | same F w h ih =>
    refine ⟨by simp [ih.1], fun i p hp => ?_⟩
    cases i with
    | zero => simp at hp; subst hp; exact ⟨(F, w), rfl, fun r hr => hr, rfl⟩
    | succ i => exact ih.2 i p (by simpa using hp)

/-! ### texts -/

theorem w_skip : swp P T A N .skip Q s = Q .normal s := rfl
theorem w_exit (id : Nat) : swp P T A N (.exit id) Q s = Q (.exit id) s := rfl
theorem w_ret : swp P T A N .ret Q s = Q .ret s := rfl
theorem w_seq (a b : Code) : swp P T A N (.seq a b) Q s = swp P T A N a (thenK (swp P T A N b Q) Q) s := rfl
theorem w_block (id : Nat) (b : Code) : swp P T A N (.block id b) Q s = swp P T A N b (blockK id Q) s := rfl
def RGF (P : Program) (T : Tab) (A : An) (N : Nat) (l : List Oper) (Q : Exit → St → Prop) (s : St) (b : Bool) : Prop := match b with
  | false => sops P T A N (List.toArray l) false (Q .normal) l [] s
  | true => ∃ t, Imp A.k s t ∧ sops P T A N (List.toArray l) false (Q .normal) l [] t
@[congr] theorem RGF_congr {l : List Oper} {b b' : Bool} (h : b = b') : RGF P T A N l Q s b = RGF P T A N l Q s b' := by rw [h]
theorem w_region_f (id : Nat) (l : List Oper) : swp P T A N (.region id (List.toArray l) false) Q s = RGF P T A N l Q s (A.imp id) := by
  rw [swp]; cases A.imp id <;> simp [RGF]
theorem rgf_f (l : List Oper) : RGF P T A N l Q s false = sops P T A N (List.toArray l) false (Q .normal) l [] s := rfl
def EDG (all : Array Oper) : Prop := edgeOk all = true
@[congr] theorem EDG_congr : EDG all = EDG all := rfl
def RGT (P : Program) (T : Tab) (A : An) (N : Nat) (l : List Oper) (Q : Exit → St → Prop) (s : St) (b : Bool) : Prop := match b with
  | false => EDG (List.toArray l) ∧ sops P T A N (List.toArray l) true (Q .normal) l [] s
  | true => ∃ t, Imp A.k s t ∧ EDG (List.toArray l) ∧ sops P T A N (List.toArray l) true (Q .normal) l [] t
@[congr] theorem RGT_congr {l : List Oper} {b b' : Bool} (h : b = b') : RGT P T A N l Q s b = RGT P T A N l Q s b' := by rw [h]
theorem w_region_t (id : Nat) (l : List Oper) : swp P T A N (.region id (List.toArray l) true) Q s = RGT P T A N l Q s (A.imp id) := by
  rw [swp]; cases A.imp id <;> simp [RGT, EDG]
theorem rgt_f (l : List Oper) : RGT P T A N l Q s false = (EDG (List.toArray l) ∧ sops P T A N (List.toArray l) true (Q .normal) l [] s) := rfl
def CD (P : Program) (T : Tab) (A : An) (N : Nat) (x y : Code) (Q : Exit → St → Prop) (tm : List (Nat × SV)) (hp : List (Nat × Option Row)) (nx : Nat) (cut : Bool) (c : SV) : Prop :=
  match c with
    | .one (.sc (.bool t)) => (match cut with
      | false => SIf t (swp P T A N x Q ⟨tm, hp, nx⟩) (swp P T A N y Q ⟨tm, hp, nx⟩)
      | true => SCut A.k t (swp P T A N x) (swp P T A N y) Q ⟨tm, hp, nx⟩)
    | _ => False
@[congr] theorem CD_congr {x y : Code} {nx' : Nat} {cut cut' : Bool} {c c' : SV} (h0 : nx = nx') (h1 : cut = cut') (h2 : c = c') : CD P T A N x y Q tm hp nx cut c = CD P T A N x y Q tm hp nx' cut' c' := by subst h0; subst h1; subst h2; rfl
theorem w_cond (c : Operand) (x y : Code) : swp P T A N (.cond c x y) Q ⟨tm, hp, nx⟩ = CD P T A N x y Q tm hp nx (A.cut (tmpOf c)) (evL tm c) := rfl
theorem cd_t (x y : Code) (cut : Bool) (h : cut = false) : CD P T A N x y Q tm hp nx cut (.one (.sc (.bool true))) = swp P T A N x Q ⟨tm, hp, nx⟩ := by
  subst h; simp [CD, SIf]
theorem cd_true (x y : Code) : CD P T A N x y Q tm hp nx false (.one (.sc (.bool true))) = swp P T A N x Q ⟨tm, hp, nx⟩ := cd_t x y _ rfl
theorem cd_false (x y : Code) : CD P T A N x y Q tm hp nx false (.one (.sc (.bool false))) = swp P T A N y Q ⟨tm, hp, nx⟩ := by simp [CD, SIf]
theorem k_imp (n : Nat) (J : St → Prop) : impK n J s = ∃ t, Imp n s t ∧ J t := rfl
theorem k_seq (k : St → Prop) : thenK k Q .normal s = k s := rfl
theorem k_seq_exit (k : St → Prop) (i : Nat) : thenK k Q (.exit i) s = Q (.exit i) s := rfl
theorem k_seq_ret (k : St → Prop) : thenK k Q .ret s = Q .ret s := rfl
theorem k_blk (id : Nat) : blockK id Q .normal s = Q .normal s := rfl
theorem k_blk_exit (id i : Nat) : blockK id Q (.exit i) s = if i = id then Q .normal s else Q (.exit i) s := rfl
theorem k_blk_ret (id : Nat) : blockK id Q .ret s = Q .ret s := rfl

def LP (P : Program) (T : Tab) (A : An) (N : Nat) (b : Code) (Q : Exit → St → Prop) (s : St) : Prop := SLoop A.k (swp P T A N b) Q s
@[congr] theorem LP_congr {b : Code} : LP P T A N b Q s = LP P T A N b Q s := rfl
theorem w_loop_eq (b : Code) : swp P T A N (.loop b) Q s = LP P T A N b Q s := rfl
def LK {ι : Type} (n : Nat) (st : ι → St) (inv : ι → Prop) (μ : ι → Nat) (x : ι) (Q : Exit → St → Prop) : Exit → St → Prop := loopK n st inv μ x Q
def LE {ι : Type} (n : Nat) (st : ι → St) (inv : ι → Prop) (μ : ι → Nat) (x : ι) (s : St) : Prop := ∃ x', Imp n s (st x') ∧ inv x' ∧ μ x' < μ x
@[congr] theorem LE_congr {ι : Type} {n : Nat} {st : ι → St} {inv : ι → Prop} {μ : ι → Nat} {x : ι} : LE n st inv μ x s = LE n st inv μ x s := rfl
theorem w_loop {ι : Type} (st : ι → St) (inv : ι → Prop) (μ : ι → Nat) {b : Code} (x : ι) (h0 : Imp A.k s (st x)) (h1 : inv x) (h2 : ∀ x, inv x → swp P T A N b (LK A.k st inv μ x Q) (st x)) : LP P T A N b Q s :=
  ⟨ι, st, inv, μ, ⟨x, h0, h1⟩, h2⟩
theorem k_loop {ι : Type} (n : Nat) (st : ι → St) (inv : ι → Prop) (μ : ι → Nat) (x : ι) : LK n st inv μ x Q .normal s = LE n st inv μ x s := rfl
theorem k_loop_exit {ι : Type} (n : Nat) (st : ι → St) (inv : ι → Prop) (μ : ι → Nat) (x : ι) (i : Nat) : LK n st inv μ x Q (.exit i) s = Q (.exit i) s := rfl
theorem k_loop_ret {ι : Type} (n : Nat) (st : ι → St) (inv : ι → Prop) (μ : ι → Nat) (x : ι) : LK n st inv μ x Q .ret s = Q .ret s := rfl
theorem le_mk {ι : Type} {n : Nat} {st : ι → St} {inv : ι → Prop} {μ : ι → Nat} {x : ι} (x' : ι) (h : Imp n s (st x')) (h1 : inv x') (h2 : μ x' < μ x) : LE n st inv μ x s := ⟨x', h, h1, h2⟩

/-! ### the end -/

def FS (T : Tab) (rs : List ResultVar) (k : Nat) (res : SV) (outs : List (Option Row)) (s : St) : Prop := FinI T rs k res outs s
theorem k_fin (rs : List ResultVar) (k : Nat) (res : SV) (outs : List (Option Row)) : FinX T rs k res outs .normal s = FS T rs k res outs s := rfl
theorem k_fin_ret (rs : List ResultVar) (k : Nat) (res : SV) (outs : List (Option Row)) : FinX T rs k res outs .ret s = FS T rs k res outs s := rfl

theorem fs_nil {rs : List ResultVar} {res : SV} (h1 : (resV T s rs).1) (h2 : (resS (resV T s rs).2).ren (fun _ => none) = res) : FS T rs 0 res [] s :=
  ⟨s, res, Imp.refl _ _, ⟨[], by simp, fun j hj => by omega, h1, h2, rfl, fun r hr => by cases hr⟩, SVW.refl _⟩
theorem fs_mk {rs : List ResultVar} {k : Nat} {res : SV} {outs : List (Option Row)} (σ : List Nat) (hn : σ.Nodup) (hk : ∀ j, j < k → σ[j]? = some j) (h1 : (resV T s rs).1) (h2 : (resS (resV T s rs).2).ren (fun q => idx q σ) = res)
    (h3 : σ.map (fun r => renO (fun q => idx q σ) (s.hpF r)) = outs) (h4 : ∀ r ∈ σ, ∀ row, s.hpF r = some row → ∀ c ∈ row.cells, ∀ q ∈ c.refs, q ∈ σ) : FS T rs k res outs s := ⟨s, res, Imp.refl _ _, ⟨σ, hn, hk, h1, h2, h3, h4⟩, SVW.refl _⟩

end

theorem inR_i64 (n : Int) : inR .i64 n = (-9223372036854775808 ≤ n ∧ n ≤ 9223372036854775807) := rfl

def flat (cs : List Cell) : Prop := ∀ c ∈ cs, c.refs = []
theorem flat_nil : flat [] := by simp [flat]
theorem flat_cons (c : Cell) (cs : List Cell) : flat (c :: cs) = (c.refs = [] ∧ flat cs) := by simp [flat]
theorem flat_app (a b : List Cell) : flat (a ++ b) = (flat a ∧ flat b) := by
  simp only [flat, List.mem_append, or_imp, forall_and]
theorem flat_ints (xs : List Int) : flat (Ints xs) := by
  intro c hc
  obtain ⟨x, _, rfl⟩ := List.mem_map.1 hc
  rfl
theorem flat_ren {cs : List Cell} (h : flat cs) (ρ : Nat → Option Nat) : cs.map (Cell.ren ρ) = cs := by
  induction cs with
  | nil => rfl
  | cons c cs ih =>
    rw [flat_cons] at h
    rw [List.map_cons, ih h.2]
    congr 1
    have := h.1
    cases c <;> first
      | rfl
      | (simp [Cell.refs] at this)
theorem imp_ren (k : Nat) (s t : St) (R : List (Nat × Nat × Row)) (h1 : (R.map (·.1)).Nodup) (h2 : (R.map (·.2.1)).Nodup) (h3 : ∀ p ∈ R, p.1 < t.nx ∧ (p.1 < k → p.2.1 = p.1)) (h4 : k ≤ t.nx)
    (h5 : ∀ x ∈ t.tm, lk s (R.map fun p => (p.1, p.2.1)) x.1 = some x.2) (h6 : t.hp = R.map fun p => (p.1, some p.2.2)) (h7 : ∀ p ∈ R, s.hpF p.2.1 = some p.2.2) (h8 : ∀ p ∈ R, flat p.2.2.cells) : Imp k s t := by
  refine imp_sub k s t (R.map fun p => (p.1, p.2.1)) (by rw [List.map_map]; exact h1) (by rw [List.map_map]; exact h2) ?_ h4 h5 ?_ ?_
  · intro p hp
    obtain ⟨q, hq, rfl⟩ := List.mem_map.1 hp
    exact h3 q hq
  · rw [h6, List.map_map]
    apply List.map_congr_left
    intro p hp
    simp only [Function.comp, h7 p hp, renO, Row.ren, flat_ren (h8 p hp)]
  · intro p hp row hrow c hc q hq
    obtain ⟨p', hp', rfl⟩ := List.mem_map.1 hp
    rw [h7 p' hp'] at hrow
    cases hrow
    rw [h8 p' hp' c hc] at hq
    cases hq
theorem fs_flat {T : Tab} {s : St} {rs : List ResultVar} {k : Nat} {res : SV} {outs : List (Option Row)} (R : List (Nat × Row)) (hn : (R.map (·.1)).Nodup) (hk : ∀ j, j < k → (R.map (·.1))[j]? = some j) (h1 : (resV T s rs).1) (h2 : (resS (resV T s rs).2).ren (fun q => idx q (R.map (·.1))) = res)
    (h3 : ∀ p ∈ R, s.hpF p.1 = some p.2) (h8 : ∀ p ∈ R, flat p.2.cells) (ho : R.map (fun p => some p.2) = outs) : FS T rs k res outs s := by
  refine fs_mk (R.map (·.1)) hn hk h1 h2 ?_ ?_
  · rw [← ho, List.map_map]
    apply List.map_congr_left
    intro p hp
    simp only [Function.comp, h3 p hp, renO, Row.ren, flat_ren (h8 p hp)]
  · intro r hr row hrow c hc q hq
    obtain ⟨p, hp, rfl⟩ := List.mem_map.1 hr
    rw [h3 p hp] at hrow
    cases hrow
    rw [h8 p hp c hc] at hq
    cases hq
theorem lent_flat {L : List Nat} {get : Nat → Option Row} : ∀ {M : List Nat} {rows : List Row}, M.map get = rows.map some → (∀ row ∈ rows, flat row.cells) → (M.map fun r => match get r with
    | some row => row.ren fun q => idx q L
    | none => ⟨[], 0⟩) = rows
  | [], [], _, _ => rfl
  | r :: M, row :: rows, h, hf => by
    simp only [List.map_cons, List.cons.injEq] at h
    rw [List.map_cons, lent_flat h.2 (fun x hx => hf x (by simp [hx])), h.1]
    simp only [Row.ren, flat_ren (hf row (by simp))]
  | [], _ :: _, h, _ => by simp at h
  | _ :: _, [], h, _ => by simp at h
section
variable {P : Program} {T : Tab} {A : An} {N : Nat} {all : Array Oper} {dr : Bool} {K : St → Prop} {rest : List Oper} {acc : List (List Nat × List Nat)} {tm : List (Nat × SV)} {hp : List (Nat × Option Row)} {nx : Nat} {dst : Option Tmp}
theorem cl_lend {f : FuncId} {args args' : List SV} {L : List Nat} {rows : List Row} {res : SV} {outs : List (Option Row)} (hr : L.map (hpL' hp) = rows.map some) (h : FnSpec P f args' rows res outs) (ha : args.map (prepV L (hpL' hp)) = args')
    (hf : ∀ row ∈ rows, flat row.cells) (hs : snaps L args = []) (hn : L.Nodup) (hl : L.length ≤ outs.length)
    (hk : S1 P T A N all dr K rest acc tm hp nx dst ⟨True, res.ren (back L nx), outUpsFrom L nx 0 outs, outs.length - L.length⟩ L) : CL P T A N all dr K rest acc tm hp nx dst f args L := by
  refine cl_call h ⟨hn, ?_, by rw [hs]; simp, hl, .inl hs⟩ ha (lent_flat hr hf) ?_
  · intro r hr'
    have : hpL' hp r ∈ rows.map some := by rw [← hr]; exact List.mem_map_of_mem hr'
    obtain ⟨row, h1, h2⟩ := List.mem_map.1 this
    exact ⟨row, h2.symm, fun c hc q hq => by rw [hf row h1 c hc] at hq; cases hq⟩
  · rw [hs, List.append_nil]; exact hk
theorem cl_lendx {f : FuncId} {args args' : List SV} {L : List Nat} {rows : List Row} {res : SV} {outs : List (Option Row)} (ha : args.map (prepV L (hpL' hp)) = args') (hr : lentRows L (hpL' hp) = rows) (h : FnSpec P f args' rows res outs)
    (hf : ∀ r ∈ L, ∃ row, hpL' hp r = some row ∧ ∀ c ∈ row.cells, ∀ q ∈ c.refs, q ∈ L) (hs : snaps L args = []) (hn : L.Nodup) (hl : L.length ≤ outs.length)
    (hk : S1 P T A N all dr K rest acc tm hp nx dst ⟨True, res.ren (back L nx), outUpsFrom L nx 0 outs, outs.length - L.length⟩ L) : CL P T A N all dr K rest acc tm hp nx dst f args L := by
  refine cl_call h ⟨hn, hf, by rw [hs]; simp, hl, .inl hs⟩ ha hr ?_
  rw [hs, List.append_nil]; exact hk
theorem cl_use {f : FuncId} {args args' : List SV} {L S : List Nat} {rows : List Row} {res : SV} {outs : List (Option Row)} (hr : L.map (hpL' hp) = rows.map some) (h : FnSpec P f args' rows res outs) (ha : args.map (prepV L (hpL' hp)) = args')
    (hf : ∀ row ∈ rows, flat row.cells) (hs : snaps L args = S) (hg : ∀ r ∈ S, ∃ row, hpL' hp r = some row ∧ ∀ c ∈ row.cells, c.isG = true) (hn : L.Nodup) (hl : L.length ≤ outs.length)
    (hk : S1 P T A N all dr K rest acc tm hp nx dst ⟨True, res.ren (back L nx), S.map (fun r => (r, none)) ++ outUpsFrom L nx 0 outs, outs.length - L.length⟩ (L ++ S)) : CL P T A N all dr K rest acc tm hp nx dst f args L := by
  refine cl_use0 h ⟨hn, ?_, by rw [hs]; exact hg, hl, .inl rfl⟩ ha (lent_flat hr hf) hs hk
  intro r hr'
  have : hpL' hp r ∈ rows.map some := by rw [← hr]; exact List.mem_map_of_mem hr'
  obtain ⟨row, h1, h2⟩ := List.mem_map.1 this
  exact ⟨row, h2.symm, fun c hc q hq => by rw [hf row h1 c hc] at hq; cases hq⟩

end
theorem map0 : ([] : List (Option Row)) = ([] : List Row).map some := rfl
theorem map1 (a : Row) : [some a] = [a].map some := rfl
theorem map2 (a b : Row) : [some a, some b] = [a, b].map some := rfl
theorem map3 (a b c : Row) : [some a, some b, some c] = [a, b, c].map some := rfl
theorem Ints_cat (a b : List Int) : Ints a ++ Ints b = Ints (a ++ b) := by simp [Ints]
theorem take1 {α : Type} (x : α) : List.take 1 [x] = [x] := rfl
theorem max12 : max 1 2 = 2 := rfl
theorem max13 : max 1 3 = 3 := rfl
theorem max14 : max 1 4 = 4 := rfl
-- the set of laws by which a walk is reckoned out
attribute [go_sem ↓] w_skip w_exit w_ret w_seq w_block w_region_f w_region_t w_cond w_loop_eq k_seq k_seq_exit k_seq_ret k_blk k_blk_exit k_blk_ret k_loop k_loop_exit k_loop_ret k_fin k_fin_ret k_imp o_nil_f o_nil_t o_move o_assign o_alloc o_box o_build o_buildSlice o_load o_store o_nilCheck o_bin o_un o_conv o_make o_makeFunc o_slice o_fieldAddr o_field o_indexAddr o_index o_extract o_len o_append o_appendZ o_cap o_copy o_clear o_min o_max o_pick o_guard o_call g_move g_assign g_load g_nilCheck g_bin g_un g_conv g_fieldAddr g_field g_indexAddr g_index g_extract g_len g_pick g_call g_min g_max
attribute [go_sem] o_range o_next sRange sNext sConvS allU8 u8of o_makeMap o_lookup o_mapUpdate g_lookup sMakeMap sLookup sMapUpdate keyB mval_some mval_none cg_ud s2m_l s2m_r s2m_ii s2m_false List.take_length List.take_succ_cons List.take_zero List.drop_succ_cons rgf_f rgt_f eqCL eqV sameK gv_ud cg_f s2p_true s2_false s2u_false s2b_false s2p_false s1_some s1_none s2_some s2_none s2u_cnd s2u_one s2u_agg s2u_tup s2b_l s2b_r s2b_go s2b_ag s2b_gg cnd_true cnd_false gfp_nil gfp_true gfp_false pk_f pk_t mrg_true mrg_false mrg_cl mrg_cr mrg_cn s2p_yn mrg_b mrg_i gtmp gu_some gv_f gv_c gv_t s2p_c s2p_x s2p_y s2p_xt s2p_yt s2p_b s2p_i bq_true bq_false cv_fn cv_fnc cd_true cd_false evL hpL' evS ofV_int ofV_bool ofV_string ofV_slice ofV_pointer slot lookR pushU SV.ref sAlloc sBox sBuild sBuildSlice sLoad sStore sNil sBin sBinT sUn sConv sMake sFunc cell1 Cell.isG sSlice sFieldAddr sField sIndexAddr sIndex sExtract sLen sMin sMax sAppend1 sAppendK sAppendZ sCap sCopy sClear top sAppend slc ari V readAt readNeed sFill plS zeros ints foldMin foldMax bnd capOf tmpOf live argsTm rowsHp lendIds SV.cells SV.solid putAt inR_i64 List.filterMap_nil List.filterMap_cons List.flatMap_nil List.flatMap_cons Cell.refs List.map_cons List.map_nil List.getElem?_toArray List.getElem?_cons_succ List.getElem?_cons_zero List.getElem?_nil List.length_cons List.length_nil List.append_nil List.nil_append List.cons_append List.getD_cons_zero List.set_cons_zero List.set_cons_succ List.forall_mem_cons List.not_mem_nil List.getD_cons_succ Option.map_some Option.map_none Option.getD_some Option.getD_none Option.isSome_some Option.isSome_none Nat.mul_one Nat.zero_add Nat.add_zero if_true if_false eq_self_iff_true true_and and_true Bool.true_and Bool.and_true false_and and_false true_implies implies_true false_implies Bool.false_eq_true Bool.true_eq_false Bool.not_true Bool.not_false Bool.not_not Int.toNat_natCast Int.add_sub_cancel Nat.max_self max10 max11 max12 max13 max14 Ints_length Ints_rep Ints_cat Ints_take Ints_drop take1 List.drop_zero List.length_append Ints_set Ints_app List.length_replicate List.length_set Ints_getD List.headD_cons ne_eq not_true_eq_false not_false_eq_true decide_true decide_false cond_true cond_false Bool.cond_false_right Bool.cond_true_right Bool.cond_false_left Bool.cond_true_left

end Go.Proofs.YtfkcolodbjonkabDoor.Sh
