/- The table of types held against a program; words for numbers; the laws that reckon a text's proposition out. -/
import Derived.Test.YtfkcolodbjonkabDoorShR
namespace Go.Proofs.YtfkcolodbjonkabDoor.Sh
open Go.RowKit
set_option linter.unusedVariables false
set_option linter.unusedSimpArgs false

def zeq : Value → Value → Bool
  | .int k a, .int k' b => decide (k = k') && decide (a = b)
  | .bool a, .bool b => a == b
  | .string a, .string b => decide (a = b)
  | .pointer none, .pointer none => true
  | .slice none 0 0, .slice none 0 0 => true
  | .map none, .map none => true
  | .nilFunc, .nilFunc => true
  | .nilIface, .nilIface => true
  | _, _ => false

theorem zeq_eq {a b : Value} (h : zeq a b = true) : a = b ∧ b.oneCell' = true := by
  unfold zeq at h
  split at h
  · simp at h; obtain ⟨rfl, rfl⟩ := h; exact ⟨rfl, rfl⟩
  · simp at h; subst h; exact ⟨rfl, rfl⟩
  · simp at h; subst h; exact ⟨rfl, rfl⟩
  · exact ⟨rfl, rfl⟩
  · exact ⟨rfl, rfl⟩
  · exact ⟨rfl, rfl⟩
  · exact ⟨rfl, rfl⟩
  · exact ⟨rfl, rfl⟩
  · cases h

def zeqL : List Value → List Value → Bool
  | [], [] => true
  | a :: l, b :: r => zeq a b && zeqL l r
  | _, _ => false

theorem zeqL_eq : ∀ {l r : List Value}, zeqL l r = true → l = r ∧ ∀ x ∈ r, x.oneCell' = true
  | [], [], _ => ⟨rfl, by simp⟩
  | a :: l, b :: r, h => by
    simp only [zeqL, Bool.and_eq_true] at h
    obtain ⟨h1, h2⟩ := h
    obtain ⟨rfl, h3⟩ := zeq_eq h1
    obtain ⟨rfl, h4⟩ := zeqL_eq h2
    exact ⟨rfl, fun x hx => by
      rcases List.mem_cons.1 hx with e | e
      · rw [e]; exact h3
      · exact h4 x e⟩
  | [], _ :: _, h => by cases h
  | _ :: _, [], h => by cases h

def fitsB : TK → TypeDesc → Bool
  | .int k, .int k' => decide (k' = k)
  | .bool, .bool => true
  | .str, .string => true
  | .ptr, .pointer _ => true
  | .slice e, .slice e' => decide (e' = e)
  | .array n e, .array n' e' => decide (n' = n) && decide (e' = e)
  | .map k e, .map k' e' => decide (k' = k) && decide (e' = e)
  | .struct fs, .struct fl => decide (fl.toList.map (fun f => (f.offset, f.type)) = fs)
  | .oth, .struct _ => false
  | .oth, .array _ _ => false
  | .oth, .slice _ => false
  | .oth, _ => true
  | _, _ => false

theorem fitsB_ok {k : TK} {d : TypeDesc} (h : fitsB k d = true) : k.fits d := by
  unfold fitsB at h
  unfold TK.fits
  split at h <;> simp_all

def chk1 (P : Program) (t : Nat) (ti : TI) : Bool :=
  match P.info? t, P.underlying t with
  | some i, some d => decide (i.size = ti.size) && decide (i.bytes = ti.bytes) && fitsB ti.kind d && (match i.zero with
    | some z => zeqL z.cells.toList ti.zero && (ti.kind.isAgg || z.oneCell')
    | none => false) && decide (ti.zero.length = ti.size) && (!ti.eq || eqChk P t ti.zero)
  | _, _ => false

theorem chk1_ok {P : Program} {t : Nat} {ti : TI} (h : chk1 P t ti = true) : TIok P t ti := by
  unfold chk1 at h
  split at h
  · rename_i i d hi hd
    simp only [Bool.and_eq_true, decide_eq_true_eq] at h
    obtain ⟨⟨⟨⟨⟨h1, h2⟩, h3⟩, h4⟩, h5⟩, h6⟩ := h
    split at h4
    · rename_i z hz
      rw [Bool.and_eq_true] at h4
      obtain ⟨e1, e2⟩ := zeqL_eq h4.1
      refine ⟨⟨i, d, z, hi, hd, h1, h2, fitsB_ok h3, hz, e1, h5, e2⟩, fun he => eqChk_ok (by simpa [he] using h6), fun hag i' z' hi' hz' => ?_⟩
      rw [hi] at hi'
      cases hi'
      rw [hz] at hz'
      cases hz'
      simpa [hag] using h4.2
    · cases h4
  · cases h

def chkT (P : Program) (l : List (Nat × TI)) : Bool := l.all fun x => chk1 P x.1 x.2

theorem chkT_ok {P : Program} {T : Tab} (h : chkT P T.ts = true) : TOk P T := by
  intro t ti hl
  exact chk1_ok (List.all_eq_true.1 h (t, ti) (slot_mem hl))

abbrev int (n : Int) : Cell := .sc (.int .i64 n)
abbrev bool (b : Bool) : Cell := .sc (.bool b)
abbrev i1 (n : Int) : SV := .one (int n)
abbrev b1 (b : Bool) : SV := .one (bool b)
def Ints (xs : List Int) : List Cell := xs.map int
abbrev gi (xs : List Int) (cap : Option Nat) : SV := .one (.gsl (Ints xs) 0 xs.length cap)

theorem Ints_length (xs : List Int) : (Ints xs).length = xs.length := by simp [Ints]
theorem Ints_getD (xs : List Int) (i : Nat) : (Ints xs).getD i (.sc (.int .i64 0)) = int (xs.getD i 0) := by
  unfold Ints
  simp only [List.getD_eq_getElem?_getD, List.getElem?_map]
  cases xs[i]? <;> rfl
theorem Ints_ren (ρ : Nat → Option Nat) (xs : List Int) : (Ints xs).map (Cell.ren ρ) = Ints xs := by
  unfold Ints
  rw [List.map_map]
  apply List.map_congr_left
  intro x _; rfl
theorem Ints_set (xs : List Int) (i : Nat) (n : Int) : (Ints xs).set i (.sc (.int .i64 n)) = Ints (xs.set i n) := by
  unfold Ints
  rw [List.map_set]
theorem Ints_app (xs : List Int) (n : Int) : Ints xs ++ [.sc (.int .i64 n)] = Ints (xs ++ [n]) := by simp [Ints]
theorem Ints_drop (xs : List Int) (i : Nat) : (Ints xs).drop i = Ints (xs.drop i) := by simp [Ints, List.map_drop]
theorem Ints_take (xs : List Int) (i : Nat) : (Ints xs).take i = Ints (xs.take i) := by simp [Ints, List.map_take]
theorem Ints_isG (xs : List Int) : ∀ c ∈ Ints xs, c.isG = true := by
  intro c hc
  obtain ⟨x, _, rfl⟩ := List.mem_map.1 hc
  rfl
theorem Ints_rep (n : Nat) (x : Int) : List.replicate n (Cell.sc (.int .i64 x)) = Ints (List.replicate n x) := by simp [Ints]

theorem ofV_int (k : IntKind) (n : Int) : ofV (.int k n) = V (.int k n) := rfl
theorem ofV_bool (b : Bool) : ofV (.bool b) = V (.bool b) := rfl
theorem ofV_string (b : ByteArray) : ofV (.string b) = V (.string b) := rfl
theorem ofV_slice (a : Option Addr) (n c : Nat) : ofV (.slice a n c) = V (.slice a n c) := rfl
theorem ofV_pointer (a : Option Addr) : ofV (.pointer a) = V (.pointer a) := rfl
theorem max10 : max 1 0 = 1 := rfl
theorem max11 : max 1 1 = 1 := rfl

end Go.Proofs.YtfkcolodbjonkabDoor.Sh
