/- Maps of numbers to numbers, as rows: a list of pairs. -/
import Derived.Test.YtabanfgnnelfcaaShZa
namespace Go.Proofs.Ytabanfgnnelfcaa.Sh
set_option linter.unusedVariables false
set_option linter.unusedSimpArgs false

def look (T : List (Int × Int)) (k : Int) : Option Int := match T with
  | [] => none
  | p :: r => if p.1 = k then some p.2 else look r k
def getM (T : List (Int × Int)) (k : Int) : Int := (look T k).getD 0
def setM (T : List (Int × Int)) (k v : Int) : List (Int × Int) := match T with
  | [] => [(k, v)]
  | p :: r => if p.1 = k then (k, v) :: r else p :: setM r k v
theorem look_setM (k v d : Int) : ∀ T, look (setM T k v) d = if d = k then some v else look T d
  | [] => by
    unfold setM look
    by_cases h : d = k
    · rw [if_pos h, if_pos h.symm]
    · rw [if_neg h, if_neg (fun e => h e.symm)]
      rfl
  | p :: r => by
    unfold setM
    by_cases hp : p.1 = k
    · rw [if_pos hp]
      unfold look
      by_cases h : d = k
      · rw [if_pos h, if_pos h.symm]
      · rw [if_neg h, if_neg (fun e => h e.symm), if_neg (fun e => h (e.symm.trans hp))]
    · rw [if_neg hp]
      have ih := look_setM k v d r
      by_cases h : d = k
      · rw [if_pos h] at ih ⊢
        conv => lhs; unfold look
        rw [if_neg (fun e => hp (e.trans h)), ih]
      · rw [if_neg h] at ih ⊢
        conv => lhs; unfold look
        conv => rhs; unfold look
        by_cases hd : p.1 = d
        · rw [if_pos hd, if_pos hd]
        · rw [if_neg hd, if_neg hd, ih]
theorem getM_setM (T : List (Int × Int)) (k v d : Int) : getM (setM T k v) d = if d = k then v else getM T d := by
  unfold getM
  rw [look_setM]
  split <;> rfl
theorem getM_nil (k : Int) : getM [] k = 0 := rfl

def Mps (T : List (Int × Int)) : List Cell := match T with
  | [] => []
  | p :: r => int p.1 :: int p.2 :: Mps r
theorem mget_Mps (k : Int) : ∀ T, mget (.int .i64 k) (Mps T) = (look T k).map int
  | [] => rfl
  | p :: r => by
    unfold Mps look mget
    by_cases h : p.1 = k
    · have e : keyEq (.int .i64 k) (.int .i64 p.1) = true := by simp [keyEq, h]
      rw [if_pos e, if_pos h]
      rfl
    · have e : ¬ keyEq (.int .i64 k) (.int .i64 p.1) = true := by simp [keyEq]; exact fun e => h e.symm
      rw [if_neg e, if_neg h]
      exact mget_Mps k r
theorem mval_Mps (k : Int) (T : List (Int × Int)) : mval [.int .i64 0] (mget (.int .i64 k) (Mps T)) = int (getM T k) := by
  rw [mget_Mps]
  unfold getM
  cases look T k <;> rfl
theorem mset_Mps (k v : Int) : ∀ T, mset (.int .i64 k) (.sc (.int .i64 v)) (Mps T) = Mps (setM T k v)
  | [] => rfl
  | p :: r => by
    simp only [Mps, setM, mset]
    by_cases h : p.1 = k
    · have e : keyEq (.int .i64 k) (.int .i64 p.1) = true := by simp [keyEq, h]
      rw [if_pos e, if_pos h]
      simp only [Mps]
    · have e : ¬ keyEq (.int .i64 k) (.int .i64 p.1) = true := by simp [keyEq]; exact fun e => h e.symm
      rw [if_neg e, if_neg h, mset_Mps k v r]
      simp only [Mps]
theorem mkeys_Mps : ∀ T, mkeys (.int .i64) (Mps T) = true
  | [] => rfl
  | p :: r => by
    unfold Mps mkeys
    rw [mkeys_Mps r]
    simp [keyB]
theorem mkeys_nil (k : TK) : mkeys k [] = true := rfl
theorem Mps_mem : ∀ {T : List (Int × Int)} {c : Cell}, c ∈ Mps T → ∃ n, c = int n
  | [], c, h => by cases h
  | p :: r, c, h => by
    unfold Mps at h
    rcases List.mem_cons.1 h with e | h
    · exact ⟨_, e⟩
    rcases List.mem_cons.1 h with e | h
    · exact ⟨_, e⟩
    · exact Mps_mem h
theorem Mps_flat (T : List (Int × Int)) : flat (Mps T) := fun c hc => by obtain ⟨n, rfl⟩ := Mps_mem hc; rfl
attribute [go_sem] mval_Mps mset_Mps mkeys_Mps mkeys_nil TK.isAgg
end Go.Proofs.Ytabanfgnnelfcaa.Sh
