/- Contracts of number.Clip, number.Add, number.value and the references of the first two. -/
import Derived.Test.YtjfknijaohemgaaNumPure
import Derived.WalkSpells
import Derived.WalkLawsBesides
import Derived.Lib.Hide
namespace Go.Proofs.Ytjfknijaohemgaa
open Go.RowKit
set_option linter.unusedVariables false

set_option maxHeartbeats 400000 in
theorem clip_any (n : Int) (w : World) :
    Calls Try.prog 12 #[.int .i64 n] w fun e w' => e = .returned (.int .i64 (clip n)) ∧ w = w' := by
  by_cases h : 4611686018427387904 ≤ n
  · go_enter Try.func12, Try.ntmps12
    go_wp2
    go_ret
    exact ⟨ret_i (by unfold clip; rw [if_pos h]), rfl⟩
  · go_enter Try.func12, Try.ntmps12
    go_wp2
    all_goals (go_ret; exact ⟨ret_i (by unfold clip; repeat' (first | omega | split | (rename_i hx; split at hx))), rfl⟩)

set_option maxHeartbeats 400000 in
theorem value_any (s : ByteArray) (w : World) :
    Calls Try.prog 20 #[.string s] w fun e w' => e = .returned (.tuple #[.int .i64 (valR s).1, .bool (valR s).2]) ∧ Below w.heap.size w w' := by
  go_enter Try.func20, Try.ntmps20
  go_wp2
  go_loopw [4] (fun n wr => ∃ (pos : Nat) (m : Int), wr = w.iter s pos ∧ n = .int .i64 m ∧ 0 ≤ m ∧ m ≤ 1099511627777 ∧ Hid (valGo (s.data.toList.drop pos) m = valGo s.data.toList 0)) (fun _ wr => s.size - wr.iterPos w.heap.size)
  case atStart => exact ⟨0, 0, rfl, rfl, by omega, by omega, rfl⟩
  case round =>
    obtain ⟨pos, m, rfl, rfl, hm0, hm1, HS⟩ := hrel
    by_cases hp : pos < s.size
    · have hnx : ∀ ty, (Instr.next (.pointer (some ⟨w.heap.size, 0, none⟩)) true ty).run Try.prog (w.iter s pos) = _ := fun ty => run_next_any w s pos ty hp
      by_cases hd : 48 ≤ (s[pos]).toNat ∧ (s[pos]).toNat ≤ 57
      · rw [decode_ascii s pos hp (by omega)] at hnx
        have HV := Lib.hid (valGo_digit s pos m hp hd.1 hd.2)
        obtain ⟨c, hc⟩ : ∃ c : Nat, c = (s[pos]).toNat := ⟨_, rfl⟩
        rw [← hc] at hnx hd HV
        obtain ⟨hd1, hd2⟩ := hd
        clear hc
        go_wp2
        go_roundw
        case rel => exact ⟨pos + 1, _, rfl, rfl, by split <;> omega, by split <;> omega, HV.out.symm.trans HS.out⟩
        case measure => simp; omega
      · have HN := Lib.hid (valR_none s ((valGo_bad s pos m hp hd).symm.trans HS.out))
        have hr : (Utf8.decode s pos).1 < 48 ∨ 57 < (Utf8.decode s pos).1 := by
          by_cases ha : (s[pos]).toNat < 128
          · rw [decode_ascii s pos hp ha]; simp only; omega
          · have := (decode_high s pos hp (by omega)).1; omega
        obtain ⟨r, hr0⟩ : ∃ r, r = (Utf8.decode s pos).1 := ⟨_, rfl⟩
        obtain ⟨q, hq0⟩ : ∃ q, q = (Utf8.decode s pos).2 := ⟨_, rfl⟩
        rw [← hr0] at hnx hr
        rw [← hq0] at hnx
        clear hr0 hq0 hd
        rcases hr with hr | hr
        · go_wp2
          go_ret2
          exact ⟨ret_ib (by rw [HN.out]) (by rw [HN.out]), (Below.refl _ _).alloc (Nat.le_refl _) _⟩
        · have hr2 : 48 ≤ r := by omega
          go_wp2
          go_ret2
          exact ⟨ret_ib (by rw [HN.out]) (by rw [HN.out]), (Below.refl _ _).alloc (Nat.le_refl _) _⟩
    · have hnx : ∀ ty, (Instr.next (.pointer (some ⟨w.heap.size, 0, none⟩)) true ty).run Try.prog (w.iter s pos) = _ := fun ty => run_next_end w s pos ty hp
      have HE := Lib.hid (valR_some s m ((valGo_end s pos m hp).symm.trans HS.out))
      go_wp2
      go_ret2
      exact ⟨ret_ib (by rw [HE.out]) (by rw [HE.out]), (Below.refl _ _).alloc (Nat.le_refl _) _⟩
end Go.Proofs.Ytjfknijaohemgaa
