/- Contracts of functions, told of values, on the way to SetsOrder (part 5). -/
import Derived.Test.YteokppcgmfbnkaaDoorSetsOrderM4
-- NEWGO
-- PRUNE: cl_lendx cl_use cl_lend
namespace Go.Proofs.YteokppcgmfbnkaaDoor
set_option linter.unusedVariables false
set_option linter.unusedSimpArgs false
open Go.Proofs.YteokppcgmfbnkaaDoor.Sh
set_option maxRecDepth 20000
set_option maxHeartbeats 4000000 in
theorem same_spec (a b : List Int) (k k2 : Option Nat) (hl : a.length ≤ 9223372036854775806) : FnSpec Tryd.prog 15 [gi a k, gi b k2] [] (b1 (decide (a = b))) [] := by
  by_cases hlen : a.length = b.length
  case neg =>
    have c : ¬ (a.length : Int) = (b.length : Int) := by omega
    rw [decide_eq_false (fun e => hlen (by rw [e]))]
    refine fnspec_of mixed TT_ok TT_cl ⟨fun _ => false, fun _ => [], 0, fun _ => false, fun _ => false⟩ Tryd.func15 rfl (by kernel_rfl) rfl 26 rfl [.tmp 4] rfl ?_
    simp only [go_sem, Nat.reduceEqDiff, Nat.reduceAdd, Nat.reduceSub, Nat.reduceMul, Nat.reduceLT, Nat.reduceLeDiff, ↓reduceIte, reduceCtorEq, List.reduceReplicate, Int.cast_ofNat_Int, Int.reduceEq, Int.reduceLT, Int.reduceLE, decide_eq_false c]
    repeat' (first
    | (apply fs_nil <;> (try simp only [go_sem, resV, resS, SV.ren, SV.renL, Cell.ren, St.tmF, St.hpF, idx, renO, Row.ren, evS, slot, lookR, Nat.reduceEqDiff, ↓reduceIte, reduceCtorEq, if_true, if_false, Option.getD_some, Option.getD_none, List.map_cons, List.map_nil, sLoad, readAt, readNeed, Ints_ren, Ints_length, Ints_getD, and_true, true_and, List.getD_cons_zero, List.getD_cons_succ]) <;> (try rfl)))
  have hlen' : (a.length : Int) = (b.length : Int) := by omega
  refine fnspec_of mixed TT_ok TT_cl ⟨fun _ => false, fun _ => [], 0, fun _ => false, fun _ => false⟩ Tryd.func15 rfl (by kernel_rfl) rfl 26 rfl [.tmp 4] rfl ?_
  simp only [go_sem, Nat.reduceEqDiff, Nat.reduceAdd, Nat.reduceSub, Nat.reduceMul, Nat.reduceLT, Nat.reduceLeDiff, ↓reduceIte, reduceCtorEq, List.reduceReplicate, Int.cast_ofNat_Int, Int.reduceEq, Int.reduceLT, Int.reduceLE, hlen']
  repeat' (first
    | ((first | refine s1_id ?_ | refine swp_id ?_ | refine sops_id ?_ | refine s2_id ?_); simp only [hlen', go_sem, Nat.reduceEqDiff, Nat.reduceAdd, Nat.reduceSub, Nat.reduceMul, Nat.reduceLT, Nat.reduceLeDiff, ↓reduceIte, reduceCtorEq, List.reduceReplicate, Int.cast_ofNat_Int, Int.reduceEq, Int.reduceLT, Int.reduceLE, SV.ren, SV.renL, Cell.ren, Row.ren, renO, bk, back, outUpsFrom, Ints_ren]))
  refine w_loop (ι := Nat) (fun i => ⟨[(0, gi a k), (1, gi b k2), (5, i1 i)], [], 0⟩) (fun i => i ≤ a.length ∧ a.take i = b.take i) (fun i => a.length - i) 0 ?_ ⟨Nat.zero_le _, rfl⟩ ?_
  · (refine imp_sub _ _ _ [] (by simp) (by simp) (by simp) (Nat.zero_le _) ?_ rfl (by simp); simp only [List.forall_mem_cons, List.not_mem_nil, false_implies, implies_true, and_true, lk, slot, SV.ren, Cell.ren, Nat.reduceEqDiff, if_true, if_false, ↓reduceIte, reduceCtorEq])
    all_goals ((repeat' apply And.intro) <;> (first | rfl | trivial))
  rintro i ⟨hi, he⟩
  simp only at hi he ⊢
  rcases Nat.lt_or_ge i a.length with hlt | hge
  case inr =>
    have c : ¬ (i : Int) < (a.length : Int) := by omega
    rw [List.take_of_length_le hge, List.take_of_length_le (by omega)] at he
    rw [decide_eq_true he]
    simp only [go_sem, Nat.reduceEqDiff, Nat.reduceAdd, Nat.reduceSub, Nat.reduceMul, Nat.reduceLT, Nat.reduceLeDiff, ↓reduceIte, reduceCtorEq, List.reduceReplicate, Int.cast_ofNat_Int, Int.reduceEq, Int.reduceLT, Int.reduceLE, decide_eq_false c]
    repeat' (first
    | (apply fs_nil <;> (try simp only [go_sem, resV, resS, SV.ren, SV.renL, Cell.ren, St.tmF, St.hpF, idx, renO, Row.ren, evS, slot, lookR, Nat.reduceEqDiff, ↓reduceIte, reduceCtorEq, if_true, if_false, Option.getD_some, Option.getD_none, List.map_cons, List.map_nil, sLoad, readAt, readNeed, Ints_ren, Ints_length, Ints_getD, and_true, true_and, List.getD_cons_zero, List.getD_cons_succ]) <;> (try rfl)))
  have c : (i : Int) < (a.length : Int) := by omega
  have ha := take_getD a i 0 hlt
  have hb := take_getD b i 0 (by omega)
  by_cases hx : a.getD i 0 = b.getD i 0
  · have hn : a.take (i + 1) = b.take (i + 1) := by rw [ha, hb, he, hx]
    simp only [go_sem, Nat.reduceEqDiff, Nat.reduceAdd, Nat.reduceSub, Nat.reduceMul, Nat.reduceLT, Nat.reduceLeDiff, ↓reduceIte, reduceCtorEq, List.reduceReplicate, Int.cast_ofNat_Int, Int.reduceEq, Int.reduceLT, Int.reduceLE, decide_eq_true c, hx]
    repeat' (first
    | with_reducible refine And.intro ?_ ?_
    | (unfold OKC; kernel_rfl)
    | (unfold EDG; kernel_rfl)
    | (intros; (try simp only [Bool.and_eq_true, Bool.or_eq_true, Bool.not_eq_true', Bool.not_eq_false', Bool.and_eq_false_iff, Bool.or_eq_false_iff, decide_eq_true_eq, decide_eq_false_iff_not] at *); omega)
    | ((first | refine s1_id ?_ | refine swp_id ?_ | refine sops_id ?_ | refine s2_id ?_); simp only [decide_eq_true c, hx, go_sem, Nat.reduceEqDiff, Nat.reduceAdd, Nat.reduceSub, Nat.reduceMul, Nat.reduceLT, Nat.reduceLeDiff, ↓reduceIte, reduceCtorEq, List.reduceReplicate, Int.cast_ofNat_Int, Int.reduceEq, Int.reduceLT, Int.reduceLE, SV.ren, SV.renL, Cell.ren, Row.ren, renO, bk, back, outUpsFrom, Ints_ren]))
    refine le_mk (i + 1) ?_ ⟨hlt, hn⟩ (by omega)
    (refine imp_sub _ _ _ [] (by simp) (by simp) (by simp) (Nat.zero_le _) ?_ rfl (by simp); simp only [List.forall_mem_cons, List.not_mem_nil, false_implies, implies_true, and_true, lk, slot, SV.ren, Cell.ren, Nat.reduceEqDiff, if_true, if_false, ↓reduceIte, reduceCtorEq])
    all_goals ((repeat' apply And.intro) <;> (first | rfl | trivial | (simp only [Int.natCast_add]; done) | (simp only [Int.natCast_add]; rfl) | (simp only [Int.natCast_add]; trivial)))
  · rw [decide_eq_false (fun e => hx (by rw [e]))]
    simp only [go_sem, Nat.reduceEqDiff, Nat.reduceAdd, Nat.reduceSub, Nat.reduceMul, Nat.reduceLT, Nat.reduceLeDiff, ↓reduceIte, reduceCtorEq, List.reduceReplicate, Int.cast_ofNat_Int, Int.reduceEq, Int.reduceLT, Int.reduceLE, decide_eq_true c, decide_eq_false hx]
    repeat' (first
    | with_reducible refine And.intro ?_ ?_
    | (unfold OKC; kernel_rfl)
    | (unfold EDG; kernel_rfl)
    | (intros; (try simp only [Bool.and_eq_true, Bool.or_eq_true, Bool.not_eq_true', Bool.not_eq_false', Bool.and_eq_false_iff, Bool.or_eq_false_iff, decide_eq_true_eq, decide_eq_false_iff_not] at *); omega)
    | (apply fs_nil <;> (try simp only [go_sem, resV, resS, SV.ren, SV.renL, Cell.ren, St.tmF, St.hpF, idx, renO, Row.ren, evS, slot, lookR, Nat.reduceEqDiff, ↓reduceIte, reduceCtorEq, if_true, if_false, Option.getD_some, Option.getD_none, List.map_cons, List.map_nil, sLoad, readAt, readNeed, Ints_ren, Ints_length, Ints_getD, and_true, true_and, List.getD_cons_zero, List.getD_cons_succ]) <;> (try rfl)))
theorem ins_at (x : Int) (l : List Int) (k : Nat) (h : Asc l) (h1 : ∀ y ∈ l.take k, y < x) (h2 : ∀ y ∈ l.drop k, x < y) : l.take k ++ x :: l.drop k = ins x l := by
  refine asc_ext _ _ ?_ (ins_asc x l h) fun z => ?_
  · refine List.pairwise_append.2 ⟨h.sublist (List.take_sublist k l), List.pairwise_cons.2 ⟨h2, h.sublist (List.drop_sublist k l)⟩, fun a ha b hb => ?_⟩
    rcases List.mem_cons.1 hb with rfl | hb
    · exact h1 a ha
    · have := h1 a ha; have := h2 b hb; omega
  · rw [ins_mem]
    conv => rhs; rw [← List.take_append_drop k l]
    simp only [List.mem_append, List.mem_cons]
    constructor
    · rintro (h | h | h) <;> simp [h]
    · rintro (h | h | h) <;> simp [h]
theorem lay_ins (out : List Int) (k : Nat) (hk : k ≤ out.length) : ∃ q, layAt (Ints (out ++ [0])) (k + 1) (Ints (out.drop k)) = Ints (out.take k ++ q :: out.drop k) := by
  refine ⟨(out ++ [0]).getD k 0, ?_⟩
  have h1 := take_getD (out ++ [0]) k 0 (by simp; omega)
  rw [List.take_append_of_le_length hk] at h1
  unfold layAt
  have h3 : List.drop (k + 1 + (out.length - k)) (Ints (out ++ [0])) = [] := List.drop_of_length_le (by rw [Ints_length, List.length_append, List.length_singleton]; omega)
  rw [Ints_length, List.length_drop, h3, List.append_nil]
  have h2 : (Ints (out ++ [0])).take (k + 1) = Ints ((out ++ [0]).take (k + 1)) := by simp [Ints, List.map_take]
  rw [h2, h1]
  simp [Ints]
theorem set_ins (out : List Int) (k : Nat) (hk : k ≤ out.length) (q x : Int) : (Ints (out.take k ++ q :: out.drop k)).set k (int x) = Ints (out.take k ++ x :: out.drop k) := by
  have hl : (out.take k).length = k := by rw [List.length_take]; omega
  have h1 : (out.take k ++ q :: out.drop k).set k x = out.take k ++ x :: out.drop k := by
    rw [List.set_append_right _ _ (by omega), hl, Nat.sub_self]; rfl
  rw [← h1]; simp [Ints, List.map_set]
theorem lt_of_asc {out : List Int} {k : Nat} {p x : Int} (h : Asc out) (hp : out.getD (k - 1) 0 = p) (hk : 0 < k ∧ k ≤ out.length) (hpx : p < x) : ∀ y ∈ out.take k, y < x := by
  intro y hy
  have e := take_getD out (k - 1) 0 (by omega)
  rw [hp, show k - 1 + 1 = k by omega] at e
  rw [e] at hy
  have h2 := h.sublist (List.take_sublist k out)
  rw [e] at h2
  rcases List.mem_append.1 hy with hy | hy
  · have := (List.pairwise_append.1 h2).2.2 y hy p (List.mem_singleton_self _); omega
  · rw [List.mem_singleton.1 hy]; exact hpx
theorem ins_in (x : Int) (l : List Int) (h : Asc l) (hx : x ∈ l) : ins x l = l :=
  asc_ext _ _ (ins_asc x l h) h fun z => by rw [ins_mem]; constructor; (· rintro (rfl | h); (· exact hx); (· exact h)); (· exact .inr)
set_option maxHeartbeats 8000000 in
theorem rsorted_spec (l : List Int) (kk : Option Nat) (hl : l.length ≤ 1000000) : FnSpec Tryd.prog 16 [gi l kk] [] (gi (srt l) none) [] := by
  refine fnspec_of mixed TT_ok TT_cl ⟨fun _ => false, fun _ => [], 0, fun _ => false, fun _ => false⟩ Tryd.func16 rfl (by kernel_rfl) rfl 63 rfl [.tmp 2] rfl ?_
  simp only [go_sem, Nat.reduceEqDiff, Nat.reduceAdd, Nat.reduceSub, Nat.reduceMul, Nat.reduceLT, Nat.reduceLeDiff, ↓reduceIte, reduceCtorEq, List.reduceReplicate, Int.cast_ofNat_Int, Int.reduceEq, Int.reduceLT, Int.reduceLE]
  repeat' (first
    | ((first | refine s1_id ?_ | refine swp_id ?_ | refine sops_id ?_ | refine s2_id ?_); simp only [go_sem, Nat.reduceEqDiff, Nat.reduceAdd, Nat.reduceSub, Nat.reduceMul, Nat.reduceLT, Nat.reduceLeDiff, ↓reduceIte, reduceCtorEq, List.reduceReplicate, Int.cast_ofNat_Int, Int.reduceEq, Int.reduceLT, Int.reduceLE, SV.ren, SV.renL, Cell.ren, Row.ren, renO, bk, back, outUpsFrom, Ints_ren]))
  refine w_loop (ι := Nat × List Int) (fun s => ⟨[(0, gi l kk), (3, .one (.osl 0 0 s.2.length none)), (4, i1 s.1)], [(0, some ⟨Ints s.2, 1⟩)], 1⟩) (fun s => s.1 ≤ l.length ∧ s.2.length ≤ s.1 ∧ Asc s.2 ∧ srt l = srtA s.2 (l.drop s.1)) (fun s => l.length - s.1) (0, []) ?_ ⟨Nat.zero_le _, Nat.le_refl _, List.Pairwise.nil, rfl⟩ ?_
  · (refine Imp.trans (imp_nilA _ _ 3 1 99 (by simp only []; omega) rfl) ?_)
    (refine imp_ren _ _ _ [(0, 99, ⟨[], 1⟩)] (by simp) (by simp) (by simp) (Nat.le_of_ble_eq_true rfl) ?_ rfl (by simp only [List.forall_mem_cons, List.not_mem_nil, false_implies, implies_true, and_true, St.hpF, lookR, Nat.reduceEqDiff, if_true, if_false, ↓reduceIte] <;> (repeat' apply And.intro) <;> (first | rfl | trivial)) (by simp only [List.forall_mem_cons, List.not_mem_nil, false_implies, implies_true, and_true, true_and, flat_cons, flat_nil, flat_ints, flat_bools, flat_app, Cell.refs, and_self, eq_self_iff_true, List.append_nil]); simp only [List.map_cons, List.map_nil, List.forall_mem_cons, List.not_mem_nil, false_implies, implies_true, and_true, lk, slot, SV.ren, Cell.ren, toN, Nat.reduceEqDiff, if_true, if_false, ↓reduceIte, reduceCtorEq])
    all_goals ((repeat' apply And.intro) <;> (first | rfl | trivial))
  rintro ⟨i, out⟩ ⟨hi, ho, hA, hI⟩
  simp only at hi ho hA hI ⊢
  rcases Nat.lt_or_ge i l.length with hlt | hge
  case inr =>
    have c : ¬ (i : Int) < (l.length : Int) := by omega
    rw [List.drop_of_length_le hge, srtA] at hI
    subst hI
    simp only [go_sem, Nat.reduceEqDiff, Nat.reduceAdd, Nat.reduceSub, Nat.reduceMul, Nat.reduceLT, Nat.reduceLeDiff, ↓reduceIte, reduceCtorEq, List.reduceReplicate, Int.cast_ofNat_Int, Int.reduceEq, Int.reduceLT, Int.reduceLE, decide_eq_false c]
    repeat' (first
    | ((first | refine s1_id ?_ | refine swp_id ?_ | refine sops_id ?_ | refine s2_id ?_); simp only [decide_eq_false c, go_sem, Nat.reduceEqDiff, Nat.reduceAdd, Nat.reduceSub, Nat.reduceMul, Nat.reduceLT, Nat.reduceLeDiff, ↓reduceIte, reduceCtorEq, List.reduceReplicate, Int.cast_ofNat_Int, Int.reduceEq, Int.reduceLT, Int.reduceLE, SV.ren, SV.renL, Cell.ren, Row.ren, renO, bk, back, outUpsFrom, Ints_ren]))
    (refine fs_frz 0 ⟨Ints (srt l), 1⟩ (by simp only [St.hpF, lookR, Nat.reduceEqDiff, if_true, if_false, ↓reduceIte]) (by first | exact Ints_isG _ | exact Bools_isG _ | (simp [Cell.isG]; done)) ?_; simp only [frzTm, SV.frz, SV.frzL, Cell.frz, frzHp, frzO, Ints_frz, Bools_frz, List.map_cons, List.map_nil, Nat.reduceEqDiff, if_true, if_false, ↓reduceIte])
    apply fs_nil <;> (try simp only [go_sem, resV, resS, SV.ren, SV.renL, Cell.ren, St.tmF, St.hpF, idx, renO, Row.ren, evS, slot, lookR, Nat.reduceEqDiff, ↓reduceIte, reduceCtorEq, if_true, if_false, Option.getD_some, Option.getD_none, List.map_cons, List.map_nil, sLoad, readAt, readNeed, Ints_ren, Ints_length, Ints_getD, and_true, true_and, List.getD_cons_zero, List.getD_cons_succ]) <;> (try rfl)
  have c : (i : Int) < (l.length : Int) := by omega
  obtain ⟨x, hx⟩ : ∃ x, l.getD i 0 = x := ⟨_, rfl⟩
  rw [drop_getD l i 0 hlt, hx, srtA] at hI
  simp only [go_sem, Nat.reduceEqDiff, Nat.reduceAdd, Nat.reduceSub, Nat.reduceMul, Nat.reduceLT, Nat.reduceLeDiff, ↓reduceIte, reduceCtorEq, List.reduceReplicate, Int.cast_ofNat_Int, Int.reduceEq, Int.reduceLT, Int.reduceLE, decide_eq_true c]
  repeat' (first
    | ((first | refine s1_id ?_ | refine swp_id ?_ | refine sops_id ?_ | refine s2_id ?_); simp only [decide_eq_true c, go_sem, Nat.reduceEqDiff, Nat.reduceAdd, Nat.reduceSub, Nat.reduceMul, Nat.reduceLT, Nat.reduceLeDiff, ↓reduceIte, reduceCtorEq, List.reduceReplicate, Int.cast_ofNat_Int, Int.reduceEq, Int.reduceLT, Int.reduceLE, SV.ren, SV.renL, Cell.ren, Row.ren, renO, bk, back, outUpsFrom, Ints_ren]))
  refine w_loop (ι := Nat) (fun k => ⟨[(0, gi l kk), (3, .one (.osl 0 0 out.length none)), (4, i1 i), (5, i1 k)], [(0, some ⟨Ints out, 1⟩)], 1⟩) (fun k => k ≤ out.length ∧ ∀ y ∈ out.drop k, x < y) (fun k => k) out.length ?_ ⟨Nat.le_refl _, fun y hy => by rw [List.drop_of_length_le (Nat.le_refl _)] at hy; exact absurd hy List.not_mem_nil⟩ ?_
  · (refine imp_ren _ _ _ [(0, 0, ⟨Ints out, 1⟩)] (by simp) (by simp) (by simp) (Nat.le_of_ble_eq_true rfl) ?_ rfl (by simp only [List.forall_mem_cons, List.not_mem_nil, false_implies, implies_true, and_true, St.hpF, lookR, Nat.reduceEqDiff, if_true, if_false, ↓reduceIte] <;> (repeat' apply And.intro) <;> (first | rfl | trivial)) (by simp only [List.forall_mem_cons, List.not_mem_nil, false_implies, implies_true, and_true, true_and, flat_cons, flat_nil, flat_ints, flat_bools, flat_app, Cell.refs, and_self, eq_self_iff_true, List.append_nil]); simp only [List.map_cons, List.map_nil, List.forall_mem_cons, List.not_mem_nil, false_implies, implies_true, and_true, lk, slot, SV.ren, Cell.ren, toN, Nat.reduceEqDiff, if_true, if_false, ↓reduceIte, reduceCtorEq])
    all_goals ((repeat' apply And.intro) <;> (first | rfl | trivial))
  rintro k ⟨hk, hb⟩
  simp only at hk hb ⊢
  by_cases hk0 : 0 < k
  · have c0 : 0 < (k : Int) := by omega
    have hkn : ((k : Int) - 1).toNat = k - 1 := by omega
    obtain ⟨p, hp⟩ : ∃ p, out.getD (k - 1) 0 = p := ⟨_, rfl⟩
    have hdk : out.drop (k - 1) = p :: out.drop k := by
      have := drop_getD out (k - 1) 0 (by omega)
      rw [hp, show k - 1 + 1 = k by omega] at this; exact this
    by_cases hlt2 : x < p
    · simp only [go_sem, Nat.reduceEqDiff, Nat.reduceAdd, Nat.reduceSub, Nat.reduceMul, Nat.reduceLT, Nat.reduceLeDiff, ↓reduceIte, reduceCtorEq, List.reduceReplicate, Int.cast_ofNat_Int, Int.reduceEq, Int.reduceLT, Int.reduceLE, decide_eq_true c, decide_eq_true c0, hkn, hx, hp, decide_eq_true hlt2]
      repeat' (first
    | with_reducible refine And.intro ?_ ?_
    | (unfold OKC; kernel_rfl)
    | (unfold EDG; kernel_rfl)
    | (intros; (try simp only [Bool.and_eq_true, Bool.or_eq_true, Bool.not_eq_true', Bool.not_eq_false', Bool.and_eq_false_iff, Bool.or_eq_false_iff, decide_eq_true_eq, decide_eq_false_iff_not] at *); omega)
    | ((first | refine s1_id ?_ | refine swp_id ?_ | refine sops_id ?_ | refine s2_id ?_); simp only [decide_eq_true c0, hkn, hx, hp, decide_eq_true hlt2, go_sem, Nat.reduceEqDiff, Nat.reduceAdd, Nat.reduceSub, Nat.reduceMul, Nat.reduceLT, Nat.reduceLeDiff, ↓reduceIte, reduceCtorEq, List.reduceReplicate, Int.cast_ofNat_Int, Int.reduceEq, Int.reduceLT, Int.reduceLE, SV.ren, SV.renL, Cell.ren, Row.ren, renO, bk, back, outUpsFrom, Ints_ren]))
      refine le_mk (k - 1) ?_ ⟨by omega, fun y hy => by rw [hdk] at hy; rcases List.mem_cons.1 hy with rfl | hy; (· exact hlt2); (· exact hb y hy)⟩ (by omega)
      have hkk : ((k - 1 : Nat) : Int) = (k : Int) - 1 := by omega
      (refine imp_ren _ _ _ [(0, 0, ⟨Ints out, 1⟩)] (by simp) (by simp) (by simp) (Nat.le_of_ble_eq_true rfl) ?_ rfl (by simp only [List.forall_mem_cons, List.not_mem_nil, false_implies, implies_true, and_true, St.hpF, lookR, Nat.reduceEqDiff, if_true, if_false, ↓reduceIte] <;> (repeat' apply And.intro) <;> (first | rfl | trivial)) (by simp only [List.forall_mem_cons, List.not_mem_nil, false_implies, implies_true, and_true, true_and, flat_cons, flat_nil, flat_ints, flat_bools, flat_app, Cell.refs, and_self, eq_self_iff_true, List.append_nil]); simp only [List.map_cons, List.map_nil, List.forall_mem_cons, List.not_mem_nil, false_implies, implies_true, and_true, lk, slot, SV.ren, Cell.ren, toN, Nat.reduceEqDiff, if_true, if_false, ↓reduceIte, reduceCtorEq])
      all_goals ((repeat' apply And.intro) <;> (first | rfl | trivial | (simp only [hkk]; done) | (simp only [hkk]; rfl) | (simp only [hkk]; trivial)))
    · by_cases heq : p = x
      · have hin : ins x out = out := ins_in x out hA (by rw [← heq, ← hp]; exact getD_mem out (k - 1) 0 (by omega))
        rw [hin] at hI
        simp only [go_sem, Nat.reduceEqDiff, Nat.reduceAdd, Nat.reduceSub, Nat.reduceMul, Nat.reduceLT, Nat.reduceLeDiff, ↓reduceIte, reduceCtorEq, List.reduceReplicate, Int.cast_ofNat_Int, Int.reduceEq, Int.reduceLT, Int.reduceLE, decide_eq_true c, decide_eq_true c0, hkn, hx, hp, decide_eq_false hlt2, decide_eq_true heq]
        repeat' (first
    | with_reducible refine And.intro ?_ ?_
    | (unfold OKC; kernel_rfl)
    | (unfold EDG; kernel_rfl)
    | (intros; (try simp only [Bool.and_eq_true, Bool.or_eq_true, Bool.not_eq_true', Bool.not_eq_false', Bool.and_eq_false_iff, Bool.or_eq_false_iff, decide_eq_true_eq, decide_eq_false_iff_not] at *); omega)
    | ((first | refine s1_id ?_ | refine swp_id ?_ | refine sops_id ?_ | refine s2_id ?_); simp only [decide_eq_true c0, hkn, hx, hp, decide_eq_false hlt2, decide_eq_true heq, go_sem, Nat.reduceEqDiff, Nat.reduceAdd, Nat.reduceSub, Nat.reduceMul, Nat.reduceLT, Nat.reduceLeDiff, ↓reduceIte, reduceCtorEq, List.reduceReplicate, Int.cast_ofNat_Int, Int.reduceEq, Int.reduceLT, Int.reduceLE, SV.ren, SV.renL, Cell.ren, Row.ren, renO, bk, back, outUpsFrom, Ints_ren]))
        refine le_mk (i + 1, out) ?_ ⟨hlt, by show out.length ≤ i + 1; omega, hA, hI⟩ (by show l.length - (i + 1) < l.length - i; omega)
        (refine imp_ren _ _ _ [(0, 0, ⟨Ints out, 1⟩)] (by simp) (by simp) (by simp) (Nat.le_of_ble_eq_true rfl) ?_ rfl (by simp only [List.forall_mem_cons, List.not_mem_nil, false_implies, implies_true, and_true, St.hpF, lookR, Nat.reduceEqDiff, if_true, if_false, ↓reduceIte] <;> (repeat' apply And.intro) <;> (first | rfl | trivial)) (by simp only [List.forall_mem_cons, List.not_mem_nil, false_implies, implies_true, and_true, true_and, flat_cons, flat_nil, flat_ints, flat_bools, flat_app, Cell.refs, and_self, eq_self_iff_true, List.append_nil]); simp only [List.map_cons, List.map_nil, List.forall_mem_cons, List.not_mem_nil, false_implies, implies_true, and_true, lk, slot, SV.ren, Cell.ren, toN, Nat.reduceEqDiff, if_true, if_false, ↓reduceIte, reduceCtorEq])
        all_goals ((repeat' apply And.intro) <;> (first | rfl | trivial | (simp only [Int.natCast_add]; done) | (simp only [Int.natCast_add]; rfl) | (simp only [Int.natCast_add]; trivial)))
      · have hnk : ((k : Int) + 1).toNat = k + 1 := by omega
        have hmin : min (out.length + 1 - k) (out.length + 1 - (k + 1)) = out.length - k := by omega
        have htt : List.take (out.length - k) (List.take (out.length + 1 - k) (List.drop k (out ++ [0]))) = out.drop k := by
          rw [List.take_take, List.drop_append_of_le_length hk, List.take_append_of_le_length (by rw [List.length_drop]; omega), List.take_of_length_le (by rw [List.length_drop]; omega)]
        have hdl : (List.take (out.length + 1 - k) (List.drop k (out ++ [0]))).length = out.length + 1 - k := by simp
        have hta : List.take out.length (Ints out) = Ints out := List.take_of_length_le (by rw [Ints_length]; exact Nat.le_refl _)
        have hap : Ints out ++ [int 0] = Ints (out ++ [0]) := by simp [Ints]
        obtain ⟨q, hlay⟩ := lay_ins out k hk
        have hset := set_ins out k hk q x
        have hll : (Ints (out.take k ++ q :: out.drop k)).length = out.length + 1 := by rw [Ints_length, List.length_append, List.length_cons, List.length_take, List.length_drop]; omega
        have hin : out.take k ++ x :: out.drop k = ins x out := ins_at x out k hA (fun y hy => lt_of_asc hA hp (by omega) (by omega) y hy) hb
        have hil : (ins x out).length = out.length + 1 := by rw [← hin, List.length_append, List.length_cons, List.length_take, List.length_drop]; omega
        rw [hin] at hset
        simp only [go_sem, Nat.reduceEqDiff, Nat.reduceAdd, Nat.reduceSub, Nat.reduceMul, Nat.reduceLT, Nat.reduceLeDiff, ↓reduceIte, reduceCtorEq, List.reduceReplicate, Int.cast_ofNat_Int, Int.reduceEq, Int.reduceLT, Int.reduceLE, decide_eq_true c, decide_eq_true c0, hkn, hp, decide_eq_false hlt2, decide_eq_false heq, hnk, hmin, htt, hx, hta, hap]
        repeat' (first
    | with_reducible refine And.intro ?_ ?_
    | (unfold OKC; kernel_rfl)
    | (unfold EDG; kernel_rfl)
    | (intros; (try simp only [Bool.and_eq_true, Bool.or_eq_true, Bool.not_eq_true', Bool.not_eq_false', Bool.and_eq_false_iff, Bool.or_eq_false_iff, decide_eq_true_eq, decide_eq_false_iff_not] at *); omega)
    | ((first | refine s1_id ?_ | refine swp_id ?_ | refine sops_id ?_ | refine s2_id ?_); simp only [decide_eq_true c0, hkn, hp, decide_eq_false hlt2, decide_eq_false heq, hnk, hmin, htt, hx, hta, hap, hdl, hlay, hset, hll, List.flatten_cons, List.flatten_nil, List.append_nil, List.cons_append, List.nil_append, List.set_cons_zero, List.set_cons_succ, List.take_succ_cons, List.take_zero, List.take_nil, List.length_cons, List.length_nil, go_sem, Nat.reduceEqDiff, Nat.reduceAdd, Nat.reduceSub, Nat.reduceMul, Nat.reduceLT, Nat.reduceLeDiff, ↓reduceIte, reduceCtorEq, List.reduceReplicate, Int.cast_ofNat_Int, Int.reduceEq, Int.reduceLT, Int.reduceLE, SV.ren, SV.renL, Cell.ren, Row.ren, renO, bk, back, outUpsFrom, Ints_ren]))
        all_goals try (intro row hrow; cases hrow; rfl)
        all_goals try (rw [hlay, hll]; omega)
        refine le_mk (i + 1, ins x out) ?_ ⟨hlt, by show (ins x out).length ≤ i + 1; omega, ins_asc x out hA, hI⟩ (by show l.length - (i + 1) < l.length - i; omega)
        simp only [hil, hlay, hset]
        (refine imp_ren _ _ _ [(0, 31, ⟨Ints (ins x out), 1⟩)] (by simp) (by simp) (by simp) (Nat.le_of_ble_eq_true rfl) ?_ rfl (by simp only [List.forall_mem_cons, List.not_mem_nil, false_implies, implies_true, and_true, St.hpF, lookR, Nat.reduceEqDiff, if_true, if_false, ↓reduceIte] <;> (repeat' apply And.intro) <;> (first | rfl | trivial)) (by simp only [List.forall_mem_cons, List.not_mem_nil, false_implies, implies_true, and_true, true_and, flat_cons, flat_nil, flat_ints, flat_bools, flat_app, Cell.refs, and_self, eq_self_iff_true, List.append_nil]); simp only [List.map_cons, List.map_nil, List.forall_mem_cons, List.not_mem_nil, false_implies, implies_true, and_true, lk, slot, SV.ren, Cell.ren, toN, Nat.reduceEqDiff, if_true, if_false, ↓reduceIte, reduceCtorEq])
        all_goals ((repeat' apply And.intro) <;> (first | rfl | trivial | (simp only [Int.natCast_add]; done) | (simp only [Int.natCast_add]; rfl) | (simp only [Int.natCast_add]; trivial)))
  · have c0 : ¬ 0 < (k : Int) := by omega
    have hnk : ((k : Int) + 1).toNat = k + 1 := by omega
    have hmin : min (out.length + 1 - k) (out.length + 1 - (k + 1)) = out.length - k := by omega
    have htt : List.take (out.length - k) (List.take (out.length + 1 - k) (List.drop k (out ++ [0]))) = out.drop k := by
      rw [List.take_take, List.drop_append_of_le_length hk, List.take_append_of_le_length (by rw [List.length_drop]; omega), List.take_of_length_le (by rw [List.length_drop]; omega)]
    have hdl : (List.take (out.length + 1 - k) (List.drop k (out ++ [0]))).length = out.length + 1 - k := by simp
    have hta : List.take out.length (Ints out) = Ints out := List.take_of_length_le (by rw [Ints_length]; exact Nat.le_refl _)
    have hap : Ints out ++ [int 0] = Ints (out ++ [0]) := by simp [Ints]
    obtain ⟨q, hlay⟩ := lay_ins out k hk
    have hset := set_ins out k hk q x
    have hll : (Ints (out.take k ++ q :: out.drop k)).length = out.length + 1 := by rw [Ints_length, List.length_append, List.length_cons, List.length_take, List.length_drop]; omega
    have hin : out.take k ++ x :: out.drop k = ins x out := ins_at x out k hA (fun y hy => by rw [show k = 0 by omega, List.take_zero] at hy; exact absurd hy List.not_mem_nil) hb
    have hil : (ins x out).length = out.length + 1 := by rw [← hin, List.length_append, List.length_cons, List.length_take, List.length_drop]; omega
    rw [hin] at hset
    simp only [go_sem, Nat.reduceEqDiff, Nat.reduceAdd, Nat.reduceSub, Nat.reduceMul, Nat.reduceLT, Nat.reduceLeDiff, ↓reduceIte, reduceCtorEq, List.reduceReplicate, Int.cast_ofNat_Int, Int.reduceEq, Int.reduceLT, Int.reduceLE, decide_eq_true c, decide_eq_false c0, hnk, hmin, htt, hx, hta, hap]
    repeat' (first
    | with_reducible refine And.intro ?_ ?_
    | (unfold OKC; kernel_rfl)
    | (unfold EDG; kernel_rfl)
    | (intros; (try simp only [Bool.and_eq_true, Bool.or_eq_true, Bool.not_eq_true', Bool.not_eq_false', Bool.and_eq_false_iff, Bool.or_eq_false_iff, decide_eq_true_eq, decide_eq_false_iff_not] at *); omega)
    | ((first | refine s1_id ?_ | refine swp_id ?_ | refine sops_id ?_ | refine s2_id ?_); simp only [decide_eq_false c0, hnk, hmin, htt, hx, hta, hap, hdl, hlay, hset, hll, List.flatten_cons, List.flatten_nil, List.append_nil, List.cons_append, List.nil_append, List.set_cons_zero, List.set_cons_succ, List.take_succ_cons, List.take_zero, List.take_nil, List.length_cons, List.length_nil, go_sem, Nat.reduceEqDiff, Nat.reduceAdd, Nat.reduceSub, Nat.reduceMul, Nat.reduceLT, Nat.reduceLeDiff, ↓reduceIte, reduceCtorEq, List.reduceReplicate, Int.cast_ofNat_Int, Int.reduceEq, Int.reduceLT, Int.reduceLE, SV.ren, SV.renL, Cell.ren, Row.ren, renO, bk, back, outUpsFrom, Ints_ren]))
    all_goals try (intro row hrow; cases hrow; rfl)
    all_goals try (rw [hlay, hll]; omega)
    refine le_mk (i + 1, ins x out) ?_ ⟨hlt, by show (ins x out).length ≤ i + 1; omega, ins_asc x out hA, hI⟩ (by show l.length - (i + 1) < l.length - i; omega)
    simp only [hil, hlay, hset]
    (refine imp_ren _ _ _ [(0, 31, ⟨Ints (ins x out), 1⟩)] (by simp) (by simp) (by simp) (Nat.le_of_ble_eq_true rfl) ?_ rfl (by simp only [List.forall_mem_cons, List.not_mem_nil, false_implies, implies_true, and_true, St.hpF, lookR, Nat.reduceEqDiff, if_true, if_false, ↓reduceIte] <;> (repeat' apply And.intro) <;> (first | rfl | trivial)) (by simp only [List.forall_mem_cons, List.not_mem_nil, false_implies, implies_true, and_true, true_and, flat_cons, flat_nil, flat_ints, flat_bools, flat_app, Cell.refs, and_self, eq_self_iff_true, List.append_nil]); simp only [List.map_cons, List.map_nil, List.forall_mem_cons, List.not_mem_nil, false_implies, implies_true, and_true, lk, slot, SV.ren, Cell.ren, toN, Nat.reduceEqDiff, if_true, if_false, ↓reduceIte, reduceCtorEq])
    all_goals ((repeat' apply And.intro) <;> (first | rfl | trivial | (simp only [Int.natCast_add]; done) | (simp only [Int.natCast_add]; rfl) | (simp only [Int.natCast_add]; trivial)))
end Go.Proofs.YteokppcgmfbnkaaDoor
-- NEWGO
-- PRUNE: cl_lendx cl_use
namespace Go.Proofs.YteokppcgmfbnkaaDoor
set_option linter.unusedVariables false
set_option linter.unusedSimpArgs false
open Go.Proofs.YteokppcgmfbnkaaDoor.Sh
set_option maxRecDepth 20000
theorem prt_ex : jn (prt [0, 1, 2, 7]) [44] = [48, 45, 50, 44, 55] := by
  have e1 : rnN 0 [1, 2, 7] = 2 := by decide
  have e2 : rnN 7 [] = 0 := rfl
  have d0 : dec 0 = [48] := by rw [dec_lo (by decide)]; rfl
  have d2 : dec 2 = [50] := by rw [dec_lo (by decide)]; rfl
  have d7 : dec 7 = [55] := by rw [dec_lo (by decide)]; rfl
  rw [prt_cons, e1]
  show jn (prt1 0 2 :: prt [7]) [44] = _
  rw [prt_cons, e2]
  show jn (prt1 0 2 :: prt1 7 0 :: prt []) [44] = _
  rw [prt_nil]
  have p1 : prt1 0 2 = [48, 45, 50] := by
    show dec 0 ++ 45 :: dec 2 = _
    rw [d0, d2]; rfl
  have p2 : prt1 7 0 = [55] := by
    show dec 7 = _
    rw [d7]
  rw [p1, p2, jn_consS _ _ _ (by simp), jn_oneS]; rfl
theorem sane_spec : FnSpec Tryd.prog 9 [] [] (b1 true) [] := by
  have h1 := parse_spec [48, 45, 50, 44, 55, 44, 49] 8 (by decide)
  have e1 : pSets [48, 45, 50, 44, 55, 44, 49] 8 = ([0, 1, 2, 7], 0) := by decide +kernel
  rw [e1] at h1
  have h2 := format_spec [0, 1, 2, 7] none (by decide) (by decide) (by decide) (by rw [prt_ex]; decide)
  rw [prt_ex] at h2
  refine fnspec_of mixed TT_ok TT_cl ⟨fun _ => false, fun _ => [], 0, fun _ => false, fun _ => false⟩ Tryd.func9 rfl (by kernel_rfl) rfl 29 rfl [.tmp 0] rfl ?_
  simp only [go_sem, Nat.reduceEqDiff, Nat.reduceAdd, Nat.reduceSub, Nat.reduceMul, Nat.reduceLT, Nat.reduceLeDiff, ↓reduceIte, reduceCtorEq, List.reduceReplicate, Int.cast_ofNat_Int, Int.reduceEq, Int.reduceLT, Int.reduceLE]
  repeat' (first
    | (apply cl_plain
       case hs => rfl
       case ha => (simp only [List.map_cons, List.map_nil, prepV, prepC, idx, hpL', lookR, Nat.reduceEqDiff, if_true, if_false]; rfl)
       case h => (first | exact h1 .. | exact h2 ..))
    | ((first | refine s1_id ?_ | refine swp_id ?_ | refine sops_id ?_ | refine s2_id ?_); simp only [go_sem, Nat.reduceEqDiff, Nat.reduceAdd, Nat.reduceSub, Nat.reduceMul, Nat.reduceLT, Nat.reduceLeDiff, ↓reduceIte, reduceCtorEq, List.reduceReplicate, Int.cast_ofNat_Int, Int.reduceEq, Int.reduceLT, Int.reduceLE, SV.ren, SV.renL, Cell.ren, Row.ren, renO, bk, back, outUpsFrom, Ints_ren])
    | (apply fs_nil <;> (try simp only [go_sem, resV, resS, SV.ren, SV.renL, Cell.ren, St.tmF, St.hpF, idx, renO, Row.ren, evS, slot, lookR, Nat.reduceEqDiff, ↓reduceIte, reduceCtorEq, if_true, if_false, Option.getD_some, Option.getD_none, List.map_cons, List.map_nil, sLoad, readAt, readNeed, Ints_ren, Ints_length, Ints_getD, and_true, true_and, List.getD_cons_zero, List.getD_cons_succ]) <;> (try rfl)))
end Go.Proofs.YteokppcgmfbnkaaDoor
-- NEWGO
-- PRUNE: cl_lendx cl_use
namespace Go.Proofs.YteokppcgmfbnkaaDoor
set_option linter.unusedVariables false
set_option linter.unusedSimpArgs false
open Go.Proofs.YteokppcgmfbnkaaDoor.Sh
set_option maxRecDepth 20000
theorem decimal_spec (n0 : Nat) (h0 : n0 ≤ 4611686018427387904) : FnSpec Tryd.prog 12 [i1 n0] [] (s1 (dec n0)) [] := by
  refine fnspec_of mixed TT_ok TT_cl ⟨fun _ => false, fun _ => [], 0, fun _ => false, fun _ => false⟩ Tryd.func12 rfl (by kernel_rfl) rfl 21 rfl [.tmp 2] rfl ?_
  simp only [go_sem, Nat.reduceEqDiff, Nat.reduceAdd, Nat.reduceSub, Nat.reduceMul, Nat.reduceLT, Nat.reduceLeDiff, ↓reduceIte, reduceCtorEq, List.reduceReplicate, Int.cast_ofNat_Int, Int.reduceEq, Int.reduceLT, Int.reduceLE]
  repeat' (first
    | ((first | refine s1_id ?_ | refine swp_id ?_ | refine sops_id ?_ | refine s2_id ?_); simp only [go_sem, Nat.reduceEqDiff, Nat.reduceAdd, Nat.reduceSub, Nat.reduceMul, Nat.reduceLT, Nat.reduceLeDiff, ↓reduceIte, reduceCtorEq, List.reduceReplicate, Int.cast_ofNat_Int, Int.reduceEq, Int.reduceLT, Int.reduceLE, SV.ren, SV.renL, Cell.ren, Row.ren, renO, bk, back, outUpsFrom, Ints_ren]))
  refine w_loop (ι := Nat × Str) (fun p => ⟨[(0, i1 p.1), (3, s1 p.2)], [], 0⟩) (fun p => p.1 + p.2.length ≤ n0 + 1 ∧ dec n0 = if 0 < p.1 ∨ p.2 = [] then dec p.1 ++ p.2 else p.2) (fun p => p.1 + if p.2 = [] then 1 else 0) (n0, []) ?_ ⟨by show n0 + 0 ≤ n0 + 1; omega, by show dec n0 = if 0 < n0 ∨ ([] : Str) = [] then dec n0 ++ [] else []; rw [if_pos (.inr rfl), List.append_nil]⟩ ?_
  · (refine imp_sub _ _ _ [] (by simp) (by simp) (by simp) (Nat.zero_le _) ?_ rfl (by simp); simp only [List.forall_mem_cons, List.not_mem_nil, false_implies, implies_true, and_true, lk, slot, SV.ren, Cell.ren, Nat.reduceEqDiff, if_true, if_false, ↓reduceIte, reduceCtorEq])
    all_goals ((repeat' apply And.intro) <;> (first | rfl | trivial))
  rintro ⟨n, s⟩ ⟨hl, he⟩
  simp only at hl he ⊢
  have step : (0 < n ∨ s = []) → n / 10 + (UInt8.ofNat (48 + n % 10) :: s).length ≤ n0 + 1 ∧ dec n0 = if 0 < n / 10 ∨ UInt8.ofNat (48 + n % 10) :: s = [] then dec (n / 10) ++ UInt8.ofNat (48 + n % 10) :: s else UInt8.ofNat (48 + n % 10) :: s := by
    intro h
    rw [if_pos h] at he
    refine ⟨?_, ?_⟩
    · rw [List.length_cons]
      rcases h with h | h
      · omega
      · subst h; simp only [List.length_nil] at hl ⊢; omega
    · by_cases h10 : n < 10
      · rw [if_neg (fun q => q.elim (fun q => by omega) (fun q => by cases q)), he, dec_lo h10, show n % 10 = n by omega]
        rfl
      · rw [if_pos (.inl (by omega)), he, dec_hi h10, List.append_assoc]
        rfl
  have hmod : (n : Int).tmod 10 = ((n % 10 : Nat) : Int) := rfl
  have hdiv : (n : Int).tdiv 10 = ((n / 10 : Nat) : Int) := rfl
  have q8 : inR .u8 (48 + ((n % 10 : Nat) : Int)) = True := eq_true (show (0 : Int) ≤ _ ∧ _ ≤ (255 : Int) by omega)
  have htn : (48 + ((n % 10 : Nat) : Int)).toNat = 48 + n % 10 := by omega
  by_cases hn : 0 < n
  · have hn' : 0 < (n : Int) := by omega
    simp only [go_sem, Nat.reduceEqDiff, Nat.reduceAdd, Nat.reduceSub, Nat.reduceMul, Nat.reduceLT, Nat.reduceLeDiff, ↓reduceIte, reduceCtorEq, List.reduceReplicate, Int.cast_ofNat_Int, Int.reduceEq, Int.reduceLT, Int.reduceLE, decide_eq_true hn', hmod, hdiv, q8, htn]
    repeat' (first
    | with_reducible refine And.intro ?_ ?_
    | (intros; (try simp only [Bool.and_eq_true, Bool.or_eq_true, Bool.not_eq_true', Bool.not_eq_false', Bool.and_eq_false_iff, Bool.or_eq_false_iff, decide_eq_true_eq, decide_eq_false_iff_not] at *); omega)
    | ((first | refine s1_id ?_ | refine swp_id ?_ | refine sops_id ?_ | refine s2_id ?_); simp only [decide_eq_true hn', hmod, hdiv, q8, htn, go_sem, Nat.reduceEqDiff, Nat.reduceAdd, Nat.reduceSub, Nat.reduceMul, Nat.reduceLT, Nat.reduceLeDiff, ↓reduceIte, reduceCtorEq, List.reduceReplicate, Int.cast_ofNat_Int, Int.reduceEq, Int.reduceLT, Int.reduceLE, SV.ren, SV.renL, Cell.ren, Row.ren, renO, bk, back, outUpsFrom, Ints_ren]))
    obtain ⟨t1, t2⟩ := step (.inl hn)
    refine le_mk (n / 10, UInt8.ofNat (48 + n % 10) :: s) ?_ ⟨t1, t2⟩ (by show n / 10 + (if UInt8.ofNat (48 + n % 10) :: s = [] then 1 else 0) < n + (if s = [] then 1 else 0); rw [if_neg (by simp)]; omega)
    (refine imp_sub _ _ _ [] (by simp) (by simp) (by simp) (Nat.zero_le _) ?_ rfl (by simp); simp only [List.forall_mem_cons, List.not_mem_nil, false_implies, implies_true, and_true, lk, slot, SV.ren, Cell.ren, Nat.reduceEqDiff, if_true, if_false, ↓reduceIte, reduceCtorEq])
    all_goals ((repeat' apply And.intro) <;> (first | rfl | trivial | (simp only []; done) | (simp only []; rfl) | (simp only []; trivial)))
  · have hn' : ¬ 0 < (n : Int) := by omega
    by_cases hs : s = []
    · simp only [go_sem, Nat.reduceEqDiff, Nat.reduceAdd, Nat.reduceSub, Nat.reduceMul, Nat.reduceLT, Nat.reduceLeDiff, ↓reduceIte, reduceCtorEq, List.reduceReplicate, Int.cast_ofNat_Int, Int.reduceEq, Int.reduceLT, Int.reduceLE, decide_eq_false hn', decide_eq_true hs, hmod, hdiv, q8, htn]
      repeat' (first
    | with_reducible refine And.intro ?_ ?_
    | (intros; (try simp only [Bool.and_eq_true, Bool.or_eq_true, Bool.not_eq_true', Bool.not_eq_false', Bool.and_eq_false_iff, Bool.or_eq_false_iff, decide_eq_true_eq, decide_eq_false_iff_not] at *); omega)
    | ((first | refine s1_id ?_ | refine swp_id ?_ | refine sops_id ?_ | refine s2_id ?_); simp only [decide_eq_false hn', decide_eq_true hs, hmod, hdiv, q8, htn, go_sem, Nat.reduceEqDiff, Nat.reduceAdd, Nat.reduceSub, Nat.reduceMul, Nat.reduceLT, Nat.reduceLeDiff, ↓reduceIte, reduceCtorEq, List.reduceReplicate, Int.cast_ofNat_Int, Int.reduceEq, Int.reduceLT, Int.reduceLE, SV.ren, SV.renL, Cell.ren, Row.ren, renO, bk, back, outUpsFrom, Ints_ren]))
      obtain ⟨t1, t2⟩ := step (.inr hs)
      refine le_mk (n / 10, UInt8.ofNat (48 + n % 10) :: s) ?_ ⟨t1, t2⟩ (by show n / 10 + (if UInt8.ofNat (48 + n % 10) :: s = [] then 1 else 0) < n + (if s = [] then 1 else 0); rw [if_neg (by simp)]; rw [if_pos hs]; omega)
      (refine imp_sub _ _ _ [] (by simp) (by simp) (by simp) (Nat.zero_le _) ?_ rfl (by simp); simp only [List.forall_mem_cons, List.not_mem_nil, false_implies, implies_true, and_true, lk, slot, SV.ren, Cell.ren, Nat.reduceEqDiff, if_true, if_false, ↓reduceIte, reduceCtorEq])
      all_goals ((repeat' apply And.intro) <;> (first | rfl | trivial | (simp only []; done) | (simp only []; rfl) | (simp only []; trivial)))
    · rw [if_neg (fun q => q.elim hn hs)] at he
      rw [he]
      simp only [go_sem, Nat.reduceEqDiff, Nat.reduceAdd, Nat.reduceSub, Nat.reduceMul, Nat.reduceLT, Nat.reduceLeDiff, ↓reduceIte, reduceCtorEq, List.reduceReplicate, Int.cast_ofNat_Int, Int.reduceEq, Int.reduceLT, Int.reduceLE, decide_eq_false hn', decide_eq_false hs]
      repeat' (first
    | (apply fs_nil <;> (try simp only [go_sem, resV, resS, SV.ren, SV.renL, Cell.ren, St.tmF, St.hpF, idx, renO, Row.ren, evS, slot, lookR, Nat.reduceEqDiff, ↓reduceIte, reduceCtorEq, if_true, if_false, Option.getD_some, Option.getD_none, List.map_cons, List.map_nil, sLoad, readAt, readNeed, Ints_ren, Ints_length, Ints_getD, and_true, true_and, List.getD_cons_zero, List.getD_cons_succ]) <;> (try rfl)))
def wnt (es : List El) : List Int := (es.map elP).flatMap rng
theorem wnt_snoc (es : List El) (e : El) : wnt (es ++ [e]) = wnt es ++ rng (elP e) := by simp [wnt]
theorem jn_snoc (c : UInt8) (x : Str) : ∀ (ps : List Str), ps ≠ [] → jn (ps ++ [x]) [c] = jn ps [c] ++ c :: x
  | [], h => absurd rfl h
  | [p], _ => by rw [List.cons_append, List.nil_append, jn_consS _ _ _ (by simp), jn_oneS, jn_oneS]
  | p :: q :: r, _ => by
    rw [List.cons_append, jn_consS _ _ _ (by simp), jn_snoc c x (q :: r) (by simp), jn_consS p (q :: r) _ (by simp)]
    simp
theorem jn_nil (es : List El) (h : ∀ e ∈ es, ElOk e) : jn (es.map elT) [44] = [] ↔ es = [] := by
  constructor
  · intro h0
    have := elS_jn es h
    rw [h0] at this
    have h2 : es.map elT = [] := this.symm
    simpa using h2
  · intro h0; subst h0; rfl
structure OrE (e : El) : Prop where
  a : e.1 < 30
  b : e.2.1 ≤ e.1 + 5
  le : e.1 ≤ e.2.1
  tw : e.2.2 = false → e.2.1 = e.1
theorem OrE.ok {e : El} (h : OrE e) : ElOk e := ⟨by have := h.a; omega, by have := h.a; have := h.b; omega, h.le⟩
theorem OrE.p {e : El} (h : OrE e) : elP e = ((e.1 : Int), (e.2.1 : Int)) := by
  unfold elP
  cases ht : e.2.2 with
  | true => rw [if_pos rfl]
  | false => rw [if_neg (by decide), h.tw ht]
theorem rng_take (a b : Nat) (m : Nat) (hm : m = b + 1 - a) : rng ((a : Int), (b : Int)) = (List.range m).map fun (t : Nat) => (a : Int) + t := by
  unfold rng
  rw [show ((b : Int) - a + 1).toNat = m by omega]
theorem rng_len (a b : Nat) : (rng ((a : Int), (b : Int))).length = b + 1 - a := by
  rw [rng_take a b _ rfl]; simp
theorem wnt_len (es : List El) (h : ∀ e ∈ es, OrE e) : (wnt es).length ≤ es.length * 6 := by
  induction es with
  | nil => simp [wnt]
  | cons e r ih =>
    have h1 := ih fun x hx => h x (List.mem_cons_of_mem _ hx)
    have h2 := h e List.mem_cons_self
    have h3 : wnt (e :: r) = rng (elP e) ++ wnt r := by simp [wnt]
    rw [h3, h2.p, List.length_append, rng_len, List.length_cons]
    have := h2.b
    omega
def lendO : FuncId → List Nat := fun f => if f = 11 then [0] else if f = 13 then [0] else []
theorem nx_lt (l : List Int) (i : Nat) (n : Int) (hn : 0 < n) : 0 ≤ nxV l i n ∧ nxV l i n < n := by
  unfold nxV
  split
  · omega
  · exact ⟨Int.emod_nonneg _ (by omega), Int.emod_lt_of_pos _ hn⟩
structure OrI (T : Nat) (n : Nat) (es : List El) : Prop where
  t : es.length + n = T
  ok : ∀ e ∈ es, OrE e
theorem OrI.snoc {T n : Nat} {es : List El} {e : El} (h : OrI T (n + 1) es) (he : OrE e) : OrI T n (es ++ [e]) :=
  ⟨by have := h.t; rw [List.length_append, List.length_singleton]; omega, fun x hx => by
    rcases List.mem_append.1 hx with hx | hx
    · exact h.ok x hx
    · rw [List.mem_singleton.1 hx]; exact he⟩
theorem uni_rev (es : List El) : uniS (es.reverse.map elP) = uniS (es.map elP) := by
  refine asc_ext _ _ (srt_asc _) (srt_asc _) fun x => ?_
  show x ∈ uniS _ ↔ x ∈ uniS _
  rw [uniS_mem, uniS_mem]
  simp only [List.mem_map, List.mem_reverse]
set_option maxHeartbeats 8000000 in
theorem order_end (L : List Int) (es : List El) (hne : es ≠ []) (hok : ∀ e ∈ es, OrE e) (hl5 : es.length ≤ 5) :
    FnSpec Tryd.prog 14 [s1 (jn (es.map elT) [44]), i1 40] [] (.tup [gi (uniS (es.map elP)) none, i1 0]) [] ∧
    FnSpec Tryd.prog 14 [s1 (jn (es.reverse.map elT) [44]), i1 40] [] (.tup [gi (uniS (es.map elP)) none, i1 0]) [] ∧
    FnSpec Tryd.prog 14 [s1 (jn (es.map elT) [44]), i1 ((wnt es).getD 0 0)] [] (.tup [gi [] none, i1 3]) [] ∧ 0 < (wnt es).length := by
  have hk : ∀ e ∈ es, ElOk e := fun e he => (hok e he).ok
  have hkr : ∀ e ∈ es.reverse, ElOk e := fun e he => hk e (List.mem_reverse.1 he)
  have lenb : ∀ fs : List El, (∀ e ∈ fs, ElOk e) → fs.length ≤ 5 → (jn (fs.map elT) [44]).length ≤ 1000000 := fun fs hf h5 => by
    have := jn_lenB (fs.map elT) 44 5 fun p hp => by
      obtain ⟨e, he, rfl⟩ := List.mem_map.1 hp
      exact elT_len e (hf e he)
    rw [List.length_map] at this; omega
  have h1 := parse_spec (jn (es.map elT) [44]) 40 (lenb es hk hl5)
  have h2 := parse_spec (jn (es.reverse.map elT) [44]) 40 (lenb es.reverse hkr (by rw [List.length_reverse]; exact hl5))
  have h3 := parse_spec (jn (es.map elT) [44]) ((wnt es).getD 0 0) (lenb es hk hl5)
  have any40 : ∀ fs : List El, (∀ e ∈ fs, OrE e) → fs.any (fun e => decide ((if (65536 : Int) < 40 then 65536 else 40) ≤ (elP e).2)) = false := fun fs hf => by
    rw [List.any_eq_false]
    intro e he h
    have h1 := hf e he
    have h2 := of_decide_eq_true h
    rw [if_neg (by omega), h1.p] at h2
    have := h1.a; have := h1.b
    simp only at h2; omega
  rw [pSets_el es hk, if_neg (by rw [any40 es hok]; decide)] at h1
  rw [pSets_el es.reverse hkr, if_neg (by rw [any40 es.reverse fun e he => hok e (List.mem_reverse.1 he)]; decide), uni_rev] at h2
  obtain ⟨e, r, rfl⟩ := List.exists_cons_of_ne_nil hne
  have he := hok e List.mem_cons_self
  have hw : wnt (e :: r) = (e.1 : Int) :: ((List.range (e.2.1 - e.1)).map (fun (t : Nat) => (e.1 : Int) + (t + 1 : Nat)) ++ wnt r) := by
    have h3 : wnt (e :: r) = rng (elP e) ++ wnt r := by simp [wnt]
    have hle := he.le
    rw [h3, he.p, rng_take e.1 e.2.1 (e.2.1 - e.1 + 1) (by omega), List.range_succ_eq_map]
    simp
  rw [pSets_el _ hk, if_pos] at h3
  · exact ⟨h1, h2, h3, by rw [hw]; simp⟩
  · rw [hw, List.any_eq_true]
    refine ⟨e, List.mem_cons_self, decide_eq_true ?_⟩
    have hle := he.le
    have ha := he.a
    show (if 65536 < (e.1 : Int) then (65536 : Int) else e.1) ≤ _
    rw [if_neg (by omega), he.p]
    show (e.1 : Int) ≤ e.2.1
    omega
set_option maxHeartbeats 16000000 in
theorem order_spec (L : List Int) (hr : ∀ x ∈ L, -9223372036854775808 ≤ x ∧ x ≤ 9223372036854775807) : FnSpec Tryd.prog 3 [gi L none] [] (b1 true) [] := by
  by_cases hlen : (L.length : Int) ≤ 600
  case neg =>
    refine fnspec_of mixed TT_ok TT_cl ⟨fun _ => false, lendO, 0 , fun i => if i = 42 then true else false, fun i => if i = 21 then true else false⟩ Tryd.func3 rfl (by kernel_rfl) rfl 115 rfl [.tmp 2] rfl ?_
    simp only [go_sem, Nat.reduceEqDiff, Nat.reduceAdd, Nat.reduceSub, Nat.reduceMul, Nat.reduceLT, Nat.reduceLeDiff, ↓reduceIte, reduceCtorEq, List.reduceReplicate, Int.cast_ofNat_Int, Int.reduceEq, Int.reduceLT, Int.reduceLE, decide_eq_false hlen, lendO]
    repeat' (first
    | (apply cl_plain
       case hs => rfl
       case ha => (simp only [List.map_cons, List.map_nil, prepV, prepC, idx, hpL', lookR, Nat.reduceEqDiff, if_true, if_false]; rfl)
       case h => (first | exact light_spec .. | exact sane_spec ..))
    | ((first | refine s1_id ?_ | refine swp_id ?_ | refine sops_id ?_ | refine s2_id ?_); simp only [decide_eq_false hlen, lendO, go_sem, Nat.reduceEqDiff, Nat.reduceAdd, Nat.reduceSub, Nat.reduceMul, Nat.reduceLT, Nat.reduceLeDiff, ↓reduceIte, reduceCtorEq, List.reduceReplicate, Int.cast_ofNat_Int, Int.reduceEq, Int.reduceLT, Int.reduceLE, SV.ren, SV.renL, Cell.ren, Row.ren, renO, bk, back, outUpsFrom, Ints_ren])
    | (apply fs_nil <;> (try simp only [go_sem, resV, resS, SV.ren, SV.renL, Cell.ren, St.tmF, St.hpF, idx, renO, Row.ren, evS, slot, lookR, Nat.reduceEqDiff, ↓reduceIte, reduceCtorEq, if_true, if_false, Option.getD_some, Option.getD_none, List.map_cons, List.map_nil, sLoad, readAt, readNeed, Ints_ren, Ints_length, Ints_getD, and_true, true_and, List.getD_cons_zero, List.getD_cons_succ]) <;> (try rfl)))
  have hl : L.length ≤ 600 := by omega
  have n1 := next_spec L 0 5 hl hr (by decide)
  have r1 := nx_lt L 0 5 (by decide)
  obtain ⟨T, hT⟩ : ∃ T : Nat, nxV L 0 5 = (T : Int) - 1 ∧ 1 ≤ T ∧ T ≤ 5 := ⟨(nxV L 0 5).toNat + 1, by omega, by omega, by omega⟩
  obtain ⟨hT, hT1, hT5⟩ := hT
  rw [hT] at n1
  have hT2 : 1 + ((T : Int) - 1) = T := by omega
  refine fnspec_of mixed TT_ok TT_cl ⟨fun _ => false, lendO, 0 , fun i => if i = 42 then true else false, fun i => if i = 21 then true else false⟩ Tryd.func3 rfl (by kernel_rfl) rfl 115 rfl [.tmp 2] rfl ?_
  simp only [go_sem, Nat.reduceEqDiff, Nat.reduceAdd, Nat.reduceSub, Nat.reduceMul, Nat.reduceLT, Nat.reduceLeDiff, ↓reduceIte, reduceCtorEq, List.reduceReplicate, Int.cast_ofNat_Int, Int.reduceEq, Int.reduceLT, Int.reduceLE, decide_eq_true hlen, lendO]
  repeat' (first
    | with_reducible refine And.intro ?_ ?_
    | (intros; (try simp only [Bool.and_eq_true, Bool.or_eq_true, Bool.not_eq_true', Bool.not_eq_false', Bool.and_eq_false_iff, Bool.or_eq_false_iff, decide_eq_true_eq, decide_eq_false_iff_not] at *); omega)
    | (apply cl_plain
       case hs => rfl
       case ha => (simp only [List.map_cons, List.map_nil, prepV, prepC, idx, hpL', lookR, Nat.reduceEqDiff, if_true, if_false]; rfl)
       case h => (first | exact light_spec .. | exact roll_spec .. | exact n1 ..))
    | (apply cl_lend
       case hr => (simp only [List.map_cons, List.map_nil, hpL', lookR, Nat.reduceEqDiff, if_true, if_false]; first | exact map1 _ | exact map2 _ _ | exact map3 _ _ _)
       case ha => (simp only [List.map_cons, List.map_nil, prepV, prepC, idx, hpL', lookR, Nat.reduceEqDiff, if_true, if_false]; rfl)
       case hs => rfl
       case hn => decide
       case h => (first | exact light_spec .. | exact roll_spec .. | exact n1 ..)
       case hf => (simp only [List.forall_mem_cons, List.not_mem_nil, false_implies, implies_true, and_true, true_and, flat_cons, flat_nil, flat_ints, flat_bools, flat_app, Cell.refs, and_self, eq_self_iff_true, List.append_nil])
       case hl => (simp only [List.length_cons, List.length_nil]; decide))
    | ((first | refine s1_id ?_ | refine swp_id ?_ | refine sops_id ?_ | refine s2_id ?_); simp only [decide_eq_true hlen, lendO, hT2, go_sem, Nat.reduceEqDiff, Nat.reduceAdd, Nat.reduceSub, Nat.reduceMul, Nat.reduceLT, Nat.reduceLeDiff, ↓reduceIte, reduceCtorEq, List.reduceReplicate, Int.cast_ofNat_Int, Int.reduceEq, Int.reduceLT, Int.reduceLE, SV.ren, SV.renL, Cell.ren, Row.ren, renO, bk, back, outUpsFrom, Ints_ren]))
  refine w_loop (ι := Nat × List El × Nat) (fun s => ⟨[(3, .one (.optr 0 0)), (4, s1 (jn (s.2.1.map elT) [44])), (5, s1 (jn (s.2.1.reverse.map elT) [44])), (6, .one (.osl 1 0 (wnt s.2.1).length none)), (7, i1 s.1)], [(0, some (dice L s.2.2)), (1, some ⟨Ints (wnt s.2.1), 1⟩)], 2⟩) (fun s => OrI T s.1 s.2.1) (fun s => s.1) (T, [], nxA L 0 5) ?_ ⟨by simp, fun e he => absurd he List.not_mem_nil⟩ ?_
  · (refine Imp.trans (imp_nilA _ _ 6 1 99 (by simp only []; omega) rfl) ?_)
    (refine imp_ren _ _ _ [(0, 5, dice L (nxA L 0 5)), (1, 99, ⟨[], 1⟩)] (by simp) (by simp) (by simp) (Nat.le_of_ble_eq_true rfl) ?_ rfl (by simp only [List.forall_mem_cons, List.not_mem_nil, false_implies, implies_true, and_true, St.hpF, lookR, Nat.reduceEqDiff, if_true, if_false, ↓reduceIte, dice] <;> (repeat' apply And.intro) <;> (first | rfl | trivial)) (by simp only [List.forall_mem_cons, List.not_mem_nil, false_implies, implies_true, and_true, true_and, flat_cons, flat_nil, flat_ints, flat_bools, flat_app, Cell.refs, and_self, eq_self_iff_true, List.append_nil, dice]); simp only [List.map_cons, List.map_nil, List.forall_mem_cons, List.not_mem_nil, false_implies, implies_true, and_true, lk, slot, SV.ren, Cell.ren, toN, Nat.reduceEqDiff, if_true, if_false, ↓reduceIte, reduceCtorEq])
    all_goals ((repeat' apply And.intro) <;> (first | rfl | trivial))
  clear n1 r1
  rintro ⟨n, es, j⟩ hI
  simp only at hI ⊢
  have hok := hI.ok
  have hk : ∀ e ∈ es, ElOk e := fun e he => (hok e he).ok
  have htt := hI.t
  cases n with
  | zero =>
    obtain ⟨p1, p2, p3, hw0⟩ := order_end L es (fun h => by rw [h] at htt; simp at htt; omega) hok (by omega)
    have hwl := wnt_len es hok
    have p4 := rsorted_spec (wnt es) none (by omega)
    have hU : uniS (es.map elP) = srt (wnt es) := rfl
    rw [hU] at p1 p2
    have hul : (srt (wnt es)).length ≤ 100 := by
      have := asc_len (srt (wnt es)) 0 40 (srt_asc _) (fun y hy => by
        rw [← hU, uniS_mem] at hy
        obtain ⟨p, hp, h1, h2⟩ := hy
        obtain ⟨e, he, rfl⟩ := List.mem_map.1 hp
        have ho := hok e he
        rw [ho.p] at h1 h2
        simp only at h1 h2
        have := ho.a; have := ho.b
        omega)
      omega
    have p5 := same_spec (srt (wnt es)) (srt (wnt es)) none none (by omega)
    generalize srt (wnt es) = U at *
    generalize wnt es = Wn at *
    generalize jn (es.map elT) [44] = S1 at *
    generalize jn (es.reverse.map elT) [44] = S2 at *
    have c : ¬ (0 : Int) < ((0 : Nat) : Int) := by decide
    simp only [go_sem, Nat.reduceEqDiff, Nat.reduceAdd, Nat.reduceSub, Nat.reduceMul, Nat.reduceLT, Nat.reduceLeDiff, ↓reduceIte, reduceCtorEq, List.reduceReplicate, Int.cast_ofNat_Int, Int.reduceEq, Int.reduceLT, Int.reduceLE, lendO]
    repeat' (first
    | ((first | refine s1_id ?_ | refine swp_id ?_ | refine sops_id ?_ | refine s2_id ?_); simp only [lendO, go_sem, Nat.reduceEqDiff, Nat.reduceAdd, Nat.reduceSub, Nat.reduceMul, Nat.reduceLT, Nat.reduceLeDiff, ↓reduceIte, reduceCtorEq, List.reduceReplicate, Int.cast_ofNat_Int, Int.reduceEq, Int.reduceLT, Int.reduceLE, SV.ren, SV.renL, Cell.ren, Row.ren, renO, bk, back, outUpsFrom, Ints_ren]))
    (refine rgf_t _ (imp_frz _ _ 1 ⟨Ints Wn, 1⟩ (by simp only [St.hpF, lookR, Nat.reduceEqDiff, if_true, if_false, ↓reduceIte]) (by first | exact Ints_isG _ | exact Bools_isG _ | (simp [Cell.isG]; done))) ?_; simp only [frzTm, SV.frz, SV.frzL, Cell.frz, frzHp, frzO, Ints_frz, Bools_frz, List.map_cons, List.map_nil, Nat.reduceEqDiff, if_true, if_false, ↓reduceIte])
    simp only [go_sem, Nat.reduceEqDiff, Nat.reduceAdd, Nat.reduceSub, Nat.reduceMul, Nat.reduceLT, Nat.reduceLeDiff, ↓reduceIte, reduceCtorEq, List.reduceReplicate, Int.cast_ofNat_Int, Int.reduceEq, Int.reduceLT, Int.reduceLE, lendO]
    repeat' (first
    | with_reducible refine And.intro ?_ ?_
    | (intros; (try simp only [Bool.and_eq_true, Bool.or_eq_true, Bool.not_eq_true', Bool.not_eq_false', Bool.and_eq_false_iff, Bool.or_eq_false_iff, decide_eq_true_eq, decide_eq_false_iff_not] at *); omega)
    | (apply cg_tp
       case hl => rfl
       case ha => (simp only [List.map_cons, List.map_nil, prepV, prepC, idx, hpL', lookR, Nat.reduceEqDiff, if_true, if_false]; rfl)
       case hs => rfl
       case h => (first | exact p1 .. | exact p2 .. | exact p3 .. | exact p4 .. | exact p5 .. | exact sane_spec ..))
    | (apply cl_plain
       case hs => rfl
       case ha => (simp only [List.map_cons, List.map_nil, prepV, prepC, idx, hpL', lookR, Nat.reduceEqDiff, if_true, if_false]; rfl)
       case h => (first | exact p1 .. | exact p2 .. | exact p3 .. | exact p4 .. | exact p5 .. | exact sane_spec ..))
    | ((first | refine s1_id ?_ | refine swp_id ?_ | refine sops_id ?_ | refine s2_id ?_); simp only [lendO, go_sem, Nat.reduceEqDiff, Nat.reduceAdd, Nat.reduceSub, Nat.reduceMul, Nat.reduceLT, Nat.reduceLeDiff, ↓reduceIte, reduceCtorEq, List.reduceReplicate, Int.cast_ofNat_Int, Int.reduceEq, Int.reduceLT, Int.reduceLE, SV.ren, SV.renL, Cell.ren, Row.ren, renO, bk, back, outUpsFrom, Ints_ren])
    | (apply fs_nil <;> (try simp only [go_sem, resV, resS, SV.ren, SV.renL, Cell.ren, St.tmF, St.hpF, idx, renO, Row.ren, evS, slot, lookR, Nat.reduceEqDiff, ↓reduceIte, reduceCtorEq, if_true, if_false, Option.getD_some, Option.getD_none, List.map_cons, List.map_nil, sLoad, readAt, readNeed, Ints_ren, Ints_length, Ints_getD, and_true, true_and, List.getD_cons_zero, List.getD_cons_succ]) <;> (try rfl)))
  | succ n =>
  have c : (0 : Int) < ((n + 1 : Nat) : Int) := by omega
  have n1 := next_spec L j 30 hl hr (by decide)
  have r1 := nx_lt L j 30 (by decide)
  obtain ⟨a, ha, ha30⟩ : ∃ a : Nat, nxV L j 30 = a ∧ a < 30 := ⟨(nxV L j 30).toNat, by omega, by omega⟩
  rw [ha] at n1
  generalize nxA L j 30 = j1 at *
  have n2 := next_spec L j1 6 hl hr (by decide)
  have r2 := nx_lt L j1 6 (by decide)
  obtain ⟨q, hq, hq6⟩ : ∃ q : Nat, nxV L j1 6 = q ∧ q < 6 := ⟨(nxV L j1 6).toNat, by omega, by omega⟩
  rw [hq] at n2
  generalize nxA L j1 6 = j2 at *
  have n3 := bool_spec L j2 2 hl hr (by decide)
  have d1 := decimal_spec a (by omega)
  obtain ⟨b, hb⟩ : ∃ b, b = a + q := ⟨_, rfl⟩
  have hbi : (a : Int) + (q : Int) = (b : Int) := by omega
  have d2 := decimal_spec b (by omega)
  have la := dec_len a (by omega)
  have lb := dec_len b (by omega)
  have hsl := jn_lenB (es.map elT) 44 5 fun p hp => by
    obtain ⟨e, he, rfl⟩ := List.mem_map.1 hp
    exact elT_len e (hk e he)
  have hsl2 := jn_lenB (es.reverse.map elT) 44 5 fun p hp => by
    obtain ⟨e, he, rfl⟩ := List.mem_map.1 hp
    exact elT_len e (hk e (List.mem_reverse.1 he))
  rw [List.length_map] at hsl hsl2
  rw [List.length_reverse] at hsl2
  have hwl := wnt_len es hok
  have hnil := jn_nil es hk
  by_cases hes : es = []
  · have hS0 := hnil.2 hes
    have hS0r : jn (es.reverse.map elT) [44] = [] := by rw [hes]; rfl
    by_cases hba : (a : Int) < (b : Int)
    · obtain ⟨e, he⟩ : ∃ e : El, e = (a, b, true) := ⟨_, rfl⟩
      have hoe : OrE e := by rw [he]; exact ⟨ha30, by show b ≤ a + 5; omega, by show a ≤ b; omega, fun h => by cases h⟩
      have hx : elT e = dec a ++ 45 :: dec b := by rw [he]; rfl
      have hS1 : jn ((es ++ [e]).map elT) [44] = dec a ++ 45 :: dec b := by rw [hes, List.nil_append, List.map_cons, List.map_nil, jn_oneS, hx]
      have hS2 : jn ((es ++ [e]).reverse.map elT) [44] = dec a ++ 45 :: dec b := by rw [hes, List.nil_append, List.reverse_singleton, List.map_cons, List.map_nil, jn_oneS, hx]
      simp only [go_sem, Nat.reduceEqDiff, Nat.reduceAdd, Nat.reduceSub, Nat.reduceMul, Nat.reduceLT, Nat.reduceLeDiff, ↓reduceIte, reduceCtorEq, List.reduceReplicate, Int.cast_ofNat_Int, Int.reduceEq, Int.reduceLT, Int.reduceLE, decide_eq_true c, lendO, hbi, decide_eq_true hba, decide_eq_true hS0]
      repeat' (first
    | with_reducible refine And.intro ?_ ?_
    | (intros; (try simp only [Bool.and_eq_true, Bool.or_eq_true, Bool.not_eq_true', Bool.not_eq_false', Bool.and_eq_false_iff, Bool.or_eq_false_iff, decide_eq_true_eq, decide_eq_false_iff_not] at *); omega)
    | (apply cl_plain
       case hs => rfl
       case ha => (simp only [List.map_cons, List.map_nil, prepV, prepC, idx, hpL', lookR, Nat.reduceEqDiff, if_true, if_false]; rfl)
       case h => (first | exact n1 .. | exact n2 .. | exact d1 .. | exact d2 ..))
    | (apply cl_lend
       case hr => (simp only [List.map_cons, List.map_nil, hpL', lookR, Nat.reduceEqDiff, if_true, if_false]; first | exact map1 _ | exact map2 _ _ | exact map3 _ _ _)
       case ha => (simp only [List.map_cons, List.map_nil, prepV, prepC, idx, hpL', lookR, Nat.reduceEqDiff, if_true, if_false]; rfl)
       case hs => rfl
       case hn => decide
       case h => (first | exact n1 .. | exact n2 .. | exact d1 .. | exact d2 ..)
       case hf => (simp only [List.forall_mem_cons, List.not_mem_nil, false_implies, implies_true, and_true, true_and, flat_cons, flat_nil, flat_ints, flat_bools, flat_app, Cell.refs, and_self, eq_self_iff_true, List.append_nil])
       case hl => (simp only [List.length_cons, List.length_nil]; decide))
    | ((first | refine s1_id ?_ | refine swp_id ?_ | refine sops_id ?_ | refine s2_id ?_); simp only [decide_eq_true c, lendO, hbi, decide_eq_true hba, decide_eq_true hS0, List.flatten_cons, List.flatten_nil, List.append_nil, List.cons_append, List.nil_append, List.set_cons_zero, List.set_cons_succ, List.take_succ_cons, List.take_zero, List.take_nil, List.length_cons, List.length_nil, List.append_assoc, go_sem, Nat.reduceEqDiff, Nat.reduceAdd, Nat.reduceSub, Nat.reduceMul, Nat.reduceLT, Nat.reduceLeDiff, ↓reduceIte, reduceCtorEq, List.reduceReplicate, Int.cast_ofNat_Int, Int.reduceEq, Int.reduceLT, Int.reduceLE, SV.ren, SV.renL, Cell.ren, Row.ren, renO, bk, back, outUpsFrom, Ints_ren]))
      refine w_loop (ι := Nat) (fun m => ⟨[(3, .one (.optr 0 0)), (4, s1 (jn ((es ++ [e]).map elT) [44])), (5, s1 (jn ((es ++ [e]).reverse.map elT) [44])), (6, .one (.osl 1 0 ((wnt es).length + m) none)), (7, i1 ((n + 1 : Nat) : Int)), (9, i1 b), (11, i1 ((a + m : Nat) : Int))], [(0, some (dice L j2)), (1, some ⟨Ints (wnt es ++ (List.range m).map fun (t : Nat) => (a : Int) + t), 1⟩)], 2⟩) (fun m => m ≤ b + 1 - a) (fun m => b + 1 - a - m) 0 ?_ (Nat.zero_le _) ?_
      · rw [hS1, hS2]
        (refine imp_ren _ _ _ [(0, 0, dice L j2), (1, 1, ⟨Ints (wnt es ++ (List.range 0).map fun (t : Nat) => (a : Int) + t), 1⟩)] (by simp) (by simp) (by simp) (Nat.le_of_ble_eq_true rfl) ?_ rfl (by simp only [List.forall_mem_cons, List.not_mem_nil, false_implies, implies_true, and_true, St.hpF, lookR, Nat.reduceEqDiff, if_true, if_false, ↓reduceIte, dice, List.range_zero, List.map_nil, List.append_nil] <;> (repeat' apply And.intro) <;> (first | rfl | trivial)) (by simp only [List.forall_mem_cons, List.not_mem_nil, false_implies, implies_true, and_true, true_and, flat_cons, flat_nil, flat_ints, flat_bools, flat_app, Cell.refs, and_self, eq_self_iff_true, List.append_nil, dice, List.range_zero, List.map_nil, List.append_nil]); simp only [List.map_cons, List.map_nil, List.forall_mem_cons, List.not_mem_nil, false_implies, implies_true, and_true, lk, slot, SV.ren, Cell.ren, toN, Nat.reduceEqDiff, if_true, if_false, ↓reduceIte, reduceCtorEq])
        all_goals try ((repeat' apply And.intro) <;> (first | rfl | trivial | (simp only [List.range_zero, List.map_nil, List.append_nil, Nat.add_zero, List.append_assoc, List.cons_append]; done) | (simp only [List.range_zero, List.map_nil, List.append_nil, Nat.add_zero, List.append_assoc, List.cons_append]; rfl) | (simp only [List.range_zero, List.map_nil, List.append_nil, Nat.add_zero, List.append_assoc, List.cons_append]; trivial)))
      intro m hm
      simp only at hm ⊢
      by_cases hmb : a + m ≤ b
      · have cm : ((a + m : Nat) : Int) ≤ (b : Int) := by omega
        have hp2 : (wnt es ++ (List.range m).map fun (t : Nat) => (a : Int) + t) ++ [((a + m : Nat) : Int)] = wnt es ++ (List.range (m + 1)).map fun (t : Nat) => (a : Int) + t := by
          rw [List.range_succ, List.map_append, ← List.append_assoc]
          simp
        have ht2 : List.take ((wnt es).length + m) (wnt es ++ (List.range m).map fun (t : Nat) => (a : Int) + t) = wnt es ++ (List.range m).map fun (t : Nat) => (a : Int) + t := List.take_of_length_le (by simp)
        have hpp : Ints (wnt es ++ (List.range m).map fun (t : Nat) => (a : Int) + t) ++ [int ((a + m : Nat) : Int)] = Ints (wnt es ++ (List.range (m + 1)).map fun (t : Nat) => (a : Int) + t) := by
          rw [List.range_succ, List.map_append, ← List.append_assoc]
          simp [Ints]
        have hta : List.take ((wnt es).length + m) (Ints (wnt es ++ (List.range m).map fun (t : Nat) => (a : Int) + t)) = Ints (wnt es ++ (List.range m).map fun (t : Nat) => (a : Int) + t) := List.take_of_length_le (by rw [Ints_length]; simp)
        simp only [go_sem, Nat.reduceEqDiff, Nat.reduceAdd, Nat.reduceSub, Nat.reduceMul, Nat.reduceLT, Nat.reduceLeDiff, ↓reduceIte, reduceCtorEq, List.reduceReplicate, Int.cast_ofNat_Int, Int.reduceEq, Int.reduceLT, Int.reduceLE, decide_eq_true cm, lendO]
        repeat' (first
    | with_reducible refine And.intro ?_ ?_
    | (intros; (try simp only [Bool.and_eq_true, Bool.or_eq_true, Bool.not_eq_true', Bool.not_eq_false', Bool.and_eq_false_iff, Bool.or_eq_false_iff, decide_eq_true_eq, decide_eq_false_iff_not] at *); omega)
    | ((first | refine s1_id ?_ | refine swp_id ?_ | refine sops_id ?_ | refine s2_id ?_); simp only [decide_eq_true cm, lendO, hp2, ht2, hpp, hta, List.flatten_cons, List.flatten_nil, List.append_nil, List.cons_append, List.nil_append, List.set_cons_zero, List.set_cons_succ, List.take_succ_cons, List.take_zero, List.take_nil, List.length_cons, List.length_nil, go_sem, Nat.reduceEqDiff, Nat.reduceAdd, Nat.reduceSub, Nat.reduceMul, Nat.reduceLT, Nat.reduceLeDiff, ↓reduceIte, reduceCtorEq, List.reduceReplicate, Int.cast_ofNat_Int, Int.reduceEq, Int.reduceLT, Int.reduceLE, SV.ren, SV.renL, Cell.ren, Row.ren, renO, bk, back, outUpsFrom, Ints_ren]))
        all_goals try (rw [List.length_map, List.length_range]; exact Nat.le_refl _)
        refine le_mk (m + 1) ?_ (by omega) (by omega)
        have e1 : ((a + (m + 1) : Nat) : Int) = ((a + m : Nat) : Int) + 1 := by omega
        (refine imp_ren _ _ _ [(0, 0, dice L j2), (1, 8, ⟨Ints (wnt es ++ (List.range (m + 1)).map fun (t : Nat) => (a : Int) + t), 1⟩)] (by simp) (by simp) (by simp) (Nat.le_of_ble_eq_true rfl) ?_ rfl (by simp only [List.forall_mem_cons, List.not_mem_nil, false_implies, implies_true, and_true, St.hpF, lookR, Nat.reduceEqDiff, if_true, if_false, ↓reduceIte, dice, ht2, hp2] <;> (repeat' apply And.intro) <;> (first | rfl | trivial)) (by simp only [List.forall_mem_cons, List.not_mem_nil, false_implies, implies_true, and_true, true_and, flat_cons, flat_nil, flat_ints, flat_bools, flat_app, Cell.refs, and_self, eq_self_iff_true, List.append_nil, dice, ht2, hp2]); simp only [List.map_cons, List.map_nil, List.forall_mem_cons, List.not_mem_nil, false_implies, implies_true, and_true, lk, slot, SV.ren, Cell.ren, toN, Nat.reduceEqDiff, if_true, if_false, ↓reduceIte, reduceCtorEq])
        all_goals ((repeat' apply And.intro) <;> (first | rfl | trivial | (simp only [e1, Nat.add_assoc]; done) | (simp only [e1, Nat.add_assoc]; rfl) | (simp only [e1, Nat.add_assoc]; trivial)))
      · have cm : ¬ ((a + m : Nat) : Int) ≤ (b : Int) := by omega
        have hmm : m = b + 1 - a := by omega
        have hw2 : wnt (es ++ [e]) = wnt es ++ (List.range m).map fun (t : Nat) => (a : Int) + t := by
            have hee : (((e.1 : Nat) : Int), ((e.2.1 : Nat) : Int)) = ((a : Int), (b : Int)) := by rw [he]
            rw [wnt_snoc, hoe.p, hee, rng_take a b m hmm]
        have hwl2 : (wnt es).length + m = (wnt (es ++ [e])).length := by rw [hw2]; simp
        have e2 : ((n + 1 : Nat) : Int) - 1 = (n : Int) := by omega
        rw [← hw2, hwl2]
        simp only [go_sem, Nat.reduceEqDiff, Nat.reduceAdd, Nat.reduceSub, Nat.reduceMul, Nat.reduceLT, Nat.reduceLeDiff, ↓reduceIte, reduceCtorEq, List.reduceReplicate, Int.cast_ofNat_Int, Int.reduceEq, Int.reduceLT, Int.reduceLE, decide_eq_false cm, lendO, e2]
        repeat' (first
    | with_reducible refine And.intro ?_ ?_
    | (intros; (try simp only [Bool.and_eq_true, Bool.or_eq_true, Bool.not_eq_true', Bool.not_eq_false', Bool.and_eq_false_iff, Bool.or_eq_false_iff, decide_eq_true_eq, decide_eq_false_iff_not] at *); omega)
    | ((first | refine s1_id ?_ | refine swp_id ?_ | refine sops_id ?_ | refine s2_id ?_); simp only [decide_eq_false cm, lendO, e2, go_sem, Nat.reduceEqDiff, Nat.reduceAdd, Nat.reduceSub, Nat.reduceMul, Nat.reduceLT, Nat.reduceLeDiff, ↓reduceIte, reduceCtorEq, List.reduceReplicate, Int.cast_ofNat_Int, Int.reduceEq, Int.reduceLT, Int.reduceLE, SV.ren, SV.renL, Cell.ren, Row.ren, renO, bk, back, outUpsFrom, Ints_ren]))
        refine le_mk (n, es ++ [e], j2) ?_ (hI.snoc hoe) (Nat.lt_succ_self n)
        (refine imp_ren _ _ _ [(0, 0, dice L j2), (1, 1, ⟨Ints (wnt (es ++ [e])), 1⟩)] (by simp) (by simp) (by simp) (Nat.le_of_ble_eq_true rfl) ?_ rfl (by simp only [List.forall_mem_cons, List.not_mem_nil, false_implies, implies_true, and_true, St.hpF, lookR, Nat.reduceEqDiff, if_true, if_false, ↓reduceIte, dice] <;> (repeat' apply And.intro) <;> (first | rfl | trivial)) (by simp only [List.forall_mem_cons, List.not_mem_nil, false_implies, implies_true, and_true, true_and, flat_cons, flat_nil, flat_ints, flat_bools, flat_app, Cell.refs, and_self, eq_self_iff_true, List.append_nil, dice]); simp only [List.map_cons, List.map_nil, List.forall_mem_cons, List.not_mem_nil, false_implies, implies_true, and_true, lk, slot, SV.ren, Cell.ren, toN, Nat.reduceEqDiff, if_true, if_false, ↓reduceIte, reduceCtorEq])
        all_goals ((repeat' apply And.intro) <;> (first | rfl | trivial | (simp only []; done) | (simp only []; rfl) | (simp only []; trivial)))
    · by_cases hbo : nxV L j2 2 = 2 - 1
      · rw [decide_eq_true hbo] at n3
        obtain ⟨e, he⟩ : ∃ e : El, e = (a, b, true) := ⟨_, rfl⟩
        have hoe : OrE e := by rw [he]; exact ⟨ha30, by show b ≤ a + 5; omega, by show a ≤ b; omega, fun h => by cases h⟩
        have hx : elT e = dec a ++ 45 :: dec b := by rw [he]; rfl
        have hS1 : jn ((es ++ [e]).map elT) [44] = dec a ++ 45 :: dec b := by rw [hes, List.nil_append, List.map_cons, List.map_nil, jn_oneS, hx]
        have hS2 : jn ((es ++ [e]).reverse.map elT) [44] = dec a ++ 45 :: dec b := by rw [hes, List.nil_append, List.reverse_singleton, List.map_cons, List.map_nil, jn_oneS, hx]
        simp only [go_sem, Nat.reduceEqDiff, Nat.reduceAdd, Nat.reduceSub, Nat.reduceMul, Nat.reduceLT, Nat.reduceLeDiff, ↓reduceIte, reduceCtorEq, List.reduceReplicate, Int.cast_ofNat_Int, Int.reduceEq, Int.reduceLT, Int.reduceLE, decide_eq_true c, lendO, hbi, decide_eq_false hba, decide_eq_true hS0]
        repeat' (first
    | with_reducible refine And.intro ?_ ?_
    | (intros; (try simp only [Bool.and_eq_true, Bool.or_eq_true, Bool.not_eq_true', Bool.not_eq_false', Bool.and_eq_false_iff, Bool.or_eq_false_iff, decide_eq_true_eq, decide_eq_false_iff_not] at *); omega)
    | (apply cl_plain
       case hs => rfl
       case ha => (simp only [List.map_cons, List.map_nil, prepV, prepC, idx, hpL', lookR, Nat.reduceEqDiff, if_true, if_false]; rfl)
       case h => (first | exact n1 .. | exact n2 .. | exact n3 .. | exact d1 .. | exact d2 ..))
    | (apply cl_lend
       case hr => (simp only [List.map_cons, List.map_nil, hpL', lookR, Nat.reduceEqDiff, if_true, if_false]; first | exact map1 _ | exact map2 _ _ | exact map3 _ _ _)
       case ha => (simp only [List.map_cons, List.map_nil, prepV, prepC, idx, hpL', lookR, Nat.reduceEqDiff, if_true, if_false]; rfl)
       case hs => rfl
       case hn => decide
       case h => (first | exact n1 .. | exact n2 .. | exact n3 .. | exact d1 .. | exact d2 ..)
       case hf => (simp only [List.forall_mem_cons, List.not_mem_nil, false_implies, implies_true, and_true, true_and, flat_cons, flat_nil, flat_ints, flat_bools, flat_app, Cell.refs, and_self, eq_self_iff_true, List.append_nil])
       case hl => (simp only [List.length_cons, List.length_nil]; decide))
    | ((first | refine s1_id ?_ | refine swp_id ?_ | refine sops_id ?_ | refine s2_id ?_); simp only [decide_eq_true c, lendO, hbi, decide_eq_false hba, decide_eq_true hS0, List.flatten_cons, List.flatten_nil, List.append_nil, List.cons_append, List.nil_append, List.set_cons_zero, List.set_cons_succ, List.take_succ_cons, List.take_zero, List.take_nil, List.length_cons, List.length_nil, List.append_assoc, go_sem, Nat.reduceEqDiff, Nat.reduceAdd, Nat.reduceSub, Nat.reduceMul, Nat.reduceLT, Nat.reduceLeDiff, ↓reduceIte, reduceCtorEq, List.reduceReplicate, Int.cast_ofNat_Int, Int.reduceEq, Int.reduceLT, Int.reduceLE, SV.ren, SV.renL, Cell.ren, Row.ren, renO, bk, back, outUpsFrom, Ints_ren]))
        refine w_loop (ι := Nat) (fun m => ⟨[(3, .one (.optr 0 0)), (4, s1 (jn ((es ++ [e]).map elT) [44])), (5, s1 (jn ((es ++ [e]).reverse.map elT) [44])), (6, .one (.osl 1 0 ((wnt es).length + m) none)), (7, i1 ((n + 1 : Nat) : Int)), (9, i1 b), (11, i1 ((a + m : Nat) : Int))], [(0, some (dice L (nxA L j2 2))), (1, some ⟨Ints (wnt es ++ (List.range m).map fun (t : Nat) => (a : Int) + t), 1⟩)], 2⟩) (fun m => m ≤ b + 1 - a) (fun m => b + 1 - a - m) 0 ?_ (Nat.zero_le _) ?_
        · rw [hS1, hS2]
          (refine imp_ren _ _ _ [(0, 0, dice L (nxA L j2 2)), (1, 1, ⟨Ints (wnt es ++ (List.range 0).map fun (t : Nat) => (a : Int) + t), 1⟩)] (by simp) (by simp) (by simp) (Nat.le_of_ble_eq_true rfl) ?_ rfl (by simp only [List.forall_mem_cons, List.not_mem_nil, false_implies, implies_true, and_true, St.hpF, lookR, Nat.reduceEqDiff, if_true, if_false, ↓reduceIte, dice, List.range_zero, List.map_nil, List.append_nil] <;> (repeat' apply And.intro) <;> (first | rfl | trivial)) (by simp only [List.forall_mem_cons, List.not_mem_nil, false_implies, implies_true, and_true, true_and, flat_cons, flat_nil, flat_ints, flat_bools, flat_app, Cell.refs, and_self, eq_self_iff_true, List.append_nil, dice, List.range_zero, List.map_nil, List.append_nil]); simp only [List.map_cons, List.map_nil, List.forall_mem_cons, List.not_mem_nil, false_implies, implies_true, and_true, lk, slot, SV.ren, Cell.ren, toN, Nat.reduceEqDiff, if_true, if_false, ↓reduceIte, reduceCtorEq])
          all_goals try ((repeat' apply And.intro) <;> (first | rfl | trivial | (simp only [List.range_zero, List.map_nil, List.append_nil, Nat.add_zero, List.append_assoc, List.cons_append]; done) | (simp only [List.range_zero, List.map_nil, List.append_nil, Nat.add_zero, List.append_assoc, List.cons_append]; rfl) | (simp only [List.range_zero, List.map_nil, List.append_nil, Nat.add_zero, List.append_assoc, List.cons_append]; trivial)))
        intro m hm
        simp only at hm ⊢
        by_cases hmb : a + m ≤ b
        · have cm : ((a + m : Nat) : Int) ≤ (b : Int) := by omega
          have hp2 : (wnt es ++ (List.range m).map fun (t : Nat) => (a : Int) + t) ++ [((a + m : Nat) : Int)] = wnt es ++ (List.range (m + 1)).map fun (t : Nat) => (a : Int) + t := by
            rw [List.range_succ, List.map_append, ← List.append_assoc]
            simp
          have ht2 : List.take ((wnt es).length + m) (wnt es ++ (List.range m).map fun (t : Nat) => (a : Int) + t) = wnt es ++ (List.range m).map fun (t : Nat) => (a : Int) + t := List.take_of_length_le (by simp)
          have hpp : Ints (wnt es ++ (List.range m).map fun (t : Nat) => (a : Int) + t) ++ [int ((a + m : Nat) : Int)] = Ints (wnt es ++ (List.range (m + 1)).map fun (t : Nat) => (a : Int) + t) := by
            rw [List.range_succ, List.map_append, ← List.append_assoc]
            simp [Ints]
          have hta : List.take ((wnt es).length + m) (Ints (wnt es ++ (List.range m).map fun (t : Nat) => (a : Int) + t)) = Ints (wnt es ++ (List.range m).map fun (t : Nat) => (a : Int) + t) := List.take_of_length_le (by rw [Ints_length]; simp)
          simp only [go_sem, Nat.reduceEqDiff, Nat.reduceAdd, Nat.reduceSub, Nat.reduceMul, Nat.reduceLT, Nat.reduceLeDiff, ↓reduceIte, reduceCtorEq, List.reduceReplicate, Int.cast_ofNat_Int, Int.reduceEq, Int.reduceLT, Int.reduceLE, decide_eq_true cm, lendO]
          repeat' (first
    | with_reducible refine And.intro ?_ ?_
    | (intros; (try simp only [Bool.and_eq_true, Bool.or_eq_true, Bool.not_eq_true', Bool.not_eq_false', Bool.and_eq_false_iff, Bool.or_eq_false_iff, decide_eq_true_eq, decide_eq_false_iff_not] at *); omega)
    | ((first | refine s1_id ?_ | refine swp_id ?_ | refine sops_id ?_ | refine s2_id ?_); simp only [decide_eq_true cm, lendO, hp2, ht2, hpp, hta, List.flatten_cons, List.flatten_nil, List.append_nil, List.cons_append, List.nil_append, List.set_cons_zero, List.set_cons_succ, List.take_succ_cons, List.take_zero, List.take_nil, List.length_cons, List.length_nil, go_sem, Nat.reduceEqDiff, Nat.reduceAdd, Nat.reduceSub, Nat.reduceMul, Nat.reduceLT, Nat.reduceLeDiff, ↓reduceIte, reduceCtorEq, List.reduceReplicate, Int.cast_ofNat_Int, Int.reduceEq, Int.reduceLT, Int.reduceLE, SV.ren, SV.renL, Cell.ren, Row.ren, renO, bk, back, outUpsFrom, Ints_ren]))
          all_goals try (rw [List.length_map, List.length_range]; exact Nat.le_refl _)
          refine le_mk (m + 1) ?_ (by omega) (by omega)
          have e1 : ((a + (m + 1) : Nat) : Int) = ((a + m : Nat) : Int) + 1 := by omega
          (refine imp_ren _ _ _ [(0, 0, dice L (nxA L j2 2)), (1, 8, ⟨Ints (wnt es ++ (List.range (m + 1)).map fun (t : Nat) => (a : Int) + t), 1⟩)] (by simp) (by simp) (by simp) (Nat.le_of_ble_eq_true rfl) ?_ rfl (by simp only [List.forall_mem_cons, List.not_mem_nil, false_implies, implies_true, and_true, St.hpF, lookR, Nat.reduceEqDiff, if_true, if_false, ↓reduceIte, dice, ht2, hp2] <;> (repeat' apply And.intro) <;> (first | rfl | trivial)) (by simp only [List.forall_mem_cons, List.not_mem_nil, false_implies, implies_true, and_true, true_and, flat_cons, flat_nil, flat_ints, flat_bools, flat_app, Cell.refs, and_self, eq_self_iff_true, List.append_nil, dice, ht2, hp2]); simp only [List.map_cons, List.map_nil, List.forall_mem_cons, List.not_mem_nil, false_implies, implies_true, and_true, lk, slot, SV.ren, Cell.ren, toN, Nat.reduceEqDiff, if_true, if_false, ↓reduceIte, reduceCtorEq])
          all_goals ((repeat' apply And.intro) <;> (first | rfl | trivial | (simp only [e1, Nat.add_assoc]; done) | (simp only [e1, Nat.add_assoc]; rfl) | (simp only [e1, Nat.add_assoc]; trivial)))
        · have cm : ¬ ((a + m : Nat) : Int) ≤ (b : Int) := by omega
          have hmm : m = b + 1 - a := by omega
          have hw2 : wnt (es ++ [e]) = wnt es ++ (List.range m).map fun (t : Nat) => (a : Int) + t := by
            have hee : (((e.1 : Nat) : Int), ((e.2.1 : Nat) : Int)) = ((a : Int), (b : Int)) := by rw [he]
            rw [wnt_snoc, hoe.p, hee, rng_take a b m hmm]
          have hwl2 : (wnt es).length + m = (wnt (es ++ [e])).length := by rw [hw2]; simp
          have e2 : ((n + 1 : Nat) : Int) - 1 = (n : Int) := by omega
          rw [← hw2, hwl2]
          simp only [go_sem, Nat.reduceEqDiff, Nat.reduceAdd, Nat.reduceSub, Nat.reduceMul, Nat.reduceLT, Nat.reduceLeDiff, ↓reduceIte, reduceCtorEq, List.reduceReplicate, Int.cast_ofNat_Int, Int.reduceEq, Int.reduceLT, Int.reduceLE, decide_eq_false cm, lendO, e2]
          repeat' (first
    | with_reducible refine And.intro ?_ ?_
    | (intros; (try simp only [Bool.and_eq_true, Bool.or_eq_true, Bool.not_eq_true', Bool.not_eq_false', Bool.and_eq_false_iff, Bool.or_eq_false_iff, decide_eq_true_eq, decide_eq_false_iff_not] at *); omega)
    | ((first | refine s1_id ?_ | refine swp_id ?_ | refine sops_id ?_ | refine s2_id ?_); simp only [decide_eq_false cm, lendO, e2, go_sem, Nat.reduceEqDiff, Nat.reduceAdd, Nat.reduceSub, Nat.reduceMul, Nat.reduceLT, Nat.reduceLeDiff, ↓reduceIte, reduceCtorEq, List.reduceReplicate, Int.cast_ofNat_Int, Int.reduceEq, Int.reduceLT, Int.reduceLE, SV.ren, SV.renL, Cell.ren, Row.ren, renO, bk, back, outUpsFrom, Ints_ren]))
          refine le_mk (n, es ++ [e], (nxA L j2 2)) ?_ (hI.snoc hoe) (Nat.lt_succ_self n)
          (refine imp_ren _ _ _ [(0, 0, dice L (nxA L j2 2)), (1, 1, ⟨Ints (wnt (es ++ [e])), 1⟩)] (by simp) (by simp) (by simp) (Nat.le_of_ble_eq_true rfl) ?_ rfl (by simp only [List.forall_mem_cons, List.not_mem_nil, false_implies, implies_true, and_true, St.hpF, lookR, Nat.reduceEqDiff, if_true, if_false, ↓reduceIte, dice] <;> (repeat' apply And.intro) <;> (first | rfl | trivial)) (by simp only [List.forall_mem_cons, List.not_mem_nil, false_implies, implies_true, and_true, true_and, flat_cons, flat_nil, flat_ints, flat_bools, flat_app, Cell.refs, and_self, eq_self_iff_true, List.append_nil, dice]); simp only [List.map_cons, List.map_nil, List.forall_mem_cons, List.not_mem_nil, false_implies, implies_true, and_true, lk, slot, SV.ren, Cell.ren, toN, Nat.reduceEqDiff, if_true, if_false, ↓reduceIte, reduceCtorEq])
          all_goals ((repeat' apply And.intro) <;> (first | rfl | trivial | (simp only []; done) | (simp only []; rfl) | (simp only []; trivial)))
      · rw [decide_eq_false hbo] at n3
        obtain ⟨e, he⟩ : ∃ e : El, e = (a, b, false) := ⟨_, rfl⟩
        have hoe : OrE e := by rw [he]; exact ⟨ha30, by show b ≤ a + 5; omega, by show a ≤ b; omega, fun h => by show b = a; omega⟩
        have hx : elT e = dec a := by rw [he]; rfl
        have hS1 : jn ((es ++ [e]).map elT) [44] = dec a := by rw [hes, List.nil_append, List.map_cons, List.map_nil, jn_oneS, hx]
        have hS2 : jn ((es ++ [e]).reverse.map elT) [44] = dec a := by rw [hes, List.nil_append, List.reverse_singleton, List.map_cons, List.map_nil, jn_oneS, hx]
        simp only [go_sem, Nat.reduceEqDiff, Nat.reduceAdd, Nat.reduceSub, Nat.reduceMul, Nat.reduceLT, Nat.reduceLeDiff, ↓reduceIte, reduceCtorEq, List.reduceReplicate, Int.cast_ofNat_Int, Int.reduceEq, Int.reduceLT, Int.reduceLE, decide_eq_true c, lendO, hbi, decide_eq_false hba, decide_eq_true hS0]
        repeat' (first
    | with_reducible refine And.intro ?_ ?_
    | (intros; (try simp only [Bool.and_eq_true, Bool.or_eq_true, Bool.not_eq_true', Bool.not_eq_false', Bool.and_eq_false_iff, Bool.or_eq_false_iff, decide_eq_true_eq, decide_eq_false_iff_not] at *); omega)
    | (apply cl_plain
       case hs => rfl
       case ha => (simp only [List.map_cons, List.map_nil, prepV, prepC, idx, hpL', lookR, Nat.reduceEqDiff, if_true, if_false]; rfl)
       case h => (first | exact n1 .. | exact n2 .. | exact n3 .. | exact d1 .. | exact d2 ..))
    | (apply cl_lend
       case hr => (simp only [List.map_cons, List.map_nil, hpL', lookR, Nat.reduceEqDiff, if_true, if_false]; first | exact map1 _ | exact map2 _ _ | exact map3 _ _ _)
       case ha => (simp only [List.map_cons, List.map_nil, prepV, prepC, idx, hpL', lookR, Nat.reduceEqDiff, if_true, if_false]; rfl)
       case hs => rfl
       case hn => decide
       case h => (first | exact n1 .. | exact n2 .. | exact n3 .. | exact d1 .. | exact d2 ..)
       case hf => (simp only [List.forall_mem_cons, List.not_mem_nil, false_implies, implies_true, and_true, true_and, flat_cons, flat_nil, flat_ints, flat_bools, flat_app, Cell.refs, and_self, eq_self_iff_true, List.append_nil])
       case hl => (simp only [List.length_cons, List.length_nil]; decide))
    | ((first | refine s1_id ?_ | refine swp_id ?_ | refine sops_id ?_ | refine s2_id ?_); simp only [decide_eq_true c, lendO, hbi, decide_eq_false hba, decide_eq_true hS0, List.flatten_cons, List.flatten_nil, List.append_nil, List.cons_append, List.nil_append, List.set_cons_zero, List.set_cons_succ, List.take_succ_cons, List.take_zero, List.take_nil, List.length_cons, List.length_nil, List.append_assoc, go_sem, Nat.reduceEqDiff, Nat.reduceAdd, Nat.reduceSub, Nat.reduceMul, Nat.reduceLT, Nat.reduceLeDiff, ↓reduceIte, reduceCtorEq, List.reduceReplicate, Int.cast_ofNat_Int, Int.reduceEq, Int.reduceLT, Int.reduceLE, SV.ren, SV.renL, Cell.ren, Row.ren, renO, bk, back, outUpsFrom, Ints_ren]))
        refine w_loop (ι := Nat) (fun m => ⟨[(3, .one (.optr 0 0)), (4, s1 (jn ((es ++ [e]).map elT) [44])), (5, s1 (jn ((es ++ [e]).reverse.map elT) [44])), (6, .one (.osl 1 0 ((wnt es).length + m) none)), (7, i1 ((n + 1 : Nat) : Int)), (9, i1 b), (11, i1 ((a + m : Nat) : Int))], [(0, some (dice L (nxA L j2 2))), (1, some ⟨Ints (wnt es ++ (List.range m).map fun (t : Nat) => (a : Int) + t), 1⟩)], 2⟩) (fun m => m ≤ b + 1 - a) (fun m => b + 1 - a - m) 0 ?_ (Nat.zero_le _) ?_
        · rw [hS1, hS2]
          (refine imp_ren _ _ _ [(0, 0, dice L (nxA L j2 2)), (1, 1, ⟨Ints (wnt es ++ (List.range 0).map fun (t : Nat) => (a : Int) + t), 1⟩)] (by simp) (by simp) (by simp) (Nat.le_of_ble_eq_true rfl) ?_ rfl (by simp only [List.forall_mem_cons, List.not_mem_nil, false_implies, implies_true, and_true, St.hpF, lookR, Nat.reduceEqDiff, if_true, if_false, ↓reduceIte, dice, List.range_zero, List.map_nil, List.append_nil] <;> (repeat' apply And.intro) <;> (first | rfl | trivial)) (by simp only [List.forall_mem_cons, List.not_mem_nil, false_implies, implies_true, and_true, true_and, flat_cons, flat_nil, flat_ints, flat_bools, flat_app, Cell.refs, and_self, eq_self_iff_true, List.append_nil, dice, List.range_zero, List.map_nil, List.append_nil]); simp only [List.map_cons, List.map_nil, List.forall_mem_cons, List.not_mem_nil, false_implies, implies_true, and_true, lk, slot, SV.ren, Cell.ren, toN, Nat.reduceEqDiff, if_true, if_false, ↓reduceIte, reduceCtorEq])
          all_goals try ((repeat' apply And.intro) <;> (first | rfl | trivial | (simp only [List.range_zero, List.map_nil, List.append_nil, Nat.add_zero, List.append_assoc, List.cons_append]; done) | (simp only [List.range_zero, List.map_nil, List.append_nil, Nat.add_zero, List.append_assoc, List.cons_append]; rfl) | (simp only [List.range_zero, List.map_nil, List.append_nil, Nat.add_zero, List.append_assoc, List.cons_append]; trivial)))
        intro m hm
        simp only at hm ⊢
        by_cases hmb : a + m ≤ b
        · have cm : ((a + m : Nat) : Int) ≤ (b : Int) := by omega
          have hp2 : (wnt es ++ (List.range m).map fun (t : Nat) => (a : Int) + t) ++ [((a + m : Nat) : Int)] = wnt es ++ (List.range (m + 1)).map fun (t : Nat) => (a : Int) + t := by
            rw [List.range_succ, List.map_append, ← List.append_assoc]
            simp
          have ht2 : List.take ((wnt es).length + m) (wnt es ++ (List.range m).map fun (t : Nat) => (a : Int) + t) = wnt es ++ (List.range m).map fun (t : Nat) => (a : Int) + t := List.take_of_length_le (by simp)
          have hpp : Ints (wnt es ++ (List.range m).map fun (t : Nat) => (a : Int) + t) ++ [int ((a + m : Nat) : Int)] = Ints (wnt es ++ (List.range (m + 1)).map fun (t : Nat) => (a : Int) + t) := by
            rw [List.range_succ, List.map_append, ← List.append_assoc]
            simp [Ints]
          have hta : List.take ((wnt es).length + m) (Ints (wnt es ++ (List.range m).map fun (t : Nat) => (a : Int) + t)) = Ints (wnt es ++ (List.range m).map fun (t : Nat) => (a : Int) + t) := List.take_of_length_le (by rw [Ints_length]; simp)
          simp only [go_sem, Nat.reduceEqDiff, Nat.reduceAdd, Nat.reduceSub, Nat.reduceMul, Nat.reduceLT, Nat.reduceLeDiff, ↓reduceIte, reduceCtorEq, List.reduceReplicate, Int.cast_ofNat_Int, Int.reduceEq, Int.reduceLT, Int.reduceLE, decide_eq_true cm, lendO]
          repeat' (first
    | with_reducible refine And.intro ?_ ?_
    | (intros; (try simp only [Bool.and_eq_true, Bool.or_eq_true, Bool.not_eq_true', Bool.not_eq_false', Bool.and_eq_false_iff, Bool.or_eq_false_iff, decide_eq_true_eq, decide_eq_false_iff_not] at *); omega)
    | ((first | refine s1_id ?_ | refine swp_id ?_ | refine sops_id ?_ | refine s2_id ?_); simp only [decide_eq_true cm, lendO, hp2, ht2, hpp, hta, List.flatten_cons, List.flatten_nil, List.append_nil, List.cons_append, List.nil_append, List.set_cons_zero, List.set_cons_succ, List.take_succ_cons, List.take_zero, List.take_nil, List.length_cons, List.length_nil, go_sem, Nat.reduceEqDiff, Nat.reduceAdd, Nat.reduceSub, Nat.reduceMul, Nat.reduceLT, Nat.reduceLeDiff, ↓reduceIte, reduceCtorEq, List.reduceReplicate, Int.cast_ofNat_Int, Int.reduceEq, Int.reduceLT, Int.reduceLE, SV.ren, SV.renL, Cell.ren, Row.ren, renO, bk, back, outUpsFrom, Ints_ren]))
          all_goals try (rw [List.length_map, List.length_range]; exact Nat.le_refl _)
          refine le_mk (m + 1) ?_ (by omega) (by omega)
          have e1 : ((a + (m + 1) : Nat) : Int) = ((a + m : Nat) : Int) + 1 := by omega
          (refine imp_ren _ _ _ [(0, 0, dice L (nxA L j2 2)), (1, 8, ⟨Ints (wnt es ++ (List.range (m + 1)).map fun (t : Nat) => (a : Int) + t), 1⟩)] (by simp) (by simp) (by simp) (Nat.le_of_ble_eq_true rfl) ?_ rfl (by simp only [List.forall_mem_cons, List.not_mem_nil, false_implies, implies_true, and_true, St.hpF, lookR, Nat.reduceEqDiff, if_true, if_false, ↓reduceIte, dice, ht2, hp2] <;> (repeat' apply And.intro) <;> (first | rfl | trivial)) (by simp only [List.forall_mem_cons, List.not_mem_nil, false_implies, implies_true, and_true, true_and, flat_cons, flat_nil, flat_ints, flat_bools, flat_app, Cell.refs, and_self, eq_self_iff_true, List.append_nil, dice, ht2, hp2]); simp only [List.map_cons, List.map_nil, List.forall_mem_cons, List.not_mem_nil, false_implies, implies_true, and_true, lk, slot, SV.ren, Cell.ren, toN, Nat.reduceEqDiff, if_true, if_false, ↓reduceIte, reduceCtorEq])
          all_goals ((repeat' apply And.intro) <;> (first | rfl | trivial | (simp only [e1, Nat.add_assoc]; done) | (simp only [e1, Nat.add_assoc]; rfl) | (simp only [e1, Nat.add_assoc]; trivial)))
        · have cm : ¬ ((a + m : Nat) : Int) ≤ (b : Int) := by omega
          have hmm : m = b + 1 - a := by omega
          have hw2 : wnt (es ++ [e]) = wnt es ++ (List.range m).map fun (t : Nat) => (a : Int) + t := by
            have hee : (((e.1 : Nat) : Int), ((e.2.1 : Nat) : Int)) = ((a : Int), (b : Int)) := by rw [he]
            rw [wnt_snoc, hoe.p, hee, rng_take a b m hmm]
          have hwl2 : (wnt es).length + m = (wnt (es ++ [e])).length := by rw [hw2]; simp
          have e2 : ((n + 1 : Nat) : Int) - 1 = (n : Int) := by omega
          rw [← hw2, hwl2]
          simp only [go_sem, Nat.reduceEqDiff, Nat.reduceAdd, Nat.reduceSub, Nat.reduceMul, Nat.reduceLT, Nat.reduceLeDiff, ↓reduceIte, reduceCtorEq, List.reduceReplicate, Int.cast_ofNat_Int, Int.reduceEq, Int.reduceLT, Int.reduceLE, decide_eq_false cm, lendO, e2]
          repeat' (first
    | with_reducible refine And.intro ?_ ?_
    | (intros; (try simp only [Bool.and_eq_true, Bool.or_eq_true, Bool.not_eq_true', Bool.not_eq_false', Bool.and_eq_false_iff, Bool.or_eq_false_iff, decide_eq_true_eq, decide_eq_false_iff_not] at *); omega)
    | ((first | refine s1_id ?_ | refine swp_id ?_ | refine sops_id ?_ | refine s2_id ?_); simp only [decide_eq_false cm, lendO, e2, go_sem, Nat.reduceEqDiff, Nat.reduceAdd, Nat.reduceSub, Nat.reduceMul, Nat.reduceLT, Nat.reduceLeDiff, ↓reduceIte, reduceCtorEq, List.reduceReplicate, Int.cast_ofNat_Int, Int.reduceEq, Int.reduceLT, Int.reduceLE, SV.ren, SV.renL, Cell.ren, Row.ren, renO, bk, back, outUpsFrom, Ints_ren]))
          refine le_mk (n, es ++ [e], (nxA L j2 2)) ?_ (hI.snoc hoe) (Nat.lt_succ_self n)
          (refine imp_ren _ _ _ [(0, 0, dice L (nxA L j2 2)), (1, 1, ⟨Ints (wnt (es ++ [e])), 1⟩)] (by simp) (by simp) (by simp) (Nat.le_of_ble_eq_true rfl) ?_ rfl (by simp only [List.forall_mem_cons, List.not_mem_nil, false_implies, implies_true, and_true, St.hpF, lookR, Nat.reduceEqDiff, if_true, if_false, ↓reduceIte, dice] <;> (repeat' apply And.intro) <;> (first | rfl | trivial)) (by simp only [List.forall_mem_cons, List.not_mem_nil, false_implies, implies_true, and_true, true_and, flat_cons, flat_nil, flat_ints, flat_bools, flat_app, Cell.refs, and_self, eq_self_iff_true, List.append_nil, dice]); simp only [List.map_cons, List.map_nil, List.forall_mem_cons, List.not_mem_nil, false_implies, implies_true, and_true, lk, slot, SV.ren, Cell.ren, toN, Nat.reduceEqDiff, if_true, if_false, ↓reduceIte, reduceCtorEq])
          all_goals ((repeat' apply And.intro) <;> (first | rfl | trivial | (simp only []; done) | (simp only []; rfl) | (simp only []; trivial)))
  · have hS0 : ¬ jn (es.map elT) [44] = [] := fun h => hes (hnil.1 h)
    by_cases hba : (a : Int) < (b : Int)
    · obtain ⟨e, he⟩ : ∃ e : El, e = (a, b, true) := ⟨_, rfl⟩
      have hoe : OrE e := by rw [he]; exact ⟨ha30, by show b ≤ a + 5; omega, by show a ≤ b; omega, fun h => by cases h⟩
      have hx : elT e = dec a ++ 45 :: dec b := by rw [he]; rfl
      have hS1 : jn ((es ++ [e]).map elT) [44] = jn (es.map elT) [44] ++ 44 :: (dec a ++ 45 :: dec b) := by rw [List.map_append, List.map_cons, List.map_nil, jn_snoc _ _ _ (by simpa using hes), hx]
      have hS2 : jn ((es ++ [e]).reverse.map elT) [44] = (dec a ++ 45 :: dec b) ++ 44 :: jn (es.reverse.map elT) [44] := by rw [List.reverse_append, List.reverse_singleton, List.cons_append, List.nil_append, List.map_cons, jn_consS _ _ _ (by simpa using hes), hx]
      simp only [go_sem, Nat.reduceEqDiff, Nat.reduceAdd, Nat.reduceSub, Nat.reduceMul, Nat.reduceLT, Nat.reduceLeDiff, ↓reduceIte, reduceCtorEq, List.reduceReplicate, Int.cast_ofNat_Int, Int.reduceEq, Int.reduceLT, Int.reduceLE, decide_eq_true c, lendO, hbi, decide_eq_true hba, decide_eq_false hS0]
      repeat' (first
    | with_reducible refine And.intro ?_ ?_
    | (intros; (try simp only [Bool.and_eq_true, Bool.or_eq_true, Bool.not_eq_true', Bool.not_eq_false', Bool.and_eq_false_iff, Bool.or_eq_false_iff, decide_eq_true_eq, decide_eq_false_iff_not] at *); omega)
    | (apply cl_plain
       case hs => rfl
       case ha => (simp only [List.map_cons, List.map_nil, prepV, prepC, idx, hpL', lookR, Nat.reduceEqDiff, if_true, if_false]; rfl)
       case h => (first | exact n1 .. | exact n2 .. | exact d1 .. | exact d2 ..))
    | (apply cl_lend
       case hr => (simp only [List.map_cons, List.map_nil, hpL', lookR, Nat.reduceEqDiff, if_true, if_false]; first | exact map1 _ | exact map2 _ _ | exact map3 _ _ _)
       case ha => (simp only [List.map_cons, List.map_nil, prepV, prepC, idx, hpL', lookR, Nat.reduceEqDiff, if_true, if_false]; rfl)
       case hs => rfl
       case hn => decide
       case h => (first | exact n1 .. | exact n2 .. | exact d1 .. | exact d2 ..)
       case hf => (simp only [List.forall_mem_cons, List.not_mem_nil, false_implies, implies_true, and_true, true_and, flat_cons, flat_nil, flat_ints, flat_bools, flat_app, Cell.refs, and_self, eq_self_iff_true, List.append_nil])
       case hl => (simp only [List.length_cons, List.length_nil]; decide))
    | ((first | refine s1_id ?_ | refine swp_id ?_ | refine sops_id ?_ | refine s2_id ?_); simp only [decide_eq_true c, lendO, hbi, decide_eq_true hba, decide_eq_false hS0, List.flatten_cons, List.flatten_nil, List.append_nil, List.cons_append, List.nil_append, List.set_cons_zero, List.set_cons_succ, List.take_succ_cons, List.take_zero, List.take_nil, List.length_cons, List.length_nil, List.append_assoc, go_sem, Nat.reduceEqDiff, Nat.reduceAdd, Nat.reduceSub, Nat.reduceMul, Nat.reduceLT, Nat.reduceLeDiff, ↓reduceIte, reduceCtorEq, List.reduceReplicate, Int.cast_ofNat_Int, Int.reduceEq, Int.reduceLT, Int.reduceLE, SV.ren, SV.renL, Cell.ren, Row.ren, renO, bk, back, outUpsFrom, Ints_ren]))
      refine w_loop (ι := Nat) (fun m => ⟨[(3, .one (.optr 0 0)), (4, s1 (jn ((es ++ [e]).map elT) [44])), (5, s1 (jn ((es ++ [e]).reverse.map elT) [44])), (6, .one (.osl 1 0 ((wnt es).length + m) none)), (7, i1 ((n + 1 : Nat) : Int)), (9, i1 b), (11, i1 ((a + m : Nat) : Int))], [(0, some (dice L j2)), (1, some ⟨Ints (wnt es ++ (List.range m).map fun (t : Nat) => (a : Int) + t), 1⟩)], 2⟩) (fun m => m ≤ b + 1 - a) (fun m => b + 1 - a - m) 0 ?_ (Nat.zero_le _) ?_
      · rw [hS1, hS2]
        (refine imp_ren _ _ _ [(0, 0, dice L j2), (1, 1, ⟨Ints (wnt es ++ (List.range 0).map fun (t : Nat) => (a : Int) + t), 1⟩)] (by simp) (by simp) (by simp) (Nat.le_of_ble_eq_true rfl) ?_ rfl (by simp only [List.forall_mem_cons, List.not_mem_nil, false_implies, implies_true, and_true, St.hpF, lookR, Nat.reduceEqDiff, if_true, if_false, ↓reduceIte, dice, List.range_zero, List.map_nil, List.append_nil] <;> (repeat' apply And.intro) <;> (first | rfl | trivial)) (by simp only [List.forall_mem_cons, List.not_mem_nil, false_implies, implies_true, and_true, true_and, flat_cons, flat_nil, flat_ints, flat_bools, flat_app, Cell.refs, and_self, eq_self_iff_true, List.append_nil, dice, List.range_zero, List.map_nil, List.append_nil]); simp only [List.map_cons, List.map_nil, List.forall_mem_cons, List.not_mem_nil, false_implies, implies_true, and_true, lk, slot, SV.ren, Cell.ren, toN, Nat.reduceEqDiff, if_true, if_false, ↓reduceIte, reduceCtorEq])
        all_goals try ((repeat' apply And.intro) <;> (first | rfl | trivial | (simp only [List.range_zero, List.map_nil, List.append_nil, Nat.add_zero, List.append_assoc, List.cons_append]; done) | (simp only [List.range_zero, List.map_nil, List.append_nil, Nat.add_zero, List.append_assoc, List.cons_append]; rfl) | (simp only [List.range_zero, List.map_nil, List.append_nil, Nat.add_zero, List.append_assoc, List.cons_append]; trivial)))
      intro m hm
      simp only at hm ⊢
      by_cases hmb : a + m ≤ b
      · have cm : ((a + m : Nat) : Int) ≤ (b : Int) := by omega
        have hp2 : (wnt es ++ (List.range m).map fun (t : Nat) => (a : Int) + t) ++ [((a + m : Nat) : Int)] = wnt es ++ (List.range (m + 1)).map fun (t : Nat) => (a : Int) + t := by
          rw [List.range_succ, List.map_append, ← List.append_assoc]
          simp
        have ht2 : List.take ((wnt es).length + m) (wnt es ++ (List.range m).map fun (t : Nat) => (a : Int) + t) = wnt es ++ (List.range m).map fun (t : Nat) => (a : Int) + t := List.take_of_length_le (by simp)
        have hpp : Ints (wnt es ++ (List.range m).map fun (t : Nat) => (a : Int) + t) ++ [int ((a + m : Nat) : Int)] = Ints (wnt es ++ (List.range (m + 1)).map fun (t : Nat) => (a : Int) + t) := by
          rw [List.range_succ, List.map_append, ← List.append_assoc]
          simp [Ints]
        have hta : List.take ((wnt es).length + m) (Ints (wnt es ++ (List.range m).map fun (t : Nat) => (a : Int) + t)) = Ints (wnt es ++ (List.range m).map fun (t : Nat) => (a : Int) + t) := List.take_of_length_le (by rw [Ints_length]; simp)
        simp only [go_sem, Nat.reduceEqDiff, Nat.reduceAdd, Nat.reduceSub, Nat.reduceMul, Nat.reduceLT, Nat.reduceLeDiff, ↓reduceIte, reduceCtorEq, List.reduceReplicate, Int.cast_ofNat_Int, Int.reduceEq, Int.reduceLT, Int.reduceLE, decide_eq_true cm, lendO]
        repeat' (first
    | with_reducible refine And.intro ?_ ?_
    | (intros; (try simp only [Bool.and_eq_true, Bool.or_eq_true, Bool.not_eq_true', Bool.not_eq_false', Bool.and_eq_false_iff, Bool.or_eq_false_iff, decide_eq_true_eq, decide_eq_false_iff_not] at *); omega)
    | ((first | refine s1_id ?_ | refine swp_id ?_ | refine sops_id ?_ | refine s2_id ?_); simp only [decide_eq_true cm, lendO, hp2, ht2, hpp, hta, List.flatten_cons, List.flatten_nil, List.append_nil, List.cons_append, List.nil_append, List.set_cons_zero, List.set_cons_succ, List.take_succ_cons, List.take_zero, List.take_nil, List.length_cons, List.length_nil, go_sem, Nat.reduceEqDiff, Nat.reduceAdd, Nat.reduceSub, Nat.reduceMul, Nat.reduceLT, Nat.reduceLeDiff, ↓reduceIte, reduceCtorEq, List.reduceReplicate, Int.cast_ofNat_Int, Int.reduceEq, Int.reduceLT, Int.reduceLE, SV.ren, SV.renL, Cell.ren, Row.ren, renO, bk, back, outUpsFrom, Ints_ren]))
        all_goals try (rw [List.length_map, List.length_range]; exact Nat.le_refl _)
        refine le_mk (m + 1) ?_ (by omega) (by omega)
        have e1 : ((a + (m + 1) : Nat) : Int) = ((a + m : Nat) : Int) + 1 := by omega
        (refine imp_ren _ _ _ [(0, 0, dice L j2), (1, 8, ⟨Ints (wnt es ++ (List.range (m + 1)).map fun (t : Nat) => (a : Int) + t), 1⟩)] (by simp) (by simp) (by simp) (Nat.le_of_ble_eq_true rfl) ?_ rfl (by simp only [List.forall_mem_cons, List.not_mem_nil, false_implies, implies_true, and_true, St.hpF, lookR, Nat.reduceEqDiff, if_true, if_false, ↓reduceIte, dice, ht2, hp2] <;> (repeat' apply And.intro) <;> (first | rfl | trivial)) (by simp only [List.forall_mem_cons, List.not_mem_nil, false_implies, implies_true, and_true, true_and, flat_cons, flat_nil, flat_ints, flat_bools, flat_app, Cell.refs, and_self, eq_self_iff_true, List.append_nil, dice, ht2, hp2]); simp only [List.map_cons, List.map_nil, List.forall_mem_cons, List.not_mem_nil, false_implies, implies_true, and_true, lk, slot, SV.ren, Cell.ren, toN, Nat.reduceEqDiff, if_true, if_false, ↓reduceIte, reduceCtorEq])
        all_goals ((repeat' apply And.intro) <;> (first | rfl | trivial | (simp only [e1, Nat.add_assoc]; done) | (simp only [e1, Nat.add_assoc]; rfl) | (simp only [e1, Nat.add_assoc]; trivial)))
      · have cm : ¬ ((a + m : Nat) : Int) ≤ (b : Int) := by omega
        have hmm : m = b + 1 - a := by omega
        have hw2 : wnt (es ++ [e]) = wnt es ++ (List.range m).map fun (t : Nat) => (a : Int) + t := by
            have hee : (((e.1 : Nat) : Int), ((e.2.1 : Nat) : Int)) = ((a : Int), (b : Int)) := by rw [he]
            rw [wnt_snoc, hoe.p, hee, rng_take a b m hmm]
        have hwl2 : (wnt es).length + m = (wnt (es ++ [e])).length := by rw [hw2]; simp
        have e2 : ((n + 1 : Nat) : Int) - 1 = (n : Int) := by omega
        rw [← hw2, hwl2]
        simp only [go_sem, Nat.reduceEqDiff, Nat.reduceAdd, Nat.reduceSub, Nat.reduceMul, Nat.reduceLT, Nat.reduceLeDiff, ↓reduceIte, reduceCtorEq, List.reduceReplicate, Int.cast_ofNat_Int, Int.reduceEq, Int.reduceLT, Int.reduceLE, decide_eq_false cm, lendO, e2]
        repeat' (first
    | with_reducible refine And.intro ?_ ?_
    | (intros; (try simp only [Bool.and_eq_true, Bool.or_eq_true, Bool.not_eq_true', Bool.not_eq_false', Bool.and_eq_false_iff, Bool.or_eq_false_iff, decide_eq_true_eq, decide_eq_false_iff_not] at *); omega)
    | ((first | refine s1_id ?_ | refine swp_id ?_ | refine sops_id ?_ | refine s2_id ?_); simp only [decide_eq_false cm, lendO, e2, go_sem, Nat.reduceEqDiff, Nat.reduceAdd, Nat.reduceSub, Nat.reduceMul, Nat.reduceLT, Nat.reduceLeDiff, ↓reduceIte, reduceCtorEq, List.reduceReplicate, Int.cast_ofNat_Int, Int.reduceEq, Int.reduceLT, Int.reduceLE, SV.ren, SV.renL, Cell.ren, Row.ren, renO, bk, back, outUpsFrom, Ints_ren]))
        refine le_mk (n, es ++ [e], j2) ?_ (hI.snoc hoe) (Nat.lt_succ_self n)
        (refine imp_ren _ _ _ [(0, 0, dice L j2), (1, 1, ⟨Ints (wnt (es ++ [e])), 1⟩)] (by simp) (by simp) (by simp) (Nat.le_of_ble_eq_true rfl) ?_ rfl (by simp only [List.forall_mem_cons, List.not_mem_nil, false_implies, implies_true, and_true, St.hpF, lookR, Nat.reduceEqDiff, if_true, if_false, ↓reduceIte, dice] <;> (repeat' apply And.intro) <;> (first | rfl | trivial)) (by simp only [List.forall_mem_cons, List.not_mem_nil, false_implies, implies_true, and_true, true_and, flat_cons, flat_nil, flat_ints, flat_bools, flat_app, Cell.refs, and_self, eq_self_iff_true, List.append_nil, dice]); simp only [List.map_cons, List.map_nil, List.forall_mem_cons, List.not_mem_nil, false_implies, implies_true, and_true, lk, slot, SV.ren, Cell.ren, toN, Nat.reduceEqDiff, if_true, if_false, ↓reduceIte, reduceCtorEq])
        all_goals ((repeat' apply And.intro) <;> (first | rfl | trivial | (simp only []; done) | (simp only []; rfl) | (simp only []; trivial)))
    · by_cases hbo : nxV L j2 2 = 2 - 1
      · rw [decide_eq_true hbo] at n3
        obtain ⟨e, he⟩ : ∃ e : El, e = (a, b, true) := ⟨_, rfl⟩
        have hoe : OrE e := by rw [he]; exact ⟨ha30, by show b ≤ a + 5; omega, by show a ≤ b; omega, fun h => by cases h⟩
        have hx : elT e = dec a ++ 45 :: dec b := by rw [he]; rfl
        have hS1 : jn ((es ++ [e]).map elT) [44] = jn (es.map elT) [44] ++ 44 :: (dec a ++ 45 :: dec b) := by rw [List.map_append, List.map_cons, List.map_nil, jn_snoc _ _ _ (by simpa using hes), hx]
        have hS2 : jn ((es ++ [e]).reverse.map elT) [44] = (dec a ++ 45 :: dec b) ++ 44 :: jn (es.reverse.map elT) [44] := by rw [List.reverse_append, List.reverse_singleton, List.cons_append, List.nil_append, List.map_cons, jn_consS _ _ _ (by simpa using hes), hx]
        simp only [go_sem, Nat.reduceEqDiff, Nat.reduceAdd, Nat.reduceSub, Nat.reduceMul, Nat.reduceLT, Nat.reduceLeDiff, ↓reduceIte, reduceCtorEq, List.reduceReplicate, Int.cast_ofNat_Int, Int.reduceEq, Int.reduceLT, Int.reduceLE, decide_eq_true c, lendO, hbi, decide_eq_false hba, decide_eq_false hS0]
        repeat' (first
    | with_reducible refine And.intro ?_ ?_
    | (intros; (try simp only [Bool.and_eq_true, Bool.or_eq_true, Bool.not_eq_true', Bool.not_eq_false', Bool.and_eq_false_iff, Bool.or_eq_false_iff, decide_eq_true_eq, decide_eq_false_iff_not] at *); omega)
    | (apply cl_plain
       case hs => rfl
       case ha => (simp only [List.map_cons, List.map_nil, prepV, prepC, idx, hpL', lookR, Nat.reduceEqDiff, if_true, if_false]; rfl)
       case h => (first | exact n1 .. | exact n2 .. | exact n3 .. | exact d1 .. | exact d2 ..))
    | (apply cl_lend
       case hr => (simp only [List.map_cons, List.map_nil, hpL', lookR, Nat.reduceEqDiff, if_true, if_false]; first | exact map1 _ | exact map2 _ _ | exact map3 _ _ _)
       case ha => (simp only [List.map_cons, List.map_nil, prepV, prepC, idx, hpL', lookR, Nat.reduceEqDiff, if_true, if_false]; rfl)
       case hs => rfl
       case hn => decide
       case h => (first | exact n1 .. | exact n2 .. | exact n3 .. | exact d1 .. | exact d2 ..)
       case hf => (simp only [List.forall_mem_cons, List.not_mem_nil, false_implies, implies_true, and_true, true_and, flat_cons, flat_nil, flat_ints, flat_bools, flat_app, Cell.refs, and_self, eq_self_iff_true, List.append_nil])
       case hl => (simp only [List.length_cons, List.length_nil]; decide))
    | ((first | refine s1_id ?_ | refine swp_id ?_ | refine sops_id ?_ | refine s2_id ?_); simp only [decide_eq_true c, lendO, hbi, decide_eq_false hba, decide_eq_false hS0, List.flatten_cons, List.flatten_nil, List.append_nil, List.cons_append, List.nil_append, List.set_cons_zero, List.set_cons_succ, List.take_succ_cons, List.take_zero, List.take_nil, List.length_cons, List.length_nil, List.append_assoc, go_sem, Nat.reduceEqDiff, Nat.reduceAdd, Nat.reduceSub, Nat.reduceMul, Nat.reduceLT, Nat.reduceLeDiff, ↓reduceIte, reduceCtorEq, List.reduceReplicate, Int.cast_ofNat_Int, Int.reduceEq, Int.reduceLT, Int.reduceLE, SV.ren, SV.renL, Cell.ren, Row.ren, renO, bk, back, outUpsFrom, Ints_ren]))
        refine w_loop (ι := Nat) (fun m => ⟨[(3, .one (.optr 0 0)), (4, s1 (jn ((es ++ [e]).map elT) [44])), (5, s1 (jn ((es ++ [e]).reverse.map elT) [44])), (6, .one (.osl 1 0 ((wnt es).length + m) none)), (7, i1 ((n + 1 : Nat) : Int)), (9, i1 b), (11, i1 ((a + m : Nat) : Int))], [(0, some (dice L (nxA L j2 2))), (1, some ⟨Ints (wnt es ++ (List.range m).map fun (t : Nat) => (a : Int) + t), 1⟩)], 2⟩) (fun m => m ≤ b + 1 - a) (fun m => b + 1 - a - m) 0 ?_ (Nat.zero_le _) ?_
        · rw [hS1, hS2]
          (refine imp_ren _ _ _ [(0, 0, dice L (nxA L j2 2)), (1, 1, ⟨Ints (wnt es ++ (List.range 0).map fun (t : Nat) => (a : Int) + t), 1⟩)] (by simp) (by simp) (by simp) (Nat.le_of_ble_eq_true rfl) ?_ rfl (by simp only [List.forall_mem_cons, List.not_mem_nil, false_implies, implies_true, and_true, St.hpF, lookR, Nat.reduceEqDiff, if_true, if_false, ↓reduceIte, dice, List.range_zero, List.map_nil, List.append_nil] <;> (repeat' apply And.intro) <;> (first | rfl | trivial)) (by simp only [List.forall_mem_cons, List.not_mem_nil, false_implies, implies_true, and_true, true_and, flat_cons, flat_nil, flat_ints, flat_bools, flat_app, Cell.refs, and_self, eq_self_iff_true, List.append_nil, dice, List.range_zero, List.map_nil, List.append_nil]); simp only [List.map_cons, List.map_nil, List.forall_mem_cons, List.not_mem_nil, false_implies, implies_true, and_true, lk, slot, SV.ren, Cell.ren, toN, Nat.reduceEqDiff, if_true, if_false, ↓reduceIte, reduceCtorEq])
          all_goals try ((repeat' apply And.intro) <;> (first | rfl | trivial | (simp only [List.range_zero, List.map_nil, List.append_nil, Nat.add_zero, List.append_assoc, List.cons_append]; done) | (simp only [List.range_zero, List.map_nil, List.append_nil, Nat.add_zero, List.append_assoc, List.cons_append]; rfl) | (simp only [List.range_zero, List.map_nil, List.append_nil, Nat.add_zero, List.append_assoc, List.cons_append]; trivial)))
        intro m hm
        simp only at hm ⊢
        by_cases hmb : a + m ≤ b
        · have cm : ((a + m : Nat) : Int) ≤ (b : Int) := by omega
          have hp2 : (wnt es ++ (List.range m).map fun (t : Nat) => (a : Int) + t) ++ [((a + m : Nat) : Int)] = wnt es ++ (List.range (m + 1)).map fun (t : Nat) => (a : Int) + t := by
            rw [List.range_succ, List.map_append, ← List.append_assoc]
            simp
          have ht2 : List.take ((wnt es).length + m) (wnt es ++ (List.range m).map fun (t : Nat) => (a : Int) + t) = wnt es ++ (List.range m).map fun (t : Nat) => (a : Int) + t := List.take_of_length_le (by simp)
          have hpp : Ints (wnt es ++ (List.range m).map fun (t : Nat) => (a : Int) + t) ++ [int ((a + m : Nat) : Int)] = Ints (wnt es ++ (List.range (m + 1)).map fun (t : Nat) => (a : Int) + t) := by
            rw [List.range_succ, List.map_append, ← List.append_assoc]
            simp [Ints]
          have hta : List.take ((wnt es).length + m) (Ints (wnt es ++ (List.range m).map fun (t : Nat) => (a : Int) + t)) = Ints (wnt es ++ (List.range m).map fun (t : Nat) => (a : Int) + t) := List.take_of_length_le (by rw [Ints_length]; simp)
          simp only [go_sem, Nat.reduceEqDiff, Nat.reduceAdd, Nat.reduceSub, Nat.reduceMul, Nat.reduceLT, Nat.reduceLeDiff, ↓reduceIte, reduceCtorEq, List.reduceReplicate, Int.cast_ofNat_Int, Int.reduceEq, Int.reduceLT, Int.reduceLE, decide_eq_true cm, lendO]
          repeat' (first
    | with_reducible refine And.intro ?_ ?_
    | (intros; (try simp only [Bool.and_eq_true, Bool.or_eq_true, Bool.not_eq_true', Bool.not_eq_false', Bool.and_eq_false_iff, Bool.or_eq_false_iff, decide_eq_true_eq, decide_eq_false_iff_not] at *); omega)
    | ((first | refine s1_id ?_ | refine swp_id ?_ | refine sops_id ?_ | refine s2_id ?_); simp only [decide_eq_true cm, lendO, hp2, ht2, hpp, hta, List.flatten_cons, List.flatten_nil, List.append_nil, List.cons_append, List.nil_append, List.set_cons_zero, List.set_cons_succ, List.take_succ_cons, List.take_zero, List.take_nil, List.length_cons, List.length_nil, go_sem, Nat.reduceEqDiff, Nat.reduceAdd, Nat.reduceSub, Nat.reduceMul, Nat.reduceLT, Nat.reduceLeDiff, ↓reduceIte, reduceCtorEq, List.reduceReplicate, Int.cast_ofNat_Int, Int.reduceEq, Int.reduceLT, Int.reduceLE, SV.ren, SV.renL, Cell.ren, Row.ren, renO, bk, back, outUpsFrom, Ints_ren]))
          all_goals try (rw [List.length_map, List.length_range]; exact Nat.le_refl _)
          refine le_mk (m + 1) ?_ (by omega) (by omega)
          have e1 : ((a + (m + 1) : Nat) : Int) = ((a + m : Nat) : Int) + 1 := by omega
          (refine imp_ren _ _ _ [(0, 0, dice L (nxA L j2 2)), (1, 8, ⟨Ints (wnt es ++ (List.range (m + 1)).map fun (t : Nat) => (a : Int) + t), 1⟩)] (by simp) (by simp) (by simp) (Nat.le_of_ble_eq_true rfl) ?_ rfl (by simp only [List.forall_mem_cons, List.not_mem_nil, false_implies, implies_true, and_true, St.hpF, lookR, Nat.reduceEqDiff, if_true, if_false, ↓reduceIte, dice, ht2, hp2] <;> (repeat' apply And.intro) <;> (first | rfl | trivial)) (by simp only [List.forall_mem_cons, List.not_mem_nil, false_implies, implies_true, and_true, true_and, flat_cons, flat_nil, flat_ints, flat_bools, flat_app, Cell.refs, and_self, eq_self_iff_true, List.append_nil, dice, ht2, hp2]); simp only [List.map_cons, List.map_nil, List.forall_mem_cons, List.not_mem_nil, false_implies, implies_true, and_true, lk, slot, SV.ren, Cell.ren, toN, Nat.reduceEqDiff, if_true, if_false, ↓reduceIte, reduceCtorEq])
          all_goals ((repeat' apply And.intro) <;> (first | rfl | trivial | (simp only [e1, Nat.add_assoc]; done) | (simp only [e1, Nat.add_assoc]; rfl) | (simp only [e1, Nat.add_assoc]; trivial)))
        · have cm : ¬ ((a + m : Nat) : Int) ≤ (b : Int) := by omega
          have hmm : m = b + 1 - a := by omega
          have hw2 : wnt (es ++ [e]) = wnt es ++ (List.range m).map fun (t : Nat) => (a : Int) + t := by
            have hee : (((e.1 : Nat) : Int), ((e.2.1 : Nat) : Int)) = ((a : Int), (b : Int)) := by rw [he]
            rw [wnt_snoc, hoe.p, hee, rng_take a b m hmm]
          have hwl2 : (wnt es).length + m = (wnt (es ++ [e])).length := by rw [hw2]; simp
          have e2 : ((n + 1 : Nat) : Int) - 1 = (n : Int) := by omega
          rw [← hw2, hwl2]
          simp only [go_sem, Nat.reduceEqDiff, Nat.reduceAdd, Nat.reduceSub, Nat.reduceMul, Nat.reduceLT, Nat.reduceLeDiff, ↓reduceIte, reduceCtorEq, List.reduceReplicate, Int.cast_ofNat_Int, Int.reduceEq, Int.reduceLT, Int.reduceLE, decide_eq_false cm, lendO, e2]
          repeat' (first
    | with_reducible refine And.intro ?_ ?_
    | (intros; (try simp only [Bool.and_eq_true, Bool.or_eq_true, Bool.not_eq_true', Bool.not_eq_false', Bool.and_eq_false_iff, Bool.or_eq_false_iff, decide_eq_true_eq, decide_eq_false_iff_not] at *); omega)
    | ((first | refine s1_id ?_ | refine swp_id ?_ | refine sops_id ?_ | refine s2_id ?_); simp only [decide_eq_false cm, lendO, e2, go_sem, Nat.reduceEqDiff, Nat.reduceAdd, Nat.reduceSub, Nat.reduceMul, Nat.reduceLT, Nat.reduceLeDiff, ↓reduceIte, reduceCtorEq, List.reduceReplicate, Int.cast_ofNat_Int, Int.reduceEq, Int.reduceLT, Int.reduceLE, SV.ren, SV.renL, Cell.ren, Row.ren, renO, bk, back, outUpsFrom, Ints_ren]))
          refine le_mk (n, es ++ [e], (nxA L j2 2)) ?_ (hI.snoc hoe) (Nat.lt_succ_self n)
          (refine imp_ren _ _ _ [(0, 0, dice L (nxA L j2 2)), (1, 1, ⟨Ints (wnt (es ++ [e])), 1⟩)] (by simp) (by simp) (by simp) (Nat.le_of_ble_eq_true rfl) ?_ rfl (by simp only [List.forall_mem_cons, List.not_mem_nil, false_implies, implies_true, and_true, St.hpF, lookR, Nat.reduceEqDiff, if_true, if_false, ↓reduceIte, dice] <;> (repeat' apply And.intro) <;> (first | rfl | trivial)) (by simp only [List.forall_mem_cons, List.not_mem_nil, false_implies, implies_true, and_true, true_and, flat_cons, flat_nil, flat_ints, flat_bools, flat_app, Cell.refs, and_self, eq_self_iff_true, List.append_nil, dice]); simp only [List.map_cons, List.map_nil, List.forall_mem_cons, List.not_mem_nil, false_implies, implies_true, and_true, lk, slot, SV.ren, Cell.ren, toN, Nat.reduceEqDiff, if_true, if_false, ↓reduceIte, reduceCtorEq])
          all_goals ((repeat' apply And.intro) <;> (first | rfl | trivial | (simp only []; done) | (simp only []; rfl) | (simp only []; trivial)))
      · rw [decide_eq_false hbo] at n3
        obtain ⟨e, he⟩ : ∃ e : El, e = (a, b, false) := ⟨_, rfl⟩
        have hoe : OrE e := by rw [he]; exact ⟨ha30, by show b ≤ a + 5; omega, by show a ≤ b; omega, fun h => by show b = a; omega⟩
        have hx : elT e = dec a := by rw [he]; rfl
        have hS1 : jn ((es ++ [e]).map elT) [44] = jn (es.map elT) [44] ++ 44 :: (dec a) := by rw [List.map_append, List.map_cons, List.map_nil, jn_snoc _ _ _ (by simpa using hes), hx]
        have hS2 : jn ((es ++ [e]).reverse.map elT) [44] = (dec a) ++ 44 :: jn (es.reverse.map elT) [44] := by rw [List.reverse_append, List.reverse_singleton, List.cons_append, List.nil_append, List.map_cons, jn_consS _ _ _ (by simpa using hes), hx]
        simp only [go_sem, Nat.reduceEqDiff, Nat.reduceAdd, Nat.reduceSub, Nat.reduceMul, Nat.reduceLT, Nat.reduceLeDiff, ↓reduceIte, reduceCtorEq, List.reduceReplicate, Int.cast_ofNat_Int, Int.reduceEq, Int.reduceLT, Int.reduceLE, decide_eq_true c, lendO, hbi, decide_eq_false hba, decide_eq_false hS0]
        repeat' (first
    | with_reducible refine And.intro ?_ ?_
    | (intros; (try simp only [Bool.and_eq_true, Bool.or_eq_true, Bool.not_eq_true', Bool.not_eq_false', Bool.and_eq_false_iff, Bool.or_eq_false_iff, decide_eq_true_eq, decide_eq_false_iff_not] at *); omega)
    | (apply cl_plain
       case hs => rfl
       case ha => (simp only [List.map_cons, List.map_nil, prepV, prepC, idx, hpL', lookR, Nat.reduceEqDiff, if_true, if_false]; rfl)
       case h => (first | exact n1 .. | exact n2 .. | exact n3 .. | exact d1 .. | exact d2 ..))
    | (apply cl_lend
       case hr => (simp only [List.map_cons, List.map_nil, hpL', lookR, Nat.reduceEqDiff, if_true, if_false]; first | exact map1 _ | exact map2 _ _ | exact map3 _ _ _)
       case ha => (simp only [List.map_cons, List.map_nil, prepV, prepC, idx, hpL', lookR, Nat.reduceEqDiff, if_true, if_false]; rfl)
       case hs => rfl
       case hn => decide
       case h => (first | exact n1 .. | exact n2 .. | exact n3 .. | exact d1 .. | exact d2 ..)
       case hf => (simp only [List.forall_mem_cons, List.not_mem_nil, false_implies, implies_true, and_true, true_and, flat_cons, flat_nil, flat_ints, flat_bools, flat_app, Cell.refs, and_self, eq_self_iff_true, List.append_nil])
       case hl => (simp only [List.length_cons, List.length_nil]; decide))
    | ((first | refine s1_id ?_ | refine swp_id ?_ | refine sops_id ?_ | refine s2_id ?_); simp only [decide_eq_true c, lendO, hbi, decide_eq_false hba, decide_eq_false hS0, List.flatten_cons, List.flatten_nil, List.append_nil, List.cons_append, List.nil_append, List.set_cons_zero, List.set_cons_succ, List.take_succ_cons, List.take_zero, List.take_nil, List.length_cons, List.length_nil, List.append_assoc, go_sem, Nat.reduceEqDiff, Nat.reduceAdd, Nat.reduceSub, Nat.reduceMul, Nat.reduceLT, Nat.reduceLeDiff, ↓reduceIte, reduceCtorEq, List.reduceReplicate, Int.cast_ofNat_Int, Int.reduceEq, Int.reduceLT, Int.reduceLE, SV.ren, SV.renL, Cell.ren, Row.ren, renO, bk, back, outUpsFrom, Ints_ren]))
        refine w_loop (ι := Nat) (fun m => ⟨[(3, .one (.optr 0 0)), (4, s1 (jn ((es ++ [e]).map elT) [44])), (5, s1 (jn ((es ++ [e]).reverse.map elT) [44])), (6, .one (.osl 1 0 ((wnt es).length + m) none)), (7, i1 ((n + 1 : Nat) : Int)), (9, i1 b), (11, i1 ((a + m : Nat) : Int))], [(0, some (dice L (nxA L j2 2))), (1, some ⟨Ints (wnt es ++ (List.range m).map fun (t : Nat) => (a : Int) + t), 1⟩)], 2⟩) (fun m => m ≤ b + 1 - a) (fun m => b + 1 - a - m) 0 ?_ (Nat.zero_le _) ?_
        · rw [hS1, hS2]
          (refine imp_ren _ _ _ [(0, 0, dice L (nxA L j2 2)), (1, 1, ⟨Ints (wnt es ++ (List.range 0).map fun (t : Nat) => (a : Int) + t), 1⟩)] (by simp) (by simp) (by simp) (Nat.le_of_ble_eq_true rfl) ?_ rfl (by simp only [List.forall_mem_cons, List.not_mem_nil, false_implies, implies_true, and_true, St.hpF, lookR, Nat.reduceEqDiff, if_true, if_false, ↓reduceIte, dice, List.range_zero, List.map_nil, List.append_nil] <;> (repeat' apply And.intro) <;> (first | rfl | trivial)) (by simp only [List.forall_mem_cons, List.not_mem_nil, false_implies, implies_true, and_true, true_and, flat_cons, flat_nil, flat_ints, flat_bools, flat_app, Cell.refs, and_self, eq_self_iff_true, List.append_nil, dice, List.range_zero, List.map_nil, List.append_nil]); simp only [List.map_cons, List.map_nil, List.forall_mem_cons, List.not_mem_nil, false_implies, implies_true, and_true, lk, slot, SV.ren, Cell.ren, toN, Nat.reduceEqDiff, if_true, if_false, ↓reduceIte, reduceCtorEq])
          all_goals try ((repeat' apply And.intro) <;> (first | rfl | trivial | (simp only [List.range_zero, List.map_nil, List.append_nil, Nat.add_zero, List.append_assoc, List.cons_append]; done) | (simp only [List.range_zero, List.map_nil, List.append_nil, Nat.add_zero, List.append_assoc, List.cons_append]; rfl) | (simp only [List.range_zero, List.map_nil, List.append_nil, Nat.add_zero, List.append_assoc, List.cons_append]; trivial)))
        intro m hm
        simp only at hm ⊢
        by_cases hmb : a + m ≤ b
        · have cm : ((a + m : Nat) : Int) ≤ (b : Int) := by omega
          have hp2 : (wnt es ++ (List.range m).map fun (t : Nat) => (a : Int) + t) ++ [((a + m : Nat) : Int)] = wnt es ++ (List.range (m + 1)).map fun (t : Nat) => (a : Int) + t := by
            rw [List.range_succ, List.map_append, ← List.append_assoc]
            simp
          have ht2 : List.take ((wnt es).length + m) (wnt es ++ (List.range m).map fun (t : Nat) => (a : Int) + t) = wnt es ++ (List.range m).map fun (t : Nat) => (a : Int) + t := List.take_of_length_le (by simp)
          have hpp : Ints (wnt es ++ (List.range m).map fun (t : Nat) => (a : Int) + t) ++ [int ((a + m : Nat) : Int)] = Ints (wnt es ++ (List.range (m + 1)).map fun (t : Nat) => (a : Int) + t) := by
            rw [List.range_succ, List.map_append, ← List.append_assoc]
            simp [Ints]
          have hta : List.take ((wnt es).length + m) (Ints (wnt es ++ (List.range m).map fun (t : Nat) => (a : Int) + t)) = Ints (wnt es ++ (List.range m).map fun (t : Nat) => (a : Int) + t) := List.take_of_length_le (by rw [Ints_length]; simp)
          simp only [go_sem, Nat.reduceEqDiff, Nat.reduceAdd, Nat.reduceSub, Nat.reduceMul, Nat.reduceLT, Nat.reduceLeDiff, ↓reduceIte, reduceCtorEq, List.reduceReplicate, Int.cast_ofNat_Int, Int.reduceEq, Int.reduceLT, Int.reduceLE, decide_eq_true cm, lendO]
          repeat' (first
    | with_reducible refine And.intro ?_ ?_
    | (intros; (try simp only [Bool.and_eq_true, Bool.or_eq_true, Bool.not_eq_true', Bool.not_eq_false', Bool.and_eq_false_iff, Bool.or_eq_false_iff, decide_eq_true_eq, decide_eq_false_iff_not] at *); omega)
    | ((first | refine s1_id ?_ | refine swp_id ?_ | refine sops_id ?_ | refine s2_id ?_); simp only [decide_eq_true cm, lendO, hp2, ht2, hpp, hta, List.flatten_cons, List.flatten_nil, List.append_nil, List.cons_append, List.nil_append, List.set_cons_zero, List.set_cons_succ, List.take_succ_cons, List.take_zero, List.take_nil, List.length_cons, List.length_nil, go_sem, Nat.reduceEqDiff, Nat.reduceAdd, Nat.reduceSub, Nat.reduceMul, Nat.reduceLT, Nat.reduceLeDiff, ↓reduceIte, reduceCtorEq, List.reduceReplicate, Int.cast_ofNat_Int, Int.reduceEq, Int.reduceLT, Int.reduceLE, SV.ren, SV.renL, Cell.ren, Row.ren, renO, bk, back, outUpsFrom, Ints_ren]))
          all_goals try (rw [List.length_map, List.length_range]; exact Nat.le_refl _)
          refine le_mk (m + 1) ?_ (by omega) (by omega)
          have e1 : ((a + (m + 1) : Nat) : Int) = ((a + m : Nat) : Int) + 1 := by omega
          (refine imp_ren _ _ _ [(0, 0, dice L (nxA L j2 2)), (1, 8, ⟨Ints (wnt es ++ (List.range (m + 1)).map fun (t : Nat) => (a : Int) + t), 1⟩)] (by simp) (by simp) (by simp) (Nat.le_of_ble_eq_true rfl) ?_ rfl (by simp only [List.forall_mem_cons, List.not_mem_nil, false_implies, implies_true, and_true, St.hpF, lookR, Nat.reduceEqDiff, if_true, if_false, ↓reduceIte, dice, ht2, hp2] <;> (repeat' apply And.intro) <;> (first | rfl | trivial)) (by simp only [List.forall_mem_cons, List.not_mem_nil, false_implies, implies_true, and_true, true_and, flat_cons, flat_nil, flat_ints, flat_bools, flat_app, Cell.refs, and_self, eq_self_iff_true, List.append_nil, dice, ht2, hp2]); simp only [List.map_cons, List.map_nil, List.forall_mem_cons, List.not_mem_nil, false_implies, implies_true, and_true, lk, slot, SV.ren, Cell.ren, toN, Nat.reduceEqDiff, if_true, if_false, ↓reduceIte, reduceCtorEq])
          all_goals ((repeat' apply And.intro) <;> (first | rfl | trivial | (simp only [e1, Nat.add_assoc]; done) | (simp only [e1, Nat.add_assoc]; rfl) | (simp only [e1, Nat.add_assoc]; trivial)))
        · have cm : ¬ ((a + m : Nat) : Int) ≤ (b : Int) := by omega
          have hmm : m = b + 1 - a := by omega
          have hw2 : wnt (es ++ [e]) = wnt es ++ (List.range m).map fun (t : Nat) => (a : Int) + t := by
            have hee : (((e.1 : Nat) : Int), ((e.2.1 : Nat) : Int)) = ((a : Int), (b : Int)) := by rw [he]
            rw [wnt_snoc, hoe.p, hee, rng_take a b m hmm]
          have hwl2 : (wnt es).length + m = (wnt (es ++ [e])).length := by rw [hw2]; simp
          have e2 : ((n + 1 : Nat) : Int) - 1 = (n : Int) := by omega
          rw [← hw2, hwl2]
          simp only [go_sem, Nat.reduceEqDiff, Nat.reduceAdd, Nat.reduceSub, Nat.reduceMul, Nat.reduceLT, Nat.reduceLeDiff, ↓reduceIte, reduceCtorEq, List.reduceReplicate, Int.cast_ofNat_Int, Int.reduceEq, Int.reduceLT, Int.reduceLE, decide_eq_false cm, lendO, e2]
          repeat' (first
    | with_reducible refine And.intro ?_ ?_
    | (intros; (try simp only [Bool.and_eq_true, Bool.or_eq_true, Bool.not_eq_true', Bool.not_eq_false', Bool.and_eq_false_iff, Bool.or_eq_false_iff, decide_eq_true_eq, decide_eq_false_iff_not] at *); omega)
    | ((first | refine s1_id ?_ | refine swp_id ?_ | refine sops_id ?_ | refine s2_id ?_); simp only [decide_eq_false cm, lendO, e2, go_sem, Nat.reduceEqDiff, Nat.reduceAdd, Nat.reduceSub, Nat.reduceMul, Nat.reduceLT, Nat.reduceLeDiff, ↓reduceIte, reduceCtorEq, List.reduceReplicate, Int.cast_ofNat_Int, Int.reduceEq, Int.reduceLT, Int.reduceLE, SV.ren, SV.renL, Cell.ren, Row.ren, renO, bk, back, outUpsFrom, Ints_ren]))
          refine le_mk (n, es ++ [e], (nxA L j2 2)) ?_ (hI.snoc hoe) (Nat.lt_succ_self n)
          (refine imp_ren _ _ _ [(0, 0, dice L (nxA L j2 2)), (1, 1, ⟨Ints (wnt (es ++ [e])), 1⟩)] (by simp) (by simp) (by simp) (Nat.le_of_ble_eq_true rfl) ?_ rfl (by simp only [List.forall_mem_cons, List.not_mem_nil, false_implies, implies_true, and_true, St.hpF, lookR, Nat.reduceEqDiff, if_true, if_false, ↓reduceIte, dice] <;> (repeat' apply And.intro) <;> (first | rfl | trivial)) (by simp only [List.forall_mem_cons, List.not_mem_nil, false_implies, implies_true, and_true, true_and, flat_cons, flat_nil, flat_ints, flat_bools, flat_app, Cell.refs, and_self, eq_self_iff_true, List.append_nil, dice]); simp only [List.map_cons, List.map_nil, List.forall_mem_cons, List.not_mem_nil, false_implies, implies_true, and_true, lk, slot, SV.ren, Cell.ren, toN, Nat.reduceEqDiff, if_true, if_false, ↓reduceIte, reduceCtorEq])
          all_goals ((repeat' apply And.intro) <;> (first | rfl | trivial | (simp only []; done) | (simp only []; rfl) | (simp only []; trivial)))
theorem order_main (g0 : List Cell) (s0 : GTy Tryd.prog 12 22 g0) : FnSpec Tryd.prog 3 [svOf Tryd.prog 22 g0] [] (b1 true) [] := by
  obtain ⟨l, rfl, hl, hr⟩ := gty_ints (n := 10) Tryd.underlying22 Tryd.underlying3 s0
  simp only [svOf, Tryd.underlying22, List.headD_cons]
  exact order_spec l hr
end Go.Proofs.YteokppcgmfbnkaaDoor
