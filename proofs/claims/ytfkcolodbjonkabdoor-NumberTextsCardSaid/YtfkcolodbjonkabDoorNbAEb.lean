/- Contracts of functions, told of values, on the way to NumberTexts. -/
import Derived.Test.YtfkcolodbjonkabDoorTyEb
import Derived.Test.YtfkcolodbjonkabDoorNb9Eb
-- NEWGO
-- PRUNE: cl_lendx cl_use cl_lend
namespace Go.Proofs.YtfkcolodbjonkabDoor
set_option linter.unusedVariables false
set_option linter.unusedSimpArgs false
open Go.Proofs.YtfkcolodbjonkabDoor.Sh
set_option maxRecDepth 20000
theorem tl_bad (d p : Str) (h : (vR d).2 = false) : tl d p = (0, 2) := by
  unfold tl; rw [h]; rfl
theorem tl_bad2 (d p : Str) (h : (vR p).2 = false) : tl d p = (0, 2) := by
  unfold tl; rw [h]
  by_cases hd : (vR d).2 = true
  · rw [if_pos hd]; rfl
  · rw [if_neg hd]
theorem tl_bad3 (d p : Str) (h : 2 < p.length) : tl d p = (0, 2) := by
  unfold tl
  by_cases hd : (vR d).2 = true
  · rw [if_pos hd]
    by_cases hp : (vR p).2 = true
    · rw [if_pos hp, if_pos (by omega)]
    · rw [if_neg hp]
  · rw [if_neg hd]
theorem dot_eq (s : Str) (h : s[dgN s]? = some 46) : dotAt s = dgN s := by
  have hl := (List.getElem?_eq_some_iff.1 h).1
  refine (List.findIdx_eq hl).2 ⟨?_, fun j hj => ?_⟩
  · have h2 : s[dgN s]? = some s[dgN s] := List.getElem?_eq_getElem hl
    rw [h] at h2
    rw [← Option.some.inj h2]; rfl
  · have h2 : s[j]? = some (s[j]'(by omega)) := List.getElem?_eq_getElem (by omega)
    have h3 := dgN_at s j _ hj h2
    have h4 : ¬ (s[j]'(by omega)) = 46 := by
      intro e
      rw [e] at h3
      exact absurd h3.1 (by decide)
    simpa using h4
theorem dot_gt (s : Str) (h : s[dgN s]? ≠ some 46) (hl : dotAt s < s.length) : dgN s < dotAt s := by
  have h1 := List.findIdx_getElem (w := hl)
  have h3 : s[dotAt s]'hl = 46 := beq_iff_eq.1 h1
  have h4 : s[dotAt s]? = some 46 := by rw [List.getElem?_eq_getElem hl, h3]
  rcases Nat.lt_trichotomy (dgN s) (dotAt s) with q | q | q
  · exact q
  · rw [← q] at h4; exact absurd h4 h
  · have := dgN_at s (dotAt s) 46 q h4
    exact absurd this.1 (by decide)
theorem pHu_bad (s : Str) (hm : ¬ s = [109, 97, 120]) (h : dgN s = 0 ∨ (dgN s < s.length ∧ s[dgN s]? ≠ some 46)) : pHu s = (0, 2) := by
  unfold pHu
  rw [if_neg hm]
  by_cases hl : dotAt s < s.length
  · rw [if_pos hl]
    refine tl_bad _ _ ?_
    by_cases hd : dgN s < dotAt s
    · rw [vR_bad _ (by rw [dgN_take2 s _ hd, List.length_take]; omega)]
    · have h46 : s[dgN s]? = some 46 := Classical.byContradiction fun q => hd (dot_gt s q hl)
      rcases h with h | h
      · have : dotAt s = 0 := by rw [dot_eq s h46, h]
        rw [this, List.take_zero, vR_nil]
      · exact absurd h46 h.2
  · rw [if_neg hl]
    refine tl_bad _ _ ?_
    rcases h with h | h
    · by_cases h0 : s.length = 0
      · rw [List.length_eq_zero_iff.1 h0, vR_nil]
      · rw [vR_bad s (by omega)]
    · rw [vR_bad s h.1]
theorem pHu_all (s : Str) (hm : ¬ s = [109, 97, 120]) (h : s.length = dgN s) : pHu s = tl s [48, 48] := by
  unfold pHu
  rw [if_neg hm]
  have : ¬ dotAt s < s.length := by
    intro hl
    by_cases h46 : s[dgN s]? = some 46
    · have := (List.getElem?_eq_some_iff.1 h46).1; omega
    · have := dot_gt s h46 hl; omega
  rw [if_neg this]
theorem pHu_pt (s : Str) (hm : ¬ s = [109, 97, 120]) (h : s[dgN s]? = some 46) : pHu s = tl (s.take (dgN s)) (s.drop (dgN s + 1)) := by
  have hl := (List.getElem?_eq_some_iff.1 h).1
  unfold pHu
  rw [if_neg hm, dot_eq s h, if_pos hl]
set_option maxHeartbeats 16000000 in
theorem rhund_spec (s : Str) (hs : s.length ≤ 9223372036854775806) : FnSpec Tryd.prog 15 [s1 s] [] (rP (pHu s)) [] := by
  by_cases hm : s = [109, 97, 120]
  · unfold pHu
    rw [if_pos hm]
    refine fnspec_of mixed TT_ok TT_cl ⟨fun _ => false, fun _ => [], 0, fun _ => false, fun _ => false⟩ Tryd.func15 rfl (by kernel_rfl) rfl 60 rfl [.tmp 2, .tmp 3] rfl ?_
    simp only [go_sem, Nat.reduceEqDiff, Nat.reduceAdd, Nat.reduceSub, Nat.reduceMul, Nat.reduceLT, Nat.reduceLeDiff, ↓reduceIte, reduceCtorEq, List.reduceReplicate, Int.cast_ofNat_Int, Int.reduceEq, Int.reduceLT, Int.reduceLE, decide_eq_true hm]
    repeat' (first
    | (apply fs_nil <;> (try simp only [go_sem, resV, resS, SV.ren, SV.renL, Cell.ren, St.tmF, St.hpF, idx, renO, Row.ren, evS, slot, lookR, Nat.reduceEqDiff, ↓reduceIte, reduceCtorEq, if_true, if_false, Option.getD_some, Option.getD_none, List.map_cons, List.map_nil, sLoad, readAt, readNeed, Ints_ren, Ints_length, Ints_getD, and_true, true_and, List.getD_cons_zero, List.getD_cons_succ]) <;> (try rfl)))
  have hd := digits_spec s (by omega)
  have hle := dgN_le s
  have htk := dgN_take s (dgN s) (Nat.le_refl _)
  by_cases h0 : dgN s = 0
  · rw [pHu_bad s hm (.inl h0)]
    rw [h0] at hd
    refine fnspec_of mixed TT_ok TT_cl ⟨fun _ => false, fun _ => [], 0, fun _ => false, fun _ => false⟩ Tryd.func15 rfl (by kernel_rfl) rfl 60 rfl [.tmp 2, .tmp 3] rfl ?_
    simp only [go_sem, Nat.reduceEqDiff, Nat.reduceAdd, Nat.reduceSub, Nat.reduceMul, Nat.reduceLT, Nat.reduceLeDiff, ↓reduceIte, reduceCtorEq, List.reduceReplicate, Int.cast_ofNat_Int, Int.reduceEq, Int.reduceLT, Int.reduceLE, decide_eq_false hm]
    repeat' (first
    | (apply cl_plain
       case hs => rfl
       case ha => (simp only [List.map_cons, List.map_nil, prepV, prepC, idx, hpL', lookR, Nat.reduceEqDiff, if_true, if_false]; rfl)
       case h => (first | exact hd ..))
    | ((first | refine s1_id ?_ | refine swp_id ?_ | refine sops_id ?_ | refine s2_id ?_); simp only [decide_eq_false hm, go_sem, Nat.reduceEqDiff, Nat.reduceAdd, Nat.reduceSub, Nat.reduceMul, Nat.reduceLT, Nat.reduceLeDiff, ↓reduceIte, reduceCtorEq, List.reduceReplicate, Int.cast_ofNat_Int, Int.reduceEq, Int.reduceLT, Int.reduceLE, SV.ren, SV.renL, Cell.ren, Row.ren, renO, bk, back, outUpsFrom, Ints_ren])
    | (apply fs_nil <;> (try simp only [go_sem, resV, resS, SV.ren, SV.renL, Cell.ren, St.tmF, St.hpF, idx, renO, Row.ren, evS, slot, lookR, Nat.reduceEqDiff, ↓reduceIte, reduceCtorEq, if_true, if_false, Option.getD_some, Option.getD_none, List.map_cons, List.map_nil, sLoad, readAt, readNeed, Ints_ren, Ints_length, Ints_getD, and_true, true_and, List.getD_cons_zero, List.getD_cons_succ]) <;> (try rfl)))
  have h0' : ¬ ((dgN s : Nat) : Int) = 0 := by omega
  have hlt : (s.take (dgN s)).length = dgN s := by rw [List.length_take]; omega
  obtain ⟨n, hn1, hn2, hn3, hn4⟩ := vR_dig (s.take (dgN s)) (by omega) (by omega)
  have hv := rvalue_spec (s.take (dgN s)) (by omega) n hn1
  have em : (if 1000 < n then 1000 else n) = min n 1000 := by split <;> omega
  have hts : s.take s.length = s := List.take_length
  by_cases h2 : s.length = dgN s
  · rw [pHu_all s hm h2]
    have htk2 : s.take (dgN s) = s := List.take_of_length_le (by omega)
    rw [htk2] at hn2
    have hdr : s.drop (dgN s) = [] := List.drop_of_length_le (by omega)
    unfold tl kOf
    rw [hn2, v00]
    have c1 : ¬ (2 : Int) < (([48, 48] : Str).length : Int) := by decide
    have c2 : ¬ (([48, 48] : Str).length : Int) = 1 := by decide
    simp only [if_true]
    rw [if_neg c1, if_neg c2]
    clear htk2 hn2
    generalize hT : s.take (dgN s) = T at *
    generalize dgN s = d at *
    by_cases c : 10000 < 100 * n + 0
    · have c' : 10000 < 100 * min n 1000 := by omega
      rw [if_pos c]
      refine fnspec_of mixed TT_ok TT_cl ⟨fun _ => false, fun _ => [], 0, fun _ => false, fun _ => false⟩ Tryd.func15 rfl (by kernel_rfl) rfl 60 rfl [.tmp 2, .tmp 3] rfl ?_
      simp only [go_sem, Nat.reduceEqDiff, Nat.reduceAdd, Nat.reduceSub, Nat.reduceMul, Nat.reduceLT, Nat.reduceLeDiff, ↓reduceIte, reduceCtorEq, List.reduceReplicate, Int.cast_ofNat_Int, Int.reduceEq, Int.reduceLT, Int.reduceLE, decide_eq_false hm, decide_eq_false h0', hT, hts, hdr, em, decide_eq_true c']
      repeat' (first
    | with_reducible refine And.intro ?_ ?_
    | (intros; (try simp only [Bool.and_eq_true, Bool.or_eq_true, Bool.not_eq_true', Bool.not_eq_false', Bool.and_eq_false_iff, Bool.or_eq_false_iff, decide_eq_true_eq, decide_eq_false_iff_not] at *); omega)
    | (apply cl_plain
       case hs => rfl
       case ha => (simp only [List.map_cons, List.map_nil, prepV, prepC, idx, hpL', lookR, Nat.reduceEqDiff, if_true, if_false]; rfl)
       case h => (first | exact hd .. | exact hv ..))
    | ((first | refine s1_id ?_ | refine swp_id ?_ | refine sops_id ?_ | refine s2_id ?_); simp only [decide_eq_false hm, decide_eq_false h0', hT, hts, hdr, em, decide_eq_true c', go_sem, Nat.reduceEqDiff, Nat.reduceAdd, Nat.reduceSub, Nat.reduceMul, Nat.reduceLT, Nat.reduceLeDiff, ↓reduceIte, reduceCtorEq, List.reduceReplicate, Int.cast_ofNat_Int, Int.reduceEq, Int.reduceLT, Int.reduceLE, SV.ren, SV.renL, Cell.ren, Row.ren, renO, bk, back, outUpsFrom, Ints_ren])
    | (apply fs_nil <;> (try simp only [go_sem, resV, resS, SV.ren, SV.renL, Cell.ren, St.tmF, St.hpF, idx, renO, Row.ren, evS, slot, lookR, Nat.reduceEqDiff, ↓reduceIte, reduceCtorEq, if_true, if_false, Option.getD_some, Option.getD_none, List.map_cons, List.map_nil, sLoad, readAt, readNeed, Ints_ren, Ints_length, Ints_getD, and_true, true_and, List.getD_cons_zero, List.getD_cons_succ]) <;> (try rfl)))
    · have c' : ¬ 10000 < 100 * min n 1000 := by omega
      have e' : 100 * n + 0 = 100 * min n 1000 := by omega
      rw [if_neg c, e']
      refine fnspec_of mixed TT_ok TT_cl ⟨fun _ => false, fun _ => [], 0, fun _ => false, fun _ => false⟩ Tryd.func15 rfl (by kernel_rfl) rfl 60 rfl [.tmp 2, .tmp 3] rfl ?_
      simp only [go_sem, Nat.reduceEqDiff, Nat.reduceAdd, Nat.reduceSub, Nat.reduceMul, Nat.reduceLT, Nat.reduceLeDiff, ↓reduceIte, reduceCtorEq, List.reduceReplicate, Int.cast_ofNat_Int, Int.reduceEq, Int.reduceLT, Int.reduceLE, decide_eq_false hm, decide_eq_false h0', hT, hts, hdr, em, decide_eq_false c']
      repeat' (first
    | with_reducible refine And.intro ?_ ?_
    | (intros; (try simp only [Bool.and_eq_true, Bool.or_eq_true, Bool.not_eq_true', Bool.not_eq_false', Bool.and_eq_false_iff, Bool.or_eq_false_iff, decide_eq_true_eq, decide_eq_false_iff_not] at *); omega)
    | (apply cl_plain
       case hs => rfl
       case ha => (simp only [List.map_cons, List.map_nil, prepV, prepC, idx, hpL', lookR, Nat.reduceEqDiff, if_true, if_false]; rfl)
       case h => (first | exact hd .. | exact hv ..))
    | ((first | refine s1_id ?_ | refine swp_id ?_ | refine sops_id ?_ | refine s2_id ?_); simp only [decide_eq_false hm, decide_eq_false h0', hT, hts, hdr, em, decide_eq_false c', go_sem, Nat.reduceEqDiff, Nat.reduceAdd, Nat.reduceSub, Nat.reduceMul, Nat.reduceLT, Nat.reduceLeDiff, ↓reduceIte, reduceCtorEq, List.reduceReplicate, Int.cast_ofNat_Int, Int.reduceEq, Int.reduceLT, Int.reduceLE, SV.ren, SV.renL, Cell.ren, Row.ren, renO, bk, back, outUpsFrom, Ints_ren])
    | (apply fs_nil <;> (try simp only [go_sem, resV, resS, SV.ren, SV.renL, Cell.ren, St.tmF, St.hpF, idx, renO, Row.ren, evS, slot, lookR, Nat.reduceEqDiff, ↓reduceIte, reduceCtorEq, if_true, if_false, Option.getD_some, Option.getD_none, List.map_cons, List.map_nil, sLoad, readAt, readNeed, Ints_ren, Ints_length, Ints_getD, and_true, true_and, List.getD_cons_zero, List.getD_cons_succ]) <;> (try rfl)))
  have hdl : dgN s < s.length := by omega
  obtain ⟨b, hb⟩ : ∃ b, s[dgN s]? = some b := ⟨_, List.getElem?_eq_getElem hdl⟩
  obtain ⟨R, hR⟩ : ∃ R, s.drop (dgN s) = R := ⟨_, rfl⟩
  have hRl : R.length = s.length - dgN s := by rw [← hR, List.length_drop]
  have hRc : R = b :: s.drop (dgN s + 1) := by rw [← hR, drop_at s _ b hb]
  obtain ⟨Q, hQ⟩ : ∃ Q, s.drop (dgN s + 1) = Q := ⟨_, rfl⟩
  rw [hQ] at hRc
  have hRn : ¬ R = [] := by rw [hRc]; simp
  have hR0 : (R[Int.toNat 0]?).getD 0 = b := by rw [hRc]; rfl
  have hR1 : R.drop (Int.toNat 1) = Q := by rw [hRc]; rfl
  have hRt : R.take R.length = R := List.take_length
  have hQl : Q.length + 1 = R.length := by rw [hRc]; rfl
  have hk := digits_spec Q (by omega)
  have hkl := dgN_le Q
  have q1 : 1 ≤ R.length := by omega
  have q0 : 0 < R.length := by omega
  by_cases h46 : (b.toNat : Int) = 46
  case neg =>
    rw [pHu_bad s hm (.inr ⟨hdl, by rw [hb]; intro e; exact h46 (by rw [Option.some.inj e]; rfl)⟩)]
    clear hRc
    generalize hT : s.take (dgN s) = T at *
    generalize dgN s = d at *
    generalize dgN Q = k at *
    refine fnspec_of mixed TT_ok TT_cl ⟨fun _ => false, fun _ => [], 0, fun _ => false, fun _ => false⟩ Tryd.func15 rfl (by kernel_rfl) rfl 60 rfl [.tmp 2, .tmp 3] rfl ?_
    simp only [go_sem, Nat.reduceEqDiff, Nat.reduceAdd, Nat.reduceSub, Nat.reduceMul, Nat.reduceLT, Nat.reduceLeDiff, ↓reduceIte, reduceCtorEq, List.reduceReplicate, Int.cast_ofNat_Int, Int.reduceEq, Int.reduceLT, Int.reduceLE, decide_eq_false hm, decide_eq_false h0', hT, hts, hR, em, decide_eq_false hRn, hR0, hR1, hRt, decide_eq_false h46]
    repeat' (first
    | with_reducible refine And.intro ?_ ?_
    | (intros; (try simp only [Bool.and_eq_true, Bool.or_eq_true, Bool.not_eq_true', Bool.not_eq_false', Bool.and_eq_false_iff, Bool.or_eq_false_iff, decide_eq_true_eq, decide_eq_false_iff_not] at *); omega)
    | (apply cl_plain
       case hs => rfl
       case ha => (simp only [List.map_cons, List.map_nil, prepV, prepC, idx, hpL', lookR, Nat.reduceEqDiff, if_true, if_false]; rfl)
       case h => (first | exact hd .. | exact hv .. | exact hk ..))
    | ((first | refine s1_id ?_ | refine swp_id ?_ | refine sops_id ?_ | refine s2_id ?_); simp only [decide_eq_false hm, decide_eq_false h0', hT, hts, hR, em, decide_eq_false hRn, hR0, hR1, hRt, decide_eq_false h46, go_sem, Nat.reduceEqDiff, Nat.reduceAdd, Nat.reduceSub, Nat.reduceMul, Nat.reduceLT, Nat.reduceLeDiff, ↓reduceIte, reduceCtorEq, List.reduceReplicate, Int.cast_ofNat_Int, Int.reduceEq, Int.reduceLT, Int.reduceLE, SV.ren, SV.renL, Cell.ren, Row.ren, renO, bk, back, outUpsFrom, Ints_ren])
    | (apply fs_nil <;> (try simp only [go_sem, resV, resS, SV.ren, SV.renL, Cell.ren, St.tmF, St.hpF, idx, renO, Row.ren, evS, slot, lookR, Nat.reduceEqDiff, ↓reduceIte, reduceCtorEq, if_true, if_false, Option.getD_some, Option.getD_none, List.map_cons, List.map_nil, sLoad, readAt, readNeed, Ints_ren, Ints_length, Ints_getD, and_true, true_and, List.getD_cons_zero, List.getD_cons_succ]) <;> (try rfl)))
  have hb46 : b = 46 := UInt8.toNat_inj.1 (by show b.toNat = 46; omega)
  have hpt := pHu_pt s hm (by rw [hb, hb46])
  rw [hQ] at hpt
  rw [hpt]
  clear hpt hRc
  have hbig : 2 < dgN Q → tl (s.take (dgN s)) Q = (0, 2) := fun h => tl_bad3 _ _ (by omega)
  have hlow : dgN Q = 0 ∨ dgN Q < Q.length → tl (s.take (dgN s)) Q = (0, 2) := by
    intro h
    refine tl_bad2 _ _ ?_
    by_cases hq0 : Q.length = 0
    · rw [List.length_eq_zero_iff.1 hq0, vR_nil]
    · rw [vR_bad Q (by omega)]
  by_cases k1 : ((dgN Q : Nat) : Int) < 1
  · rw [hlow (.inl (by omega))]
    generalize hT : s.take (dgN s) = T at *
    generalize dgN s = d at *
    generalize dgN Q = k at *
    refine fnspec_of mixed TT_ok TT_cl ⟨fun _ => false, fun _ => [], 0, fun _ => false, fun _ => false⟩ Tryd.func15 rfl (by kernel_rfl) rfl 60 rfl [.tmp 2, .tmp 3] rfl ?_
    simp only [go_sem, Nat.reduceEqDiff, Nat.reduceAdd, Nat.reduceSub, Nat.reduceMul, Nat.reduceLT, Nat.reduceLeDiff, ↓reduceIte, reduceCtorEq, List.reduceReplicate, Int.cast_ofNat_Int, Int.reduceEq, Int.reduceLT, Int.reduceLE, decide_eq_false hm, decide_eq_false h0', hT, hts, hR, em, decide_eq_false hRn, hR0, hR1, hRt, decide_eq_true h46, decide_eq_true k1]
    repeat' (first
    | with_reducible refine And.intro ?_ ?_
    | (intros; (try simp only [Bool.and_eq_true, Bool.or_eq_true, Bool.not_eq_true', Bool.not_eq_false', Bool.and_eq_false_iff, Bool.or_eq_false_iff, decide_eq_true_eq, decide_eq_false_iff_not] at *); omega)
    | (apply cl_plain
       case hs => rfl
       case ha => (simp only [List.map_cons, List.map_nil, prepV, prepC, idx, hpL', lookR, Nat.reduceEqDiff, if_true, if_false]; rfl)
       case h => (first | exact hd .. | exact hv .. | exact hk ..))
    | ((first | refine s1_id ?_ | refine swp_id ?_ | refine sops_id ?_ | refine s2_id ?_); simp only [decide_eq_false hm, decide_eq_false h0', hT, hts, hR, em, decide_eq_false hRn, hR0, hR1, hRt, decide_eq_true h46, decide_eq_true k1, go_sem, Nat.reduceEqDiff, Nat.reduceAdd, Nat.reduceSub, Nat.reduceMul, Nat.reduceLT, Nat.reduceLeDiff, ↓reduceIte, reduceCtorEq, List.reduceReplicate, Int.cast_ofNat_Int, Int.reduceEq, Int.reduceLT, Int.reduceLE, SV.ren, SV.renL, Cell.ren, Row.ren, renO, bk, back, outUpsFrom, Ints_ren])
    | (apply fs_nil <;> (try simp only [go_sem, resV, resS, SV.ren, SV.renL, Cell.ren, St.tmF, St.hpF, idx, renO, Row.ren, evS, slot, lookR, Nat.reduceEqDiff, ↓reduceIte, reduceCtorEq, if_true, if_false, Option.getD_some, Option.getD_none, List.map_cons, List.map_nil, sLoad, readAt, readNeed, Ints_ren, Ints_length, Ints_getD, and_true, true_and, List.getD_cons_zero, List.getD_cons_succ]) <;> (try rfl)))
  by_cases k2 : 2 < ((dgN Q : Nat) : Int)
  · rw [hbig (by omega)]
    generalize hT : s.take (dgN s) = T at *
    generalize dgN s = d at *
    generalize dgN Q = k at *
    refine fnspec_of mixed TT_ok TT_cl ⟨fun _ => false, fun _ => [], 0, fun _ => false, fun _ => false⟩ Tryd.func15 rfl (by kernel_rfl) rfl 60 rfl [.tmp 2, .tmp 3] rfl ?_
    simp only [go_sem, Nat.reduceEqDiff, Nat.reduceAdd, Nat.reduceSub, Nat.reduceMul, Nat.reduceLT, Nat.reduceLeDiff, ↓reduceIte, reduceCtorEq, List.reduceReplicate, Int.cast_ofNat_Int, Int.reduceEq, Int.reduceLT, Int.reduceLE, decide_eq_false hm, decide_eq_false h0', hT, hts, hR, em, decide_eq_false hRn, hR0, hR1, hRt, decide_eq_true h46, decide_eq_false k1, decide_eq_true k2]
    repeat' (first
    | with_reducible refine And.intro ?_ ?_
    | (intros; (try simp only [Bool.and_eq_true, Bool.or_eq_true, Bool.not_eq_true', Bool.not_eq_false', Bool.and_eq_false_iff, Bool.or_eq_false_iff, decide_eq_true_eq, decide_eq_false_iff_not] at *); omega)
    | (apply cl_plain
       case hs => rfl
       case ha => (simp only [List.map_cons, List.map_nil, prepV, prepC, idx, hpL', lookR, Nat.reduceEqDiff, if_true, if_false]; rfl)
       case h => (first | exact hd .. | exact hv .. | exact hk ..))
    | ((first | refine s1_id ?_ | refine swp_id ?_ | refine sops_id ?_ | refine s2_id ?_); simp only [decide_eq_false hm, decide_eq_false h0', hT, hts, hR, em, decide_eq_false hRn, hR0, hR1, hRt, decide_eq_true h46, decide_eq_false k1, decide_eq_true k2, go_sem, Nat.reduceEqDiff, Nat.reduceAdd, Nat.reduceSub, Nat.reduceMul, Nat.reduceLT, Nat.reduceLeDiff, ↓reduceIte, reduceCtorEq, List.reduceReplicate, Int.cast_ofNat_Int, Int.reduceEq, Int.reduceLT, Int.reduceLE, SV.ren, SV.renL, Cell.ren, Row.ren, renO, bk, back, outUpsFrom, Ints_ren])
    | (apply fs_nil <;> (try simp only [go_sem, resV, resS, SV.ren, SV.renL, Cell.ren, St.tmF, St.hpF, idx, renO, Row.ren, evS, slot, lookR, Nat.reduceEqDiff, ↓reduceIte, reduceCtorEq, if_true, if_false, Option.getD_some, Option.getD_none, List.map_cons, List.map_nil, sLoad, readAt, readNeed, Ints_ren, Ints_length, Ints_getD, and_true, true_and, List.getD_cons_zero, List.getD_cons_succ]) <;> (try rfl)))
  by_cases k3 : ((dgN Q : Nat) : Int) + 1 = (R.length : Int)
  case neg =>
    rw [hlow (.inr (by omega))]
    generalize hT : s.take (dgN s) = T at *
    generalize dgN s = d at *
    generalize dgN Q = k at *
    refine fnspec_of mixed TT_ok TT_cl ⟨fun _ => false, fun _ => [], 0, fun _ => false, fun _ => false⟩ Tryd.func15 rfl (by kernel_rfl) rfl 60 rfl [.tmp 2, .tmp 3] rfl ?_
    simp only [go_sem, Nat.reduceEqDiff, Nat.reduceAdd, Nat.reduceSub, Nat.reduceMul, Nat.reduceLT, Nat.reduceLeDiff, ↓reduceIte, reduceCtorEq, List.reduceReplicate, Int.cast_ofNat_Int, Int.reduceEq, Int.reduceLT, Int.reduceLE, decide_eq_false hm, decide_eq_false h0', hT, hts, hR, em, decide_eq_false hRn, hR0, hR1, hRt, decide_eq_true h46, decide_eq_false k1, decide_eq_false k2, decide_eq_false k3]
    repeat' (first
    | with_reducible refine And.intro ?_ ?_
    | (intros; (try simp only [Bool.and_eq_true, Bool.or_eq_true, Bool.not_eq_true', Bool.not_eq_false', Bool.and_eq_false_iff, Bool.or_eq_false_iff, decide_eq_true_eq, decide_eq_false_iff_not] at *); omega)
    | (apply cl_plain
       case hs => rfl
       case ha => (simp only [List.map_cons, List.map_nil, prepV, prepC, idx, hpL', lookR, Nat.reduceEqDiff, if_true, if_false]; rfl)
       case h => (first | exact hd .. | exact hv .. | exact hk ..))
    | ((first | refine s1_id ?_ | refine swp_id ?_ | refine sops_id ?_ | refine s2_id ?_); simp only [decide_eq_false hm, decide_eq_false h0', hT, hts, hR, em, decide_eq_false hRn, hR0, hR1, hRt, decide_eq_true h46, decide_eq_false k1, decide_eq_false k2, decide_eq_false k3, go_sem, Nat.reduceEqDiff, Nat.reduceAdd, Nat.reduceSub, Nat.reduceMul, Nat.reduceLT, Nat.reduceLeDiff, ↓reduceIte, reduceCtorEq, List.reduceReplicate, Int.cast_ofNat_Int, Int.reduceEq, Int.reduceLT, Int.reduceLE, SV.ren, SV.renL, Cell.ren, Row.ren, renO, bk, back, outUpsFrom, Ints_ren])
    | (apply fs_nil <;> (try simp only [go_sem, resV, resS, SV.ren, SV.renL, Cell.ren, St.tmF, St.hpF, idx, renO, Row.ren, evS, slot, lookR, Nat.reduceEqDiff, ↓reduceIte, reduceCtorEq, if_true, if_false, Option.getD_some, Option.getD_none, List.map_cons, List.map_nil, sLoad, readAt, readNeed, Ints_ren, Ints_length, Ints_getD, and_true, true_and, List.getD_cons_zero, List.getD_cons_succ]) <;> (try rfl)))
  obtain ⟨f, hf1, hf2, hf3, hf4⟩ := vR_dig Q (by omega) (by omega)
  have hvq := rvalue_spec Q (by omega) f hf1
  have c1 : ¬ (2 : Int) < (Q.length : Int) := by omega
  unfold tl kOf
  rw [hn2, hf2]
  simp only [if_true]
  rw [if_neg c1]
  by_cases k4 : ((dgN Q : Nat) : Int) = 1
  · rw [if_pos (show (Q.length : Int) = 1 by omega)]
    clear hn2 hbig hlow
    generalize hT : s.take (dgN s) = T at *
    generalize dgN s = d at *
    generalize dgN Q = k at *
    by_cases c : 10000 < 100 * n + f * 10
    · have c' : 10000 < 100 * min n 1000 + f * 10 := by omega
      rw [if_pos c]
      refine fnspec_of mixed TT_ok TT_cl ⟨fun _ => false, fun _ => [], 0, fun _ => false, fun _ => false⟩ Tryd.func15 rfl (by kernel_rfl) rfl 60 rfl [.tmp 2, .tmp 3] rfl ?_
      simp only [go_sem, Nat.reduceEqDiff, Nat.reduceAdd, Nat.reduceSub, Nat.reduceMul, Nat.reduceLT, Nat.reduceLeDiff, ↓reduceIte, reduceCtorEq, List.reduceReplicate, Int.cast_ofNat_Int, Int.reduceEq, Int.reduceLT, Int.reduceLE, decide_eq_false hm, decide_eq_false h0', hT, hts, hR, em, decide_eq_false hRn, hR0, hR1, hRt, decide_eq_true h46, decide_eq_false k1, decide_eq_false k2, decide_eq_true k3, decide_eq_true k4, decide_eq_true c']
      repeat' (first
    | with_reducible refine And.intro ?_ ?_
    | (intros; (try simp only [Bool.and_eq_true, Bool.or_eq_true, Bool.not_eq_true', Bool.not_eq_false', Bool.and_eq_false_iff, Bool.or_eq_false_iff, decide_eq_true_eq, decide_eq_false_iff_not] at *); omega)
    | (apply cl_plain
       case hs => rfl
       case ha => (simp only [List.map_cons, List.map_nil, prepV, prepC, idx, hpL', lookR, Nat.reduceEqDiff, if_true, if_false]; rfl)
       case h => (first | exact hd .. | exact hv .. | exact hk .. | exact hvq ..))
    | ((first | refine s1_id ?_ | refine swp_id ?_ | refine sops_id ?_ | refine s2_id ?_); simp only [decide_eq_false hm, decide_eq_false h0', hT, hts, hR, em, decide_eq_false hRn, hR0, hR1, hRt, decide_eq_true h46, decide_eq_false k1, decide_eq_false k2, decide_eq_true k3, decide_eq_true k4, decide_eq_true c', go_sem, Nat.reduceEqDiff, Nat.reduceAdd, Nat.reduceSub, Nat.reduceMul, Nat.reduceLT, Nat.reduceLeDiff, ↓reduceIte, reduceCtorEq, List.reduceReplicate, Int.cast_ofNat_Int, Int.reduceEq, Int.reduceLT, Int.reduceLE, SV.ren, SV.renL, Cell.ren, Row.ren, renO, bk, back, outUpsFrom, Ints_ren])
    | (apply fs_nil <;> (try simp only [go_sem, resV, resS, SV.ren, SV.renL, Cell.ren, St.tmF, St.hpF, idx, renO, Row.ren, evS, slot, lookR, Nat.reduceEqDiff, ↓reduceIte, reduceCtorEq, if_true, if_false, Option.getD_some, Option.getD_none, List.map_cons, List.map_nil, sLoad, readAt, readNeed, Ints_ren, Ints_length, Ints_getD, and_true, true_and, List.getD_cons_zero, List.getD_cons_succ]) <;> (try rfl)))
    · have c' : ¬ 10000 < 100 * min n 1000 + f * 10 := by omega
      have e' : 100 * n + f * 10 = 100 * min n 1000 + f * 10 := by omega
      rw [if_neg c, e']
      refine fnspec_of mixed TT_ok TT_cl ⟨fun _ => false, fun _ => [], 0, fun _ => false, fun _ => false⟩ Tryd.func15 rfl (by kernel_rfl) rfl 60 rfl [.tmp 2, .tmp 3] rfl ?_
      simp only [go_sem, Nat.reduceEqDiff, Nat.reduceAdd, Nat.reduceSub, Nat.reduceMul, Nat.reduceLT, Nat.reduceLeDiff, ↓reduceIte, reduceCtorEq, List.reduceReplicate, Int.cast_ofNat_Int, Int.reduceEq, Int.reduceLT, Int.reduceLE, decide_eq_false hm, decide_eq_false h0', hT, hts, hR, em, decide_eq_false hRn, hR0, hR1, hRt, decide_eq_true h46, decide_eq_false k1, decide_eq_false k2, decide_eq_true k3, decide_eq_true k4, decide_eq_false c']
      repeat' (first
    | with_reducible refine And.intro ?_ ?_
    | (intros; (try simp only [Bool.and_eq_true, Bool.or_eq_true, Bool.not_eq_true', Bool.not_eq_false', Bool.and_eq_false_iff, Bool.or_eq_false_iff, decide_eq_true_eq, decide_eq_false_iff_not] at *); omega)
    | (apply cl_plain
       case hs => rfl
       case ha => (simp only [List.map_cons, List.map_nil, prepV, prepC, idx, hpL', lookR, Nat.reduceEqDiff, if_true, if_false]; rfl)
       case h => (first | exact hd .. | exact hv .. | exact hk .. | exact hvq ..))
    | ((first | refine s1_id ?_ | refine swp_id ?_ | refine sops_id ?_ | refine s2_id ?_); simp only [decide_eq_false hm, decide_eq_false h0', hT, hts, hR, em, decide_eq_false hRn, hR0, hR1, hRt, decide_eq_true h46, decide_eq_false k1, decide_eq_false k2, decide_eq_true k3, decide_eq_true k4, decide_eq_false c', go_sem, Nat.reduceEqDiff, Nat.reduceAdd, Nat.reduceSub, Nat.reduceMul, Nat.reduceLT, Nat.reduceLeDiff, ↓reduceIte, reduceCtorEq, List.reduceReplicate, Int.cast_ofNat_Int, Int.reduceEq, Int.reduceLT, Int.reduceLE, SV.ren, SV.renL, Cell.ren, Row.ren, renO, bk, back, outUpsFrom, Ints_ren])
    | (apply fs_nil <;> (try simp only [go_sem, resV, resS, SV.ren, SV.renL, Cell.ren, St.tmF, St.hpF, idx, renO, Row.ren, evS, slot, lookR, Nat.reduceEqDiff, ↓reduceIte, reduceCtorEq, if_true, if_false, Option.getD_some, Option.getD_none, List.map_cons, List.map_nil, sLoad, readAt, readNeed, Ints_ren, Ints_length, Ints_getD, and_true, true_and, List.getD_cons_zero, List.getD_cons_succ]) <;> (try rfl)))
  · rw [if_neg (show ¬ (Q.length : Int) = 1 by omega)]
    clear hn2 hbig hlow
    generalize hT : s.take (dgN s) = T at *
    generalize dgN s = d at *
    generalize dgN Q = k at *
    by_cases c : 10000 < 100 * n + f
    · have c' : 10000 < 100 * min n 1000 + f := by omega
      rw [if_pos c]
      refine fnspec_of mixed TT_ok TT_cl ⟨fun _ => false, fun _ => [], 0, fun _ => false, fun _ => false⟩ Tryd.func15 rfl (by kernel_rfl) rfl 60 rfl [.tmp 2, .tmp 3] rfl ?_
      simp only [go_sem, Nat.reduceEqDiff, Nat.reduceAdd, Nat.reduceSub, Nat.reduceMul, Nat.reduceLT, Nat.reduceLeDiff, ↓reduceIte, reduceCtorEq, List.reduceReplicate, Int.cast_ofNat_Int, Int.reduceEq, Int.reduceLT, Int.reduceLE, decide_eq_false hm, decide_eq_false h0', hT, hts, hR, em, decide_eq_false hRn, hR0, hR1, hRt, decide_eq_true h46, decide_eq_false k1, decide_eq_false k2, decide_eq_true k3, decide_eq_false k4, decide_eq_true c']
      repeat' (first
    | with_reducible refine And.intro ?_ ?_
    | (intros; (try simp only [Bool.and_eq_true, Bool.or_eq_true, Bool.not_eq_true', Bool.not_eq_false', Bool.and_eq_false_iff, Bool.or_eq_false_iff, decide_eq_true_eq, decide_eq_false_iff_not] at *); omega)
    | (apply cl_plain
       case hs => rfl
       case ha => (simp only [List.map_cons, List.map_nil, prepV, prepC, idx, hpL', lookR, Nat.reduceEqDiff, if_true, if_false]; rfl)
       case h => (first | exact hd .. | exact hv .. | exact hk .. | exact hvq ..))
    | ((first | refine s1_id ?_ | refine swp_id ?_ | refine sops_id ?_ | refine s2_id ?_); simp only [decide_eq_false hm, decide_eq_false h0', hT, hts, hR, em, decide_eq_false hRn, hR0, hR1, hRt, decide_eq_true h46, decide_eq_false k1, decide_eq_false k2, decide_eq_true k3, decide_eq_false k4, decide_eq_true c', go_sem, Nat.reduceEqDiff, Nat.reduceAdd, Nat.reduceSub, Nat.reduceMul, Nat.reduceLT, Nat.reduceLeDiff, ↓reduceIte, reduceCtorEq, List.reduceReplicate, Int.cast_ofNat_Int, Int.reduceEq, Int.reduceLT, Int.reduceLE, SV.ren, SV.renL, Cell.ren, Row.ren, renO, bk, back, outUpsFrom, Ints_ren])
    | (apply fs_nil <;> (try simp only [go_sem, resV, resS, SV.ren, SV.renL, Cell.ren, St.tmF, St.hpF, idx, renO, Row.ren, evS, slot, lookR, Nat.reduceEqDiff, ↓reduceIte, reduceCtorEq, if_true, if_false, Option.getD_some, Option.getD_none, List.map_cons, List.map_nil, sLoad, readAt, readNeed, Ints_ren, Ints_length, Ints_getD, and_true, true_and, List.getD_cons_zero, List.getD_cons_succ]) <;> (try rfl)))
    · have c' : ¬ 10000 < 100 * min n 1000 + f := by omega
      have e' : 100 * n + f = 100 * min n 1000 + f := by omega
      rw [if_neg c, e']
      refine fnspec_of mixed TT_ok TT_cl ⟨fun _ => false, fun _ => [], 0, fun _ => false, fun _ => false⟩ Tryd.func15 rfl (by kernel_rfl) rfl 60 rfl [.tmp 2, .tmp 3] rfl ?_
      simp only [go_sem, Nat.reduceEqDiff, Nat.reduceAdd, Nat.reduceSub, Nat.reduceMul, Nat.reduceLT, Nat.reduceLeDiff, ↓reduceIte, reduceCtorEq, List.reduceReplicate, Int.cast_ofNat_Int, Int.reduceEq, Int.reduceLT, Int.reduceLE, decide_eq_false hm, decide_eq_false h0', hT, hts, hR, em, decide_eq_false hRn, hR0, hR1, hRt, decide_eq_true h46, decide_eq_false k1, decide_eq_false k2, decide_eq_true k3, decide_eq_false k4, decide_eq_false c']
      repeat' (first
    | with_reducible refine And.intro ?_ ?_
    | (intros; (try simp only [Bool.and_eq_true, Bool.or_eq_true, Bool.not_eq_true', Bool.not_eq_false', Bool.and_eq_false_iff, Bool.or_eq_false_iff, decide_eq_true_eq, decide_eq_false_iff_not] at *); omega)
    | (apply cl_plain
       case hs => rfl
       case ha => (simp only [List.map_cons, List.map_nil, prepV, prepC, idx, hpL', lookR, Nat.reduceEqDiff, if_true, if_false]; rfl)
       case h => (first | exact hd .. | exact hv .. | exact hk .. | exact hvq ..))
    | ((first | refine s1_id ?_ | refine swp_id ?_ | refine sops_id ?_ | refine s2_id ?_); simp only [decide_eq_false hm, decide_eq_false h0', hT, hts, hR, em, decide_eq_false hRn, hR0, hR1, hRt, decide_eq_true h46, decide_eq_false k1, decide_eq_false k2, decide_eq_true k3, decide_eq_false k4, decide_eq_false c', go_sem, Nat.reduceEqDiff, Nat.reduceAdd, Nat.reduceSub, Nat.reduceMul, Nat.reduceLT, Nat.reduceLeDiff, ↓reduceIte, reduceCtorEq, List.reduceReplicate, Int.cast_ofNat_Int, Int.reduceEq, Int.reduceLT, Int.reduceLE, SV.ren, SV.renL, Cell.ren, Row.ren, renO, bk, back, outUpsFrom, Ints_ren])
    | (apply fs_nil <;> (try simp only [go_sem, resV, resS, SV.ren, SV.renL, Cell.ren, St.tmF, St.hpF, idx, renO, Row.ren, evS, slot, lookR, Nat.reduceEqDiff, ↓reduceIte, reduceCtorEq, if_true, if_false, Option.getD_some, Option.getD_none, List.map_cons, List.map_nil, sLoad, readAt, readNeed, Ints_ren, Ints_length, Ints_getD, and_true, true_and, List.getD_cons_zero, List.getD_cons_succ]) <;> (try rfl)))
end Go.Proofs.YtfkcolodbjonkabDoor
