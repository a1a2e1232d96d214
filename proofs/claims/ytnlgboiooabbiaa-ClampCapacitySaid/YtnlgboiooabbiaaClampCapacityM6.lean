/- Contracts of functions, told of values, on the way to ClampCapacity (part 6). -/
import Derived.Test.YtnlgboiooabbiaaClampCapacityM3
import Derived.Test.YtnlgboiooabbiaaClampCapacityM4
import Derived.Test.YtnlgboiooabbiaaClampCapacityM5
-- NEWGO
-- PRUNE: cl_lendx cl_use
-- ISG: Cs_isG
-- FLAT: Cs_flat
namespace Go.Proofs.Ytnlgboiooabbiaa
set_option linter.unusedVariables false
set_option linter.unusedSimpArgs false
open Go.Proofs.Ytnlgboiooabbiaa.Sh
set_option maxRecDepth 20000
theorem has_spec (a : List Int) (k : Option Nat) (x : Int) (hl : a.length ≤ 1000000) : FnSpec Try.prog 33 [gi a k, i1 x] [] (b1 (decide (x ∈ a))) [] := by
  refine fnspec_of mixed TT_ok TT_cl ⟨fun _ => false, fun _ => [], 0, fun _ => false, fun _ => false⟩ Try.func33 rfl (by kernel_rfl) rfl 18 rfl [.tmp 4] rfl ?_
  simp only [go_sem, Nat.reduceEqDiff, Nat.reduceAdd, Nat.reduceSub, Nat.reduceMul, Nat.reduceLT, Nat.reduceLeDiff, ↓reduceIte, reduceCtorEq, List.reduceReplicate, Int.cast_ofNat_Int, Int.reduceEq, Int.reduceLT, Int.reduceLE]
  repeat' (first
    | ((first | refine s1_id ?_ | refine swp_id ?_ | refine sops_id ?_ | refine s2_id ?_); simp only [go_sem, Nat.reduceEqDiff, Nat.reduceAdd, Nat.reduceSub, Nat.reduceMul, Nat.reduceLT, Nat.reduceLeDiff, ↓reduceIte, reduceCtorEq, List.reduceReplicate, Int.cast_ofNat_Int, Int.reduceEq, Int.reduceLT, Int.reduceLE, SV.ren, SV.renL, Cell.ren, Row.ren, renO, bk, back, outUpsFrom, Ints_ren]))
  refine w_loop (ι := Nat) (fun i => ⟨[(0, gi a k), (1, i1 x), (5, i1 i)], [], 0⟩) (fun i => i ≤ a.length ∧ (x ∈ a ↔ x ∈ a.drop i)) (fun i => a.length - i) 0 ?_ ⟨Nat.zero_le _, Iff.rfl⟩ ?_
  · (refine imp_sub _ _ _ [] (by simp) (by simp) (by simp) (Nat.zero_le _) ?_ rfl (by simp); simp only [List.forall_mem_cons, List.not_mem_nil, false_implies, implies_true, and_true, lk, slot, SV.ren, Cell.ren, Nat.reduceEqDiff, if_true, if_false, ↓reduceIte, reduceCtorEq])
    all_goals ((repeat' apply And.intro) <;> (first | rfl | trivial))
  rintro i ⟨hi, he⟩
  simp only at hi he ⊢
  rcases Nat.lt_or_ge i a.length with hlt | hge
  case inr =>
    have c : ¬ (i : Int) < (a.length : Int) := by omega
    rw [List.drop_of_length_le hge] at he
    rw [decide_eq_false (fun h => absurd (he.1 h) List.not_mem_nil)]
    simp only [go_sem, Nat.reduceEqDiff, Nat.reduceAdd, Nat.reduceSub, Nat.reduceMul, Nat.reduceLT, Nat.reduceLeDiff, ↓reduceIte, reduceCtorEq, List.reduceReplicate, Int.cast_ofNat_Int, Int.reduceEq, Int.reduceLT, Int.reduceLE, decide_eq_false c]
    repeat' (first
    | (apply fs_nil <;> (try simp only [go_sem, resV, resS, SV.ren, SV.renL, Cell.ren, St.tmF, St.hpF, idx, renO, Row.ren, evS, slot, lookR, Nat.reduceEqDiff, ↓reduceIte, reduceCtorEq, if_true, if_false, Option.getD_some, Option.getD_none, List.map_cons, List.map_nil, sLoad, readAt, readNeed, Ints_ren, Ints_length, Ints_getD, and_true, true_and, List.getD_cons_zero, List.getD_cons_succ]) <;> (try rfl)))
  have c : (i : Int) < (a.length : Int) := by omega
  rw [drop_getD a i 0 hlt, List.mem_cons] at he
  by_cases hx : a.getD i 0 = x
  · rw [decide_eq_true (he.2 (Or.inl hx.symm))]
    simp only [go_sem, Nat.reduceEqDiff, Nat.reduceAdd, Nat.reduceSub, Nat.reduceMul, Nat.reduceLT, Nat.reduceLeDiff, ↓reduceIte, reduceCtorEq, List.reduceReplicate, Int.cast_ofNat_Int, Int.reduceEq, Int.reduceLT, Int.reduceLE, decide_eq_true c, decide_eq_true hx]
    repeat' (first
    | with_reducible refine And.intro ?_ ?_
    | (intros; (try simp only [Bool.and_eq_true, Bool.or_eq_true, Bool.not_eq_true', Bool.not_eq_false', Bool.and_eq_false_iff, Bool.or_eq_false_iff, decide_eq_true_eq, decide_eq_false_iff_not] at *); omega)
    | (apply fs_nil <;> (try simp only [go_sem, resV, resS, SV.ren, SV.renL, Cell.ren, St.tmF, St.hpF, idx, renO, Row.ren, evS, slot, lookR, Nat.reduceEqDiff, ↓reduceIte, reduceCtorEq, if_true, if_false, Option.getD_some, Option.getD_none, List.map_cons, List.map_nil, sLoad, readAt, readNeed, Ints_ren, Ints_length, Ints_getD, and_true, true_and, List.getD_cons_zero, List.getD_cons_succ]) <;> (try rfl)))
  · have he2 : x ∈ a ↔ x ∈ a.drop (i + 1) := he.trans ⟨fun h => h.resolve_left (fun e => hx e.symm), Or.inr⟩
    simp only [go_sem, Nat.reduceEqDiff, Nat.reduceAdd, Nat.reduceSub, Nat.reduceMul, Nat.reduceLT, Nat.reduceLeDiff, ↓reduceIte, reduceCtorEq, List.reduceReplicate, Int.cast_ofNat_Int, Int.reduceEq, Int.reduceLT, Int.reduceLE, decide_eq_true c, decide_eq_false hx]
    repeat' (first
    | with_reducible refine And.intro ?_ ?_
    | (intros; (try simp only [Bool.and_eq_true, Bool.or_eq_true, Bool.not_eq_true', Bool.not_eq_false', Bool.and_eq_false_iff, Bool.or_eq_false_iff, decide_eq_true_eq, decide_eq_false_iff_not] at *); omega)
    | ((first | refine s1_id ?_ | refine swp_id ?_ | refine sops_id ?_ | refine s2_id ?_); simp only [decide_eq_true c, decide_eq_false hx, go_sem, Nat.reduceEqDiff, Nat.reduceAdd, Nat.reduceSub, Nat.reduceMul, Nat.reduceLT, Nat.reduceLeDiff, ↓reduceIte, reduceCtorEq, List.reduceReplicate, Int.cast_ofNat_Int, Int.reduceEq, Int.reduceLT, Int.reduceLE, SV.ren, SV.renL, Cell.ren, Row.ren, renO, bk, back, outUpsFrom, Ints_ren]))
    refine le_mk (i + 1) ?_ ⟨hlt, he2⟩ (by omega)
    (refine imp_sub _ _ _ [] (by simp) (by simp) (by simp) (Nat.zero_le _) ?_ rfl (by simp); simp only [List.forall_mem_cons, List.not_mem_nil, false_implies, implies_true, and_true, lk, slot, SV.ren, Cell.ren, Nat.reduceEqDiff, if_true, if_false, ↓reduceIte, reduceCtorEq])
    all_goals ((repeat' apply And.intro) <;> (first | rfl | trivial | (simp only [Int.natCast_add]; done) | (simp only [Int.natCast_add]; rfl) | (simp only [Int.natCast_add]; trivial)))
def subF (l : List Nd) : Nat → Int → List Int
  | 0, _ => []
  | f + 1, id => id :: (kidsL l id).flatMap (subF l f)
theorem kidsL_mem {l : List Nd} {id x : Int} : x ∈ kidsL l id ↔ ∃ j, j < l.length ∧ (gN l j).p = id ∧ (gN l j).i = x := by
  unfold kidsL
  rw [List.mem_map]
  constructor
  · rintro ⟨y, hy, rfl⟩
    rw [List.mem_filter] at hy
    obtain ⟨j, hj, rfl⟩ := gN_mem l y hy.1
    exact ⟨j, hj, of_decide_eq_true hy.2, rfl⟩
  · rintro ⟨j, hj, hp, rfl⟩
    exact ⟨gN l j, List.mem_filter.2 ⟨getD_mem l j zn hj, decide_eq_true hp⟩, rfl⟩
theorem VT.kid {l : List Nd} {n : Int} (h : VT l n) {i j : Nat} (hi : i < l.length) (hj : j < l.length) (hp : (gN l j).p = (gN l i).i) : i < j ∧ j ≠ 0 := by
  have h0 : j ≠ 0 := by
    rintro rfl
    have := h.pos hi
    rw [h.root.2.1] at hp
    omega
  obtain ⟨q, hq, he⟩ := (h.ch hj h0).par
  have := h.asc.inj (i := q) (j := i) (by omega) hi (by rw [he, hp])
  omega
theorem subF_self {l : List Nd} {f : Nat} {id : Int} (h : 0 < f) : id ∈ subF l f id := by
  cases f with
  | zero => omega
  | succ f => exact List.mem_cons_self
theorem subF_kid {l : List Nd} {n : Int} (h : VT l n) : ∀ (f k j i : Nat), k < l.length → j < l.length → i < l.length → l.length - k ≤ f → (gN l i).p = (gN l j).i → (gN l j).i ∈ subF l f (gN l k).i → (gN l i).i ∈ subF l f (gN l k).i
  | 0, k, _, _, hk, _, _, hf, _, _ => by omega
  | f + 1, k, j, i, hk, hj, hi, hf, hp, hm => by
    rw [subF, List.mem_cons] at hm ⊢
    right
    rw [List.mem_flatMap]
    rcases hm with he | hm
    · have := h.asc.inj hj hk he
      subst this
      have hlt := h.kid hj hi hp
      exact ⟨(gN l i).i, kidsL_mem.2 ⟨i, hi, hp, rfl⟩, subF_self (by omega)⟩
    · rw [List.mem_flatMap] at hm
      obtain ⟨c, hc, hcm⟩ := hm
      obtain ⟨q, hq, hqp, rfl⟩ := kidsL_mem.1 hc
      have hlt := h.kid hk hq hqp
      exact ⟨(gN l q).i, hc, subF_kid h f q j i hq hj hi (by omega) hp hcm⟩
theorem subF_up {l : List Nd} {n : Int} (h : VT l n) {k f : Nat} (hk : k < l.length) (hf : l.length - k ≤ f) : ∀ i, i < l.length → (gN l k).i ∈ upL l (gN l i).i → (gN l i).i ∈ subF l f (gN l k).i := fun i => by
  induction i using Nat.strongRecOn with
  | _ i ih =>
    intro hi hm
    by_cases h0 : i = 0
    · subst h0
      have hr := h.root.1
      rw [hr, h.up0, List.mem_singleton] at hm
      have := h.asc.inj hk hi (by rw [hm, hr])
      subst this
      exact subF_self (by omega)
    · rw [h.up hi h0, List.mem_cons] at hm
      rcases hm with he | hm
      · have := h.asc.inj hk hi he
        subst this
        exact subF_self (by omega)
      · obtain ⟨j, hj, hp⟩ := (h.ch hi h0).par
        rw [← hp] at hm
        exact subF_kid h f k j i hk (by omega) hi hf hp.symm (ih j hj (by omega) hm)
theorem up_le {l : List Nd} {n : Int} (h : VT l n) : ∀ i, i < l.length → ∀ x ∈ upL l (gN l i).i, ∃ t, t ≤ i ∧ (gN l t).i = x := fun i => by
  induction i using Nat.strongRecOn with
  | _ i ih =>
    intro hi x hx
    by_cases h0 : i = 0
    · subst h0
      have hr := h.root.1
      rw [hr, h.up0, List.mem_singleton] at hx
      exact ⟨0, Nat.le_refl _, by rw [hr, hx]⟩
    · rw [h.up hi h0, List.mem_cons] at hx
      rcases hx with rfl | hx
      · exact ⟨i, Nat.le_refl _, rfl⟩
      · obtain ⟨j, hj, hp⟩ := (h.ch hi h0).par
        rw [← hp] at hx
        obtain ⟨t, ht, e⟩ := ih j hj (by omega) x hx
        exact ⟨t, by omega, e⟩
theorem up_low {l : List Nd} {n : Int} (h : VT l n) : ∀ i, i < l.length → ∀ c y, c < l.length → y < l.length → (gN l c).i ∈ upL l (gN l i).i → (gN l y).i ∈ upL l (gN l i).i → y < c → (gN l y).i ∈ upL l (gN l c).p := fun i => by
  induction i using Nat.strongRecOn with
  | _ i ih =>
    intro hi c y hc hy hcm hym hyc
    by_cases h0 : i = 0
    · subst h0
      obtain ⟨t, ht, e⟩ := up_le h 0 hi _ hcm
      have := h.asc.inj (i := t) (j := c) (by omega) hc e
      omega
    · rw [h.up hi h0, List.mem_cons] at hcm hym
      obtain ⟨j, hj, hp⟩ := (h.ch hi h0).par
      rcases hcm with e | hcm
      · have := h.asc.inj hc hi e
        subst this
        rcases hym with e | hym
        · have := h.asc.inj hy hc e
          omega
        · exact hym
      · rw [← hp] at hcm hym
        obtain ⟨t, ht, e⟩ := up_le h j (by omega) _ hcm
        have := h.asc.inj (i := t) (j := c) (by omega) hc e
        rcases hym with e | hym
        · have := h.asc.inj hy hi e
          omega
        · exact ih j hj (by omega) c y hc hy hcm hym hyc
theorem up_trans {l : List Nd} {n : Int} (h : VT l n) {q k : Nat} (hq : q < l.length) (hk : k < l.length) (hp : (gN l q).p = (gN l k).i) : ∀ i, i < l.length → ∀ {x : Int}, (gN l i).i = x → (gN l q).i ∈ upL l x → (gN l k).i ∈ upL l x := fun i => by
  induction i using Nat.strongRecOn with
  | _ i ih =>
    intro hi x hx hm
    subst hx
    by_cases h0 : i = 0
    · subst h0
      obtain ⟨t, ht, e⟩ := up_le h 0 hi _ hm
      have := h.asc.inj (i := t) (j := q) (by omega) hq e
      have := (h.kid hk hq hp).1
      omega
    · rw [h.up hi h0, List.mem_cons] at hm ⊢
      obtain ⟨j, hj, hpj⟩ := (h.ch hi h0).par
      right
      rcases hm with e | hm
      · have := h.asc.inj hq hi e
        subst this
        rw [hp, upL_node h.asc hk]
        exact List.mem_cons_self
      · rw [← hpj] at hm ⊢
        exact ih j hj (by omega) rfl hm
theorem subF_ge {l : List Nd} {n : Int} (h : VT l n) : ∀ (f k : Nat) (x : Int), k < l.length → x ∈ subF l f (gN l k).i → ∃ i, k ≤ i ∧ i < l.length ∧ (gN l i).i = x ∧ (gN l k).i ∈ upL l x
  | 0, _, _, _, hx => by cases hx
  | f + 1, k, x, hk, hx => by
    rw [subF, List.mem_cons] at hx
    rcases hx with rfl | hx
    · exact ⟨k, Nat.le_refl _, hk, rfl, by rw [upL_node h.asc hk]; exact List.mem_cons_self⟩
    · rw [List.mem_flatMap] at hx
      obtain ⟨c, hc, hcm⟩ := hx
      obtain ⟨q, hq, hqp, rfl⟩ := kidsL_mem.1 hc
      have hlt := h.kid hk hq hqp
      obtain ⟨i, hi1, hi2, hi3, hi4⟩ := subF_ge h f q x hq hcm
      refine ⟨i, by omega, hi2, hi3, ?_⟩
      exact up_trans h hq hk hqp i hi2 hi3 hi4
theorem nodup_le : ∀ (A B : List Int), A.Nodup → (∀ x ∈ A, x ∈ B) → A.length ≤ B.length
  | [], _, _, _ => Nat.zero_le _
  | a :: A, B, h, hs => by
    have ha := hs a List.mem_cons_self
    have h1 := nodup_le A (B.erase a) (List.nodup_cons.1 h).2 (fun x hx => by
      have : x ≠ a := fun e => (List.nodup_cons.1 h).1 (by rw [← e]; exact hx)
      exact (List.mem_erase_of_ne this).2 (hs x (List.mem_cons_of_mem _ hx)))
    rw [List.length_erase_of_mem ha] at h1
    have := List.length_pos_of_mem ha
    rw [List.length_cons]; omega
theorem kidsL_asc {l : List Nd} {n : Int} (h : VT l n) (id : Int) : (kidsL l id).Pairwise (· < ·) := by
  unfold kidsL
  rw [List.pairwise_map]
  exact ((h.vl.asc).filter _).imp fun h => h
theorem subF_nodup {l : List Nd} {n : Int} (h : VT l n) : ∀ (f k : Nat), k < l.length → (subF l f (gN l k).i).Nodup
  | 0, _, _ => List.nodup_nil
  | f + 1, k, hk => by
    rw [subF, List.nodup_cons]
    refine ⟨fun hm => ?_, ?_⟩
    · rw [List.mem_flatMap] at hm
      obtain ⟨c, hc, hcm⟩ := hm
      obtain ⟨q, hq, hqp, rfl⟩ := kidsL_mem.1 hc
      have hlt := h.kid hk hq hqp
      obtain ⟨i, hi1, hi2, hi3, _⟩ := subF_ge h f q _ hq hcm
      have := h.asc.inj hi2 hk hi3
      omega
    · unfold List.Nodup
      rw [List.pairwise_flatMap]
      refine ⟨fun c hc => ?_, ?_⟩
      · obtain ⟨q, hq, hqp, rfl⟩ := kidsL_mem.1 hc
        exact subF_nodup h f q hq
      · refine (kidsL_asc h (gN l k).i).imp_of_mem fun {a b} ha hb hab x hx y hy hxy => ?_
        subst hxy
        obtain ⟨q, hq, hqp, rfl⟩ := kidsL_mem.1 ha
        obtain ⟨r, hr, hrp, rfl⟩ := kidsL_mem.1 hb
        obtain ⟨i, hi1, hi2, hi3, hi4⟩ := subF_ge h f q _ hq hx
        obtain ⟨j, hj1, hj2, hj3, hj4⟩ := subF_ge h f r _ hr hy
        have hqr : q < r := by
          rcases Nat.lt_or_ge q r with c | c
          · exact c
          · rcases Nat.lt_or_ge r q with d | d
            · have := h.asc r q d hq; omega
            · have : q = r := by omega
              subst this; omega
        rw [← hi3] at hi4 hj4
        have h3 := up_low h i hi2 r q hr hq hj4 hi4 hqr
        rw [hrp] at h3
        obtain ⟨t, ht, hte⟩ := up_le h k hk _ h3
        have := h.asc.inj (i := q) (j := t) hq (by omega) hte.symm
        have := (h.kid hk hq hqp).1
        omega
theorem subF_len {l : List Nd} {n : Int} (h : VT l n) (f k : Nat) (hk : k < l.length) : (subF l f (gN l k).i).length ≤ l.length := by
  have := nodup_le _ (l.map (·.i)) (subF_nodup h f k hk) (fun x hx => by
    obtain ⟨i, _, hi, e, _⟩ := subF_ge h f k x hk hx
    exact List.mem_map.2 ⟨gN l i, getD_mem l i zn hi, e⟩)
  rwa [List.length_map] at this
set_option maxHeartbeats 16000000 in
/-- P5.3: by recursion -/
theorem sub_spec (l : List Nd) (k : Option Nat) (n : Int) (h : VT l n) (hnm : NmR l) : ∀ (f i : Nat), i < l.length → l.length - i ≤ f → FnSpec Try.prog 34 [trV l k n, i1 (gN l i).i] [] (gi (subF l f (gN l i).i) none) []
  | 0, i, hi, hf => by omega
  | f + 1, i, hi, hf => by
    have hle := h.le
    have h1 := rhas_spec l k n (gN l i).i (by omega) hnm
    have hh : hasM l n (gN l i).i = true := by
      unfold hasM
      rw [(chkT_iff l n).2 h, Bool.true_and, List.any_eq_true]
      exact ⟨gN l i, getD_mem l i zn hi, decide_eq_true rfl⟩
    rw [hh] at h1
    have h2 := rkids_spec l k n (gN l i).i (by omega) hnm
    have hch : chM l n (gN l i).i = kidsL l (gN l i).i := by unfold chM; rw [hh, if_pos rfl]
    rw [hch] at h2
    have hkl := kidsL_len l (gN l i).i
    have ih : ∀ x ∈ kidsL l (gN l i).i, FnSpec Try.prog 34 [trV l k n, i1 x] [] (gi (subF l f x) none) [] := fun x hx => by
      obtain ⟨j, hj, hp, rfl⟩ := kidsL_mem.1 hx
      exact sub_spec l k n h hnm f j hj (by have := (h.kid hi hj hp).1; omega)
    have hlen := subF_len h (f + 1) i hi
    have hun : subF l (f + 1) (gN l i).i = (gN l i).i :: (kidsL l (gN l i).i).flatMap (subF l f) := rfl
    rw [hun] at hlen ⊢
    generalize kidsL l (gN l i).i = K at *
    generalize (gN l i).i = id at *
    have hun2 : ∀ m, m < K.length → (id :: (K.take (m + 1)).flatMap (subF l f)) = (id :: (K.take m).flatMap (subF l f)) ++ subF l f (K.getD m 0) := fun m hm => by
      rw [take_getD K m 0 hm, List.flatMap_append, List.flatMap_cons, List.flatMap_nil, List.append_nil]; rfl
    have hlm : ∀ m, (id :: (K.take m).flatMap (subF l f)).length ≤ l.length := fun m => by
      refine Nat.le_trans ?_ hlen
      rw [List.length_cons, List.length_cons]
      have e : K = K.take m ++ K.drop m := (List.take_append_drop m K).symm
      rw [show (K.flatMap (subF l f)) = (K.take m).flatMap (subF l f) ++ (K.drop m).flatMap (subF l f) by rw [← List.flatMap_append, ← e], List.length_append]
      omega
    clear hun hlen
    refine fnspec_of mixed TT_ok TT_cl ⟨fun _ => false, fun _ => [], 0, fun _ => false, fun _ => false⟩ Try.func34 rfl (by kernel_rfl) rfl 32 rfl [.tmp 4] rfl ?_
    simp only [go_sem, Nat.reduceEqDiff, Nat.reduceAdd, Nat.reduceSub, Nat.reduceMul, Nat.reduceLT, Nat.reduceLeDiff, ↓reduceIte, reduceCtorEq, List.reduceReplicate, Int.cast_ofNat_Int, Int.reduceEq, Int.reduceLT, Int.reduceLE]
    repeat' (first
    | (apply cl_plain
       case hs => rfl
       case ha => (simp only [List.map_cons, List.map_nil, prepV, prepC, idx, hpL', lookR, Nat.reduceEqDiff, if_true, if_false]; rfl)
       case h => (first | exact h1 .. | exact h2 ..))
    | ((first | refine s1_id ?_ | refine swp_id ?_ | refine sops_id ?_ | refine s2_id ?_); simp only [go_sem, Nat.reduceEqDiff, Nat.reduceAdd, Nat.reduceSub, Nat.reduceMul, Nat.reduceLT, Nat.reduceLeDiff, ↓reduceIte, reduceCtorEq, List.reduceReplicate, Int.cast_ofNat_Int, Int.reduceEq, Int.reduceLT, Int.reduceLE, SV.ren, SV.renL, Cell.ren, Row.ren, renO, bk, back, outUpsFrom, Ints_ren]))
    refine w_loop (ι := Nat) (fun m => ⟨[(2, .one (.optr 0 0)), (5, .one (.osl 1 0 (id :: (K.take m).flatMap (subF l f)).length none)), (6, gi K none), (7, i1 m)], [(0, some ⟨[.gsl (Cs l) 0 l.length k, int n], 2⟩), (1, some ⟨Ints (id :: (K.take m).flatMap (subF l f)), 1⟩)], 2⟩) (fun m => m ≤ K.length) (fun m => K.length - m) 0 ?_ (Nat.zero_le _) ?_
    · refine Imp.trans (t := ⟨[(2, .one (.optr 0 0)), (5, .one (.osl 1 0 1 (some 1))), (6, gi K none), (7, i1 (0 : Nat))], [(0, some ⟨[.gsl (Cs l) 0 l.length k, int n], 2⟩), (1, some ⟨Ints [id], 1⟩)], 2⟩) ?_ (imp_w _ _ _ ?_ rfl (Nat.le_refl _))
      · skip
        (refine imp_ren _ _ _ [(0, 0, ⟨[.gsl (Cs l) 0 l.length k, int n], 2⟩), (1, 7, ⟨Ints [id], 1⟩)] (by simp) (by simp) (by simp) (Nat.le_of_ble_eq_true rfl) ?_ rfl (by simp only [List.forall_mem_cons, List.not_mem_nil, false_implies, implies_true, and_true, St.hpF, lookR, Nat.reduceEqDiff, if_true, if_false, ↓reduceIte] <;> (repeat' apply And.intro) <;> (first | rfl | trivial)) (by simp only [List.forall_mem_cons, List.not_mem_nil, false_implies, implies_true, and_true, true_and, flat_cons, flat_nil, flat_ints, flat_bools, flat_app, Cell.refs, and_self, eq_self_iff_true, List.append_nil]); simp only [List.map_cons, List.map_nil, List.forall_mem_cons, List.not_mem_nil, false_implies, implies_true, and_true, lk, slot, SV.ren, Cell.ren, toN, Nat.reduceEqDiff, if_true, if_false, ↓reduceIte, reduceCtorEq])
        all_goals ((repeat' apply And.intro) <;> (first | rfl | trivial))
      · intro x hx
        simp only [List.mem_cons, List.not_mem_nil, or_false] at hx
        rcases hx with rfl | rfl | rfl | rfl <;> first | exact ⟨_, rfl, SVW.refl _⟩ | exact ⟨_, rfl, svw_of (cw_ocap _ _ _ _)⟩
    clear h1 h2
    intro m hm
    simp only at hm ⊢
    rcases Nat.lt_or_ge m K.length with hlt | hge
    case inr =>
      have c : ¬ (m : Int) < (K.length : Int) := by omega
      rw [List.take_of_length_le hge]
      simp only [go_sem, Nat.reduceEqDiff, Nat.reduceAdd, Nat.reduceSub, Nat.reduceMul, Nat.reduceLT, Nat.reduceLeDiff, ↓reduceIte, reduceCtorEq, List.reduceReplicate, Int.cast_ofNat_Int, Int.reduceEq, Int.reduceLT, Int.reduceLE, decide_eq_false c]
      repeat' (first
    | ((first | refine s1_id ?_ | refine swp_id ?_ | refine sops_id ?_ | refine s2_id ?_); simp only [decide_eq_false c, go_sem, Nat.reduceEqDiff, Nat.reduceAdd, Nat.reduceSub, Nat.reduceMul, Nat.reduceLT, Nat.reduceLeDiff, ↓reduceIte, reduceCtorEq, List.reduceReplicate, Int.cast_ofNat_Int, Int.reduceEq, Int.reduceLT, Int.reduceLE, SV.ren, SV.renL, Cell.ren, Row.ren, renO, bk, back, outUpsFrom, Ints_ren]))
      (refine fs_frz 1 ⟨Ints (id :: K.flatMap (subF l f)), 1⟩ (by simp only [St.hpF, lookR, Nat.reduceEqDiff, if_true, if_false, ↓reduceIte]) (by first | exact Ints_isG _ | exact Bools_isG _ | exact Cs_isG _ | (simp [Cell.isG]; done)) ?_; simp only [frzTm, SV.frz, SV.frzL, Cell.frz, frzHp, frzO, Ints_frz, Bools_frz, List.map_cons, List.map_nil, Nat.reduceEqDiff, if_true, if_false, ↓reduceIte])
      apply fs_nil <;> (try simp only [go_sem, resV, resS, SV.ren, SV.renL, Cell.ren, St.tmF, St.hpF, idx, renO, Row.ren, evS, slot, lookR, Nat.reduceEqDiff, ↓reduceIte, reduceCtorEq, if_true, if_false, Option.getD_some, Option.getD_none, List.map_cons, List.map_nil, sLoad, readAt, readNeed, Ints_ren, Ints_length, Ints_getD, and_true, true_and, List.getD_cons_zero, List.getD_cons_succ]) <;> (try rfl)
    have c : (m : Int) < (K.length : Int) := by omega
    have h3 := ih (K.getD m 0) (getD_mem K m 0 hlt)
    have h4 := hun2 m hlt
    have h4l : (List.flatMap (subF l f) (List.take (m + 1) K)).length + 1 = (id :: (K.take m).flatMap (subF l f)).length + (subF l f (K.getD m 0)).length := by rw [← List.length_append, ← h4, List.length_cons]
    have h5 := hlm m
    have h6 := hlm (m + 1)
    rw [h4] at h6
    generalize (id :: (K.take m).flatMap (subF l f)) = A at *
    generalize subF l f (K.getD m 0) = B at *
    have htk : List.take A.length (Ints A) = Ints A := List.take_of_length_le (by rw [Ints_length]; exact Nat.le_refl _)
    have htb : List.take B.length (Ints B) = Ints B := List.take_of_length_le (by rw [Ints_length]; exact Nat.le_refl _)
    have hpp : Ints A ++ Ints B = Ints (A ++ B) := by simp [Ints]
    rw [List.length_append] at h6
    have hla : (A ++ B).length = A.length + B.length := List.length_append
    simp only [go_sem, Nat.reduceEqDiff, Nat.reduceAdd, Nat.reduceSub, Nat.reduceMul, Nat.reduceLT, Nat.reduceLeDiff, ↓reduceIte, reduceCtorEq, List.reduceReplicate, Int.cast_ofNat_Int, Int.reduceEq, Int.reduceLT, Int.reduceLE, decide_eq_true c]
    repeat' (first
    | with_reducible refine And.intro ?_ ?_
    | (unfold OKC; kernel_rfl)
    | (unfold EDG; kernel_rfl)
    | (intros; (try simp only [Bool.and_eq_true, Bool.or_eq_true, Bool.not_eq_true', Bool.not_eq_false', Bool.and_eq_false_iff, Bool.or_eq_false_iff, decide_eq_true_eq, decide_eq_false_iff_not] at *); omega)
    | (apply cl_plain
       case hs => rfl
       case ha => (simp only [List.map_cons, List.map_nil, prepV, prepC, idx, hpL', lookR, Nat.reduceEqDiff, if_true, if_false]; rfl)
       case h => (first | exact h3 ..))
    | ((first | refine s1_id ?_ | refine swp_id ?_ | refine sops_id ?_ | refine s2_id ?_); simp only [decide_eq_true c, htk, htb, hpp, List.flatten_cons, List.flatten_nil, List.append_nil, List.cons_append, List.nil_append, List.set_cons_zero, List.set_cons_succ, List.take_succ_cons, List.take_zero, List.take_nil, List.length_cons, List.length_nil, go_sem, Nat.reduceEqDiff, Nat.reduceAdd, Nat.reduceSub, Nat.reduceMul, Nat.reduceLT, Nat.reduceLeDiff, ↓reduceIte, reduceCtorEq, List.reduceReplicate, Int.cast_ofNat_Int, Int.reduceEq, Int.reduceLT, Int.reduceLE, SV.ren, SV.renL, Cell.ren, Row.ren, renO, bk, back, outUpsFrom, Ints_ren]))
    refine le_mk (m + 1) ?_ hlt (by omega)
    simp only [h4, h4l, hla]
    (refine imp_ren _ _ _ [(0, 0, ⟨[.gsl (Cs l) 0 l.length k, int n], 2⟩), (1, 13, ⟨Ints (A ++ B), 1⟩)] (by simp) (by simp) (by simp) (Nat.le_of_ble_eq_true rfl) ?_ rfl (by simp only [List.forall_mem_cons, List.not_mem_nil, false_implies, implies_true, and_true, St.hpF, lookR, Nat.reduceEqDiff, if_true, if_false, ↓reduceIte] <;> (repeat' apply And.intro) <;> (first | rfl | trivial)) (by simp only [List.forall_mem_cons, List.not_mem_nil, false_implies, implies_true, and_true, true_and, flat_cons, flat_nil, flat_ints, flat_bools, flat_app, Cell.refs, and_self, eq_self_iff_true, List.append_nil]); simp only [List.map_cons, List.map_nil, List.forall_mem_cons, List.not_mem_nil, false_implies, implies_true, and_true, lk, slot, SV.ren, Cell.ren, toN, Nat.reduceEqDiff, if_true, if_false, ↓reduceIte, reduceCtorEq])
    all_goals ((repeat' apply And.intro) <;> (first | rfl | trivial | (simp only [Int.natCast_add]; done) | (simp only [Int.natCast_add]; rfl) | (simp only [Int.natCast_add]; trivial)))
end Go.Proofs.Ytnlgboiooabbiaa
-- NEWGO
-- PRUNE: cl_lendx cl_use
-- ISG: Cs_isG
-- FLAT: Cs_flat
namespace Go.Proofs.Ytnlgboiooabbiaa
set_option linter.unusedVariables false
set_option linter.unusedSimpArgs false
open Go.Proofs.Ytnlgboiooabbiaa.Sh
set_option maxRecDepth 20000
theorem mnU_set (C : List Cl) (k : Nat) (a b : Int) (hk : k < C.length) : ∀ ids : List Int, (gC C k).g ∉ ids → mnU (C.set k ⟨(gC C k).g, a, b⟩) ids = mnU C ids
  | [], _ => rfl
  | x :: r, h => by
    rw [mnU, mnU, mnU_set C k a b hk r (fun q => h (List.mem_cons_of_mem _ q))]
    have hx : x ≠ (gC C k).g := fun e => h (by rw [e]; exact List.mem_cons_self)
    have hf : ∀ (D : List Cl) (j : Nat), (∀ q, D.getD j zc = q → q.g ≠ x) → j < D.length → ∀ y : Cl, y.g = (D.getD j zc).g → (D.set j y).find? (fun z => decide (z.g = x)) = D.find? (fun z => decide (z.g = x)) := by
      intro D
      induction D with
      | nil => intro j _ hj; cases hj
      | cons d D ih =>
        intro j hq hj y hy
        cases j with
        | zero =>
          have h1 : d.g ≠ x := hq d rfl
          have h2 : y.g ≠ x := by rw [hy]; exact h1
          rw [List.set_cons_zero, List.find?_cons, List.find?_cons, decide_eq_false h1, decide_eq_false h2]
        | succ j =>
          rw [List.set_cons_succ, List.find?_cons, List.find?_cons, ih j (fun q e => hq q e) (Nat.lt_of_succ_lt_succ hj) y hy]
    have := hf C k (fun q e => by rw [← e]; exact fun t => hx t.symm) hk ⟨(gC C k).g, a, b⟩ rfl
    unfold clG
    rw [this]
theorem ef_other {l : List Nd} {n : Int} {C : List Cl} (h : VC l n C) {k i f : Nat} (hk : k < l.length) (hi : i < l.length) (a b : Int) (ha : 0 ≤ a ∧ a ≤ 10000) (hb : 0 ≤ b ∧ b ≤ 10000) (hf : l.length - k ≤ f) (hn : (gN l i).i ∉ subF l f (gN l k).i) : efP l n (C.set k ⟨(gC C k).g, a, b⟩) (gN l i).i = efP l n C (gN l i).i := by
  have hl := h.len
  have hne : i ≠ k := fun e => hn (by rw [e]; exact subF_self (by omega))
  have hu : (gC C k).g ∉ upL l (gN l i).i := fun e => hn (subF_up h.v hk hf i hi (by rw [← (h.ok k hk).1]; exact e))
  rw [vdC_of h hi, vdC_of (h.set a b ha hb) hi]
  unfold muN
  rw [mnU_set C k a b (by omega) _ hu, show gC (C.set k ⟨(gC C k).g, a, b⟩) i = gC C i from gC_ne C k i _ (fun q => hne q.symm)]
end Go.Proofs.Ytnlgboiooabbiaa
-- NEWGO
-- PRUNE: cl_lendx cl_use
-- ISG: Cs_isG
-- FLAT: Cs_flat
namespace Go.Proofs.Ytnlgboiooabbiaa
set_option linter.unusedVariables false
set_option linter.unusedSimpArgs false
open Go.Proofs.Ytnlgboiooabbiaa.Sh
set_option maxRecDepth 20000
theorem cpL_ge (l : List Nd) (n : Int) (cl : List Cl) : ∀ (gs us : List Int) (m : Int), m ≤ cpL l n cl gs us m
  | g :: gs, u :: us, m => by
    have := cpL_ge l n cl gs us (max m (apM l n cl g u))
    rw [cpL]; omega
  | [], _, m => by rw [cpL]; exact Int.le_refl _; intro _ _ _ _ h; cases h
  | _ :: _, [], m => by rw [cpL]; exact Int.le_refl _; intro _ _ _ _ _ h; cases h
theorem cpL_up (l : List Nd) (n : Int) (cl : List Cl) : ∀ (gs us : List Int) (m : Int) (i : Nat), gs.length = us.length → i < gs.length → apM l n cl (gs.getD i 0) (us.getD i 0) ≤ cpL l n cl gs us m
  | g :: gs, u :: us, m, 0, _, _ => by
    have := cpL_ge l n cl gs us (max m (apM l n cl g u))
    rw [cpL]
    show apM l n cl g u ≤ _
    omega
  | g :: gs, u :: us, m, i + 1, h, hi => by
    rw [cpL]
    exact cpL_up l n cl gs us _ i (Nat.succ.inj h) (Nat.lt_of_succ_lt_succ hi)
  | [], _, _, _, _, hi => absurd hi (Nat.not_lt_zero _)
  | _ :: _, [], _, _, h, _ => by cases h
theorem cpL_hit (l : List Nd) (n : Int) (cl : List Cl) : ∀ (gs us : List Int) (m : Int), gs.length = us.length → cpL l n cl gs us m = m ∨ ∃ i, i < gs.length ∧ apM l n cl (gs.getD i 0) (us.getD i 0) = cpL l n cl gs us m
  | [], [], m, _ => Or.inl rfl
  | g :: gs, u :: us, m, h => by
    rw [cpL]
    rcases cpL_hit l n cl gs us (max m (apM l n cl g u)) (Nat.succ.inj h) with e | ⟨i, hi, e⟩
    · rw [e]
      by_cases c : apM l n cl g u ≤ m
      · left; omega
      · right
        refine ⟨0, Nat.succ_pos _, ?_⟩
        show apM l n cl g u = _
        omega
    · right
      exact ⟨i + 1, Nat.succ_lt_succ hi, e⟩
  | [], _ :: _, _, h => by cases h
  | _ :: _, [], _, h => by cases h
theorem ap_pos {l : List Nd} {n : Int} {C : List Cl} (h : VC l n C) {i : Nat} (hi : i < l.length) (u : Int) : 0 ≤ apM l n C (gN l i).i u := by
  have h1 := (h.ok i hi).2
  have h2 : 0 ≤ muN l C i := mnU_ge h _
  unfold apM
  rw [vdC_of h hi]
  simp only
  omega
theorem ca_facts {l : List Nd} {n : Int} {C : List Cl} (h : VC l n C) (g u : List Int) (hgu : g.length = u.length) (h0 : 0 < g.length) (hg : ∀ i, i < g.length → ∃ j, j < l.length ∧ (gN l j).i = g.getD i 0) :
    (∀ i, i < g.length → ¬ caM l n C g u < apM l n C (g.getD i 0) (u.getD i 0)) ∧ ∃ i, i < g.length ∧ apM l n C (g.getD i 0) (u.getD i 0) = caM l n C g u := by
  unfold caM
  rw [if_pos hgu]
  refine ⟨fun i hi => by have := cpL_up l n C g u 0 i hgu hi; omega, ?_⟩
  rcases cpL_hit l n C g u 0 hgu with e | e
  · obtain ⟨j, hj, e2⟩ := hg 0 h0
    have h1 := cpL_up l n C g u 0 0 hgu h0
    have h2 := ap_pos h hj (u.getD 0 0)
    rw [e2] at h2
    exact ⟨0, h0, by omega⟩
  · exact e
set_option maxHeartbeats 32000000 in
theorem capac_spec (L : List Int) (x0 : Int) (hr : ∀ x ∈ L, -9223372036854775808 ≤ x ∧ x ≤ 9223372036854775807) : FnSpec Try.prog 8 [gi L none, i1 x0] [] (b1 true) [] := by
  by_cases hlen : (L.length : Int) ≤ 600
  case neg =>
    refine fnspec_of mixed TT_ok TT_cl ⟨fun _ => false, lendB, 0, fun _ => false, fun _ => false⟩ Try.func8 rfl (by kernel_rfl) rfl 156 rfl [.tmp 4] rfl ?_
    simp only [go_sem, Nat.reduceEqDiff, Nat.reduceAdd, Nat.reduceSub, Nat.reduceMul, Nat.reduceLT, Nat.reduceLeDiff, ↓reduceIte, reduceCtorEq, List.reduceReplicate, Int.cast_ofNat_Int, Int.reduceEq, Int.reduceLT, Int.reduceLE, decide_eq_false hlen, lendB]
    repeat' (first
    | (apply cl_plain
       case hs => rfl
       case ha => (simp only [List.map_cons, List.map_nil, prepV, prepC, idx, hpL', lookR, Nat.reduceEqDiff, if_true, if_false]; rfl)
       case h => (first | exact light_spec .. | exact sane_spec ..))
    | ((first | refine s1_id ?_ | refine swp_id ?_ | refine sops_id ?_ | refine s2_id ?_); simp only [decide_eq_false hlen, lendB, go_sem, Nat.reduceEqDiff, Nat.reduceAdd, Nat.reduceSub, Nat.reduceMul, Nat.reduceLT, Nat.reduceLeDiff, ↓reduceIte, reduceCtorEq, List.reduceReplicate, Int.cast_ofNat_Int, Int.reduceEq, Int.reduceLT, Int.reduceLE, SV.ren, SV.renL, Cell.ren, Row.ren, renO, bk, back, outUpsFrom, Ints_ren])
    | (apply fs_nil <;> (try simp only [go_sem, resV, resS, SV.ren, SV.renL, Cell.ren, St.tmF, St.hpF, idx, renO, Row.ren, evS, slot, lookR, Nat.reduceEqDiff, ↓reduceIte, reduceCtorEq, if_true, if_false, Option.getD_some, Option.getD_none, List.map_cons, List.map_nil, sLoad, readAt, readNeed, Ints_ren, Ints_length, Ints_getD, and_true, true_and, List.getD_cons_zero, List.getD_cons_succ]) <;> (try rfl)))
  have hl : L.length ≤ 600 := by omega
  have t1 := tree_spec L hl hr 0 7 (by decide)
  have hti := mkT_ok L 0 7
  generalize mkT L 0 7 = T at *
  obtain ⟨⟨l, n⟩, j⟩ := T
  simp only at t1 hti
  have hV := hti.v.vt
  have hle := hti.len
  have c1 := clamps_spec L hl hr j l n hle.2
  have hC := cpF_vc L hV j
  generalize cpF L l j = q at *
  obtain ⟨C, J⟩ := q
  simp only at c1 hC
  have hCl := hC.len
  have hnl := nd_len l
  have f1 := fun gs us k1 k2 hg => ccap_spec l n C none gs us k1 k2 (by omega) (by omega) hg hti.nr hV.ct
  have f2 := fun g u => capply_spec l n C none g u (by omega) (by omega) hti.nr hV.ct
  have f3 := fun g => ceffe_spec l n C none g (by omega) (by omega) hti.nr hV.ct
  have n0 := next_spec L J 4 hl hr (by decide)
  have r0 := nx_rng L J 4 (by decide)
  obtain ⟨c0, hc0, hc1⟩ : ∃ c : Nat, nxV L J 4 = c ∧ c ≤ 3 := ⟨(nxV L J 4).toNat, by omega, by omega⟩
  rw [hc0] at n0
  have hc2 : (1 : Int) + (c0 : Int) = ((c0 + 1 : Nat) : Int) := by omega
  refine fnspec_of mixed TT_ok TT_cl ⟨fun _ => false, lendB, 0, fun _ => false, fun _ => false⟩ Try.func8 rfl (by kernel_rfl) rfl 156 rfl [.tmp 4] rfl ?_
  simp only [go_sem, Nat.reduceEqDiff, Nat.reduceAdd, Nat.reduceSub, Nat.reduceMul, Nat.reduceLT, Nat.reduceLeDiff, ↓reduceIte, reduceCtorEq, List.reduceReplicate, Int.cast_ofNat_Int, Int.reduceEq, Int.reduceLT, Int.reduceLE, decide_eq_true hlen, lendB]
  repeat' (first
    | with_reducible refine And.intro ?_ ?_
    | (intros; (try simp only [Bool.and_eq_true, Bool.or_eq_true, Bool.not_eq_true', Bool.not_eq_false', Bool.and_eq_false_iff, Bool.or_eq_false_iff, decide_eq_true_eq, decide_eq_false_iff_not] at *); omega)
    | (apply cl_plain
       case hs => rfl
       case ha => (simp only [List.map_cons, List.map_nil, prepV, prepC, idx, hpL', lookR, Nat.reduceEqDiff, if_true, if_false]; rfl)
       case h => (first | exact light_spec .. | exact roll_spec .. | exact t1 .. | exact c1 .. | exact n0 ..))
    | (apply cl_lend
       case hr => (simp only [List.map_cons, List.map_nil, hpL', lookR, Nat.reduceEqDiff, if_true, if_false]; first | exact map1 _ | exact map2 _ _ | exact map3 _ _ _)
       case ha => (simp only [List.map_cons, List.map_nil, prepV, prepC, idx, hpL', lookR, Nat.reduceEqDiff, if_true, if_false]; rfl)
       case hs => rfl
       case hn => decide
       case h => (first | exact light_spec .. | exact roll_spec .. | exact t1 .. | exact c1 .. | exact n0 ..)
       case hf => (simp only [List.forall_mem_cons, List.not_mem_nil, false_implies, implies_true, and_true, true_and, flat_cons, flat_nil, flat_ints, flat_bools, flat_app, Cs_flat, Cell.refs, and_self, eq_self_iff_true, List.append_nil])
       case hl => (simp only [List.length_cons, List.length_nil]; decide))
    | ((first | refine s1_id ?_ | refine swp_id ?_ | refine sops_id ?_ | refine s2_id ?_); simp only [decide_eq_true hlen, lendB, dice, go_sem, Nat.reduceEqDiff, Nat.reduceAdd, Nat.reduceSub, Nat.reduceMul, Nat.reduceLT, Nat.reduceLeDiff, ↓reduceIte, reduceCtorEq, List.reduceReplicate, Int.cast_ofNat_Int, Int.reduceEq, Int.reduceLT, Int.reduceLE, SV.ren, SV.renL, Cell.ren, Row.ren, renO, bk, back, outUpsFrom, Ints_ren]))
  refine w_loop (ι := Nat × List Int × List Int × Nat) (fun s => ⟨[(5, .one (.optr 0 0)), (6, .one (.optr 1 0)), (7, gr C none), (8, .one (.osl 2 0 s.2.1.length none)), (9, .one (.osl 3 0 s.2.2.1.length none)), (10, i1 s.1)], [(0, some (dice L s.2.2.2)), (1, some ⟨[.gsl (Cs l) 0 l.length none, int n], 2⟩), (2, some ⟨Ints s.2.1, 1⟩), (3, some ⟨Ints s.2.2.1, 1⟩)], 4⟩) (fun s => s.2.1.length = s.2.2.1.length ∧ s.2.1.length + s.1 = c0 + 1 ∧ ∀ i, i < s.2.1.length → ∃ j, j < l.length ∧ (gN l j).i = s.2.1.getD i 0) (fun s => s.1) (c0 + 1, [], [], nxA L J 4) ?_ ⟨rfl, by show 0 + (c0 + 1) = _; omega, fun i hi => absurd hi (Nat.not_lt_zero _)⟩ ?_
  · (refine Imp.trans (imp_nilA _ _ 8 1 98 (by simp only []; omega) rfl) ?_)
    (refine Imp.trans (imp_nilA _ _ 9 1 99 (by simp only []; omega) rfl) ?_)
    simp only [hc2]
    (refine imp_ren _ _ _ [(0, 5, dice L (nxA L J 4)), (1, 9, ⟨[.gsl (Cs l) 0 l.length none, int n], 2⟩), (2, 98, ⟨[], 1⟩), (3, 99, ⟨[], 1⟩)] (by simp) (by simp) (by simp) (Nat.le_of_ble_eq_true rfl) ?_ rfl (by simp only [List.forall_mem_cons, List.not_mem_nil, false_implies, implies_true, and_true, St.hpF, lookR, Nat.reduceEqDiff, if_true, if_false, ↓reduceIte, dice] <;> (repeat' apply And.intro) <;> (first | rfl | trivial)) (by simp only [List.forall_mem_cons, List.not_mem_nil, false_implies, implies_true, and_true, true_and, flat_cons, flat_nil, flat_ints, flat_bools, flat_app, Cell.refs, and_self, eq_self_iff_true, List.append_nil, dice]); simp only [List.map_cons, List.map_nil, List.forall_mem_cons, List.not_mem_nil, false_implies, implies_true, and_true, lk, slot, SV.ren, Cell.ren, toN, Nat.reduceEqDiff, if_true, if_false, ↓reduceIte, reduceCtorEq])
    all_goals ((repeat' apply And.intro) <;> (first | rfl | trivial))
  clear c1 t1 n0 r0 hc0 hc2
  rintro ⟨m, g, u, i⟩ ⟨hgu, hg, hgn⟩
  simp only at hgu hg hgn ⊢
  cases m with
  | succ m =>
    have c : (0 : Int) < ((m + 1 : Nat) : Int) := by omega
    have e2 : ((m + 1 : Nat) : Int) - 1 = (m : Int) := by omega
    have n1 := next_spec L i l.length hl hr (by omega)
    have r1 := nx_rng L i l.length (by omega)
    obtain ⟨k, hk, hkl⟩ : ∃ k : Nat, nxV L i l.length = k ∧ k < l.length := ⟨(nxV L i l.length).toNat, by omega, by omega⟩
    rw [hk] at n1
    obtain ⟨g1, _⟩ := nd_f l k hkl (.sc (.int .i64 0))
    have n2 := next_spec L (nxA L i l.length) 10001 hl hr (by decide)
    generalize nxV L (nxA L i l.length) 10001 = y at *
    generalize nxA L (nxA L i l.length) 10001 = j3 at *
    generalize nxA L i l.length = j2 at *
    obtain ⟨x, hx⟩ : ∃ x, (gN l k).i = x := ⟨_, rfl⟩
    rw [hx] at g1
    have tk : ∀ K : List Int, List.take K.length (Ints K) = Ints K := fun K => List.take_of_length_le (by rw [Ints_length]; exact Nat.le_refl _)
    have p1 : Ints g ++ [int x] = Ints (g ++ [x]) := by simp [Ints]
    have p2 : Ints u ++ [int y] = Ints (u ++ [y]) := by simp [Ints]
    have la : ∀ (K : List Int) (x : Int), (K ++ [x]).length = K.length + 1 := fun K x => by simp
    have hgn2 : ∀ i, i < (g ++ [x]).length → ∃ j, j < l.length ∧ (gN l j).i = (g ++ [x]).getD i 0 := fun i hi => by
      rw [la] at hi
      rcases Nat.lt_or_ge i g.length with h | h
      · obtain ⟨j, hj, e⟩ := hgn i h
        refine ⟨j, hj, ?_⟩
        rw [e, List.getD_eq_getElem?_getD, List.getD_eq_getElem?_getD, List.getElem?_append_left h]
      · refine ⟨k, hkl, ?_⟩
        obtain rfl : i = g.length := by omega
        rw [hx, List.getD_eq_getElem?_getD, List.getElem?_append_right (Nat.le_refl _), Nat.sub_self]; rfl
    simp only [go_sem, Nat.reduceEqDiff, Nat.reduceAdd, Nat.reduceSub, Nat.reduceMul, Nat.reduceLT, Nat.reduceLeDiff, ↓reduceIte, reduceCtorEq, List.reduceReplicate, Int.cast_ofNat_Int, Int.reduceEq, Int.reduceLT, Int.reduceLE, decide_eq_true c, e2, lendB, g1]
    repeat' (first
    | with_reducible refine And.intro ?_ ?_
    | (unfold OKC; kernel_rfl)
    | (unfold EDG; kernel_rfl)
    | (intros; (try simp only [Bool.and_eq_true, Bool.or_eq_true, Bool.not_eq_true', Bool.not_eq_false', Bool.and_eq_false_iff, Bool.or_eq_false_iff, decide_eq_true_eq, decide_eq_false_iff_not] at *); omega)
    | (apply cl_lend
       case hr => (simp only [List.map_cons, List.map_nil, hpL', lookR, Nat.reduceEqDiff, if_true, if_false]; first | exact map1 _ | exact map2 _ _ | exact map3 _ _ _)
       case ha => (simp only [List.map_cons, List.map_nil, prepV, prepC, idx, hpL', lookR, Nat.reduceEqDiff, if_true, if_false]; rfl)
       case hs => rfl
       case hn => decide
       case h => (first | exact n1 .. | exact n2 ..)
       case hf => (simp only [List.forall_mem_cons, List.not_mem_nil, false_implies, implies_true, and_true, true_and, flat_cons, flat_nil, flat_ints, flat_bools, flat_app, Cs_flat, Cell.refs, and_self, eq_self_iff_true, List.append_nil])
       case hl => (simp only [List.length_cons, List.length_nil]; decide))
    | ((first | refine s1_id ?_ | refine swp_id ?_ | refine sops_id ?_ | refine s2_id ?_); simp only [decide_eq_true c, e2, lendB, dice, g1, tk, p1, p2, List.flatten_cons, List.flatten_nil, List.append_nil, List.cons_append, List.nil_append, List.set_cons_zero, List.set_cons_succ, List.take_succ_cons, List.take_zero, List.take_nil, List.length_cons, List.length_nil, go_sem, Nat.reduceEqDiff, Nat.reduceAdd, Nat.reduceSub, Nat.reduceMul, Nat.reduceLT, Nat.reduceLeDiff, ↓reduceIte, reduceCtorEq, List.reduceReplicate, Int.cast_ofNat_Int, Int.reduceEq, Int.reduceLT, Int.reduceLE, SV.ren, SV.renL, Cell.ren, Row.ren, renO, bk, back, outUpsFrom, Ints_ren]))
    refine le_mk (m, g ++ [x], u ++ [y], j3) ?_ ⟨by rw [la, la, hgu], by rw [la]; omega, hgn2⟩ (Nat.lt_succ_self m)
    simp only [la]
    (refine imp_ren _ _ _ [(0, 0, dice L j3), (1, 1, ⟨[.gsl (Cs l) 0 l.length none, int n], 2⟩), (2, 18, ⟨Ints (g ++ [x]), 1⟩), (3, 23, ⟨Ints (u ++ [y]), 1⟩)] (by simp) (by simp) (by simp) (Nat.le_of_ble_eq_true rfl) ?_ rfl (by simp only [List.forall_mem_cons, List.not_mem_nil, false_implies, implies_true, and_true, St.hpF, lookR, Nat.reduceEqDiff, if_true, if_false, ↓reduceIte, dice] <;> (repeat' apply And.intro) <;> (first | rfl | trivial)) (by simp only [List.forall_mem_cons, List.not_mem_nil, false_implies, implies_true, and_true, true_and, flat_cons, flat_nil, flat_ints, flat_bools, flat_app, Cell.refs, and_self, eq_self_iff_true, List.append_nil, dice]); simp only [List.map_cons, List.map_nil, List.forall_mem_cons, List.not_mem_nil, false_implies, implies_true, and_true, lk, slot, SV.ren, Cell.ren, toN, Nat.reduceEqDiff, if_true, if_false, ↓reduceIte, reduceCtorEq])
    all_goals ((repeat' apply And.intro) <;> (first | rfl | trivial | (simp only []; done) | (simp only []; rfl) | (simp only []; trivial)))
  | zero =>
  have a1 := f1 g u none none (by omega)
  obtain ⟨q1, q2⟩ := ca_facts hC g u hgu (by omega) hgn
  generalize caM l n C g u = A at *
  have cz : ¬ (0 : Int) < ((0 : Nat) : Int) := by decide
  simp only [go_sem, Nat.reduceEqDiff, Nat.reduceAdd, Nat.reduceSub, Nat.reduceMul, Nat.reduceLT, Nat.reduceLeDiff, ↓reduceIte, reduceCtorEq, List.reduceReplicate, Int.cast_ofNat_Int, Int.reduceEq, Int.reduceLT, Int.reduceLE, lendB]
  repeat' (first
    | (apply cl_show
       case ha => (simp only [List.map_cons, List.map_nil, prepV, prepC, idx, hpL', lookR, Nat.reduceEqDiff, if_true, if_false]; rfl)
       case hs => ((simp [snaps, SV.refs, Cell.refs, idx, hpL', lookR]) <;> (repeat' apply And.intro) <;> (first | exact Ints_isG _ | exact Cs_isG _))
       case h => (first | exact a1 ..)
       case hg => ((simp [SV.noG, SV.noGL, Cell.noG]) <;> (repeat' apply And.intro) <;> exact Ints_noG _))
    | ((first | refine s1_id ?_ | refine swp_id ?_ | refine sops_id ?_ | refine s2_id ?_); simp only [lendB, go_sem, Nat.reduceEqDiff, Nat.reduceAdd, Nat.reduceSub, Nat.reduceMul, Nat.reduceLT, Nat.reduceLeDiff, ↓reduceIte, reduceCtorEq, List.reduceReplicate, Int.cast_ofNat_Int, Int.reduceEq, Int.reduceLT, Int.reduceLE, SV.ren, SV.renL, Cell.ren, Row.ren, renO, bk, back, outUpsFrom, Ints_ren]))
  refine w_loop (ι := Nat) (fun m => ⟨[(5, .one (.optr 0 0)), (6, .one (.optr 1 0)), (7, gr C none), (8, .one (.osl 2 0 g.length none)), (9, .one (.osl 3 0 u.length none)), (11, i1 A), (12, b1 ((List.range m).any fun i => decide (apM l n C (g.getD i 0) (u.getD i 0) = A))), (65, i1 g.length), (66, i1 m)], [(0, some (dice L i)), (1, some ⟨[.gsl (Cs l) 0 l.length none, int n], 2⟩), (2, some ⟨Ints g, 1⟩), (3, some ⟨Ints u, 1⟩)], 4⟩) (fun m => m ≤ g.length) (fun m => g.length - m) 0 ?_ (Nat.zero_le _) ?_
  · (refine imp_ren _ _ _ [(0, 0, dice L i), (1, 1, ⟨[.gsl (Cs l) 0 l.length none, int n], 2⟩), (2, 2, ⟨Ints g, 1⟩), (3, 3, ⟨Ints u, 1⟩)] (by simp) (by simp) (by simp) (Nat.le_of_ble_eq_true rfl) ?_ rfl (by simp only [List.forall_mem_cons, List.not_mem_nil, false_implies, implies_true, and_true, St.hpF, lookR, Nat.reduceEqDiff, if_true, if_false, ↓reduceIte, dice] <;> (repeat' apply And.intro) <;> (first | rfl | trivial)) (by simp only [List.forall_mem_cons, List.not_mem_nil, false_implies, implies_true, and_true, true_and, flat_cons, flat_nil, flat_ints, flat_bools, flat_app, Cell.refs, and_self, eq_self_iff_true, List.append_nil, dice]); simp only [List.map_cons, List.map_nil, List.forall_mem_cons, List.not_mem_nil, false_implies, implies_true, and_true, lk, slot, SV.ren, Cell.ren, toN, Nat.reduceEqDiff, if_true, if_false, ↓reduceIte, reduceCtorEq])
    all_goals ((repeat' apply And.intro) <;> (first | rfl | trivial))
  clear a1
  intro m hm
  simp only at hm ⊢
  rcases Nat.lt_or_ge m g.length with hlt | hge
  case inl =>
    have c : (m : Int) < (g.length : Int) := by omega
    have a2 := f2 (g.getD m 0) (u.getD m 0)
    have q3 := q1 m hlt
    have hra : ((List.range (m + 1)).any fun i => decide (apM l n C (g.getD i 0) (u.getD i 0) = A)) = (((List.range m).any fun i => decide (apM l n C (g.getD i 0) (u.getD i 0) = A)) || decide (apM l n C (g.getD m 0) (u.getD m 0) = A)) := by
      rw [List.range_succ, List.any_append, List.any_cons, List.any_nil, Bool.or_false]
    generalize ((List.range m).any fun i => decide (apM l n C (g.getD i 0) (u.getD i 0) = A)) = R at *
    generalize apM l n C (g.getD m 0) (u.getD m 0) = z at *
    cases R with
    | true =>
      rw [Bool.true_or] at hra
      simp only [go_sem, Nat.reduceEqDiff, Nat.reduceAdd, Nat.reduceSub, Nat.reduceMul, Nat.reduceLT, Nat.reduceLeDiff, ↓reduceIte, reduceCtorEq, List.reduceReplicate, Int.cast_ofNat_Int, Int.reduceEq, Int.reduceLT, Int.reduceLE, decide_eq_true c, lendB, decide_eq_false q3]
      repeat' (first
    | with_reducible refine And.intro ?_ ?_
    | (unfold OKC; kernel_rfl)
    | (unfold EDG; kernel_rfl)
    | (intros; (try simp only [Bool.and_eq_true, Bool.or_eq_true, Bool.not_eq_true', Bool.not_eq_false', Bool.and_eq_false_iff, Bool.or_eq_false_iff, decide_eq_true_eq, decide_eq_false_iff_not] at *); omega)
    | (apply cl_plain
       case hs => rfl
       case ha => (simp only [List.map_cons, List.map_nil, prepV, prepC, idx, hpL', lookR, Nat.reduceEqDiff, if_true, if_false]; rfl)
       case h => (first | exact a2 ..))
    | ((first | refine s1_id ?_ | refine swp_id ?_ | refine sops_id ?_ | refine s2_id ?_); simp only [decide_eq_true c, lendB, decide_eq_false q3, go_sem, Nat.reduceEqDiff, Nat.reduceAdd, Nat.reduceSub, Nat.reduceMul, Nat.reduceLT, Nat.reduceLeDiff, ↓reduceIte, reduceCtorEq, List.reduceReplicate, Int.cast_ofNat_Int, Int.reduceEq, Int.reduceLT, Int.reduceLE, SV.ren, SV.renL, Cell.ren, Row.ren, renO, bk, back, outUpsFrom, Ints_ren]))
      refine le_mk (m + 1) ?_ hlt (by omega)
      simp only [hra]
      (refine imp_ren _ _ _ [(0, 0, dice L i), (1, 1, ⟨[.gsl (Cs l) 0 l.length none, int n], 2⟩), (2, 2, ⟨Ints g, 1⟩), (3, 3, ⟨Ints u, 1⟩)] (by simp) (by simp) (by simp) (Nat.le_of_ble_eq_true rfl) ?_ rfl (by simp only [List.forall_mem_cons, List.not_mem_nil, false_implies, implies_true, and_true, St.hpF, lookR, Nat.reduceEqDiff, if_true, if_false, ↓reduceIte, dice] <;> (repeat' apply And.intro) <;> (first | rfl | trivial)) (by simp only [List.forall_mem_cons, List.not_mem_nil, false_implies, implies_true, and_true, true_and, flat_cons, flat_nil, flat_ints, flat_bools, flat_app, Cell.refs, and_self, eq_self_iff_true, List.append_nil, dice]); simp only [List.map_cons, List.map_nil, List.forall_mem_cons, List.not_mem_nil, false_implies, implies_true, and_true, lk, slot, SV.ren, Cell.ren, toN, Nat.reduceEqDiff, if_true, if_false, ↓reduceIte, reduceCtorEq])
      all_goals ((repeat' apply And.intro) <;> (first | rfl | trivial | (simp only [Int.natCast_add]; done) | (simp only [Int.natCast_add]; rfl) | (simp only [Int.natCast_add]; trivial)))
    | false =>
      rw [Bool.false_or] at hra
      simp only [go_sem, Nat.reduceEqDiff, Nat.reduceAdd, Nat.reduceSub, Nat.reduceMul, Nat.reduceLT, Nat.reduceLeDiff, ↓reduceIte, reduceCtorEq, List.reduceReplicate, Int.cast_ofNat_Int, Int.reduceEq, Int.reduceLT, Int.reduceLE, decide_eq_true c, lendB, decide_eq_false q3]
      repeat' (first
    | with_reducible refine And.intro ?_ ?_
    | (unfold OKC; kernel_rfl)
    | (unfold EDG; kernel_rfl)
    | (intros; (try simp only [Bool.and_eq_true, Bool.or_eq_true, Bool.not_eq_true', Bool.not_eq_false', Bool.and_eq_false_iff, Bool.or_eq_false_iff, decide_eq_true_eq, decide_eq_false_iff_not] at *); omega)
    | (apply cl_plain
       case hs => rfl
       case ha => (simp only [List.map_cons, List.map_nil, prepV, prepC, idx, hpL', lookR, Nat.reduceEqDiff, if_true, if_false]; rfl)
       case h => (first | exact a2 ..))
    | ((first | refine s1_id ?_ | refine swp_id ?_ | refine sops_id ?_ | refine s2_id ?_); simp only [decide_eq_true c, lendB, decide_eq_false q3, go_sem, Nat.reduceEqDiff, Nat.reduceAdd, Nat.reduceSub, Nat.reduceMul, Nat.reduceLT, Nat.reduceLeDiff, ↓reduceIte, reduceCtorEq, List.reduceReplicate, Int.cast_ofNat_Int, Int.reduceEq, Int.reduceLT, Int.reduceLE, SV.ren, SV.renL, Cell.ren, Row.ren, renO, bk, back, outUpsFrom, Ints_ren]))
      refine le_mk (m + 1) ?_ hlt (by omega)
      simp only [hra]
      (refine imp_ren _ _ _ [(0, 0, dice L i), (1, 1, ⟨[.gsl (Cs l) 0 l.length none, int n], 2⟩), (2, 2, ⟨Ints g, 1⟩), (3, 3, ⟨Ints u, 1⟩)] (by simp) (by simp) (by simp) (Nat.le_of_ble_eq_true rfl) ?_ rfl (by simp only [List.forall_mem_cons, List.not_mem_nil, false_implies, implies_true, and_true, St.hpF, lookR, Nat.reduceEqDiff, if_true, if_false, ↓reduceIte, dice] <;> (repeat' apply And.intro) <;> (first | rfl | trivial)) (by simp only [List.forall_mem_cons, List.not_mem_nil, false_implies, implies_true, and_true, true_and, flat_cons, flat_nil, flat_ints, flat_bools, flat_app, Cell.refs, and_self, eq_self_iff_true, List.append_nil, dice]); simp only [List.map_cons, List.map_nil, List.forall_mem_cons, List.not_mem_nil, false_implies, implies_true, and_true, lk, slot, SV.ren, Cell.ren, toN, Nat.reduceEqDiff, if_true, if_false, ↓reduceIte, reduceCtorEq])
      all_goals ((repeat' apply And.intro) <;> (first | rfl | trivial | (simp only [Int.natCast_add]; done) | (simp only [Int.natCast_add]; rfl) | (simp only [Int.natCast_add]; trivial)))
  have c : ¬ (m : Int) < (g.length : Int) := by omega
  obtain rfl : m = g.length := by omega
  have hra : ((List.range g.length).any fun i => decide (apM l n C (g.getD i 0) (u.getD i 0) = A)) = true := by
    obtain ⟨t, ht, e⟩ := q2
    exact List.any_eq_true.2 ⟨t, List.mem_range.2 ht, decide_eq_true e⟩
  rw [hra]
  clear q1 q2 hra hgn
  have nk := next_spec L i l.length hl hr (by omega)
  have rk := nx_rng L i l.length (by omega)
  obtain ⟨k, hk, hkl⟩ : ∃ k : Nat, nxV L i l.length = k ∧ k < l.length := ⟨(nxV L i l.length).toNat, by omega, by omega⟩
  rw [hk] at nk
  generalize nxA L i l.length = J3 at *
  have na := next_spec L J3 10001 hl hr (by decide)
  have ra := nx_rng L J3 10001 (by decide)
  have nb := next_spec L (nxA L J3 10001) 10001 hl hr (by decide)
  have rb := nx_rng L (nxA L J3 10001) 10001 (by decide)
  generalize nxV L (nxA L J3 10001) 10001 = b at *
  generalize nxA L (nxA L J3 10001) 10001 = J5 at *
  generalize nxV L J3 10001 = a at *
  generalize nxA L J3 10001 = J4 at *
  have hsub := sub_spec l none n hV hti.nr l.length k hkl (by omega)
  have hsl := subF_len hV l.length k hkl
  have hoth := fun t (ht : t < l.length) => ef_other hC hkl ht a b (by omega) (by omega) (Nat.sub_le l.length k)
  have hDv := hC.set (k := k) a b (by omega) (by omega)
  obtain ⟨B, hB⟩ : ∃ B, C.set k ⟨(gC C k).g, a, (gC C k).mx⟩ = B := ⟨_, rfl⟩
  have hBm : gC B k = ⟨(gC C k).g, a, (gC C k).mx⟩ := by rw [← hB]; exact getD_set_self C k _ zc (by omega)
  have hBl : B.length = l.length := by rw [← hB]; simpa using hCl
  have hbc := cl_len B
  have hcc := cl_len C
  have s1 : (Cs C).set (k * 3 + 1) (int a) = Cs B := by
    rw [← hB]
    exact Cs_setf C k 1 _ _ (by omega) (by decide) rfl
  have s2 : (Cs B).set (k * 3 + 2) (int b) = Cs (C.set k ⟨(gC C k).g, a, b⟩) := by
    have e : C.set k ⟨(gC C k).g, a, b⟩ = B.set k ⟨(gC C k).g, a, b⟩ := by rw [← hB, List.set_set]
    rw [e]
    refine Cs_setf B k 2 _ _ (by omega) (by decide) ?_
    show clc _ = (clc (gC B k)).set 2 _
    rw [hBm]; rfl
  have hDg : (gC (C.set k ⟨(gC C k).g, a, b⟩) k).g = (gN l k).i := by
    rw [show gC (C.set k ⟨(gC C k).g, a, b⟩) k = _ from getD_set_self C k _ zc (by omega)]
    exact (hC.ok k hkl).1
  generalize C.set k ⟨(gC C k).g, a, b⟩ = D at *
  have hDl := hDv.len
  have hdc := cl_len D
  obtain ⟨gk, _⟩ := cl_f D k (by omega) (.sc (.int .i64 0))
  rw [hDg] at gk
  generalize subF l l.length (gN l k).i = S at *
  generalize hidk : (gN l k).i = idk at *
  have f4 := fun g => ceffe_spec l n D none g (by omega) (by omega) hti.nr hV.ct
  simp only [gr, hDl] at f4
  have hca : List.take (C.length * 3) (Cs C) = Cs C := Cs_all C _ (Nat.le_refl _)
  have hca2 : List.take (l.length * 3) (Cs C) = Cs C := Cs_all C _ (show C.length * 3 ≤ l.length * 3 by omega)
  simp only [go_sem, Nat.reduceEqDiff, Nat.reduceAdd, Nat.reduceSub, Nat.reduceMul, Nat.reduceLT, Nat.reduceLeDiff, ↓reduceIte, reduceCtorEq, List.reduceReplicate, Int.cast_ofNat_Int, Int.reduceEq, Int.reduceLT, Int.reduceLE, decide_eq_false c, lendB, s1, s2, hca, hca2, hCl]
  repeat' (first
    | with_reducible refine And.intro ?_ ?_
    | (intros; (try simp only [Bool.and_eq_true, Bool.or_eq_true, Bool.not_eq_true', Bool.not_eq_false', Bool.and_eq_false_iff, Bool.or_eq_false_iff, decide_eq_true_eq, decide_eq_false_iff_not] at *); omega)
    | (apply cl_lend
       case hr => (simp only [List.map_cons, List.map_nil, hpL', lookR, Nat.reduceEqDiff, if_true, if_false]; first | exact map1 _ | exact map2 _ _ | exact map3 _ _ _)
       case ha => (simp only [List.map_cons, List.map_nil, prepV, prepC, idx, hpL', lookR, Nat.reduceEqDiff, if_true, if_false]; rfl)
       case hs => rfl
       case hn => decide
       case h => (first | exact nk .. | exact na .. | exact nb ..)
       case hf => (simp only [List.forall_mem_cons, List.not_mem_nil, false_implies, implies_true, and_true, true_and, flat_cons, flat_nil, flat_ints, flat_bools, flat_app, Cs_flat, Cell.refs, and_self, eq_self_iff_true, List.append_nil])
       case hl => (simp only [List.length_cons, List.length_nil]; decide))
    | ((first | refine s1_id ?_ | refine swp_id ?_ | refine sops_id ?_ | refine s2_id ?_); simp only [decide_eq_false c, lendB, s1, s2, hca, hca2, hCl, dice, List.flatten_cons, List.flatten_nil, List.append_nil, List.cons_append, List.nil_append, List.set_cons_zero, List.set_cons_succ, List.take_succ_cons, List.take_zero, List.take_nil, List.length_cons, List.length_nil, go_sem, Nat.reduceEqDiff, Nat.reduceAdd, Nat.reduceSub, Nat.reduceMul, Nat.reduceLT, Nat.reduceLeDiff, ↓reduceIte, reduceCtorEq, List.reduceReplicate, Int.cast_ofNat_Int, Int.reduceEq, Int.reduceLT, Int.reduceLE, SV.ren, SV.renL, Cell.ren, Row.ren, renO, bk, back, outUpsFrom, Ints_ren]))
  refine w_loop (ι := Nat) (fun m => ⟨[(6, .one (.optr 0 0)), (7, gr C none), (12, b1 true), (15, .one (.osl 1 0 l.length none)), (16, i1 k), (110, i1 l.length), (111, i1 m)], [(0, some ⟨[.gsl (Cs l) 0 l.length none, int n], 2⟩), (1, some ⟨Cs D, 3⟩)], 2⟩) (fun m => m ≤ l.length) (fun m => l.length - m) 0 ?_ (Nat.zero_le _) ?_
  · (refine imp_ren _ _ _ [(0, 1, ⟨[.gsl (Cs l) 0 l.length none, int n], 2⟩), (1, 6, ⟨Cs D, 3⟩)] (by simp) (by simp) (by simp) (Nat.le_of_ble_eq_true rfl) ?_ rfl (by simp only [List.forall_mem_cons, List.not_mem_nil, false_implies, implies_true, and_true, St.hpF, lookR, Nat.reduceEqDiff, if_true, if_false, ↓reduceIte, Cs_flat] <;> (repeat' apply And.intro) <;> (first | rfl | trivial)) (by simp only [List.forall_mem_cons, List.not_mem_nil, false_implies, implies_true, and_true, true_and, flat_cons, flat_nil, flat_ints, flat_bools, flat_app, Cell.refs, and_self, eq_self_iff_true, List.append_nil, Cs_flat]); simp only [List.map_cons, List.map_nil, List.forall_mem_cons, List.not_mem_nil, false_implies, implies_true, and_true, lk, slot, SV.ren, Cell.ren, toN, Nat.reduceEqDiff, if_true, if_false, ↓reduceIte, reduceCtorEq])
    all_goals ((repeat' apply And.intro) <;> (first | rfl | trivial))
  clear nk na nb
  intro m hm
  simp only at hm ⊢
  rcases Nat.lt_or_ge m l.length with hlt | hge
  case inr =>
    have c : ¬ (m : Int) < (l.length : Int) := by omega
    simp only [go_sem, Nat.reduceEqDiff, Nat.reduceAdd, Nat.reduceSub, Nat.reduceMul, Nat.reduceLT, Nat.reduceLeDiff, ↓reduceIte, reduceCtorEq, List.reduceReplicate, Int.cast_ofNat_Int, Int.reduceEq, Int.reduceLT, Int.reduceLE, decide_eq_false c, lendB]
    repeat' (first
    | (apply cg_tp
       case hl => rfl
       case ha => (simp only [List.map_cons, List.map_nil, prepV, prepC, idx, hpL', lookR, Nat.reduceEqDiff, if_true, if_false]; rfl)
       case hs => rfl
       case h => (first | exact sane_spec ..))
    | ((first | refine s1_id ?_ | refine swp_id ?_ | refine sops_id ?_ | refine s2_id ?_); simp only [decide_eq_false c, lendB, go_sem, Nat.reduceEqDiff, Nat.reduceAdd, Nat.reduceSub, Nat.reduceMul, Nat.reduceLT, Nat.reduceLeDiff, ↓reduceIte, reduceCtorEq, List.reduceReplicate, Int.cast_ofNat_Int, Int.reduceEq, Int.reduceLT, Int.reduceLE, SV.ren, SV.renL, Cell.ren, Row.ren, renO, bk, back, outUpsFrom, Ints_ren])
    | (apply fs_nil <;> (try simp only [go_sem, resV, resS, SV.ren, SV.renL, Cell.ren, St.tmF, St.hpF, idx, renO, Row.ren, evS, slot, lookR, Nat.reduceEqDiff, ↓reduceIte, reduceCtorEq, if_true, if_false, Option.getD_some, Option.getD_none, List.map_cons, List.map_nil, sLoad, readAt, readNeed, Ints_ren, Ints_length, Ints_getD, and_true, true_and, List.getD_cons_zero, List.getD_cons_succ]) <;> (try rfl)))
  have c : (m : Int) < (l.length : Int) := by omega
  obtain ⟨g1, _⟩ := nd_f l m hlt (.sc (.int .i64 0))
  have hh := has_spec S none (gN l m).i (by omega)
  by_cases hin : (gN l m).i ∈ S
  · rw [decide_eq_true hin] at hh
    simp only [go_sem, Nat.reduceEqDiff, Nat.reduceAdd, Nat.reduceSub, Nat.reduceMul, Nat.reduceLT, Nat.reduceLeDiff, ↓reduceIte, reduceCtorEq, List.reduceReplicate, Int.cast_ofNat_Int, Int.reduceEq, Int.reduceLT, Int.reduceLE, decide_eq_true c, lendB, g1, gk]
    repeat' (first
    | with_reducible refine And.intro ?_ ?_
    | (unfold OKC; kernel_rfl)
    | (unfold EDG; kernel_rfl)
    | (intros; (try simp only [Bool.and_eq_true, Bool.or_eq_true, Bool.not_eq_true', Bool.not_eq_false', Bool.and_eq_false_iff, Bool.or_eq_false_iff, decide_eq_true_eq, decide_eq_false_iff_not] at *); omega)
    | (apply cl_plain
       case hs => rfl
       case ha => (simp only [List.map_cons, List.map_nil, prepV, prepC, idx, hpL', lookR, Nat.reduceEqDiff, if_true, if_false]; rfl)
       case h => (first | exact hsub .. | exact hh ..))
    | ((first | refine s1_id ?_ | refine swp_id ?_ | refine sops_id ?_ | refine s2_id ?_); simp only [decide_eq_true c, lendB, g1, gk, go_sem, Nat.reduceEqDiff, Nat.reduceAdd, Nat.reduceSub, Nat.reduceMul, Nat.reduceLT, Nat.reduceLeDiff, ↓reduceIte, reduceCtorEq, List.reduceReplicate, Int.cast_ofNat_Int, Int.reduceEq, Int.reduceLT, Int.reduceLE, SV.ren, SV.renL, Cell.ren, Row.ren, renO, bk, back, outUpsFrom, Ints_ren]))
    refine le_mk (m + 1) ?_ hlt (by omega)
    (refine imp_ren _ _ _ [(0, 0, ⟨[.gsl (Cs l) 0 l.length none, int n], 2⟩), (1, 1, ⟨Cs D, 3⟩)] (by simp) (by simp) (by simp) (Nat.le_of_ble_eq_true rfl) ?_ rfl (by simp only [List.forall_mem_cons, List.not_mem_nil, false_implies, implies_true, and_true, St.hpF, lookR, Nat.reduceEqDiff, if_true, if_false, ↓reduceIte, Cs_flat] <;> (repeat' apply And.intro) <;> (first | rfl | trivial)) (by simp only [List.forall_mem_cons, List.not_mem_nil, false_implies, implies_true, and_true, true_and, flat_cons, flat_nil, flat_ints, flat_bools, flat_app, Cell.refs, and_self, eq_self_iff_true, List.append_nil, Cs_flat]); simp only [List.map_cons, List.map_nil, List.forall_mem_cons, List.not_mem_nil, false_implies, implies_true, and_true, lk, slot, SV.ren, Cell.ren, toN, Nat.reduceEqDiff, if_true, if_false, ↓reduceIte, reduceCtorEq])
    all_goals ((repeat' apply And.intro) <;> (first | rfl | trivial | (simp only [Int.natCast_add]; done) | (simp only [Int.natCast_add]; rfl) | (simp only [Int.natCast_add]; trivial)))
  · rw [decide_eq_false hin] at hh
    have e1 := f3 (gN l m).i
    have e2 := f4 (gN l m).i
    rw [hoth m hlt hin] at e2
    generalize efP l n C (gN l m).i = E at *
    obtain ⟨lo, up⟩ := E
    simp only at e1 e2
    have r1 : lo = lo := rfl
    have r2 : up = up := rfl
    simp only [go_sem, Nat.reduceEqDiff, Nat.reduceAdd, Nat.reduceSub, Nat.reduceMul, Nat.reduceLT, Nat.reduceLeDiff, ↓reduceIte, reduceCtorEq, List.reduceReplicate, Int.cast_ofNat_Int, Int.reduceEq, Int.reduceLT, Int.reduceLE, decide_eq_true c, lendB, g1, gk, decide_eq_true r1, decide_eq_true r2]
    repeat' (first
    | with_reducible refine And.intro ?_ ?_
    | (unfold OKC; kernel_rfl)
    | (unfold EDG; kernel_rfl)
    | (intros; (try simp only [Bool.and_eq_true, Bool.or_eq_true, Bool.not_eq_true', Bool.not_eq_false', Bool.and_eq_false_iff, Bool.or_eq_false_iff, decide_eq_true_eq, decide_eq_false_iff_not] at *); omega)
    | (apply cl_plain
       case hs => rfl
       case ha => (simp only [List.map_cons, List.map_nil, prepV, prepC, idx, hpL', lookR, Nat.reduceEqDiff, if_true, if_false]; rfl)
       case h => (first | exact hsub .. | exact hh .. | exact e1 .. | exact e2 ..))
    | (apply cl_show
       case ha => (simp only [List.map_cons, List.map_nil, prepV, prepC, idx, hpL', lookR, Nat.reduceEqDiff, if_true, if_false]; rfl)
       case hs => ((simp [snaps, SV.refs, Cell.refs, idx, hpL', lookR]) <;> (repeat' apply And.intro) <;> (first | exact Ints_isG _ | exact Cs_isG _))
       case h => (first | exact hsub .. | exact hh .. | exact e1 .. | exact e2 ..)
       case hg => ((simp [SV.noG, SV.noGL, Cell.noG]) <;> (repeat' apply And.intro) <;> exact Ints_noG _))
    | ((first | refine s1_id ?_ | refine swp_id ?_ | refine sops_id ?_ | refine s2_id ?_); simp only [decide_eq_true c, lendB, g1, gk, decide_eq_true r1, decide_eq_true r2, go_sem, Nat.reduceEqDiff, Nat.reduceAdd, Nat.reduceSub, Nat.reduceMul, Nat.reduceLT, Nat.reduceLeDiff, ↓reduceIte, reduceCtorEq, List.reduceReplicate, Int.cast_ofNat_Int, Int.reduceEq, Int.reduceLT, Int.reduceLE, SV.ren, SV.renL, Cell.ren, Row.ren, renO, bk, back, outUpsFrom, Ints_ren]))
    refine le_mk (m + 1) ?_ hlt (by omega)
    (refine imp_ren _ _ _ [(0, 0, ⟨[.gsl (Cs l) 0 l.length none, int n], 2⟩), (1, 1, ⟨Cs D, 3⟩)] (by simp) (by simp) (by simp) (Nat.le_of_ble_eq_true rfl) ?_ rfl (by simp only [List.forall_mem_cons, List.not_mem_nil, false_implies, implies_true, and_true, St.hpF, lookR, Nat.reduceEqDiff, if_true, if_false, ↓reduceIte, Cs_flat] <;> (repeat' apply And.intro) <;> (first | rfl | trivial)) (by simp only [List.forall_mem_cons, List.not_mem_nil, false_implies, implies_true, and_true, true_and, flat_cons, flat_nil, flat_ints, flat_bools, flat_app, Cell.refs, and_self, eq_self_iff_true, List.append_nil, Cs_flat]); simp only [List.map_cons, List.map_nil, List.forall_mem_cons, List.not_mem_nil, false_implies, implies_true, and_true, lk, slot, SV.ren, Cell.ren, toN, Nat.reduceEqDiff, if_true, if_false, ↓reduceIte, reduceCtorEq])
    all_goals ((repeat' apply And.intro) <;> (first | rfl | trivial | (simp only [Int.natCast_add]; done) | (simp only [Int.natCast_add]; rfl) | (simp only [Int.natCast_add]; trivial)))
theorem capac_main (g0 : List Cell) (s0 : GTy Try.prog 12 36 g0) (g1 : List Cell) (s1 : GTy Try.prog 12 3 g1) : FnSpec Try.prog 8 [svOf Try.prog 36 g0, svOf Try.prog 3 g1] [] (b1 true) [] := by
  obtain ⟨l, rfl, hl, hr⟩ := gty_ints (n := 10) Try.underlying36 Try.underlying3 s0
  obtain ⟨a, rfl, ha⟩ := gty_int (n := 11) Try.underlying3 s1
  simp only [svOf, Try.underlying36, Try.underlying3, List.headD_cons]
  exact capac_spec l a hr
end Go.Proofs.Ytnlgboiooabbiaa
