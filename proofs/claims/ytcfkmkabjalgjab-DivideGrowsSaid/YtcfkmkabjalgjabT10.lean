/- Contracts of functions, told of values, on the way to DivideGrows. -/
import Derived.Test.YtcfkmkabjalgjabTyAb
import Derived.Test.YtcfkmkabjalgjabT9
namespace Go.Proofs.Ytcfkmkabjalgjab
set_option linter.unusedVariables false
set_option linter.unusedSimpArgs false
open Go.Proofs.Ytcfkmkabjalgjab.Sh Go.RowKit
/-- the order in which units are given, ties told apart -/
def Tied (ws ds xs : List Int) : Prop := ∀ i j, i < ws.length → j < ws.length → i ≠ j → xs.getD i 0 < ds.getD i 0 → xs.getD j 0 * ws.getD i 0 ≤ (xs.getD i 0 + 1) * ws.getD j 0 ∧ (xs.getD j 0 * ws.getD i 0 = (xs.getD i 0 + 1) * ws.getD j 0 → j < i)
theorem rated_of {ws ds xs : List Int} (hd : ds.length = ws.length) (hw : ∀ i, i < ws.length → isW (ws.getD i 0) = true ∧ isU (ds.getD i 0) = true) {k : Nat} (ih : Fair ws ds xs k) : ∀ i, i < ws.length → rated ws xs i = true := fun i hi => by
  have h1 := (hw i hi).1
  have h2 := ih.lo i hi
  have h3 := ih.hi i hi
  have h4 := (hw i hi).2
  have h5 := ih.len
  simp only [isU, Bool.and_eq_true, decide_eq_true_eq] at h4
  simp only [rated, isU, Bool.and_eq_true, decide_eq_true_eq, Int.toNat_natCast, h1, and_true]
  omega
theorem tied_divN {ws ds : List Int} (hd : ds.length = ws.length) (hw : ∀ i, i < ws.length → isW (ws.getD i 0) = true ∧ isU (ds.getD i 0) = true) : ∀ k, Tied ws ds (divN ws ds k)
  | 0 => by
    have e : ∀ i, (divN ws ds 0).getD i 0 = 0 := by
      intro i
      simp only [divN, List.getD_eq_getElem?_getD, List.getElem?_replicate]
      split <;> rfl
    intro i j hi hj _ _
    have := (hw j hj).1
    simp only [isW, Bool.and_eq_true, decide_eq_true_eq] at this
    rw [e, e]
    constructor
    · omega
    · intro h; omega
  | k + 1 => by
    have ih := tied_divN hd hw k
    have hf := fair_divN hd hw k
    have hrt := rated_of hd hw hf
    have hww : ∀ i, i < ws.length → 1 ≤ ws.getD i 0 := fun i hi => by
      have := (hw i hi).1
      simp only [isW, Bool.and_eq_true, decide_eq_true_eq] at this; omega
    unfold divN
    cases hok : (firstN ws (divN ws ds k) ds ws.length).2 with
    | false => simp only [Bool.false_eq_true, if_false]; exact ih
    | true =>
      simp only [if_true]
      obtain ⟨b, hb, hbe, hbl, hbm⟩ := (firstN_min ws (divN ws ds k) ds hrt ws.length (Nat.le_refl _)).2 hok
      have hbf := firstN_first ws (divN ws ds k) ds hrt ws.length (Nat.le_refl _) b hok hbe
      have hlb : b < (divN ws ds k).length := by rw [hf.len]; exact hb
      have hst : step1 ws ds (divN ws ds k) = (divN ws ds k).set b ((divN ws ds k).getD b 0 + 1) := by
        unfold step1; rw [hbe, Int.toNat_natCast]
      rw [hst]
      have hg : ∀ i, ((divN ws ds k).set b ((divN ws ds k).getD b 0 + 1)).getD i 0 = if i = b then (divN ws ds k).getD b 0 + 1 else (divN ws ds k).getD i 0 := fun i => getD_set _ b i _ hlb
      intro i j hi hj hij hlt
      rw [hg] at hlt
      rw [hg, hg]
      by_cases ei : i = b
      · subst ei
        rw [if_pos rfl] at hlt ⊢
        rw [if_neg (Ne.symm hij)]
        have h1 := (ih i j hi hj hij hbl).1
        have h2 := hww j hj
        have h3 : ((divN ws ds k).getD i 0 + 1) * ws.getD j 0 < ((divN ws ds k).getD i 0 + 1 + 1) * ws.getD j 0 := Int.mul_lt_mul_of_pos_right (by omega) (by omega)
        exact ⟨by omega, fun q => by omega⟩
      · rw [if_neg ei] at hlt ⊢
        by_cases ej : j = b
        · subst ej
          rw [if_pos rfl]
          refine ⟨hbm i hi hlt, fun q => ?_⟩
          rcases Nat.lt_trichotomy i j with h | h | h
          · have := hbf i h hlt; omega
          · exact absurd h hij
          · exact h
        · rw [if_neg ej]
          exact ih i j hi hj hij hlt

/-- a greater demand takes nothing from the member that has it, and gives nothing to others -/
theorem more_demand {ws ds es : List Int} {k i : Nat} (hi : i < ws.length) (he : ∀ j, j < ws.length → j ≠ i → es.getD j 0 = ds.getD j 0) (hei : ds.getD i 0 ≤ es.getD i 0)
    {xs zs : List Int} (hx : Fair ws ds xs k) (hz : Fair ws es zs k) (tx : Tied ws ds xs) (tz : Tied ws es zs) (hww : ∀ i, i < ws.length → 1 ≤ ws.getD i 0) :
    (∀ j, j < ws.length → j ≠ i → zs.getD j 0 ≤ xs.getD j 0) ∧ xs.getD i 0 ≤ zs.getD i 0 := by
  have hle : ∀ j, j < ws.length → ds.getD j 0 ≤ es.getD j 0 := fun j hj => by
    by_cases e : j = i
    · subst e; exact hei
    · rw [he j hj e]; exact Int.le_refl _
  have h1 : ∀ b, b < ws.length → b ≠ i → zs.getD b 0 ≤ xs.getD b 0 := by
    intro b hb hbi
    rcases Int.lt_or_le (xs.getD b 0) (zs.getD b 0) with hlt | hle'
    · exfalso
      have hxb : xs.getD b 0 < ds.getD b 0 := by have := hz.hi b hb; rw [he b hb hbi] at this; omega
      have hall : ∀ j, j < ws.length → xs.getD j 0 ≤ zs.getD j 0 := by
        intro j hj
        rcases Int.lt_or_le (zs.getD j 0) (xs.getD j 0) with hq | hq
        · exfalso
          have hjb : b ≠ j := fun e => by subst e; omega
          have hzj : zs.getD j 0 < es.getD j 0 := by have := hx.hi j hj; have := hle j hj; omega
          obtain ⟨a1, a2⟩ := tx b j hb hj hjb hxb
          obtain ⟨b1, b2⟩ := tz j b hj hb (Ne.symm hjb) hzj
          have c1 : (xs.getD b 0 + 1) * ws.getD j 0 ≤ zs.getD b 0 * ws.getD j 0 := Int.mul_le_mul_of_nonneg_right (by omega) (by have := hww j hj; omega)
          have c2 : (zs.getD j 0 + 1) * ws.getD b 0 ≤ xs.getD j 0 * ws.getD b 0 := Int.mul_le_mul_of_nonneg_right (by omega) (by have := hww b hb; omega)
          have d1 := a2 (by omega)
          have d2 := b2 (by omega)
          omega
        · exact hq
      have hs := sm_lt (f := fun j => xs.getD j 0) (g := fun j => zs.getD j 0) (n := ws.length) hall ⟨b, hb, hlt⟩
      rcases hx.sum with q | ⟨q1, q2⟩
      · rcases hz.sum with r | ⟨r1, _⟩ <;> omega
      · have := q2 b hb; omega
    · exact hle'
  refine ⟨h1, ?_⟩
  rcases Int.lt_or_le (zs.getD i 0) (xs.getD i 0) with hlt | hle'
  · exfalso
    have hall : ∀ j, j < ws.length → zs.getD j 0 ≤ xs.getD j 0 := fun j hj => by
      by_cases e : j = i
      · subst e; omega
      · exact h1 j hj e
    have hs := sm_lt (f := fun j => zs.getD j 0) (g := fun j => xs.getD j 0) (n := ws.length) hall ⟨i, hi, hlt⟩
    rcases hz.sum with q | ⟨q1, q2⟩
    · rcases hx.sum with r | ⟨r1, _⟩ <;> omega
    · have := q2 i hi; have := hx.hi i hi; omega
  · exact hle'
/-- one more unit -/
theorem one_more (ws ds : List Int) (k : Nat) (hr : ∀ i, i < ws.length → rated ws (divN ws ds k) i = true) : (∀ j, (divN ws ds k).getD j 0 ≤ (divN ws ds (k + 1)).getD j 0) ∧ ∀ n, sm (fun j => (divN ws ds (k + 1)).getD j 0 - (divN ws ds k).getD j 0) n ≤ 1 := by
  cases hok : (firstN ws (divN ws ds k) ds ws.length).2 with
  | false =>
    have e : divN ws ds (k + 1) = divN ws ds k := by rw [divN, hok]; rfl
    rw [e]
    refine ⟨fun j => Int.le_refl _, fun n => ?_⟩
    rw [sm_congr (g := fun _ => 0) (fun i _ => by omega), sm_zero]; decide
  | true =>
    obtain ⟨b, hb, hbe, hbl, hbm⟩ := (firstN_min ws (divN ws ds k) ds hr ws.length (Nat.le_refl _)).2 hok
    have e : divN ws ds (k + 1) = (divN ws ds k).set b ((divN ws ds k).getD b 0 + 1) := by
      rw [divN, if_pos hok, step1, hbe, Int.toNat_natCast]
    have hg : ∀ i, (divN ws ds (k + 1)).getD i 0 = if i = b then (divN ws ds k).getD b 0 + 1 else (divN ws ds k).getD i 0 := fun i => by
      rw [e]; exact getD_set _ b i _ (by rw [divN_length]; exact hb)
    refine ⟨fun j => by rw [hg]; split <;> (try (rename_i q; subst q)) <;> omega, fun n => ?_⟩
    rw [sm_bump (f := fun _ => 0) (b := b) (fun i hi => by rw [hg, if_neg hi]; omega) (by rw [hg, if_pos rfl]; omega), sm_zero]
    split <;> decide
theorem valid_of {t : Int} {ws ds : List Int} (ht : 0 ≤ t ∧ t ≤ 65536) (h2 : ws.length ≤ 64) (h3 : ds.length = ws.length) (h4 : ∀ i, i < ws.length → isW (ws.getD i 0) = true ∧ isU (ds.getD i 0) = true) : valid t ws ds = true := by
  have ht' : isU t = true := by simp only [isU, Bool.and_eq_true, decide_eq_true_eq]; exact ht
  simp only [valid, validTo, Bool.and_eq_true, Bool.not_eq_true', Bool.or_eq_false_iff, Bool.not_eq_false', decide_eq_true_eq, decide_eq_false_iff_not, List.all_eq_true, List.mem_range]
  exact ⟨⟨⟨ht', by omega⟩, by omega⟩, h4⟩
def moreD (ds : List Int) (q r : Int) : List Int := ds.set q.toNat (if 65536 < ds.getD q.toNat 0 + 1 + r then 65536 else ds.getD q.toNat 0 + 1 + r)
set_option maxRecDepth 8000 in
theorem grows_spec (l : List Int) (t : Int) (hl : ∀ x ∈ l, -9223372036854775808 ≤ x ∧ x ≤ 9223372036854775807) (ht : 0 ≤ t ∧ t ≤ 65535) : FnSpec Try.prog 6 [gi l none, .one (.sc (.int .u16 t))] [] (b1 true) [] := by
  by_cases hlen : (l.length : Int) ≤ 600
  case neg =>
    refine fnspec_of mixed TT_ok TT_cl ⟨fun _ => false, fun f => if f = 12 then [0] else if f = 17 then [0] else [], 0, fun _ => false⟩ Try.func6 rfl (by kernel_rfl) rfl 145 rfl [.tmp 4] rfl ?_
    simp only [go_sem, Nat.reduceEqDiff, Nat.reduceAdd, Nat.reduceSub, Nat.reduceMul, Nat.reduceLT, Nat.reduceLeDiff, ↓reduceIte, reduceCtorEq, List.reduceReplicate]
    repeat' (first
    | with_reducible refine And.intro ?_ ?_
    | (unfold OKC; kernel_rfl)
    | (apply okc_up <;> (first | ((repeat (first | exact Sub.nil | apply Sub.gfp | apply Sub.same)); done) | kernel_rfl))
    | (unfold EDG; kernel_rfl)
    | (intros; (try simp only [Bool.and_eq_true, Bool.or_eq_true, Bool.not_eq_true', Bool.not_eq_false', Bool.and_eq_false_iff, Bool.or_eq_false_iff, decide_eq_true_eq, decide_eq_false_iff_not] at *); omega)
    | (refine cd_if (fun h => ?_) (fun h => ?_) <;> (first | (simp only [h, decide_eq_false hlen, go_sem, Nat.reduceEqDiff, Nat.reduceAdd, Nat.reduceSub, Nat.reduceMul, Nat.reduceLT, Nat.reduceLeDiff, ↓reduceIte, reduceCtorEq, List.reduceReplicate]; done) | simp only [h, decide_eq_false hlen, go_sem, Nat.reduceEqDiff, Nat.reduceAdd, Nat.reduceSub, Nat.reduceMul, Nat.reduceLT, Nat.reduceLeDiff, ↓reduceIte, reduceCtorEq, List.reduceReplicate] | skip))
    | (apply cg_tp
       case hl => rfl
       case ha => (simp only [List.map_cons, List.map_nil, prepV, prepC, idx, hpL', lookR, Nat.reduceEqDiff, if_true, if_false]; rfl)
       case hs => rfl
       case h => (first | exact light_spec .. | exact sane_spec ..)
       case' hk => simp only [decide_eq_false hlen, go_sem, Nat.reduceEqDiff, Nat.reduceAdd, Nat.reduceSub, Nat.reduceMul, Nat.reduceLT, Nat.reduceLeDiff, ↓reduceIte, reduceCtorEq, List.reduceReplicate, SV.ren, SV.renL, Cell.ren])
    | (apply cg_ts
       case hl => rfl
       case ha => (simp only [List.map_cons, List.map_nil, prepV, prepC, idx, hpL', lookR, Nat.reduceEqDiff, if_true, if_false]; rfl)
       case hs => (simp only [snaps_nil, List.flatMap_cons, List.flatMap_nil, SV.refs, Cell.refs, List.nil_append, List.cons_append, List.append_nil]; rfl)
       case h => (first | exact light_spec .. | exact sane_spec ..)
       case hf => ((simp only [List.forall_mem_cons, List.not_mem_nil, false_implies, implies_true, and_true, hpL', lookR, Nat.reduceEqDiff, if_true, if_false]) <;> (repeat' apply And.intro) <;> exact ⟨_, rfl, Ints_isG _⟩)
       case hg => simp [SV.noG, SV.noGL, Cell.noG]
       case' hk => simp only [decide_eq_false hlen, go_sem, Nat.reduceEqDiff, Nat.reduceAdd, Nat.reduceSub, Nat.reduceMul, Nat.reduceLT, Nat.reduceLeDiff, ↓reduceIte, reduceCtorEq, List.reduceReplicate, SV.ren, SV.renL, Cell.ren])
    | (apply cg_any
       case hl => rfl
       case ha => (intro hb; simp only [List.map_cons, List.map_nil, cnd, hb, if_true, prepV, prepC, idx, hpL', lookR, Nat.reduceEqDiff, if_false]; rfl)
       case hs => (intro hb; simp only [cnd, hb, if_true]; rfl)
       case h => (first | exact light_spec .. | exact sane_spec ..)
       case' hk => simp only [decide_eq_false hlen, go_sem, Nat.reduceEqDiff, Nat.reduceAdd, Nat.reduceSub, Nat.reduceMul, Nat.reduceLT, Nat.reduceLeDiff, ↓reduceIte, reduceCtorEq, List.reduceReplicate, SV.ren, SV.renL, Cell.ren])
    | (apply cg_show
       case hl => rfl
       case ha => (intro hb; simp only [List.map_cons, List.map_nil, cnd, hb, if_true, prepV, prepC, idx, hpL', lookR, Nat.reduceEqDiff, if_false]; rfl)
       case hs => (intro hb; simp only [cnd, hb, if_true, snaps_nil, List.flatMap_cons, List.flatMap_nil, SV.refs, Cell.refs, List.nil_append, List.cons_append, List.append_nil]; rfl)
       case h => (first | exact light_spec .. | exact sane_spec ..)
       case hf => ((simp only [List.forall_mem_cons, List.not_mem_nil, false_implies, implies_true, and_true, hpL', lookR, Nat.reduceEqDiff, if_true, if_false]) <;> (repeat' apply And.intro) <;> exact ⟨_, rfl, Ints_isG _⟩)
       case hg => simp [SV.noG, SV.noGL, Cell.noG]
       case' hk => simp only [decide_eq_false hlen, go_sem, Nat.reduceEqDiff, Nat.reduceAdd, Nat.reduceSub, Nat.reduceMul, Nat.reduceLT, Nat.reduceLeDiff, ↓reduceIte, reduceCtorEq, List.reduceReplicate, SV.ren, SV.renL, Cell.ren])
    | (apply cl_plain
       case hs => rfl
       case ha => (simp only [List.map_cons, List.map_nil, prepV, prepC, idx, hpL', lookR, Nat.reduceEqDiff, if_true, if_false]; rfl)
       case h => (first | exact light_spec .. | exact sane_spec ..)
       case' hk => simp only [decide_eq_false hlen, go_sem, Nat.reduceEqDiff, Nat.reduceAdd, Nat.reduceSub, Nat.reduceMul, Nat.reduceLT, Nat.reduceLeDiff, ↓reduceIte, reduceCtorEq, List.reduceReplicate, SV.ren, SV.renL, Cell.ren, Row.ren, renO, bk, back, outUpsFrom, Ints_ren])
    | (apply cl_lend
       case hr => (simp only [List.map_cons, List.map_nil, hpL', lookR, Nat.reduceEqDiff, if_true, if_false]; first | exact map1 _ | exact map2 _ _ | exact map3 _ _ _)
       case ha => (simp only [List.map_cons, List.map_nil, prepV, prepC, idx, hpL', lookR, Nat.reduceEqDiff, if_true, if_false]; rfl)
       case hs => rfl
       case hn => decide
       case h => (first | exact light_spec .. | exact sane_spec ..)
       case hf => (simp only [List.forall_mem_cons, List.not_mem_nil, false_implies, implies_true, and_true, true_and, flat_cons, flat_nil, flat_ints, flat_app, Cell.refs, and_self, eq_self_iff_true, List.append_nil])
       case hl => (simp only [List.length_cons, List.length_nil]; decide)
       case' hk => simp only [decide_eq_false hlen, go_sem, Nat.reduceEqDiff, Nat.reduceAdd, Nat.reduceSub, Nat.reduceMul, Nat.reduceLT, Nat.reduceLeDiff, ↓reduceIte, reduceCtorEq, List.reduceReplicate, SV.ren, SV.renL, Cell.ren, Row.ren, renO, bk, back, outUpsFrom, Ints_ren])
    | (apply cl_show
       case ha => (simp only [List.map_cons, List.map_nil, prepV, prepC, idx, hpL', lookR, Nat.reduceEqDiff, if_true, if_false]; rfl)
       case hs => ((simp [snaps, SV.refs, Cell.refs, idx, hpL', lookR]) <;> (repeat' apply And.intro) <;> exact Ints_isG _)
       case h => (first | exact light_spec .. | exact sane_spec ..)
       case hg => ((simp [SV.noG, SV.noGL, Cell.noG]) <;> (repeat' apply And.intro) <;> exact Ints_noG _)
       case' hk => simp only [decide_eq_false hlen, go_sem, Nat.reduceEqDiff, Nat.reduceAdd, Nat.reduceSub, Nat.reduceMul, Nat.reduceLT, Nat.reduceLeDiff, ↓reduceIte, reduceCtorEq, List.reduceReplicate, SV.ren, SV.renL, Cell.ren, Row.ren, renO, bk, back, outUpsFrom, Ints_ren])
    | (apply fs_nil <;> (try simp only [resV, resS, SV.ren, SV.renL, Cell.ren, St.tmF, St.hpF, idx, renO, Row.ren, evS, slot, lookR, Nat.reduceEqDiff, ↓reduceIte, reduceCtorEq, if_true, if_false, Option.getD_some, Option.getD_none, List.map_cons, List.map_nil, sLoad, readAt, readNeed, Ints_ren, Ints_length, Ints_getD, and_true, true_and, List.getD_cons_zero, List.getD_cons_succ]) <;> (try rfl)))
  have hk1 := Int.tmod_nonneg (a := t) 3000 ht.1
  have hk2 := Int.tmod_lt_of_pos t (b := 3000) (by omega)
  have hdv := divide_spec (t.tmod 3000) (drW l 0).1 (drD l 0).1 none none (drValid _ _ _ (by omega))
  have hdv2 := divide_spec (t.tmod 3000 + 1) (drW l 0).1 (drD l 0).1 none none (drValid _ _ _ (by omega))
  have hK := drK_le l 0
  simp only [gi, drW_len, drD_len] at hdv hdv2
  have hfk := fair_divN (ws := (drW l 0).1) (ds := (drD l 0).1) (by rw [drW_len, drD_len]) (drWD l 0) (t.tmod 3000).toNat
  have htk := tied_divN (ws := (drW l 0).1) (ds := (drD l 0).1) (by rw [drW_len, drD_len]) (drWD l 0) (t.tmod 3000).toNat
  have hom := one_more (drW l 0).1 (drD l 0).1 (t.tmod 3000).toNat (rated_of (by rw [drW_len, drD_len]) (drWD l 0) hfk)
  have hk' : (t.tmod 3000 + 1).toNat = (t.tmod 3000).toNat + 1 := by omega
  rw [hk'] at hdv2
  have hxl : ∀ c, (divN (drW l 0).1 (drD l 0).1 c).length = drK l 0 := fun c => by rw [divN_length, drW_len]
  have htake : List.take (drK l 0) (drD l 0).1 = (drD l 0).1 := List.take_of_length_le (by rw [drD_len]; exact Nat.le_refl _)
  have hWl := drW_len l 0
  have hDl := drD_len l 0
  have hWD := drWD l 0
  rw [hWl] at hWD
  have hr1 := nxV_rng l (drD l 0).2 (drK l 0)
  have hr2 := nxV_rng l (nxA l (drD l 0).2 (drK l 0)) 50 (by omega)
  by_cases hM0 : ((drK l 0 : Nat) : Int) = 0
  case pos =>
    refine fnspec_of mixed TT_ok TT_cl ⟨fun _ => false, fun f => if f = 12 then [0] else if f = 17 then [0] else [], 0, fun _ => false⟩ Try.func6 rfl (by kernel_rfl) rfl 145 rfl [.tmp 4] rfl ?_
    simp only [go_sem, Nat.reduceEqDiff, Nat.reduceAdd, Nat.reduceSub, Nat.reduceMul, Nat.reduceLT, Nat.reduceLeDiff, ↓reduceIte, reduceCtorEq, List.reduceReplicate]
    repeat' (first
    | with_reducible refine And.intro ?_ ?_
    | (unfold OKC; kernel_rfl)
    | (apply okc_up <;> (first | ((repeat (first | exact Sub.nil | apply Sub.gfp | apply Sub.same)); done) | kernel_rfl))
    | (unfold EDG; kernel_rfl)
    | (intros; (try simp only [Bool.and_eq_true, Bool.or_eq_true, Bool.not_eq_true', Bool.not_eq_false', Bool.and_eq_false_iff, Bool.or_eq_false_iff, decide_eq_true_eq, decide_eq_false_iff_not] at *); omega)
    | (refine cd_if (fun h => ?_) (fun h => ?_) <;> (first | (simp only [h, decide_eq_true hlen, decide_eq_true hM0, go_sem, Nat.reduceEqDiff, Nat.reduceAdd, Nat.reduceSub, Nat.reduceMul, Nat.reduceLT, Nat.reduceLeDiff, ↓reduceIte, reduceCtorEq, List.reduceReplicate]; done) | simp only [h, decide_eq_true hlen, decide_eq_true hM0, go_sem, Nat.reduceEqDiff, Nat.reduceAdd, Nat.reduceSub, Nat.reduceMul, Nat.reduceLT, Nat.reduceLeDiff, ↓reduceIte, reduceCtorEq, List.reduceReplicate] | skip))
    | (apply cg_tp
       case hl => rfl
       case ha => (simp only [List.map_cons, List.map_nil, prepV, prepC, idx, hpL', lookR, Nat.reduceEqDiff, if_true, if_false]; rfl)
       case hs => rfl
       case h => (first | exact light_spec .. | exact sane_spec .. | exact roll_spec .. | exact draw_spec _ _ (by omega) hl)
       case' hk => simp only [decide_eq_true hlen, decide_eq_true hM0, go_sem, Nat.reduceEqDiff, Nat.reduceAdd, Nat.reduceSub, Nat.reduceMul, Nat.reduceLT, Nat.reduceLeDiff, ↓reduceIte, reduceCtorEq, List.reduceReplicate, SV.ren, SV.renL, Cell.ren])
    | (apply cg_ts
       case hl => rfl
       case ha => (simp only [List.map_cons, List.map_nil, prepV, prepC, idx, hpL', lookR, Nat.reduceEqDiff, if_true, if_false]; rfl)
       case hs => (simp only [snaps_nil, List.flatMap_cons, List.flatMap_nil, SV.refs, Cell.refs, List.nil_append, List.cons_append, List.append_nil]; rfl)
       case h => (first | exact light_spec .. | exact sane_spec .. | exact roll_spec .. | exact draw_spec _ _ (by omega) hl)
       case hf => ((simp only [List.forall_mem_cons, List.not_mem_nil, false_implies, implies_true, and_true, hpL', lookR, Nat.reduceEqDiff, if_true, if_false]) <;> (repeat' apply And.intro) <;> exact ⟨_, rfl, Ints_isG _⟩)
       case hg => simp [SV.noG, SV.noGL, Cell.noG]
       case' hk => simp only [decide_eq_true hlen, decide_eq_true hM0, go_sem, Nat.reduceEqDiff, Nat.reduceAdd, Nat.reduceSub, Nat.reduceMul, Nat.reduceLT, Nat.reduceLeDiff, ↓reduceIte, reduceCtorEq, List.reduceReplicate, SV.ren, SV.renL, Cell.ren])
    | (apply cg_any
       case hl => rfl
       case ha => (intro hb; simp only [List.map_cons, List.map_nil, cnd, hb, if_true, prepV, prepC, idx, hpL', lookR, Nat.reduceEqDiff, if_false]; rfl)
       case hs => (intro hb; simp only [cnd, hb, if_true]; rfl)
       case h => (first | exact light_spec .. | exact sane_spec .. | exact roll_spec .. | exact draw_spec _ _ (by omega) hl)
       case' hk => simp only [decide_eq_true hlen, decide_eq_true hM0, go_sem, Nat.reduceEqDiff, Nat.reduceAdd, Nat.reduceSub, Nat.reduceMul, Nat.reduceLT, Nat.reduceLeDiff, ↓reduceIte, reduceCtorEq, List.reduceReplicate, SV.ren, SV.renL, Cell.ren])
    | (apply cg_show
       case hl => rfl
       case ha => (intro hb; simp only [List.map_cons, List.map_nil, cnd, hb, if_true, prepV, prepC, idx, hpL', lookR, Nat.reduceEqDiff, if_false]; rfl)
       case hs => (intro hb; simp only [cnd, hb, if_true, snaps_nil, List.flatMap_cons, List.flatMap_nil, SV.refs, Cell.refs, List.nil_append, List.cons_append, List.append_nil]; rfl)
       case h => (first | exact light_spec .. | exact sane_spec .. | exact roll_spec .. | exact draw_spec _ _ (by omega) hl)
       case hf => ((simp only [List.forall_mem_cons, List.not_mem_nil, false_implies, implies_true, and_true, hpL', lookR, Nat.reduceEqDiff, if_true, if_false]) <;> (repeat' apply And.intro) <;> exact ⟨_, rfl, Ints_isG _⟩)
       case hg => simp [SV.noG, SV.noGL, Cell.noG]
       case' hk => simp only [decide_eq_true hlen, decide_eq_true hM0, go_sem, Nat.reduceEqDiff, Nat.reduceAdd, Nat.reduceSub, Nat.reduceMul, Nat.reduceLT, Nat.reduceLeDiff, ↓reduceIte, reduceCtorEq, List.reduceReplicate, SV.ren, SV.renL, Cell.ren])
    | (apply cl_plain
       case hs => rfl
       case ha => (simp only [List.map_cons, List.map_nil, prepV, prepC, idx, hpL', lookR, Nat.reduceEqDiff, if_true, if_false]; rfl)
       case h => (first | exact light_spec .. | exact sane_spec .. | exact roll_spec .. | exact draw_spec _ _ (by omega) hl)
       case' hk => simp only [decide_eq_true hlen, decide_eq_true hM0, go_sem, Nat.reduceEqDiff, Nat.reduceAdd, Nat.reduceSub, Nat.reduceMul, Nat.reduceLT, Nat.reduceLeDiff, ↓reduceIte, reduceCtorEq, List.reduceReplicate, SV.ren, SV.renL, Cell.ren, Row.ren, renO, bk, back, outUpsFrom, Ints_ren])
    | (apply cl_lend
       case hr => (simp only [List.map_cons, List.map_nil, hpL', lookR, Nat.reduceEqDiff, if_true, if_false]; first | exact map1 _ | exact map2 _ _ | exact map3 _ _ _)
       case ha => (simp only [List.map_cons, List.map_nil, prepV, prepC, idx, hpL', lookR, Nat.reduceEqDiff, if_true, if_false]; rfl)
       case hs => rfl
       case hn => decide
       case h => (first | exact light_spec .. | exact sane_spec .. | exact roll_spec .. | exact draw_spec _ _ (by omega) hl)
       case hf => (simp only [List.forall_mem_cons, List.not_mem_nil, false_implies, implies_true, and_true, true_and, flat_cons, flat_nil, flat_ints, flat_app, Cell.refs, and_self, eq_self_iff_true, List.append_nil])
       case hl => (simp only [List.length_cons, List.length_nil]; decide)
       case' hk => simp only [decide_eq_true hlen, decide_eq_true hM0, go_sem, Nat.reduceEqDiff, Nat.reduceAdd, Nat.reduceSub, Nat.reduceMul, Nat.reduceLT, Nat.reduceLeDiff, ↓reduceIte, reduceCtorEq, List.reduceReplicate, SV.ren, SV.renL, Cell.ren, Row.ren, renO, bk, back, outUpsFrom, Ints_ren])
    | (apply cl_show
       case ha => (simp only [List.map_cons, List.map_nil, prepV, prepC, idx, hpL', lookR, Nat.reduceEqDiff, if_true, if_false]; rfl)
       case hs => ((simp [snaps, SV.refs, Cell.refs, idx, hpL', lookR]) <;> (repeat' apply And.intro) <;> exact Ints_isG _)
       case h => (first | exact light_spec .. | exact sane_spec .. | exact roll_spec .. | exact draw_spec _ _ (by omega) hl)
       case hg => ((simp [SV.noG, SV.noGL, Cell.noG]) <;> (repeat' apply And.intro) <;> exact Ints_noG _)
       case' hk => simp only [decide_eq_true hlen, decide_eq_true hM0, go_sem, Nat.reduceEqDiff, Nat.reduceAdd, Nat.reduceSub, Nat.reduceMul, Nat.reduceLT, Nat.reduceLeDiff, ↓reduceIte, reduceCtorEq, List.reduceReplicate, SV.ren, SV.renL, Cell.ren, Row.ren, renO, bk, back, outUpsFrom, Ints_ren])
    | (apply fs_nil <;> (try simp only [resV, resS, SV.ren, SV.renL, Cell.ren, St.tmF, St.hpF, idx, renO, Row.ren, evS, slot, lookR, Nat.reduceEqDiff, ↓reduceIte, reduceCtorEq, if_true, if_false, Option.getD_some, Option.getD_none, List.map_cons, List.map_nil, sLoad, readAt, readNeed, Ints_ren, Ints_length, Ints_getD, and_true, true_and, List.getD_cons_zero, List.getD_cons_succ]) <;> (try rfl)))
  have hr1 := hr1 (by omega)
  have hq : (nxV l (drD l 0).2 (drK l 0)).toNat < drK l 0 := by omega
  have hDU : ∀ i, i < drK l 0 → 0 ≤ (drD l 0).1.getD i 0 ∧ (drD l 0).1.getD i 0 ≤ 65536 := fun i hi => by
    have := (hWD i hi).2; simpa only [isU, Bool.and_eq_true, decide_eq_true_eq] using this
  have hDq := hDU _ hq
  have hE : ∀ i, (moreD (drD l 0).1 (nxV l (drD l 0).2 (drK l 0)) (nxV l (nxA l (drD l 0).2 (drK l 0)) 50)).getD i 0 = if i = (nxV l (drD l 0).2 (drK l 0)).toNat then (if 65536 < (drD l 0).1.getD (nxV l (drD l 0).2 (drK l 0)).toNat 0 + 1 + nxV l (nxA l (drD l 0).2 (drK l 0)) 50 then 65536 else (drD l 0).1.getD (nxV l (drD l 0).2 (drK l 0)).toNat 0 + 1 + nxV l (nxA l (drD l 0).2 (drK l 0)) 50) else (drD l 0).1.getD i 0 := fun i => getD_set _ _ i _ (by rw [hDl]; exact hq)
  have hEl : (moreD (drD l 0).1 (nxV l (drD l 0).2 (drK l 0)) (nxV l (nxA l (drD l 0).2 (drK l 0)) 50)).length = drK l 0 := by rw [moreD, List.length_set, hDl]
  have hWE : ∀ i, i < (drW l 0).1.length → isW ((drW l 0).1.getD i 0) = true ∧ isU ((moreD (drD l 0).1 (nxV l (drD l 0).2 (drK l 0)) (nxV l (nxA l (drD l 0).2 (drK l 0)) 50)).getD i 0) = true := fun i hi => by
    rw [hWl] at hi
    refine ⟨(hWD i hi).1, ?_⟩
    rw [hE]
    split
    · simp only [isU, Bool.and_eq_true, decide_eq_true_eq]; split <;> omega
    · exact (hWD i hi).2
  have hdv3 := divide_spec (t.tmod 3000) (drW l 0).1 (moreD (drD l 0).1 (nxV l (drD l 0).2 (drK l 0)) (nxV l (nxA l (drD l 0).2 (drK l 0)) 50)) none none (valid_of (by omega) (by omega) (by omega) hWE)
  have hfe := fair_divN (by omega) hWE (t.tmod 3000).toNat
  have hte := tied_divN (by omega) hWE (t.tmod 3000).toNat
  have hmd := more_demand (i := (nxV l (drD l 0).2 (drK l 0)).toNat) (by omega) (fun j hj hne => by rw [hE, if_neg hne]) (by rw [hE, if_pos rfl]; split <;> omega) hfk hfe htk hte (fun i hi => by
    have := (hWD i (by omega)).1; simp only [isW, Bool.and_eq_true, decide_eq_true_eq] at this; omega)
  have hzl : (divN (drW l 0).1 (moreD (drD l 0).1 (nxV l (drD l 0).2 (drK l 0)) (nxV l (nxA l (drD l 0).2 (drK l 0)) 50)) (t.tmod 3000).toNat).length = drK l 0 := by rw [divN_length, hWl]
  simp only [gi, hWl, hEl] at hdv3
  simp only [hWl] at hmd
  have hx0 := fun j (hj : j < drK l 0) => hfk.lo j (by omega)
  have hx1 := fun j (hj : j < drK l 0) => hfk.hi j (by omega)
  refine fnspec_of mixed TT_ok TT_cl ⟨fun _ => false, fun f => if f = 12 then [0] else if f = 17 then [0] else [], 0, fun _ => false⟩ Try.func6 rfl (by kernel_rfl) rfl 145 rfl [.tmp 4] rfl ?_
  simp only [go_sem, Nat.reduceEqDiff, Nat.reduceAdd, Nat.reduceSub, Nat.reduceMul, Nat.reduceLT, Nat.reduceLeDiff, ↓reduceIte, reduceCtorEq, List.reduceReplicate]
  repeat' (first
    | with_reducible refine And.intro ?_ ?_
    | (unfold OKC; kernel_rfl)
    | (apply okc_up <;> (first | ((repeat (first | exact Sub.nil | apply Sub.gfp | apply Sub.same)); done) | kernel_rfl))
    | (unfold EDG; kernel_rfl)
    | (intros; (try simp only [Bool.and_eq_true, Bool.or_eq_true, Bool.not_eq_true', Bool.not_eq_false', Bool.and_eq_false_iff, Bool.or_eq_false_iff, decide_eq_true_eq, decide_eq_false_iff_not] at *); omega)
    | (refine cd_if (fun h => ?_) (fun h => ?_) <;> (first | (simp only [h, decide_eq_true hlen, decide_eq_false hM0, htake, hDl, go_sem, Nat.reduceEqDiff, Nat.reduceAdd, Nat.reduceSub, Nat.reduceMul, Nat.reduceLT, Nat.reduceLeDiff, ↓reduceIte, reduceCtorEq, List.reduceReplicate]; done) | simp only [h, decide_eq_true hlen, decide_eq_false hM0, htake, hDl, go_sem, Nat.reduceEqDiff, Nat.reduceAdd, Nat.reduceSub, Nat.reduceMul, Nat.reduceLT, Nat.reduceLeDiff, ↓reduceIte, reduceCtorEq, List.reduceReplicate] | skip))
    | (apply cg_tp
       case hl => rfl
       case ha => (simp only [List.map_cons, List.map_nil, prepV, prepC, idx, hpL', lookR, Nat.reduceEqDiff, if_true, if_false]; rfl)
       case hs => rfl
       case h => (first | exact light_spec .. | exact sane_spec .. | exact roll_spec .. | exact draw_spec _ _ (by omega) hl | exact hdv .. | exact hdv2 .. | exact hdv3 .. | exact next_spec _ _ _ (by omega) hl (by omega))
       case' hk => simp only [decide_eq_true hlen, decide_eq_false hM0, htake, hDl, go_sem, Nat.reduceEqDiff, Nat.reduceAdd, Nat.reduceSub, Nat.reduceMul, Nat.reduceLT, Nat.reduceLeDiff, ↓reduceIte, reduceCtorEq, List.reduceReplicate, SV.ren, SV.renL, Cell.ren])
    | (apply cg_ts
       case hl => rfl
       case ha => (simp only [List.map_cons, List.map_nil, prepV, prepC, idx, hpL', lookR, Nat.reduceEqDiff, if_true, if_false]; rfl)
       case hs => (simp only [snaps_nil, List.flatMap_cons, List.flatMap_nil, SV.refs, Cell.refs, List.nil_append, List.cons_append, List.append_nil]; rfl)
       case h => (first | exact light_spec .. | exact sane_spec .. | exact roll_spec .. | exact draw_spec _ _ (by omega) hl | exact hdv .. | exact hdv2 .. | exact hdv3 .. | exact next_spec _ _ _ (by omega) hl (by omega))
       case hf => ((simp only [List.forall_mem_cons, List.not_mem_nil, false_implies, implies_true, and_true, hpL', lookR, Nat.reduceEqDiff, if_true, if_false]) <;> (repeat' apply And.intro) <;> exact ⟨_, rfl, Ints_isG _⟩)
       case hg => simp [SV.noG, SV.noGL, Cell.noG]
       case' hk => simp only [decide_eq_true hlen, decide_eq_false hM0, htake, hDl, go_sem, Nat.reduceEqDiff, Nat.reduceAdd, Nat.reduceSub, Nat.reduceMul, Nat.reduceLT, Nat.reduceLeDiff, ↓reduceIte, reduceCtorEq, List.reduceReplicate, SV.ren, SV.renL, Cell.ren])
    | (apply cg_any
       case hl => rfl
       case ha => (intro hb; simp only [List.map_cons, List.map_nil, cnd, hb, if_true, prepV, prepC, idx, hpL', lookR, Nat.reduceEqDiff, if_false]; rfl)
       case hs => (intro hb; simp only [cnd, hb, if_true]; rfl)
       case h => (first | exact light_spec .. | exact sane_spec .. | exact roll_spec .. | exact draw_spec _ _ (by omega) hl | exact hdv .. | exact hdv2 .. | exact hdv3 .. | exact next_spec _ _ _ (by omega) hl (by omega))
       case' hk => simp only [decide_eq_true hlen, decide_eq_false hM0, htake, hDl, go_sem, Nat.reduceEqDiff, Nat.reduceAdd, Nat.reduceSub, Nat.reduceMul, Nat.reduceLT, Nat.reduceLeDiff, ↓reduceIte, reduceCtorEq, List.reduceReplicate, SV.ren, SV.renL, Cell.ren])
    | (apply cg_show
       case hl => rfl
       case ha => (intro hb; simp only [List.map_cons, List.map_nil, cnd, hb, if_true, prepV, prepC, idx, hpL', lookR, Nat.reduceEqDiff, if_false]; rfl)
       case hs => (intro hb; simp only [cnd, hb, if_true, snaps_nil, List.flatMap_cons, List.flatMap_nil, SV.refs, Cell.refs, List.nil_append, List.cons_append, List.append_nil]; rfl)
       case h => (first | exact light_spec .. | exact sane_spec .. | exact roll_spec .. | exact draw_spec _ _ (by omega) hl | exact hdv .. | exact hdv2 .. | exact hdv3 .. | exact next_spec _ _ _ (by omega) hl (by omega))
       case hf => ((simp only [List.forall_mem_cons, List.not_mem_nil, false_implies, implies_true, and_true, hpL', lookR, Nat.reduceEqDiff, if_true, if_false]) <;> (repeat' apply And.intro) <;> exact ⟨_, rfl, Ints_isG _⟩)
       case hg => simp [SV.noG, SV.noGL, Cell.noG]
       case' hk => simp only [decide_eq_true hlen, decide_eq_false hM0, htake, hDl, go_sem, Nat.reduceEqDiff, Nat.reduceAdd, Nat.reduceSub, Nat.reduceMul, Nat.reduceLT, Nat.reduceLeDiff, ↓reduceIte, reduceCtorEq, List.reduceReplicate, SV.ren, SV.renL, Cell.ren])
    | (apply cl_plain
       case hs => rfl
       case ha => (simp only [List.map_cons, List.map_nil, prepV, prepC, idx, hpL', lookR, Nat.reduceEqDiff, if_true, if_false]; rfl)
       case h => (first | exact light_spec .. | exact sane_spec .. | exact roll_spec .. | exact draw_spec _ _ (by omega) hl | exact hdv .. | exact hdv2 .. | exact hdv3 .. | exact next_spec _ _ _ (by omega) hl (by omega))
       case' hk => simp only [decide_eq_true hlen, decide_eq_false hM0, htake, hDl, go_sem, Nat.reduceEqDiff, Nat.reduceAdd, Nat.reduceSub, Nat.reduceMul, Nat.reduceLT, Nat.reduceLeDiff, ↓reduceIte, reduceCtorEq, List.reduceReplicate, SV.ren, SV.renL, Cell.ren, Row.ren, renO, bk, back, outUpsFrom, Ints_ren])
    | (apply cl_lend
       case hr => (simp only [List.map_cons, List.map_nil, hpL', lookR, Nat.reduceEqDiff, if_true, if_false]; first | exact map1 _ | exact map2 _ _ | exact map3 _ _ _)
       case ha => (simp only [List.map_cons, List.map_nil, prepV, prepC, idx, hpL', lookR, Nat.reduceEqDiff, if_true, if_false]; rfl)
       case hs => rfl
       case hn => decide
       case h => (first | exact light_spec .. | exact sane_spec .. | exact roll_spec .. | exact draw_spec _ _ (by omega) hl | exact hdv .. | exact hdv2 .. | exact hdv3 .. | exact next_spec _ _ _ (by omega) hl (by omega))
       case hf => (simp only [List.forall_mem_cons, List.not_mem_nil, false_implies, implies_true, and_true, true_and, flat_cons, flat_nil, flat_ints, flat_app, Cell.refs, and_self, eq_self_iff_true, List.append_nil])
       case hl => (simp only [List.length_cons, List.length_nil]; decide)
       case' hk => simp only [decide_eq_true hlen, decide_eq_false hM0, htake, hDl, go_sem, Nat.reduceEqDiff, Nat.reduceAdd, Nat.reduceSub, Nat.reduceMul, Nat.reduceLT, Nat.reduceLeDiff, ↓reduceIte, reduceCtorEq, List.reduceReplicate, SV.ren, SV.renL, Cell.ren, Row.ren, renO, bk, back, outUpsFrom, Ints_ren])
    | (apply cl_show
       case ha => (simp only [List.map_cons, List.map_nil, prepV, prepC, idx, hpL', lookR, Nat.reduceEqDiff, if_true, if_false]; rfl)
       case hs => ((simp [snaps, SV.refs, Cell.refs, idx, hpL', lookR]) <;> (repeat' apply And.intro) <;> exact Ints_isG _)
       case h => (first | exact light_spec .. | exact sane_spec .. | exact roll_spec .. | exact draw_spec _ _ (by omega) hl | exact hdv .. | exact hdv2 .. | exact hdv3 .. | exact next_spec _ _ _ (by omega) hl (by omega))
       case hg => ((simp [SV.noG, SV.noGL, Cell.noG]) <;> (repeat' apply And.intro) <;> exact Ints_noG _)
       case' hk => simp only [decide_eq_true hlen, decide_eq_false hM0, htake, hDl, go_sem, Nat.reduceEqDiff, Nat.reduceAdd, Nat.reduceSub, Nat.reduceMul, Nat.reduceLT, Nat.reduceLeDiff, ↓reduceIte, reduceCtorEq, List.reduceReplicate, SV.ren, SV.renL, Cell.ren, Row.ren, renO, bk, back, outUpsFrom, Ints_ren])
    | (apply fs_nil <;> (try simp only [resV, resS, SV.ren, SV.renL, Cell.ren, St.tmF, St.hpF, idx, renO, Row.ren, evS, slot, lookR, Nat.reduceEqDiff, ↓reduceIte, reduceCtorEq, if_true, if_false, Option.getD_some, Option.getD_none, List.map_cons, List.map_nil, sLoad, readAt, readNeed, Ints_ren, Ints_length, Ints_getD, and_true, true_and, List.getD_cons_zero, List.getD_cons_succ]) <;> (try rfl)))
  have hX1 := hxl (t.tmod 3000).toNat
  have hY1 := hxl ((t.tmod 3000).toNat + 1)
  have hyy : ∀ j, j < drK l 0 → 0 ≤ (divN (drW l 0).1 (drD l 0).1 ((t.tmod 3000).toNat + 1)).getD j 0 ∧ (divN (drW l 0).1 (drD l 0).1 ((t.tmod 3000).toNat + 1)).getD j 0 ≤ (drD l 0).1.getD j 0 := fun j hj => by
    have hf := fair_divN (ws := (drW l 0).1) (ds := (drD l 0).1) (by rw [drW_len, drD_len]) (drWD l 0) ((t.tmod 3000).toNat + 1)
    exact ⟨hf.lo j (by omega), hf.hi j (by omega)⟩
  have hzz := fun j (hj : j < drK l 0) => hfe.lo j (by omega)
  clear hdv hdv2 hdv3 htake hWE hfk htk hfe hte hE hEl
  generalize (moreD (drD l 0).1 (nxV l (drD l 0).2 (drK l 0)) (nxV l (nxA l (drD l 0).2 (drK l 0)) 50)) = E at *
  generalize divN (drW l 0).1 E (t.tmod 3000).toNat = Z at *
  generalize divN (drW l 0).1 (drD l 0).1 (t.tmod 3000).toNat = X at *
  generalize divN (drW l 0).1 (drD l 0).1 ((t.tmod 3000).toNat + 1) = Y at *
  generalize nxV l (drD l 0).2 (drK l 0) = q at *
  generalize (drD l 0).1 = D at *
  generalize drK l 0 = M at *
  have hsum : ∀ n, n ≤ M → 0 ≤ sm (fun j => Y.getD j 0 - X.getD j 0) n := fun n hn => by
    have := sm_le (f := fun _ => 0) (g := fun j => Y.getD j 0 - X.getD j 0) (n := n) (fun j hj => by have := hom.1 j; omega)
    rwa [sm_zero] at this
  refine w_loop (ι := Nat) (fun j => ⟨[(86, i1 j), (85, i1 M), (84, .one (.osl 0 0 M (some M))), (14, i1 (sm (fun j => Y.getD j 0 - X.getD j 0) j)), (13, .one (.osl 2 0 M (some M))), (12, i1 q), (10, .one (.osl 1 0 M (some M))), (9, .one (.osl 0 0 M (some M)))],
    [(0, some ⟨Ints X, 1⟩), (1, some ⟨Ints Y, 1⟩), (2, some ⟨Ints Z, 1⟩)], 3⟩) (fun j => j ≤ M) (fun j => M - j) 0 ?_ (Nat.zero_le _) ?_
  · (refine imp_ren _ _ _ [(0, 25, ⟨Ints X, 1⟩), (1, 30, ⟨Ints Y, 1⟩), (2, 57, ⟨Ints Z, 1⟩)] (by simp) (by simp) (by simp) (Nat.le_of_ble_eq_true rfl) ?_ rfl (by simp only [List.forall_mem_cons, List.not_mem_nil, false_implies, implies_true, and_true, St.hpF, lookR, Nat.reduceEqDiff, if_true, if_false, ↓reduceIte] <;> (repeat' apply And.intro) <;> (first | rfl | trivial)) (by simp only [List.forall_mem_cons, List.not_mem_nil, false_implies, implies_true, and_true, true_and, flat_cons, flat_nil, flat_ints, flat_app, Cell.refs, and_self, eq_self_iff_true, List.append_nil]); simp only [List.map_cons, List.map_nil, List.forall_mem_cons, List.not_mem_nil, false_implies, implies_true, and_true, lk, slot, SV.ren, Cell.ren, toN, Nat.reduceEqDiff, if_true, if_false, ↓reduceIte, reduceCtorEq])
    (repeat' apply And.intro) <;> (first | rfl | trivial)
  intro j hj
  have g0 := hsum j hj
  have g1 := hom.2 j
  rcases Nat.lt_or_ge j M with hlt | hge
  case inr =>
    have hge' : ¬ (j : Int) < M := by omega
    simp only [go_sem, Nat.reduceEqDiff, Nat.reduceAdd, Nat.reduceSub, Nat.reduceMul, Nat.reduceLT, Nat.reduceLeDiff, ↓reduceIte, reduceCtorEq, List.reduceReplicate, decide_eq_false hge', decide_eq_true g1]
    repeat' (first
    | with_reducible refine And.intro ?_ ?_
    | (unfold OKC; kernel_rfl)
    | (apply okc_up <;> (first | ((repeat (first | exact Sub.nil | apply Sub.gfp | apply Sub.same)); done) | kernel_rfl))
    | (unfold EDG; kernel_rfl)
    | (intros; (try simp only [Bool.and_eq_true, Bool.or_eq_true, Bool.not_eq_true', Bool.not_eq_false', Bool.and_eq_false_iff, Bool.or_eq_false_iff, decide_eq_true_eq, decide_eq_false_iff_not] at *); omega)
    | (refine cd_if (fun h => ?_) (fun h => ?_) <;> (first | (simp only [h, go_sem, Nat.reduceEqDiff, Nat.reduceAdd, Nat.reduceSub, Nat.reduceMul, Nat.reduceLT, Nat.reduceLeDiff, ↓reduceIte, reduceCtorEq, List.reduceReplicate]; done) | simp only [h, go_sem, Nat.reduceEqDiff, Nat.reduceAdd, Nat.reduceSub, Nat.reduceMul, Nat.reduceLT, Nat.reduceLeDiff, ↓reduceIte, reduceCtorEq, List.reduceReplicate] | skip))
    | (apply cg_tp
       case hl => rfl
       case ha => (simp only [List.map_cons, List.map_nil, prepV, prepC, idx, hpL', lookR, Nat.reduceEqDiff, if_true, if_false]; rfl)
       case hs => rfl
       case h => (first | exact sane_spec ..)
       case' hk => simp only [go_sem, Nat.reduceEqDiff, Nat.reduceAdd, Nat.reduceSub, Nat.reduceMul, Nat.reduceLT, Nat.reduceLeDiff, ↓reduceIte, reduceCtorEq, List.reduceReplicate, SV.ren, SV.renL, Cell.ren])
    | (apply cg_ts
       case hl => rfl
       case ha => (simp only [List.map_cons, List.map_nil, prepV, prepC, idx, hpL', lookR, Nat.reduceEqDiff, if_true, if_false]; rfl)
       case hs => (simp only [snaps_nil, List.flatMap_cons, List.flatMap_nil, SV.refs, Cell.refs, List.nil_append, List.cons_append, List.append_nil]; rfl)
       case h => (first | exact sane_spec ..)
       case hf => ((simp only [List.forall_mem_cons, List.not_mem_nil, false_implies, implies_true, and_true, hpL', lookR, Nat.reduceEqDiff, if_true, if_false]) <;> (repeat' apply And.intro) <;> exact ⟨_, rfl, Ints_isG _⟩)
       case hg => simp [SV.noG, SV.noGL, Cell.noG]
       case' hk => simp only [go_sem, Nat.reduceEqDiff, Nat.reduceAdd, Nat.reduceSub, Nat.reduceMul, Nat.reduceLT, Nat.reduceLeDiff, ↓reduceIte, reduceCtorEq, List.reduceReplicate, SV.ren, SV.renL, Cell.ren])
    | (apply cg_any
       case hl => rfl
       case ha => (intro hb; simp only [List.map_cons, List.map_nil, cnd, hb, if_true, prepV, prepC, idx, hpL', lookR, Nat.reduceEqDiff, if_false]; rfl)
       case hs => (intro hb; simp only [cnd, hb, if_true]; rfl)
       case h => (first | exact sane_spec ..)
       case' hk => simp only [go_sem, Nat.reduceEqDiff, Nat.reduceAdd, Nat.reduceSub, Nat.reduceMul, Nat.reduceLT, Nat.reduceLeDiff, ↓reduceIte, reduceCtorEq, List.reduceReplicate, SV.ren, SV.renL, Cell.ren])
    | (apply cg_show
       case hl => rfl
       case ha => (intro hb; simp only [List.map_cons, List.map_nil, cnd, hb, if_true, prepV, prepC, idx, hpL', lookR, Nat.reduceEqDiff, if_false]; rfl)
       case hs => (intro hb; simp only [cnd, hb, if_true, snaps_nil, List.flatMap_cons, List.flatMap_nil, SV.refs, Cell.refs, List.nil_append, List.cons_append, List.append_nil]; rfl)
       case h => (first | exact sane_spec ..)
       case hf => ((simp only [List.forall_mem_cons, List.not_mem_nil, false_implies, implies_true, and_true, hpL', lookR, Nat.reduceEqDiff, if_true, if_false]) <;> (repeat' apply And.intro) <;> exact ⟨_, rfl, Ints_isG _⟩)
       case hg => simp [SV.noG, SV.noGL, Cell.noG]
       case' hk => simp only [go_sem, Nat.reduceEqDiff, Nat.reduceAdd, Nat.reduceSub, Nat.reduceMul, Nat.reduceLT, Nat.reduceLeDiff, ↓reduceIte, reduceCtorEq, List.reduceReplicate, SV.ren, SV.renL, Cell.ren])
    | (apply cl_plain
       case hs => rfl
       case ha => (simp only [List.map_cons, List.map_nil, prepV, prepC, idx, hpL', lookR, Nat.reduceEqDiff, if_true, if_false]; rfl)
       case h => (first | exact sane_spec ..)
       case' hk => simp only [go_sem, Nat.reduceEqDiff, Nat.reduceAdd, Nat.reduceSub, Nat.reduceMul, Nat.reduceLT, Nat.reduceLeDiff, ↓reduceIte, reduceCtorEq, List.reduceReplicate, SV.ren, SV.renL, Cell.ren, Row.ren, renO, bk, back, outUpsFrom, Ints_ren])
    | (apply cl_lend
       case hr => (simp only [List.map_cons, List.map_nil, hpL', lookR, Nat.reduceEqDiff, if_true, if_false]; first | exact map1 _ | exact map2 _ _ | exact map3 _ _ _)
       case ha => (simp only [List.map_cons, List.map_nil, prepV, prepC, idx, hpL', lookR, Nat.reduceEqDiff, if_true, if_false]; rfl)
       case hs => rfl
       case hn => decide
       case h => (first | exact sane_spec ..)
       case hf => (simp only [List.forall_mem_cons, List.not_mem_nil, false_implies, implies_true, and_true, true_and, flat_cons, flat_nil, flat_ints, flat_app, Cell.refs, and_self, eq_self_iff_true, List.append_nil])
       case hl => (simp only [List.length_cons, List.length_nil]; decide)
       case' hk => simp only [go_sem, Nat.reduceEqDiff, Nat.reduceAdd, Nat.reduceSub, Nat.reduceMul, Nat.reduceLT, Nat.reduceLeDiff, ↓reduceIte, reduceCtorEq, List.reduceReplicate, SV.ren, SV.renL, Cell.ren, Row.ren, renO, bk, back, outUpsFrom, Ints_ren])
    | (apply cl_show
       case ha => (simp only [List.map_cons, List.map_nil, prepV, prepC, idx, hpL', lookR, Nat.reduceEqDiff, if_true, if_false]; rfl)
       case hs => ((simp [snaps, SV.refs, Cell.refs, idx, hpL', lookR]) <;> (repeat' apply And.intro) <;> exact Ints_isG _)
       case h => (first | exact sane_spec ..)
       case hg => ((simp [SV.noG, SV.noGL, Cell.noG]) <;> (repeat' apply And.intro) <;> exact Ints_noG _)
       case' hk => simp only [go_sem, Nat.reduceEqDiff, Nat.reduceAdd, Nat.reduceSub, Nat.reduceMul, Nat.reduceLT, Nat.reduceLeDiff, ↓reduceIte, reduceCtorEq, List.reduceReplicate, SV.ren, SV.renL, Cell.ren, Row.ren, renO, bk, back, outUpsFrom, Ints_ren])
    | (apply fs_nil <;> (try simp only [resV, resS, SV.ren, SV.renL, Cell.ren, St.tmF, St.hpF, idx, renO, Row.ren, evS, slot, lookR, Nat.reduceEqDiff, ↓reduceIte, reduceCtorEq, if_true, if_false, Option.getD_some, Option.getD_none, List.map_cons, List.map_nil, sLoad, readAt, readNeed, Ints_ren, Ints_length, Ints_getD, and_true, true_and, List.getD_cons_zero, List.getD_cons_succ]) <;> (try rfl)))
  have hlt' : (j : Int) < M := by omega
  have gx := hx0 j hlt
  have gx1 := hx1 j hlt
  have gy := hom.1 j
  have gyy := hyy j hlt
  have gD := hDU j hlt
  have gz := hzz j hlt
  have c1 : ¬ Y.getD j 0 < X.getD j 0 := by omega
  have g2 := hom.2 (j + 1)
  have g3 : sm (fun j => Y.getD j 0 - X.getD j 0) (j + 1) = sm (fun j => Y.getD j 0 - X.getD j 0) j + (Y.getD j 0 - X.getD j 0) := rfl
  by_cases hjq : (j : Int) = q
  · have e : j = q.toNat := by omega
    have c2 := hmd.2
    rw [← e] at c2
    have c3 : ¬ Z.getD j 0 < X.getD j 0 := by omega
    simp only [go_sem, Nat.reduceEqDiff, Nat.reduceAdd, Nat.reduceSub, Nat.reduceMul, Nat.reduceLT, Nat.reduceLeDiff, ↓reduceIte, reduceCtorEq, List.reduceReplicate, decide_eq_true hlt', decide_eq_false c1, decide_eq_true hjq, decide_eq_false c3]
    repeat' (first
    | with_reducible refine And.intro ?_ ?_
    | (unfold OKC; kernel_rfl)
    | (apply okc_up <;> (first | ((repeat (first | exact Sub.nil | apply Sub.gfp | apply Sub.same)); done) | kernel_rfl))
    | (unfold EDG; kernel_rfl)
    | (intros; (try simp only [Bool.and_eq_true, Bool.or_eq_true, Bool.not_eq_true', Bool.not_eq_false', Bool.and_eq_false_iff, Bool.or_eq_false_iff, decide_eq_true_eq, decide_eq_false_iff_not] at *); omega)
    | (refine cd_if (fun h => ?_) (fun h => ?_) <;> (first | (simp only [h, decide_eq_false c1, decide_eq_true hjq, decide_eq_false c3, go_sem, Nat.reduceEqDiff, Nat.reduceAdd, Nat.reduceSub, Nat.reduceMul, Nat.reduceLT, Nat.reduceLeDiff, ↓reduceIte, reduceCtorEq, List.reduceReplicate]; done) | simp only [h, decide_eq_false c1, decide_eq_true hjq, decide_eq_false c3, go_sem, Nat.reduceEqDiff, Nat.reduceAdd, Nat.reduceSub, Nat.reduceMul, Nat.reduceLT, Nat.reduceLeDiff, ↓reduceIte, reduceCtorEq, List.reduceReplicate] | skip))
    | (apply cg_tp
       case hl => rfl
       case ha => (simp only [List.map_cons, List.map_nil, prepV, prepC, idx, hpL', lookR, Nat.reduceEqDiff, if_true, if_false]; rfl)
       case hs => rfl
       case h => (first | exact sane_spec ..)
       case' hk => simp only [decide_eq_false c1, decide_eq_true hjq, decide_eq_false c3, go_sem, Nat.reduceEqDiff, Nat.reduceAdd, Nat.reduceSub, Nat.reduceMul, Nat.reduceLT, Nat.reduceLeDiff, ↓reduceIte, reduceCtorEq, List.reduceReplicate, SV.ren, SV.renL, Cell.ren])
    | (apply cg_ts
       case hl => rfl
       case ha => (simp only [List.map_cons, List.map_nil, prepV, prepC, idx, hpL', lookR, Nat.reduceEqDiff, if_true, if_false]; rfl)
       case hs => (simp only [snaps_nil, List.flatMap_cons, List.flatMap_nil, SV.refs, Cell.refs, List.nil_append, List.cons_append, List.append_nil]; rfl)
       case h => (first | exact sane_spec ..)
       case hf => ((simp only [List.forall_mem_cons, List.not_mem_nil, false_implies, implies_true, and_true, hpL', lookR, Nat.reduceEqDiff, if_true, if_false]) <;> (repeat' apply And.intro) <;> exact ⟨_, rfl, Ints_isG _⟩)
       case hg => simp [SV.noG, SV.noGL, Cell.noG]
       case' hk => simp only [decide_eq_false c1, decide_eq_true hjq, decide_eq_false c3, go_sem, Nat.reduceEqDiff, Nat.reduceAdd, Nat.reduceSub, Nat.reduceMul, Nat.reduceLT, Nat.reduceLeDiff, ↓reduceIte, reduceCtorEq, List.reduceReplicate, SV.ren, SV.renL, Cell.ren])
    | (apply cg_any
       case hl => rfl
       case ha => (intro hb; simp only [List.map_cons, List.map_nil, cnd, hb, if_true, prepV, prepC, idx, hpL', lookR, Nat.reduceEqDiff, if_false]; rfl)
       case hs => (intro hb; simp only [cnd, hb, if_true]; rfl)
       case h => (first | exact sane_spec ..)
       case' hk => simp only [decide_eq_false c1, decide_eq_true hjq, decide_eq_false c3, go_sem, Nat.reduceEqDiff, Nat.reduceAdd, Nat.reduceSub, Nat.reduceMul, Nat.reduceLT, Nat.reduceLeDiff, ↓reduceIte, reduceCtorEq, List.reduceReplicate, SV.ren, SV.renL, Cell.ren])
    | (apply cg_show
       case hl => rfl
       case ha => (intro hb; simp only [List.map_cons, List.map_nil, cnd, hb, if_true, prepV, prepC, idx, hpL', lookR, Nat.reduceEqDiff, if_false]; rfl)
       case hs => (intro hb; simp only [cnd, hb, if_true, snaps_nil, List.flatMap_cons, List.flatMap_nil, SV.refs, Cell.refs, List.nil_append, List.cons_append, List.append_nil]; rfl)
       case h => (first | exact sane_spec ..)
       case hf => ((simp only [List.forall_mem_cons, List.not_mem_nil, false_implies, implies_true, and_true, hpL', lookR, Nat.reduceEqDiff, if_true, if_false]) <;> (repeat' apply And.intro) <;> exact ⟨_, rfl, Ints_isG _⟩)
       case hg => simp [SV.noG, SV.noGL, Cell.noG]
       case' hk => simp only [decide_eq_false c1, decide_eq_true hjq, decide_eq_false c3, go_sem, Nat.reduceEqDiff, Nat.reduceAdd, Nat.reduceSub, Nat.reduceMul, Nat.reduceLT, Nat.reduceLeDiff, ↓reduceIte, reduceCtorEq, List.reduceReplicate, SV.ren, SV.renL, Cell.ren])
    | (apply cl_plain
       case hs => rfl
       case ha => (simp only [List.map_cons, List.map_nil, prepV, prepC, idx, hpL', lookR, Nat.reduceEqDiff, if_true, if_false]; rfl)
       case h => (first | exact sane_spec ..)
       case' hk => simp only [decide_eq_false c1, decide_eq_true hjq, decide_eq_false c3, go_sem, Nat.reduceEqDiff, Nat.reduceAdd, Nat.reduceSub, Nat.reduceMul, Nat.reduceLT, Nat.reduceLeDiff, ↓reduceIte, reduceCtorEq, List.reduceReplicate, SV.ren, SV.renL, Cell.ren, Row.ren, renO, bk, back, outUpsFrom, Ints_ren])
    | (apply cl_lend
       case hr => (simp only [List.map_cons, List.map_nil, hpL', lookR, Nat.reduceEqDiff, if_true, if_false]; first | exact map1 _ | exact map2 _ _ | exact map3 _ _ _)
       case ha => (simp only [List.map_cons, List.map_nil, prepV, prepC, idx, hpL', lookR, Nat.reduceEqDiff, if_true, if_false]; rfl)
       case hs => rfl
       case hn => decide
       case h => (first | exact sane_spec ..)
       case hf => (simp only [List.forall_mem_cons, List.not_mem_nil, false_implies, implies_true, and_true, true_and, flat_cons, flat_nil, flat_ints, flat_app, Cell.refs, and_self, eq_self_iff_true, List.append_nil])
       case hl => (simp only [List.length_cons, List.length_nil]; decide)
       case' hk => simp only [decide_eq_false c1, decide_eq_true hjq, decide_eq_false c3, go_sem, Nat.reduceEqDiff, Nat.reduceAdd, Nat.reduceSub, Nat.reduceMul, Nat.reduceLT, Nat.reduceLeDiff, ↓reduceIte, reduceCtorEq, List.reduceReplicate, SV.ren, SV.renL, Cell.ren, Row.ren, renO, bk, back, outUpsFrom, Ints_ren])
    | (apply cl_show
       case ha => (simp only [List.map_cons, List.map_nil, prepV, prepC, idx, hpL', lookR, Nat.reduceEqDiff, if_true, if_false]; rfl)
       case hs => ((simp [snaps, SV.refs, Cell.refs, idx, hpL', lookR]) <;> (repeat' apply And.intro) <;> exact Ints_isG _)
       case h => (first | exact sane_spec ..)
       case hg => ((simp [SV.noG, SV.noGL, Cell.noG]) <;> (repeat' apply And.intro) <;> exact Ints_noG _)
       case' hk => simp only [decide_eq_false c1, decide_eq_true hjq, decide_eq_false c3, go_sem, Nat.reduceEqDiff, Nat.reduceAdd, Nat.reduceSub, Nat.reduceMul, Nat.reduceLT, Nat.reduceLeDiff, ↓reduceIte, reduceCtorEq, List.reduceReplicate, SV.ren, SV.renL, Cell.ren, Row.ren, renO, bk, back, outUpsFrom, Ints_ren])
    | (apply fs_nil <;> (try simp only [resV, resS, SV.ren, SV.renL, Cell.ren, St.tmF, St.hpF, idx, renO, Row.ren, evS, slot, lookR, Nat.reduceEqDiff, ↓reduceIte, reduceCtorEq, if_true, if_false, Option.getD_some, Option.getD_none, List.map_cons, List.map_nil, sLoad, readAt, readNeed, Ints_ren, Ints_length, Ints_getD, and_true, true_and, List.getD_cons_zero, List.getD_cons_succ]) <;> (try rfl)))
    refine le_mk (j + 1) ?_ (by omega) (by omega)
    (refine imp_ren _ _ _ [(0, 0, ⟨Ints X, 1⟩), (1, 1, ⟨Ints Y, 1⟩), (2, 2, ⟨Ints Z, 1⟩)] (by simp) (by simp) (by simp) (Nat.le_of_ble_eq_true rfl) ?_ rfl (by simp only [List.forall_mem_cons, List.not_mem_nil, false_implies, implies_true, and_true, St.hpF, lookR, Nat.reduceEqDiff, if_true, if_false, ↓reduceIte] <;> (repeat' apply And.intro) <;> (first | rfl | trivial)) (by simp only [List.forall_mem_cons, List.not_mem_nil, false_implies, implies_true, and_true, true_and, flat_cons, flat_nil, flat_ints, flat_app, Cell.refs, and_self, eq_self_iff_true, List.append_nil]); simp only [List.map_cons, List.map_nil, List.forall_mem_cons, List.not_mem_nil, false_implies, implies_true, and_true, lk, slot, SV.ren, Cell.ren, toN, Nat.reduceEqDiff, if_true, if_false, ↓reduceIte, reduceCtorEq])
    (repeat' apply And.intro) <;> (first | rfl | trivial)
  · have c3 : ¬ X.getD j 0 < Z.getD j 0 := by have := hmd.1 j hlt (by omega); omega
    simp only [go_sem, Nat.reduceEqDiff, Nat.reduceAdd, Nat.reduceSub, Nat.reduceMul, Nat.reduceLT, Nat.reduceLeDiff, ↓reduceIte, reduceCtorEq, List.reduceReplicate, decide_eq_true hlt', decide_eq_false c1, decide_eq_false hjq, decide_eq_false c3]
    repeat' (first
    | with_reducible refine And.intro ?_ ?_
    | (unfold OKC; kernel_rfl)
    | (apply okc_up <;> (first | ((repeat (first | exact Sub.nil | apply Sub.gfp | apply Sub.same)); done) | kernel_rfl))
    | (unfold EDG; kernel_rfl)
    | (intros; (try simp only [Bool.and_eq_true, Bool.or_eq_true, Bool.not_eq_true', Bool.not_eq_false', Bool.and_eq_false_iff, Bool.or_eq_false_iff, decide_eq_true_eq, decide_eq_false_iff_not] at *); omega)
    | (refine cd_if (fun h => ?_) (fun h => ?_) <;> (first | (simp only [h, decide_eq_false c1, decide_eq_false hjq, decide_eq_false c3, go_sem, Nat.reduceEqDiff, Nat.reduceAdd, Nat.reduceSub, Nat.reduceMul, Nat.reduceLT, Nat.reduceLeDiff, ↓reduceIte, reduceCtorEq, List.reduceReplicate]; done) | simp only [h, decide_eq_false c1, decide_eq_false hjq, decide_eq_false c3, go_sem, Nat.reduceEqDiff, Nat.reduceAdd, Nat.reduceSub, Nat.reduceMul, Nat.reduceLT, Nat.reduceLeDiff, ↓reduceIte, reduceCtorEq, List.reduceReplicate] | skip))
    | (apply cg_tp
       case hl => rfl
       case ha => (simp only [List.map_cons, List.map_nil, prepV, prepC, idx, hpL', lookR, Nat.reduceEqDiff, if_true, if_false]; rfl)
       case hs => rfl
       case h => (first | exact sane_spec ..)
       case' hk => simp only [decide_eq_false c1, decide_eq_false hjq, decide_eq_false c3, go_sem, Nat.reduceEqDiff, Nat.reduceAdd, Nat.reduceSub, Nat.reduceMul, Nat.reduceLT, Nat.reduceLeDiff, ↓reduceIte, reduceCtorEq, List.reduceReplicate, SV.ren, SV.renL, Cell.ren])
    | (apply cg_ts
       case hl => rfl
       case ha => (simp only [List.map_cons, List.map_nil, prepV, prepC, idx, hpL', lookR, Nat.reduceEqDiff, if_true, if_false]; rfl)
       case hs => (simp only [snaps_nil, List.flatMap_cons, List.flatMap_nil, SV.refs, Cell.refs, List.nil_append, List.cons_append, List.append_nil]; rfl)
       case h => (first | exact sane_spec ..)
       case hf => ((simp only [List.forall_mem_cons, List.not_mem_nil, false_implies, implies_true, and_true, hpL', lookR, Nat.reduceEqDiff, if_true, if_false]) <;> (repeat' apply And.intro) <;> exact ⟨_, rfl, Ints_isG _⟩)
       case hg => simp [SV.noG, SV.noGL, Cell.noG]
       case' hk => simp only [decide_eq_false c1, decide_eq_false hjq, decide_eq_false c3, go_sem, Nat.reduceEqDiff, Nat.reduceAdd, Nat.reduceSub, Nat.reduceMul, Nat.reduceLT, Nat.reduceLeDiff, ↓reduceIte, reduceCtorEq, List.reduceReplicate, SV.ren, SV.renL, Cell.ren])
    | (apply cg_any
       case hl => rfl
       case ha => (intro hb; simp only [List.map_cons, List.map_nil, cnd, hb, if_true, prepV, prepC, idx, hpL', lookR, Nat.reduceEqDiff, if_false]; rfl)
       case hs => (intro hb; simp only [cnd, hb, if_true]; rfl)
       case h => (first | exact sane_spec ..)
       case' hk => simp only [decide_eq_false c1, decide_eq_false hjq, decide_eq_false c3, go_sem, Nat.reduceEqDiff, Nat.reduceAdd, Nat.reduceSub, Nat.reduceMul, Nat.reduceLT, Nat.reduceLeDiff, ↓reduceIte, reduceCtorEq, List.reduceReplicate, SV.ren, SV.renL, Cell.ren])
    | (apply cg_show
       case hl => rfl
       case ha => (intro hb; simp only [List.map_cons, List.map_nil, cnd, hb, if_true, prepV, prepC, idx, hpL', lookR, Nat.reduceEqDiff, if_false]; rfl)
       case hs => (intro hb; simp only [cnd, hb, if_true, snaps_nil, List.flatMap_cons, List.flatMap_nil, SV.refs, Cell.refs, List.nil_append, List.cons_append, List.append_nil]; rfl)
       case h => (first | exact sane_spec ..)
       case hf => ((simp only [List.forall_mem_cons, List.not_mem_nil, false_implies, implies_true, and_true, hpL', lookR, Nat.reduceEqDiff, if_true, if_false]) <;> (repeat' apply And.intro) <;> exact ⟨_, rfl, Ints_isG _⟩)
       case hg => simp [SV.noG, SV.noGL, Cell.noG]
       case' hk => simp only [decide_eq_false c1, decide_eq_false hjq, decide_eq_false c3, go_sem, Nat.reduceEqDiff, Nat.reduceAdd, Nat.reduceSub, Nat.reduceMul, Nat.reduceLT, Nat.reduceLeDiff, ↓reduceIte, reduceCtorEq, List.reduceReplicate, SV.ren, SV.renL, Cell.ren])
    | (apply cl_plain
       case hs => rfl
       case ha => (simp only [List.map_cons, List.map_nil, prepV, prepC, idx, hpL', lookR, Nat.reduceEqDiff, if_true, if_false]; rfl)
       case h => (first | exact sane_spec ..)
       case' hk => simp only [decide_eq_false c1, decide_eq_false hjq, decide_eq_false c3, go_sem, Nat.reduceEqDiff, Nat.reduceAdd, Nat.reduceSub, Nat.reduceMul, Nat.reduceLT, Nat.reduceLeDiff, ↓reduceIte, reduceCtorEq, List.reduceReplicate, SV.ren, SV.renL, Cell.ren, Row.ren, renO, bk, back, outUpsFrom, Ints_ren])
    | (apply cl_lend
       case hr => (simp only [List.map_cons, List.map_nil, hpL', lookR, Nat.reduceEqDiff, if_true, if_false]; first | exact map1 _ | exact map2 _ _ | exact map3 _ _ _)
       case ha => (simp only [List.map_cons, List.map_nil, prepV, prepC, idx, hpL', lookR, Nat.reduceEqDiff, if_true, if_false]; rfl)
       case hs => rfl
       case hn => decide
       case h => (first | exact sane_spec ..)
       case hf => (simp only [List.forall_mem_cons, List.not_mem_nil, false_implies, implies_true, and_true, true_and, flat_cons, flat_nil, flat_ints, flat_app, Cell.refs, and_self, eq_self_iff_true, List.append_nil])
       case hl => (simp only [List.length_cons, List.length_nil]; decide)
       case' hk => simp only [decide_eq_false c1, decide_eq_false hjq, decide_eq_false c3, go_sem, Nat.reduceEqDiff, Nat.reduceAdd, Nat.reduceSub, Nat.reduceMul, Nat.reduceLT, Nat.reduceLeDiff, ↓reduceIte, reduceCtorEq, List.reduceReplicate, SV.ren, SV.renL, Cell.ren, Row.ren, renO, bk, back, outUpsFrom, Ints_ren])
    | (apply cl_show
       case ha => (simp only [List.map_cons, List.map_nil, prepV, prepC, idx, hpL', lookR, Nat.reduceEqDiff, if_true, if_false]; rfl)
       case hs => ((simp [snaps, SV.refs, Cell.refs, idx, hpL', lookR]) <;> (repeat' apply And.intro) <;> exact Ints_isG _)
       case h => (first | exact sane_spec ..)
       case hg => ((simp [SV.noG, SV.noGL, Cell.noG]) <;> (repeat' apply And.intro) <;> exact Ints_noG _)
       case' hk => simp only [decide_eq_false c1, decide_eq_false hjq, decide_eq_false c3, go_sem, Nat.reduceEqDiff, Nat.reduceAdd, Nat.reduceSub, Nat.reduceMul, Nat.reduceLT, Nat.reduceLeDiff, ↓reduceIte, reduceCtorEq, List.reduceReplicate, SV.ren, SV.renL, Cell.ren, Row.ren, renO, bk, back, outUpsFrom, Ints_ren])
    | (apply fs_nil <;> (try simp only [resV, resS, SV.ren, SV.renL, Cell.ren, St.tmF, St.hpF, idx, renO, Row.ren, evS, slot, lookR, Nat.reduceEqDiff, ↓reduceIte, reduceCtorEq, if_true, if_false, Option.getD_some, Option.getD_none, List.map_cons, List.map_nil, sLoad, readAt, readNeed, Ints_ren, Ints_length, Ints_getD, and_true, true_and, List.getD_cons_zero, List.getD_cons_succ]) <;> (try rfl)))
    refine le_mk (j + 1) ?_ (by omega) (by omega)
    (refine imp_ren _ _ _ [(0, 0, ⟨Ints X, 1⟩), (1, 1, ⟨Ints Y, 1⟩), (2, 2, ⟨Ints Z, 1⟩)] (by simp) (by simp) (by simp) (Nat.le_of_ble_eq_true rfl) ?_ rfl (by simp only [List.forall_mem_cons, List.not_mem_nil, false_implies, implies_true, and_true, St.hpF, lookR, Nat.reduceEqDiff, if_true, if_false, ↓reduceIte] <;> (repeat' apply And.intro) <;> (first | rfl | trivial)) (by simp only [List.forall_mem_cons, List.not_mem_nil, false_implies, implies_true, and_true, true_and, flat_cons, flat_nil, flat_ints, flat_app, Cell.refs, and_self, eq_self_iff_true, List.append_nil]); simp only [List.map_cons, List.map_nil, List.forall_mem_cons, List.not_mem_nil, false_implies, implies_true, and_true, lk, slot, SV.ren, Cell.ren, toN, Nat.reduceEqDiff, if_true, if_false, ↓reduceIte, reduceCtorEq])
    (repeat' apply And.intro) <;> (first | rfl | trivial)
theorem grows_walk (a0 : Option Addr) (len0 cap0 : Nat) (z0 : List Int) (a1 : Int) (w : World) (w0 : RowIs .i64 w a0 len0 cap0 z0) (w1 : (Lit.int .u16 a1).wf = true) :
    Calls Try.prog 6 #[.slice a0 len0 cap0, .int .u16 a1] w fun e w' => e = .returned (.bool true) ∧ Below w.heap.size w w' :=
  entry (grows_spec (z0.take len0) a1 (row_rng w0) (by have := wf_u16 w1; omega)) w _ (show VSL _ _ [_, _] [_, _] from ⟨vs_row w0, vs_int _ _ _ _, trivial⟩) ⟨trivial, trivial, trivial⟩
end Go.Proofs.Ytcfkmkabjalgjab
