/- Contracts of functions, told of values, on the way to VirtualWakes. -/
import Derived.Test.YtabanfgnnelfcaaTyCa
import Derived.Test.YtabanfgnnelfcaaDiceCa
import Derived.Test.YtabanfgnnelfcaaVtdCa
-- NEWGO
-- PRUNE: cl_lendx
-- ISG: Its_isG
namespace Go.Proofs.Ytabanfgnnelfcaa
set_option linter.unusedVariables false
set_option linter.unusedSimpArgs false
open Go.Proofs.Ytabanfgnnelfcaa.Sh
set_option maxRecDepth 20000
section
variable {w0 : Base} {A : Nat → Prop} {N : Nat} {Fr : Nat → Prop} {tm : Nat → Option SV} {hp : Nat → Option Row} {a : Act} {w : World} {m : Mem} {π : Plc}
theorem CWL_get : ∀ {cs ds : List Cell}, CWL cs ds → ∀ (i : Nat) d, ds[i]? = some d → ∃ c, cs[i]? = some c ∧ CW c d
  | [], [], _, i, d, h => by simp at h
  | c :: cs, d :: ds, h, 0, x, hx => ⟨c, rfl, by simp at hx; exact hx ▸ h.1⟩
  | c :: cs, d :: ds, h, i + 1, x, hx => by simpa using CWL_get h.2 i x (by simpa using hx)
  | [], _ :: _, h, _, _, _ => h.elim
  | _ :: _, [], h, _, _, _ => h.elim
theorem CWL_len : ∀ {cs ds : List Cell}, CWL cs ds → cs.length = ds.length
  | [], [], _ => rfl
  | _ :: cs, _ :: ds, h => by simp [CWL_len h.2]
  | [], _ :: _, h => h.elim
  | _ :: _, [], h => h.elim
theorem RelAt_wrow (h : RelAt w0 A N Fr tm hp a w m π) {r : Nat} {cs ds : List Cell} {e : Nat} (hr : hp r = some ⟨cs, e⟩) (hw : CWL cs ds) (hs : ∀ d ∈ ds, d ≠ .un) : RelAt w0 A N Fr tm (upd hp r (some ⟨ds, e⟩)) a w m π := by
  have hl := CWL_len hw
  refine { h with rows := fun q row hq => ?_, rcl := fun q row hq => ?_, rsol := fun q row hq => ?_, live := fun q hq => ?_, fresh := fun q hq => ?_ }
  · unfold upd at hq
    by_cases e1 : q = r
    · subst e1
      simp only [↓reduceIte, Option.some.injEq] at hq
      subst hq
      have := h.rows q _ hr
      unfold RowOk at this ⊢
      cases hπ : π q with
      | none => rw [hπ] at this; exact this
      | some x =>
        rw [hπ] at this
        cases x with
        | none =>
          simp only at this ⊢
          rw [this] at hl
          exact List.length_eq_zero_iff.1 hl.symm
        | some p =>
          obtain ⟨k1, k2, arr, ty, k3, k4, k5, k6⟩ := this
          refine ⟨k1, k2, arr, ty, k3, k4, ⟨fun hz => by have := k5.1 hz; simp only at this ⊢; omega, fun hz => by have := k5.2 hz; simp only at this ⊢; omega⟩, fun i c hi => ?_⟩
          obtain ⟨c0, g1, g2⟩ := CWL_get hw i c hi
          obtain ⟨x, g3, g4⟩ := k6 i c0 g1
          exact ⟨x, g3, g2.1 _ _ _ g4⟩
    · simp only [e1, ↓reduceIte] at hq
      exact h.rows q row hq
  · unfold upd at hq
    by_cases e1 : q = r
    · subst e1
      simp only [↓reduceIte, Option.some.injEq] at hq
      subst hq
      exact CWL.cl hw (h.rcl q _ hr)
    · simp only [e1, ↓reduceIte] at hq
      exact h.rcl q row hq
  · unfold upd at hq
    by_cases e1 : q = r
    · subst e1
      simp only [↓reduceIte, Option.some.injEq] at hq
      subst hq
      exact hs
    · simp only [e1, ↓reduceIte] at hq
      exact h.rsol q row hq
  · unfold upd at hq
    by_cases e1 : q = r
    · simp [e1] at hq
    · simp only [e1, ↓reduceIte] at hq; exact h.live q hq
  · unfold upd
    have := h.fresh q hq
    by_cases e1 : q = r
    · subst e1; rw [hr] at this; cases this
    · simp only [e1, ↓reduceIte]; exact this
end
theorem imp_wrow (k : Nat) (s : St) (r : Nat) {cs ds : List Cell} {e : Nat} (hr : s.hpF r = some ⟨cs, e⟩) (hw : CWL cs ds) (hs : ∀ d ∈ ds, d ≠ .un) : Imp k s ⟨s.tm, (r, some ⟨ds, e⟩) :: s.hp, s.nx⟩ := by
  intro w0 A N a w m π hk h
  refine ⟨m, π, ?_⟩
  have e : (St.hpF ⟨s.tm, (r, some ⟨ds, e⟩) :: s.hp, s.nx⟩) = upd s.hpF r (some ⟨ds, e⟩) := by
    funext q
    simp only [St.hpF, lookR, upd]
    by_cases e1 : r = q
    · simp [e1]
    · simp [e1, Ne.symm e1]
  rw [e]
  exact RelAt_wrow h hr hw hs
def wtV (l : List Int) (i : Nat) : Int := [1, 100, 300, 10000, 50, 200, 7, 1 + nxV l i 1000].getD (nxV l (nxA l i 1000) 8).toNat 0
def wtA (l : List Int) (i : Nat) : Nat := nxA l (nxA l i 1000) 8
theorem nxV_rng (l : List Int) (i : Nat) (n : Int) (h : 0 < n) : 0 ≤ nxV l i n ∧ nxV l i n < n := by
  unfold nxV
  split
  · omega
  · exact ⟨Int.emod_nonneg _ (by omega), Int.emod_lt_of_pos _ h⟩
theorem weight_spec (l : List Int) (i : Nat) (hl : l.length ≤ 600) (hr : ∀ x ∈ l, -9223372036854775808 ≤ x ∧ x ≤ 9223372036854775807) : FnSpec Try.prog 25 [dp] [dice l i] (i1 (wtV l i)) [some (dice l (wtA l i))] := by
  have h1 := nxV_rng l i 1000 (by omega)
  have h2 := nxV_rng l (nxA l i 1000) 8 (by omega)
  refine fnspec_of mixed TT_ok TT_cl ⟨fun _ => false, fun f => if f = 24 then [0] else [], 1, fun _ => false, fun _ => false⟩ Try.func25 rfl (by kernel_rfl) rfl 11 rfl [.tmp 2] rfl ?_
  simp only [go_sem, Nat.reduceEqDiff, Nat.reduceAdd, Nat.reduceSub, Nat.reduceMul, Nat.reduceLT, Nat.reduceLeDiff, ↓reduceIte, reduceCtorEq, List.reduceReplicate, Int.cast_ofNat_Int, Int.reduceEq, Int.reduceLT, Int.reduceLE]
  repeat' (first
    | with_reducible refine And.intro ?_ ?_
    | (intros; (try simp only [Bool.and_eq_true, Bool.or_eq_true, Bool.not_eq_true', Bool.not_eq_false', Bool.and_eq_false_iff, Bool.or_eq_false_iff, decide_eq_true_eq, decide_eq_false_iff_not] at *); omega)
    | (apply cl_lend
       case hr => (simp only [List.map_cons, List.map_nil, hpL', lookR, Nat.reduceEqDiff, if_true, if_false]; first | exact map1 _ | exact map2 _ _ | exact map3 _ _ _)
       case ha => (simp only [List.map_cons, List.map_nil, prepV, prepC, idx, hpL', lookR, Nat.reduceEqDiff, if_true, if_false]; rfl)
       case hs => rfl
       case hn => decide
       case h => (first | exact next_spec _ _ _ hl hr (by omega))
       case hf => (simp only [List.forall_mem_cons, List.not_mem_nil, false_implies, implies_true, and_true, true_and, flat_cons, flat_nil, flat_ints, flat_bools, flat_app, Cell.refs, and_self, eq_self_iff_true, List.append_nil])
       case hl => (simp only [List.length_cons, List.length_nil]; decide))
    | ((first | refine s1_id ?_ | refine swp_id ?_ | refine sops_id ?_ | refine s2_id ?_); simp only [go_sem, Nat.reduceEqDiff, Nat.reduceAdd, Nat.reduceSub, Nat.reduceMul, Nat.reduceLT, Nat.reduceLeDiff, ↓reduceIte, reduceCtorEq, List.reduceReplicate, Int.cast_ofNat_Int, Int.reduceEq, Int.reduceLT, Int.reduceLE, SV.ren, SV.renL, Cell.ren, Row.ren, renO, bk, back, outUpsFrom, Ints_ren]))
  (refine fs_flat [(0, dice l (wtA l i))] (by simp) (by simp only [List.map_cons, List.map_nil]; decide) (by simp only [go_sem, resV, resS, SV.ren, SV.renL, Cell.ren, St.tmF, St.hpF, idx, renO, Row.ren, evS, slot, lookR, Nat.reduceEqDiff, ↓reduceIte, reduceCtorEq, if_true, if_false, Option.getD_some, Option.getD_none, List.map_cons, List.map_nil, sLoad, readAt, readNeed, Ints_ren, Ints_length, Ints_getD, and_true, true_and, List.getD_cons_zero, List.getD_cons_succ]; try decide) ?_ (by simp only [List.forall_mem_cons, List.not_mem_nil, false_implies, implies_true, and_true, St.hpF, lookR, Nat.reduceEqDiff, if_true, if_false, ↓reduceIte, dice] <;> (repeat' apply And.intro) <;> (first | rfl | trivial)) (by simp only [List.forall_mem_cons, List.not_mem_nil, false_implies, implies_true, and_true, true_and, flat_cons, flat_nil, flat_ints, flat_bools, flat_app, Cell.refs, and_self, eq_self_iff_true, List.append_nil, dice]) ?_ <;> (try simp only [go_sem, resV, resS, SV.ren, SV.renL, Cell.ren, St.tmF, St.hpF, idx, renO, Row.ren, evS, slot, lookR, Nat.reduceEqDiff, ↓reduceIte, reduceCtorEq, if_true, if_false, Option.getD_some, Option.getD_none, List.map_cons, List.map_nil, sLoad, readAt, readNeed, Ints_ren, Ints_length, Ints_getD, and_true, true_and, List.getD_cons_zero, List.getD_cons_succ]) <;> (try rfl))
def qOp (l : List Int) (q : Int × List It) (id k : Int) (j : Nat) : ((Int × List It) × Int) × Nat :=
  if k = 0 ∨ k = 1 then (vAdd q.1 q.2 id (wtV l j), wtA l j)
  else if k = 2 ∨ k = 3 then (chg q.1 q.2 id (wkF q.1 q.2 (bsV q.2 id)), j)
  else if k = 4 then (chg q.1 q.2 id (slF q.2 (bsV q.2 id)), j)
  else if k = 5 ∨ k = 6 then (if (vPick q.1 q.2 [-3, -2, -1, 1, 2, 3, id]).2 = true then (chg q.1 q.2 (vPick q.1 q.2 [-3, -2, -1, 1, 2, 3, id]).1 (svF q.2 (bsV q.2 (vPick q.1 q.2 [-3, -2, -1, 1, 2, 3, id]).1)), j) else ((q, 0), j))
  else (rwQ q.1 q.2 id (wtV l j), wtA l j)
def qSt (l : List Int) (s : (Int × List It) × Nat) : (Int × List It) × Nat :=
  (if (qOp l s.1 (nxV l s.2 7 - 3) (nxV l (nxA l s.2 7) 8) (nxA l (nxA l s.2 7) 8)).1.2 = 0 then (qOp l s.1 (nxV l s.2 7 - 3) (nxV l (nxA l s.2 7) 8) (nxA l (nxA l s.2 7) 8)).1.1 else s.1, (qOp l s.1 (nxV l s.2 7 - 3) (nxV l (nxA l s.2 7) 8) (nxA l (nxA l s.2 7) 8)).2)
def qLp (l : List Int) : Nat → (Int × List It) × Nat → (Int × List It) × Nat
  | 0, s => s
  | n + 1, s => qLp l n (qSt l s)
def mkQ (l : List Int) (i : Nat) (n : Int) : (Int × List It) × Nat := qLp l (nxV l i (n + 1)).toNat ((0, []), nxA l i (n + 1))
def lendQ (f : Nat) : List Nat := if f = 24 then [0] else if f = 25 then [0] else if f = 41 then [0] else if f = 42 then [0] else if f = 13 then [0] else if f = 38 then [0] else if f = 20 then [0] else []
end Go.Proofs.Ytabanfgnnelfcaa
