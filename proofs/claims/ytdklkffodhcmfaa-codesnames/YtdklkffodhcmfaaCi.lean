/- The function that the program hands out to be ranged over: whatever the loop's body does (it keeps what is new since), all codes of the kind come, in their order, or a part of them, where the body says that it is enough. -/
import Derived.Test.YtdklkffodhcmfaaCl
import Derived.RangeFuncNested
import Derived.RangeFuncBound
import Derived.RangeFuncCalls
import Derived.RangeFuncLeaves
import Derived.Shelf.Abstract
import Derived.Shelf.RegionOpen
import Derived.WalkKit
import Derived.OwnWalkIn
import Derived.TacticsInMore
import Derived.LoopNIn
import Derived.LoopIn
namespace Go.Proofs.Ytdklkffodhcmfaa
open Go.RowKit Go.Shelf
attribute [local go_sem] Oper.semAt_some

/-- What stands in blocks from n on, as cells, stands as it stood. -/
def Kh (n : Nat) (A B : World) : Prop := A.heap.size ≤ B.heap.size ∧ ∀ i o, n ≤ i → A.heap[i]? = some o → o.isCells = true → B.heap[i]? = some o
theorem Kh.refl (n : Nat) (A : World) : Kh n A A := ⟨Nat.le_refl _, fun _ _ _ h _ => h⟩
theorem Kh.trans {n : Nat} {A B C : World} (h : Kh n A B) (k : Kh n B C) : Kh n A C := ⟨Nat.le_trans h.1 k.1, fun i o hi ho hc => k.2 i o hi (h.2 i o hi ho hc) hc⟩
theorem Kh.put {n : Nat} {W : World} {l : Nat} {o : Obj} (o' : Obj) (h : W.heap[l]? = some o) (hc : o.isCells = false) : Kh n W (W.putObj l o') := by
  refine ⟨by simp, fun i o2 _ ho2 hc2 => ?_⟩
  by_cases e : i = l
  · subst e; rw [h] at ho2; cases ho2; rw [hc] at hc2; cases hc2
  · exact (World.putObj_heap_other e).trans ho2
theorem Kh.alloc (n : Nat) (W : World) (o : Obj) : Kh n W (W.alloc o) := ⟨by simp, fun i o2 _ ho2 _ => (Below.heap_alloc W o i (Array.getElem?_eq_some_iff.1 ho2).1).trans ho2⟩
theorem Kh.set {n : Nat} (W : World) {p i : Nat} (u : Value) (hp : p < n) : Kh n W (W.setCell ⟨p, i, none⟩ u) := ⟨by simp [World.setCell], fun j o hj ho _ => (Below.heap_setCell _ _ _ _ (by simp; omega)).trans ho⟩
theorem Kh.whole {n : Nat} {A B : World} (h : Kh n A B) {p : Nat} {cs : Array Value} {t : TypeId} (hp : n ≤ p) (k : Whole A p cs t) : Whole B p cs t := h.2 p _ hp k rfl

theorem cdCells_length (xs : List Cd) : (cdCells xs).length = 2 * xs.length := by
  induction xs with
  | nil => rfl
  | cons x xs ih => rw [cdCells, List.flatMap_cons, List.length_append, ← cdCells, ih]; simp; omega
theorem cdCells_0 : ∀ (xs : List Cd) (j : Nat) (x : Cd), xs[j]? = some x → (cdCells xs)[2 * j]? = some (.int .i64 x.1) ∧ (cdCells xs)[2 * j + 1]? = some (.string x.2)
  | [], j, x, h => by simp at h
  | y :: xs, 0, x, h => by simp at h; subst h; exact ⟨rfl, rfl⟩
  | y :: xs, j + 1, x, h => by
    have := cdCells_0 xs j x (by simpa using h)
    have e : cdCells (y :: xs) = .int .i64 y.1 :: .string y.2 :: cdCells xs := rfl
    rw [e, show 2 * (j + 1) = 2 * j + 1 + 1 by omega]
    simpa using this

theorem cds_len (k : Int) : (cds k).length ≤ 22 := by
  unfold cds
  split
  · decide
  · split
    · decide
    · split
      · decide
      · exact Nat.zero_le _

set_option maxRecDepth 100000 in
set_option maxHeartbeats 2000000 in
theorem allc_in (n l Bk n₁ : Nat) (k : Int) (J Jx : List Cd → World → Prop)
    (hY : ∀ pre x W, J pre W → pre.length < (cds k).length → YieldAt Fence.wide (n - 1) Try.prog l #[.int .i64 x.1, .string x.2] W fun e W' =>
      (e = .returned (.bool true) ∧ J (pre ++ [x]) W' ∧ Kh n₁ W W') ∨ (e = .returned (.bool false) ∧ Jx (pre ++ [x]) W'))
    (W : World) (hn : n₁ ≤ W.heap.size) (hBk : W.cell? ⟨Bk, 0, none⟩ = some (.int .i64 k)) (hJ : AbidesFrom W.heap.size J) (h0 : J [] W) :
    CallsIn Fence.wide n Try.prog 15 #[.func (.yield l) #[] #[], .pointer (some ⟨Bk, 0, none⟩)] W fun e W' => (∃ v, e = .returned v) ∧
      ((∃ ys, ys = cds k ∧ J ys W') ∨ (∃ pre, pre <+: cds k ∧ Jx pre W')) := by
  by_cases hk : cds k = []
  · have hl := list_any W k
    rw [hk, cdSlice, if_pos rfl, cdOut, if_pos rfl] at hl
    refine callsIn_of_wp Try.func15 rfl trivial ?_ rfl
    simp only [Try.ntmps15, List.size_toArray, List.length_cons, List.length_nil, Nat.reduceAdd, Nat.reduceSub, Array.replicate_succ, Array.replicate_zero, List.push_toArray, List.append_toArray, List.nil_append, List.cons_append]
    gi_wp2_with fail
    refine ⟨trivial, (fun h => by cases h), (callsIn_wide.2 hl).mono ?_⟩
    rintro e w' ⟨rfl, rfl⟩
    gi_wp2_with fail
    gi_loopw [8] (fun i wr => i = .int .i64 0 ∧ J [] wr) (fun _ _ => 0)
    case atStart => exact ⟨rfl, h0⟩
    case round =>
      obtain ⟨rfl, hJs⟩ := hrel
      gi_wp2
      go_end0
      exact ⟨⟨_, rfl⟩, .inl ⟨[], hk.symm, hJs⟩⟩
  · obtain ⟨xs, hxs⟩ : ∃ xs, cds k = xs := ⟨_, rfl⟩
    obtain ⟨L, hL⟩ : ∃ L, xs.length = L := ⟨_, rfl⟩
    obtain ⟨p, hp⟩ : ∃ p, W.heap.size = p := ⟨_, rfl⟩
    have h22 : L ≤ 22 := by rw [← hL, ← hxs]; exact cds_len k
    have hl := list_any W k
    have hwh := cdOut_whole W 42 (cds k) hk
    have hJ1 : J [] (cdOut W 42 (cds k)) := by unfold cdOut; rw [if_neg hk]; exact hJ [] _ _ none h0 (World.grownBy_alloc W _ none) (fun r e => by cases e)
    rw [hxs] at hY hl hwh hk hJ1 ⊢
    obtain ⟨W1, hW1⟩ : ∃ W1, cdOut W 42 xs = W1 := ⟨_, rfl⟩
    have hs1 : n₁ ≤ p := by omega
    rw [hW1] at hl hwh hJ1
    rw [hp] at hwh hl hJ
    rw [cdSlice, if_neg hk, hL] at hl
    rw [hL] at hY
    refine callsIn_of_wp Try.func15 rfl trivial ?_ rfl
    simp only [Try.ntmps15, List.size_toArray, List.length_cons, List.length_nil, Nat.reduceAdd, Nat.reduceSub, Array.replicate_succ, Array.replicate_zero, List.push_toArray, List.append_toArray, List.nil_append, List.cons_append]
    gi_wp2_with fail
    refine ⟨trivial, (fun h => by cases h), (callsIn_wide.2 hl).mono ?_⟩
    rintro e w' ⟨rfl, rfl⟩
    gi_wp2_with fail
    gi_loopw [8] (fun i wr => ∃ j : Nat, j ≤ L ∧ i = .int .i64 j ∧ J (xs.take j) wr ∧ Whole wr p (cdCells xs).toArray 42)
      (fun i _ => L - (intOf i).toNat)
    case atStart => exact ⟨0, Nat.zero_le _, rfl, hJ1, hwh⟩
    case round =>
      obtain ⟨j, hj, rfl, hJs, hw⟩ := hrel
      by_cases hlt : j < L
      · obtain ⟨x, hx⟩ : ∃ x, xs[j]? = some x := ⟨_, List.getElem?_eq_getElem (by omega)⟩
        obtain ⟨c0, c1⟩ := cdCells_0 xs j x hx
        have m0 : wr.cell? ⟨p, j * 2, none⟩ = some (.int .i64 x.1) := by rw [hw.cell, Nat.mul_comm]; simpa using c0
        have m1 : wr.cell? ⟨p, j * 2 + 1, none⟩ = some (.string x.2) := by rw [hw.cell, Nat.mul_comm]; simpa using c1
        clear c0 c1
        have hlen : (xs.take j).length < L := by rw [List.length_take]; omega
        have hnext : xs.take (j + 1) = xs.take j ++ [x] := by rw [List.take_add_one, hx]; rfl
        have hlt2 : p < wr.heap.size := hw.lt
        have hJ2 : J (xs.take j) (wr.alloc (.cells #[.int .i64 x.1, .string x.2] 42)) := hJ _ _ _ none hJs (World.grownBy_alloc wr _ none) (fun r e => by cases e)
        have hw2 : Whole (wr.alloc (.cells #[.int .i64 x.1, .string x.2] 42)) p (cdCells xs).toArray 42 := hw.grew (grew_alloc (grew_refl wr none) _) (by simp)
        obtain ⟨fn, tmps, assign, body, hy, hR⟩ := hY _ x _ hJ2 hlen
        have hwr : wrap64 ((j : Int) + 1) = (j : Int) + 1 := IntWalk.wrap64_in _ (by omega)
        gi_wp2
        refine ⟨(fun h => by cases h), hR.mono ?_⟩
        rintro e W3 (⟨rfl, hJ3, hk3⟩ | ⟨rfl, hJx3⟩)
        · gi_wp2
          go_roundw
          case rel => exact ⟨j + 1, by omega, rfl, by rw [hnext]; exact hJ3, hk3.whole hs1 hw2⟩
          case measure => simp [intOf]; omega
        · gi_wp2
          refine bodyPost_ret (results_none rfl _ _ _) rfl ?_
          exact ⟨⟨_, rfl⟩, .inr ⟨_, by rw [← hnext]; exact List.take_prefix _ _, hJx3⟩⟩
      · obtain rfl : j = L := by omega
        gi_wp2
        go_end0
        exact ⟨⟨_, rfl⟩, .inl ⟨_, rfl, by rw [← hL, List.take_length] at hJs; exact hJs⟩⟩
/-- What All answers. -/
theorem all_any (w : World) (k : Int) : Calls Try.prog 13 #[.int .i64 k] w fun e w' => e = .returned (.func (.func 15) #[] #[.pointer (some ⟨w.heap.size, 0, none⟩)]) ∧ w' = w.alloc (.cells #[.int .i64 k] 3) := by
  go_enter Try.func13, Try.ntmps13
  go_wp2_with fail
  go_ret
  exact ⟨rfl, rfl⟩

theorem allc_stops (n Bk n₁ : Nat) (k : Int) (w : World) (hn : n₁ ≤ w.heap.size) (hc : w.cell? ⟨Bk, 0, none⟩ = some (.int .i64 k)) :
    SeqStopsK Fence.wide n Try.prog 15 #[.pointer (some ⟨Bk, 0, none⟩)] (fun x : Cd => #[.int .i64 x.1, .string x.2]) (Kh n₁) (fun ys => ys = cds k) (fun pre => pre <+: cds k) (cds k).length w := fun l J Jx W hW hJ _ hY h0 =>
  allc_in n l Bk n₁ k J Jx hY W (Nat.le_trans hn hW.size) ((hW.cell (p := ⟨Bk, 0, none⟩) (World.block_lt_of_cell? w _ hc)).trans hc) hJ h0
end Go.Proofs.Ytdklkffodhcmfaa

