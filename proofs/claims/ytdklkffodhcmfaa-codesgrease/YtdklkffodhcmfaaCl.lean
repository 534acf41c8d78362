/- The lists of codes as they are made: the document's own, the program's; each in new memory. -/
import Derived.Test.YtdklkffodhcmfaaRows
import Derived.Test.YtdklkffodhcmfaaCd
import Derived.Test.YtdklkffodhcmfaaFoot
namespace Go.Proofs.Ytdklkffodhcmfaa
open Go.RowKit

/-- What making a list leaves: nothing, where there are no codes; else one block. -/
def cdOut (w : World) (t : TypeId) (xs : List Cd) : World := if xs = [] then w else w.alloc (.cells (cdCells xs).toArray t)
theorem cds_none {k : Int} (h0 : k ≠ 0) (h1 : k ≠ 1) (h2 : k ≠ 2) : cds k = [] := by simp [cds, h0, h1, h2]
theorem cdOut_below (w : World) (t : TypeId) (xs : List Cd) : Below w.heap.size w (cdOut w t xs) := by
  unfold cdOut
  split
  · exact Below.refl _ _
  · exact (Below.refl _ w).alloc (Nat.le_refl _) _
theorem cdOut_whole (w : World) (t : TypeId) (xs : List Cd) (h : xs ≠ []) : Whole (cdOut w t xs) w.heap.size (cdCells xs).toArray t := by
  unfold cdOut
  rw [if_neg h]
  exact Whole.new w _ _

set_option maxRecDepth 100000 in
set_option maxHeartbeats 4000000 in
/-- The document's own list. -/
theorem rcds_any (w : World) (k : Int) : Calls Try.prog 14 #[.int .i64 k] w fun e w' => e = .returned (cdSlice w.heap.size (cds k)) ∧ w' = cdOut w 36 (cds k) := by
  by_cases h0 : k = 0
  · subst h0
    go_enter Try.func14, Try.ntmps14
    go_wp2_with fail
    go_ret
    exact ⟨rfl, rfl⟩
  by_cases h1 : k = 1
  · subst h1
    go_enter Try.func14, Try.ntmps14
    go_wp2_with fail
    go_ret
    exact ⟨rfl, rfl⟩
  by_cases h2 : k = 2
  · subst h2
    go_enter Try.func14, Try.ntmps14
    go_wp2_with fail
    go_ret
    exact ⟨rfl, rfl⟩
  rw [cds_none h0 h1 h2]
  go_enter Try.func14, Try.ntmps14
  go_wp2_with fail
  go_ret
  exact ⟨rfl, rfl⟩

set_option maxRecDepth 100000 in
set_option maxHeartbeats 4000000 in
theorem records_any (w : World) : Calls Try.prog 17 #[] w fun e w' => e = .returned (cdSlice w.heap.size (cds 0)) ∧ w' = cdOut w 42 (cds 0) := by
  go_enter Try.func17, Try.ntmps17
  go_wp2_with fail
  go_ret
  exact ⟨rfl, rfl⟩
set_option maxRecDepth 100000 in
set_option maxHeartbeats 4000000 in
theorem handshakes_any (w : World) : Calls Try.prog 18 #[] w fun e w' => e = .returned (cdSlice w.heap.size (cds 1)) ∧ w' = cdOut w 42 (cds 1) := by
  go_enter Try.func18, Try.ntmps18
  go_wp2_with fail
  go_ret
  exact ⟨rfl, rfl⟩
set_option maxRecDepth 100000 in
set_option maxHeartbeats 4000000 in
theorem extensions_any (w : World) : Calls Try.prog 19 #[] w fun e w' => e = .returned (cdSlice w.heap.size (cds 2)) ∧ w' = cdOut w 42 (cds 2) := by
  go_enter Try.func19, Try.ntmps19
  go_wp2_with fail
  go_ret
  exact ⟨rfl, rfl⟩

set_option maxRecDepth 100000 in
set_option maxHeartbeats 4000000 in
/-- The program's list. -/
theorem list_any (w : World) (k : Int) : Calls Try.prog 16 #[.int .i64 k] w fun e w' => e = .returned (cdSlice w.heap.size (cds k)) ∧ w' = cdOut w 42 (cds k) := by
  by_cases h0 : k = 0
  · subst h0
    go_enter Try.func16, Try.ntmps16
    go_wp2_with fail
    refine (records_any w).mono ?_
    rintro e w' ⟨rfl, rfl⟩
    go_wp2_with fail
    go_ret
    exact ⟨rfl, rfl⟩
  by_cases h1 : k = 1
  · subst h1
    go_enter Try.func16, Try.ntmps16
    go_wp2_with fail
    refine (handshakes_any w).mono ?_
    rintro e w' ⟨rfl, rfl⟩
    go_wp2_with fail
    go_ret
    exact ⟨rfl, rfl⟩
  by_cases h2 : k = 2
  · subst h2
    go_enter Try.func16, Try.ntmps16
    go_wp2_with fail
    refine (extensions_any w).mono ?_
    rintro e w' ⟨rfl, rfl⟩
    go_wp2_with fail
    go_ret
    exact ⟨rfl, rfl⟩
  rw [cds_none h0 h1 h2]
  go_enter Try.func16, Try.ntmps16
  go_wp2_with fail
  go_ret
  exact ⟨rfl, rfl⟩
end Go.Proofs.Ytdklkffodhcmfaa

