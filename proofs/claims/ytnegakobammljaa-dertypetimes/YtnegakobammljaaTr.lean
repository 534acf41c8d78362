/- The document's own answers of layer 10: days, digits, identifiers, bit strings. -/
import Derived.Test.YtnegakobammljaaRows
import Derived.Test.YtnegakobammljaaTy
import Derived.Lib.Hide
import Derived.IntWalk
import Derived.Deep.Cut
namespace Go.Proofs.Ytnegakobammljaa
open Go.RowKit

set_option maxRecDepth 100000 in
set_option maxHeartbeats 400000 in
theorem rdays_any (w : World) (y m : Int) (hy : 0 ≤ y) : Calls Try.prog 33 #[.int .i64 y, .int .i64 m] w fun e w' => e = .returned (.int .i64 (dys y m)) ∧ w' = w := by
  have t4 : y.tmod 4 = y % 4 := Int.tmod_eq_emod_of_nonneg hy
  have t100 : y.tmod 100 = y % 100 := Int.tmod_eq_emod_of_nonneg hy
  have t400 : y.tmod 400 = y % 400 := Int.tmod_eq_emod_of_nonneg hy
  clear hy
  by_cases h1 : m = 4 ∨ m = 6 ∨ m = 9 ∨ m = 11
  · have e : dys y m = 30 := by unfold dys; rw [if_pos h1]
    rw [e]
    clear e t4 t100 t400
    rcases h1 with rfl | rfl | rfl | rfl
    all_goals
      go_enter Try.func33, Try.ntmps33
      go_wp2_with fail
      go_ret
      exact ⟨rfl, rfl⟩
  · by_cases h2 : m = 2
    · subst h2
      have e : dys y 2 = if lp y then 29 else 28 := by unfold dys; rw [if_neg (by decide), if_pos rfl]
      rw [e]
      clear e h1
      unfold lp
      rw [← t4, ← t100, ← t400]
      clear t4 t100 t400
      cases h4 : (y.tmod 4 == 0) <;> cases h100 : (y.tmod 100 != 0) <;> cases h400 : (y.tmod 400 == 0)
      all_goals
        go_enter Try.func33, Try.ntmps33
        go_wp2_with fail
        go_ret
        exact ⟨rfl, rfl⟩
    · have e : dys y m = 31 := by unfold dys; rw [if_neg h1, if_neg h2]
      have k1 : (m == 4) = false := beq_eq_false_iff_ne.2 (fun h => h1 (.inl h))
      have k2 : (m == 6) = false := beq_eq_false_iff_ne.2 (fun h => h1 (.inr (.inl h)))
      have k3 : (m == 9) = false := beq_eq_false_iff_ne.2 (fun h => h1 (.inr (.inr (.inl h))))
      have k4 : (m == 11) = false := beq_eq_false_iff_ne.2 (fun h => h1 (.inr (.inr (.inr h))))
      have k5 : (m == 2) = false := beq_eq_false_iff_ne.2 h2
      rw [e]
      clear e h1 h2 t4 t100 t400
      go_enter Try.func33, Try.ntmps33
      go_wp2_with fail
      go_ret
      exact ⟨rfl, rfl⟩
end Go.Proofs.Ytnegakobammljaa

