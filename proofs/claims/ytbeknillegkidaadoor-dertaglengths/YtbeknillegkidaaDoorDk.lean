/- The document's own answers of layer 9: Kind. -/
import Derived.Test.YtbeknillegkidaaDoorRows
import Derived.Test.YtbeknillegkidaaDoorDt
namespace Go.Proofs.YtbeknillegkidaaDoor
open Go.RowKit

set_option maxRecDepth 100000 in
set_option maxHeartbeats 2000000 in
theorem rkind_any (w : World) (c t : Int) (m : Bool) : Calls Tryd.prog 13 #[.int .i64 c, .int .i64 t, .bool m] w fun e w' => e = .returned (.bool (kd c t m)) ∧ w' = w := by
  by_cases h2 : c = 2
  · subst h2
    by_cases ht : 0 ≤ t
    · have hk : kd 2 t m = decide (t ≤ 30) := by unfold kd; rw [if_pos rfl]; simp [ht]
      rw [hk]
      go_enter Tryd.func13, Tryd.ntmps13
      go_wp2_with fail
      go_ret
      exact ⟨rfl, rfl⟩
    · have hk : kd 2 t m = false := by unfold kd; rw [if_pos rfl]; simp; omega
      rw [hk]
      go_enter Tryd.func13, Tryd.ntmps13
      go_wp2_with fail
      go_ret
      exact ⟨rfl, rfl⟩
  · by_cases h0 : c = 0
    · have hk : kd c t m = if t = 1 ∨ t = 2 ∨ t = 3 ∨ t = 4 ∨ t = 5 ∨ t = 6 ∨ t = 10 ∨ t = 12 ∨ t = 18 ∨ t = 19 ∨ t = 20 ∨ t = 22 ∨ t = 23 ∨ t = 24 ∨ t = 26 ∨ t = 28 ∨ t = 30 then !m
    else if t = 16 ∨ t = 17 then m else false := by unfold kd; rw [if_neg h2, if_pos h0]
      subst h0
      rw [hk]
      go_enter Tryd.func13, Tryd.ntmps13
      go_wp2_with fail
      all_goals (go_ret; refine ⟨?_, rfl⟩)
      all_goals (clear hk h2; simp only [beq_iff_eq, beq_eq_false_iff_ne, ne_eq] at *; first | (subst_vars; rfl) | (simp_all; done) | (trace_state; sorry))
    · have hk : kd c t m = false := by unfold kd; rw [if_neg h2, if_neg h0]
      rw [hk]
      go_enter Tryd.func13, Tryd.ntmps13
      go_wp2_with fail
      go_ret
      exact ⟨rfl, rfl⟩
end Go.Proofs.YtbeknillegkidaaDoor

