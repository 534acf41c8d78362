/- The package's own times: is it a moment? -/
import Derived.Test.YtnegakobammljaaTm
import Derived.Test.YtnegakobammljaaTr4
namespace Go.Proofs.Ytnegakobammljaa
open Go.RowKit

theorem below_drewN {w W : World} {q : Nat} (h : Below q w W) (n : Nat) : Below q w (W.drewN n) := ⟨h.os, h.tape, h.output, h.size, h.block⟩

set_option maxRecDepth 100000 in
set_option maxHeartbeats 2000000 in
theorem ismoment_any (w : World) (v0 v1 v2 v3 v4 v5 : Int) (h0 : 0 ≤ v0) :
    Calls Try.prog 40 #[.agg #[.int .i64 v0, .int .i64 v1, .int .i64 v2, .int .i64 v3, .int .i64 v4, .int .i64 v5]] w fun e w' =>
      e = .returned (.bool (decide (1 ≤ v1 ∧ v1 ≤ 12 ∧ 1 ≤ v2 ∧ v2 ≤ dys v0 v1 ∧ v3 ≤ 23 ∧ v4 ≤ 59 ∧ v5 ≤ 59))) ∧ Below w.heap.size w w' := by
  obtain ⟨R, hR⟩ : ∃ R, decide (1 ≤ v1 ∧ v1 ≤ 12 ∧ 1 ≤ v2 ∧ v2 ≤ dys v0 v1 ∧ v3 ≤ 23 ∧ v4 ≤ 59 ∧ v5 ≤ 59) = R := ⟨_, rfl⟩
  rw [hR]
  have HD := Lib.hid (show ∀ w, Calls Try.prog 42 #[.int .i64 v0, .int .i64 v1] w fun e w' => e = .returned (.int .i64 (dys v0 v1)) ∧ w = w' from fun w => (daysof_any w v0 v1 h0).mono fun _ _ h => ⟨h.1, h.2.symm⟩)
  generalize dys v0 v1 = D at *
  have HR := Lib.hid hR
  clear hR h0
  have HV := Lib.hid (show Whole (w.alloc (.cells #[.int .i64 v0, .int .i64 v1, .int .i64 v2, .int .i64 v3, .int .i64 v4, .int .i64 v5] 40)) w.heap.size #[.int .i64 v0, .int .i64 v1, .int .i64 v2, .int .i64 v3, .int .i64 v4, .int .i64 v5] 40 from Whole.new _ _ _)
  have HG := Lib.hid (show Grew w (w.alloc (.cells #[.int .i64 v0, .int .i64 v1, .int .i64 v2, .int .i64 v3, .int .i64 v4, .int .i64 v5] 40)) none from grew_alloc (grew_refl _ _) _)
  go_enter Try.func40, Try.ntmps40
  go_upto_region 1 with (fail)
  generalize w.alloc (.cells #[.int .i64 v0, .int .i64 v1, .int .i64 v2, .int .i64 v3, .int .i64 v4, .int .i64 v5] 40) = W at *
  obtain ⟨q, hq⟩ : ∃ q, w.heap.size = q := ⟨_, rfl⟩
  rw [hq] at HV ⊢
  have HB := Lib.hid (show Below w.heap.size w W from grew_below HG.out (Nat.le_refl _) (fun _ h => by cases h))
  clear hq HG
  have c0 : W.cell? ⟨q, 0, none⟩ = some (.int .i64 v0) := HV.out.cell 0
  have c1 : W.cell? ⟨q, 1, none⟩ = some (.int .i64 v1) := HV.out.cell 1
  have c2 : W.cell? ⟨q, 2, none⟩ = some (.int .i64 v2) := HV.out.cell 2
  have c3 : W.cell? ⟨q, 3, none⟩ = some (.int .i64 v3) := HV.out.cell 3
  have c4 : W.cell? ⟨q, 4, none⟩ = some (.int .i64 v4) := HV.out.cell 4
  have c5 : W.cell? ⟨q, 5, none⟩ = some (.int .i64 v5) := HV.out.cell 5
  clear HV
  by_cases q0 : v1 < 1
  · obtain rfl : R = false := by rw [← HR.out]; exact decide_eq_false (by omega)
    have b0 : decide (v1 < 1) = true := decide_eq_true q0
    go_wp2_with fail
    go_ret
    exact ⟨rfl, HB.out⟩
  have b0 : decide (v1 < 1) = false := decide_eq_false q0
  by_cases q1 : 12 < v1
  · obtain rfl : R = false := by rw [← HR.out]; exact decide_eq_false (by omega)
    have b1 : decide (12 < v1) = true := decide_eq_true q1
    go_wp2_with fail
    go_ret
    exact ⟨rfl, HB.out⟩
  have b1 : decide (12 < v1) = false := decide_eq_false q1
  by_cases q2 : v2 < 1
  · obtain rfl : R = false := by rw [← HR.out]; exact decide_eq_false (by omega)
    have b2 : decide (v2 < 1) = true := decide_eq_true q2
    go_upto_region 3 with (fail)
    go_quiet (fail)
    go_wp2_with fail
    go_ret
    exact ⟨rfl, below_drewN HB.out _⟩
  have b2 : decide (v2 < 1) = false := decide_eq_false q2
  by_cases q3 : D < v2
  · obtain rfl : R = false := by rw [← HR.out]; exact decide_eq_false (by omega)
    have b3 : decide (D < v2) = true := decide_eq_true q3
    go_upto_region 3 with (fail)
    go_quiet ((go_at_call 42; exact quiet_same (HD.out _)))
    go_wp2_with fail
    go_ret
    exact ⟨rfl, below_drewN HB.out _⟩
  have b3 : decide (D < v2) = false := decide_eq_false q3
  by_cases q4 : 23 < v3
  · obtain rfl : R = false := by rw [← HR.out]; exact decide_eq_false (by omega)
    have bq4 : decide (v3 ≤ 23) = false := decide_eq_false (by omega)
    go_upto_region 3 with (fail)
    go_quiet ((go_at_call 42; exact quiet_same (HD.out _)))
    go_wp2_with fail
    go_ret
    exact ⟨rfl, below_drewN HB.out _⟩
  have bq4 : decide (v3 ≤ 23) = true := decide_eq_true (by omega)
  by_cases q5 : 59 < v4
  · obtain rfl : R = false := by rw [← HR.out]; exact decide_eq_false (by omega)
    have bq5 : decide (v4 ≤ 59) = false := decide_eq_false (by omega)
    go_upto_region 3 with (fail)
    go_quiet ((go_at_call 42; exact quiet_same (HD.out _)))
    go_wp2_with fail
    go_ret
    exact ⟨rfl, below_drewN HB.out _⟩
  have bq5 : decide (v4 ≤ 59) = true := decide_eq_true (by omega)
  by_cases q6 : 59 < v5
  · obtain rfl : R = false := by rw [← HR.out]; exact decide_eq_false (by omega)
    have bq6 : decide (v5 ≤ 59) = false := decide_eq_false (by omega)
    go_upto_region 3 with (fail)
    go_quiet ((go_at_call 42; exact quiet_same (HD.out _)))
    go_wp2_with fail
    go_ret
    exact ⟨rfl, below_drewN HB.out _⟩
  have bq6 : decide (v5 ≤ 59) = true := decide_eq_true (by omega)
  obtain rfl : R = true := by rw [← HR.out]; exact decide_eq_true (by omega)
  go_upto_region 3 with (fail)
  go_quiet ((go_at_call 42; exact quiet_same (HD.out _)))
  go_wp2_with fail
  go_ret
  exact ⟨rfl, below_drewN HB.out _⟩
end Go.Proofs.Ytnegakobammljaa

