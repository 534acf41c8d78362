/- What is wrong with a form itself: the code's answer. -/
import Derived.Test.YtdamjbngopfpkaaFl
namespace Go.Proofs.Ytdamjbngopfpkaa
open Go.RowKit Fo

theorem numsize_any (w : World) (s : Int) :
    Calls Try.prog 61 #[.int .i64 s] w fun e w' => e = .returned (.bool (decide (s = 1 ∨ s = 2 ∨ s = 3 ∨ s = 4 ∨ s = 8))) ∧ w = w' := by
  have key : s = 1 ∨ s = 2 ∨ s = 3 ∨ s = 4 ∨ s = 8 ∨ ((s == 1) = false ∧ (s == 2) = false ∧ (s == 3) = false ∧ (s == 4) = false ∧ (s == 8) = false ∧ ¬ (s = 1 ∨ s = 2 ∨ s = 3 ∨ s = 4 ∨ s = 8)) := by
    by_cases h : s = 1 ∨ s = 2 ∨ s = 3 ∨ s = 4 ∨ s = 8
    · omega
    · exact .inr (.inr (.inr (.inr (.inr ⟨ne_beq (by omega), ne_beq (by omega), ne_beq (by omega), ne_beq (by omega), ne_beq (by omega), h⟩))))
  rcases key with rfl | rfl | rfl | rfl | rfl | ⟨h1, h2, h3, h4, h8, hn⟩
  case inr.inr.inr.inr.inr =>
    rw [decide_eq_false hn]
    clear hn
    go_enter Try.func61, Try.ntmps61
    go_wp2_with fail
    go_ret
    exact ⟨rfl, rfl⟩
  all_goals
    go_enter Try.func61, Try.ntmps61
    go_wp2_with fail
    go_ret
    exact ⟨rfl, rfl⟩

theorem span_any (w : World) (l h m : Int) :
    Calls Try.prog 62 #[.int .i64 l, .int .i64 h, .int .i64 m] w fun e w' => e = .returned (.bool (decide (0 ≤ l ∧ l ≤ h ∧ h ≤ m))) ∧ w = w' := by
  by_cases h0 : 0 ≤ l
  · by_cases h1 : l ≤ h
    · have e : decide (0 ≤ l ∧ l ≤ h ∧ h ≤ m) = decide (h ≤ m) := by simp [h0, h1]
      rw [e]
      clear e
      go_enter Try.func62, Try.ntmps62
      go_wp2_with fail
      go_ret
      exact ⟨rfl, rfl⟩
    · have e : decide (0 ≤ l ∧ l ≤ h ∧ h ≤ m) = false := by simp [h1]
      rw [e]
      clear e
      go_enter Try.func62, Try.ntmps62
      go_wp2_with fail
      go_ret
      exact ⟨rfl, rfl⟩
  · have e : decide (0 ≤ l ∧ l ≤ h ∧ h ≤ m) = false := by simp [h0]
    rw [e]
    clear e
    go_enter Try.func62, Try.ntmps62
    go_wp2_with fail
    go_ret
    exact ⟨rfl, rfl⟩

theorem count_one (w : World) (n : Int) :
    Calls Try.prog 63 #[.int .i64 1, .int .i64 n] w fun e w' => e = .returned (.bool true) ∧ w = w' := by
  go_enter Try.func63, Try.ntmps63
  go_wp2_with fail
  go_ret
  exact ⟨rfl, rfl⟩
theorem count_two (w : World) (n : Int) :
    Calls Try.prog 63 #[.int .i64 2, .int .i64 n] w fun e w' => e = .returned (.bool (n == 1)) ∧ w = w' := by
  go_enter Try.func63, Try.ntmps63
  go_wp2_with fail
  go_ret
  exact ⟨rfl, rfl⟩
theorem count_three (w : World) (n : Int) :
    Calls Try.prog 63 #[.int .i64 3, .int .i64 n] w fun e w' => e = .returned (.bool (decide (n ≤ 32))) ∧ w = w' := by
  go_enter Try.func63, Try.ntmps63
  go_wp2_with fail
  go_ret
  exact ⟨rfl, rfl⟩

end Go.Proofs.Ytdamjbngopfpkaa

