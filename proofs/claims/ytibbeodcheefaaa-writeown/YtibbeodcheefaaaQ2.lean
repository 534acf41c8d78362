/- What is wrong with a form itself: the code's answer. -/
import Derived.Test.YtibbeodcheefaaaQ1
import Derived.Laws.ShiftsVar
namespace Go.Proofs.Ytibbeodcheefaaa
open Go.RowKit Fo

set_option maxRecDepth 100000 in
set_option maxHeartbeats 2000000 in
theorem alone0_ok (w : World) (s l h t : Int) (hs : (s = 1 ∨ s = 2 ∨ s = 3 ∨ s = 4 ∨ s = 8)) (A : Option Addr) (n c : Nat) :
    Calls Try.prog 90 #[.agg #[.int .i64 0, .int .i64 s, .int .i64 l, .int .i64 h, .int .i64 t, .slice A n c]] w fun e w' => e = .returned (.int .i64 0) ∧ Grew w w' none := by
  go_enter Try.func90, Try.ntmps90
  go_wp2_with fail
  refine (numsize_any _ s).mono ?_
  rintro e w1 ⟨rfl, rfl⟩
  rw [decide_eq_true hs]
  clear hs
  go_wp2_with fail
  go_ret
  exact ⟨rfl, grew_alloc (grew_refl _ _) _⟩

set_option maxRecDepth 100000 in
set_option maxHeartbeats 2000000 in
theorem alone0_no (w : World) (s l h t : Int) (hs : ¬ (s = 1 ∨ s = 2 ∨ s = 3 ∨ s = 4 ∨ s = 8)) (A : Option Addr) (n c : Nat) :
    Calls Try.prog 90 #[.agg #[.int .i64 0, .int .i64 s, .int .i64 l, .int .i64 h, .int .i64 t, .slice A n c]] w fun e w' => e = .returned (.int .i64 3) ∧ Grew w w' none := by
  go_enter Try.func90, Try.ntmps90
  go_wp2_with fail
  refine (numsize_any _ s).mono ?_
  rintro e w1 ⟨rfl, rfl⟩
  rw [decide_eq_false hs]
  clear hs
  go_wp2_with fail
  go_ret
  exact ⟨rfl, grew_alloc (grew_refl _ _) _⟩

set_option maxRecDepth 100000 in
set_option maxHeartbeats 2000000 in
theorem alone4_ok (w : World) (s l h t : Int) (hs : (0 ≤ l ∧ l ≤ h ∧ h ≤ 16777215)) (A : Option Addr) (n c : Nat) :
    Calls Try.prog 90 #[.agg #[.int .i64 4, .int .i64 s, .int .i64 l, .int .i64 h, .int .i64 t, .slice A n c]] w fun e w' => e = .returned (.int .i64 0) ∧ Grew w w' none := by
  have HS := Lib.hid hs
  clear hs
  go_enter Try.func90, Try.ntmps90
  go_wp2_with fail
  refine (span_any _ l h 16777215).mono ?_
  rintro e w1 ⟨rfl, rfl⟩
  rw [decide_eq_true HS.out]
  go_wp2_with fail
  go_ret
  exact ⟨rfl, grew_alloc (grew_refl _ _) _⟩

set_option maxRecDepth 100000 in
set_option maxHeartbeats 2000000 in
theorem alone4_no (w : World) (s l h t : Int) (hs : ¬ (0 ≤ l ∧ l ≤ h ∧ h ≤ 16777215)) (A : Option Addr) (n c : Nat) :
    Calls Try.prog 90 #[.agg #[.int .i64 4, .int .i64 s, .int .i64 l, .int .i64 h, .int .i64 t, .slice A n c]] w fun e w' => e = .returned (.int .i64 5) ∧ Grew w w' none := by
  have HS := Lib.hid hs
  clear hs
  go_enter Try.func90, Try.ntmps90
  go_wp2_with fail
  refine (span_any _ l h 16777215).mono ?_
  rintro e w1 ⟨rfl, rfl⟩
  rw [decide_eq_false HS.out]
  go_wp2_with fail
  go_ret
  exact ⟨rfl, grew_alloc (grew_refl _ _) _⟩

set_option maxRecDepth 100000 in
set_option maxHeartbeats 2000000 in
theorem alone5_ok (w : World) (s l h t : Int) (hs : (0 ≤ l ∧ l ≤ 16777215)) (A : Option Addr) (n c : Nat) :
    Calls Try.prog 90 #[.agg #[.int .i64 5, .int .i64 s, .int .i64 l, .int .i64 h, .int .i64 t, .slice A n c]] w fun e w' => e = .returned (.int .i64 0) ∧ Grew w w' none := by
  have HS := Lib.hid hs
  clear hs
  go_enter Try.func90, Try.ntmps90
  go_wp2_with fail
  refine (span_any _ l l 16777215).mono ?_
  rintro e w1 ⟨rfl, rfl⟩
  rw [decide_eq_true (show (0 ≤ l ∧ l ≤ l ∧ l ≤ 16777215) by have := HS.out; omega)]
  go_wp2_with fail
  go_ret
  exact ⟨rfl, grew_alloc (grew_refl _ _) _⟩

set_option maxRecDepth 100000 in
set_option maxHeartbeats 2000000 in
theorem alone5_no (w : World) (s l h t : Int) (hs : ¬ (0 ≤ l ∧ l ≤ 16777215)) (A : Option Addr) (n c : Nat) :
    Calls Try.prog 90 #[.agg #[.int .i64 5, .int .i64 s, .int .i64 l, .int .i64 h, .int .i64 t, .slice A n c]] w fun e w' => e = .returned (.int .i64 5) ∧ Grew w w' none := by
  have HS := Lib.hid hs
  clear hs
  go_enter Try.func90, Try.ntmps90
  go_wp2_with fail
  refine (span_any _ l l 16777215).mono ?_
  rintro e w1 ⟨rfl, rfl⟩
  rw [decide_eq_false (show ¬ (0 ≤ l ∧ l ≤ l ∧ l ≤ 16777215) by have := HS.out; omega)]
  go_wp2_with fail
  go_ret
  exact ⟨rfl, grew_alloc (grew_refl _ _) _⟩

set_option maxRecDepth 100000 in
set_option maxHeartbeats 2000000 in
theorem alone3_ok (w : World) (s l h t : Int) (A : Option Addr) (n c : Nat) (hs : (n ≤ 32)) :
    Calls Try.prog 90 #[.agg #[.int .i64 3, .int .i64 s, .int .i64 l, .int .i64 h, .int .i64 t, .slice A n c]] w fun e w' => e = .returned (.int .i64 0) ∧ Grew w w' none := by
  have HS := Lib.hid hs
  clear hs
  go_enter Try.func90, Try.ntmps90
  go_wp2_with fail
  refine (count_three _ n).mono ?_
  rintro e w1 ⟨rfl, rfl⟩
  rw [decide_eq_true (show ((n : Int) ≤ 32) by have := HS.out; omega)]
  go_wp2_with fail
  go_ret
  exact ⟨rfl, grew_alloc (grew_refl _ _) _⟩

set_option maxRecDepth 100000 in
set_option maxHeartbeats 2000000 in
theorem alone3_no (w : World) (s l h t : Int) (A : Option Addr) (n c : Nat) (hs : ¬ (n ≤ 32)) :
    Calls Try.prog 90 #[.agg #[.int .i64 3, .int .i64 s, .int .i64 l, .int .i64 h, .int .i64 t, .slice A n c]] w fun e w' => e = .returned (.int .i64 15) ∧ Grew w w' none := by
  have HS := Lib.hid hs
  clear hs
  go_enter Try.func90, Try.ntmps90
  go_wp2_with fail
  refine (count_three _ n).mono ?_
  rintro e w1 ⟨rfl, rfl⟩
  rw [decide_eq_false (show ¬ ((n : Int) ≤ 32) by have := HS.out; omega)]
  go_wp2_with fail
  go_ret
  exact ⟨rfl, grew_alloc (grew_refl _ _) _⟩

set_option maxRecDepth 100000 in
set_option maxHeartbeats 2000000 in
theorem aloneX (w : World) (k s l h t : Int) (h0 : (k == 0) = false) (h1 : (k == 1) = false) (h2 : (k == 2) = false) (h3 : (k == 3) = false) (h4 : (k == 4) = false) (h5 : (k == 5) = false) (A : Option Addr) (n c : Nat) :
    Calls Try.prog 90 #[.agg #[.int .i64 k, .int .i64 s, .int .i64 l, .int .i64 h, .int .i64 t, .slice A n c]] w fun e w' => e = .returned (.int .i64 2) ∧ Grew w w' none := by
  go_enter Try.func90, Try.ntmps90
  go_wp2_with fail
  go_ret
  exact ⟨rfl, grew_alloc (grew_refl _ _) _⟩

set_option maxRecDepth 100000 in
set_option maxHeartbeats 2000000 in
theorem alone1_small (w : World) (s l h t : Int) (hs : s < 1) (A : Option Addr) (n c : Nat) :
    Calls Try.prog 90 #[.agg #[.int .i64 1, .int .i64 s, .int .i64 l, .int .i64 h, .int .i64 t, .slice A n c]] w fun e w' => e = .returned (.int .i64 3) ∧ Grew w w' none := by
  go_enter Try.func90, Try.ntmps90
  go_wp2_with fail
  go_ret
  exact ⟨rfl, grew_alloc (grew_refl _ _) _⟩

set_option maxRecDepth 100000 in
set_option maxHeartbeats 2000000 in
theorem alone1_wide (w : World) (s l h t : Int) (hs : 3 < s) (A : Option Addr) (n c : Nat) :
    Calls Try.prog 90 #[.agg #[.int .i64 1, .int .i64 s, .int .i64 l, .int .i64 h, .int .i64 t, .slice A n c]] w fun e w' => e = .returned (.int .i64 3) ∧ Grew w w' none := by
  go_enter Try.func90, Try.ntmps90
  go_wp2_with fail
  go_ret
  exact ⟨rfl, grew_alloc (grew_refl _ _) _⟩

set_option maxRecDepth 100000 in
set_option maxHeartbeats 2000000 in
theorem alone1_1_span (w : World) (l h t : Int) (hs : ¬ (0 ≤ l ∧ l ≤ h ∧ h ≤ 255)) (A : Option Addr) (n c : Nat) :
    Calls Try.prog 90 #[.agg #[.int .i64 1, .int .i64 1, .int .i64 l, .int .i64 h, .int .i64 t, .slice A n c]] w fun e w' => e = .returned (.int .i64 5) ∧ Grew w w' none := by
  have hsh : Op.shift .shl .i64 1 .i64 8 = pure (.int .i64 256) := by kernel_rfl
  have SP := Lib.hid (fun w => span_any w l h 255)
  rw [decide_eq_false hs] at SP
  clear hs
  go_enter Try.func90, Try.ntmps90
  go_wp2_with fail
  go_quiet ((go_at_call 102; exact quiet_same (SP.out _)))
  go_wp2_with fail
  go_ret
  exact ⟨rfl, grew_drewN (grew_alloc (grew_refl _ _) _) _⟩

set_option maxRecDepth 100000 in
set_option maxHeartbeats 2000000 in
theorem alone1_1_low (w : World) (l h t : Int) (hs : 0 ≤ l ∧ l ≤ h ∧ h ≤ 255) (ht : t < 1) (A : Option Addr) (n c : Nat) :
    Calls Try.prog 90 #[.agg #[.int .i64 1, .int .i64 1, .int .i64 l, .int .i64 h, .int .i64 t, .slice A n c]] w fun e w' => e = .returned (.int .i64 5) ∧ Grew w w' none := by
  have hsh : Op.shift .shl .i64 1 .i64 8 = pure (.int .i64 256) := by kernel_rfl
  have SP := Lib.hid (fun w => span_any w l h 255)
  rw [decide_eq_true hs] at SP
  clear hs
  go_enter Try.func90, Try.ntmps90
  go_wp2_with fail
  go_quiet ((go_at_call 102; exact quiet_same (SP.out _)))
  go_wp2_with fail
  go_ret
  exact ⟨rfl, grew_drewN (grew_alloc (grew_refl _ _) _) _⟩

set_option maxRecDepth 100000 in
set_option maxHeartbeats 2000000 in
theorem alone1_1_high (w : World) (l h t : Int) (hs : 0 ≤ l ∧ l ≤ h ∧ h ≤ 255) (ht : 65536 < t) (A : Option Addr) (n c : Nat) :
    Calls Try.prog 90 #[.agg #[.int .i64 1, .int .i64 1, .int .i64 l, .int .i64 h, .int .i64 t, .slice A n c]] w fun e w' => e = .returned (.int .i64 5) ∧ Grew w w' none := by
  have hsh : Op.shift .shl .i64 1 .i64 8 = pure (.int .i64 256) := by kernel_rfl
  have SP := Lib.hid (fun w => span_any w l h 255)
  rw [decide_eq_true hs] at SP
  clear hs
  have d1 : decide (t < 1) = false := by simp; omega
  go_enter Try.func90, Try.ntmps90
  go_wp2_with fail
  go_quiet ((go_at_call 102; exact quiet_same (SP.out _)))
  go_wp2_with fail
  go_ret
  exact ⟨rfl, grew_drewN (grew_alloc (grew_refl _ _) _) _⟩

set_option maxRecDepth 100000 in
set_option maxHeartbeats 2000000 in
theorem alone1_1_ok (w : World) (l h t : Int) (hs : 0 ≤ l ∧ l ≤ h ∧ h ≤ 255) (h1 : 1 ≤ t) (h2 : t ≤ 65536) (A : Option Addr) (n c : Nat) :
    Calls Try.prog 90 #[.agg #[.int .i64 1, .int .i64 1, .int .i64 l, .int .i64 h, .int .i64 t, .slice A n c]] w fun e w' => e = .returned (.int .i64 0) ∧ Grew w w' none := by
  have hsh : Op.shift .shl .i64 1 .i64 8 = pure (.int .i64 256) := by kernel_rfl
  have SP := Lib.hid (fun w => span_any w l h 255)
  rw [decide_eq_true hs] at SP
  clear hs
  have d1 : decide (t < 1) = false := by simp; omega
  have d2 : decide (65536 < t) = false := by simp; omega
  go_enter Try.func90, Try.ntmps90
  go_wp2_with fail
  go_quiet ((go_at_call 102; exact quiet_same (SP.out _)))
  go_wp2_with fail
  refine (count_one _ n).mono ?_
  rintro e w1 ⟨rfl, rfl⟩
  go_wp2_with fail
  go_ret
  exact ⟨rfl, grew_drewN (grew_alloc (grew_refl _ _) _) _⟩

set_option maxRecDepth 100000 in
set_option maxHeartbeats 2000000 in
theorem alone1_2_span (w : World) (l h t : Int) (hs : ¬ (0 ≤ l ∧ l ≤ h ∧ h ≤ 65535)) (A : Option Addr) (n c : Nat) :
    Calls Try.prog 90 #[.agg #[.int .i64 1, .int .i64 2, .int .i64 l, .int .i64 h, .int .i64 t, .slice A n c]] w fun e w' => e = .returned (.int .i64 5) ∧ Grew w w' none := by
  have hsh : Op.shift .shl .i64 1 .i64 16 = pure (.int .i64 65536) := by kernel_rfl
  have SP := Lib.hid (fun w => span_any w l h 65535)
  rw [decide_eq_false hs] at SP
  clear hs
  go_enter Try.func90, Try.ntmps90
  go_wp2_with fail
  go_quiet ((go_at_call 102; exact quiet_same (SP.out _)))
  go_wp2_with fail
  go_ret
  exact ⟨rfl, grew_drewN (grew_alloc (grew_refl _ _) _) _⟩

set_option maxRecDepth 100000 in
set_option maxHeartbeats 2000000 in
theorem alone1_2_low (w : World) (l h t : Int) (hs : 0 ≤ l ∧ l ≤ h ∧ h ≤ 65535) (ht : t < 1) (A : Option Addr) (n c : Nat) :
    Calls Try.prog 90 #[.agg #[.int .i64 1, .int .i64 2, .int .i64 l, .int .i64 h, .int .i64 t, .slice A n c]] w fun e w' => e = .returned (.int .i64 5) ∧ Grew w w' none := by
  have hsh : Op.shift .shl .i64 1 .i64 16 = pure (.int .i64 65536) := by kernel_rfl
  have SP := Lib.hid (fun w => span_any w l h 65535)
  rw [decide_eq_true hs] at SP
  clear hs
  go_enter Try.func90, Try.ntmps90
  go_wp2_with fail
  go_quiet ((go_at_call 102; exact quiet_same (SP.out _)))
  go_wp2_with fail
  go_ret
  exact ⟨rfl, grew_drewN (grew_alloc (grew_refl _ _) _) _⟩

set_option maxRecDepth 100000 in
set_option maxHeartbeats 2000000 in
theorem alone1_2_high (w : World) (l h t : Int) (hs : 0 ≤ l ∧ l ≤ h ∧ h ≤ 65535) (ht : 65536 < t) (A : Option Addr) (n c : Nat) :
    Calls Try.prog 90 #[.agg #[.int .i64 1, .int .i64 2, .int .i64 l, .int .i64 h, .int .i64 t, .slice A n c]] w fun e w' => e = .returned (.int .i64 5) ∧ Grew w w' none := by
  have hsh : Op.shift .shl .i64 1 .i64 16 = pure (.int .i64 65536) := by kernel_rfl
  have SP := Lib.hid (fun w => span_any w l h 65535)
  rw [decide_eq_true hs] at SP
  clear hs
  have d1 : decide (t < 1) = false := by simp; omega
  go_enter Try.func90, Try.ntmps90
  go_wp2_with fail
  go_quiet ((go_at_call 102; exact quiet_same (SP.out _)))
  go_wp2_with fail
  go_ret
  exact ⟨rfl, grew_drewN (grew_alloc (grew_refl _ _) _) _⟩

set_option maxRecDepth 100000 in
set_option maxHeartbeats 2000000 in
theorem alone1_2_ok (w : World) (l h t : Int) (hs : 0 ≤ l ∧ l ≤ h ∧ h ≤ 65535) (h1 : 1 ≤ t) (h2 : t ≤ 65536) (A : Option Addr) (n c : Nat) :
    Calls Try.prog 90 #[.agg #[.int .i64 1, .int .i64 2, .int .i64 l, .int .i64 h, .int .i64 t, .slice A n c]] w fun e w' => e = .returned (.int .i64 0) ∧ Grew w w' none := by
  have hsh : Op.shift .shl .i64 1 .i64 16 = pure (.int .i64 65536) := by kernel_rfl
  have SP := Lib.hid (fun w => span_any w l h 65535)
  rw [decide_eq_true hs] at SP
  clear hs
  have d1 : decide (t < 1) = false := by simp; omega
  have d2 : decide (65536 < t) = false := by simp; omega
  go_enter Try.func90, Try.ntmps90
  go_wp2_with fail
  go_quiet ((go_at_call 102; exact quiet_same (SP.out _)))
  go_wp2_with fail
  refine (count_one _ n).mono ?_
  rintro e w1 ⟨rfl, rfl⟩
  go_wp2_with fail
  go_ret
  exact ⟨rfl, grew_drewN (grew_alloc (grew_refl _ _) _) _⟩

set_option maxRecDepth 100000 in
set_option maxHeartbeats 2000000 in
theorem alone1_3_span (w : World) (l h t : Int) (hs : ¬ (0 ≤ l ∧ l ≤ h ∧ h ≤ 16777215)) (A : Option Addr) (n c : Nat) :
    Calls Try.prog 90 #[.agg #[.int .i64 1, .int .i64 3, .int .i64 l, .int .i64 h, .int .i64 t, .slice A n c]] w fun e w' => e = .returned (.int .i64 5) ∧ Grew w w' none := by
  have hsh : Op.shift .shl .i64 1 .i64 24 = pure (.int .i64 16777216) := by kernel_rfl
  have SP := Lib.hid (fun w => span_any w l h 16777215)
  rw [decide_eq_false hs] at SP
  clear hs
  go_enter Try.func90, Try.ntmps90
  go_wp2_with fail
  go_quiet ((go_at_call 102; exact quiet_same (SP.out _)))
  go_wp2_with fail
  go_ret
  exact ⟨rfl, grew_drewN (grew_alloc (grew_refl _ _) _) _⟩

set_option maxRecDepth 100000 in
set_option maxHeartbeats 2000000 in
theorem alone1_3_low (w : World) (l h t : Int) (hs : 0 ≤ l ∧ l ≤ h ∧ h ≤ 16777215) (ht : t < 1) (A : Option Addr) (n c : Nat) :
    Calls Try.prog 90 #[.agg #[.int .i64 1, .int .i64 3, .int .i64 l, .int .i64 h, .int .i64 t, .slice A n c]] w fun e w' => e = .returned (.int .i64 5) ∧ Grew w w' none := by
  have hsh : Op.shift .shl .i64 1 .i64 24 = pure (.int .i64 16777216) := by kernel_rfl
  have SP := Lib.hid (fun w => span_any w l h 16777215)
  rw [decide_eq_true hs] at SP
  clear hs
  go_enter Try.func90, Try.ntmps90
  go_wp2_with fail
  go_quiet ((go_at_call 102; exact quiet_same (SP.out _)))
  go_wp2_with fail
  go_ret
  exact ⟨rfl, grew_drewN (grew_alloc (grew_refl _ _) _) _⟩

set_option maxRecDepth 100000 in
set_option maxHeartbeats 2000000 in
theorem alone1_3_high (w : World) (l h t : Int) (hs : 0 ≤ l ∧ l ≤ h ∧ h ≤ 16777215) (ht : 65536 < t) (A : Option Addr) (n c : Nat) :
    Calls Try.prog 90 #[.agg #[.int .i64 1, .int .i64 3, .int .i64 l, .int .i64 h, .int .i64 t, .slice A n c]] w fun e w' => e = .returned (.int .i64 5) ∧ Grew w w' none := by
  have hsh : Op.shift .shl .i64 1 .i64 24 = pure (.int .i64 16777216) := by kernel_rfl
  have SP := Lib.hid (fun w => span_any w l h 16777215)
  rw [decide_eq_true hs] at SP
  clear hs
  have d1 : decide (t < 1) = false := by simp; omega
  go_enter Try.func90, Try.ntmps90
  go_wp2_with fail
  go_quiet ((go_at_call 102; exact quiet_same (SP.out _)))
  go_wp2_with fail
  go_ret
  exact ⟨rfl, grew_drewN (grew_alloc (grew_refl _ _) _) _⟩

set_option maxRecDepth 100000 in
set_option maxHeartbeats 2000000 in
theorem alone1_3_ok (w : World) (l h t : Int) (hs : 0 ≤ l ∧ l ≤ h ∧ h ≤ 16777215) (h1 : 1 ≤ t) (h2 : t ≤ 65536) (A : Option Addr) (n c : Nat) :
    Calls Try.prog 90 #[.agg #[.int .i64 1, .int .i64 3, .int .i64 l, .int .i64 h, .int .i64 t, .slice A n c]] w fun e w' => e = .returned (.int .i64 0) ∧ Grew w w' none := by
  have hsh : Op.shift .shl .i64 1 .i64 24 = pure (.int .i64 16777216) := by kernel_rfl
  have SP := Lib.hid (fun w => span_any w l h 16777215)
  rw [decide_eq_true hs] at SP
  clear hs
  have d1 : decide (t < 1) = false := by simp; omega
  have d2 : decide (65536 < t) = false := by simp; omega
  go_enter Try.func90, Try.ntmps90
  go_wp2_with fail
  go_quiet ((go_at_call 102; exact quiet_same (SP.out _)))
  go_wp2_with fail
  refine (count_one _ n).mono ?_
  rintro e w1 ⟨rfl, rfl⟩
  go_wp2_with fail
  go_ret
  exact ⟨rfl, grew_drewN (grew_alloc (grew_refl _ _) _) _⟩

end Go.Proofs.Ytibbeodcheefaaa

