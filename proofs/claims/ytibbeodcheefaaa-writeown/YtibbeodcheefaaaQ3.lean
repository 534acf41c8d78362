/- What is wrong with a form itself: the code's answer. -/
import Derived.Test.YtibbeodcheefaaaQ1
import Derived.Laws.ShiftsVar
namespace Go.Proofs.Ytibbeodcheefaaa
open Go.RowKit Fo

set_option maxRecDepth 100000 in
set_option maxHeartbeats 2000000 in
theorem alone2_small (w : World) (s l h t : Int) (hs : s < 1) (A : Option Addr) (n c : Nat) :
    Calls Try.prog 90 #[.agg #[.int .i64 2, .int .i64 s, .int .i64 l, .int .i64 h, .int .i64 t, .slice A n c]] w fun e w' => e = .returned (.int .i64 3) ∧ Grew w w' none := by
  go_enter Try.func90, Try.ntmps90
  go_wp2_with fail
  go_ret
  exact ⟨rfl, grew_alloc (grew_refl _ _) _⟩

set_option maxRecDepth 100000 in
set_option maxHeartbeats 2000000 in
theorem alone2_wide (w : World) (s l h t : Int) (hs : 3 < s) (A : Option Addr) (n c : Nat) :
    Calls Try.prog 90 #[.agg #[.int .i64 2, .int .i64 s, .int .i64 l, .int .i64 h, .int .i64 t, .slice A n c]] w fun e w' => e = .returned (.int .i64 3) ∧ Grew w w' none := by
  go_enter Try.func90, Try.ntmps90
  go_wp2_with fail
  go_ret
  exact ⟨rfl, grew_alloc (grew_refl _ _) _⟩

set_option maxRecDepth 100000 in
set_option maxHeartbeats 2000000 in
theorem alone2_1_span (w : World) (l h t : Int) (hs : ¬ (0 ≤ l ∧ l ≤ h ∧ h ≤ 255)) (A : Option Addr) (n c : Nat) :
    Calls Try.prog 90 #[.agg #[.int .i64 2, .int .i64 1, .int .i64 l, .int .i64 h, .int .i64 t, .slice A n c]] w fun e w' => e = .returned (.int .i64 5) ∧ Grew w w' none := by
  have hsh : Op.shift .shl .i64 1 .i64 8 = pure (.int .i64 256) := by kernel_rfl
  have SP := Lib.hid (fun w => span_any w l h 255)
  rw [decide_eq_false hs] at SP
  clear hs
  go_enter Try.func90, Try.ntmps90
  go_wp2_with fail
  go_quiet ((go_at_call 102; exact quiet_same (SP.out _)))
  go_wp2_with fail
  go_ret
  exact ⟨rfl, grew_drewN (grew_alloc (grew_refl _ _) _) _⟩

set_option maxRecDepth 100000 in
set_option maxHeartbeats 2000000 in
theorem alone2_1_low (w : World) (l h t : Int) (hs : 0 ≤ l ∧ l ≤ h ∧ h ≤ 255) (ht : t < 1) (A : Option Addr) (n c : Nat) :
    Calls Try.prog 90 #[.agg #[.int .i64 2, .int .i64 1, .int .i64 l, .int .i64 h, .int .i64 t, .slice A n c]] w fun e w' => e = .returned (.int .i64 5) ∧ Grew w w' none := by
  have hsh : Op.shift .shl .i64 1 .i64 8 = pure (.int .i64 256) := by kernel_rfl
  have SP := Lib.hid (fun w => span_any w l h 255)
  rw [decide_eq_true hs] at SP
  clear hs
  go_enter Try.func90, Try.ntmps90
  go_wp2_with fail
  go_quiet ((go_at_call 102; exact quiet_same (SP.out _)))
  go_wp2_with fail
  go_ret
  exact ⟨rfl, grew_drewN (grew_alloc (grew_refl _ _) _) _⟩

set_option maxRecDepth 100000 in
set_option maxHeartbeats 2000000 in
theorem alone2_1_high (w : World) (l h t : Int) (hs : 0 ≤ l ∧ l ≤ h ∧ h ≤ 255) (ht : 65536 < t) (A : Option Addr) (n c : Nat) :
    Calls Try.prog 90 #[.agg #[.int .i64 2, .int .i64 1, .int .i64 l, .int .i64 h, .int .i64 t, .slice A n c]] w fun e w' => e = .returned (.int .i64 5) ∧ Grew w w' none := by
  have hsh : Op.shift .shl .i64 1 .i64 8 = pure (.int .i64 256) := by kernel_rfl
  have SP := Lib.hid (fun w => span_any w l h 255)
  rw [decide_eq_true hs] at SP
  clear hs
  have d1 : decide (t < 1) = false := by simp; omega
  go_enter Try.func90, Try.ntmps90
  go_wp2_with fail
  go_quiet ((go_at_call 102; exact quiet_same (SP.out _)))
  go_wp2_with fail
  go_ret
  exact ⟨rfl, grew_drewN (grew_alloc (grew_refl _ _) _) _⟩

set_option maxRecDepth 100000 in
set_option maxHeartbeats 2000000 in
theorem alone2_1_ok (w : World) (l h t : Int) (A : Option Addr) (n c : Nat) (hs : 0 ≤ l ∧ l ≤ h ∧ h ≤ 255) (h1 : 1 ≤ t) (h2 : t ≤ 65536) (hn : ((n : Int) == 1) = true) :
    Calls Try.prog 90 #[.agg #[.int .i64 2, .int .i64 1, .int .i64 l, .int .i64 h, .int .i64 t, .slice A n c]] w fun e w' => e = .returned (.int .i64 0) ∧ Grew w w' none := by
  have hsh : Op.shift .shl .i64 1 .i64 8 = pure (.int .i64 256) := by kernel_rfl
  have SP := Lib.hid (fun w => span_any w l h 255)
  rw [decide_eq_true hs] at SP
  clear hs
  have d1 : decide (t < 1) = false := by simp; omega
  have d2 : decide (65536 < t) = false := by simp; omega
  have HN := Lib.hid hn
  clear hn
  go_enter Try.func90, Try.ntmps90
  go_wp2_with fail
  go_quiet ((go_at_call 102; exact quiet_same (SP.out _)))
  go_wp2_with fail
  refine (count_two _ n).mono ?_
  rintro e w1 ⟨rfl, rfl⟩
  rw [HN.out]
  go_wp2_with fail
  go_ret
  exact ⟨rfl, grew_drewN (grew_alloc (grew_refl _ _) _) _⟩

set_option maxRecDepth 100000 in
set_option maxHeartbeats 2000000 in
theorem alone2_1_many (w : World) (l h t : Int) (A : Option Addr) (n c : Nat) (hs : 0 ≤ l ∧ l ≤ h ∧ h ≤ 255) (h1 : 1 ≤ t) (h2 : t ≤ 65536) (hn : ((n : Int) == 1) = false) :
    Calls Try.prog 90 #[.agg #[.int .i64 2, .int .i64 1, .int .i64 l, .int .i64 h, .int .i64 t, .slice A n c]] w fun e w' => e = .returned (.int .i64 15) ∧ Grew w w' none := by
  have hsh : Op.shift .shl .i64 1 .i64 8 = pure (.int .i64 256) := by kernel_rfl
  have SP := Lib.hid (fun w => span_any w l h 255)
  rw [decide_eq_true hs] at SP
  clear hs
  have d1 : decide (t < 1) = false := by simp; omega
  have d2 : decide (65536 < t) = false := by simp; omega
  have HN := Lib.hid hn
  clear hn
  go_enter Try.func90, Try.ntmps90
  go_wp2_with fail
  go_quiet ((go_at_call 102; exact quiet_same (SP.out _)))
  go_wp2_with fail
  refine (count_two _ n).mono ?_
  rintro e w1 ⟨rfl, rfl⟩
  rw [HN.out]
  go_wp2_with fail
  go_ret
  exact ⟨rfl, grew_drewN (grew_alloc (grew_refl _ _) _) _⟩

set_option maxRecDepth 100000 in
set_option maxHeartbeats 2000000 in
theorem alone2_2_span (w : World) (l h t : Int) (hs : ¬ (0 ≤ l ∧ l ≤ h ∧ h ≤ 65535)) (A : Option Addr) (n c : Nat) :
    Calls Try.prog 90 #[.agg #[.int .i64 2, .int .i64 2, .int .i64 l, .int .i64 h, .int .i64 t, .slice A n c]] w fun e w' => e = .returned (.int .i64 5) ∧ Grew w w' none := by
  have hsh : Op.shift .shl .i64 1 .i64 16 = pure (.int .i64 65536) := by kernel_rfl
  have SP := Lib.hid (fun w => span_any w l h 65535)
  rw [decide_eq_false hs] at SP
  clear hs
  go_enter Try.func90, Try.ntmps90
  go_wp2_with fail
  go_quiet ((go_at_call 102; exact quiet_same (SP.out _)))
  go_wp2_with fail
  go_ret
  exact ⟨rfl, grew_drewN (grew_alloc (grew_refl _ _) _) _⟩

set_option maxRecDepth 100000 in
set_option maxHeartbeats 2000000 in
theorem alone2_2_low (w : World) (l h t : Int) (hs : 0 ≤ l ∧ l ≤ h ∧ h ≤ 65535) (ht : t < 1) (A : Option Addr) (n c : Nat) :
    Calls Try.prog 90 #[.agg #[.int .i64 2, .int .i64 2, .int .i64 l, .int .i64 h, .int .i64 t, .slice A n c]] w fun e w' => e = .returned (.int .i64 5) ∧ Grew w w' none := by
  have hsh : Op.shift .shl .i64 1 .i64 16 = pure (.int .i64 65536) := by kernel_rfl
  have SP := Lib.hid (fun w => span_any w l h 65535)
  rw [decide_eq_true hs] at SP
  clear hs
  go_enter Try.func90, Try.ntmps90
  go_wp2_with fail
  go_quiet ((go_at_call 102; exact quiet_same (SP.out _)))
  go_wp2_with fail
  go_ret
  exact ⟨rfl, grew_drewN (grew_alloc (grew_refl _ _) _) _⟩

set_option maxRecDepth 100000 in
set_option maxHeartbeats 2000000 in
theorem alone2_2_high (w : World) (l h t : Int) (hs : 0 ≤ l ∧ l ≤ h ∧ h ≤ 65535) (ht : 65536 < t) (A : Option Addr) (n c : Nat) :
    Calls Try.prog 90 #[.agg #[.int .i64 2, .int .i64 2, .int .i64 l, .int .i64 h, .int .i64 t, .slice A n c]] w fun e w' => e = .returned (.int .i64 5) ∧ Grew w w' none := by
  have hsh : Op.shift .shl .i64 1 .i64 16 = pure (.int .i64 65536) := by kernel_rfl
  have SP := Lib.hid (fun w => span_any w l h 65535)
  rw [decide_eq_true hs] at SP
  clear hs
  have d1 : decide (t < 1) = false := by simp; omega
  go_enter Try.func90, Try.ntmps90
  go_wp2_with fail
  go_quiet ((go_at_call 102; exact quiet_same (SP.out _)))
  go_wp2_with fail
  go_ret
  exact ⟨rfl, grew_drewN (grew_alloc (grew_refl _ _) _) _⟩

set_option maxRecDepth 100000 in
set_option maxHeartbeats 2000000 in
theorem alone2_2_ok (w : World) (l h t : Int) (A : Option Addr) (n c : Nat) (hs : 0 ≤ l ∧ l ≤ h ∧ h ≤ 65535) (h1 : 1 ≤ t) (h2 : t ≤ 65536) (hn : ((n : Int) == 1) = true) :
    Calls Try.prog 90 #[.agg #[.int .i64 2, .int .i64 2, .int .i64 l, .int .i64 h, .int .i64 t, .slice A n c]] w fun e w' => e = .returned (.int .i64 0) ∧ Grew w w' none := by
  have hsh : Op.shift .shl .i64 1 .i64 16 = pure (.int .i64 65536) := by kernel_rfl
  have SP := Lib.hid (fun w => span_any w l h 65535)
  rw [decide_eq_true hs] at SP
  clear hs
  have d1 : decide (t < 1) = false := by simp; omega
  have d2 : decide (65536 < t) = false := by simp; omega
  have HN := Lib.hid hn
  clear hn
  go_enter Try.func90, Try.ntmps90
  go_wp2_with fail
  go_quiet ((go_at_call 102; exact quiet_same (SP.out _)))
  go_wp2_with fail
  refine (count_two _ n).mono ?_
  rintro e w1 ⟨rfl, rfl⟩
  rw [HN.out]
  go_wp2_with fail
  go_ret
  exact ⟨rfl, grew_drewN (grew_alloc (grew_refl _ _) _) _⟩

set_option maxRecDepth 100000 in
set_option maxHeartbeats 2000000 in
theorem alone2_2_many (w : World) (l h t : Int) (A : Option Addr) (n c : Nat) (hs : 0 ≤ l ∧ l ≤ h ∧ h ≤ 65535) (h1 : 1 ≤ t) (h2 : t ≤ 65536) (hn : ((n : Int) == 1) = false) :
    Calls Try.prog 90 #[.agg #[.int .i64 2, .int .i64 2, .int .i64 l, .int .i64 h, .int .i64 t, .slice A n c]] w fun e w' => e = .returned (.int .i64 15) ∧ Grew w w' none := by
  have hsh : Op.shift .shl .i64 1 .i64 16 = pure (.int .i64 65536) := by kernel_rfl
  have SP := Lib.hid (fun w => span_any w l h 65535)
  rw [decide_eq_true hs] at SP
  clear hs
  have d1 : decide (t < 1) = false := by simp; omega
  have d2 : decide (65536 < t) = false := by simp; omega
  have HN := Lib.hid hn
  clear hn
  go_enter Try.func90, Try.ntmps90
  go_wp2_with fail
  go_quiet ((go_at_call 102; exact quiet_same (SP.out _)))
  go_wp2_with fail
  refine (count_two _ n).mono ?_
  rintro e w1 ⟨rfl, rfl⟩
  rw [HN.out]
  go_wp2_with fail
  go_ret
  exact ⟨rfl, grew_drewN (grew_alloc (grew_refl _ _) _) _⟩

set_option maxRecDepth 100000 in
set_option maxHeartbeats 2000000 in
theorem alone2_3_span (w : World) (l h t : Int) (hs : ¬ (0 ≤ l ∧ l ≤ h ∧ h ≤ 16777215)) (A : Option Addr) (n c : Nat) :
    Calls Try.prog 90 #[.agg #[.int .i64 2, .int .i64 3, .int .i64 l, .int .i64 h, .int .i64 t, .slice A n c]] w fun e w' => e = .returned (.int .i64 5) ∧ Grew w w' none := by
  have hsh : Op.shift .shl .i64 1 .i64 24 = pure (.int .i64 16777216) := by kernel_rfl
  have SP := Lib.hid (fun w => span_any w l h 16777215)
  rw [decide_eq_false hs] at SP
  clear hs
  go_enter Try.func90, Try.ntmps90
  go_wp2_with fail
  go_quiet ((go_at_call 102; exact quiet_same (SP.out _)))
  go_wp2_with fail
  go_ret
  exact ⟨rfl, grew_drewN (grew_alloc (grew_refl _ _) _) _⟩

set_option maxRecDepth 100000 in
set_option maxHeartbeats 2000000 in
theorem alone2_3_low (w : World) (l h t : Int) (hs : 0 ≤ l ∧ l ≤ h ∧ h ≤ 16777215) (ht : t < 1) (A : Option Addr) (n c : Nat) :
    Calls Try.prog 90 #[.agg #[.int .i64 2, .int .i64 3, .int .i64 l, .int .i64 h, .int .i64 t, .slice A n c]] w fun e w' => e = .returned (.int .i64 5) ∧ Grew w w' none := by
  have hsh : Op.shift .shl .i64 1 .i64 24 = pure (.int .i64 16777216) := by kernel_rfl
  have SP := Lib.hid (fun w => span_any w l h 16777215)
  rw [decide_eq_true hs] at SP
  clear hs
  go_enter Try.func90, Try.ntmps90
  go_wp2_with fail
  go_quiet ((go_at_call 102; exact quiet_same (SP.out _)))
  go_wp2_with fail
  go_ret
  exact ⟨rfl, grew_drewN (grew_alloc (grew_refl _ _) _) _⟩

set_option maxRecDepth 100000 in
set_option maxHeartbeats 2000000 in
theorem alone2_3_high (w : World) (l h t : Int) (hs : 0 ≤ l ∧ l ≤ h ∧ h ≤ 16777215) (ht : 65536 < t) (A : Option Addr) (n c : Nat) :
    Calls Try.prog 90 #[.agg #[.int .i64 2, .int .i64 3, .int .i64 l, .int .i64 h, .int .i64 t, .slice A n c]] w fun e w' => e = .returned (.int .i64 5) ∧ Grew w w' none := by
  have hsh : Op.shift .shl .i64 1 .i64 24 = pure (.int .i64 16777216) := by kernel_rfl
  have SP := Lib.hid (fun w => span_any w l h 16777215)
  rw [decide_eq_true hs] at SP
  clear hs
  have d1 : decide (t < 1) = false := by simp; omega
  go_enter Try.func90, Try.ntmps90
  go_wp2_with fail
  go_quiet ((go_at_call 102; exact quiet_same (SP.out _)))
  go_wp2_with fail
  go_ret
  exact ⟨rfl, grew_drewN (grew_alloc (grew_refl _ _) _) _⟩

set_option maxRecDepth 100000 in
set_option maxHeartbeats 2000000 in
theorem alone2_3_ok (w : World) (l h t : Int) (A : Option Addr) (n c : Nat) (hs : 0 ≤ l ∧ l ≤ h ∧ h ≤ 16777215) (h1 : 1 ≤ t) (h2 : t ≤ 65536) (hn : ((n : Int) == 1) = true) :
    Calls Try.prog 90 #[.agg #[.int .i64 2, .int .i64 3, .int .i64 l, .int .i64 h, .int .i64 t, .slice A n c]] w fun e w' => e = .returned (.int .i64 0) ∧ Grew w w' none := by
  have hsh : Op.shift .shl .i64 1 .i64 24 = pure (.int .i64 16777216) := by kernel_rfl
  have SP := Lib.hid (fun w => span_any w l h 16777215)
  rw [decide_eq_true hs] at SP
  clear hs
  have d1 : decide (t < 1) = false := by simp; omega
  have d2 : decide (65536 < t) = false := by simp; omega
  have HN := Lib.hid hn
  clear hn
  go_enter Try.func90, Try.ntmps90
  go_wp2_with fail
  go_quiet ((go_at_call 102; exact quiet_same (SP.out _)))
  go_wp2_with fail
  refine (count_two _ n).mono ?_
  rintro e w1 ⟨rfl, rfl⟩
  rw [HN.out]
  go_wp2_with fail
  go_ret
  exact ⟨rfl, grew_drewN (grew_alloc (grew_refl _ _) _) _⟩

set_option maxRecDepth 100000 in
set_option maxHeartbeats 2000000 in
theorem alone2_3_many (w : World) (l h t : Int) (A : Option Addr) (n c : Nat) (hs : 0 ≤ l ∧ l ≤ h ∧ h ≤ 16777215) (h1 : 1 ≤ t) (h2 : t ≤ 65536) (hn : ((n : Int) == 1) = false) :
    Calls Try.prog 90 #[.agg #[.int .i64 2, .int .i64 3, .int .i64 l, .int .i64 h, .int .i64 t, .slice A n c]] w fun e w' => e = .returned (.int .i64 15) ∧ Grew w w' none := by
  have hsh : Op.shift .shl .i64 1 .i64 24 = pure (.int .i64 16777216) := by kernel_rfl
  have SP := Lib.hid (fun w => span_any w l h 16777215)
  rw [decide_eq_true hs] at SP
  clear hs
  have d1 : decide (t < 1) = false := by simp; omega
  have d2 : decide (65536 < t) = false := by simp; omega
  have HN := Lib.hid hn
  clear hn
  go_enter Try.func90, Try.ntmps90
  go_wp2_with fail
  go_quiet ((go_at_call 102; exact quiet_same (SP.out _)))
  go_wp2_with fail
  refine (count_two _ n).mono ?_
  rintro e w1 ⟨rfl, rfl⟩
  rw [HN.out]
  go_wp2_with fail
  go_ret
  exact ⟨rfl, grew_drewN (grew_alloc (grew_refl _ _) _) _⟩

end Go.Proofs.Ytibbeodcheefaaa

