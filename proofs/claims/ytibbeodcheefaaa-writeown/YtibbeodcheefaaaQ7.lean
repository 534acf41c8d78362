/- What is wrong with a form itself: the document's answer. -/
import Derived.Test.YtibbeodcheefaaaQ5
namespace Go.Proofs.Ytibbeodcheefaaa
open Go.RowKit Fo

set_option maxRecDepth 100000 in
set_option maxHeartbeats 2000000 in
theorem own2_small (w : World) (s l h t : Int) (A : Option Addr) (n c : Nat) (hs : s < 1) :
    Calls Try.prog 45 #[.agg #[.int .i64 2, .int .i64 s, .int .i64 l, .int .i64 h, .int .i64 t, .slice A n c]] w fun e w' => e = .returned (.int .i64 3) ∧ Grew w w' none := by
  go_enter Try.func45, Try.ntmps45
  go_wp2_with fail
  go_ret
  exact ⟨rfl, grew_alloc (grew_refl _ _) _⟩

set_option maxRecDepth 100000 in
set_option maxHeartbeats 2000000 in
theorem own2_wide (w : World) (s l h t : Int) (A : Option Addr) (n c : Nat) (hs : 3 < s) :
    Calls Try.prog 45 #[.agg #[.int .i64 2, .int .i64 s, .int .i64 l, .int .i64 h, .int .i64 t, .slice A n c]] w fun e w' => e = .returned (.int .i64 3) ∧ Grew w w' none := by
  go_enter Try.func45, Try.ntmps45
  go_wp2_with fail
  go_ret
  exact ⟨rfl, grew_alloc (grew_refl _ _) _⟩

set_option maxRecDepth 100000 in
set_option maxHeartbeats 2000000 in
theorem own2_1_a (w : World) (l h t : Int) (A : Option Addr) (n c : Nat) (h0 : l < 0) :
    Calls Try.prog 45 #[.agg #[.int .i64 2, .int .i64 1, .int .i64 l, .int .i64 h, .int .i64 t, .slice A n c]] w fun e w' => e = .returned (.int .i64 5) ∧ Grew w w' none := by
  have TP := Lib.hid (fun w => top_any w 1 (by omega) (by omega))
  have e0 : (256 : Int) ^ ((1 : Int).toNat) - 1 = 255 := by decide
  rw [e0] at TP
  clear e0
  have d0 : decide (l < 0) = true := by simp; omega
  go_enter Try.func45, Try.ntmps45
  go_wp2_with fail
  go_quiet ((go_at_call 60; exact quiet_same (TP.out _)))
  go_wp2_with fail
  go_ret
  exact ⟨rfl, grew_drewN (grew_alloc (grew_refl _ _) _) _⟩

set_option maxRecDepth 100000 in
set_option maxHeartbeats 2000000 in
theorem own2_1_b (w : World) (l h t : Int) (A : Option Addr) (n c : Nat) (h0 : 0 ≤ l) (h1 : h < l) :
    Calls Try.prog 45 #[.agg #[.int .i64 2, .int .i64 1, .int .i64 l, .int .i64 h, .int .i64 t, .slice A n c]] w fun e w' => e = .returned (.int .i64 5) ∧ Grew w w' none := by
  have TP := Lib.hid (fun w => top_any w 1 (by omega) (by omega))
  have e0 : (256 : Int) ^ ((1 : Int).toNat) - 1 = 255 := by decide
  rw [e0] at TP
  clear e0
  have d0 : decide (l < 0) = false := by simp; omega
  have d1 : decide (h < l) = true := by simp; omega
  go_enter Try.func45, Try.ntmps45
  go_wp2_with fail
  go_quiet ((go_at_call 60; exact quiet_same (TP.out _)))
  go_wp2_with fail
  go_ret
  exact ⟨rfl, grew_drewN (grew_alloc (grew_refl _ _) _) _⟩

set_option maxRecDepth 100000 in
set_option maxHeartbeats 2000000 in
theorem own2_1_c (w : World) (l h t : Int) (A : Option Addr) (n c : Nat) (h0 : 0 ≤ l) (h1 : l ≤ h) (h2 : 255 < h) :
    Calls Try.prog 45 #[.agg #[.int .i64 2, .int .i64 1, .int .i64 l, .int .i64 h, .int .i64 t, .slice A n c]] w fun e w' => e = .returned (.int .i64 5) ∧ Grew w w' none := by
  have TP := Lib.hid (fun w => top_any w 1 (by omega) (by omega))
  have e0 : (256 : Int) ^ ((1 : Int).toNat) - 1 = 255 := by decide
  rw [e0] at TP
  clear e0
  have d0 : decide (l < 0) = false := by simp; omega
  have d1 : decide (h < l) = false := by simp; omega
  have d2 : decide ((255 : Int) < h) = true := by simp; omega
  go_enter Try.func45, Try.ntmps45
  go_wp2_with fail
  go_quiet ((go_at_call 60; exact quiet_same (TP.out _)))
  go_wp2_with fail
  go_ret
  exact ⟨rfl, grew_drewN (grew_alloc (grew_refl _ _) _) _⟩

set_option maxRecDepth 100000 in
set_option maxHeartbeats 2000000 in
theorem own2_1_d (w : World) (l h t : Int) (A : Option Addr) (n c : Nat) (h0 : 0 ≤ l) (h1 : l ≤ h) (h2 : h ≤ 255) (h3 : t < 1) :
    Calls Try.prog 45 #[.agg #[.int .i64 2, .int .i64 1, .int .i64 l, .int .i64 h, .int .i64 t, .slice A n c]] w fun e w' => e = .returned (.int .i64 5) ∧ Grew w w' none := by
  have TP := Lib.hid (fun w => top_any w 1 (by omega) (by omega))
  have e0 : (256 : Int) ^ ((1 : Int).toNat) - 1 = 255 := by decide
  rw [e0] at TP
  clear e0
  have d0 : decide (l < 0) = false := by simp; omega
  have d1 : decide (h < l) = false := by simp; omega
  have d2 : decide ((255 : Int) < h) = false := by simp; omega
  have d3 : decide (t < 1) = true := by simp; omega
  go_enter Try.func45, Try.ntmps45
  go_wp2_with fail
  go_quiet ((go_at_call 60; exact quiet_same (TP.out _)))
  go_wp2_with fail
  go_ret
  exact ⟨rfl, grew_drewN (grew_alloc (grew_refl _ _) _) _⟩

set_option maxRecDepth 100000 in
set_option maxHeartbeats 2000000 in
theorem own2_1_e (w : World) (l h t : Int) (A : Option Addr) (n c : Nat) (h0 : 0 ≤ l) (h1 : l ≤ h) (h2 : h ≤ 255) (h3 : 65536 < t) :
    Calls Try.prog 45 #[.agg #[.int .i64 2, .int .i64 1, .int .i64 l, .int .i64 h, .int .i64 t, .slice A n c]] w fun e w' => e = .returned (.int .i64 5) ∧ Grew w w' none := by
  have TP := Lib.hid (fun w => top_any w 1 (by omega) (by omega))
  have e0 : (256 : Int) ^ ((1 : Int).toNat) - 1 = 255 := by decide
  rw [e0] at TP
  clear e0
  have d0 : decide (l < 0) = false := by simp; omega
  have d1 : decide (h < l) = false := by simp; omega
  have d2 : decide ((255 : Int) < h) = false := by simp; omega
  have d3 : decide (t < 1) = false := by simp; omega
  have d4 : decide ((65536 : Int) < t) = true := by simp; omega
  go_enter Try.func45, Try.ntmps45
  go_wp2_with fail
  go_quiet ((go_at_call 60; exact quiet_same (TP.out _)))
  go_wp2_with fail
  go_ret
  exact ⟨rfl, grew_drewN (grew_alloc (grew_refl _ _) _) _⟩

set_option maxRecDepth 100000 in
set_option maxHeartbeats 2000000 in
theorem own2_1_ok (w : World) (l h t : Int) (A : Option Addr) (n c : Nat) (h0 : 0 ≤ l) (h1 : l ≤ h) (h2 : h ≤ 255) (h3 : 1 ≤ t) (h4 : t ≤ 65536) (hn : ((n : Int) != 1) = false) :
    Calls Try.prog 45 #[.agg #[.int .i64 2, .int .i64 1, .int .i64 l, .int .i64 h, .int .i64 t, .slice A n c]] w fun e w' => e = .returned (.int .i64 0) ∧ Grew w w' none := by
  have TP := Lib.hid (fun w => top_any w 1 (by omega) (by omega))
  have e0 : (256 : Int) ^ ((1 : Int).toNat) - 1 = 255 := by decide
  rw [e0] at TP
  clear e0
  have d0 : decide (l < 0) = false := by simp; omega
  have d1 : decide (h < l) = false := by simp; omega
  have d2 : decide ((255 : Int) < h) = false := by simp; omega
  have d3 : decide (t < 1) = false := by simp; omega
  have d4 : decide ((65536 : Int) < t) = false := by simp; omega
  go_enter Try.func45, Try.ntmps45
  go_wp2_with fail
  go_quiet ((go_at_call 60; exact quiet_same (TP.out _)))
  go_wp2_with fail
  go_ret
  exact ⟨rfl, grew_drewN (grew_alloc (grew_refl _ _) _) _⟩

set_option maxRecDepth 100000 in
set_option maxHeartbeats 2000000 in
theorem own2_1_many (w : World) (l h t : Int) (A : Option Addr) (n c : Nat) (h0 : 0 ≤ l) (h1 : l ≤ h) (h2 : h ≤ 255) (h3 : 1 ≤ t) (h4 : t ≤ 65536) (hn : ((n : Int) != 1) = true) :
    Calls Try.prog 45 #[.agg #[.int .i64 2, .int .i64 1, .int .i64 l, .int .i64 h, .int .i64 t, .slice A n c]] w fun e w' => e = .returned (.int .i64 15) ∧ Grew w w' none := by
  have TP := Lib.hid (fun w => top_any w 1 (by omega) (by omega))
  have e0 : (256 : Int) ^ ((1 : Int).toNat) - 1 = 255 := by decide
  rw [e0] at TP
  clear e0
  have d0 : decide (l < 0) = false := by simp; omega
  have d1 : decide (h < l) = false := by simp; omega
  have d2 : decide ((255 : Int) < h) = false := by simp; omega
  have d3 : decide (t < 1) = false := by simp; omega
  have d4 : decide ((65536 : Int) < t) = false := by simp; omega
  go_enter Try.func45, Try.ntmps45
  go_wp2_with fail
  go_quiet ((go_at_call 60; exact quiet_same (TP.out _)))
  go_wp2_with fail
  go_ret
  exact ⟨rfl, grew_drewN (grew_alloc (grew_refl _ _) _) _⟩

set_option maxRecDepth 100000 in
set_option maxHeartbeats 2000000 in
theorem own2_2_a (w : World) (l h t : Int) (A : Option Addr) (n c : Nat) (h0 : l < 0) :
    Calls Try.prog 45 #[.agg #[.int .i64 2, .int .i64 2, .int .i64 l, .int .i64 h, .int .i64 t, .slice A n c]] w fun e w' => e = .returned (.int .i64 5) ∧ Grew w w' none := by
  have TP := Lib.hid (fun w => top_any w 2 (by omega) (by omega))
  have e0 : (256 : Int) ^ ((2 : Int).toNat) - 1 = 65535 := by decide
  rw [e0] at TP
  clear e0
  have d0 : decide (l < 0) = true := by simp; omega
  go_enter Try.func45, Try.ntmps45
  go_wp2_with fail
  go_quiet ((go_at_call 60; exact quiet_same (TP.out _)))
  go_wp2_with fail
  go_ret
  exact ⟨rfl, grew_drewN (grew_alloc (grew_refl _ _) _) _⟩

set_option maxRecDepth 100000 in
set_option maxHeartbeats 2000000 in
theorem own2_2_b (w : World) (l h t : Int) (A : Option Addr) (n c : Nat) (h0 : 0 ≤ l) (h1 : h < l) :
    Calls Try.prog 45 #[.agg #[.int .i64 2, .int .i64 2, .int .i64 l, .int .i64 h, .int .i64 t, .slice A n c]] w fun e w' => e = .returned (.int .i64 5) ∧ Grew w w' none := by
  have TP := Lib.hid (fun w => top_any w 2 (by omega) (by omega))
  have e0 : (256 : Int) ^ ((2 : Int).toNat) - 1 = 65535 := by decide
  rw [e0] at TP
  clear e0
  have d0 : decide (l < 0) = false := by simp; omega
  have d1 : decide (h < l) = true := by simp; omega
  go_enter Try.func45, Try.ntmps45
  go_wp2_with fail
  go_quiet ((go_at_call 60; exact quiet_same (TP.out _)))
  go_wp2_with fail
  go_ret
  exact ⟨rfl, grew_drewN (grew_alloc (grew_refl _ _) _) _⟩

set_option maxRecDepth 100000 in
set_option maxHeartbeats 2000000 in
theorem own2_2_c (w : World) (l h t : Int) (A : Option Addr) (n c : Nat) (h0 : 0 ≤ l) (h1 : l ≤ h) (h2 : 65535 < h) :
    Calls Try.prog 45 #[.agg #[.int .i64 2, .int .i64 2, .int .i64 l, .int .i64 h, .int .i64 t, .slice A n c]] w fun e w' => e = .returned (.int .i64 5) ∧ Grew w w' none := by
  have TP := Lib.hid (fun w => top_any w 2 (by omega) (by omega))
  have e0 : (256 : Int) ^ ((2 : Int).toNat) - 1 = 65535 := by decide
  rw [e0] at TP
  clear e0
  have d0 : decide (l < 0) = false := by simp; omega
  have d1 : decide (h < l) = false := by simp; omega
  have d2 : decide ((65535 : Int) < h) = true := by simp; omega
  go_enter Try.func45, Try.ntmps45
  go_wp2_with fail
  go_quiet ((go_at_call 60; exact quiet_same (TP.out _)))
  go_wp2_with fail
  go_ret
  exact ⟨rfl, grew_drewN (grew_alloc (grew_refl _ _) _) _⟩

set_option maxRecDepth 100000 in
set_option maxHeartbeats 2000000 in
theorem own2_2_d (w : World) (l h t : Int) (A : Option Addr) (n c : Nat) (h0 : 0 ≤ l) (h1 : l ≤ h) (h2 : h ≤ 65535) (h3 : t < 1) :
    Calls Try.prog 45 #[.agg #[.int .i64 2, .int .i64 2, .int .i64 l, .int .i64 h, .int .i64 t, .slice A n c]] w fun e w' => e = .returned (.int .i64 5) ∧ Grew w w' none := by
  have TP := Lib.hid (fun w => top_any w 2 (by omega) (by omega))
  have e0 : (256 : Int) ^ ((2 : Int).toNat) - 1 = 65535 := by decide
  rw [e0] at TP
  clear e0
  have d0 : decide (l < 0) = false := by simp; omega
  have d1 : decide (h < l) = false := by simp; omega
  have d2 : decide ((65535 : Int) < h) = false := by simp; omega
  have d3 : decide (t < 1) = true := by simp; omega
  go_enter Try.func45, Try.ntmps45
  go_wp2_with fail
  go_quiet ((go_at_call 60; exact quiet_same (TP.out _)))
  go_wp2_with fail
  go_ret
  exact ⟨rfl, grew_drewN (grew_alloc (grew_refl _ _) _) _⟩

set_option maxRecDepth 100000 in
set_option maxHeartbeats 2000000 in
theorem own2_2_e (w : World) (l h t : Int) (A : Option Addr) (n c : Nat) (h0 : 0 ≤ l) (h1 : l ≤ h) (h2 : h ≤ 65535) (h3 : 65536 < t) :
    Calls Try.prog 45 #[.agg #[.int .i64 2, .int .i64 2, .int .i64 l, .int .i64 h, .int .i64 t, .slice A n c]] w fun e w' => e = .returned (.int .i64 5) ∧ Grew w w' none := by
  have TP := Lib.hid (fun w => top_any w 2 (by omega) (by omega))
  have e0 : (256 : Int) ^ ((2 : Int).toNat) - 1 = 65535 := by decide
  rw [e0] at TP
  clear e0
  have d0 : decide (l < 0) = false := by simp; omega
  have d1 : decide (h < l) = false := by simp; omega
  have d2 : decide ((65535 : Int) < h) = false := by simp; omega
  have d3 : decide (t < 1) = false := by simp; omega
  have d4 : decide ((65536 : Int) < t) = true := by simp; omega
  go_enter Try.func45, Try.ntmps45
  go_wp2_with fail
  go_quiet ((go_at_call 60; exact quiet_same (TP.out _)))
  go_wp2_with fail
  go_ret
  exact ⟨rfl, grew_drewN (grew_alloc (grew_refl _ _) _) _⟩

set_option maxRecDepth 100000 in
set_option maxHeartbeats 2000000 in
theorem own2_2_ok (w : World) (l h t : Int) (A : Option Addr) (n c : Nat) (h0 : 0 ≤ l) (h1 : l ≤ h) (h2 : h ≤ 65535) (h3 : 1 ≤ t) (h4 : t ≤ 65536) (hn : ((n : Int) != 1) = false) :
    Calls Try.prog 45 #[.agg #[.int .i64 2, .int .i64 2, .int .i64 l, .int .i64 h, .int .i64 t, .slice A n c]] w fun e w' => e = .returned (.int .i64 0) ∧ Grew w w' none := by
  have TP := Lib.hid (fun w => top_any w 2 (by omega) (by omega))
  have e0 : (256 : Int) ^ ((2 : Int).toNat) - 1 = 65535 := by decide
  rw [e0] at TP
  clear e0
  have d0 : decide (l < 0) = false := by simp; omega
  have d1 : decide (h < l) = false := by simp; omega
  have d2 : decide ((65535 : Int) < h) = false := by simp; omega
  have d3 : decide (t < 1) = false := by simp; omega
  have d4 : decide ((65536 : Int) < t) = false := by simp; omega
  go_enter Try.func45, Try.ntmps45
  go_wp2_with fail
  go_quiet ((go_at_call 60; exact quiet_same (TP.out _)))
  go_wp2_with fail
  go_ret
  exact ⟨rfl, grew_drewN (grew_alloc (grew_refl _ _) _) _⟩

set_option maxRecDepth 100000 in
set_option maxHeartbeats 2000000 in
theorem own2_2_many (w : World) (l h t : Int) (A : Option Addr) (n c : Nat) (h0 : 0 ≤ l) (h1 : l ≤ h) (h2 : h ≤ 65535) (h3 : 1 ≤ t) (h4 : t ≤ 65536) (hn : ((n : Int) != 1) = true) :
    Calls Try.prog 45 #[.agg #[.int .i64 2, .int .i64 2, .int .i64 l, .int .i64 h, .int .i64 t, .slice A n c]] w fun e w' => e = .returned (.int .i64 15) ∧ Grew w w' none := by
  have TP := Lib.hid (fun w => top_any w 2 (by omega) (by omega))
  have e0 : (256 : Int) ^ ((2 : Int).toNat) - 1 = 65535 := by decide
  rw [e0] at TP
  clear e0
  have d0 : decide (l < 0) = false := by simp; omega
  have d1 : decide (h < l) = false := by simp; omega
  have d2 : decide ((65535 : Int) < h) = false := by simp; omega
  have d3 : decide (t < 1) = false := by simp; omega
  have d4 : decide ((65536 : Int) < t) = false := by simp; omega
  go_enter Try.func45, Try.ntmps45
  go_wp2_with fail
  go_quiet ((go_at_call 60; exact quiet_same (TP.out _)))
  go_wp2_with fail
  go_ret
  exact ⟨rfl, grew_drewN (grew_alloc (grew_refl _ _) _) _⟩

set_option maxRecDepth 100000 in
set_option maxHeartbeats 2000000 in
theorem own2_3_a (w : World) (l h t : Int) (A : Option Addr) (n c : Nat) (h0 : l < 0) :
    Calls Try.prog 45 #[.agg #[.int .i64 2, .int .i64 3, .int .i64 l, .int .i64 h, .int .i64 t, .slice A n c]] w fun e w' => e = .returned (.int .i64 5) ∧ Grew w w' none := by
  have TP := Lib.hid (fun w => top_any w 3 (by omega) (by omega))
  have e0 : (256 : Int) ^ ((3 : Int).toNat) - 1 = 16777215 := by decide
  rw [e0] at TP
  clear e0
  have d0 : decide (l < 0) = true := by simp; omega
  go_enter Try.func45, Try.ntmps45
  go_wp2_with fail
  go_quiet ((go_at_call 60; exact quiet_same (TP.out _)))
  go_wp2_with fail
  go_ret
  exact ⟨rfl, grew_drewN (grew_alloc (grew_refl _ _) _) _⟩

set_option maxRecDepth 100000 in
set_option maxHeartbeats 2000000 in
theorem own2_3_b (w : World) (l h t : Int) (A : Option Addr) (n c : Nat) (h0 : 0 ≤ l) (h1 : h < l) :
    Calls Try.prog 45 #[.agg #[.int .i64 2, .int .i64 3, .int .i64 l, .int .i64 h, .int .i64 t, .slice A n c]] w fun e w' => e = .returned (.int .i64 5) ∧ Grew w w' none := by
  have TP := Lib.hid (fun w => top_any w 3 (by omega) (by omega))
  have e0 : (256 : Int) ^ ((3 : Int).toNat) - 1 = 16777215 := by decide
  rw [e0] at TP
  clear e0
  have d0 : decide (l < 0) = false := by simp; omega
  have d1 : decide (h < l) = true := by simp; omega
  go_enter Try.func45, Try.ntmps45
  go_wp2_with fail
  go_quiet ((go_at_call 60; exact quiet_same (TP.out _)))
  go_wp2_with fail
  go_ret
  exact ⟨rfl, grew_drewN (grew_alloc (grew_refl _ _) _) _⟩

set_option maxRecDepth 100000 in
set_option maxHeartbeats 2000000 in
theorem own2_3_c (w : World) (l h t : Int) (A : Option Addr) (n c : Nat) (h0 : 0 ≤ l) (h1 : l ≤ h) (h2 : 16777215 < h) :
    Calls Try.prog 45 #[.agg #[.int .i64 2, .int .i64 3, .int .i64 l, .int .i64 h, .int .i64 t, .slice A n c]] w fun e w' => e = .returned (.int .i64 5) ∧ Grew w w' none := by
  have TP := Lib.hid (fun w => top_any w 3 (by omega) (by omega))
  have e0 : (256 : Int) ^ ((3 : Int).toNat) - 1 = 16777215 := by decide
  rw [e0] at TP
  clear e0
  have d0 : decide (l < 0) = false := by simp; omega
  have d1 : decide (h < l) = false := by simp; omega
  have d2 : decide ((16777215 : Int) < h) = true := by simp; omega
  go_enter Try.func45, Try.ntmps45
  go_wp2_with fail
  go_quiet ((go_at_call 60; exact quiet_same (TP.out _)))
  go_wp2_with fail
  go_ret
  exact ⟨rfl, grew_drewN (grew_alloc (grew_refl _ _) _) _⟩

set_option maxRecDepth 100000 in
set_option maxHeartbeats 2000000 in
theorem own2_3_d (w : World) (l h t : Int) (A : Option Addr) (n c : Nat) (h0 : 0 ≤ l) (h1 : l ≤ h) (h2 : h ≤ 16777215) (h3 : t < 1) :
    Calls Try.prog 45 #[.agg #[.int .i64 2, .int .i64 3, .int .i64 l, .int .i64 h, .int .i64 t, .slice A n c]] w fun e w' => e = .returned (.int .i64 5) ∧ Grew w w' none := by
  have TP := Lib.hid (fun w => top_any w 3 (by omega) (by omega))
  have e0 : (256 : Int) ^ ((3 : Int).toNat) - 1 = 16777215 := by decide
  rw [e0] at TP
  clear e0
  have d0 : decide (l < 0) = false := by simp; omega
  have d1 : decide (h < l) = false := by simp; omega
  have d2 : decide ((16777215 : Int) < h) = false := by simp; omega
  have d3 : decide (t < 1) = true := by simp; omega
  go_enter Try.func45, Try.ntmps45
  go_wp2_with fail
  go_quiet ((go_at_call 60; exact quiet_same (TP.out _)))
  go_wp2_with fail
  go_ret
  exact ⟨rfl, grew_drewN (grew_alloc (grew_refl _ _) _) _⟩

set_option maxRecDepth 100000 in
set_option maxHeartbeats 2000000 in
theorem own2_3_e (w : World) (l h t : Int) (A : Option Addr) (n c : Nat) (h0 : 0 ≤ l) (h1 : l ≤ h) (h2 : h ≤ 16777215) (h3 : 65536 < t) :
    Calls Try.prog 45 #[.agg #[.int .i64 2, .int .i64 3, .int .i64 l, .int .i64 h, .int .i64 t, .slice A n c]] w fun e w' => e = .returned (.int .i64 5) ∧ Grew w w' none := by
  have TP := Lib.hid (fun w => top_any w 3 (by omega) (by omega))
  have e0 : (256 : Int) ^ ((3 : Int).toNat) - 1 = 16777215 := by decide
  rw [e0] at TP
  clear e0
  have d0 : decide (l < 0) = false := by simp; omega
  have d1 : decide (h < l) = false := by simp; omega
  have d2 : decide ((16777215 : Int) < h) = false := by simp; omega
  have d3 : decide (t < 1) = false := by simp; omega
  have d4 : decide ((65536 : Int) < t) = true := by simp; omega
  go_enter Try.func45, Try.ntmps45
  go_wp2_with fail
  go_quiet ((go_at_call 60; exact quiet_same (TP.out _)))
  go_wp2_with fail
  go_ret
  exact ⟨rfl, grew_drewN (grew_alloc (grew_refl _ _) _) _⟩

set_option maxRecDepth 100000 in
set_option maxHeartbeats 2000000 in
theorem own2_3_ok (w : World) (l h t : Int) (A : Option Addr) (n c : Nat) (h0 : 0 ≤ l) (h1 : l ≤ h) (h2 : h ≤ 16777215) (h3 : 1 ≤ t) (h4 : t ≤ 65536) (hn : ((n : Int) != 1) = false) :
    Calls Try.prog 45 #[.agg #[.int .i64 2, .int .i64 3, .int .i64 l, .int .i64 h, .int .i64 t, .slice A n c]] w fun e w' => e = .returned (.int .i64 0) ∧ Grew w w' none := by
  have TP := Lib.hid (fun w => top_any w 3 (by omega) (by omega))
  have e0 : (256 : Int) ^ ((3 : Int).toNat) - 1 = 16777215 := by decide
  rw [e0] at TP
  clear e0
  have d0 : decide (l < 0) = false := by simp; omega
  have d1 : decide (h < l) = false := by simp; omega
  have d2 : decide ((16777215 : Int) < h) = false := by simp; omega
  have d3 : decide (t < 1) = false := by simp; omega
  have d4 : decide ((65536 : Int) < t) = false := by simp; omega
  go_enter Try.func45, Try.ntmps45
  go_wp2_with fail
  go_quiet ((go_at_call 60; exact quiet_same (TP.out _)))
  go_wp2_with fail
  go_ret
  exact ⟨rfl, grew_drewN (grew_alloc (grew_refl _ _) _) _⟩

set_option maxRecDepth 100000 in
set_option maxHeartbeats 2000000 in
theorem own2_3_many (w : World) (l h t : Int) (A : Option Addr) (n c : Nat) (h0 : 0 ≤ l) (h1 : l ≤ h) (h2 : h ≤ 16777215) (h3 : 1 ≤ t) (h4 : t ≤ 65536) (hn : ((n : Int) != 1) = true) :
    Calls Try.prog 45 #[.agg #[.int .i64 2, .int .i64 3, .int .i64 l, .int .i64 h, .int .i64 t, .slice A n c]] w fun e w' => e = .returned (.int .i64 15) ∧ Grew w w' none := by
  have TP := Lib.hid (fun w => top_any w 3 (by omega) (by omega))
  have e0 : (256 : Int) ^ ((3 : Int).toNat) - 1 = 16777215 := by decide
  rw [e0] at TP
  clear e0
  have d0 : decide (l < 0) = false := by simp; omega
  have d1 : decide (h < l) = false := by simp; omega
  have d2 : decide ((16777215 : Int) < h) = false := by simp; omega
  have d3 : decide (t < 1) = false := by simp; omega
  have d4 : decide ((65536 : Int) < t) = false := by simp; omega
  go_enter Try.func45, Try.ntmps45
  go_wp2_with fail
  go_quiet ((go_at_call 60; exact quiet_same (TP.out _)))
  go_wp2_with fail
  go_ret
  exact ⟨rfl, grew_drewN (grew_alloc (grew_refl _ _) _) _⟩

end Go.Proofs.Ytibbeodcheefaaa

