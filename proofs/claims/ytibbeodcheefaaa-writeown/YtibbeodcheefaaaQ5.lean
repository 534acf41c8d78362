/- What is wrong with a form itself: the document's answer. -/
import Derived.Test.YtibbeodcheefaaaQ1
import Derived.Laws.ShiftsVar
namespace Go.Proofs.Ytibbeodcheefaaa
open Go.RowKit Fo

theorem ne_bne {a b : Int} (h : ¬ a = b) : (a != b) = true := by simpa using h
theorem top_any (w : World) (s : Int) (h1 : 1 ≤ s) (h3 : s ≤ 3) :
    Calls Try.prog 60 #[.int .i64 s] w fun e w' => e = .returned (.int .i64 (256 ^ s.toNat - 1)) ∧ w = w' := by
  go_enter Try.func60, Try.ntmps60
  go_wp2_with fail
  go_loopw [4, 3] (fun i d wr => ∃ (n : Nat) (x : Int), (n : Int) ≤ s ∧ i = .int .i64 n ∧ d = .int .i64 x ∧ 0 ≤ x ∧ x ≤ 16777216 ∧ Hid (x = 256 ^ n) ∧ w = wr) (fun i _ _ => s.toNat - (intOf i).toNat)
  case atStart => exact ⟨0, 1, by omega, rfl, rfl, by omega, by omega, Lib.hid rfl, rfl⟩
  case round =>
    obtain ⟨n, x, hn, rfl, rfl, x0, x1, HX, rfl⟩ := hrel
    by_cases hlt : (n : Int) < s
    · have hx : x ≤ 65536 := by
        have key : n = 0 ∨ n = 1 ∨ n = 2 := by omega
        have := HX.out
        rcases key with rfl | rfl | rfl <;> omega
      go_wp2_with fail
      go_roundw
      case rel => exact ⟨n + 1, x * 256, by omega, by go_num, rfl, by omega, by omega, Lib.hid (by rw [Int.pow_succ, HX.out]), by trivial⟩
      case measure => simp [intOf]; omega
    · go_wp2_with fail
      go_ret
      have : n = s.toNat := by omega
      exact ⟨by rw [← this, ← HX.out]; rfl, rfl⟩

set_option maxRecDepth 100000 in
set_option maxHeartbeats 2000000 in
theorem own_neg (w : World) (k s l h t : Int) (A : Option Addr) (n c : Nat) (hk : k < 0) :
    Calls Try.prog 45 #[.agg #[.int .i64 k, .int .i64 s, .int .i64 l, .int .i64 h, .int .i64 t, .slice A n c]] w fun e w' => e = .returned (.int .i64 2) ∧ Grew w w' none := by
  go_enter Try.func45, Try.ntmps45
  go_wp2_with fail
  go_ret
  exact ⟨rfl, grew_alloc (grew_refl _ _) _⟩

set_option maxRecDepth 100000 in
set_option maxHeartbeats 2000000 in
theorem own_big (w : World) (k s l h t : Int) (A : Option Addr) (n c : Nat) (hk : 5 < k) :
    Calls Try.prog 45 #[.agg #[.int .i64 k, .int .i64 s, .int .i64 l, .int .i64 h, .int .i64 t, .slice A n c]] w fun e w' => e = .returned (.int .i64 2) ∧ Grew w w' none := by
  go_enter Try.func45, Try.ntmps45
  go_wp2_with fail
  go_ret
  exact ⟨rfl, grew_alloc (grew_refl _ _) _⟩

set_option maxRecDepth 100000 in
set_option maxHeartbeats 2000000 in
theorem own0_1 (w : World) (l h t : Int) (A : Option Addr) (n c : Nat)  :
    Calls Try.prog 45 #[.agg #[.int .i64 0, .int .i64 1, .int .i64 l, .int .i64 h, .int .i64 t, .slice A n c]] w fun e w' => e = .returned (.int .i64 0) ∧ Grew w w' none := by
  go_enter Try.func45, Try.ntmps45
  go_wp2_with fail
  go_ret
  exact ⟨rfl, grew_alloc (grew_refl _ _) _⟩

set_option maxRecDepth 100000 in
set_option maxHeartbeats 2000000 in
theorem own0_2 (w : World) (l h t : Int) (A : Option Addr) (n c : Nat)  :
    Calls Try.prog 45 #[.agg #[.int .i64 0, .int .i64 2, .int .i64 l, .int .i64 h, .int .i64 t, .slice A n c]] w fun e w' => e = .returned (.int .i64 0) ∧ Grew w w' none := by
  go_enter Try.func45, Try.ntmps45
  go_wp2_with fail
  go_ret
  exact ⟨rfl, grew_alloc (grew_refl _ _) _⟩

set_option maxRecDepth 100000 in
set_option maxHeartbeats 2000000 in
theorem own0_3 (w : World) (l h t : Int) (A : Option Addr) (n c : Nat)  :
    Calls Try.prog 45 #[.agg #[.int .i64 0, .int .i64 3, .int .i64 l, .int .i64 h, .int .i64 t, .slice A n c]] w fun e w' => e = .returned (.int .i64 0) ∧ Grew w w' none := by
  go_enter Try.func45, Try.ntmps45
  go_wp2_with fail
  go_ret
  exact ⟨rfl, grew_alloc (grew_refl _ _) _⟩

set_option maxRecDepth 100000 in
set_option maxHeartbeats 2000000 in
theorem own0_4 (w : World) (l h t : Int) (A : Option Addr) (n c : Nat)  :
    Calls Try.prog 45 #[.agg #[.int .i64 0, .int .i64 4, .int .i64 l, .int .i64 h, .int .i64 t, .slice A n c]] w fun e w' => e = .returned (.int .i64 0) ∧ Grew w w' none := by
  go_enter Try.func45, Try.ntmps45
  go_wp2_with fail
  go_ret
  exact ⟨rfl, grew_alloc (grew_refl _ _) _⟩

set_option maxRecDepth 100000 in
set_option maxHeartbeats 2000000 in
theorem own0_8 (w : World) (l h t : Int) (A : Option Addr) (n c : Nat)  :
    Calls Try.prog 45 #[.agg #[.int .i64 0, .int .i64 8, .int .i64 l, .int .i64 h, .int .i64 t, .slice A n c]] w fun e w' => e = .returned (.int .i64 0) ∧ Grew w w' none := by
  go_enter Try.func45, Try.ntmps45
  go_wp2_with fail
  go_ret
  exact ⟨rfl, grew_alloc (grew_refl _ _) _⟩

set_option maxRecDepth 100000 in
set_option maxHeartbeats 2000000 in
theorem own0_no (w : World) (s l h t : Int) (A : Option Addr) (n c : Nat) (h1 : (s != 1) = true) (h2 : (s != 2) = true) (h3 : (s != 3) = true) (h4 : (s != 4) = true) (h8 : (s != 8) = true) :
    Calls Try.prog 45 #[.agg #[.int .i64 0, .int .i64 s, .int .i64 l, .int .i64 h, .int .i64 t, .slice A n c]] w fun e w' => e = .returned (.int .i64 3) ∧ Grew w w' none := by
  go_enter Try.func45, Try.ntmps45
  go_wp2_with fail
  go_ret
  exact ⟨rfl, grew_alloc (grew_refl _ _) _⟩

set_option maxRecDepth 100000 in
set_option maxHeartbeats 2000000 in
theorem own4_a (w : World) (s l h t : Int) (A : Option Addr) (n c : Nat) (h0 : l < 0) :
    Calls Try.prog 45 #[.agg #[.int .i64 4, .int .i64 s, .int .i64 l, .int .i64 h, .int .i64 t, .slice A n c]] w fun e w' => e = .returned (.int .i64 5) ∧ Grew w w' none := by
  go_enter Try.func45, Try.ntmps45
  go_wp2_with fail
  go_ret
  exact ⟨rfl, grew_alloc (grew_refl _ _) _⟩

set_option maxRecDepth 100000 in
set_option maxHeartbeats 2000000 in
theorem own4_b (w : World) (s l h t : Int) (A : Option Addr) (n c : Nat) (h0 : 0 ≤ l) (h1 : h < l) :
    Calls Try.prog 45 #[.agg #[.int .i64 4, .int .i64 s, .int .i64 l, .int .i64 h, .int .i64 t, .slice A n c]] w fun e w' => e = .returned (.int .i64 5) ∧ Grew w w' none := by
  go_enter Try.func45, Try.ntmps45
  go_wp2_with fail
  go_ret
  exact ⟨rfl, grew_alloc (grew_refl _ _) _⟩

set_option maxRecDepth 100000 in
set_option maxHeartbeats 2000000 in
theorem own4_c (w : World) (s l h t : Int) (A : Option Addr) (n c : Nat) (h0 : 0 ≤ l) (h1 : l ≤ h) (h2 : 16777215 < h) :
    Calls Try.prog 45 #[.agg #[.int .i64 4, .int .i64 s, .int .i64 l, .int .i64 h, .int .i64 t, .slice A n c]] w fun e w' => e = .returned (.int .i64 5) ∧ Grew w w' none := by
  go_enter Try.func45, Try.ntmps45
  go_wp2_with fail
  go_ret
  exact ⟨rfl, grew_alloc (grew_refl _ _) _⟩

set_option maxRecDepth 100000 in
set_option maxHeartbeats 2000000 in
theorem own4_ok (w : World) (s l h t : Int) (A : Option Addr) (n c : Nat) (h0 : 0 ≤ l) (h1 : l ≤ h) (h2 : h ≤ 16777215) :
    Calls Try.prog 45 #[.agg #[.int .i64 4, .int .i64 s, .int .i64 l, .int .i64 h, .int .i64 t, .slice A n c]] w fun e w' => e = .returned (.int .i64 0) ∧ Grew w w' none := by
  go_enter Try.func45, Try.ntmps45
  go_wp2_with fail
  go_ret
  exact ⟨rfl, grew_alloc (grew_refl _ _) _⟩

set_option maxRecDepth 100000 in
set_option maxHeartbeats 2000000 in
theorem own5_a (w : World) (s l h t : Int) (A : Option Addr) (n c : Nat) (h0 : l < 0) :
    Calls Try.prog 45 #[.agg #[.int .i64 5, .int .i64 s, .int .i64 l, .int .i64 h, .int .i64 t, .slice A n c]] w fun e w' => e = .returned (.int .i64 5) ∧ Grew w w' none := by
  go_enter Try.func45, Try.ntmps45
  go_wp2_with fail
  go_ret
  exact ⟨rfl, grew_alloc (grew_refl _ _) _⟩

set_option maxRecDepth 100000 in
set_option maxHeartbeats 2000000 in
theorem own5_b (w : World) (s l h t : Int) (A : Option Addr) (n c : Nat) (h0 : 0 ≤ l) (h1 : 16777215 < l) :
    Calls Try.prog 45 #[.agg #[.int .i64 5, .int .i64 s, .int .i64 l, .int .i64 h, .int .i64 t, .slice A n c]] w fun e w' => e = .returned (.int .i64 5) ∧ Grew w w' none := by
  go_enter Try.func45, Try.ntmps45
  go_wp2_with fail
  go_ret
  exact ⟨rfl, grew_alloc (grew_refl _ _) _⟩

set_option maxRecDepth 100000 in
set_option maxHeartbeats 2000000 in
theorem own5_ok (w : World) (s l h t : Int) (A : Option Addr) (n c : Nat) (h0 : 0 ≤ l) (h1 : l ≤ 16777215) :
    Calls Try.prog 45 #[.agg #[.int .i64 5, .int .i64 s, .int .i64 l, .int .i64 h, .int .i64 t, .slice A n c]] w fun e w' => e = .returned (.int .i64 0) ∧ Grew w w' none := by
  go_enter Try.func45, Try.ntmps45
  go_wp2_with fail
  go_ret
  exact ⟨rfl, grew_alloc (grew_refl _ _) _⟩

set_option maxRecDepth 100000 in
set_option maxHeartbeats 2000000 in
theorem own3_ok (w : World) (s l h t : Int) (A : Option Addr) (n c : Nat) (h0 : n ≤ 32) :
    Calls Try.prog 45 #[.agg #[.int .i64 3, .int .i64 s, .int .i64 l, .int .i64 h, .int .i64 t, .slice A n c]] w fun e w' => e = .returned (.int .i64 0) ∧ Grew w w' none := by
  have d0 : decide ((32 : Int) < n) = false := by simp; omega
  go_enter Try.func45, Try.ntmps45
  go_wp2_with fail
  go_ret
  exact ⟨rfl, grew_alloc (grew_refl _ _) _⟩

set_option maxRecDepth 100000 in
set_option maxHeartbeats 2000000 in
theorem own3_no (w : World) (s l h t : Int) (A : Option Addr) (n c : Nat) (h0 : 32 < n) :
    Calls Try.prog 45 #[.agg #[.int .i64 3, .int .i64 s, .int .i64 l, .int .i64 h, .int .i64 t, .slice A n c]] w fun e w' => e = .returned (.int .i64 15) ∧ Grew w w' none := by
  have d0 : decide ((32 : Int) < n) = true := by simp; omega
  go_enter Try.func45, Try.ntmps45
  go_wp2_with fail
  go_ret
  exact ⟨rfl, grew_alloc (grew_refl _ _) _⟩

end Go.Proofs.Ytibbeodcheefaaa

