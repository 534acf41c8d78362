/- An opaque, a list of numbers, and a rest of any lengths are right just if these rise from 0, and a length can tell the greatest: for every four numbers the law returns true. No condition. -/
import Derived.Test.YtlehehibfpbhmaaFc
import Derived.Test.YtlehehibfpbhmaaOf
import Derived.Test.YtlehehibfpbhmaaFlx
namespace Go.Proofs.Ytlehehibfpbhmaa
open Go.ChangeShapes Go.WideShapes Go.ChangeAt Go.RowKit Fo

set_option maxRecDepth 100000 in
set_option maxHeartbeats 4000000 in
theorem fl1_neg (w : World) (lo hi step : Int) (h0 : lo < 0) :
    Calls Try.prog 7 #[.agg #[.int .i64 1, .int .i64 lo, .int .i64 hi, .int .i64 step]] w fun e w' => e = .returned (.bool true) ∧ Below w.heap.size w w' := by
  have HA := Lib.hid (show chk (.mk 1 1 lo hi 1 none 0 []) = 5 from by
    rw [chk_opaque, alone_12 (by omega)]
    rw [if_pos (by omega)]
    have e0 : (256 : Int) ^ ((1 : Int).toNat) - 1 = 255 := by decide
    rw [e0]
    rw [if_neg (by omega)])
  have HB := Lib.hid (show ∀ (A : Option Addr) (c : Nat), chk (.mk 2 1 lo hi step A c [.mk 0 1 0 0 0 none 0 []]) = 5 from by
    intro A c
    rw [chk_list, alone_12 (by omega)]
    rw [if_pos (by omega)]
    have e0 : (256 : Int) ^ ((1 : Int).toNat) - 1 = 255 := by decide
    rw [e0]
    rw [if_neg (by omega)])
  have HC := Lib.hid (show chk (.mk 4 0 lo hi 0 none 0 []) = 5 from by
    rw [chk_rest]
    unfold alone
    rw [if_neg (by omega), if_pos rfl, if_neg (by omega)])
  have hsh : Op.shift .shl .i64 1 .i64 8 = pure (.int .i64 256) := by kernel_rfl
  go_enter Try.func7, Try.ntmps7
  go_wp2_with fail
  go_quiet (fail)
  have HG0 := Lib.hid (grew_drewN (grew_alloc (grew_refl w none) (.cells #[.int .i64 1, .int .i64 lo, .int .i64 hi, .int .i64 step] 28)) nq)
  generalize (w.alloc (.cells #[.int .i64 1, .int .i64 lo, .int .i64 hi, .int .i64 step] 28)).drewN nq = W0 at *
  go_wp2_with fail
  refine (opaque_any _ 1 lo hi).mono ?_
  rintro e w1 ⟨rfl, g1⟩
  have HG1 := Lib.hid (grew_trans HG0.out g1)
  clear g1
  go_wp2_with fail
  refine (check_any w1 (.mk 1 1 lo hi 1 none 0 []) (plain_in _ _ _ _ _ _)).mono ?_
  rintro e w2 ⟨rfl, g2⟩
  rw [HA.out]
  have HG2 := Lib.hid (grew_trans HG1.out g2)
  clear g2
  go_wp2_with fail
  refine (number_any w2 1).mono ?_
  rintro e w3 ⟨rfl, g3⟩
  have HG3 := Lib.hid (grew_trans HG2.out g3)
  clear g3
  go_wp2_with fail
  refine (list_any w3 1 lo hi step (.mk 0 1 0 0 0 none 0 []) (plain_in _ _ _ _ _ _)).mono ?_
  rintro e w4 ⟨A, c, rfl, h4, g4, _⟩
  have HI4 := Lib.hid h4
  have HG4 := Lib.hid (grew_trans HG3.out g4)
  clear g4 h4
  go_wp2_with fail
  refine (check_any w4 _ HI4.out).mono ?_
  rintro e w5 ⟨rfl, g5⟩
  rw [HB.out]
  have HG5 := Lib.hid (grew_trans HG4.out g5)
  clear g5
  go_wp2_with fail
  refine (rest_any w5 lo hi).mono ?_
  rintro e w6 ⟨rfl, g6⟩
  have HG6 := Lib.hid (grew_trans HG5.out g6)
  clear g6
  go_wp2_with fail
  refine (check_any w6 (.mk 4 0 lo hi 0 none 0 []) (plain_in _ _ _ _ _ _)).mono ?_
  rintro e w7 ⟨rfl, g7⟩
  rw [HC.out]
  have HG7 := Lib.hid (grew_trans HG6.out g7)
  clear g7
  go_wp2_with fail
  refine (alive4_any w7).mono ?_
  rintro e w8 ⟨rfl, g8⟩
  have HG8 := Lib.hid (grew_trans HG7.out g8)
  clear g8
  go_wp2_with fail
  go_ret
  exact ⟨rfl, grew_below HG8.out (Nat.le_refl _) (fun _ h => by cases h)⟩

set_option maxRecDepth 100000 in
set_option maxHeartbeats 4000000 in
theorem fl1_fall (w : World) (lo hi step : Int) (h0 : 0 ≤ lo) (h1 : hi < lo) :
    Calls Try.prog 7 #[.agg #[.int .i64 1, .int .i64 lo, .int .i64 hi, .int .i64 step]] w fun e w' => e = .returned (.bool true) ∧ Below w.heap.size w w' := by
  have HA := Lib.hid (show chk (.mk 1 1 lo hi 1 none 0 []) = 5 from by
    rw [chk_opaque, alone_12 (by omega)]
    rw [if_pos (by omega)]
    have e0 : (256 : Int) ^ ((1 : Int).toNat) - 1 = 255 := by decide
    rw [e0]
    rw [if_neg (by omega)])
  have HB := Lib.hid (show ∀ (A : Option Addr) (c : Nat), chk (.mk 2 1 lo hi step A c [.mk 0 1 0 0 0 none 0 []]) = 5 from by
    intro A c
    rw [chk_list, alone_12 (by omega)]
    rw [if_pos (by omega)]
    have e0 : (256 : Int) ^ ((1 : Int).toNat) - 1 = 255 := by decide
    rw [e0]
    rw [if_neg (by omega)])
  have HC := Lib.hid (show chk (.mk 4 0 lo hi 0 none 0 []) = 5 from by
    rw [chk_rest]
    unfold alone
    rw [if_neg (by omega), if_pos rfl, if_neg (by omega)])
  have hsh : Op.shift .shl .i64 1 .i64 8 = pure (.int .i64 256) := by kernel_rfl
  go_enter Try.func7, Try.ntmps7
  go_wp2_with fail
  go_quiet (fail)
  have HG0 := Lib.hid (grew_drewN (grew_alloc (grew_refl w none) (.cells #[.int .i64 1, .int .i64 lo, .int .i64 hi, .int .i64 step] 28)) nq)
  generalize (w.alloc (.cells #[.int .i64 1, .int .i64 lo, .int .i64 hi, .int .i64 step] 28)).drewN nq = W0 at *
  go_wp2_with fail
  refine (opaque_any _ 1 lo hi).mono ?_
  rintro e w1 ⟨rfl, g1⟩
  have HG1 := Lib.hid (grew_trans HG0.out g1)
  clear g1
  go_wp2_with fail
  refine (check_any w1 (.mk 1 1 lo hi 1 none 0 []) (plain_in _ _ _ _ _ _)).mono ?_
  rintro e w2 ⟨rfl, g2⟩
  rw [HA.out]
  have HG2 := Lib.hid (grew_trans HG1.out g2)
  clear g2
  go_wp2_with fail
  refine (number_any w2 1).mono ?_
  rintro e w3 ⟨rfl, g3⟩
  have HG3 := Lib.hid (grew_trans HG2.out g3)
  clear g3
  go_wp2_with fail
  refine (list_any w3 1 lo hi step (.mk 0 1 0 0 0 none 0 []) (plain_in _ _ _ _ _ _)).mono ?_
  rintro e w4 ⟨A, c, rfl, h4, g4, _⟩
  have HI4 := Lib.hid h4
  have HG4 := Lib.hid (grew_trans HG3.out g4)
  clear g4 h4
  go_wp2_with fail
  refine (check_any w4 _ HI4.out).mono ?_
  rintro e w5 ⟨rfl, g5⟩
  rw [HB.out]
  have HG5 := Lib.hid (grew_trans HG4.out g5)
  clear g5
  go_wp2_with fail
  refine (rest_any w5 lo hi).mono ?_
  rintro e w6 ⟨rfl, g6⟩
  have HG6 := Lib.hid (grew_trans HG5.out g6)
  clear g6
  go_wp2_with fail
  refine (check_any w6 (.mk 4 0 lo hi 0 none 0 []) (plain_in _ _ _ _ _ _)).mono ?_
  rintro e w7 ⟨rfl, g7⟩
  rw [HC.out]
  have HG7 := Lib.hid (grew_trans HG6.out g7)
  clear g7
  go_wp2_with fail
  refine (alive4_any w7).mono ?_
  rintro e w8 ⟨rfl, g8⟩
  have HG8 := Lib.hid (grew_trans HG7.out g8)
  clear g8
  go_wp2_with fail
  go_ret
  exact ⟨rfl, grew_below HG8.out (Nat.le_refl _) (fun _ h => by cases h)⟩

set_option maxRecDepth 100000 in
set_option maxHeartbeats 4000000 in
theorem fl1_ok (w : World) (lo hi step : Int) (h0 : 0 ≤ lo) (h1 : lo ≤ hi) (h2 : hi < 256) (h3 : 1 ≤ step) (h4 : step ≤ 65536) :
    Calls Try.prog 7 #[.agg #[.int .i64 1, .int .i64 lo, .int .i64 hi, .int .i64 step]] w fun e w' => e = .returned (.bool true) ∧ Below w.heap.size w w' := by
  have HA := Lib.hid (show chk (.mk 1 1 lo hi 1 none 0 []) = 0 from by
    rw [chk_opaque, alone_12 (by omega)]
    rw [if_pos (by omega)]
    have e0 : (256 : Int) ^ ((1 : Int).toNat) - 1 = 255 := by decide
    rw [e0]
    rw [if_pos (by omega), if_neg (by omega)])
  have HB := Lib.hid (show ∀ (A : Option Addr) (c : Nat), chk (.mk 2 1 lo hi step A c [.mk 0 1 0 0 0 none 0 []]) = 0 from by
    intro A c
    rw [chk_list, alone_12 (by omega)]
    rw [if_pos (by omega)]
    have e0 : (256 : Int) ^ ((1 : Int).toNat) - 1 = 255 := by decide
    rw [e0]
    rw [if_pos (by omega), if_neg (by omega)])
  have HC := Lib.hid (show chk (.mk 4 0 lo hi 0 none 0 []) = 0 from by
    rw [chk_rest]
    unfold alone
    rw [if_neg (by omega), if_pos rfl, if_pos (by omega)])
  have hsh : Op.shift .shl .i64 1 .i64 8 = pure (.int .i64 256) := by kernel_rfl
  go_enter Try.func7, Try.ntmps7
  go_wp2_with fail
  go_quiet (fail)
  have HG0 := Lib.hid (grew_drewN (grew_alloc (grew_refl w none) (.cells #[.int .i64 1, .int .i64 lo, .int .i64 hi, .int .i64 step] 28)) nq)
  generalize (w.alloc (.cells #[.int .i64 1, .int .i64 lo, .int .i64 hi, .int .i64 step] 28)).drewN nq = W0 at *
  go_wp2_with fail
  refine (opaque_any _ 1 lo hi).mono ?_
  rintro e w1 ⟨rfl, g1⟩
  have HG1 := Lib.hid (grew_trans HG0.out g1)
  clear g1
  go_wp2_with fail
  refine (check_any w1 (.mk 1 1 lo hi 1 none 0 []) (plain_in _ _ _ _ _ _)).mono ?_
  rintro e w2 ⟨rfl, g2⟩
  rw [HA.out]
  have HG2 := Lib.hid (grew_trans HG1.out g2)
  clear g2
  go_wp2_with fail
  refine (number_any w2 1).mono ?_
  rintro e w3 ⟨rfl, g3⟩
  have HG3 := Lib.hid (grew_trans HG2.out g3)
  clear g3
  go_wp2_with fail
  refine (list_any w3 1 lo hi step (.mk 0 1 0 0 0 none 0 []) (plain_in _ _ _ _ _ _)).mono ?_
  rintro e w4 ⟨A, c, rfl, h4, g4, _⟩
  have HI4 := Lib.hid h4
  have HG4 := Lib.hid (grew_trans HG3.out g4)
  clear g4 h4
  go_wp2_with fail
  refine (check_any w4 _ HI4.out).mono ?_
  rintro e w5 ⟨rfl, g5⟩
  rw [HB.out]
  have HG5 := Lib.hid (grew_trans HG4.out g5)
  clear g5
  go_wp2_with fail
  refine (rest_any w5 lo hi).mono ?_
  rintro e w6 ⟨rfl, g6⟩
  have HG6 := Lib.hid (grew_trans HG5.out g6)
  clear g6
  go_wp2_with fail
  refine (check_any w6 (.mk 4 0 lo hi 0 none 0 []) (plain_in _ _ _ _ _ _)).mono ?_
  rintro e w7 ⟨rfl, g7⟩
  rw [HC.out]
  have HG7 := Lib.hid (grew_trans HG6.out g7)
  clear g7
  go_wp2_with fail
  refine (alive4_any w7).mono ?_
  rintro e w8 ⟨rfl, g8⟩
  have HG8 := Lib.hid (grew_trans HG7.out g8)
  clear g8
  go_wp2_with fail
  go_ret
  exact ⟨rfl, grew_below HG8.out (Nat.le_refl _) (fun _ h => by cases h)⟩

set_option maxRecDepth 100000 in
set_option maxHeartbeats 4000000 in
theorem fl1_low (w : World) (lo hi step : Int) (h0 : 0 ≤ lo) (h1 : lo ≤ hi) (h2 : hi < 256) (h3 : step < 1) :
    Calls Try.prog 7 #[.agg #[.int .i64 1, .int .i64 lo, .int .i64 hi, .int .i64 step]] w fun e w' => e = .returned (.bool true) ∧ Below w.heap.size w w' := by
  have HA := Lib.hid (show chk (.mk 1 1 lo hi 1 none 0 []) = 0 from by
    rw [chk_opaque, alone_12 (by omega)]
    rw [if_pos (by omega)]
    have e0 : (256 : Int) ^ ((1 : Int).toNat) - 1 = 255 := by decide
    rw [e0]
    rw [if_pos (by omega), if_neg (by omega)])
  have HB := Lib.hid (show ∀ (A : Option Addr) (c : Nat), chk (.mk 2 1 lo hi step A c [.mk 0 1 0 0 0 none 0 []]) = 5 from by
    intro A c
    rw [chk_list, alone_12 (by omega)]
    rw [if_pos (by omega)]
    have e0 : (256 : Int) ^ ((1 : Int).toNat) - 1 = 255 := by decide
    rw [e0]
    rw [if_neg (by omega)])
  have HC := Lib.hid (show chk (.mk 4 0 lo hi 0 none 0 []) = 0 from by
    rw [chk_rest]
    unfold alone
    rw [if_neg (by omega), if_pos rfl, if_pos (by omega)])
  have hsh : Op.shift .shl .i64 1 .i64 8 = pure (.int .i64 256) := by kernel_rfl
  go_enter Try.func7, Try.ntmps7
  go_wp2_with fail
  go_quiet (fail)
  have HG0 := Lib.hid (grew_drewN (grew_alloc (grew_refl w none) (.cells #[.int .i64 1, .int .i64 lo, .int .i64 hi, .int .i64 step] 28)) nq)
  generalize (w.alloc (.cells #[.int .i64 1, .int .i64 lo, .int .i64 hi, .int .i64 step] 28)).drewN nq = W0 at *
  go_wp2_with fail
  refine (opaque_any _ 1 lo hi).mono ?_
  rintro e w1 ⟨rfl, g1⟩
  have HG1 := Lib.hid (grew_trans HG0.out g1)
  clear g1
  go_wp2_with fail
  refine (check_any w1 (.mk 1 1 lo hi 1 none 0 []) (plain_in _ _ _ _ _ _)).mono ?_
  rintro e w2 ⟨rfl, g2⟩
  rw [HA.out]
  have HG2 := Lib.hid (grew_trans HG1.out g2)
  clear g2
  go_wp2_with fail
  refine (number_any w2 1).mono ?_
  rintro e w3 ⟨rfl, g3⟩
  have HG3 := Lib.hid (grew_trans HG2.out g3)
  clear g3
  go_wp2_with fail
  refine (list_any w3 1 lo hi step (.mk 0 1 0 0 0 none 0 []) (plain_in _ _ _ _ _ _)).mono ?_
  rintro e w4 ⟨A, c, rfl, h4, g4, _⟩
  have HI4 := Lib.hid h4
  have HG4 := Lib.hid (grew_trans HG3.out g4)
  clear g4 h4
  go_wp2_with fail
  refine (check_any w4 _ HI4.out).mono ?_
  rintro e w5 ⟨rfl, g5⟩
  rw [HB.out]
  have HG5 := Lib.hid (grew_trans HG4.out g5)
  clear g5
  go_wp2_with fail
  refine (rest_any w5 lo hi).mono ?_
  rintro e w6 ⟨rfl, g6⟩
  have HG6 := Lib.hid (grew_trans HG5.out g6)
  clear g6
  go_wp2_with fail
  refine (check_any w6 (.mk 4 0 lo hi 0 none 0 []) (plain_in _ _ _ _ _ _)).mono ?_
  rintro e w7 ⟨rfl, g7⟩
  rw [HC.out]
  have HG7 := Lib.hid (grew_trans HG6.out g7)
  clear g7
  go_wp2_with fail
  refine (alive4_any w7).mono ?_
  rintro e w8 ⟨rfl, g8⟩
  have HG8 := Lib.hid (grew_trans HG7.out g8)
  clear g8
  go_wp2_with fail
  go_ret
  exact ⟨rfl, grew_below HG8.out (Nat.le_refl _) (fun _ h => by cases h)⟩

set_option maxRecDepth 100000 in
set_option maxHeartbeats 4000000 in
theorem fl1_high (w : World) (lo hi step : Int) (h0 : 0 ≤ lo) (h1 : lo ≤ hi) (h2 : hi < 256) (h3 : 65536 < step) :
    Calls Try.prog 7 #[.agg #[.int .i64 1, .int .i64 lo, .int .i64 hi, .int .i64 step]] w fun e w' => e = .returned (.bool true) ∧ Below w.heap.size w w' := by
  have HA := Lib.hid (show chk (.mk 1 1 lo hi 1 none 0 []) = 0 from by
    rw [chk_opaque, alone_12 (by omega)]
    rw [if_pos (by omega)]
    have e0 : (256 : Int) ^ ((1 : Int).toNat) - 1 = 255 := by decide
    rw [e0]
    rw [if_pos (by omega), if_neg (by omega)])
  have HB := Lib.hid (show ∀ (A : Option Addr) (c : Nat), chk (.mk 2 1 lo hi step A c [.mk 0 1 0 0 0 none 0 []]) = 5 from by
    intro A c
    rw [chk_list, alone_12 (by omega)]
    rw [if_pos (by omega)]
    have e0 : (256 : Int) ^ ((1 : Int).toNat) - 1 = 255 := by decide
    rw [e0]
    rw [if_neg (by omega)])
  have HC := Lib.hid (show chk (.mk 4 0 lo hi 0 none 0 []) = 0 from by
    rw [chk_rest]
    unfold alone
    rw [if_neg (by omega), if_pos rfl, if_pos (by omega)])
  have hsh : Op.shift .shl .i64 1 .i64 8 = pure (.int .i64 256) := by kernel_rfl
  go_enter Try.func7, Try.ntmps7
  go_wp2_with fail
  go_quiet (fail)
  have HG0 := Lib.hid (grew_drewN (grew_alloc (grew_refl w none) (.cells #[.int .i64 1, .int .i64 lo, .int .i64 hi, .int .i64 step] 28)) nq)
  generalize (w.alloc (.cells #[.int .i64 1, .int .i64 lo, .int .i64 hi, .int .i64 step] 28)).drewN nq = W0 at *
  go_wp2_with fail
  refine (opaque_any _ 1 lo hi).mono ?_
  rintro e w1 ⟨rfl, g1⟩
  have HG1 := Lib.hid (grew_trans HG0.out g1)
  clear g1
  go_wp2_with fail
  refine (check_any w1 (.mk 1 1 lo hi 1 none 0 []) (plain_in _ _ _ _ _ _)).mono ?_
  rintro e w2 ⟨rfl, g2⟩
  rw [HA.out]
  have HG2 := Lib.hid (grew_trans HG1.out g2)
  clear g2
  go_wp2_with fail
  refine (number_any w2 1).mono ?_
  rintro e w3 ⟨rfl, g3⟩
  have HG3 := Lib.hid (grew_trans HG2.out g3)
  clear g3
  go_wp2_with fail
  refine (list_any w3 1 lo hi step (.mk 0 1 0 0 0 none 0 []) (plain_in _ _ _ _ _ _)).mono ?_
  rintro e w4 ⟨A, c, rfl, h4, g4, _⟩
  have HI4 := Lib.hid h4
  have HG4 := Lib.hid (grew_trans HG3.out g4)
  clear g4 h4
  go_wp2_with fail
  refine (check_any w4 _ HI4.out).mono ?_
  rintro e w5 ⟨rfl, g5⟩
  rw [HB.out]
  have HG5 := Lib.hid (grew_trans HG4.out g5)
  clear g5
  go_wp2_with fail
  refine (rest_any w5 lo hi).mono ?_
  rintro e w6 ⟨rfl, g6⟩
  have HG6 := Lib.hid (grew_trans HG5.out g6)
  clear g6
  go_wp2_with fail
  refine (check_any w6 (.mk 4 0 lo hi 0 none 0 []) (plain_in _ _ _ _ _ _)).mono ?_
  rintro e w7 ⟨rfl, g7⟩
  rw [HC.out]
  have HG7 := Lib.hid (grew_trans HG6.out g7)
  clear g7
  go_wp2_with fail
  refine (alive4_any w7).mono ?_
  rintro e w8 ⟨rfl, g8⟩
  have HG8 := Lib.hid (grew_trans HG7.out g8)
  clear g8
  go_wp2_with fail
  go_ret
  exact ⟨rfl, grew_below HG8.out (Nat.le_refl _) (fun _ h => by cases h)⟩

set_option maxRecDepth 100000 in
set_option maxHeartbeats 4000000 in
theorem fl1_big (w : World) (lo hi step : Int) (h0 : 0 ≤ lo) (h1 : lo ≤ hi) (h2 : 256 ≤ hi) (h3 : hi ≤ 16777215) :
    Calls Try.prog 7 #[.agg #[.int .i64 1, .int .i64 lo, .int .i64 hi, .int .i64 step]] w fun e w' => e = .returned (.bool true) ∧ Below w.heap.size w w' := by
  have HA := Lib.hid (show chk (.mk 1 1 lo hi 1 none 0 []) = 5 from by
    rw [chk_opaque, alone_12 (by omega)]
    rw [if_pos (by omega)]
    have e0 : (256 : Int) ^ ((1 : Int).toNat) - 1 = 255 := by decide
    rw [e0]
    rw [if_neg (by omega)])
  have HB := Lib.hid (show ∀ (A : Option Addr) (c : Nat), chk (.mk 2 1 lo hi step A c [.mk 0 1 0 0 0 none 0 []]) = 5 from by
    intro A c
    rw [chk_list, alone_12 (by omega)]
    rw [if_pos (by omega)]
    have e0 : (256 : Int) ^ ((1 : Int).toNat) - 1 = 255 := by decide
    rw [e0]
    rw [if_neg (by omega)])
  have HC := Lib.hid (show chk (.mk 4 0 lo hi 0 none 0 []) = 0 from by
    rw [chk_rest]
    unfold alone
    rw [if_neg (by omega), if_pos rfl, if_pos (by omega)])
  have hsh : Op.shift .shl .i64 1 .i64 8 = pure (.int .i64 256) := by kernel_rfl
  go_enter Try.func7, Try.ntmps7
  go_wp2_with fail
  go_quiet (fail)
  have HG0 := Lib.hid (grew_drewN (grew_alloc (grew_refl w none) (.cells #[.int .i64 1, .int .i64 lo, .int .i64 hi, .int .i64 step] 28)) nq)
  generalize (w.alloc (.cells #[.int .i64 1, .int .i64 lo, .int .i64 hi, .int .i64 step] 28)).drewN nq = W0 at *
  go_wp2_with fail
  refine (opaque_any _ 1 lo hi).mono ?_
  rintro e w1 ⟨rfl, g1⟩
  have HG1 := Lib.hid (grew_trans HG0.out g1)
  clear g1
  go_wp2_with fail
  refine (check_any w1 (.mk 1 1 lo hi 1 none 0 []) (plain_in _ _ _ _ _ _)).mono ?_
  rintro e w2 ⟨rfl, g2⟩
  rw [HA.out]
  have HG2 := Lib.hid (grew_trans HG1.out g2)
  clear g2
  go_wp2_with fail
  refine (number_any w2 1).mono ?_
  rintro e w3 ⟨rfl, g3⟩
  have HG3 := Lib.hid (grew_trans HG2.out g3)
  clear g3
  go_wp2_with fail
  refine (list_any w3 1 lo hi step (.mk 0 1 0 0 0 none 0 []) (plain_in _ _ _ _ _ _)).mono ?_
  rintro e w4 ⟨A, c, rfl, h4, g4, _⟩
  have HI4 := Lib.hid h4
  have HG4 := Lib.hid (grew_trans HG3.out g4)
  clear g4 h4
  go_wp2_with fail
  refine (check_any w4 _ HI4.out).mono ?_
  rintro e w5 ⟨rfl, g5⟩
  rw [HB.out]
  have HG5 := Lib.hid (grew_trans HG4.out g5)
  clear g5
  go_wp2_with fail
  refine (rest_any w5 lo hi).mono ?_
  rintro e w6 ⟨rfl, g6⟩
  have HG6 := Lib.hid (grew_trans HG5.out g6)
  clear g6
  go_wp2_with fail
  refine (check_any w6 (.mk 4 0 lo hi 0 none 0 []) (plain_in _ _ _ _ _ _)).mono ?_
  rintro e w7 ⟨rfl, g7⟩
  rw [HC.out]
  have HG7 := Lib.hid (grew_trans HG6.out g7)
  clear g7
  go_wp2_with fail
  refine (alive4_any w7).mono ?_
  rintro e w8 ⟨rfl, g8⟩
  have HG8 := Lib.hid (grew_trans HG7.out g8)
  clear g8
  go_wp2_with fail
  go_ret
  exact ⟨rfl, grew_below HG8.out (Nat.le_refl _) (fun _ h => by cases h)⟩

set_option maxRecDepth 100000 in
set_option maxHeartbeats 4000000 in
theorem fl1_huge (w : World) (lo hi step : Int) (h0 : 0 ≤ lo) (h1 : lo ≤ hi) (h2 : 256 ≤ hi) (h3 : 16777215 < hi) :
    Calls Try.prog 7 #[.agg #[.int .i64 1, .int .i64 lo, .int .i64 hi, .int .i64 step]] w fun e w' => e = .returned (.bool true) ∧ Below w.heap.size w w' := by
  have HA := Lib.hid (show chk (.mk 1 1 lo hi 1 none 0 []) = 5 from by
    rw [chk_opaque, alone_12 (by omega)]
    rw [if_pos (by omega)]
    have e0 : (256 : Int) ^ ((1 : Int).toNat) - 1 = 255 := by decide
    rw [e0]
    rw [if_neg (by omega)])
  have HB := Lib.hid (show ∀ (A : Option Addr) (c : Nat), chk (.mk 2 1 lo hi step A c [.mk 0 1 0 0 0 none 0 []]) = 5 from by
    intro A c
    rw [chk_list, alone_12 (by omega)]
    rw [if_pos (by omega)]
    have e0 : (256 : Int) ^ ((1 : Int).toNat) - 1 = 255 := by decide
    rw [e0]
    rw [if_neg (by omega)])
  have HC := Lib.hid (show chk (.mk 4 0 lo hi 0 none 0 []) = 5 from by
    rw [chk_rest]
    unfold alone
    rw [if_neg (by omega), if_pos rfl, if_neg (by omega)])
  have hsh : Op.shift .shl .i64 1 .i64 8 = pure (.int .i64 256) := by kernel_rfl
  have hd16 : decide (hi ≤ 16777215) = false := by simp; omega
  go_enter Try.func7, Try.ntmps7
  go_wp2_with fail
  go_quiet (fail)
  have HG0 := Lib.hid (grew_drewN (grew_alloc (grew_refl w none) (.cells #[.int .i64 1, .int .i64 lo, .int .i64 hi, .int .i64 step] 28)) nq)
  generalize (w.alloc (.cells #[.int .i64 1, .int .i64 lo, .int .i64 hi, .int .i64 step] 28)).drewN nq = W0 at *
  go_wp2_with fail
  refine (opaque_any _ 1 lo hi).mono ?_
  rintro e w1 ⟨rfl, g1⟩
  have HG1 := Lib.hid (grew_trans HG0.out g1)
  clear g1
  go_wp2_with fail
  refine (check_any w1 (.mk 1 1 lo hi 1 none 0 []) (plain_in _ _ _ _ _ _)).mono ?_
  rintro e w2 ⟨rfl, g2⟩
  rw [HA.out]
  have HG2 := Lib.hid (grew_trans HG1.out g2)
  clear g2
  go_wp2_with fail
  refine (number_any w2 1).mono ?_
  rintro e w3 ⟨rfl, g3⟩
  have HG3 := Lib.hid (grew_trans HG2.out g3)
  clear g3
  go_wp2_with fail
  refine (list_any w3 1 lo hi step (.mk 0 1 0 0 0 none 0 []) (plain_in _ _ _ _ _ _)).mono ?_
  rintro e w4 ⟨A, c, rfl, h4, g4, _⟩
  have HI4 := Lib.hid h4
  have HG4 := Lib.hid (grew_trans HG3.out g4)
  clear g4 h4
  go_wp2_with fail
  refine (check_any w4 _ HI4.out).mono ?_
  rintro e w5 ⟨rfl, g5⟩
  rw [HB.out]
  have HG5 := Lib.hid (grew_trans HG4.out g5)
  clear g5
  go_wp2_with fail
  refine (rest_any w5 lo hi).mono ?_
  rintro e w6 ⟨rfl, g6⟩
  have HG6 := Lib.hid (grew_trans HG5.out g6)
  clear g6
  go_wp2_with fail
  refine (check_any w6 (.mk 4 0 lo hi 0 none 0 []) (plain_in _ _ _ _ _ _)).mono ?_
  rintro e w7 ⟨rfl, g7⟩
  rw [HC.out]
  have HG7 := Lib.hid (grew_trans HG6.out g7)
  clear g7
  go_wp2_with fail
  refine (alive4_any w7).mono ?_
  rintro e w8 ⟨rfl, g8⟩
  have HG8 := Lib.hid (grew_trans HG7.out g8)
  clear g8
  go_wp2_with fail
  go_ret
  exact ⟨rfl, grew_below HG8.out (Nat.le_refl _) (fun _ h => by cases h)⟩

end Go.Proofs.Ytlehehibfpbhmaa

