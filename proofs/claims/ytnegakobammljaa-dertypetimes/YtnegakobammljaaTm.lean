/- The package's own times: digits, years, days, moments. -/
import Derived.Test.YtnegakobammljaaTr1
import Derived.Test.YtnegakobammljaaTr
import Derived.Deep.QuietTactic
namespace Go.Proofs.Ytnegakobammljaa
open Go.RowKit

set_option maxRecDepth 100000 in
set_option maxHeartbeats 600000 in
theorem decimal_any (w : World) (A : Option Addr) (c : Nat) (xs : List UInt8) (hb : Byt w w.heap.size A xs) (hl : xs.length ≤ 4) :
    Calls Try.prog 38 #[.slice A xs.length c] w fun e w' => e = .returned (.tuple #[.int .i64 (if 0 ≤ dgs xs then dgs xs else 0), .bool (decide (0 ≤ dgs xs))]) ∧ w' = w := by
  obtain ⟨L, hL⟩ : ∃ L, xs.length = L := ⟨_, rfl⟩
  rw [hL] at hl ⊢
  have HB := Lib.hid hb
  have HL := Lib.hid hL
  clear hb hL
  obtain ⟨R, hR⟩ : ∃ R, (if 0 ≤ dgs xs then dgs xs else 0) = R := ⟨_, rfl⟩
  obtain ⟨S, hS⟩ : ∃ S, decide (0 ≤ dgs xs) = S := ⟨_, rfl⟩
  rw [hR, hS]
  have HRS := Lib.hid (And.intro hR hS)
  clear hR hS
  go_enter Try.func38, Try.ntmps38
  go_wp2_with fail
  go_loopw [4, 9] (fun n i wr => ∃ (j : Nat) (m : Nat), j ≤ L ∧ Hid (m < 10 ^ j) ∧ i = .int .i64 j ∧ n = .int .i64 m ∧ Hid (dgs xs = dgF m (xs.drop j)) ∧ wr = w) (fun _ i _ => L - (intOf i).toNat)
  case atStart => exact ⟨0, 0, Nat.zero_le _, Lib.hid (by decide), rfl, rfl, Lib.hid (by rw [List.drop_zero]; rfl), rfl⟩
  case round =>
    obtain ⟨j, m, hj, hm, rfl, rfl, hd, hwr⟩ := hrel
    obtain rfl : w = wr := hwr.symm
    clear hwr
    have hm4 : m < 10000 := Nat.lt_of_lt_of_le hm.out (Nat.pow_le_pow_right (by omega) (by omega : j ≤ 4))
    by_cases hlt : j < L
    · obtain ⟨b, o, rfl, -, hc⟩ := HB.out (by rw [HL.out]; omega)
      obtain ⟨x, hx⟩ : ∃ x, xs.getD j 0 = x := ⟨_, rfl⟩
      obtain ⟨d, hdd⟩ : ∃ d, x.toNat = d := ⟨_, rfl⟩
      have hd256 : d < 256 := by rw [← hdd]; exact x.toNat_lt
      have c1 : w.cell? ⟨b, o + j, none⟩ = some (.int .u8 (d : Int)) := by rw [hc j (by rw [HL.out]; omega), hx, hdd]
      have hd2 := hd.out
      rw [getD_take_drop (by rw [HL.out]; omega), hx] at hd2
      have e1 : dgF m (x :: xs.drop (j + 1)) = if d < 48 ∨ 57 < d then -1 else dgF (10 * m + (d - 48)) (xs.drop (j + 1)) := by rw [← hdd]; rfl
      rw [e1] at hd2
      clear e1 hc hx hdd hd
      by_cases g1 : d < 48
      · rw [if_pos (.inl g1)] at hd2
        have g1' : (d : Int) < 48 := by omega
        obtain ⟨rfl, rfl⟩ : 0 = R ∧ false = S := by have := HRS.out; rw [hd2] at this; exact this
        clear hd2 hm hm4
        go_wp2_with fail
        go_ret2
        exact ⟨rfl, rfl⟩
      · by_cases g2 : 57 < d
        · rw [if_pos (.inr g2)] at hd2
          have g1' : ¬ (d : Int) < 48 := by omega
          have g2' : 57 < (d : Int) := by omega
          obtain ⟨rfl, rfl⟩ : 0 = R ∧ false = S := by have := HRS.out; rw [hd2] at this; exact this
          clear hd2 hm hm4
          go_wp2_with fail
          go_ret2
          exact ⟨rfl, rfl⟩
        · rw [if_neg (by omega)] at hd2
          have HD := Lib.hid hd2
          have g1' : ¬ (d : Int) < 48 := by omega
          have g2' : ¬ 57 < (d : Int) := by omega
          have f0 : ((d : Int) - 48) % 256 = ((d - 48 : Nat) : Int) := by omega
          have f1 : IntKind.i64.wrap ((d - 48 : Nat) : Int) = ((d - 48 : Nat) : Int) := by clear f0; rw [IntWalk.i64_left, IntWalk.wrap64_in _ (by omega)]
          have f2 : wrap64 (10 * (m : Int)) = 10 * (m : Int) := IntWalk.wrap64_in _ (by clear f0 f1; omega)
          have f3 : wrap64 (10 * (m : Int) + ((d : Int) - 48)) = ((10 * m + (d - 48) : Nat) : Int) := by clear f0 f1 f2; rw [IntWalk.wrap64_in _ (by omega)]; omega
          have HM := Lib.hid (show 10 * m + (d - 48) < 10 ^ (j + 1) by clear f0 f1 f2 f3; have := hm.out; rw [Nat.pow_succ]; omega)
          clear hd2 hm hm4
          go_wp2_with fail
          go_roundw
          case rel => exact ⟨j + 1, 10 * m + (d - 48), hlt, HM, rfl, by rw [f3], HD, trivial⟩
          case measure => simp [intOf]; omega
    · obtain rfl : j = L := by omega
      have hd2 := hd.out
      rw [List.drop_of_length_le (by rw [HL.out]; omega)] at hd2
      have hd3 : dgs xs = (m : Int) := hd2
      obtain ⟨rfl, rfl⟩ : (m : Int) = R ∧ true = S := by
        have := HRS.out
        rw [hd3, if_pos (by omega), decide_eq_true (by omega)] at this
        exact this
      clear hd hd2 hm hm4 hd3
      go_wp2_with fail
      go_ret2
      exact ⟨rfl, rfl⟩

set_option maxRecDepth 100000 in
theorem wholeyear_any (w : World) (y : Int) (h0 : 0 ≤ y) (h1 : y ≤ 99) : Calls Try.prog 39 #[.int .i64 y] w fun e w' => e = .returned (.int .i64 (tyY 23 y)) ∧ w' = w := by
  have e1 : wrap64 (1900 + y) = 1900 + y := IntWalk.wrap64_in _ (by omega)
  have e2 : wrap64 (2000 + y) = 2000 + y := IntWalk.wrap64_in _ (by clear e1; omega)
  by_cases h : 50 ≤ y
  · have e : tyY 23 y = 1900 + y := by unfold tyY; rw [if_pos rfl, if_pos h, Int.add_comm]
    rw [e]
    clear e
    go_enter Try.func39, Try.ntmps39
    go_wp2_with fail
    go_ret
    exact ⟨by simp, rfl⟩
  · have e : tyY 23 y = 2000 + y := by unfold tyY; rw [if_pos rfl, if_neg h, Int.add_comm]
    rw [e]
    clear e
    go_enter Try.func39, Try.ntmps39
    go_wp2_with fail
    go_ret
    exact ⟨by simp, rfl⟩

set_option maxRecDepth 100000 in
set_option maxHeartbeats 400000 in
theorem isleap_any (w : World) (y : Int) (hy : 0 ≤ y) : Calls Try.prog 43 #[.int .i64 y] w fun e w' => e = .returned (.bool (lp y)) ∧ w' = w := by
  have t4 : y.tmod 4 = y % 4 := Int.tmod_eq_emod_of_nonneg hy
  have t100 : y.tmod 100 = y % 100 := Int.tmod_eq_emod_of_nonneg hy
  have t400 : y.tmod 400 = y % 400 := Int.tmod_eq_emod_of_nonneg hy
  unfold lp
  rw [← t4, ← t100, ← t400]
  clear t4 t100 t400 hy
  cases h4 : (y.tmod 4 == 0) <;> cases h100 : (y.tmod 100 != 0) <;> cases h400 : (y.tmod 400 == 0)
  all_goals
    go_enter Try.func43, Try.ntmps43
    go_wp2_with fail
    go_ret
    exact ⟨rfl, rfl⟩

set_option maxRecDepth 100000 in
set_option maxHeartbeats 400000 in
theorem daysof_any (w : World) (y m : Int) (hy : 0 ≤ y) : Calls Try.prog 42 #[.int .i64 y, .int .i64 m] w fun e w' => e = .returned (.int .i64 (dys y m)) ∧ w' = w := by
  have HL := Lib.hid (isleap_any w y hy)
  clear hy
  by_cases h1 : m = 4 ∨ m = 6 ∨ m = 9 ∨ m = 11
  · have e : dys y m = 30 := by unfold dys; rw [if_pos h1]
    rw [e]
    clear e HL
    rcases h1 with rfl | rfl | rfl | rfl
    all_goals
      go_enter Try.func42, Try.ntmps42
      go_wp2_with fail
      go_ret
      exact ⟨rfl, rfl⟩
  · by_cases h2 : m = 2
    · subst h2
      have e : dys y 2 = if lp y then 29 else 28 := by unfold dys; rw [if_neg (by decide), if_pos rfl]
      rw [e]
      clear e h1
      cases hl : lp y
      all_goals
        rw [hl] at HL
        clear hl
        go_enter Try.func42, Try.ntmps42
        go_wp2_with fail
        refine HL.out.mono ?_
        rintro e w' ⟨rfl, hw⟩
        obtain rfl : w = w' := hw.symm
        clear hw HL
        go_wp2_with fail
        go_ret
        exact ⟨rfl, rfl⟩
    · have e : dys y m = 31 := by unfold dys; rw [if_neg h1, if_neg h2]
      have k1 : (m == 4) = false := beq_eq_false_iff_ne.2 (fun h => h1 (.inl h))
      have k2 : (m == 6) = false := beq_eq_false_iff_ne.2 (fun h => h1 (.inr (.inl h)))
      have k3 : (m == 9) = false := beq_eq_false_iff_ne.2 (fun h => h1 (.inr (.inr (.inl h))))
      have k4 : (m == 11) = false := beq_eq_false_iff_ne.2 (fun h => h1 (.inr (.inr (.inr h))))
      have k5 : (m == 2) = false := beq_eq_false_iff_ne.2 h2
      rw [e]
      clear e h1 h2 HL
      go_enter Try.func42, Try.ntmps42
      go_wp2_with fail
      go_ret
      exact ⟨rfl, rfl⟩
end Go.Proofs.Ytnegakobammljaa

