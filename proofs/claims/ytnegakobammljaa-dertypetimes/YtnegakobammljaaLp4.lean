/- Bits: what the chapter's words tell of bytes whose last one was turned; dates: what they tell of days and years. -/
import Derived.Test.YtnegakobammljaaLp2
import Derived.Test.YtnegakobammljaaLp3
namespace Go.Proofs.Ytnegakobammljaa
open Go.RowKit

theorem clear_bits : ∀ k, k < 8 → ∀ n, n < 256 → bits BinOp.andNot IntKind.u8 ((n : Nat) : Int) ((2 ^ k - 1 : Nat) : Int) = ((n - n % 2 ^ k : Nat) : Int) := by decide +kernel
theorem set_bit : ∀ k, k < 8 → ∀ j, j < k → ∀ n, n < 256 → n % 2 ^ k = 0 → bits BinOp.or IntKind.u8 ((n : Nat) : Int) ((2 ^ j : Nat) : Int) = ((n + 2 ^ j : Nat) : Int) ∧ n + 2 ^ j < 256 := by decide +kernel
theorem cleared : ∀ k, k < 8 → ∀ n, n < 256 → (n - n % 2 ^ k) % 2 ^ k = 0 := by decide +kernel
theorem btF_yes (k n : Nat) (h : n % 2 ^ k = 0) : btF k n = true := by rw [btF_mod]; simpa using h
theorem btF_bit (k j n : Nat) (hj : j < k) (h : n % 2 ^ k = 0) : btF k (n + 2 ^ j) = false := by
  rw [btF_mod]
  have h1 : 2 ^ j < 2 ^ k := Nat.pow_lt_pow_right (by omega) hj
  have h2 : 0 < 2 ^ j := Nat.pow_pos (by omega)
  have h3 : (n + 2 ^ j) % 2 ^ k = 2 ^ j := by rw [Nat.add_mod, h, Nat.zero_add, Nat.mod_mod, Nat.mod_eq_of_lt h1]
  rw [h3]
  simp
theorem last_set : ∀ (xs : List UInt8) (k y : UInt8), ((k :: xs).set xs.length y).getLastD 0 = y
  | [], _, _ => rfl
  | x :: xs, k, y => by
    have := last_set xs x y
    show ((k :: (x :: xs).set xs.length y).getLastD 0) = y
    cases h : (x :: xs).set xs.length y with
    | nil => rw [h] at this; have hl := congrArg List.length h; simp at hl
    | cons a r => rw [h] at this; exact this
theorem bt_set (k : UInt8) (xs : List UInt8) (y : UInt8) (hx : 0 < xs.length) (hk : k.toNat ≤ 7) : bt ((k :: xs).set xs.length y) = btF k.toNat y.toNat := by
  have hl := last_set xs k y
  obtain ⟨x, xs, rfl⟩ : ∃ a r, xs = a :: r := by
    cases xs with
    | nil => simp at hx
    | cons a r => exact ⟨a, r, rfl⟩
  have e : (k :: x :: xs).set (x :: xs).length y = k :: (x :: xs).set xs.length y := rfl
  rw [e] at hl ⊢
  have hne : ((x :: xs).set xs.length y).isEmpty = false := by
    cases h : (x :: xs).set xs.length y with
    | nil => have hl := congrArg List.length h; simp at hl
    | cons a r => rfl
  show (if 7 < k.toNat then false else if ((x :: xs).set xs.length y).isEmpty = true then k.toNat == 0 else btF k.toNat ((k :: (x :: xs).set xs.length y).getLastD 0).toNat) = _
  rw [if_neg (by omega), hne, hl]
  rfl
theorem bt_nil : bt [] = false := rfl
theorem bt_zero : bt [0] = true := rfl
theorem bt_odd (x : UInt8) (h : x.toNat % 2 = 1) : bt [x] = false := by
  show (if 7 < x.toNat then false else if ([] : List UInt8).isEmpty = true then x.toNat == 0 else btF x.toNat (([x] : List UInt8).getLastD 0).toNat) = false
  by_cases h7 : 7 < x.toNat
  · rw [if_pos h7]
  · rw [if_neg h7, if_pos (show ([] : List UInt8).isEmpty = true from rfl)]
    exact beq_false_of_ne (by omega)

/-- Years of two digits; the days that every month has. -/
theorem tyY_near (y : Nat) (h1 : 1950 ≤ y) (h2 : y < 2050) : tyY 23 ((y % 100 : Nat) : Int) = y := by
  unfold tyY
  rw [if_pos rfl]
  by_cases h : 50 ≤ y % 100
  · rw [if_pos (by omega)]; omega
  · rw [if_neg (by omega)]; omega
theorem dys_low (y m : Int) : 28 ≤ dys y m ∧ dys y m ≤ 31 := by
  unfold dys
  split
  · omega
  · split
    · split <;> omega
    · omega
end Go.Proofs.Ytnegakobammljaa

