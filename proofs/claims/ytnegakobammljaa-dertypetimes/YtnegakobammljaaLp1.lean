/- A number's bytes, as few as it needs, tell it; with one more ahead that changes nothing they don't (of plain lists). -/
import Derived.Test.YtnegakobammljaaTl2
namespace Go.Proofs.Ytnegakobammljaa
open Go.RowKit

theorem lb_nat (y : Int) : (lb y).toNat = (y % 256).toNat := by unfold lb; simp; omega
/-- What the bytes of a number are, wherever the making of them stands. -/
theorem bts_inv (x : Int) : ∀ (m : Nat) (y : Int) (r : List UInt8), -(128 * (256 ^ m : Nat)) ≤ y → y < 128 * (256 ^ m : Nat) → nmF y r = x → (0 ≤ x ↔ 0 ≤ y) → (r = [] ∨ ∃ (y0 : Int) (r0 : List UInt8), r = lb y0 :: r0 ∧ y = y0 / 256 ∧ (127 < y0 ∨ y0 < -128)) →
    ∃ (z : Int) (s : List UInt8), btsF (m + 1) y (lb y :: r) = lb z :: s ∧ -128 ≤ z ∧ z ≤ 127 ∧ nmF z s = x ∧ (0 ≤ x ↔ 0 ≤ z) ∧ s.length ≤ r.length + m ∧ (s = [] ∨ ∃ (y0 : Int) (r0 : List UInt8), s = lb y0 :: r0 ∧ z = y0 / 256 ∧ (127 < y0 ∨ y0 < -128)) := by
  intro m
  induction m with
  | zero =>
    intro y r h1 h2 hv hs hr
    have g : ¬ (127 < y ∨ y < -128) := by simp at h1 h2; omega
    refine ⟨y, r, ?_, by omega, by omega, hv, hs, by omega, hr⟩
    show (if 127 < y ∨ y < -128 then _ else _) = _
    rw [if_neg g]
  | succ m ih =>
    intro y r h1 h2 hv hs hr
    by_cases g : 127 < y ∨ y < -128
    · have e : btsF (m + 1 + 1) y (lb y :: r) = btsF (m + 1) (y / 256) (lb (y / 256) :: lb y :: r) := by
        show (if 127 < y ∨ y < -128 then _ else _) = _
        rw [if_pos g]
      have hp : (256 ^ (m + 1) : Nat) = 256 ^ m * 256 := Nat.pow_succ 256 m
      rw [hp] at h1 h2
      have hv' : nmF (y / 256) (lb y :: r) = x := by
        show nmF (256 * (y / 256) + ((lb y).toNat : Int)) r = x
        rw [lb_int, show 256 * (y / 256) + y % 256 = y by omega]
        exact hv
      obtain ⟨z, s, a1, a2, a3, a4, a5, a6, a7⟩ := ih (y / 256) (lb y :: r) (by generalize 256 ^ m = B at *; omega) (by generalize 256 ^ m = B at *; omega) hv' (by rw [hs]; omega) (.inr ⟨y, r, rfl, rfl, g⟩)
      exact ⟨z, s, by rw [e]; exact a1, a2, a3, a4, a5, by simp at a6; omega, a7⟩
    · refine ⟨y, r, ?_, by omega, by omega, hv, hs, by omega, hr⟩
      show (if 127 < y ∨ y < -128 then _ else _) = _
      rw [if_neg g]

theorem bts_all (x : Int) (hx : -9223372036854775808 ≤ x ∧ x ≤ 9223372036854775807) :
    nmB (bts x) = true ∧ (bts x).length ≤ 8 ∧ nmV (bts x) = x ∧ (0 ≤ x → nmB (0 :: bts x) = false) ∧ (x < 0 → nmB (255 :: bts x) = false) ∧ 0 < (bts x).length := by
  have h7 : (256 : Nat) ^ 7 = 72057594037927936 := by decide
  obtain ⟨z, s, a1, a2, a3, a4, a5, a6, a7⟩ := bts_inv x 7 x [] (by rw [h7]; omega) (by rw [h7]; omega) rfl Iff.rfl (.inl rfl)
  have e : bts x = lb z :: s := a1
  have hz := lb_nat z
  rw [e]
  refine ⟨?_, by simp at a6 ⊢; omega, ?_, ?_, ?_, by simp⟩
  · rcases a7 with rfl | ⟨y0, r0, rfl, h1, h2⟩
    · rfl
    · have hy := lb_nat y0
      show (!((lb z).toNat == 0 && decide ((lb y0).toNat < 128)) && !((lb z).toNat == 255 && decide (128 ≤ (lb y0).toNat))) = true
      rw [hz, hy]
      simp only [Bool.and_eq_true, Bool.not_eq_true', Bool.and_eq_false_iff, beq_eq_false_iff_ne, decide_eq_false_iff_not, ne_eq]
      omega
  · show nmF (if 128 ≤ (lb z).toNat then ((lb z).toNat : Int) - 256 else ((lb z).toNat : Int)) s = x
    rw [hz]
    have : (if 128 ≤ (z % 256).toNat then (((z % 256).toNat : Nat) : Int) - 256 else (((z % 256).toNat : Nat) : Int)) = z := by split <;> omega
    rw [this]
    exact a4
  · intro h0
    show (!((0 : UInt8).toNat == 0 && decide ((lb z).toNat < 128)) && _) = false
    rw [hz, decide_eq_true (by omega)]
    rfl
  · intro h0
    show (!((255 : UInt8).toNat == 0 && decide ((lb z).toNat < 128)) && !((255 : UInt8).toNat == 255 && decide (128 ≤ (lb z).toNat))) = false
    rw [hz, decide_eq_true (show 128 ≤ (z % 256).toNat by omega)]
    rfl
end Go.Proofs.Ytnegakobammljaa

