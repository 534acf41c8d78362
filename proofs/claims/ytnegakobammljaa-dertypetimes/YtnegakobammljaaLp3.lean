/- Times of two digits a number: what the chapter's words tell of them. -/
import Derived.Test.YtnegakobammljaaTl1
namespace Go.Proofs.Ytnegakobammljaa
open Go.RowKit

theorem tw_dg (p n : Nat) (xs : List UInt8) : dgF p (tw n ++ xs) = dgF (100 * p + n % 100) xs := by
  have e1 : (UInt8.ofNat (48 + (n : Int) / 10 % 10).toNat).toNat = 48 + n / 10 % 10 := by simp; omega
  have e2 : (UInt8.ofNat (48 + (n : Int) % 10).toNat).toNat = 48 + n % 10 := by simp; omega
  show dgF p (UInt8.ofNat (48 + (n : Int) / 10 % 10).toNat :: UInt8.ofNat (48 + (n : Int) % 10).toNat :: xs) = _
  rw [dgF, if_neg (by rw [e1]; omega), dgF, if_neg (by rw [e2]; omega), e1, e2]
  congr 1
  omega
theorem tw_dgs (n : Nat) (h : n < 100) : dgs (tw n) = n := by
  have := tw_dg 0 n []
  rw [List.append_nil] at this
  unfold dgs
  rw [this]
  show ((100 * 0 + n % 100 : Nat) : Int) = n
  omega
theorem tw_dgs4 (c n : Nat) (h : c < 100) (h2 : n / 100 = c) : dgs (tw c ++ tw n) = n := by
  have e := tw_dg 0 c (tw n)
  have f := tw_dg (100 * 0 + c % 100) n []
  rw [List.append_nil] at f
  unfold dgs
  rw [e, f]
  show ((100 * (100 * 0 + c % 100) + n % 100 : Nat) : Int) = n
  omega
theorem tw_dgs2 (n : Nat) : dgs (tw n) = (n % 100 : Nat) := by
  have := tw_dg 0 n []
  rw [List.append_nil] at this
  unfold dgs
  rw [this]
  show ((100 * 0 + n % 100 : Nat) : Int) = _
  simp
/-- What stands behind the year. -/
def tx (m d h i s : Nat) (z : UInt8) : List UInt8 := tw m ++ (tw d ++ (tw h ++ (tw i ++ (tw s ++ [z]))))
theorem tyL24 (c y m d h i s : Nat) (z : UInt8) (hc : y / 100 = c) (hy : c < 100) (hm : m < 100) (hd : d < 100) (hh : h < 100) (hi : i < 100) (hs : s < 100) :
    tyL 24 (tw c ++ (tw y ++ tx m d h i s z)) = [(y : Int), m, d, h, i, s] := by
  have a0 : tyV 24 (tw c ++ (tw y ++ tx m d h i s z)) 0 = (y : Int) := tw_dgs4 c y hy hc
  have a1 : tyV 24 (tw c ++ (tw y ++ tx m d h i s z)) 1 = (m : Int) := tw_dgs m hm
  have a2 : tyV 24 (tw c ++ (tw y ++ tx m d h i s z)) 2 = (d : Int) := tw_dgs d hd
  have a3 : tyV 24 (tw c ++ (tw y ++ tx m d h i s z)) 3 = (h : Int) := tw_dgs h hh
  have a4 : tyV 24 (tw c ++ (tw y ++ tx m d h i s z)) 4 = (i : Int) := tw_dgs i hi
  have a5 : tyV 24 (tw c ++ (tw y ++ tx m d h i s z)) 5 = (s : Int) := tw_dgs s hs
  unfold tyL
  rw [a0, a1, a2, a3, a4, a5]
theorem tyL23 (y m d h i s : Nat) (z : UInt8) (hm : m < 100) (hd : d < 100) (hh : h < 100) (hi : i < 100) (hs : s < 100) :
    tyL 23 (tw y ++ tx m d h i s z) = [tyY 23 (y % 100 : Nat), (m : Int), d, h, i, s] := by
  have a0 : tyV 23 (tw y ++ tx m d h i s z) 0 = tyY 23 (y % 100 : Nat) := congrArg (tyY 23) (tw_dgs2 y)
  have a1 : tyV 23 (tw y ++ tx m d h i s z) 1 = (m : Int) := tw_dgs m hm
  have a2 : tyV 23 (tw y ++ tx m d h i s z) 2 = (d : Int) := tw_dgs d hd
  have a3 : tyV 23 (tw y ++ tx m d h i s z) 3 = (h : Int) := tw_dgs h hh
  have a4 : tyV 23 (tw y ++ tx m d h i s z) 4 = (i : Int) := tw_dgs i hi
  have a5 : tyV 23 (tw y ++ tx m d h i s z) 5 = (s : Int) := tw_dgs s hs
  unfold tyL
  rw [a0, a1, a2, a3, a4, a5]
theorem tyOk24 (c y m d h i s : Nat) (z : UInt8) (hc : y / 100 = c) (hy : c < 100) (hm : m < 100) (hd : d < 100) (hh : h < 100) (hi : i < 100) (hs : s < 100) :
    tyOk 24 (tw c ++ (tw y ++ tx m d h i s z)) = (z.toNat == 90 && decide (1 ≤ (m : Int) ∧ (m : Int) ≤ 12 ∧ 1 ≤ (d : Int) ∧ (d : Int) ≤ dys y m ∧ (h : Int) ≤ 23 ∧ (i : Int) ≤ 59 ∧ (s : Int) ≤ 59)) := by
  have a0 : tyR 24 (tw c ++ (tw y ++ tx m d h i s z)) 0 = (y : Int) := tw_dgs4 c y hy hc
  have a1 : tyR 24 (tw c ++ (tw y ++ tx m d h i s z)) 1 = (m : Int) := tw_dgs m hm
  have a2 : tyR 24 (tw c ++ (tw y ++ tx m d h i s z)) 2 = (d : Int) := tw_dgs d hd
  have a3 : tyR 24 (tw c ++ (tw y ++ tx m d h i s z)) 3 = (h : Int) := tw_dgs h hh
  have a4 : tyR 24 (tw c ++ (tw y ++ tx m d h i s z)) 4 = (i : Int) := tw_dgs i hi
  have a5 : tyR 24 (tw c ++ (tw y ++ tx m d h i s z)) 5 = (s : Int) := tw_dgs s hs
  have v0 : tyV 24 (tw c ++ (tw y ++ tx m d h i s z)) 0 = (y : Int) := a0
  have v1 : tyV 24 (tw c ++ (tw y ++ tx m d h i s z)) 1 = (m : Int) := a1
  have v2 : tyV 24 (tw c ++ (tw y ++ tx m d h i s z)) 2 = (d : Int) := a2
  have v3 : tyV 24 (tw c ++ (tw y ++ tx m d h i s z)) 3 = (h : Int) := a3
  have v4 : tyV 24 (tw c ++ (tw y ++ tx m d h i s z)) 4 = (i : Int) := a4
  have v5 : tyV 24 (tw c ++ (tw y ++ tx m d h i s z)) 5 = (s : Int) := a5
  have r : ((List.range 6).all fun i_1 => decide (0 ≤ tyR 24 (tw c ++ (tw y ++ tx m d h i s z)) i_1)) = true := by
    show (decide (0 ≤ tyR 24 (tw c ++ (tw y ++ tx m d h i s z)) 0) && (decide (0 ≤ tyR 24 (tw c ++ (tw y ++ tx m d h i s z)) 1) && (decide (0 ≤ tyR 24 (tw c ++ (tw y ++ tx m d h i s z)) 2) && (decide (0 ≤ tyR 24 (tw c ++ (tw y ++ tx m d h i s z)) 3) && (decide (0 ≤ tyR 24 (tw c ++ (tw y ++ tx m d h i s z)) 4) && (decide (0 ≤ tyR 24 (tw c ++ (tw y ++ tx m d h i s z)) 5) && true)))))) = true
    rw [a0, a1, a2, a3, a4, a5]
    simp
  have l : ((tw c ++ (tw y ++ tx m d h i s z)).length == tyN 24 + 11) = true := rfl
  have g : (tw c ++ (tw y ++ tx m d h i s z)).getD (tyN 24 + 10) 0 = z := rfl
  unfold tyOk
  rw [r, l, g, v0, v1, v2, v3, v4, v5, Bool.true_and, Bool.and_true]
theorem tyOk23 (y m d h i s : Nat) (z : UInt8) (hm : m < 100) (hd : d < 100) (hh : h < 100) (hi : i < 100) (hs : s < 100) :
    tyOk 23 (tw y ++ tx m d h i s z) = (z.toNat == 90 && decide (1 ≤ (m : Int) ∧ (m : Int) ≤ 12 ∧ 1 ≤ (d : Int) ∧ (d : Int) ≤ dys (tyY 23 (y % 100 : Nat)) m ∧ (h : Int) ≤ 23 ∧ (i : Int) ≤ 59 ∧ (s : Int) ≤ 59)) := by
  have a0 : tyR 23 (tw y ++ tx m d h i s z) 0 = (y % 100 : Nat) := tw_dgs2 y
  have a1 : tyR 23 (tw y ++ tx m d h i s z) 1 = (m : Int) := tw_dgs m hm
  have a2 : tyR 23 (tw y ++ tx m d h i s z) 2 = (d : Int) := tw_dgs d hd
  have a3 : tyR 23 (tw y ++ tx m d h i s z) 3 = (h : Int) := tw_dgs h hh
  have a4 : tyR 23 (tw y ++ tx m d h i s z) 4 = (i : Int) := tw_dgs i hi
  have a5 : tyR 23 (tw y ++ tx m d h i s z) 5 = (s : Int) := tw_dgs s hs
  have v0 : tyV 23 (tw y ++ tx m d h i s z) 0 = tyY 23 (y % 100 : Nat) := congrArg (tyY 23) a0
  have v1 : tyV 23 (tw y ++ tx m d h i s z) 1 = (m : Int) := a1
  have v2 : tyV 23 (tw y ++ tx m d h i s z) 2 = (d : Int) := a2
  have v3 : tyV 23 (tw y ++ tx m d h i s z) 3 = (h : Int) := a3
  have v4 : tyV 23 (tw y ++ tx m d h i s z) 4 = (i : Int) := a4
  have v5 : tyV 23 (tw y ++ tx m d h i s z) 5 = (s : Int) := a5
  have r : ((List.range 6).all fun i_1 => decide (0 ≤ tyR 23 (tw y ++ tx m d h i s z) i_1)) = true := by
    show (decide (0 ≤ tyR 23 (tw y ++ tx m d h i s z) 0) && (decide (0 ≤ tyR 23 (tw y ++ tx m d h i s z) 1) && (decide (0 ≤ tyR 23 (tw y ++ tx m d h i s z) 2) && (decide (0 ≤ tyR 23 (tw y ++ tx m d h i s z) 3) && (decide (0 ≤ tyR 23 (tw y ++ tx m d h i s z) 4) && (decide (0 ≤ tyR 23 (tw y ++ tx m d h i s z) 5) && true)))))) = true
    rw [a0, a1, a2, a3, a4, a5]
    simp
    omega
  have l : ((tw y ++ tx m d h i s z).length == tyN 23 + 11) = true := rfl
  have g : (tw y ++ tx m d h i s z).getD (tyN 23 + 10) 0 = z := rfl
  unfold tyOk
  rw [r, l, g, v0, v1, v2, v3, v4, v5, Bool.true_and, Bool.and_true]
end Go.Proofs.Ytnegakobammljaa

