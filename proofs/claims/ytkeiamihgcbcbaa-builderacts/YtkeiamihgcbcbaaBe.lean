/- The bytes of a number, the highest first. -/
import Derived.Test.YtkeiamihgcbcbaaNum
namespace Go.Proofs.Ytkeiamihgcbcbaa
open Go.RowKit

/-- So many bytes of a number, the highest first. -/
def be : Nat → Nat → List UInt8
  | 0, _ => []
  | k + 1, x => be k (x / 256) ++ [UInt8.ofNat (x % 256)]
theorem be_length (k x : Nat) : (be k x).length = k := by
  induction k generalizing x with
  | zero => rfl
  | succ k ih => simp [be, ih]
theorem be_add (j k x : Nat) : be (j + k) x = be j (x / 256 ^ k) ++ be k x := by
  induction k generalizing x with
  | zero => simp [be]
  | succ k ih =>
    rw [← Nat.add_assoc, be, ih, be, List.append_assoc, Nat.div_div_eq_div_mul, Nat.pow_succ, Nat.mul_comm 256]
theorem be_one (x : Nat) : be 1 x = [UInt8.ofNat (x % 256)] := rfl
theorem be_more (j x : Nat) : be (j + 1) x = UInt8.ofNat (x / 256 ^ j % 256) :: be j x := by
  rw [Nat.add_comm j 1, be_add, be_one]; rfl
theorem be_last (k x : Nat) (hk : k ≤ 8) : (be 8 x).drop (8 - k) = be k x := by
  have h : be 8 x = be (8 - k) (x / 256 ^ k) ++ be k x := by rw [← be_add]; congr 1; omega
  rw [h, List.drop_left' (be_length _ _)]
theorem ofNat_mod (x : Nat) : (UInt8.ofNat (x % 256)).toNat = x % 256 := by simp
theorem num_be (k x : Nat) : num (be k x) = x % 256 ^ k := by
  induction k generalizing x with
  | zero => simp [be, num, Nat.mod_one]
  | succ k ih =>
    rw [be, num_snoc, ih, ofNat_mod, Nat.pow_succ, Nat.mul_comm (256 ^ k) 256, Nat.mod_mul]
    omega
theorem num_be_lt (k x : Nat) (h : x < 256 ^ k) : num (be k x) = x := by rw [num_be, Nat.mod_eq_of_lt h]
theorem be_num (xs : List UInt8) : be xs.length (num xs) = xs := by
  have key : ∀ l : List UInt8, be l.length (num l.reverse) = l.reverse := by
    intro l
    induction l with
    | nil => rfl
    | cons x l ih =>
      have hx := x.toNat_lt
      rw [List.length_cons, List.reverse_cons, num_snoc, be]
      have e1 : (num l.reverse * 256 + x.toNat) / 256 = num l.reverse := by omega
      have e2 : (num l.reverse * 256 + x.toNat) % 256 = x.toNat := by omega
      rw [e1, e2, ih]
      simp
  have := key xs.reverse
  simpa using this
/-- What stands in the array behind so many rounds. -/
def laidAt (j x : Nat) : List UInt8 := List.replicate (8 - j) 0 ++ be j x
theorem laidAt_length (j x : Nat) (h : j ≤ 8) : (laidAt j x).length = 8 := by simp [laidAt, be_length]; omega
theorem laidAt_all (x : Nat) : laidAt 8 x = be 8 x := by simp [laidAt]
theorem laidAt_set (j x : Nat) (h : j < 8) : (laidAt j x).set (7 - j) (UInt8.ofNat (x / 256 ^ j % 256)) = laidAt (j + 1) x := by
  unfold laidAt
  have e : 8 - j = (7 - j) + 1 := by omega
  have e2 : 8 - (j + 1) = 7 - j := by omega
  rw [e, List.replicate_succ', List.append_assoc, List.set_append_right _ _ (by simp), e2, be_more]
  simp

theorem ret_bool {a b : Bool} (h : a = b) : Ending.returned (.bool a) = .returned (.bool b) := by rw [h]

set_option maxHeartbeats 400000 in
theorem holds_any (w : World) (k x : Nat) (hk : sizeOk k) (hx : x < 18446744073709551616) :
    Calls Try.prog 34 #[.int .i64 k, .int .u64 x] w fun e w' => e = .returned (.bool (decide (x < 256 ^ k))) ∧ w = w' := by
  have hk' : k = 1 ∨ k = 2 ∨ k = 3 ∨ k = 4 ∨ k = 8 := by unfold sizeOk at hk; omega
  clear hk
  rcases hk' with rfl | rfl | rfl | rfl | rfl
  all_goals
    go_enter Try.func34, Try.ntmps34
    go_wp2
    go_ret
    refine ⟨ret_bool ?_, rfl⟩
    rw [Bool.eq_iff_iff]
    simp
    omega

set_option maxHeartbeats 400000 in
theorem bsize_yes (w : World) (k : Int) (hk : sizeOk k) : Calls Try.prog 33 #[.int .i64 k] w fun e w' => e = .returned (.bool true) ∧ w = w' := by
  rcases hk with rfl | rfl | rfl | rfl | rfl
  all_goals
    go_enter Try.func33, Try.ntmps33
    go_wp2
    go_ret
    exact ⟨rfl, rfl⟩

set_option maxHeartbeats 400000 in
theorem bsize_no (w : World) (k : Int) (hk : ¬ sizeOk k) : Calls Try.prog 33 #[.int .i64 k] w fun e w' => e = .returned (.bool false) ∧ w = w' := by
  unfold sizeOk at hk
  have h1 : (k == 1) = false := by simp; omega
  have h2 : (k == 2) = false := by simp; omega
  have h3 : (k == 3) = false := by simp; omega
  have h4 : (k == 4) = false := by simp; omega
  have h8 : (k == 8) = false := by simp; omega
  clear hk
  go_enter Try.func33, Try.ntmps33
  go_wp2
  go_ret
  exact ⟨rfl, rfl⟩

theorem be8 (x : Nat) : be 8 x = [UInt8.ofNat (x / 256 ^ 7 % 256), UInt8.ofNat (x / 256 ^ 6 % 256), UInt8.ofNat (x / 256 ^ 5 % 256), UInt8.ofNat (x / 256 ^ 4 % 256), UInt8.ofNat (x / 256 ^ 3 % 256), UInt8.ofNat (x / 256 ^ 2 % 256), UInt8.ofNat (x / 256 ^ 1 % 256), UInt8.ofNat (x / 256 ^ 0 % 256)] := by
  rw [be_more, be_more, be_more, be_more, be_more, be_more, be_more, be_more]; rfl

theorem laid_set (k x : Nat) (h : k < 8) : (cellsOf (laidAt k x)).toArray.setIfInBounds (7 - k) (.int .u8 ((x / 256 ^ k % 256 : Nat) : Int)) = (cellsOf (laidAt (k + 1) x)).toArray := by
  rw [← laidAt_set k x h]
  apply Array.ext'
  simp [cellsOf, List.map_set]
theorem laid_cell (k x : Nat) (h : k < 8) : (cellsOf (laidAt k x)).toArray[7 - k]? = some (.int .u8 (((laidAt k x).getD (7 - k) 0).toNat : Int)) := by
  have := cellsOf_at (laidAt k x) (7 - k) (by rw [laidAt_length _ _ (by omega)]; omega)
  simpa using this

set_option maxHeartbeats 2000000 in
theorem highest_any (w : World) (x : Nat) (hx : x < 18446744073709551616) :
    Calls Try.prog 35 #[.int .u64 x] w fun e w' => e = .returned (.agg (cellsOf (be 8 x)).toArray) ∧ Grew w w' none := by
  obtain ⟨b0, b1, b2, b3, b4, b5, b6, b7, he⟩ : ∃ b0 b1 b2 b3 b4 b5 b6 b7 : UInt8, be 8 x = [b0, b1, b2, b3, b4, b5, b6, b7] := ⟨_, _, _, _, _, _, _, _, be8 x⟩
  rw [he]
  have HE := Lib.hid he
  clear he
  simp only [cellsOf, List.map_cons, List.map_nil]
  have Hg0 := Lib.hid (grew_alloc (grew_alloc (grew_refl w none) (.cells #[.int .u8 0, .int .u8 0, .int .u8 0, .int .u8 0, .int .u8 0, .int .u8 0, .int .u8 0, .int .u8 0] 69)) (.cells #[.int .u8 0, .int .u8 0, .int .u8 0, .int .u8 0, .int .u8 0, .int .u8 0, .int .u8 0, .int .u8 0] 69))
  have Hw0 := Lib.hid ((Whole.new w #[.int .u8 0, .int .u8 0, .int .u8 0, .int .u8 0, .int .u8 0, .int .u8 0, .int .u8 0, .int .u8 0] 69).grew (grew_alloc (grew_refl _ none) (.cells #[.int .u8 0, .int .u8 0, .int .u8 0, .int .u8 0, .int .u8 0, .int .u8 0, .int .u8 0, .int .u8 0] 69)) (by simp))
  have hw1 := Whole.new (w.alloc (.cells #[.int .u8 0, .int .u8 0, .int .u8 0, .int .u8 0, .int .u8 0, .int .u8 0, .int .u8 0, .int .u8 0] 69)) #[.int .u8 0, .int .u8 0, .int .u8 0, .int .u8 0, .int .u8 0, .int .u8 0, .int .u8 0, .int .u8 0] 69
  rw [show (w.alloc (.cells #[.int .u8 0, .int .u8 0, .int .u8 0, .int .u8 0, .int .u8 0, .int .u8 0, .int .u8 0, .int .u8 0] 69)).heap.size = w.heap.size + 1 from by simp] at hw1
  have Hw1 := Lib.hid hw1
  clear hw1
  go_enter Try.func35, Try.ntmps35
  go_wp2
  generalize hW : (w.alloc (.cells #[.int .u8 0, .int .u8 0, .int .u8 0, .int .u8 0, .int .u8 0, .int .u8 0, .int .u8 0, .int .u8 0] 69)).alloc (.cells #[.int .u8 0, .int .u8 0, .int .u8 0, .int .u8 0, .int .u8 0, .int .u8 0, .int .u8 0, .int .u8 0] 69) = W at *
  clear hW
  generalize hq : w.heap.size = q at *
  have Hq := Lib.hid hq
  clear hq
  go_loopw [5] (fun j wr => ∃ k : Nat, k ≤ 8 ∧ j = .int .i64 k ∧ Hid (Whole wr (q + 1) (cellsOf (laidAt k x)).toArray 69) ∧ Hid (Whole wr q #[.int .u8 0, .int .u8 0, .int .u8 0, .int .u8 0, .int .u8 0, .int .u8 0, .int .u8 0, .int .u8 0] 69) ∧ Hid (Grew w wr none)) (fun j _ => 8 - (intOf j).toNat)
  case atStart => exact ⟨0, by omega, rfl, Hw1, Hw0, Hg0⟩
  case round =>
    obtain ⟨k, hk, rfl, R1, R2, R3⟩ := hrel
    by_cases hlt : k < 8
    · have hc := R1.out.cell (7 - k)
      rw [laid_cell k x hlt] at hc
      have hf := R1.out.frozen (7 - k)
      have HS := Lib.hid (laid_set k x hlt)
      have hk' : k = 0 ∨ k = 1 ∨ k = 2 ∨ k = 3 ∨ k = 4 ∨ k = 5 ∨ k = 6 ∨ k = 7 := by omega
      clear hk hlt
      generalize ((laidAt k x).getD (7 - k) 0).toNat = z at *
      have hg := fun u => Lib.hid (grew_own R3.out (grew_set (p := q + 1) (grew_refl wr _) (7 - k) none u) (by have := Hq.out; omega))
      have h2 := fun u => Lib.hid (R2.out.grew (grew_set (p := q + 1) (grew_refl wr _) (7 - k) none u) (by simp))
      have h1 := R1.out.set (7 - k) (.int .u8 ((x / 256 ^ k % 256 : Nat) : Int))
      rw [HS.out] at h1
      have H1 := Lib.hid h1
      have HG := Lib.hid hg
      have H2 := Lib.hid h2
      clear h1 hg h2
      rcases hk' with rfl | rfl | rfl | rfl | rfl | rfl | rfl | rfl
      all_goals
        simp only [Nat.sub_zero, Nat.reduceSub] at hc hf
        go_wp2
        go_roundw
        case rel =>
          refine ⟨_, ?_, rfl, ?_, by simpa using H2.out _, by simpa using HG.out _⟩
          · decide
          · have h := Lib.hid H1.out
            first
            | simpa using h
            | (rw [show ((x / 256 ^ 7 % 256 : Nat) : Int) = (x : Int) / 72057594037927936 from by omega] at h; simpa using h)
        case measure => simp [intOf]
    · obtain rfl : k = 8 := by omega
      have h1 := R1.out
      rw [laidAt_all, HE.out] at h1
      simp only [cellsOf, List.map_cons, List.map_nil] at h1
      have c0 := h1.cell 0
      have c1 := h1.cell 1
      have c2 := h1.cell 2
      have c3 := h1.cell 3
      have c4 := h1.cell 4
      have c5 := h1.cell 5
      have c6 := h1.cell 6
      have c7 := h1.cell 7
      have d0 := R2.out.cell 0
      have d1 := R2.out.cell 1
      have d2 := R2.out.cell 2
      have d3 := R2.out.cell 3
      have d4 := R2.out.cell 4
      have d5 := R2.out.cell 5
      have d6 := R2.out.cell 6
      have d7 := R2.out.cell 7
      have f0 := R2.out.frozen 0
      have f1 := R2.out.frozen 1
      have f2 := R2.out.frozen 2
      have f3 := R2.out.frozen 3
      have f4 := R2.out.frozen 4
      have f5 := R2.out.frozen 5
      have f6 := R2.out.frozen 6
      have f7 := R2.out.frozen 7
      simp at c0 c1 c2 c3 c4 c5 c6 c7 d0 d1 d2 d3 d4 d5 d6 d7
      clear h1
      go_wp2
      refine bodyPost_ret (v := .agg #[.int .u8 b0.toNat, .int .u8 b1.toNat, .int .u8 b2.toNat, .int .u8 b3.toNat, .int .u8 b4.toNat, .int .u8 b5.toNat, .int .u8 b6.toNat, .int .u8 b7.toNat]) (by simp [results, Try.results35, go_sem, d0, d1, d2, d3, d4, d5, d6, d7]) rfl ⟨rfl, ?_⟩
      refine grew_own R3.out (p := q) ?_ (by have := Hq.out; omega)
      exact grew_set (grew_set (grew_set (grew_set (grew_set (grew_set (grew_set (grew_set (grew_refl _ _) _ _ _) _ _ _) _ _ _) _ _ _) _ _ _) _ _ _) _ _ _) _ _ _

end Go.Proofs.Ytkeiamihgcbcbaa

