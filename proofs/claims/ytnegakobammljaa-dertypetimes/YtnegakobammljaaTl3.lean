/- What the laws of layer 10 are made of: a number, seven bits a byte. -/
import Derived.Test.YtnegakobammljaaTl2
import Derived.Laws.BitsAllLaws
namespace Go.Proofs.Ytnegakobammljaa
open Go.RowKit

/-- Seven bits; with the bit that says that more follow; a number, seven bits a byte. -/
def sv (x : Nat) : UInt8 := .ofNat (x % 128)
def sw (x : Nat) : UInt8 := .ofNat (x % 128 + 128)
theorem sv_int (x : Nat) : ((sv x).toNat : Int) = (x : Int) % 128 := by unfold sv; simp; omega
theorem sw_int (x : Nat) : ((sw x).toNat : Int) = (x : Int) % 128 + 128 := by unfold sw; simp; omega
def layF : Nat → Nat → List UInt8 → List UInt8
  | 0, _, acc => acc
  | k + 1, x, acc => if 0 < x then layF k (x / 128) (sw x :: acc) else acc
def layN (x : Nat) : List UInt8 := layF 9 (x / 128) [sv x]
theorem and_seven (y : Nat) (h : y < 18446744073709551616) : bits BinOp.and IntKind.u64 (y : Int) 127 = (y : Int) % 128 := by
  have := u64_and_nat y 127 h (by omega)
  rw [show ((127 : Nat) : Int) = 127 from rfl] at this
  rw [this, show y &&& 127 = y % 2 ^ 7 from Nat.and_two_pow_sub_one_eq_mod y 7]
  omega
theorem or_128 : ∀ t : Nat, t < 128 → bits BinOp.or IntKind.u8 (t : Int) 128 = t + 128 := by decide +kernel

set_option maxRecDepth 100000 in
set_option maxHeartbeats 1000000 in
theorem lay_any (w : World) (x : Nat) (hx : x < 18446744073709551616) :
    Calls Try.prog 22 #[.int .u64 (x : Int)] w fun e w' => ∃ v, e = .returned v ∧ w'.ownsRow 0 5 1 v (layN x).length (cellsOf (layN x)) ∧ Below w.heap.size w w' ∧ (∀ k, v.ownBlock = some k → w.heap.size ≤ k) := by
  have e0 := and_seven x hx
  have e9 : (x : Int) % 128 = ((sv x).toNat : Int) := (sv_int x).symm
  obtain ⟨q, hq⟩ : ∃ q, w.heap.size = q := ⟨_, rfl⟩
  have O0 := Lib.hid (own_one w (sv x))
  have B0 := Lib.hid (show Below q w (w.alloc (.cells #[.int .u8 ((sv x).toNat : Int)] 5)) ∧ q ≤ (w.alloc (.cells #[.int .u8 ((sv x).toNat : Int)] 5)).heap.size from ⟨by rw [← hq]; exact (Below.refl _ w).alloc (Nat.le_refl _) _, by simp; omega⟩)
  have HX := Lib.hid hx
  rw [hq] at O0 ⊢
  clear hx
  go_enter Try.func22, Try.ntmps22
  go_wp2_with fail
  generalize w.alloc (.cells #[.int .u8 ((sv x).toNat : Int)] 5) = W0 at *
  go_loopw [0, 3] (fun u v wr => ∃ (k y : Nat) (acc : List UInt8), u = .int .u64 (y : Int) ∧ Hid (wr.ownsRow 0 5 1 v acc.length (cellsOf acc) ∧ ∀ i, v.ownBlock = some i → q ≤ i) ∧ Hid (layN x = layF k y acc ∧ acc.length + k = 10 ∧ y < 128 ^ k ∧ y ≤ x) ∧ Hid (Below q w wr ∧ q ≤ wr.heap.size)) (fun u _ _ => (intOf u).natAbs)
  case atStart => exact ⟨9, x / 128, [sv x], rfl, Lib.hid ⟨O0.out, fun i hi => by simp [Value.ownBlock] at hi; omega⟩, Lib.hid ⟨rfl, rfl, by have := HX.out; rw [show 128 ^ 9 = 9223372036854775808 by decide]; omega, Nat.div_le_self _ _⟩, B0⟩
  case round =>
    clear O0 B0 e0 e9
    obtain ⟨k, y, acc, rfl, hown, hbt, hBw⟩ := hrel
    by_cases g : 0 < y
    · obtain ⟨k, rfl⟩ : ∃ m, k = m + 1 := ⟨k - 1, by
        have h := hbt.out.2.2.1
        cases k with
        | zero => simp at h; omega
        | succ k => omega⟩
      have HN := Lib.hid (show layN x = layF k (y / 128) (sw y :: acc) ∧ (sw y :: acc).length + k = 10 ∧ y / 128 < 128 ^ k ∧ y / 128 ≤ x by
        obtain ⟨h1, h2, h3, h4⟩ := hbt.out
        refine ⟨by rw [h1]; show (if 0 < y then _ else _) = _; rw [if_pos g], by simp; omega, ?_, by omega⟩
        rw [Nat.pow_succ] at h3
        omega)
      have e2 := and_seven y (by have := HX.out; have := hbt.out.2.2.2; omega)
      have e3 : (y : Int) % 128 % 256 = (y : Int) % 128 := by clear e2; omega
      have e1 : bits BinOp.or IntKind.u8 ((y : Int) % 128) 128 = ((sw y).toNat : Int) := by
        have h := or_128 (y % 128) (by clear e2 e3; omega)
        rw [show ((y % 128 : Nat) : Int) = (y : Int) % 128 by clear e2 e3 h; omega] at h
        rw [sw_int]
        exact h
      have HA := Lib.hid (fun ty => app_ahead wr (sw y) hown.out.1 (by have := hbt.out.2.1; omega) q hBw.out.2 ty)
      have HAB := Lib.hid (show y / 128 < y by omega)
      have g' : 0 < (y : Int) := by omega
      clear hbt g
      go_wp2_with (at_builtin; refine wpList_append_run _ rfl (.tmp 18) (.tmp 19) 22 rfl rfl rfl HA.out ?_; rintro v1 w1 a1; have A1 := Lib.hid a1; clear a1 HA)
      go_roundw
      case rel => exact ⟨k, y / 128, sw y :: acc, rfl, Lib.hid ⟨A1.out.1, A1.out.2.2.2⟩, HN, Lib.hid ⟨hBw.out.1.trans A1.out.2.1, A1.out.2.2.1⟩⟩
      case measure => have := HAB.out; simp [intOf]; omega
    · have HZ := Lib.hid (show layN x = acc by
        rw [hbt.out.1]
        cases k with
        | zero => rfl
        | succ k => show (if 0 < y then _ else _) = _; rw [if_neg g])
      have g1 : ¬ 0 < (y : Int) := by omega
      clear hbt g
      go_wp2_with fail
      go_ret
      refine ⟨_, rfl, ?_, hBw.out.1, hown.out.2⟩
      rw [HZ.out]
      exact hown.out.1
end Go.Proofs.Ytnegakobammljaa

