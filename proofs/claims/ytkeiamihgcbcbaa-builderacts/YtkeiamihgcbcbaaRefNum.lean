/- Contracts of the reference's Size and Number. -/
import Derived.Test.YtkeiamihgcbcbaaNum
namespace Go.Proofs.Ytkeiamihgcbcbaa
open Go.RowKit

set_option maxHeartbeats 1000000 in
theorem size_yes (w : World) (k : Int) (hk : sizeOk k) : Calls Try.prog 40 #[.int .i64 k] w fun e w' => e = .returned (.bool true) ∧ w = w' := by
  rcases hk with rfl | rfl | rfl | rfl | rfl
  all_goals
    go_enter Try.func40, Try.ntmps40
    go_wp2
    go_ret
    exact ⟨rfl, rfl⟩

set_option maxHeartbeats 1000000 in
theorem size_no (w : World) (k : Int) (hk : ¬ sizeOk k) : Calls Try.prog 40 #[.int .i64 k] w fun e w' => e = .returned (.bool false) ∧ w = w' := by
  unfold sizeOk at hk
  have h1 : (k == 1) = false := by simp; omega
  have h2 : (k == 2) = false := by simp; omega
  have h3 : (k == 3) = false := by simp; omega
  have h4 : (k == 4) = false := by simp; omega
  have h8 : (k == 8) = false := by simp; omega
  clear hk
  go_enter Try.func40, Try.ntmps40
  go_wp2
  go_ret
  exact ⟨rfl, rfl⟩

set_option maxHeartbeats 1000000 in
theorem rnum_any (w : World) (B : Nat) (A : Option Addr) (ys : List UInt8) (c : Nat) (hb : Byt w B A ys) (hl : ys.length ≤ 8) :
    Calls Try.prog 42 #[.slice A ys.length c] w fun e w' => e = .returned (.int .u64 (num ys)) ∧ w = w' := by
  have Hb := Lib.hid hb
  clear hb
  go_enter Try.func42, Try.ntmps42
  go_wp2_with fail
  go_loop [3, 4] (fun x i => ∃ j : Nat, j ≤ ys.length ∧ i = .int .i64 j ∧ x = .int .u64 (num (ys.take j))) (fun _ i => ys.length - (intOf i).toNat)
  case atStart => exact ⟨0, Nat.zero_le _, rfl, rfl⟩
  case round =>
    obtain ⟨j, hj, rfl, rfl⟩ := hrel
    by_cases hlt : j < ys.length
    · obtain ⟨b, o, rfl, _, hcell⟩ := Hb.out (by omega)
      have hcj := hcell j hlt
      have hb1 := num_bound ys j (by omega)
      have hb2 := byte_lt ys j
      have HS := Lib.hid (num_step ys j hlt)
      clear hcell
      generalize (ys.getD j 0).toNat = b at *
      go_wp2
      go_round
      case rel => exact ⟨j + 1, by omega, by go_num, by rw [HS.out]; go_num⟩
      case measure => simp [intOf]; omega
    · obtain rfl : j = ys.length := by omega
      go_wp2
      go_ret
      exact ⟨rfl, rfl⟩

end Go.Proofs.Ytkeiamihgcbcbaa

