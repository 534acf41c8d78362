/- The document's examples of layer 8. -/
import Derived.Test.YtdklkffodhcmfaaCg
namespace Go.Proofs.Ytdklkffodhcmfaa
open Go.RowKit

set_option maxRecDepth 100000 in
set_option maxHeartbeats 2000000 in
theorem alive8_any (w : World) : Calls Try.prog 10 #[] w fun e w' => e = .returned (.bool true) ∧ Below w.heap.size w w' := by
  have a1 : nmS (cdOf 1 20) = ⟨#[102, 105, 110, 105, 115, 104, 101, 100]⟩ := by decide +kernel
  have a2 : (cdOf 1 20).isSome = true := by decide +kernel
  have a3 : nmC (cdBy 2 ⟨#[99, 111, 111, 107, 105, 101]⟩) = 44 := by decide +kernel
  have a4 : (cdBy 2 ⟨#[99, 111, 111, 107, 105, 101]⟩).isSome = true := by decide +kernel
  have a5 : gr 2570 = true := by decide
  have a6 : gr 2571 = false := by decide
  have n1 := name_any w 1 20
  rw [a1, a2] at n1
  go_enter Try.func10, Try.ntmps10
  go_wp2_with fail
  refine n1.mono ?_
  rintro e w1 ⟨rfl, b1⟩
  have B1 := Lib.hid b1
  clear b1 n1
  have n2 := code_any w1 2 ⟨#[99, 111, 111, 107, 105, 101]⟩
  rw [a3, a4] at n2
  go_wp2_with fail
  refine n2.mono ?_
  rintro e w2 ⟨rfl, b2⟩
  have B2 := Lib.hid (B1.out.trans (b2.mono B1.out.size))
  clear b2 n2 B1
  go_wp2_with fail
  refine (grease_any w2 2570).mono ?_
  rintro e w3 ⟨rfl, rfl⟩
  go_wp2_with fail
  refine (grease_any w3 2571).mono ?_
  rintro e w4 ⟨rfl, rfl⟩
  go_wp2_with fail
  go_ret
  exact ⟨rfl, B2.out⟩
end Go.Proofs.Ytdklkffodhcmfaa

