/- The statements' own example of a tally. -/
import Derived.Test.YtooiejfabnaljaaTal
namespace Go.Proofs.Ytooiejfabnaljaa
open Go.RowKit

set_option maxHeartbeats 2000000 in
theorem alive3_any (w : World) :
    Calls Try.prog 10 #[] w fun e w' => e = .returned (.bool true) ∧ Grew w w' none := by
  go_enter Try.func10, Try.ntmps10
  go_wp2_with fail
  refine (tnew_ok w 5 (by omega) (by omega)).mono ?_
  rintro e w1 ⟨rfl, h1, g1⟩
  have H1 := Lib.hid h1
  have G1 := Lib.hid g1
  have hsz : w.heap.size ≤ w.heap.size := Nat.le_refl _
  clear h1 g1
  generalize hp : w.heap.size = p at *
  have HP := Lib.hid hp
  clear hp hsz
  go_wp2_with fail
  refine (tspend_any w1 p 5 0 H1.out 3 (by omega)).mono ?_
  rintro e w2 ⟨rfl, h2, g2⟩
  rw [spC_ok (by omega) (by omega)] at h2
  rw [spE_ok (by omega) (by omega)]
  have H2 := Lib.hid h2
  have G2 := Lib.hid (grew_own G1.out g2 (Nat.le_of_eq HP.out))
  clear h2 g2
  go_wp2_with fail
  refine (tspend_any w2 p 5 (0 + 3) H2.out 3 (by omega)).mono ?_
  rintro e w3 ⟨rfl, h3, g3⟩
  rw [spC_cap (by omega) (by omega)] at h3
  rw [spE_cap (by omega) (by omega)]
  have H3 := Lib.hid h3
  have G3 := Lib.hid (grew_own G2.out g3 (Nat.le_of_eq HP.out))
  clear h3 g3
  go_wp2_with fail
  refine (tcount_any w3 p 5 (0 + 3) H3.out).mono ?_
  rintro e w4 ⟨rfl, rfl⟩
  go_wp2_with fail
  refine (tspend_any w3 p 5 (0 + 3) H3.out 2 (by omega)).mono ?_
  rintro e w4 ⟨rfl, h4, g4⟩
  rw [spC_ok (by omega) (by omega)] at h4
  rw [spE_ok (by omega) (by omega)]
  have H4 := Lib.hid h4
  have G4 := Lib.hid (grew_own G3.out g4 (Nat.le_of_eq HP.out))
  clear h4 g4
  go_wp2_with fail
  refine (tleft_any w4 p 5 (0 + 3 + 2) H4.out).mono ?_
  rintro e w5 ⟨rfl, k, rfl⟩
  go_wp2_with fail
  go_ret
  exact ⟨rfl, grew_drewN G4.out _⟩

end Go.Proofs.Ytooiejfabnaljaa

