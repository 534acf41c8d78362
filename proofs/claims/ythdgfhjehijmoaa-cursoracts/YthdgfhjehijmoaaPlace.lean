/- A base that may be. -/
import Derived.Test.YthdgfhjehijmoaaCr
namespace Go.Proofs.Ythdgfhjehijmoaa
open Go.RowKit

/-- The place that the law takes for a number. -/
def plc (a : Int) : Int := (IntKind.u64.wrap a).tmod 1099511627776
theorem plc_bd (a : Int) : 0 ≤ plc a ∧ plc a < 1099511627776 := by
  have h0 : 0 ≤ IntKind.u64.wrap a := by rw [IntKind.wrap_u64]; omega
  unfold plc
  rw [Int.tmod_eq_emod_of_nonneg h0]
  omega

set_option maxHeartbeats 400000 in
theorem place_any (w : World) (a : Int) : Calls Try.prog 10 #[.int .i64 a] w fun e w' => e = .returned (.int .i64 (plc a)) ∧ w = w' := by
  have hb := plc_bd a
  have he : (IntKind.u64.wrap a).tmod 1099511627776 = plc a := rfl
  generalize plc a = q at *
  go_enter Try.func10, Try.ntmps10
  go_wp2
  go_ret
  exact ⟨rfl, rfl⟩
end Go.Proofs.Ythdgfhjehijmoaa
