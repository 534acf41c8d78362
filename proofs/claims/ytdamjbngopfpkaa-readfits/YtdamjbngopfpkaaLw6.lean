/- What the statements ask of what is read. -/
import Derived.Test.YtdamjbngopfpkaaAl7
import Derived.Test.YtdamjbngopfpkaaRv
import Derived.Test.YtdamjbngopfpkaaOv
namespace Go.Proofs.Ytdamjbngopfpkaa
open Go.RowKit Va

theorem rdF_good {f : Fo} {xs : List UInt8} (hx : xs.length ≤ 1000000000000000) : (rdF f xs).n ≤ xs.length ∧ (rdF f xs).v.nf = (rdF f xs).v ∧ ((rdF f xs).e = 0 → f.chk = 0 ∧ fit f (rdF f xs).v = (((rdF f xs).n : Int), 0)) := by
  unfold rdF
  by_cases hc : f.chk = 0
  · rw [if_pos hc]
    obtain ⟨hd, hw⟩ := chk_zero hc
    have G := Rd.bd_good f hw hd xs hx
    exact ⟨G.le, G.nf, fun h => ⟨hc, (G.ok h).1⟩⟩
  · rw [if_neg hc]
    exact ⟨Nat.zero_le _, rfl, fun h => absurd h hc⟩
theorem rdAll_good {f : Fo} {xs : List UInt8} (hx : xs.length ≤ 1000000000000000) : (rdAll f xs).n ≤ xs.length ∧ ((rdAll f xs).e = 0 → f.chk = 0 ∧ (rdAll f xs).n = xs.length ∧ fit f (rdAll f xs).v = ((xs.length : Int), 0)) ∧ ((rdAll f xs).e ≠ 0 → (rdAll f xs).v = v0) := by
  obtain ⟨h1, h2, h3⟩ := rdF_good (f := f) hx
  have h4 := rdF_no (f := f) hx
  unfold rdAll
  by_cases h : (rdF f xs).e = 0 ∧ (rdF f xs).n < xs.length
  · rw [if_pos h]
    exact ⟨h1, fun h => absurd h (show ¬ (6 : Int) = 0 by omega), fun _ => rfl⟩
  · rw [if_neg h]
    refine ⟨h1, fun h0 => ?_, h4⟩
    obtain ⟨h5, h6⟩ := h3 h0
    have h7 : (rdF f xs).n = xs.length := by
      rcases Nat.lt_or_ge (rdF f xs).n xs.length with h8 | h8
      · exact absurd ⟨h0, h8⟩ h
      · omega
    rw [h7] at h6
    exact ⟨h5, h7, h6⟩
theorem same_of {a b u : Va} (ha : a.nf = u) (hb : b.nf = u) : same a b = true := (same_nf a b).2 (ha.trans hb.symm)
end Go.Proofs.Ytdamjbngopfpkaa

