/- The document's own answers of layer 10: identifiers, bit strings. -/
import Derived.Test.YtnegakobammljaaTr1
namespace Go.Proofs.Ytnegakobammljaa
open Go.RowKit

/-- Does a number begin at place j? -/
def obS (xs : List UInt8) (j : Nat) : Bool := j == 0 || decide ((xs.getD (j - 1) 0).toNat < 128)

set_option maxRecDepth 100000 in
set_option maxHeartbeats 1000000 in
theorem roid_any (w : World) (A : Option Addr) (c : Nat) (xs : List UInt8) (hb : Byt w w.heap.size A xs) (hl : xs.length ≤ 140737488351232) :
    Calls Try.prog 25 #[.slice A xs.length c] w fun e w' => e = .returned (.bool (ob xs)) ∧ w' = w := by
  obtain ⟨L, hL⟩ : ∃ L, xs.length = L := ⟨_, rfl⟩
  rw [hL] at hl ⊢
  have HC := Lib.hid hl
  clear hl
  have HB := Lib.hid hb
  have HL := Lib.hid hL
  clear hb hL
  go_enter Try.func25, Try.ntmps25
  go_wp2_with fail
  go_loopw [3] (fun i wr => ∃ j : Nat, j ≤ L ∧ i = .int .i64 j ∧ Hid (obF true xs = obF (obS xs j) (xs.drop j)) ∧ wr = w) (fun i _ => L - (intOf i).toNat)
  case atStart => exact ⟨0, Nat.zero_le _, rfl, Lib.hid rfl, rfl⟩
  case round =>
    obtain ⟨j, hj, rfl, hd, hwr⟩ := hrel
    obtain rfl : w = wr := hwr.symm
    clear hwr
    have hjI : (j : Int) ≤ 140737488351232 := by have := HC.out; omega
    by_cases hlt : j < L
    · obtain ⟨b, o, rfl, -, hc⟩ := HB.out (by rw [HL.out]; omega)
      have hlen := HL.out
      obtain ⟨x, hx⟩ : ∃ x, xs.getD j 0 = x := ⟨_, rfl⟩
      obtain ⟨d, hdd⟩ : ∃ d, x.toNat = d := ⟨_, rfl⟩
      have hd256 : d < 256 := by rw [← hdd]; exact x.toNat_lt
      have c1 : w.cell? ⟨b, o + j, none⟩ = some (.int .u8 (d : Int)) := by rw [hc j (by omega), hx, hdd]
      have hst : obS xs (j + 1) = decide (d < 128) := by rw [← hdd, ← hx]; rfl
      have hstep : obF true xs = if (obS xs j && d == 128) = true then false else obF (obS xs (j + 1)) (xs.drop (j + 1)) := by
        rw [hd.out, getD_take_drop (by omega), hx, hst, ← hdd]
        rfl
      have HST := Lib.hid hstep
      clear hstep hst
      have hne : xs.isEmpty = false := by cases xs with | nil => simp at hlen; omega | cons _ _ => rfl
      have HNE := Lib.hid hne
      clear hne hx hdd hlen hd
      by_cases g1 : d = 128
      · have g1' : ((d : Int) == 128) = true := by rw [g1]; rfl
        by_cases g2 : j = 0
        · have g2' : ((j : Int) == 0) = true := by rw [g2]; rfl
          have hres : ob xs = false := by
            unfold ob
            rw [HST.out, if_pos (by rw [g1, g2]; rfl)]
            simp
          have HR := Lib.hid hres
          clear hres hc g1 g2
          go_wp2_with fail
          go_ret
          exact ⟨by rw [HR.out]; rfl, rfl⟩
        · have g2' : ((j : Int) == 0) = false := beq_eq_false_iff_ne.2 (by omega)
          obtain ⟨k, rfl⟩ : ∃ k, j = k + 1 := ⟨j - 1, by omega⟩
          have hkI : (k : Int) ≤ 140737488351231 := by omega
          clear hjI
          obtain ⟨p, hp⟩ : ∃ p, (xs.getD k 0).toNat = p := ⟨_, rfl⟩
          have hp256 : p < 256 := by rw [← hp]; exact UInt8.toNat_lt _
          have c2 : w.cell? ⟨b, o + k, none⟩ = some (.int .u8 (p : Int)) := by rw [hc k (by have := HL.out; omega), hp]
          have hs : obS xs (k + 1) = decide (p < 128) := by rw [← hp]; rfl
          have e1 : ((k + 1 : Nat) : Int) - 1 = (k : Int) := by omega
          by_cases g3 : p < 128
          · have g3' : (p : Int) < 128 := by omega
            have hres : ob xs = false := by
              unfold ob
              rw [HST.out, if_pos (by rw [g1, hs, decide_eq_true g3]; rfl)]
              simp
            have HR := Lib.hid hres
            clear hres hc g1 g2 hp hs
            go_wp2_with fail
            go_ret
            exact ⟨by rw [HR.out]; rfl, rfl⟩
          · have g3' : ¬ (p : Int) < 128 := by omega
            have HN := Lib.hid (show obF true xs = obF (obS xs (k + 1 + 1)) (xs.drop (k + 1 + 1)) by rw [HST.out, if_neg (by rw [hs, decide_eq_false g3]; simp)])
            clear hc g1 g2 hp hs
            go_wp2_with fail
            go_roundw
            case rel => exact ⟨k + 1 + 1, hlt, rfl, HN, trivial⟩
            case measure => simp [intOf]; omega
      · have g1' : ((d : Int) == 128) = false := beq_eq_false_iff_ne.2 (by omega)
        have HN := Lib.hid (show obF true xs = obF (obS xs (j + 1)) (xs.drop (j + 1)) by rw [HST.out, if_neg (by simp; omega)])
        clear hc g1
        go_wp2_with fail
        go_roundw
        case rel => exact ⟨j + 1, hlt, rfl, HN, trivial⟩
        case measure => simp [intOf]; omega
    · obtain rfl : j = L := by omega
      have hd0 : obF true xs = obS xs j := by rw [hd.out, List.drop_of_length_le (by rw [HL.out]; omega)]; rfl
      by_cases h0 : j = 0
      · have hz : xs = [] := List.eq_nil_of_length_eq_zero (by rw [HL.out]; exact h0)
        have HR := Lib.hid (show ob xs = false by rw [hz]; rfl)
        have h0' : ¬ 0 < (j : Int) := by omega
        clear hd0 hz hd
        go_wp2_with fail
        go_ret
        exact ⟨by rw [HR.out]; rfl, rfl⟩
      · obtain ⟨k, rfl⟩ : ∃ k, j = k + 1 := ⟨j - 1, by omega⟩
        have hkI : (k : Int) ≤ 140737488351231 := by omega
        clear hjI
        obtain ⟨b, o, rfl, -, hc⟩ := HB.out (by rw [HL.out]; omega)
        obtain ⟨p, hp⟩ : ∃ p, (xs.getD k 0).toNat = p := ⟨_, rfl⟩
        have hp256 : p < 256 := by rw [← hp]; exact UInt8.toNat_lt _
        have c2 : w.cell? ⟨b, o + k, none⟩ = some (.int .u8 (p : Int)) := by rw [hc k (by have := HL.out; omega), hp]
        have hs : obS xs (k + 1) = decide (p < 128) := by rw [← hp]; rfl
        have hne : xs.isEmpty = false := by cases xs with | nil => have := HL.out; simp at this | cons _ _ => rfl
        have HR := Lib.hid (show ob xs = decide (p < 128) by unfold ob; rw [hne, hd0, hs]; rfl)
        have e1 : ((k + 1 : Nat) : Int) - 1 = (k : Int) := by omega
        have e2 : decide ((p : Int) < 128) = decide (p < 128) := by simp; omega
        have h0' : 0 < ((k + 1 : Nat) : Int) := by omega
        clear hd0 hd hc hp hs hne h0
        go_wp2_with fail
        go_ret
        refine ⟨?_, rfl⟩
        rw [HR.out]
        first | rfl | (simp)
end Go.Proofs.Ytnegakobammljaa

