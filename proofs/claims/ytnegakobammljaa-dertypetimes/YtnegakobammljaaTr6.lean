/- The document's own answers of layer 10: Number. -/
import Derived.Test.YtnegakobammljaaTr5
namespace Go.Proofs.Ytnegakobammljaa
open Go.RowKit

set_option maxRecDepth 100000 in
set_option maxHeartbeats 2000000 in
theorem rnumber_any (w : World) (A : Option Addr) (c : Nat) (xs : List UInt8) (hb : Byt w w.heap.size A xs) :
    Calls Try.prog 13 #[.slice A xs.length c] w fun e w' => e = .returned (.tuple #[.int .i64 (nmR xs), .int .i64 (nmE xs)]) ∧ Below w.heap.size w w' := by
  have hck := rck2 w A c xs hb
  obtain ⟨L, hL⟩ : ∃ L, xs.length = L := ⟨_, rfl⟩
  rw [hL] at hck ⊢
  have HL := Lib.hid hL
  have HB := Lib.hid hb
  clear hb hL
  cases hv : nmB xs with
  | false =>
    rw [hv] at hck
    have HE := Lib.hid (show nmE xs = 13 by unfold nmE; rw [hv]; rfl)
    have HR := Lib.hid (show nmR xs = 0 by unfold nmR; rw [HE.out]; rfl)
    rw [HE.out, HR.out]
    clear hv
    go_enter Try.func13, Try.ntmps13
    go_wp2_with fail
    refine hck.mono ?_
    rintro e w' ⟨rfl, hB⟩
    go_wp2_with fail
    go_ret2
    exact ⟨rfl, hB⟩
  | true =>
    rw [hv] at hck
    by_cases h8 : 8 < L
    · have HE := Lib.hid (show nmE xs = 5 by unfold nmE; rw [hv, if_pos rfl, if_pos (by rw [HL.out]; exact h8)])
      have HR := Lib.hid (show nmR xs = 0 by unfold nmR; rw [HE.out]; rfl)
      rw [HE.out, HR.out]
      have h8' : 8 < (L : Int) := by omega
      clear hv h8
      go_enter Try.func13, Try.ntmps13
      go_wp2_with fail
      refine hck.mono ?_
      rintro e w' ⟨rfl, hB⟩
      go_wp2_with fail
      go_ret2
      exact ⟨rfl, hB⟩
    · have h8' : ¬ 8 < (L : Int) := by omega
      have HE := Lib.hid (show nmE xs = 0 by unfold nmE; rw [hv, if_pos rfl, if_neg (by rw [HL.out]; exact h8)])
      have HR := Lib.hid (show nmR xs = nmV xs by unfold nmR; rw [HE.out]; rfl)
      rw [HE.out, HR.out]
      have hne : 0 < xs.length := by cases xs with | nil => cases hv | cons _ _ => simp
      obtain ⟨b, o, rfl, -, -⟩ := HB.out hne
      obtain ⟨d, hd⟩ : ∃ d, (xs.getD 0 0).toNat = d := ⟨_, rfl⟩
      have hd256 : d < 256 := by rw [← hd]; exact UInt8.toNat_lt _
      have hnm : nmV xs = nmF (if 128 ≤ d then (d : Int) - 256 else d) (xs.drop 1) := by rw [← hd]; cases xs with | nil => cases hv | cons x r => rfl
      have hL1 : 0 < L := by rw [← HL.out]; exact hne
      have HD := Lib.hid hd
      have H8 := Lib.hid h8
      have HNM := Lib.hid hnm
      have HCH := Lib.hid hck
      have HLE := Lib.hid hL1
      clear hv h8 hne hd hnm hck hL1
      have hLI : 0 < (L : Int) := by have := HLE.out; omega
      go_enter Try.func13, Try.ntmps13
      go_wp2_with fail
      refine HCH.out.mono ?_
      rintro e W ⟨rfl, hB⟩
      have HBB := Lib.hid hB
      have HBY := Lib.hid (show ∀ i, i < L → W.cell? ⟨b, o + i, none⟩ = some (.int .u8 ((xs.getD i 0).toNat : Int)) from fun i hi => by
        obtain ⟨b', o', e', hb', hc⟩ := HB.out (by rw [HL.out]; omega)
        cases e'
        exact (hB.cell (p := ⟨b, o + i, none⟩) hb').trans (hc i (by rw [HL.out]; exact hi)))
      have c0 : W.cell? ⟨b, o, none⟩ = some (.int .u8 (d : Int)) := by have := HBY.out 0 HLE.out; rw [HD.out] at this; exact this
      have f1 : IntKind.i64.wrap (d : Int) = d := by rw [IntWalk.i64_left, IntWalk.wrap64_in _ (by omega)]
      clear hB HCH HB
      have arm : ∀ n0 : Int, (if 128 ≤ d then (d : Int) - 256 else d) = n0 → -128 ≤ n0 ∧ n0 < 128 ∧ nmV xs = nmF n0 (xs.drop 1) := by
        rintro n0 rfl
        refine ⟨?_, ?_, HNM.out⟩
        · split <;> omega
        · split <;> omega
      obtain ⟨n0, hn0⟩ : ∃ n0, (if 128 ≤ d then (d : Int) - 256 else d) = n0 := ⟨_, rfl⟩
      obtain ⟨a1, a2, a3⟩ := arm n0 hn0
      have HA3 := Lib.hid a3
      clear arm a3
      have step : ∀ (n : Int) (j : Nat), 1 ≤ j → j < L → -(128 * (256 ^ (j - 1) : Nat)) ≤ n → n < 128 * (256 ^ (j - 1) : Nat) → ∀ x : Nat, x < 256 →
          wrap64 (n * 256) = n * 256 ∧ wrap64 (n * 256 + x) = n * 256 + x ∧ -(128 * (256 ^ j : Nat)) ≤ n * 256 + x ∧ n * 256 + (x : Int) < 128 * (256 ^ j : Nat) := by
        intro n j hj1 hj2 h1 h2 x hx
        have h8 := H8.out
        have hp : 256 ^ (j - 1) ≤ 256 ^ 6 := Nat.pow_le_pow_right (by omega) (by omega)
        have h6 : (256 : Nat) ^ 6 = 281474976710656 := by decide
        have hs : 256 ^ j = 256 * 256 ^ (j - 1) := by rw [show j = j - 1 + 1 by omega, Nat.pow_succ, Nat.mul_comm]; simp
        rw [hs]
        generalize 256 ^ (j - 1) = B at *
        refine ⟨IntWalk.wrap64_in _ (by omega), IntWalk.wrap64_in _ (by omega), by push_cast; omega, by push_cast; omega⟩
      have HST := Lib.hid step
      have HA := Lib.hid (And.intro a1 a2)
      clear step a1 a2
      by_cases g1 : 128 ≤ d
      · have g1' : 128 ≤ (d : Int) := by omega
        rw [if_pos g1] at hn0
        have HN0 := Lib.hid hn0
        clear hn0 g1
        go_wp2_with fail
        go_loopw [5, 6] (fun v i wr => ∃ (j : Nat) (n : Int), 1 ≤ j ∧ j ≤ L ∧ i = .int .i64 j ∧ v = .int .i64 n ∧ Hid (nmV xs = nmF n (xs.drop j)) ∧ Hid (-(128 * (256 ^ (j - 1) : Nat)) ≤ n ∧ n < 128 * (256 ^ (j - 1) : Nat)) ∧ wr = W) (fun _ i _ => L - (intOf i).toNat)
        case atStart => exact ⟨1, (d : Int) - 256, Nat.le_refl _, HLE.out, rfl, rfl, Lib.hid (by rw [HA3.out, HN0.out]), Lib.hid (by have := HA.out; rw [HN0.out]; simpa using this), rfl⟩
        case round =>
          obtain ⟨j, n, hj1, hj, rfl, rfl, hv, hbd, hwr⟩ := hrel
          obtain rfl : W = wr := hwr.symm
          clear hwr c0 f1
          by_cases hlt : j < L
          · obtain ⟨x, hx⟩ : ∃ x, xs.getD j 0 = x := ⟨_, rfl⟩
            obtain ⟨k, hk⟩ : ∃ k, x.toNat = k := ⟨_, rfl⟩
            have hk256 : k < 256 := by rw [← hk]; exact x.toNat_lt
            have c1 : W.cell? ⟨b, o + j, none⟩ = some (.int .u8 (k : Int)) := by rw [HBY.out j hlt, hx, hk]
            obtain ⟨w1, w2, s1, s2⟩ := HST.out n j hj1 hlt hbd.out.1 hbd.out.2 k hk256
            have HV2 := Lib.hid (show nmV xs = nmF (n * 256 + (k : Int)) (xs.drop (j + 1)) by
              rw [hv.out, getD_take_drop (by rw [HL.out]; exact hlt), hx]
              show nmF (256 * n + (x.toNat : Int)) _ = _
              rw [hk, Int.mul_comm])
            have HB2 := Lib.hid (And.intro s1 s2)
            have f3 : IntKind.i64.wrap (k : Int) = k := by clear w1 w2 s1 s2; rw [IntWalk.i64_left, IntWalk.wrap64_in _ (by omega)]
            clear hx hk s1 s2 hv hbd
            go_wp2_with fail
            go_roundw
            case rel => exact ⟨j + 1, n * 256 + (k : Int), by omega, hlt, rfl, by rw [w2], HV2, HB2, trivial⟩
            case measure => simp [intOf]; omega
          · obtain rfl : j = L := by omega
            have hz : nmV xs = n := by rw [hv.out, List.drop_of_length_le (by rw [HL.out]; exact Nat.le_refl _)]; rfl
            have HZ := Lib.hid hz
            clear hv hbd hz
            go_wp2_with fail
            go_ret2
            exact ⟨by rw [HZ.out]; rfl, HBB.out⟩
      · have g1' : ¬ 128 ≤ (d : Int) := by omega
        rw [if_neg g1] at hn0
        have HN0 := Lib.hid hn0
        clear hn0 g1
        go_wp2_with fail
        go_loopw [5, 6] (fun v i wr => ∃ (j : Nat) (n : Int), 1 ≤ j ∧ j ≤ L ∧ i = .int .i64 j ∧ v = .int .i64 n ∧ Hid (nmV xs = nmF n (xs.drop j)) ∧ Hid (-(128 * (256 ^ (j - 1) : Nat)) ≤ n ∧ n < 128 * (256 ^ (j - 1) : Nat)) ∧ wr = W) (fun _ i _ => L - (intOf i).toNat)
        case atStart => exact ⟨1, (d : Int), Nat.le_refl _, HLE.out, rfl, rfl, Lib.hid (by rw [HA3.out, HN0.out]), Lib.hid (by have := HA.out; rw [HN0.out]; simpa using this), rfl⟩
        case round =>
          obtain ⟨j, n, hj1, hj, rfl, rfl, hv, hbd, hwr⟩ := hrel
          obtain rfl : W = wr := hwr.symm
          clear hwr c0 f1
          by_cases hlt : j < L
          · obtain ⟨x, hx⟩ : ∃ x, xs.getD j 0 = x := ⟨_, rfl⟩
            obtain ⟨k, hk⟩ : ∃ k, x.toNat = k := ⟨_, rfl⟩
            have hk256 : k < 256 := by rw [← hk]; exact x.toNat_lt
            have c1 : W.cell? ⟨b, o + j, none⟩ = some (.int .u8 (k : Int)) := by rw [HBY.out j hlt, hx, hk]
            obtain ⟨w1, w2, s1, s2⟩ := HST.out n j hj1 hlt hbd.out.1 hbd.out.2 k hk256
            have HV2 := Lib.hid (show nmV xs = nmF (n * 256 + (k : Int)) (xs.drop (j + 1)) by
              rw [hv.out, getD_take_drop (by rw [HL.out]; exact hlt), hx]
              show nmF (256 * n + (x.toNat : Int)) _ = _
              rw [hk, Int.mul_comm])
            have HB2 := Lib.hid (And.intro s1 s2)
            have f3 : IntKind.i64.wrap (k : Int) = k := by clear w1 w2 s1 s2; rw [IntWalk.i64_left, IntWalk.wrap64_in _ (by omega)]
            clear hx hk s1 s2 hv hbd
            go_wp2_with fail
            go_roundw
            case rel => exact ⟨j + 1, n * 256 + (k : Int), by omega, hlt, rfl, by rw [w2], HV2, HB2, trivial⟩
            case measure => simp [intOf]; omega
          · obtain rfl : j = L := by omega
            have hz : nmV xs = n := by rw [hv.out, List.drop_of_length_le (by rw [HL.out]; exact Nat.le_refl _)]; rfl
            have HZ := Lib.hid hz
            clear hv hbd hz
            go_wp2_with fail
            go_ret2
            exact ⟨by rw [HZ.out]; rfl, HBB.out⟩
end Go.Proofs.Ytnegakobammljaa

