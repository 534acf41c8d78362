/- Number: the package's own. -/
import Derived.Test.YtnegakobammljaaNm
import Derived.Test.YtnegakobammljaaSl
import Derived.Laws.BitsAllLaws
namespace Go.Proofs.Ytnegakobammljaa
open Go.RowKit

theorem or_byte_s (n : Int) (b : Nat) (h1 : -36028797018963968 ≤ n) (h2 : n < 36028797018963968) (hb : b < 256) : bits .or .i64 (n * 256) (b : Int) = n * 256 + b := by
  have e : bits .or .i64 (n * 256) (b : Int) = IntKind.i64.wrap ((BitVec.ofInt 64 (n * 256) ||| BitVec.ofInt 64 (b : Int)).toNat : Int) := rfl
  rw [e, BitVec.toNat_or, BitVec.toNat_ofInt, BitVec.toNat_ofInt]
  have eb : ((b : Int) % (2 ^ 64 : Nat)).toNat = b := by omega
  rw [eb, nat_join 8 _ _ (by omega) (by omega), IntWalk.i64_left]
  unfold wrap64
  omega

/-- 'b[1:]' of a list that isn't empty: it lies behind the first byte, if there is a second one. -/
theorem slice_rest' (b o n c : Nat) (hn : n + 1 ≤ c) :
    ∃ A', (∀ w, (Instr.slice 22 (.slice (some ⟨b, o, none⟩) (n + 1) c) (some (.int .i64 1)) none none).run Try.prog w = .ok (.slice A' n (c - 1)) w) ∧ (0 < n → A' = some ⟨b, o + 1, none⟩) := by
  by_cases hc : c = 1
  · refine ⟨some ⟨b, o, none⟩, fun w => ?_, fun h => by omega⟩
    have := run_slice_l w 22 (some ⟨b, o, none⟩) (n + 1) c under_bytes .i64 1 (by omega) (by omega)
    rw [this, elem_u8, size_of_u8]
    have h0 : n = 0 := by omega
    subst h0
    subst hc
    simp [Result.andThen, sliced]
  · refine ⟨some ⟨b, o + 1, none⟩, fun w => ?_, fun _ => rfl⟩
    have := slice_from w b o (n + 1) c 1 (by omega) (by omega)
    simpa using this
theorem slice_rest (w : World) (b o n c : Nat) (hn : n + 1 ≤ c) :
    ∃ A', (Instr.slice 22 (.slice (some ⟨b, o, none⟩) (n + 1) c) (some (.int .i64 1)) none none).run Try.prog w = .ok (.slice A' n (c - 1)) w ∧ (0 < n → A' = some ⟨b, o + 1, none⟩) :=
  (slice_rest' b o n c hn).imp fun _ h => ⟨h.1 w, h.2⟩

set_option maxRecDepth 100000 in
set_option maxHeartbeats 2000000 in
theorem number_any (w : World) (A : Option Addr) (c : Nat) (xs : List UInt8) (hb : Byt w w.heap.size A xs) (hcap : xs.length ≤ c) :
    Calls Try.prog 12 #[.slice A xs.length c] w fun e w' => e = .returned (.tuple #[.int .i64 (nmR xs), .int .i64 (nmE xs)]) ∧ w' = w := by
  have hck := isnum_any w A c xs hb
  cases hv : nmB xs with
  | false =>
    rw [hv] at hck
    obtain ⟨L, hL⟩ : ∃ L, xs.length = L := ⟨_, rfl⟩
    rw [hL] at hck ⊢
    have HE := Lib.hid (show nmE xs = 13 by unfold nmE; rw [hv]; rfl)
    have HR := Lib.hid (show nmR xs = 0 by unfold nmR; rw [HE.out]; rfl)
    rw [HE.out, HR.out]
    clear hv hb hL hcap
    go_enter Try.func12, Try.ntmps12
    go_wp2_with fail
    refine hck.mono ?_
    rintro e w' ⟨rfl, rfl⟩
    go_wp2_with fail
    go_ret2
    exact ⟨rfl, rfl⟩
  | true =>
    rw [hv] at hck
    have hne : 0 < xs.length := by cases xs with | nil => cases hv | cons _ _ => simp
    obtain ⟨M, hL⟩ : ∃ M, xs.length = M + 1 := ⟨xs.length - 1, by omega⟩
    rw [hL] at hck hcap ⊢
    by_cases h8 : 8 < M + 1
    · have HE := Lib.hid (show nmE xs = 5 by unfold nmE; rw [hv, if_pos rfl, if_pos (by rw [hL]; exact h8)])
      have HR := Lib.hid (show nmR xs = 0 by unfold nmR; rw [HE.out]; rfl)
      rw [HE.out, HR.out]
      have h8' : 8 < (M : Int) + 1 := by omega
      clear hv h8 hb hL hcap hne
      go_enter Try.func12, Try.ntmps12
      go_wp2_with fail
      refine hck.mono ?_
      rintro e w' ⟨rfl, rfl⟩
      go_wp2_with fail
      go_ret2
      exact ⟨rfl, rfl⟩
    · have h8' : ¬ 8 < (M : Int) + 1 := by omega
      have HE := Lib.hid (show nmE xs = 0 by unfold nmE; rw [hv, if_pos rfl, if_neg (by rw [hL]; exact h8)])
      have HR := Lib.hid (show nmR xs = nmV xs by unfold nmR; rw [HE.out]; rfl)
      rw [HE.out, HR.out]
      obtain ⟨b, o, rfl, -, hc⟩ := hb hne
      obtain ⟨d, hd⟩ : ∃ d, (xs.getD 0 0).toNat = d := ⟨_, rfl⟩
      have hd256 : d < 256 := by rw [← hd]; exact UInt8.toNat_lt _
      have hnm : nmV xs = nmF (if 128 ≤ d then (d : Int) - 256 else d) (xs.drop 1) := by rw [← hd]; cases xs with | nil => cases hv | cons x r => rfl
      have HBY := Lib.hid (show ∀ i, i < M → w.cell? ⟨b, o + 1 + i, none⟩ = some (.int .u8 ((xs.getD (i + 1) 0).toNat : Int)) from fun i hi => by
        have := hc (i + 1) (by omega)
        rw [show o + 1 + i = o + (i + 1) by omega]
        exact this)
      have c0 : w.cell? ⟨b, o, none⟩ = some (.int .u8 (d : Int)) := by have := hc 0 hne; rw [hd] at this; exact this
      have step : ∀ (n : Int) (j : Nat), j < M → -(128 * (256 ^ j : Nat)) ≤ n → n < 128 * (256 ^ j : Nat) → ∀ x : Nat, x < 256 →
          wrap64 (n * 256) = n * 256 ∧ bits .or .i64 (n * 256) (x : Int) = n * 256 + x ∧ -(128 * (256 ^ (j + 1) : Nat)) ≤ n * 256 + x ∧ n * 256 + (x : Int) < 128 * (256 ^ (j + 1) : Nat) := by
        intro n j hj2 h1 h2 x hx
        have hp : 256 ^ j ≤ 256 ^ 6 := Nat.pow_le_pow_right (by omega) (by omega)
        have h6 : (256 : Nat) ^ 6 = 281474976710656 := by decide
        have hs : 256 ^ (j + 1) = 256 * 256 ^ j := by rw [Nat.pow_succ, Nat.mul_comm]
        rw [hs]
        generalize 256 ^ j = B at *
        refine ⟨IntWalk.wrap64_in _ (by omega), or_byte_s n x (by omega) (by omega) hx, by push_cast; omega, by push_cast; omega⟩
      have HST := Lib.hid step
      obtain ⟨n0, hn0⟩ : ∃ n0, (if 128 ≤ d then (d : Int) - 256 else d) = n0 := ⟨_, rfl⟩
      rw [hn0] at hnm
      have hb0 : -128 ≤ n0 ∧ n0 < 128 := by rw [← hn0]; split <;> omega
      have HA := Lib.hid hb0
      have HNM := Lib.hid hnm
      have HLX := Lib.hid hL
      have f1 : IntKind.i8.wrap (d : Int) = n0 := by
        rw [← hn0]
        have e8 : (d : Int) % 256 = d := by omega
        have : IntKind.i8.wrap (d : Int) = if 128 ≤ (d : Int) % 256 then (d : Int) % 256 - 256 else (d : Int) % 256 := by
          simp [IntKind.wrap, IntKind.bits, IntKind.signed]
        rw [this, e8]
        split <;> split <;> omega
      have f2 : IntKind.i64.wrap n0 = n0 := by
        rw [IntWalk.i64_left, IntWalk.wrap64_in _ (by omega)]
      obtain ⟨A', hsl, hA'⟩ := slice_rest w b o M c hcap
      have HA' := Lib.hid hA'
      have hcI : (M : Int) + 1 ≤ (c : Int) := by omega
      clear hv h8 hne hd hnm step hn0 hb0 hc hL hA' hcap
      go_enter Try.func12, Try.ntmps12
      go_wp2_with fail
      refine hck.mono ?_
      rintro e w' ⟨rfl, hw⟩
      obtain rfl : w = w' := hw.symm
      clear hw hck
      go_wp2_with fail
      clear c0 f1 f2 hsl
      go_loopw [4, 21] (fun v i wr => ∃ (j : Nat) (n : Int), j ≤ M ∧ i = .int .i64 j ∧ v = .int .i64 n ∧ Hid (nmV xs = nmF n (xs.drop (j + 1))) ∧ Hid (-(128 * (256 ^ j : Nat)) ≤ n ∧ n < 128 * (256 ^ j : Nat)) ∧ wr = w) (fun _ i _ => M - (intOf i).toNat)
      case atStart => exact ⟨0, n0, Nat.zero_le _, rfl, rfl, Lib.hid HNM.out, Lib.hid (by have := HA.out; simpa using this), rfl⟩
      case round =>
        obtain ⟨j, n, hj, rfl, rfl, hv, hbd, hwr⟩ := hrel
        obtain rfl : w = wr := hwr.symm
        clear hwr
        have hjI : (j : Int) ≤ 8 := by omega
        by_cases hlt : j < M
        · obtain rfl := HA'.out (by omega)
          obtain ⟨x, hx⟩ : ∃ x, xs.getD (j + 1) 0 = x := ⟨_, rfl⟩
          obtain ⟨k, hk⟩ : ∃ k, x.toNat = k := ⟨_, rfl⟩
          have hk256 : k < 256 := by rw [← hk]; exact x.toNat_lt
          have c1 : w.cell? ⟨b, o + 1 + j, none⟩ = some (.int .u8 (k : Int)) := by rw [HBY.out j hlt, hx, hk]
          obtain ⟨w1, w2, s1, s2⟩ := HST.out n j hlt hbd.out.1 hbd.out.2 k hk256
          have HV2 := Lib.hid (show nmV xs = nmF (n * 256 + (k : Int)) (xs.drop (j + 1 + 1)) by
            rw [hv.out, getD_take_drop (by rw [HLX.out]; omega), hx]
            show nmF (256 * n + (x.toNat : Int)) _ = _
            rw [hk, Int.mul_comm])
          have HB2 := Lib.hid (And.intro s1 s2)
          have f3 : IntKind.i64.wrap (k : Int) = k := by clear w1 w2 s1 s2; rw [IntWalk.i64_left, IntWalk.wrap64_in _ (by omega)]
          clear hx hk s1 s2 hv hbd
          go_wp2_with fail
          go_roundw
          case rel => exact ⟨j + 1, n * 256 + (k : Int), hlt, rfl, rfl, HV2, HB2, trivial⟩
          case measure => simp [intOf]; omega
        · obtain rfl : j = M := by omega
          have hz : nmV xs = n := by rw [hv.out, List.drop_of_length_le (by rw [HLX.out]; exact Nat.le_refl _)]; rfl
          have HZ := Lib.hid hz
          clear hv hbd hz
          go_wp2_with fail
          go_ret2
          exact ⟨by rw [HZ.out]; rfl, rfl⟩
end Go.Proofs.Ytnegakobammljaa

