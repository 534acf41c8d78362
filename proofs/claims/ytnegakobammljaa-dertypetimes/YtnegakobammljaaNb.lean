/- The package's own tests of contents: an identifier, a bit string. -/
import Derived.Test.YtnegakobammljaaTr3
import Derived.Test.YtnegakobammljaaLp2
namespace Go.Proofs.Ytnegakobammljaa
open Go.RowKit

set_option maxRecDepth 100000 in
set_option maxHeartbeats 1000000 in
theorem isoid_any (w : World) (A : Option Addr) (c : Nat) (xs : List UInt8) (hb : Byt w w.heap.size A xs) (hl : xs.length ≤ 140737488351232) :
    Calls Try.prog 27 #[.slice A xs.length c] w fun e w' => e = .returned (.bool (ob xs)) ∧ w' = w := by
  obtain ⟨L, hL⟩ : ∃ L, xs.length = L := ⟨_, rfl⟩
  rw [hL] at hl ⊢
  obtain ⟨R, hR⟩ : ∃ R, ob xs = R := ⟨_, rfl⟩
  have HR := Lib.hid hR
  have HC := Lib.hid hl
  have HB := Lib.hid hb
  have HL := Lib.hid hL
  rw [hR]
  clear hb hL hl hR
  go_enter Try.func27, Try.ntmps27
  go_wp2_with fail
  go_loopw [3, 8] (fun s i wr => ∃ (j : Nat) (st : Bool), j ≤ L ∧ i = .int .i64 j ∧ s = .bool st ∧ Hid (obF true xs = obF st (xs.drop j)) ∧ wr = w) (fun _ i _ => L - (intOf i).toNat)
  case atStart => exact ⟨0, true, Nat.zero_le _, rfl, rfl, Lib.hid rfl, rfl⟩
  case round =>
    obtain ⟨j, st, hj, rfl, rfl, hd, hwr⟩ := hrel
    obtain rfl : w = wr := hwr.symm
    clear hwr
    have hjI : (j : Int) ≤ 140737488351232 := by have := HC.out; omega
    by_cases hlt : j < L
    · obtain ⟨b, o, rfl, -, hc⟩ := HB.out (by rw [HL.out]; omega)
      obtain ⟨x, hx⟩ : ∃ x, xs.getD j 0 = x := ⟨_, rfl⟩
      obtain ⟨d, hdd⟩ : ∃ d, x.toNat = d := ⟨_, rfl⟩
      have hd256 : d < 256 := by rw [← hdd]; exact x.toNat_lt
      have c1 : w.cell? ⟨b, o + j, none⟩ = some (.int .u8 (d : Int)) := by rw [hc j (by rw [HL.out]; omega), hx, hdd]
      have hstep : obF true xs = if (st && d == 128) = true then false else obF (decide (d < 128)) (xs.drop (j + 1)) := by
        rw [hd.out, getD_take_drop (by rw [HL.out]; exact hlt), hx, ← hdd]
        rfl
      have HST := Lib.hid hstep
      clear hstep hx hdd hd hc
      by_cases g : (st && d == 128) = true
      · have hs : st = true := by cases st <;> simp_all
        have hd8 : d = 128 := by cases st <;> simp_all
        subst hs
        subst hd8
        have e : R = false := by
          rw [← HR.out]
          unfold ob
          rw [HST.out, if_pos (by rfl)]
          simp
        subst e
        clear g
        go_wp2_with fail
        go_ret
        exact ⟨rfl, rfl⟩
      · have HN := Lib.hid (show obF true xs = obF (decide (d < 128)) (xs.drop (j + 1)) by rw [HST.out, if_neg g])
        cases st with
        | false =>
          clear g
          go_wp2_with fail
          go_roundw
          case rel => exact ⟨j + 1, decide (d < 128), hlt, rfl, congrArg Value.bool (decide_eq_decide.2 (by omega)), HN, trivial⟩
          case measure => simp [intOf]; omega
        | true =>
          have g1 : ((d : Int) == 128) = false := beq_eq_false_iff_ne.2 (by
            have h9 : ¬ d = 128 := by simpa using g
            omega)
          clear g
          go_wp2_with fail
          go_roundw
          case rel => exact ⟨j + 1, decide (d < 128), hlt, rfl, congrArg Value.bool (decide_eq_decide.2 (by omega)), HN, trivial⟩
          case measure => simp [intOf]; omega
    · obtain rfl : j = L := by omega
      have hd0 : obF true xs = st := by rw [hd.out, List.drop_of_length_le (by rw [HL.out]; omega)]; rfl
      by_cases h0 : j = 0
      · have hz : xs = [] := List.eq_nil_of_length_eq_zero (by rw [HL.out]; exact h0)
        have e : R = false := by rw [← HR.out, hz]; rfl
        have h0' : ¬ 0 < (j : Int) := by omega
        subst e
        clear hd0 hz hd
        go_wp2_with fail
        go_ret
        exact ⟨rfl, rfl⟩
      · have h0' : 0 < (j : Int) := by omega
        have e : R = st := by
          rw [← HR.out]
          unfold ob
          rw [hd0]
          cases xs with
          | nil => exact absurd HL.out.symm h0
          | cons _ _ => rfl
        subst e
        clear hd0 hd h0
        go_wp2_with fail
        go_ret
        exact ⟨rfl, rfl⟩

theorem mask_all : ∀ k : Fin 8, ∀ v : Fin 256, (bits BinOp.and IntKind.u8 ((v.1 : Nat) : Int) ((2 ^ k.1 - 1 : Nat) : Int) == 0) = btF k.1 v.1 := by decide +kernel
theorem mask_bits {k v : Nat} (hk : k < 8) (hv : v < 256) : (bits BinOp.and IntKind.u8 (v : Int) ((2 ^ k - 1 : Nat) : Int) == 0) = btF k v := mask_all ⟨k, hk⟩ ⟨v, hv⟩
theorem modm_all : ∀ k : Fin 8, ∀ v : Fin 256, (((v.1 : Nat) : Int) % ((2 ^ k.1 : Nat) : Int) == 0) = btF k.1 v.1 := by decide +kernel
theorem modm_bits {k v : Nat} (hk : k < 8) (hv : v < 256) : ((v : Int) % ((2 ^ k : Nat) : Int) == 0) = btF k v := modm_all ⟨k, hk⟩ ⟨v, hv⟩

set_option maxRecDepth 100000 in
set_option maxHeartbeats 1000000 in
theorem isbits_any (w : World) (A : Option Addr) (c : Nat) (xs : List UInt8) (hb : Byt w w.heap.size A xs) (hl : xs.length ≤ 140737488351232) :
    Calls Try.prog 29 #[.slice A xs.length c] w fun e w' => e = .returned (.bool (bt xs)) ∧ w' = w := by
  cases xs with
  | nil =>
    go_enter Try.func29, Try.ntmps29
    go_wp2_with fail
    go_ret
    exact ⟨rfl, rfl⟩
  | cons x r =>
    obtain ⟨b, o, rfl, -, hc⟩ := hb (by simp)
    obtain ⟨M, hM⟩ : ∃ M, r.length = M := ⟨_, rfl⟩
    obtain ⟨d, hd⟩ : ∃ d, x.toNat = d := ⟨_, rfl⟩
    have hd256 : d < 256 := by rw [← hd]; exact x.toNat_lt
    have c0 : w.cell? ⟨b, o, none⟩ = some (.int .u8 (d : Int)) := by have := hc 0 (by simp); rw [← hd]; simpa using this
    have hlen : (x :: r).length = M + 1 := by rw [← hM]; rfl
    have hbt : bt (x :: r) = if 7 < d then false else if r.isEmpty then d == 0 else btF d ((x :: r).getD M 0).toNat := by
      rw [← hd, ← hM, ← getLastD_at]; rfl
    have hlast := hc M (by rw [hlen]; omega)
    obtain ⟨v, hv⟩ : ∃ v, ((x :: r).getD M 0).toNat = v := ⟨_, rfl⟩
    have hv256 : v < 256 := by rw [← hv]; exact UInt8.toNat_lt _
    rw [hv] at hlast hbt
    rw [hlen] at hl ⊢
    have hMI : (M : Int) ≤ 140737488351232 := by omega
    have hrM : r.isEmpty = (M == 0) := by rw [← hM]; cases r <;> rfl
    rw [hrM] at hbt
    obtain ⟨R, hR⟩ : ∃ R, bt (x :: r) = R := ⟨_, rfl⟩
    rw [hR] at hbt ⊢
    clear hb hc hd hv hlen hM hl hrM hR
    have h0 : ((M : Int) + 1 == 0) = false := beq_eq_false_iff_ne.2 (by omega)
    have h0'' : (0 : Int) < (M : Int) + 1 := by omega
    by_cases g1 : 7 < d
    · have g1' : 7 < (d : Int) := by omega
      rw [if_pos g1] at hbt
      subst hbt
      clear g1
      go_enter Try.func29, Try.ntmps29
      go_wp2_with fail
      go_ret
      exact ⟨rfl, rfl⟩
    · have g1' : ¬ 7 < (d : Int) := by omega
      rw [if_neg g1] at hbt
      by_cases g2 : M = 0
      · subst g2
        rw [if_pos (by rfl)] at hbt
        have f : ((d : Int) == 0) = (d == 0) := by cases d <;> rfl
        rw [← hbt] at f
        clear hbt g1
        go_enter Try.func29, Try.ntmps29
        go_wp2_with fail
        go_ret
        exact ⟨rfl, rfl⟩
      · have g2' : ((M : Int) + 1 == 1) = false := beq_eq_false_iff_ne.2 (by omega)
        rw [if_neg (by simpa using g2)] at hbt
        have HBT := Lib.hid hbt
        clear hbt g2
        have HM := Lib.hid (fun k (hk : k < 8) => mask_bits (k := k) (v := v) hk hv256)
        have HM2 := Lib.hid (fun k (hk : k < 8) => modm_bits (k := k) (v := v) hk hv256)
        have hk : d = 0 ∨ d = 1 ∨ d = 2 ∨ d = 3 ∨ d = 4 ∨ d = 5 ∨ d = 6 ∨ d = 7 := by omega
        clear g1
        rcases hk with rfl | rfl | rfl | rfl | rfl | rfl | rfl | rfl
        all_goals
          go_enter Try.func29, Try.ntmps29
          go_wp2_with fail
          go_ret
          refine ⟨?_, rfl⟩
          rw [HBT.out]
          first | (rw [← HM.out _ (by omega)]; rfl) | (rw [← HM2.out _ (by omega)]; rfl)
end Go.Proofs.Ytnegakobammljaa

