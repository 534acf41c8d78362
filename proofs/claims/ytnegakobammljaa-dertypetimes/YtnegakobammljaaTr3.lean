/- The document's own answers of layer 10: bit strings. -/
import Derived.Test.YtnegakobammljaaTr1
namespace Go.Proofs.Ytnegakobammljaa
open Go.RowKit

theorem getLastD_at (x : UInt8) (r : List UInt8) : (x :: r).getLastD 0 = (x :: r).getD r.length 0 := by
  have : (x :: r).getLastD 0 = (x :: r).getLast (by simp) := by simp [List.getLastD]
  rw [this, List.getLast_eq_getElem]
  simp [List.getD_eq_getElem?_getD]

set_option maxRecDepth 100000 in
set_option maxHeartbeats 1000000 in
theorem rbits_any (w : World) (A : Option Addr) (c : Nat) (xs : List UInt8) (hb : Byt w w.heap.size A xs) (hl : xs.length ≤ 140737488351232) :
    Calls Try.prog 24 #[.slice A xs.length c] w fun e w' => e = .returned (.bool (bt xs)) ∧ w' = w := by
  cases xs with
  | nil =>
    go_enter Try.func24, Try.ntmps24
    go_wp2_with fail
    go_ret
    exact ⟨rfl, rfl⟩
  | cons x r =>
    obtain ⟨b, o, rfl, -, hc⟩ := hb (by simp)
    obtain ⟨M, hM⟩ : ∃ M, r.length = M := ⟨_, rfl⟩
    obtain ⟨d, hd⟩ : ∃ d, x.toNat = d := ⟨_, rfl⟩
    have hd256 : d < 256 := by rw [← hd]; exact x.toNat_lt
    have c0 : w.cell? ⟨b, o, none⟩ = some (.int .u8 (d : Int)) := by have := hc 0 (by simp); rw [← hd]; simpa using this
    have hlen : (x :: r).length = M + 1 := by rw [← hM]; rfl
    have hbt : bt (x :: r) = if 7 < d then false else if r.isEmpty then d == 0 else btF d ((x :: r).getD M 0).toNat := by
      rw [← hd, ← hM, ← getLastD_at]; rfl
    have hlast := hc M (by rw [hlen]; omega)
    obtain ⟨v, hv⟩ : ∃ v, ((x :: r).getD M 0).toNat = v := ⟨_, rfl⟩
    have hv256 : v < 256 := by rw [← hv]; exact UInt8.toNat_lt _
    rw [hv] at hlast hbt
    rw [hlen] at hl ⊢
    have hMI : (M : Int) ≤ 140737488351232 := by omega
    have HBT := Lib.hid hbt
    have hrM : r.isEmpty = (M == 0) := by rw [← hM]; cases r <;> rfl
    have HRM := Lib.hid hrM
    clear hb hc hd hv hlen hM hl hbt hrM
    by_cases g1 : 7 < d
    · have g1' : 7 < (d : Int) := by omega
      have HR := Lib.hid (show bt (x :: r) = false by rw [HBT.out, if_pos g1])
      clear g1
      go_enter Try.func24, Try.ntmps24
      go_wp2_with fail
      go_ret
      exact ⟨by rw [HR.out]; rfl, rfl⟩
    · have g1' : ¬ 7 < (d : Int) := by omega
      by_cases g2 : M = 0
      · subst g2
        have HR := Lib.hid (show bt (x :: r) = (d == 0) by rw [HBT.out, if_neg g1, HRM.out]; rfl)
        by_cases g3 : d = 0
        · subst g3
          go_enter Try.func24, Try.ntmps24
          go_wp2_with fail
          go_loopw [3, 4] (fun _ i wr => i = .int .i64 0 ∧ wr = w) (fun _ _ _ => 0)
          case atStart => exact ⟨rfl, rfl⟩
          case round =>
            obtain ⟨rfl, hwr⟩ := hrel
            obtain rfl : w = wr := hwr.symm
            clear hwr
            go_wp2_with fail
            go_ret
            exact ⟨by rw [HR.out]; rfl, rfl⟩
        · have g3' : ((d : Int) != 0) = true := bne_iff_ne.2 (by omega)
          have HR2 := Lib.hid (show bt (x :: r) = false by rw [HR.out]; exact beq_eq_false_iff_ne.2 g3)
          clear g3
          go_enter Try.func24, Try.ntmps24
          go_wp2_with fail
          go_ret
          exact ⟨by rw [HR2.out]; rfl, rfl⟩
      · have g2' : ((M : Int) + 1 == 1) = false := beq_eq_false_iff_ne.2 (by omega)
        have HR := Lib.hid (show bt (x :: r) = btF d v by rw [HBT.out, if_neg g1, HRM.out, if_neg (by simpa using g2)])
        have f1 : IntKind.i64.wrap (v : Int) = v := by rw [IntWalk.i64_left, IntWalk.wrap64_in _ (by omega)]
        have f2 : IntKind.i64.wrap (d : Int) = d := by rw [IntWalk.i64_left, IntWalk.wrap64_in _ (by omega)]
        clear g1 HBT HRM
        go_enter Try.func24, Try.ntmps24
        go_wp2_with fail
        go_loopw [3, 4] (fun n i wr => ∃ (j u : Nat), j ≤ d ∧ u < 256 ∧ i = .int .i64 j ∧ n = .int .i64 u ∧ Hid (btF d v = btF (d - j) u) ∧ wr = w) (fun _ i _ => d - (intOf i).toNat)
        case atStart => exact ⟨0, v, Nat.zero_le _, hv256, rfl, rfl, Lib.hid rfl, rfl⟩
        case round =>
          obtain ⟨j, u, hj, hu, rfl, rfl, hbf, hwr⟩ := hrel
          obtain rfl : w = wr := hwr.symm
          clear hwr
          by_cases hlt : j < d
          · have hlt' : (j : Int) < (d : Int) := by omega
            obtain ⟨k, hk⟩ : ∃ k, d - j = k + 1 := ⟨d - j - 1, by omega⟩
            have hst : btF d v = if u % 2 == 1 then false else btF (d - (j + 1)) (u / 2) := by rw [hbf.out, hk, show d - (j + 1) = k by omega]; rfl
            have HST := Lib.hid hst
            clear hst hk hbf
            by_cases g4 : u % 2 = 1
            · have g4' : ((u : Int) % 2 == 1) = true := by simp; omega
              have HF := Lib.hid (show btF d v = false by rw [HST.out, if_pos (by simpa using g4)])
              clear g4
              go_wp2_with fail
              go_ret
              exact ⟨by rw [HR.out, HF.out]; rfl, rfl⟩
            · have g4' : ((u : Int) % 2 == 1) = false := by simp; omega
              have HF := Lib.hid (show btF d v = btF (d - (j + 1)) (u / 2) by rw [HST.out, if_neg (by simpa using g4)])
              have hu2 : u / 2 < 256 := by omega
              clear g4
              go_wp2_with fail
              go_roundw
              case rel => exact ⟨j + 1, u / 2, hlt, hu2, rfl, rfl, HF, trivial⟩
              case measure => simp [intOf]; omega
          · obtain rfl : j = d := by omega
            have HF := Lib.hid (show btF j v = true by rw [hbf.out, Nat.sub_self]; rfl)
            clear hbf
            go_wp2_with fail
            go_ret
            exact ⟨by rw [HR.out, HF.out]; rfl, rfl⟩
end Go.Proofs.Ytnegakobammljaa

