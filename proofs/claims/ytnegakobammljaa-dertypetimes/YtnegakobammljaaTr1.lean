/- The document's own answers of layer 10: digits. -/
import Derived.Test.YtnegakobammljaaRows
import Derived.Test.YtnegakobammljaaTy
import Derived.Lib.Hide
import Derived.IntWalk
import Derived.Deep.Cut
namespace Go.Proofs.Ytnegakobammljaa
open Go.RowKit

/-- Bytes at a place of a list's memory: what the loops ask. -/
def At (w : World) (b o : Nat) (xs : List UInt8) : Prop := ∀ i, i < xs.length → w.cell? ⟨b, o + i, none⟩ = some (.int .u8 ((xs.getD i 0).toNat : Int))

theorem getD_take_drop {xs : List UInt8} {j : Nat} (h : j < xs.length) : xs.drop j = xs.getD j 0 :: xs.drop (j + 1) := by
  rw [List.drop_eq_getElem_cons h, List.getD_eq_getElem?_getD, List.getElem?_eq_getElem h]
  rfl

set_option maxRecDepth 100000 in
set_option maxHeartbeats 600000 in
theorem rdigits_any (w : World) (A : Option Addr) (c : Nat) (xs : List UInt8) (hb : Byt w w.heap.size A xs) (hl : xs.length ≤ 4) :
    Calls Try.prog 32 #[.slice A xs.length c] w fun e w' => e = .returned (.int .i64 (dgs xs)) ∧ w' = w := by
  obtain ⟨L, hL⟩ : ∃ L, xs.length = L := ⟨_, rfl⟩
  rw [hL] at hl ⊢
  have HB := Lib.hid hb
  clear hb
  go_enter Try.func32, Try.ntmps32
  go_wp2_with fail
  go_loopw [3, 4] (fun n i wr => ∃ (j : Nat) (m : Nat), j ≤ L ∧ m < 10 ^ j ∧ i = .int .i64 j ∧ n = .int .i64 m ∧ dgs xs = dgF m (xs.drop j) ∧ wr = w) (fun _ i _ => L - (intOf i).toNat)
  case atStart => exact ⟨0, 0, Nat.zero_le _, by decide, rfl, rfl, by rw [List.drop_zero]; rfl, rfl⟩
  case round =>
    obtain ⟨j, m, hj, hm, rfl, rfl, hd, hwr⟩ := hrel
    obtain rfl : w = wr := hwr.symm
    clear hwr
    have hm4 : m < 10000 := Nat.lt_of_lt_of_le hm (Nat.pow_le_pow_right (by omega) (by omega : j ≤ 4))
    by_cases hlt : j < L
    · obtain ⟨b, o, rfl, -, hc⟩ := HB.out (by omega)
      obtain ⟨x, hx⟩ : ∃ x, xs.getD j 0 = x := ⟨_, rfl⟩
      obtain ⟨d, hdd⟩ : ∃ d, x.toNat = d := ⟨_, rfl⟩
      have hd256 : d < 256 := by rw [← hdd]; exact x.toNat_lt
      have c1 : w.cell? ⟨b, o + j, none⟩ = some (.int .u8 (d : Int)) := by rw [hc j (by omega), hx, hdd]
      rw [getD_take_drop (by omega), hx] at hd
      have e1 : dgF m (x :: xs.drop (j + 1)) = if d < 48 ∨ 57 < d then -1 else dgF (10 * m + (d - 48)) (xs.drop (j + 1)) := by rw [← hdd]; rfl
      rw [e1] at hd
      clear e1 hc hx hdd
      by_cases g1 : d < 48
      · rw [if_pos (.inl g1)] at hd
        have HD := Lib.hid hd
        have g1' : (d : Int) < 48 := by omega
        clear hd hm hm4
        go_wp2_with fail
        go_ret
        exact ⟨by rw [HD.out]; rfl, rfl⟩
      · by_cases g2 : 57 < d
        · rw [if_pos (.inr g2)] at hd
          have HD := Lib.hid hd
          have g1' : ¬ (d : Int) < 48 := by omega
          have g2' : 57 < (d : Int) := by omega
          clear hd hm hm4
          go_wp2_with fail
          go_ret
          exact ⟨by rw [HD.out]; rfl, rfl⟩
        · rw [if_neg (by omega)] at hd
          have HD := Lib.hid hd
          have g1' : ¬ (d : Int) < 48 := by omega
          have g2' : ¬ 57 < (d : Int) := by omega
          have f1 : IntKind.i64.wrap (d : Int) = d := by rw [IntWalk.i64_left, IntWalk.wrap64_in _ (by omega)]
          have f2 : wrap64 (10 * (m : Int)) = 10 * (m : Int) := IntWalk.wrap64_in _ (by clear f1; omega)
          have f3 : wrap64 (10 * (m : Int) + (d : Int)) = 10 * (m : Int) + d := IntWalk.wrap64_in _ (by clear f1 f2; omega)
          have f4 : wrap64 (10 * (m : Int) + (d : Int) - 48) = ((10 * m + (d - 48) : Nat) : Int) := by clear f1 f2 f3; rw [IntWalk.wrap64_in _ (by omega)]; omega
          have HM := Lib.hid (show 10 * m + (d - 48) < 10 ^ (j + 1) by clear f1 f2 f3 f4; rw [Nat.pow_succ]; omega)
          clear hd hm hm4
          go_wp2_with fail
          go_roundw
          case rel => exact ⟨j + 1, 10 * m + (d - 48), hlt, HM.out, rfl, by rw [f4], HD.out, trivial⟩
          case measure => simp [intOf]; omega
    · obtain rfl : j = L := by omega
      rw [List.drop_of_length_le (by omega)] at hd
      have HD := Lib.hid (show dgs xs = (m : Int) from hd)
      clear hd hm hm4
      go_wp2_with fail
      go_ret
      exact ⟨by rw [HD.out]; rfl, rfl⟩
end Go.Proofs.Ytnegakobammljaa

