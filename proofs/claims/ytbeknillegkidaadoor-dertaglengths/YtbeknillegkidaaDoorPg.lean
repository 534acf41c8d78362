/- The program's own answers of layer 9: the length behind a head's first byte. -/
import Derived.Test.YtbeknillegkidaaDoorPf
import Derived.Test.YtbeknillegkidaaDoorHx
import Derived.Laws.BitsAllLaws
import Derived.Laws.Slices
import Derived.IntWalk
import Derived.Deep.Cut
namespace Go.Proofs.YtbeknillegkidaaDoor
open Go.RowKit

theorem i64_or_nat (a b : Nat) (ha : a < 4294967296) (hb : b < 4294967296) : bits .or .i64 (a : Int) (b : Int) = ((a ||| b : Nat) : Int) := by
  have hx : a ||| b < 2 ^ 32 := Nat.or_lt_two_pow (by omega) (by omega)
  show IntKind.i64.wrap ((BitVec.ofInt 64 (a : Int) ||| BitVec.ofInt 64 (b : Int)).toNat : Int) = _
  rw [BitVec.toNat_or, ofInt_u64 a (by omega), ofInt_u64 b (by omega), IntWalk.i64_left, IntWalk.wrap64_in _ (by omega)]
theorem or_byte9 (a b : Nat) (ha : a < 65536) (hb : b < 256) : bits .or .i64 ((a : Int) * 256) (b : Int) = ((256 * a + b : Nat) : Int) := by
  have e2 : ((a : Int) * 256) = ((a * 256 : Nat) : Int) := by omega
  rw [e2, i64_or_nat _ _ (by omega) (by omega)]
  have := Nat.two_pow_add_eq_or_of_lt (i := 8) (b := b) (by omega) a
  have e3 : 2 ^ 8 * a = a * 256 := by omega
  rw [e3] at this
  rw [← this]
  omega

theorem size_of_u8 (w : World) : (Go.sizeOf 5).run Tryd.prog w = .ok 1 w := by kernel_rfl
theorem elem_u8 : Tryd.prog.elem 22 = 5 := by simp [Program.elem, Tryd.underlying22]
/-- 'b[l:h]' of a list that has bytes behind l. -/
theorem slice_at (w : World) (b o n c l h : Nat) (hl : l < h) (hh : h ≤ c) :
    (Instr.slice 22 (.slice (some ⟨b, o, none⟩) n c) (some (.int .i64 (l : Int))) (some (.int .i64 (h : Int))) none).run Tryd.prog w = .ok (.slice (some ⟨b, o + l, none⟩) (h - l) (c - l)) w := by
  have ht : Tryd.prog.underlying 22 = some (.slice (Tryd.prog.elem 22)) := by rw [elem_u8]; exact Tryd.underlying22
  rw [run_slice_lh w 22 (some ⟨b, o, none⟩) n c ht .i64 .i64 _ _ (by omega) (by omega) (by omega), elem_u8, size_of_u8]
  have hcl : ¬ c = l := by omega
  simp [Result.andThen, sliced, hcl, Addr.add]

set_option maxRecDepth 100000 in
set_option maxHeartbeats 4000000 in
theorem rlen_any (w : World) (B o c : Nat) (a : UInt8) (r : List UInt8) (hlen : r.length + 1 ≤ c)
    (hc : ∀ i, i < (a :: r).length → w.cell? ⟨B, o + i, none⟩ = some (.int .u8 (((a :: r).getD i 0).toNat : Int))) :
    Calls Tryd.prog 17 #[.slice (some ⟨B, o, none⟩) (r.length + 1) c] w fun e w' => e = .returned (.tuple #[.int .i64 ((rl r).1 : Nat), .int .i64 ((rl r).2.1 : Nat), .int .i64 (rl r).2.2]) ∧ w' = w := by
  cases r with
  | nil =>
    go_enter Tryd.func17, Tryd.ntmps17
    go_wp2_with fail
    go_ret3
    exact ⟨rfl, rfl⟩
  | cons b s =>
    obtain ⟨M, hM⟩ : ∃ M, s.length = M := ⟨_, rfl⟩
    have hlen2 : (b :: s).length = M + 1 := by rw [← hM]; rfl
    obtain ⟨d, hd⟩ : ∃ d, b.toNat = d := ⟨_, rfl⟩
    have hd256 : d < 256 := by rw [← hd]; exact b.toNat_lt
    have m1 : w.cell? ⟨B, o + 1, none⟩ = some (.int .u8 (d : Int)) := by rw [← hd]; simpa using hc 1 (by simp)
    rw [hlen2] at hlen ⊢
    have HC := Lib.hid hc
    have HM := Lib.hid hM
    have HLC := Lib.hid hlen
    clear hc hlen2 hM
    by_cases g1 : d < 128
    · have e : rl (b :: s) = (d, 2, 0) := by unfold rl; simp only; rw [if_pos (by omega), hd]
      rw [e]
      have f1 : IntKind.i64.wrap (d : Int) = d := by rw [IntWalk.i64_left, IntWalk.wrap64_in _ (by omega)]
      clear hd e
      go_enter Tryd.func17, Tryd.ntmps17
      go_wp2_with fail
      go_ret3
      exact ⟨rfl, rfl⟩
    · obtain ⟨k, hkd⟩ : ∃ k, d = 128 + k := ⟨d - 128, by omega⟩
      have ek : b.toNat - 128 = k := by omega
      have hnl : ¬ (d : Int) < 128 := by omega
      have HKD := Lib.hid hkd
      by_cases g2 : k = 0
      · have e : rl (b :: s) = (0, 1, 13) := by unfold rl; simp only; rw [if_neg (by omega), if_pos (by omega)]
        rw [e]
        have hkd' : (d : Int) - 128 = 0 := by omega
        clear hd e hkd ek g2
        go_enter Tryd.func17, Tryd.ntmps17
        go_wp2_with fail
        go_ret3
        exact ⟨rfl, rfl⟩
      have hkd' : (d : Int) - 128 = (k : Int) := by omega
      have hk0 : ((k : Int) == 0) = false := by simp; omega
      by_cases g3 : 3 < k
      · have e : rl (b :: s) = (0, 1, 13) := by unfold rl; simp only; rw [if_neg (by omega), if_pos (by omega)]
        rw [e]
        have g3' : 3 < (k : Int) := by omega
        clear hd e hkd ek g2
        go_enter Tryd.func17, Tryd.ntmps17
        go_wp2_with fail
        go_ret3
        exact ⟨rfl, rfl⟩
      by_cases g4 : M < k
      · have e : rl (b :: s) = (0, s.length + 2, 4) := by unfold rl; simp only; rw [if_neg (by omega), if_neg (by omega), ek, if_pos (by rw [HM.out]; exact g4)]
        rw [e, HM.out]
        clear hd e hkd ek g2
        go_enter Tryd.func17, Tryd.ntmps17
        go_wp2_with fail
        go_ret3
        exact ⟨rfl, rfl⟩
      obtain ⟨L, hL⟩ : ∃ L, bval (s.take k) = L := ⟨_, rfl⟩
      have hL24 : L < 16777216 := by
        rw [← hL]
        have h1 := bval_lt (s.take k)
        have h2 : (s.take k).length ≤ 3 := by rw [List.length_take]; omega
        have h3 : 256 ^ (s.take k).length ≤ 256 ^ 3 := Nat.pow_le_pow_right (by omega) h2
        have h4 : (256 : Nat) ^ 3 = 16777216 := rfl
        omega
      have hnd := needed_any w L hL24
      have hsl := slice_at w B o (M + 1 + 1) c 2 (2 + k) (by omega) (by omega)
      have e2 : 2 + k - 2 = k := by omega
      rw [e2] at hsl
      have e3 : (((2 + k : Nat)) : Int) = 2 + (k : Int) := by omega
      have e4 : ((2 : Nat) : Int) = 2 := rfl
      rw [e3, e4] at hsl
      have ER := Lib.hid (show rl (b :: s) = if nd L < k then (0, 1, 13) else (L, 2 + k, 0) by unfold rl; simp only; rw [if_neg (by omega), if_neg (by omega), ek, if_neg (by rw [HM.out]; exact g4), hL])
      have HL := Lib.hid hL
      have HND := Lib.hid hnd
      have k3 : k ≤ 3 := by omega
      have kM : k ≤ M := by omega
      clear hd hkd ek e2 e3 e4 hL hnd hL24
      go_enter Tryd.func17, Tryd.ntmps17
      go_wp2_with fail
      go_loopw [7, 44] (fun n i wr => ∃ j : Nat, j ≤ k ∧ i = .int .i64 j ∧ n = .int .i64 ((bval (s.take j) : Nat) : Int) ∧ wr = w) (fun _ i _ => k - (intOf i).toNat)
      case atStart => exact ⟨0, Nat.zero_le _, rfl, rfl, rfl⟩
      case round =>
        clear m1 hsl
        obtain ⟨j, hj, rfl, rfl, rfl⟩ := hrel
        by_cases hlt : j < k
        · obtain ⟨V, hV⟩ : ∃ V, bval (s.take j) = V := ⟨_, rfl⟩
          have hVb : V < 65536 := by
            rw [← hV]
            have h1 := bval_lt (s.take j)
            have h2 : (s.take j).length ≤ 2 := by rw [List.length_take]; omega
            have h3 : 256 ^ (s.take j).length ≤ 256 ^ 2 := Nat.pow_le_pow_right (by omega) h2
            have h4 : (256 : Nat) ^ 2 = 65536 := rfl
            omega
          obtain ⟨x, hx⟩ : ∃ x, (s.getD j 0).toNat = x := ⟨_, rfl⟩
          have hx256 : x < 256 := by rw [← hx]; exact UInt8.toNat_lt _
          have hnext : bval (s.take (j + 1)) = 256 * V + x := by rw [bval_take (by rw [HM.out]; omega), hV, hx]
          have c1 : wr.cell? ⟨B, o + 2 + j, none⟩ = some (.int .u8 (x : Int)) := by
            have := HC.out (2 + j) (by simp [HM.out]; omega)
            rw [Nat.add_assoc, ← hx, this]
            congr 3
            rw [show 2 + j = j + 1 + 1 by omega]
            simp
          have hor := or_byte9 V x hVb hx256
          have hw1 : wrap64 ((V : Int) * 256) = (V : Int) * 256 := IntWalk.wrap64_in _ (by omega)
          have f1 : IntKind.i64.wrap (x : Int) = x := by rw [IntWalk.i64_left, IntWalk.wrap64_in _ (by omega)]
          rw [← hnext] at hor
          rw [hV]
          have HV := Lib.hid hV
          have hVb' : (V : Int) < 65536 := by omega
          clear hx hV hnext hVb
          go_wp2_with fail
          go_roundw
          case rel => exact ⟨j + 1, hlt, rfl, rfl, trivial⟩
          case measure => simp [intOf]; omega
        · obtain rfl : k = j := by omega
          rw [HL.out]
          go_wp2_with fail
          refine HND.out.mono ?_
          rintro e w' ⟨rfl, rfl⟩
          by_cases g5 : nd L < k
          · have g5' : ((nd L : Nat) : Int) < (k : Int) := by omega
            go_wp2_with fail
            go_ret3
            rw [ER.out, if_pos g5]
            exact ⟨rfl, rfl⟩
          · have g5' : ¬ ((nd L : Nat) : Int) < (k : Int) := by omega
            go_wp2_with fail
            go_ret3
            rw [ER.out, if_neg g5]
            exact ⟨by simp, rfl⟩
end Go.Proofs.YtbeknillegkidaaDoor

