/- The program's own answers of layer 9: a length laid behind bytes. -/
import Derived.Test.YtbeknillegkidaaDoorPa
namespace Go.Proofs.YtbeknillegkidaaDoor
open Go.RowKit

set_option maxRecDepth 100000 in
set_option maxHeartbeats 4000000 in
theorem applen_any (w : World) (v : Value) (f : UInt8) (own : w.ownsRow 0 5 1 v 1 (cellsOf [f])) (n : Nat) (hn : n < 16777216) :
    Calls Tryd.prog 18 #[v, .int .i64 (n : Int)] w fun e w' => ∃ v', e = .returned v' ∧ Apd w v v' (1 + (lenB n).length) (f :: lenB n) w' := by
  have hnd := needed_any w n hn
  have OWN := Lib.hid own
  have APD0 := Lib.hid (show Apd w v v 1 [f] w from ⟨own, grew_refl _ _, fun k hk => .inl hk⟩)
  by_cases l1 : n < 128
  · have e0 : nd n = 0 := by unfold nd; rw [if_pos l1]
    have hlb : lenB n = [.ofNat n] := by unfold lenB; rw [if_pos l1]
    have ex : ((UInt8.ofNat n).toNat : Int) = (n : Int) := u8_nat n (by omega)
    have ew : IntKind.u8.wrap (n : Int) = (n : Int) := by show (n : Int) % 256 = n; omega
    have hA := app_one w own (by omega) (UInt8.ofNat n)
    rw [ex] at hA
    have HA := Lib.hid hA
    rw [e0] at hnd
    have HLB := Lib.hid hlb
    clear own e0 hlb ex l1 hA
    go_enter Tryd.func18, Tryd.ntmps18
    go_wp2_with fail
    refine hnd.mono ?_
    rintro e w' ⟨rfl, rfl⟩
    go_wp2_with (at_builtin; refine wpList_append_run _ rfl (.tmp 11) (.tmp 14) 22 rfl rfl rfl HA.out ?_; rintro v1 w1 a1; have A1 := Lib.hid a1; clear a1)
    go_ret
    refine ⟨v1, rfl, ?_⟩
    rw [HLB.out]
    exact APD0.out.more A1.out
  by_cases l2 : n < 256
  · have e0 : nd n = 1 := by unfold nd; rw [if_neg l1]; rw [if_pos l2]
    have hlb : lenB n = [129, .ofNat (n)] := by unfold lenB; rw [if_neg l1]; rw [if_pos l2]
    have hA := app_one w own (by omega) 129
    rw [show ((((129 : UInt8)).toNat : Nat) : Int) = 129 from rfl] at hA
    have ex0 : ((UInt8.ofNat (n)).toNat : Int) = IntKind.u8.wrap ((n : Int)) := by rw [u8_nat _ (by omega)]; show _ = ((n : Int)) % 256; omega
    obtain ⟨y0, hy0⟩ : ∃ y, IntKind.u8.wrap ((n : Int)) = y := ⟨_, rfl⟩
    rw [hy0] at ex0
    have EX0 := Lib.hid ex0
    have HA := Lib.hid hA
    rw [e0] at hnd
    have HLB := Lib.hid hlb
    clear own e0 hlb hA ex0 l1 l2
    go_enter Tryd.func18, Tryd.ntmps18
    go_wp2_with fail
    refine hnd.mono ?_
    rintro e w' ⟨rfl, rfl⟩
    clear hnd
    go_wp2_with (at_builtin; refine wpList_append_run _ rfl (.tmp 16) (.tmp 20) 22 rfl rfl rfl HA.out ?_; rintro v1 w1 a1; have A1 := Lib.hid (APD0.out.more a1); clear a1)
    go_loopw [0, 23] (fun r i wr => ∃ j : Nat, j ≤ 1 ∧ i = .int .i64 j ∧ Hid (Apd w' v r (2 + j) (([f] ++ lenB n).take (2 + j)) wr)) (fun _ i _ => 1 - (intOf i).toNat)
    case atStart => exact ⟨0, Nat.zero_le _, rfl, Lib.hid (by rw [HLB.out]; exact A1.out)⟩
    case round =>
      obtain ⟨j, hj, rfl, hR⟩ := hrel
      clear A1 HA APD0 OWN
      by_cases h0 : j = 0
      · subst h0
        have hB := app_one wr hR.out.1 (by omega) (.ofNat (n))
        rw [EX0.out] at hB
        have HB := Lib.hid hB
        clear hB
        go_wp2_with (at_builtin; refine wpList_append_run _ rfl (.tmp 26) (.tmp 35) 22 rfl rfl rfl HB.out ?_; rintro v2 w2 a2; have A2 := Lib.hid (hR.out.more a2); clear a2)
        go_roundw
        case rel => exact ⟨1, by omega, rfl, Lib.hid (by have := A2.out; rw [HLB.out] at this ⊢; exact this)⟩
        case measure => simp [intOf]
      · obtain rfl : j = 1 := by omega
        go_wp2_with fail
        go_ret
        refine ⟨_, rfl, ?_⟩
        have := hR.out
        rw [HLB.out] at this ⊢
        exact this
  by_cases l3 : n < 65536
  · have e0 : nd n = 2 := by unfold nd; rw [if_neg l1]; rw [if_neg l2]; rw [if_pos l3]
    have hlb : lenB n = [130, .ofNat (n / 256), .ofNat (n % 256)] := by unfold lenB; rw [if_neg l1]; rw [if_neg l2]; rw [if_pos l3]
    have hA := app_one w own (by omega) 130
    rw [show ((((130 : UInt8)).toNat : Nat) : Int) = 130 from rfl] at hA
    have ex0 : ((UInt8.ofNat (n / 256)).toNat : Int) = IntKind.u8.wrap ((n : Int) / 256) := by rw [u8_nat _ (by omega)]; show _ = ((n : Int) / 256) % 256; omega
    have ex1 : ((UInt8.ofNat (n % 256)).toNat : Int) = IntKind.u8.wrap ((n : Int)) := by rw [u8_nat _ (by omega)]; show _ = ((n : Int)) % 256; omega
    obtain ⟨y0, hy0⟩ : ∃ y, IntKind.u8.wrap ((n : Int) / 256) = y := ⟨_, rfl⟩
    rw [hy0] at ex0
    obtain ⟨y1, hy1⟩ : ∃ y, IntKind.u8.wrap ((n : Int)) = y := ⟨_, rfl⟩
    rw [hy1] at ex1
    have EX0 := Lib.hid ex0
    have EX1 := Lib.hid ex1
    have HA := Lib.hid hA
    rw [e0] at hnd
    have HLB := Lib.hid hlb
    clear own e0 hlb hA ex0 ex1 l1 l2 l3
    go_enter Tryd.func18, Tryd.ntmps18
    go_wp2_with fail
    refine hnd.mono ?_
    rintro e w' ⟨rfl, rfl⟩
    clear hnd
    go_wp2_with (at_builtin; refine wpList_append_run _ rfl (.tmp 16) (.tmp 20) 22 rfl rfl rfl HA.out ?_; rintro v1 w1 a1; have A1 := Lib.hid (APD0.out.more a1); clear a1)
    go_loopw [0, 23] (fun r i wr => ∃ j : Nat, j ≤ 2 ∧ i = .int .i64 j ∧ Hid (Apd w' v r (2 + j) (([f] ++ lenB n).take (2 + j)) wr)) (fun _ i _ => 2 - (intOf i).toNat)
    case atStart => exact ⟨0, Nat.zero_le _, rfl, Lib.hid (by rw [HLB.out]; exact A1.out)⟩
    case round =>
      obtain ⟨j, hj, rfl, hR⟩ := hrel
      clear A1 HA APD0 OWN
      by_cases h0 : j = 0
      · subst h0
        have hB := app_one wr hR.out.1 (by omega) (.ofNat (n / 256))
        rw [EX0.out] at hB
        have HB := Lib.hid hB
        clear hB
        go_wp2_with (at_builtin; refine wpList_append_run _ rfl (.tmp 26) (.tmp 35) 22 rfl rfl rfl HB.out ?_; rintro v2 w2 a2; have A2 := Lib.hid (hR.out.more a2); clear a2)
        go_roundw
        case rel => exact ⟨1, by omega, rfl, Lib.hid (by have := A2.out; rw [HLB.out] at this ⊢; exact this)⟩
        case measure => simp [intOf]
      by_cases h1 : j = 1
      · subst h1
        have hB := app_one wr hR.out.1 (by omega) (.ofNat (n % 256))
        rw [EX1.out] at hB
        have HB := Lib.hid hB
        clear hB
        go_wp2_with (at_builtin; refine wpList_append_run _ rfl (.tmp 26) (.tmp 35) 22 rfl rfl rfl HB.out ?_; rintro v2 w2 a2; have A2 := Lib.hid (hR.out.more a2); clear a2)
        go_roundw
        case rel => exact ⟨2, by omega, rfl, Lib.hid (by have := A2.out; rw [HLB.out] at this ⊢; exact this)⟩
        case measure => simp [intOf]
      · obtain rfl : j = 2 := by omega
        go_wp2_with fail
        go_ret
        refine ⟨_, rfl, ?_⟩
        have := hR.out
        rw [HLB.out] at this ⊢
        exact this
  have e0 : nd n = 3 := by unfold nd; rw [if_neg l1]; rw [if_neg l2]; rw [if_neg l3]
  have hlb : lenB n = [131, .ofNat (n / 65536), .ofNat (n / 256 % 256), .ofNat (n % 256)] := by unfold lenB; rw [if_neg l1]; rw [if_neg l2]; rw [if_neg l3]
  have hA := app_one w own (by omega) 131
  rw [show ((((131 : UInt8)).toNat : Nat) : Int) = 131 from rfl] at hA
  have ex0 : ((UInt8.ofNat (n / 65536)).toNat : Int) = IntKind.u8.wrap ((n : Int) / 65536) := by rw [u8_nat _ (by omega)]; show _ = ((n : Int) / 65536) % 256; omega
  have ex1 : ((UInt8.ofNat (n / 256 % 256)).toNat : Int) = IntKind.u8.wrap ((n : Int) / 256) := by rw [u8_nat _ (by omega)]; show _ = ((n : Int) / 256) % 256; omega
  have ex2 : ((UInt8.ofNat (n % 256)).toNat : Int) = IntKind.u8.wrap ((n : Int)) := by rw [u8_nat _ (by omega)]; show _ = ((n : Int)) % 256; omega
  obtain ⟨y0, hy0⟩ : ∃ y, IntKind.u8.wrap ((n : Int) / 65536) = y := ⟨_, rfl⟩
  rw [hy0] at ex0
  obtain ⟨y1, hy1⟩ : ∃ y, IntKind.u8.wrap ((n : Int) / 256) = y := ⟨_, rfl⟩
  rw [hy1] at ex1
  obtain ⟨y2, hy2⟩ : ∃ y, IntKind.u8.wrap ((n : Int)) = y := ⟨_, rfl⟩
  rw [hy2] at ex2
  have EX0 := Lib.hid ex0
  have EX1 := Lib.hid ex1
  have EX2 := Lib.hid ex2
  have HA := Lib.hid hA
  rw [e0] at hnd
  have HLB := Lib.hid hlb
  clear own e0 hlb hA ex0 ex1 ex2 l1 l2 l3
  go_enter Tryd.func18, Tryd.ntmps18
  go_wp2_with fail
  refine hnd.mono ?_
  rintro e w' ⟨rfl, rfl⟩
  clear hnd
  go_wp2_with (at_builtin; refine wpList_append_run _ rfl (.tmp 16) (.tmp 20) 22 rfl rfl rfl HA.out ?_; rintro v1 w1 a1; have A1 := Lib.hid (APD0.out.more a1); clear a1)
  go_loopw [0, 23] (fun r i wr => ∃ j : Nat, j ≤ 3 ∧ i = .int .i64 j ∧ Hid (Apd w' v r (2 + j) (([f] ++ lenB n).take (2 + j)) wr)) (fun _ i _ => 3 - (intOf i).toNat)
  case atStart => exact ⟨0, Nat.zero_le _, rfl, Lib.hid (by rw [HLB.out]; exact A1.out)⟩
  case round =>
    obtain ⟨j, hj, rfl, hR⟩ := hrel
    clear A1 HA APD0 OWN
    by_cases h0 : j = 0
    · subst h0
      have hB := app_one wr hR.out.1 (by omega) (.ofNat (n / 65536))
      rw [EX0.out] at hB
      have HB := Lib.hid hB
      clear hB
      go_wp2_with (at_builtin; refine wpList_append_run _ rfl (.tmp 26) (.tmp 35) 22 rfl rfl rfl HB.out ?_; rintro v2 w2 a2; have A2 := Lib.hid (hR.out.more a2); clear a2)
      go_roundw
      case rel => exact ⟨1, by omega, rfl, Lib.hid (by have := A2.out; rw [HLB.out] at this ⊢; exact this)⟩
      case measure => simp [intOf]
    by_cases h1 : j = 1
    · subst h1
      have hB := app_one wr hR.out.1 (by omega) (.ofNat (n / 256 % 256))
      rw [EX1.out] at hB
      have HB := Lib.hid hB
      clear hB
      go_wp2_with (at_builtin; refine wpList_append_run _ rfl (.tmp 26) (.tmp 35) 22 rfl rfl rfl HB.out ?_; rintro v2 w2 a2; have A2 := Lib.hid (hR.out.more a2); clear a2)
      go_roundw
      case rel => exact ⟨2, by omega, rfl, Lib.hid (by have := A2.out; rw [HLB.out] at this ⊢; exact this)⟩
      case measure => simp [intOf]
    by_cases h2 : j = 2
    · subst h2
      have hB := app_one wr hR.out.1 (by omega) (.ofNat (n % 256))
      rw [EX2.out] at hB
      have HB := Lib.hid hB
      clear hB
      go_wp2_with (at_builtin; refine wpList_append_run _ rfl (.tmp 26) (.tmp 35) 22 rfl rfl rfl HB.out ?_; rintro v2 w2 a2; have A2 := Lib.hid (hR.out.more a2); clear a2)
      go_roundw
      case rel => exact ⟨3, by omega, rfl, Lib.hid (by have := A2.out; rw [HLB.out] at this ⊢; exact this)⟩
      case measure => simp [intOf]
    · obtain rfl : j = 3 := by omega
      go_wp2_with fail
      go_ret
      refine ⟨_, rfl, ?_⟩
      have := hR.out
      rw [HLB.out] at this ⊢
      exact this
end Go.Proofs.YtbeknillegkidaaDoor

