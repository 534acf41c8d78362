/- What the laws of layer 10 are made of: a number's bytes, as few as it needs; a number, seven bits a byte. -/
import Derived.Test.YtnegakobammljaaTl1
namespace Go.Proofs.Ytnegakobammljaa
open Go.RowKit

/-- One more byte ahead of those of a row: what 'append([]byte{x}, b...)' makes. -/
theorem app_ahead (w : World) (x : UInt8) {v : Value} {n : Nat} {ys : List UInt8} (own : w.ownsRow 0 5 1 v n (cellsOf ys)) (hn : n ≤ 100) (B : Nat) (hB : B ≤ w.heap.size) :
    ∀ ty, ∃ v' w', (Builtin.append_ #[22, 22] ty #[.slice (some ⟨w.heap.size, 0, none⟩) 1 1, v]).run Try.prog (w.alloc (.cells #[.int .u8 (x.toNat : Int)] 5)) = .ok v' w' ∧
      (w'.ownsRow 0 5 1 v' (n + 1) (cellsOf (x :: ys)) ∧ Below B w w' ∧ B ≤ w'.heap.size ∧ ∀ k, v'.ownBlock = some k → B ≤ k) := fun ty => by
  have hl := own.1
  rw [cellsOf_length] at hl
  obtain ⟨A, c, rfl⟩ : ∃ A c, v = .slice A n c := by
    rcases own.2 with ⟨rfl, rfl⟩ | ⟨g, cap, cur, rfl, _⟩
    · exact ⟨none, 0, rfl⟩
    · exact ⟨_, _, rfl⟩
  obtain rfl : n = ys.length := by omega
  have info : (Try.prog.info? 5).map (fun i => (i.zero, i.size, i.bytes)) = some (some (.int .u8 0), 1, 1) := by kernel_rfl
  have hw := Whole.new w #[.int .u8 (x.toNat : Int)] 5
  have own1 : (w.alloc (.cells #[.int .u8 (x.toNat : Int)] 5)).ownsRow 0 5 1 (.slice (some ⟨w.heap.size, 0, none⟩) 1 1) 1 (cellsOf [x]) :=
    ⟨rfl, .inr ⟨w.heap.size, 1, _, rfl, Nat.zero_le _, hw, Nat.le_refl _, by unfold maxLen; omega, rfl, rfl⟩⟩
  have own2 := own_by (own_fr own ((Fr.refl w (fun _ => False)).alloc (.cells #[.int .u8 (x.toNat : Int)] 5)) (fun _ _ h => h))
  obtain ⟨v', w', hr, k1, k2, k3⟩ := append_bytes (P := Try.prog) _ 22 ty 5 Try.underlying22 info own1 own2 c (by omega)
  refine ⟨v', w', hr, by rw [Nat.add_comm]; exact k1, ?_, ?_, ?_⟩
  · exact ((Below.refl B w).alloc hB _).trans (grew_below k2 (by simp; omega) (fun k hk => by simp [Value.ownBlock] at hk; omega))
  · have := k2.size
    simp at this
    omega
  · intro k hk
    rcases k3 with e | e
    · rw [e] at hk; simp [Value.ownBlock] at hk; omega
    · rw [e] at hk; simp at hk; omega
theorem own_one (w : World) (x : UInt8) : (w.alloc (.cells #[.int .u8 (x.toNat : Int)] 5)).ownsRow 0 5 1 (.slice (some ⟨w.heap.size, 0, none⟩) 1 1) 1 (cellsOf [x]) :=
  ⟨rfl, .inr ⟨w.heap.size, 1, _, rfl, Nat.zero_le _, Whole.new w _ _, Nat.le_refl _, by unfold maxLen; omega, rfl, rfl⟩⟩

/-- A number's lowest byte; its bytes, as few as it needs. -/
def lb (x : Int) : UInt8 := .ofNat (x % 256).toNat
theorem lb_int (x : Int) : ((lb x).toNat : Int) = x % 256 := by unfold lb; simp; omega
def btsF : Nat → Int → List UInt8 → List UInt8
  | 0, _, acc => acc
  | k + 1, x, acc => if 127 < x ∨ x < -128 then btsF k (x / 256) (lb (x / 256) :: acc) else acc
def bts (x : Int) : List UInt8 := btsF 8 x [lb x]

set_option maxRecDepth 100000 in
set_option maxHeartbeats 1000000 in
theorem bytes_any (w : World) (x : Int) (hx : -9223372036854775808 ≤ x ∧ x ≤ 9223372036854775807) :
    Calls Try.prog 20 #[.int .i64 x] w fun e w' => ∃ v, e = .returned v ∧ w'.ownsRow 0 5 1 v (bts x).length (cellsOf (bts x)) ∧ Below w.heap.size w w' ∧ (∀ k, v.ownBlock = some k → w.heap.size ≤ k) := by
  have e0 : IntKind.u8.wrap x = ((lb x).toNat : Int) := by rw [lb_int]; rfl
  obtain ⟨q, hq⟩ : ∃ q, w.heap.size = q := ⟨_, rfl⟩
  have O0 := Lib.hid (own_one w (lb x))
  have B0 := Lib.hid (show Below q w (w.alloc (.cells #[.int .u8 ((lb x).toNat : Int)] 5)) ∧ q ≤ (w.alloc (.cells #[.int .u8 ((lb x).toNat : Int)] 5)).heap.size from ⟨by rw [← hq]; exact (Below.refl _ w).alloc (Nat.le_refl _) _, by simp; omega⟩)
  have HX := Lib.hid hx
  rw [hq] at O0 ⊢
  clear hx
  go_enter Try.func20, Try.ntmps20
  go_wp2_with fail
  generalize w.alloc (.cells #[.int .u8 ((lb x).toNat : Int)] 5) = W0 at *
  go_loopw [0, 3] (fun u v wr => ∃ (k : Nat) (y : Int) (acc : List UInt8), u = .int .i64 y ∧ Hid (wr.ownsRow 0 5 1 v acc.length (cellsOf acc) ∧ ∀ i, v.ownBlock = some i → q ≤ i) ∧ Hid (bts x = btsF k y acc ∧ acc.length + k = 9 ∧ -(128 * (256 ^ k : Nat)) ≤ y ∧ y < 128 * (256 ^ k : Nat)) ∧ Hid (Below q w wr ∧ q ≤ wr.heap.size)) (fun u _ _ => (intOf u).natAbs)
  case atStart => exact ⟨8, x, [lb x], rfl, Lib.hid ⟨O0.out, fun i hi => by simp [Value.ownBlock] at hi; omega⟩, Lib.hid ⟨rfl, rfl, by have := HX.out; rw [show 256 ^ 8 = 18446744073709551616 by decide]; omega⟩, B0⟩
  case round =>
    clear O0 B0 HX e0
    obtain ⟨k, y, acc, rfl, hown, hbt, hBw⟩ := hrel
    by_cases g : 127 < y ∨ y < -128
    · obtain ⟨k, rfl⟩ : ∃ m, k = m + 1 := ⟨k - 1, by
        have h := hbt.out.2.2
        cases k with
        | zero => simp at h; omega
        | succ k => omega⟩
      have HN := Lib.hid (show bts x = btsF k (y / 256) (lb (y / 256) :: acc) ∧ (lb (y / 256) :: acc).length + k = 9 ∧ -(128 * (256 ^ k : Nat)) ≤ y / 256 ∧ y / 256 < 128 * (256 ^ k : Nat) by
        obtain ⟨h1, h2, h3, h4⟩ := hbt.out
        refine ⟨by rw [h1]; show (if 127 < y ∨ y < -128 then _ else _) = _; rw [if_pos g], by simp; omega, ?_, ?_⟩
        · rw [Nat.pow_succ] at h3; generalize 256 ^ k = P at *; push_cast at h3; omega
        · rw [Nat.pow_succ] at h4; generalize 256 ^ k = P at *; push_cast at h4; omega)
      have e1 : IntKind.u8.wrap (y / 256) = ((lb (y / 256)).toNat : Int) := by rw [lb_int]; rfl
      have HA := Lib.hid (fun ty => app_ahead wr (lb (y / 256)) hown.out.1 (by have := hbt.out.2.1; omega) q hBw.out.2 ty)
      have HAB := Lib.hid (show (y / 256).natAbs < y.natAbs by omega)
      rcases g with g | g
      · clear hbt
        go_wp2_with (at_builtin; refine wpList_append_run _ rfl (.tmp 17) (.tmp 18) 22 rfl rfl rfl HA.out ?_; rintro v1 w1 a1; have A1 := Lib.hid a1; clear a1 HA)
        go_roundw
        case rel => exact ⟨k, y / 256, lb (y / 256) :: acc, rfl, Lib.hid ⟨A1.out.1, A1.out.2.2.2⟩, HN, Lib.hid ⟨hBw.out.1.trans A1.out.2.1, A1.out.2.2.1⟩⟩
        case measure => exact HAB.out
      · have g' : ¬ 127 < y := by omega
        clear hbt
        go_wp2_with (at_builtin; refine wpList_append_run _ rfl (.tmp 17) (.tmp 18) 22 rfl rfl rfl HA.out ?_; rintro v1 w1 a1; have A1 := Lib.hid a1; clear a1 HA)
        go_roundw
        case rel => exact ⟨k, y / 256, lb (y / 256) :: acc, rfl, Lib.hid ⟨A1.out.1, A1.out.2.2.2⟩, HN, Lib.hid ⟨hBw.out.1.trans A1.out.2.1, A1.out.2.2.1⟩⟩
        case measure => exact HAB.out
    · have HZ := Lib.hid (show bts x = acc by
        rw [hbt.out.1]
        cases k with
        | zero => rfl
        | succ k => show (if 127 < y ∨ y < -128 then _ else _) = _; rw [if_neg g])
      have g1 : ¬ 127 < y := by omega
      have g2 : ¬ y < -128 := by omega
      clear hbt g
      go_wp2_with fail
      go_ret
      refine ⟨_, rfl, ?_, hBw.out.1, hown.out.2⟩
      rw [HZ.out]
      exact hown.out.1
end Go.Proofs.Ytnegakobammljaa

