/- The program's own answers of layer 9: the first byte, what it tells; a head's bytes. -/
import Derived.Test.YtbeknillegkidaaDoorPb
import Derived.Deep.RegionLaw
import Derived.BigQuiet
import Derived.StillTailTactics
namespace Go.Proofs.YtbeknillegkidaaDoor
open Go.RowKit

theorem or_t : ∀ t : Nat, t < 31 → bits BinOp.or IntKind.i64 0 (t : Int) = t ∧ bits BinOp.or IntKind.i64 128 (t : Int) = 128 + t ∧ bits BinOp.or IntKind.u8 (t : Int) 32 = t + 32 ∧ bits BinOp.or IntKind.u8 (128 + (t : Int)) 32 = 160 + t := by decide +kernel
theorem and_n : ∀ n : Nat, n < 256 → (bits BinOp.and IntKind.u8 (n : Int) 32 != 0) = (n / 32 % 2 == 1) := by decide +kernel

set_option maxRecDepth 100000 in
set_option maxHeartbeats 2000000 in
theorem firstb_any (w : World) (h : Hd) (hk : kd h.c h.t h.m = true) : Calls Tryd.prog 19 #[h.agg] w fun e w' => e = .returned (.int .u8 ((UInt8.ofNat (fb h.c h.t h.m)).toNat : Int)) ∧ Below w.heap.size w w' := by
  obtain ⟨c, t, m, l⟩ := h
  obtain ⟨hc, ht0, ht1⟩ := kd_bounds hk
  dsimp only at hc ht0 ht1 hk ⊢
  clear hk
  obtain ⟨k, rfl⟩ := Int.eq_ofNat_of_zero_le ht0
  obtain ⟨o1, o2, o3, o4⟩ := or_t k (by omega)
  have hb : ∀ o, Below w.heap.size w (w.alloc o) := fun o => (Below.refl _ w).alloc (Nat.le_refl _) _
  have e1 : (k : Int) % 256 = k := by omega
  have e2 : (128 + (k : Int)) % 256 = 128 + k := by omega
  rcases hc with rfl | rfl
  · cases m with
    | false =>
      have hv : ((UInt8.ofNat (fb 0 k false)).toNat : Int) = k := by rw [u8_nat _ (by unfold fb; simp; omega)]; unfold fb; simp
      rw [Hd.agg, hv]
      clear hv
      go_enter Tryd.func19, Tryd.ntmps19
      go_wp2_with fail
      go_ret
      exact ⟨rfl, hb _⟩
    | true =>
      have hv : ((UInt8.ofNat (fb 0 k true)).toNat : Int) = k + 32 := by rw [u8_nat _ (by unfold fb; simp; omega)]; unfold fb; simp; omega
      rw [Hd.agg, hv]
      clear hv
      go_enter Tryd.func19, Tryd.ntmps19
      go_wp2_with fail
      go_ret
      exact ⟨rfl, hb _⟩
  · cases m with
    | false =>
      have hv : ((UInt8.ofNat (fb 2 k false)).toNat : Int) = 128 + k := by rw [u8_nat _ (by unfold fb; simp; omega)]; unfold fb; simp; omega
      rw [Hd.agg, hv]
      clear hv
      go_enter Tryd.func19, Tryd.ntmps19
      go_wp2_with fail
      go_ret
      exact ⟨rfl, hb _⟩
    | true =>
      have hv : ((UInt8.ofNat (fb 2 k true)).toNat : Int) = 160 + k := by rw [u8_nat _ (by unfold fb; simp; omega)]; unfold fb; simp; omega
      rw [Hd.agg, hv]
      clear hv
      go_enter Tryd.func19, Tryd.ntmps19
      go_wp2_with fail
      go_ret
      exact ⟨rfl, hb _⟩

set_option maxRecDepth 100000 in
set_option maxHeartbeats 2000000 in
theorem headof_any (w : World) (n : Nat) (hn : n < 256) : Calls Tryd.prog 16 #[.int .u8 (n : Int)] w fun e w' => e = .returned (Hd.agg ⟨(n : Int) / 64, (n : Int) % 32, n / 32 % 2 == 1, 0⟩) ∧ Below w.heap.size w w' := by
  have ha := and_n n hn
  go_enter Tryd.func16, Tryd.ntmps16
  go_wp2_with fail
  refine bodyPost_ret (results_cell_row rfl _ _ w.heap.size _ _ _ _ rfl (Whole.new w _ _) Tryd.underlying24 rfl (by kernel_rfl)) rfl ?_
  refine ⟨?_, (Below.refl _ w).alloc (Nat.le_refl _) _⟩
  rw [Hd.agg, ← ha]

end Go.Proofs.YtbeknillegkidaaDoor

