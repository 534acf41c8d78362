/- The document's examples of layer 10; bytes that were made. -/
import Derived.Test.YtnegakobammljaaLw10
namespace Go.Proofs.Ytnegakobammljaa
open Go.RowKit

/-- Bytes in new memory. -/
theorem byt_new (w : World) (cs : Array Value) (xs : List UInt8) (hcs : cs.toList = cellsOf xs) : Byt (w.alloc (.cells cs 5)) (w.alloc (.cells cs 5)).heap.size (some ⟨w.heap.size, 0, none⟩) xs := by
  have hw := Whole.new w cs 5
  intro _
  refine ⟨w.heap.size, 0, rfl, by simp, fun i hi => ?_⟩
  rw [hw.cell, ← Array.getElem?_toList, hcs, Nat.zero_add, cellsOf_at _ _ hi]
theorem number_new (hnu : NumberC) (w : World) (cs : Array Value) (xs : List UInt8) (hcs : cs.toList = cellsOf xs) (m : Nat) (hm : xs.length = m) (h100 : m ≤ 100) (x e0 : Int) (hx : nmR xs = x) (he : nmE xs = e0) :
    Calls Try.prog 12 #[.slice (some ⟨w.heap.size, 0, none⟩) m m] (w.alloc (.cells cs 5)) fun e w' => e = .returned (.tuple #[.int .i64 x, .int .i64 e0]) ∧ Below w.heap.size w w' := by
  subst hm hx he
  refine (hnu _ _ xs.length xs (byt_new w cs xs hcs) (Nat.le_refl _) (by unfold mxB; omega)).mono ?_
  rintro e w' ⟨he, hB⟩
  exact ⟨he, ((Below.refl _ w).alloc (Nat.le_refl _) _).trans (hB.mono (by simp))⟩
theorem arcs_new (har : ArcsC) (w : World) (cs : Array Value) (xs : List UInt8) (hcs : cs.toList = cellsOf xs) (m : Nat) (hm : xs.length = m) (h100 : m ≤ 100) (ns : List Nat) (n : Nat) (hl : ns.length = n) (e0 : Int) (hx : arR xs = ns) (he : arE xs = e0) :
    Calls Try.prog 14 #[.slice (some ⟨w.heap.size, 0, none⟩) m m] (w.alloc (.cells cs 5)) fun e w' => ∃ (A' : Option Addr) (c' : Nat), e = .returned (.tuple #[.slice A' n c', .int .i64 e0]) ∧ R64 w' w'.heap.size A' ns ∧ Below w.heap.size w w' := by
  subst hm hx he hl
  refine (har _ _ xs.length xs (byt_new w cs xs hcs) (Nat.le_refl _) (by omega)).mono ?_
  rintro e w' ⟨A', c', he, hr, hB⟩
  exact ⟨A', c', he, hr, ((Below.refl _ w).alloc (Nat.le_refl _) _).trans (hB.mono (by simp))⟩

theorem same_n (w : World) (A B : Option Addr) (c d : Nat) (ns : List Nat) (n : Nat) (hn : ns.length = n) (ha : R64 w w.heap.size A ns) (hb : R64 w w.heap.size B ns) (hl : n ≤ 1099511627777) :
    Calls Try.prog 16 #[.slice A n c, .slice B n d] w fun e w' => e = .returned (.bool true) ∧ Below w.heap.size w w' := by
  subst hn
  exact same_yes w A B c d ns ha hb hl
set_option maxRecDepth 100000 in
set_option maxHeartbeats 400000 in
theorem alive10_by (hnu : NumberC) (har : ArcsC) : AliveC := fun w => by
  have r1 := arcs_new har w #[.int .u8 42, .int .u8 134, .int .u8 72, .int .u8 134, .int .u8 247, .int .u8 13] [42, 134, 72, 134, 247, 13] rfl 6 rfl (by omega) [1, 2, 840, 113549] 4 rfl 0 (by decide +kernel) (by decide +kernel)
  have r2 := fun (W : World) => number_new hnu W #[.int .u8 0, .int .u8 128] [0, 128] rfl 2 rfl (by omega) 128 0 (by decide +kernel) (by decide +kernel)
  have r3 := fun (W : World) => number_new hnu W #[.int .u8 255, .int .u8 127] [255, 127] rfl 2 rfl (by omega) (-129) 0 (by decide +kernel) (by decide +kernel)
  have r4 := fun (W : World) => number_new hnu W #[.int .u8 255, .int .u8 128] [255, 128] rfl 2 rfl (by omega) 0 13 (by decide +kernel) (by decide +kernel)
  have H2 := Lib.hid r2
  have H3 := Lib.hid r3
  have H4 := Lib.hid r4
  clear r2 r3 r4 hnu har
  obtain ⟨q, hq⟩ : ∃ q, w.heap.size = q := ⟨_, rfl⟩
  rw [hq] at r1 ⊢
  have HQ := Lib.hid hq
  go_enter Try.func9, Try.ntmps9
  go_wp2_with fail
  clear hq
  with_reducible refine r1.mono ?_
  rintro e w1 ⟨A, c, rfl, hr, hB1⟩
  have HR := Lib.hid hr
  have HB1 := Lib.hid (show Below q w w1 ∧ q ≤ w1.heap.size from ⟨hB1, by rw [← HQ.out]; exact hB1.size⟩)
  clear r1 hr hB1
  obtain ⟨p, hp⟩ : ∃ p, w1.heap.size = p := ⟨_, rfl⟩
  have HP := Lib.hid hp
  clear hp
  go_wp2_with fail
  with_reducible refine (H2.out w1).mono ?_
  rintro e w2 ⟨rfl, hB2⟩
  have HB2 := Lib.hid (show Below p w1 w2 ∧ p ≤ w2.heap.size from ⟨by rw [← HP.out]; exact hB2, by rw [← HP.out]; exact hB2.size⟩)
  clear hB2 H2
  go_wp2_with fail
  with_reducible refine (H3.out w2).mono ?_
  rintro e w3 ⟨rfl, hB3⟩
  have HB3 := Lib.hid (show Below p w1 w3 ∧ p ≤ w3.heap.size from ⟨HB2.out.1.trans (hB3.mono HB2.out.2), Nat.le_trans HB2.out.2 hB3.size⟩)
  clear hB3 H3 HB2
  go_wp2_with fail
  with_reducible refine (H4.out w3).mono ?_
  rintro e w4 ⟨rfl, hB4⟩
  have HB4 := Lib.hid (show Below p w1 w4 ∧ p ≤ w4.heap.size from ⟨HB3.out.1.trans (hB4.mono HB3.out.2), Nat.le_trans HB3.out.2 hB4.size⟩)
  clear hB4 H4 HB3
  have HS := Lib.hid (same_n (w4.alloc (.cells #[.int .u64 1, .int .u64 2, .int .u64 840, .int .u64 113549] 47)) A (some ⟨w4.heap.size, 0, none⟩) c 4 [1, 2, 840, 113549] 4 rfl
    (by
      have h1 : R64 (w4.alloc (.cells #[.int .u64 1, .int .u64 2, .int .u64 840, .int .u64 113549] 47)) w1.heap.size A [1, 2, 840, 113549] := HR.out.below (HB4.out.1.alloc HB4.out.2 _) (by rw [HP.out]; exact Nat.le_refl _)
      intro hn
      obtain ⟨b, o, e, hb, hc⟩ := h1 hn
      exact ⟨b, o, e, by have := HB4.out.2; rw [HP.out] at hb; simp; omega, hc⟩)
    (by
      have hw := Whole.new w4 #[.int .u64 1, .int .u64 2, .int .u64 840, .int .u64 113549] 47
      intro _
      refine ⟨w4.heap.size, 0, rfl, by simp, fun i hi => ?_⟩
      rw [hw.cell, Nat.zero_add]
      have hi4 : i < 4 := hi
      match i, hi4 with
      | 0, _ => rfl
      | 1, _ => rfl
      | 2, _ => rfl
      | 3, _ => rfl)
    (by decide))
  have HB5 := Lib.hid (show Below p w1 (w4.alloc (.cells #[.int .u64 1, .int .u64 2, .int .u64 840, .int .u64 113549] 47)) ∧ p ≤ (w4.alloc (.cells #[.int .u64 1, .int .u64 2, .int .u64 840, .int .u64 113549] 47)).heap.size from ⟨HB4.out.1.alloc HB4.out.2 _, by have := HB4.out.2; simp; omega⟩)
  clear HB4 HR
  go_wp2_with fail
  with_reducible refine HS.out.mono ?_
  rintro e w6 ⟨rfl, hB6⟩
  have HB6 := Lib.hid (HB5.out.1.trans (hB6.mono HB5.out.2))
  clear HS HB5 hB6
  go_wp2_with fail
  go_ret
  exact ⟨rfl, HB1.out.1.trans (HB6.out.mono (by rw [← HP.out]; exact HB1.out.2))⟩
end Go.Proofs.Ytnegakobammljaa

