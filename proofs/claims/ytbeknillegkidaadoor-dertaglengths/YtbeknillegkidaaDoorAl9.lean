/- The document's examples of layer 9; reading of bytes that were made. -/
import Derived.Test.YtbeknillegkidaaDoorPh
namespace Go.Proofs.YtbeknillegkidaaDoor
open Go.RowKit

/-- Read of bytes in new memory. -/
theorem read_new (w : World) (hT : Tb w) (cs : Array Value) (xs : List UInt8) (hcs : cs.toList = cellsOf xs) (m : Nat) (hm : xs.length = m) (h100 : m ≤ 100) (R : Hd × Nat × Int) (hR : rdH xs = R) :
    Calls Tryd.prog 9 #[.slice (some ⟨w.heap.size, 0, none⟩) m m] (w.alloc (.cells cs 5)) fun e w' => e = .returned (.tuple #[R.1.agg, .int .i64 (R.2.1 : Nat), .int .i64 R.2.2]) ∧ Below w.heap.size w w' := by
  subst hm hR
  have hw := Whole.new w cs 5
  have hb : Byt (w.alloc (.cells cs 5)) (w.alloc (.cells cs 5)).heap.size (some ⟨w.heap.size, 0, none⟩) xs := by
    intro _
    refine ⟨w.heap.size, 0, rfl, by simp, fun i hi => ?_⟩
    rw [hw.cell, ← Array.getElem?_toList, hcs, Nat.zero_add, cellsOf_at _ _ hi]
  refine (read_any _ (hT.alloc _) (some ⟨w.heap.size, 0, none⟩) xs.length xs hb (Nat.le_refl _) (by omega)).mono ?_
  rintro e w' ⟨he, hB⟩
  exact ⟨he, ((Below.refl _ w).alloc (Nat.le_refl _) _).trans (hB.mono (by simp))⟩

set_option maxRecDepth 100000 in
set_option maxHeartbeats 4000000 in
theorem alive9_any (w : World) (hT : Tb w) : Calls Tryd.prog 11 #[] w fun e w' => e = .returned (.bool true) ∧ Below w.heap.size w w' := by
  have HT := Lib.hid hT
  clear hT
  have r1 := read_new w HT.out #[.int .u8 48, .int .u8 130, .int .u8 1, .int .u8 0] [48, 130, 1, 0] rfl 4 rfl (by omega) (⟨0, 16, true, 256⟩, 4, 0) (by decide)
  dsimp only [Hd.agg] at r1
  have HR1 := Lib.hid r1
  clear r1
  go_enter Tryd.func11, Tryd.ntmps11
  go_wp2_with fail
  refine HR1.out.mono ?_
  rintro e w1 ⟨rfl, hB1⟩
  clear HR1
  obtain ⟨p, hp⟩ : ∃ p, w1.heap.size = p := ⟨_, rfl⟩
  have k1 := Whole.new w1 #[.int .i64 0, .int .i64 16, .bool true, .int .i64 256] 24
  rw [hp] at k1
  have BA := Lib.hid (hB1.alloc hB1.size (.cells #[.int .i64 0, .int .i64 16, .bool true, .int .i64 256] 24))
  clear hB1
  have hs2 : (w1.alloc (.cells #[.int .i64 0, .int .i64 16, .bool true, .int .i64 256] 24)).heap.size = p + 1 := by rw [World.size_alloc, hp]
  go_wp2_with fail
  clear hp
  generalize w1.alloc (.cells #[.int .i64 0, .int .i64 16, .bool true, .int .i64 256] 24) = W2 at *
  have r2 := read_new W2 (HT.out.self BA.out) #[.int .u8 2, .int .u8 129, .int .u8 5] [2, 129, 5] rfl 3 rfl (by omega) (.z, 1, 13) (by decide)
  dsimp only [Hd.agg, Hd.z] at r2
  rw [hs2] at r2
  refine r2.mono ?_
  rintro e w3 ⟨rfl, hB3⟩
  obtain ⟨p3, hp3⟩ : ∃ p, w3.heap.size = p := ⟨_, rfl⟩
  have k3 := (hB3.block p (by omega)).trans k1
  have k3' : Whole w3 p _ _ := k3
  have B3 := Lib.hid (BA.out.trans (hB3.mono (by rw [← hs2]; exact BA.out.size)))
  have K4 := Lib.hid (k3'.grew (grew_alloc (grew_refl w3 none) (.cells #[.int .i64 0, .int .i64 0, .bool false, .int .i64 0] 24)) (by simp))
  have BB := Lib.hid (B3.out.alloc B3.out.size (.cells #[.int .i64 0, .int .i64 0, .bool false, .int .i64 0] 24))
  have hs4 : (w3.alloc (.cells #[.int .i64 0, .int .i64 0, .bool false, .int .i64 0] 24)).heap.size = p3 + 1 := by rw [World.size_alloc, hp3]
  have hpp : p < p3 + 1 := by have := k3'.lt; omega
  clear r2 hB3 k3 k3' k1 BA B3 hs2
  go_wp2_with fail
  clear hp3
  generalize w3.alloc (.cells #[.int .i64 0, .int .i64 0, .bool false, .int .i64 0] 24) = W4 at *
  have r3 := read_new W4 (HT.out.self BB.out) #[.int .u8 31, .int .u8 0] [31, 0] rfl 2 rfl (by omega) (.z, 0, 13) (by decide)
  dsimp only [Hd.agg, Hd.z] at r3
  rw [hs4] at r3
  refine r3.mono ?_
  rintro e w5 ⟨rfl, hB5⟩
  have k5 := (hB5.block p (by omega)).trans K4.out
  have k5' : Whole w5 p _ _ := k5
  have k6 := k5'.grew (grew_alloc (grew_refl w5 none) (.cells #[.int .i64 0, .int .i64 0, .bool false, .int .i64 0] 24)) (by simp)
  have c0 := k6.cell 0
  have c1 := k6.cell 1
  have c2 := k6.cell 2
  have c3 := k6.cell 3
  simp only [List.getElem?_toArray, List.getElem?_cons_succ, List.getElem?_cons_zero] at c0 c1 c2 c3
  have B5 := Lib.hid (BB.out.trans (hB5.mono (by rw [← hs4]; exact BB.out.size)))
  have B6 := Lib.hid (B5.out.alloc B5.out.size (.cells #[.int .i64 0, .int .i64 0, .bool false, .int .i64 0] 24))
  clear r3 hB5 k5 k5' k6 BB B5 hs4 K4 HT
  go_wp2_with fail
  go_ret
  exact ⟨rfl, B6.out⟩
end Go.Proofs.YtbeknillegkidaaDoor

