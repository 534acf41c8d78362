/- Contracts of the cursor's functions. -/
import Derived.Test.YtdamjbngopfpkaaRows
import Derived.Test.YtdamjbngopfpkaaFoot
import Derived.BigQuiet
import Derived.Deep.QuietTactic
import Derived.Lib.Hide
import Derived.Deep.OwnRows
namespace Go.Proofs.Ytdamjbngopfpkaa
open Go.RowKit

/-- A cursor: the slice of what is ahead, its place. -/
abbrev Cur (w : World) (p : Nat) (A : Option Addr) (n c : Nat) (at_ : Int) : Prop := Whole w p #[.slice A n c, .int .i64 at_] 71

set_option maxHeartbeats 400000 in
theorem new_any (A : Option Addr) (n c : Nat) (base : Int) (w : World) :
    Calls Try.prog 23 #[.slice A n c, .int .i64 base] w fun e w' => e = .returned (.pointer (some ⟨w.heap.size, 0, none⟩)) ∧ Cur w' w.heap.size A n c base ∧ Grew w w' none := by
  go_enter Try.func23, Try.ntmps23
  go_wp2
  go_ret
  exact ⟨rfl, Whole.new _ _ _, grew_alloc (grew_refl _ _) _⟩

set_option maxHeartbeats 400000 in
theorem at_any (w : World) (p : Nat) (A : Option Addr) (n c : Nat) (a : Int) (h : Cur w p A n c a) :
    Calls Try.prog 26 #[.pointer (some ⟨p, 0, none⟩)] w fun e w' => e = .returned (.int .i64 a) ∧ w = w' := by
  have h1 := h.cell 1
  have h0 := h.cell 0
  simp at h1 h0
  go_enter Try.func26, Try.ntmps26
  go_wp2
  go_ret
  exact ⟨rfl, rfl⟩


set_option maxHeartbeats 400000 in
theorem end_any (w : World) (p : Nat) (A : Option Addr) (n c : Nat) (a : Int) (h : Cur w p A n c a) (ha : 0 ≤ a) (hb : a + n ≤ 9223372036854775807) :
    Calls Try.prog 56 #[.pointer (some ⟨p, 0, none⟩)] w fun e w' => e = .returned (.int .i64 (a + n)) ∧ ∃ m, w' = w.drewN m := by
  have h1 := h.cell 1
  have h0 := h.cell 0
  simp at h1 h0
  have hw : IntKind.i64.wrap (a + n) = a + n := IntWalk.i64_in _ (by omega)
  go_enter Try.func56, Try.ntmps56
  go_wp2
  go_quiet (fail)
  go_wp2
  go_ret
  exact ⟨rfl, _, rfl⟩

set_option maxHeartbeats 400000 in
theorem left_any (w : World) (p : Nat) (A : Option Addr) (n c : Nat) (a : Int) (h : Cur w p A n c a) :
    Calls Try.prog 25 #[.pointer (some ⟨p, 0, none⟩)] w fun e w' => e = .returned (.int .i64 n) ∧ w = w' := by
  have h0 := h.cell 0
  simp at h0
  go_enter Try.func25, Try.ntmps25
  go_wp2
  go_ret
  exact ⟨rfl, rfl⟩

theorem Cur.moved {w : World} {p : Nat} {A : Option Addr} {n c : Nat} {a : Int} (h : Cur w p A n c a) (A' : Option Addr) (n' c' : Nat) (a' : Int) :
    Cur ((w.setCell ⟨p, 0, none⟩ (.slice A' n' c')).setCell ⟨p, 1, none⟩ (.int .i64 a')) p A' n' c' a' := by
  have := (h.set 0 (.slice A' n' c')).set 1 (.int .i64 a')
  simpa using this

set_option maxHeartbeats 400000 in
theorem pass_ok (w : World) (p : Nat) (A : Option Addr) (n c : Nat) (a : Int) (h : Cur w p A n c a) (k : Nat) (hk : k ≤ n) (hc : n ≤ c) (ha : 0 ≤ a) (hb : a + n ≤ 9223372036854775807) :
    Calls Try.prog 69 #[.pointer (some ⟨p, 0, none⟩), .int .i64 k] w fun e w' => e = .returned (.tuple #[.slice A k c, .int .i64 0]) ∧ Cur w' p (cutAt A c k) (n - k) (c - k) (a + k) ∧ Grew w w' (some p) ∧ w'.heap.size = w.heap.size := by
  have h1 := h.cell 1
  have h0 := h.cell 0
  have f0 := h.frozen 0
  have f1 := h.frozen 1
  simp at h1 h0
  have hg : ∀ u v, Grew w ((w.setCell ⟨p, 0, none⟩ u).setCell ⟨p, 1, none⟩ v) (some p) := fun u v => grew_set (grew_set (grew_refl _ _) _ _ _) _ _ _
  have Hg := Lib.hid hg
  have H := Lib.hid h
  clear hg h
  by_cases e : c = k
  · obtain rfl : k = c := e.symm
    go_enter Try.func69, Try.ntmps69
    go_wp2
    go_ret2
    refine ⟨rfl, ?_, Hg.out _ _, by simp⟩
    have := H.out.moved (cutAt A k k) (n - k) 0 (a + k)
    have e0 : n - k = 0 := by omega
    simpa [cutAt, e0] using this
  · go_enter Try.func69, Try.ntmps69
    go_wp2
    go_ret2
    refine ⟨rfl, ?_, Hg.out _ _, by simp⟩
    have := H.out.moved (cutAt A c k) (n - k) (c - k) (a + k)
    simpa [cutAt, e] using this

set_option maxHeartbeats 400000 in
theorem pass_short (w : World) (p : Nat) (A : Option Addr) (n c : Nat) (a : Int) (h : Cur w p A n c a) (k : Int) (hk : (n : Int) < k) :
    Calls Try.prog 69 #[.pointer (some ⟨p, 0, none⟩), .int .i64 k] w fun e w' => e = .returned (.tuple #[.slice none 0 0, .int .i64 4]) ∧ w = w' := by
  have h0 := h.cell 0
  simp at h0
  have h2 : ¬ k < 0 := by omega
  clear h
  go_enter Try.func69, Try.ntmps69
  go_wp2
  go_ret2
  exact ⟨rfl, rfl⟩

set_option maxHeartbeats 400000 in
theorem pass_arg (w : World) (p : Nat) (k : Int) (hk : k < 0) :
    Calls Try.prog 69 #[.pointer (some ⟨p, 0, none⟩), .int .i64 k] w fun e w' => e = .returned (.tuple #[.slice none 0 0, .int .i64 2]) ∧ w = w' := by
  go_enter Try.func69, Try.ntmps69
  go_wp2
  go_ret2
  exact ⟨rfl, rfl⟩

set_option maxHeartbeats 400000 in
theorem pass_nil (w : World) (k : Int) :
    Calls Try.prog 69 #[.pointer none, .int .i64 k] w fun e w' => e = .returned (.tuple #[.slice none 0 0, .int .i64 1]) ∧ w = w' := by
  go_enter Try.func69, Try.ntmps69
  go_wp2
  go_ret2
  exact ⟨rfl, rfl⟩


theorem info_u8 : (Try.prog.info? 5).map (fun i => (i.zero, i.size, i.bytes)) = some (some (.int .u8 0), 1, 1) := by kernel_rfl
theorem size_u8 : (Try.prog.info? 5).map (·.size) = some 1 := by kernel_rfl

theorem size_of_u8 (w : World) : (Go.sizeOf 5).run Try.prog w = .ok 1 w := by kernel_rfl
theorem elem_u8 : Try.prog.elem 25 = 5 := by simp [Program.elem, Try.underlying25]
/-- 'b[l:h]'. -/
theorem slice_run (w : World) (A : Option Addr) (n c l h : Nat) (hl : l ≤ h) (hh : h ≤ c) :
    (Instr.slice 25 (.slice A n c) (some (.int .i64 (l : Int))) (some (.int .i64 (h : Int))) none).run Try.prog w = .ok (.slice (cutAt A c l) (h - l) (c - l)) w := by
  have ht : Try.prog.underlying 25 = some (.slice (Try.prog.elem 25)) := by rw [elem_u8]; exact Try.underlying25
  rw [run_slice_lh w 25 A n c ht .i64 .i64 _ _ (by omega) (by omega) (by omega), elem_u8, size_of_u8]
  simp [Result.andThen, sliced, cutAt]

theorem Byt.of_whole {w : World} {g : Nat} {xs : List UInt8} {cs : Array Value} {t : TypeId} (h : Whole w g cs t) (hc : cs.toList = cellsOf xs) : Byt w (g + 1) (some ⟨g, 0, none⟩) xs := by
  intro _
  refine ⟨g, 0, rfl, by omega, fun i hi => ?_⟩
  rw [h.cell, ← Array.getElem?_toList, hc, Nat.zero_add, cellsOf_at _ _ hi]

theorem Byt.src {w : World} {B : Nat} {A : Option Addr} {xs : List UInt8} (h : Byt w B A xs) : 0 < (cellsOf xs).length → ∃ ad, A = some ad ∧ ∀ j v, (cellsOf xs)[j]? = some v → w.cell? (ad.add j) = some v := by
  intro hn
  rw [cellsOf_length] at hn
  obtain ⟨b, o, rfl, _, hc⟩ := h hn
  refine ⟨_, rfl, fun j v hj => ?_⟩
  have hj' : j < xs.length := by
    rcases Nat.lt_or_ge j xs.length with h | h
    · exact h
    · rw [List.getElem?_eq_none (by rw [cellsOf_length]; exact h)] at hj; cases hj
  rw [cellsOf_at _ _ hj'] at hj
  have e : (⟨b, o, none⟩ : Addr).add j = ⟨b, o + j, none⟩ := by
    unfold Addr.add
    split <;> simp_all
  rw [e, hc j hj']
  exact hj

theorem splice_all {α : Type} (L cs : List α) (h : cs.length = L.length) : splice L 0 cs = cs := by
  simp [splice, h]

set_option maxHeartbeats 1000000 in
theorem take_ok (w : World) (p : Nat) (A : Option Addr) (n c : Nat) (a : Int) (h : Cur w p A n c a) (k : Nat) (hk : k ≤ n) (hc : n ≤ c) (ha : 0 ≤ a) (hb : a + n ≤ 9223372036854775807) (hm : n ≤ 140737488355328)
    (B : Nat) (xs : List UInt8) (hx : Byt w B A xs) (hl : xs.length = n) (hB : B ≤ p) :
    Calls Try.prog 70 #[.pointer (some ⟨p, 0, none⟩), .int .i64 k] w fun e w' => e = .returned (.tuple #[.slice (some ⟨w.heap.size, 0, none⟩) k k, .int .i64 0]) ∧ Cur w' p (cutAt A c k) (n - k) (c - k) (a + k) ∧
      Byt w' (w.heap.size + 1) (some ⟨w.heap.size, 0, none⟩) (xs.take k) ∧ Grew w w' (some p) ∧ w.heap.size < w'.heap.size := by
  have hp := h.lt
  have H := Lib.hid h
  have Hx := Lib.hid hx
  have Hl := Lib.hid hl
  clear h hx hl
  go_enter Try.func70, Try.ntmps70
  go_wp2_with fail
  refine (pass_ok w p A n c a H.out k hk hc ha hb).mono ?_
  rintro e w1 ⟨rfl, h1, g1, s1⟩
  have H1 := Lib.hid h1
  have S1 := Lib.hid s1
  clear h1 s1
  have hmk := run_make_row' (P := Try.prog) 25 5 (.int .u8 0) 1 Try.underlying25 info_u8 rfl .i64 .i64 k (by omega) (by omega)
  have hx1 : Byt (w1.alloc (.cells (madeCells #[.int .u8 0] k) 5)) B A (xs.take k) := ((Hx.out.grew g1 (fun q hq => by cases hq; exact hB)).take k).grew (grew_alloc (grew_refl _ none) _) (fun q hq => by cases hq)
  have Hx1 := Lib.hid hx1
  clear hx1
  go_wp2_with (with_reducible refine wpList_copy_splice (o := ⟨some 23, _, _, _, _, _⟩) rfl (.tmp 21) (.tmp 22) 25 25 rfl 5 Try.underlying25 size_u8 (some ⟨w1.heap.size, 0, none⟩) A k k k c rfl rfl w1.heap.size 0 (List.replicate k (.int .u8 0)) 5 ?hg (cellsOf (xs.take k)) ?hn ?hpos ?hfit ?h1 w1.heap.size w1 ?hb ?hBg ?K)
  case hg => rw [← toList_madeCells_one, Array.toArray_toList]; exact heap_alloc_new _ _
  case hn => have := Hl.out; rw [cellsOf_length, List.length_take]; simp; omega
  case hpos => exact Hx1.out.src
  case hfit => rw [cellsOf_length, List.length_take]; simp; omega
  case h1 => exact cellsOf_one _
  case hb => exact (Below.refl _ _).alloc (Nat.le_refl _) _
  case hBg => exact Nat.le_refl _
  case K =>
    intro w2 hw2 hb2
    go_wp2
    go_ret2
    have hl2 : (cellsOf (xs.take k)).length = k := by have := Hl.out; rw [cellsOf_length, List.length_take]; omega
    have hw : Whole w2 w1.heap.size (cellsOf (xs.take k)).toArray 5 := by
      have := hw2.out
      rw [splice_all _ _ (by simp [hl2])] at this
      exact this
    have g2 : Grew w1 w2 none := ⟨hb2.os, hb2.tape, hb2.output, hb2.size, fun i hi _ => hb2.block i hi⟩
    have e1 := S1.out
    rw [e1] at hw
    refine ⟨by simp [e1], H1.out.grew g2 (by simp), Byt.of_whole hw (by simp), grew_trans g1 (grew_weak g2), hw.lt⟩


set_option maxHeartbeats 400000 in
theorem take_short (w : World) (p : Nat) (A : Option Addr) (n c : Nat) (a : Int) (h : Cur w p A n c a) (k : Int) (hk : (n : Int) < k) :
    Calls Try.prog 70 #[.pointer (some ⟨p, 0, none⟩), .int .i64 k] w fun e w' => e = .returned (.tuple #[.slice none 0 0, .int .i64 4]) ∧ w = w' := by
  have H := Lib.hid h
  clear h
  go_enter Try.func70, Try.ntmps70
  go_wp2_with fail
  refine (pass_short w p A n c a H.out k hk).mono ?_
  rintro e w1 ⟨rfl, rfl⟩
  go_wp2_with fail
  go_ret2
  exact ⟨rfl, rfl⟩

set_option maxHeartbeats 400000 in
theorem take_arg (w : World) (p : Nat) (k : Int) (hk : k < 0) :
    Calls Try.prog 70 #[.pointer (some ⟨p, 0, none⟩), .int .i64 k] w fun e w' => e = .returned (.tuple #[.slice none 0 0, .int .i64 2]) ∧ w = w' := by
  go_enter Try.func70, Try.ntmps70
  go_wp2_with fail
  refine (pass_arg w p k hk).mono ?_
  rintro e w1 ⟨rfl, rfl⟩
  go_wp2_with fail
  go_ret2
  exact ⟨rfl, rfl⟩

set_option maxHeartbeats 400000 in
theorem take_nil (w : World) (k : Int) :
    Calls Try.prog 70 #[.pointer none, .int .i64 k] w fun e w' => e = .returned (.tuple #[.slice none 0 0, .int .i64 1]) ∧ w = w' := by
  go_enter Try.func70, Try.ntmps70
  go_wp2_with fail
  refine (pass_nil w k).mono ?_
  rintro e w1 ⟨rfl, rfl⟩
  go_wp2_with fail
  go_ret2
  exact ⟨rfl, rfl⟩

set_option maxHeartbeats 400000 in
theorem at_nil (w : World) : Calls Try.prog 26 #[.pointer none] w fun e w' => e = .returned (.int .i64 0) ∧ w = w' := by
  go_enter Try.func26, Try.ntmps26
  go_wp2
  go_ret
  exact ⟨rfl, rfl⟩

set_option maxHeartbeats 400000 in
theorem end_nil (w : World) : Calls Try.prog 56 #[.pointer none] w fun e w' => e = .returned (.int .i64 0) ∧ w = w' := by
  go_enter Try.func56, Try.ntmps56
  go_wp2
  go_ret
  exact ⟨rfl, rfl⟩

set_option maxHeartbeats 400000 in
theorem left_nil (w : World) : Calls Try.prog 25 #[.pointer none] w fun e w' => e = .returned (.int .i64 0) ∧ w = w' := by
  go_enter Try.func25, Try.ntmps25
  go_wp2
  go_ret
  exact ⟨rfl, rfl⟩

set_option maxHeartbeats 400000 in
theorem sub_ok (w : World) (p : Nat) (A : Option Addr) (n c : Nat) (a : Int) (h : Cur w p A n c a) (k : Nat) (hk : k ≤ n) (hc : n ≤ c) (ha : 0 ≤ a) (hb : a + n ≤ 9223372036854775807) :
    Calls Try.prog 59 #[.pointer (some ⟨p, 0, none⟩), .int .i64 k] w fun e w' => e = .returned (.tuple #[.pointer (some ⟨w.heap.size, 0, none⟩), .int .i64 0]) ∧ Cur w' p (cutAt A c k) (n - k) (c - k) (a + k) ∧
      Cur w' w.heap.size A k c a ∧ Grew w w' (some p) ∧ w.heap.size < w'.heap.size := by
  have hp := h.lt
  have H := Lib.hid h
  clear h
  go_enter Try.func59, Try.ntmps59
  go_wp2_with fail
  refine (at_any w p A n c a H.out).mono ?_
  rintro e w0 ⟨rfl, rfl⟩
  go_wp2_with fail
  refine (pass_ok w p A n c a H.out k hk hc ha hb).mono ?_
  rintro e w1 ⟨rfl, h1, g1, s1⟩
  have H1 := Lib.hid h1
  have S1 := Lib.hid s1
  clear h1 s1
  go_wp2_with fail
  refine (new_any A k c a w1).mono ?_
  rintro e w2 ⟨rfl, h2, g2⟩
  have H2 := Lib.hid h2
  clear h2
  go_wp2_with fail
  go_ret2
  have e1 := S1.out
  have h2 := H2.out
  rw [e1] at h2
  exact ⟨by simp [e1], H1.out.grew g2 (by simp), h2, grew_trans g1 (grew_weak g2), h2.lt⟩

set_option maxHeartbeats 400000 in
theorem sub_short (w : World) (p : Nat) (A : Option Addr) (n c : Nat) (a : Int) (h : Cur w p A n c a) (k : Int) (hk : (n : Int) < k) :
    Calls Try.prog 59 #[.pointer (some ⟨p, 0, none⟩), .int .i64 k] w fun e w' => e = .returned (.tuple #[.pointer none, .int .i64 4]) ∧ w = w' := by
  have H := Lib.hid h
  clear h
  go_enter Try.func59, Try.ntmps59
  go_wp2_with fail
  refine (at_any w p A n c a H.out).mono ?_
  rintro e w0 ⟨rfl, rfl⟩
  go_wp2_with fail
  refine (pass_short w p A n c a H.out k hk).mono ?_
  rintro e w1 ⟨rfl, rfl⟩
  go_wp2_with fail
  go_ret2
  exact ⟨rfl, rfl⟩

set_option maxHeartbeats 400000 in
theorem sub_arg (w : World) (p : Nat) (A : Option Addr) (n c : Nat) (a : Int) (h : Cur w p A n c a) (k : Int) (hk : k < 0) :
    Calls Try.prog 59 #[.pointer (some ⟨p, 0, none⟩), .int .i64 k] w fun e w' => e = .returned (.tuple #[.pointer none, .int .i64 2]) ∧ w = w' := by
  have H := Lib.hid h
  clear h
  go_enter Try.func59, Try.ntmps59
  go_wp2_with fail
  refine (at_any w p A n c a H.out).mono ?_
  rintro e w0 ⟨rfl, rfl⟩
  go_wp2_with fail
  refine (pass_arg w p k hk).mono ?_
  rintro e w1 ⟨rfl, rfl⟩
  go_wp2_with fail
  go_ret2
  exact ⟨rfl, rfl⟩

set_option maxHeartbeats 400000 in
theorem sub_nil (w : World) (k : Int) :
    Calls Try.prog 59 #[.pointer none, .int .i64 k] w fun e w' => e = .returned (.tuple #[.pointer none, .int .i64 1]) ∧ w = w' := by
  go_enter Try.func59, Try.ntmps59
  go_wp2_with fail
  refine (at_nil w).mono ?_
  rintro e w0 ⟨rfl, rfl⟩
  go_wp2_with fail
  refine (pass_nil w k).mono ?_
  rintro e w1 ⟨rfl, rfl⟩
  go_wp2_with fail
  go_ret2
  exact ⟨rfl, rfl⟩

/-- The sizes that a number may have. -/
def sizeOk (k : Int) : Prop := k = 1 ∨ k = 2 ∨ k = 3 ∨ k = 4 ∨ k = 8
instance (k : Int) : Decidable (sizeOk k) := by unfold sizeOk; infer_instance

set_option maxHeartbeats 400000 in
theorem isnum_yes (w : World) (k : Int) (hk : sizeOk k) : Calls Try.prog 68 #[.int .i64 k] w fun e w' => e = .returned (.bool true) ∧ w = w' := by
  rcases hk with rfl | rfl | rfl | rfl | rfl
  all_goals
    go_enter Try.func68, Try.ntmps68
    go_wp2
    go_ret
    exact ⟨rfl, rfl⟩

set_option maxHeartbeats 400000 in
theorem isnum_no (w : World) (k : Int) (hk : ¬ sizeOk k) : Calls Try.prog 68 #[.int .i64 k] w fun e w' => e = .returned (.bool false) ∧ w = w' := by
  unfold sizeOk at hk
  have h1 : (k == 1) = false := by simp; omega
  have h2 : (k == 2) = false := by simp; omega
  have h3 : (k == 3) = false := by simp; omega
  have h4 : (k == 4) = false := by simp; omega
  have h8 : (k == 8) = false := by simp; omega
  clear hk
  go_enter Try.func68, Try.ntmps68
  go_wp2
  go_ret
  exact ⟨rfl, rfl⟩

end Go.Proofs.Ytdamjbngopfpkaa

