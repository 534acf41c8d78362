/- Parts of lists of bytes: 'b[l:h]', 'b[:h]', 'b[l:]' of a list that has memory. -/
import Derived.Test.YtnegakobammljaaRows
import Derived.Test.YtnegakobammljaaFoot
import Derived.Laws.Slices
namespace Go.Proofs.Ytnegakobammljaa
open Go.RowKit

theorem size_of_u8 (w : World) : (Go.sizeOf 5).run Try.prog w = .ok 1 w := by kernel_rfl
theorem elem_u8 : Try.prog.elem 22 = 5 := by simp [Program.elem, Try.underlying22]
theorem under_bytes : Try.prog.underlying 22 = some (.slice (Try.prog.elem 22)) := by rw [elem_u8]; exact Try.underlying22
/-- 'b[l:h]' of a list that has bytes behind l. -/
theorem slice_at (w : World) (b o n c l h : Nat) (hl : l < h) (hh : h ≤ c) :
    (Instr.slice 22 (.slice (some ⟨b, o, none⟩) n c) (some (.int .i64 (l : Int))) (some (.int .i64 (h : Int))) none).run Try.prog w = .ok (.slice (some ⟨b, o + l, none⟩) (h - l) (c - l)) w := by
  rw [run_slice_lh w 22 (some ⟨b, o, none⟩) n c under_bytes .i64 .i64 _ _ (by omega) (by omega) (by omega), elem_u8, size_of_u8]
  have hcl : ¬ c = l := by omega
  simp [Result.andThen, sliced, hcl, Addr.add]
/-- 'b[:h]'. -/
theorem slice_to (w : World) (b o n c h : Nat) (hh : h ≤ c) :
    (Instr.slice 22 (.slice (some ⟨b, o, none⟩) n c) none (some (.int .i64 (h : Int))) none).run Try.prog w = .ok (.slice (some ⟨b, o, none⟩) h c) w := by
  rw [run_slice_h w 22 (some ⟨b, o, none⟩) n c under_bytes .i64 _ (by omega) (by omega), elem_u8, size_of_u8]
  simp [Result.andThen, sliced, Addr.add]
/-- 'b[l:]'. -/
theorem slice_from (w : World) (b o n c l : Nat) (hn : l ≤ n) (hc : l < c) :
    (Instr.slice 22 (.slice (some ⟨b, o, none⟩) n c) (some (.int .i64 (l : Int))) none none).run Try.prog w = .ok (.slice (some ⟨b, o + l, none⟩) (n - l) (c - l)) w := by
  rw [run_slice_l w 22 (some ⟨b, o, none⟩) n c under_bytes .i64 _ (by omega) (by omega), elem_u8, size_of_u8]
  have hcl : ¬ c = l := by omega
  simp [Result.andThen, sliced, Addr.add, hcl]
theorem byt_sub {w : World} {B b o s k : Nat} {xs : List UInt8} (h : Byt w B (some ⟨b, o, none⟩) xs) : Byt w B (some ⟨b, o + s, none⟩) ((xs.drop s).take k) := by
  intro hn
  rw [List.length_take, List.length_drop] at hn
  obtain ⟨b', o', e, hb, hc⟩ := h (by omega)
  cases e
  refine ⟨b, o + s, rfl, hb, fun i hi => ?_⟩
  rw [List.length_take, List.length_drop] at hi
  rw [Nat.add_assoc, hc (s + i) (by omega)]
  congr 3
  simp only [List.getD_eq_getElem?_getD]
  rw [List.getElem?_take_of_lt (by omega), List.getElem?_drop]
theorem byt_below {w w' : World} {B n : Nat} {A : Option Addr} {xs : List UInt8} (h : Byt w B A xs) (b : Below n w w') (hn : B ≤ n) : Byt w' B A xs := by
  intro hx
  obtain ⟨p, o, rfl, hp, hc⟩ := h hx
  exact ⟨p, o, rfl, hp, fun i hi => (b.cell (p := ⟨p, o + i, none⟩) (Nat.lt_of_lt_of_le hp hn)).trans (hc i hi)⟩
end Go.Proofs.Ytnegakobammljaa

