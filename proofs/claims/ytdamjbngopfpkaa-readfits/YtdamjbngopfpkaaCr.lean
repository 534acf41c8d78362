/- Cursors told by what is ahead of them: their contracts. -/
import Derived.Test.YtdamjbngopfpkaaNum
namespace Go.Proofs.Ytdamjbngopfpkaa
open Go.RowKit

/-- A cursor in block p: the bytes ys are ahead of it, in blocks below B; its place is a. -/
def Cr (w : World) (p B : Nat) (ys : List UInt8) (a : Int) : Prop :=
  B ≤ p ∧ 0 ≤ a ∧ a + ys.length ≤ 4611686018427387904 ∧ ∃ A c, Cur w p A ys.length c a ∧ ys.length ≤ c ∧ ys.length ≤ 140737488351232 ∧ Byt w B A ys

theorem Cr.lt {w : World} {p B : Nat} {ys : List UInt8} {a : Int} (h : Cr w p B ys a) : p < w.heap.size := by
  obtain ⟨_, _, _, A, c, h, _⟩ := h
  exact h.lt
theorem Cr.grew {w w' : World} {p B : Nat} {ys : List UInt8} {a : Int} {row : Option Nat} (h : Cr w p B ys a) (g : Grew w w' row) (h1 : some p ≠ row) (h2 : ∀ k, row = some k → B ≤ k) : Cr w' p B ys a := by
  obtain ⟨hB, h0, hm, A, c, h, hl, hc, hb⟩ := h
  exact ⟨hB, h0, hm, A, c, h.grew g h1, hl, hc, hb.grew g h2⟩
theorem Cr.drewN {w : World} {p B : Nat} {ys : List UInt8} {a : Int} (h : Cr w p B ys a) (n : Nat) : Cr (w.drewN n) p B ys a := h

theorem cr_new (w : World) (A : Option Addr) (c : Nat) (ys : List UInt8) (a : Int) (hl : ys.length ≤ c) (hc : ys.length ≤ 140737488351232) (B : Nat) (hb : Byt w B A ys) (hB : B ≤ w.heap.size) (h0 : 0 ≤ a) (hm : a + ys.length ≤ 4611686018427387904) :
    Calls Try.prog 23 #[.slice A ys.length c, .int .i64 a] w fun e w' => e = .returned (.pointer (some ⟨w.heap.size, 0, none⟩)) ∧ Cr w' w.heap.size B ys a ∧ Grew w w' none :=
  (new_any A ys.length c a w).mono fun _ _ ⟨he, h, g⟩ => ⟨he, ⟨hB, h0, hm, A, c, h, hl, hc, hb.grew g (fun _ h => by cases h)⟩, g⟩

theorem cr_at (w : World) (p B : Nat) (ys : List UInt8) (a : Int) (h : Cr w p B ys a) :
    Calls Try.prog 26 #[.pointer (some ⟨p, 0, none⟩)] w fun e w' => e = .returned (.int .i64 a) ∧ w = w' := by
  obtain ⟨_, _, _, A, c, h, _⟩ := h
  exact at_any w p A _ c a h
theorem cr_left (w : World) (p B : Nat) (ys : List UInt8) (a : Int) (h : Cr w p B ys a) :
    Calls Try.prog 25 #[.pointer (some ⟨p, 0, none⟩)] w fun e w' => e = .returned (.int .i64 ys.length) ∧ w = w' := by
  obtain ⟨_, _, _, A, c, h, _⟩ := h
  exact left_any w p A _ c a h
theorem cr_end (w : World) (p B : Nat) (ys : List UInt8) (a : Int) (h : Cr w p B ys a) :
    Calls Try.prog 56 #[.pointer (some ⟨p, 0, none⟩)] w fun e w' => e = .returned (.int .i64 (a + ys.length)) ∧ ∃ m, w' = w.drewN m := by
  obtain ⟨_, h0, hm, A, c, h, _⟩ := h
  exact end_any w p A _ c a h h0 (by omega)

theorem Cr.moved {w w' : World} {p B : Nat} {ys : List UInt8} {a : Int} {A : Option Addr} {c k : Nat} (hk : k ≤ ys.length) (hl : ys.length ≤ c) (hc : ys.length ≤ 140737488351232) (h : Cur w' p (cutAt A c k) (ys.length - k) (c - k) (a + k))
    (hb : Byt w B A ys) (g : Grew w w' (some p)) (hB : B ≤ p) (h0 : 0 ≤ a) (hm : a + ys.length ≤ 4611686018427387904) : Cr w' p B (ys.drop k) (a + k) := by
  refine ⟨hB, by omega, by rw [List.length_drop]; omega, cutAt A c k, c - k, by rw [List.length_drop]; exact h, by rw [List.length_drop]; omega, by rw [List.length_drop]; omega, (hb.grew g (fun q hq => by cases hq; exact hB)).drop hl⟩

theorem cr_take (w : World) (p B : Nat) (ys : List UInt8) (a : Int) (h : Cr w p B ys a) (k : Nat) (hk : k ≤ ys.length) :
    Calls Try.prog 70 #[.pointer (some ⟨p, 0, none⟩), .int .i64 k] w fun e w' => e = .returned (.tuple #[.slice (some ⟨w.heap.size, 0, none⟩) k k, .int .i64 0]) ∧ Cr w' p B (ys.drop k) (a + k) ∧
      Byt w' (w.heap.size + 1) (some ⟨w.heap.size, 0, none⟩) (ys.take k) ∧ Grew w w' (some p) ∧ w.heap.size < w'.heap.size := by
  obtain ⟨hB, h0, hm, A, c, h, hl, hc, hb⟩ := h
  refine (take_ok w p A _ c a h k hk hl h0 (by omega) (by omega) B ys hb rfl hB).mono ?_
  rintro e w' ⟨he, h', hb', g, hs⟩
  exact ⟨he, Cr.moved hk hl hc h' hb g hB h0 hm, hb', g, hs⟩
theorem cr_take_short (w : World) (p B : Nat) (ys : List UInt8) (a : Int) (h : Cr w p B ys a) (k : Int) (hk : (ys.length : Int) < k) :
    Calls Try.prog 70 #[.pointer (some ⟨p, 0, none⟩), .int .i64 k] w fun e w' => e = .returned (.tuple #[.slice none 0 0, .int .i64 4]) ∧ w = w' := by
  obtain ⟨_, _, _, A, c, h, _⟩ := h
  exact take_short w p A _ c a h k hk
theorem cr_sub (w : World) (p B : Nat) (ys : List UInt8) (a : Int) (h : Cr w p B ys a) (k : Nat) (hk : k ≤ ys.length) :
    Calls Try.prog 59 #[.pointer (some ⟨p, 0, none⟩), .int .i64 k] w fun e w' => e = .returned (.tuple #[.pointer (some ⟨w.heap.size, 0, none⟩), .int .i64 0]) ∧ Cr w' p B (ys.drop k) (a + k) ∧
      Cr w' w.heap.size B (ys.take k) a ∧ Grew w w' (some p) ∧ w.heap.size < w'.heap.size := by
  have hp := h.lt
  obtain ⟨hB, h0, hm, A, c, h, hl, hc, hb⟩ := h
  refine (sub_ok w p A _ c a h k hk hl h0 (by omega)).mono ?_
  rintro e w' ⟨he, h', h'', g, hs⟩
  have e1 : (ys.take k).length = k := by rw [List.length_take]; omega
  exact ⟨he, Cr.moved hk hl hc h' hb g hB h0 hm, ⟨by omega, h0, by rw [e1]; omega, A, c, by rw [e1]; exact h'', by rw [e1]; omega, by rw [e1]; omega, (hb.grew g (fun q hq => by cases hq; exact hB)).take k⟩, g, hs⟩
theorem cr_sub_short (w : World) (p B : Nat) (ys : List UInt8) (a : Int) (h : Cr w p B ys a) (k : Int) (hk : (ys.length : Int) < k) :
    Calls Try.prog 59 #[.pointer (some ⟨p, 0, none⟩), .int .i64 k] w fun e w' => e = .returned (.tuple #[.pointer none, .int .i64 4]) ∧ w = w' := by
  obtain ⟨_, _, _, A, c, h, _⟩ := h
  exact sub_short w p A _ c a h k hk
theorem cr_sub_arg (w : World) (p B : Nat) (ys : List UInt8) (a : Int) (h : Cr w p B ys a) (k : Int) (hk : k < 0) :
    Calls Try.prog 59 #[.pointer (some ⟨p, 0, none⟩), .int .i64 k] w fun e w' => e = .returned (.tuple #[.pointer none, .int .i64 2]) ∧ w = w' := by
  obtain ⟨_, _, _, A, c, h, _⟩ := h
  exact sub_arg w p A _ c a h k hk
theorem cr_number (w : World) (p B : Nat) (ys : List UInt8) (a : Int) (h : Cr w p B ys a) (k : Nat) (hs : sizeOk k) (hk : k ≤ ys.length) :
    Calls Try.prog 55 #[.pointer (some ⟨p, 0, none⟩), .int .i64 k] w fun e w' => e = .returned (.tuple #[.int .u64 (num (ys.take k)), .int .i64 0]) ∧ Cr w' p B (ys.drop k) (a + k) ∧
      Grew w w' (some p) ∧ w'.heap.size = w.heap.size := by
  obtain ⟨hB, h0, hm, A, c, h, hl, hc, hb⟩ := h
  refine (number_ok w p A _ c a h k hs hk hl h0 (by omega) B ys hb rfl hB).mono ?_
  rintro e w' ⟨he, h', g, hs⟩
  exact ⟨he, Cr.moved hk hl hc h' hb g hB h0 hm, g, hs⟩
theorem cr_number_short (w : World) (p B : Nat) (ys : List UInt8) (a : Int) (h : Cr w p B ys a) (k : Int) (hs : sizeOk k) (hk : (ys.length : Int) < k) :
    Calls Try.prog 55 #[.pointer (some ⟨p, 0, none⟩), .int .i64 k] w fun e w' => e = .returned (.tuple #[.int .u64 0, .int .i64 4]) ∧ w = w' := by
  obtain ⟨_, _, _, A, c, h, _⟩ := h
  exact number_short w p A _ c a h k hs hk

end Go.Proofs.Ytdamjbngopfpkaa

