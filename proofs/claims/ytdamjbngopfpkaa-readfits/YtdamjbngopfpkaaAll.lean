/- One contract for each of Number, Take and Sub, whatever the argument: what is told hangs on the bytes ahead alone. -/
import Derived.Test.YtdamjbngopfpkaaCr
namespace Go.Proofs.Ytdamjbngopfpkaa
open Go.RowKit

theorem Byt.far {w w' : World} {row : Option Nat} {B g0 : Nat} {A : Option Addr} {xs : List UInt8} (h : Byt w B A xs) (hA : ∀ x, A = some x → x.block = g0) (g : Grew w w' row) (hne : some g0 ≠ row) : Byt w' B A xs := by
  intro hn
  obtain ⟨b, o, rfl, hb, hc⟩ := h hn
  have e := hA _ rfl
  exact ⟨b, o, rfl, hb, fun i hi => g.cell (hc i hi) (by simp only at e ⊢; rw [e]; exact hne)⟩

/-- What Take tells of n bytes where len are ahead: the error; how far the cursor goes. -/
def tkE (len : Nat) (n : Int) : Int := if n < 0 then 2 else if (len : Int) < n then 4 else 0
def tkM (len : Nat) (n : Int) : Nat := if n < 0 then 0 else if (len : Int) < n then 0 else n.toNat
theorem tkM_le (len : Nat) (n : Int) : tkM len n ≤ len := by
  unfold tkM
  split
  · omega
  · split <;> omega

theorem cr_take_all (w : World) (p B : Nat) (ys : List UInt8) (a : Int) (h : Cr w p B ys a) (n : Int) :
    Calls Try.prog 70 #[.pointer (some ⟨p, 0, none⟩), .int .i64 n] w fun e w' => ∃ A', e = .returned (.tuple #[.slice A' (tkM ys.length n) (tkM ys.length n), .int .i64 (tkE ys.length n)]) ∧
      Cr w' p B (ys.drop (tkM ys.length n)) (a + tkM ys.length n) ∧ Byt w' w'.heap.size A' (ys.take (tkM ys.length n)) ∧ (∀ x, A' = some x → x.block = w.heap.size) ∧ Grew w w' (some p) := by
  by_cases h1 : n < 0
  · have e1 : tkM ys.length n = 0 := by simp [tkM, h1]
    have e2 : tkE ys.length n = 2 := by simp [tkE, h1]
    rw [e1, e2]
    refine (take_arg w p n h1).mono ?_
    rintro e w' ⟨rfl, rfl⟩
    exact ⟨none, rfl, by simpa using h, fun h => by simp at h, (fun x h => by cases h), grew_refl _ _⟩
  · by_cases h2 : (ys.length : Int) < n
    · have e1 : tkM ys.length n = 0 := by simp [tkM, h1, h2]
      have e2 : tkE ys.length n = 4 := by simp [tkE, h1, h2]
      rw [e1, e2]
      refine (cr_take_short w p B ys a h n h2).mono ?_
      rintro e w' ⟨rfl, rfl⟩
      exact ⟨none, rfl, by simpa using h, fun h => by simp at h, (fun x h => by cases h), grew_refl _ _⟩
    · have e2 : tkE ys.length n = 0 := by simp [tkE, h1, h2]
      have e1 : tkM ys.length n = n.toNat := by simp [tkM, h1, h2]
      obtain ⟨k, rfl⟩ := Int.eq_ofNat_of_zero_le (a := n) (by omega)
      rw [e1, e2, Int.toNat_natCast]
      refine (cr_take w p B ys a h k (by omega)).mono ?_
      rintro e w' ⟨rfl, h', hb, g, s⟩
      exact ⟨_, rfl, h', hb.more (by omega), fun x h => by cases h; rfl, g⟩

/-- What Number tells. -/
def nmX (ys : List UInt8) (n : Int) : Nat := if sizeOk n then (if (ys.length : Int) < n then 0 else num (ys.take n.toNat)) else 0
def nmE (len : Nat) (n : Int) : Int := if sizeOk n then (if (len : Int) < n then 4 else 0) else 2
def nmM (len : Nat) (n : Int) : Nat := if sizeOk n then (if (len : Int) < n then 0 else n.toNat) else 0
theorem nmM_le (len : Nat) (n : Int) : nmM len n ≤ len := by
  unfold nmM
  split
  · split <;> omega
  · omega

theorem cr_number_all (w : World) (p B : Nat) (ys : List UInt8) (a : Int) (h : Cr w p B ys a) (n : Int) :
    Calls Try.prog 55 #[.pointer (some ⟨p, 0, none⟩), .int .i64 n] w fun e w' => e = .returned (.tuple #[.int .u64 (nmX ys n), .int .i64 (nmE ys.length n)]) ∧
      Cr w' p B (ys.drop (nmM ys.length n)) (a + nmM ys.length n) ∧ Grew w w' (some p) := by
  by_cases h1 : sizeOk n
  · by_cases h2 : (ys.length : Int) < n
    · have e1 : nmM ys.length n = 0 := by simp [nmM, h1, h2]
      have e2 : nmE ys.length n = 4 := by simp [nmE, h1, h2]
      have e3 : nmX ys n = 0 := by simp [nmX, h2]
      rw [e1, e2, e3]
      refine (cr_number_short w p B ys a h n h1 h2).mono ?_
      rintro e w' ⟨rfl, rfl⟩
      exact ⟨rfl, by simpa using h, grew_refl _ _⟩
    · have e1 : nmM ys.length n = n.toNat := by simp [nmM, h1, h2]
      have e2 : nmE ys.length n = 0 := by simp [nmE, h1, h2]
      have e3 : nmX ys n = num (ys.take n.toNat) := by simp [nmX, h1, h2]
      obtain ⟨k, rfl⟩ := Int.eq_ofNat_of_zero_le (a := n) (by unfold sizeOk at h1; omega)
      rw [e1, e2, e3, Int.toNat_natCast]
      refine (cr_number w p B ys a h k h1 (by omega)).mono ?_
      rintro e w' ⟨rfl, h', g, s⟩
      exact ⟨rfl, h', g⟩
  · have e1 : nmM ys.length n = 0 := by simp [nmM, h1]
    have e2 : nmE ys.length n = 2 := by simp [nmE, h1]
    have e3 : nmX ys n = 0 := by simp [nmX, h1]
    rw [e1, e2, e3]
    refine (number_arg w p n h1).mono ?_
    rintro e w' ⟨rfl, rfl⟩
    exact ⟨rfl, by simpa using h, grew_refl _ _⟩

end Go.Proofs.Ytdamjbngopfpkaa

