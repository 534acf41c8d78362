/- Contracts of the cursor's Number. -/
import Derived.Test.YtdamjbngopfpkaaCur
namespace Go.Proofs.Ytdamjbngopfpkaa
open Go.RowKit

/-- What bytes are, the highest first. -/
def num (xs : List UInt8) : Nat := xs.foldl (fun a x => a * 256 + x.toNat) 0
theorem num_nil : num [] = 0 := rfl
theorem num_snoc (xs : List UInt8) (x : UInt8) : num (xs ++ [x]) = num xs * 256 + x.toNat := by simp [num]
theorem num_lt (xs : List UInt8) : num xs < 256 ^ xs.length := by
  have key : ∀ (l : List UInt8), num l.reverse < 256 ^ l.length := by
    intro l
    induction l with
    | nil => simp [num]
    | cons x l ih =>
      rw [List.reverse_cons, num_snoc, List.length_cons, Nat.pow_succ]
      have := x.toNat_lt
      omega
  have := key xs.reverse
  simpa using this
theorem take_one_more (xs : List UInt8) (i : Nat) (h : i < xs.length) : xs.take (i + 1) = xs.take i ++ [xs.getD i 0] := by
  rw [List.take_succ_eq_append_getElem h]
  simp [List.getD, List.getElem?_eq_getElem h]
theorem num_step (xs : List UInt8) (i : Nat) (h : i < xs.length) : num (xs.take (i + 1)) = num (xs.take i) * 256 + (xs.getD i 0).toNat := by
  rw [take_one_more xs i h, num_snoc]
theorem num_bound (xs : List UInt8) (i : Nat) (h : i < 8) : num (xs.take i) < 72057594037927936 := by
  have h1 := num_lt (xs.take i)
  have h2 : (xs.take i).length ≤ 7 := by rw [List.length_take]; omega
  have h3 : 256 ^ (xs.take i).length ≤ 256 ^ 7 := Nat.pow_le_pow_right (by decide) h2
  have h4 : 256 ^ 7 = 72057594037927936 := by decide
  omega
theorem byte_lt (xs : List UInt8) (i : Nat) : (xs.getD i 0).toNat < 256 := (xs.getD i 0).toNat_lt

theorem or_byte (a b : Nat) (ha : a < 72057594037927936) (hb : b < 256) : bits .or .u64 ((a : Int) * 256) (IntKind.u64.wrap (b : Int)) = ((a * 256 + b : Nat) : Int) := by
  have e1 : IntKind.u64.wrap (b : Int) = (b : Int) := IntWalk.u64_in _ (by omega)
  have e2 : ((a : Int) * 256) = ((a * 256 : Nat) : Int) := by omega
  rw [e1, e2, u64_or_nat _ _ (by omega) (by omega)]
  have := Nat.two_pow_add_eq_or_of_lt (i := 8) (b := b) (by omega) a
  have e3 : 2 ^ 8 * a = a * 256 := by omega
  rw [e3] at this
  rw [this]

set_option maxHeartbeats 1000000 in
theorem number_ok (w : World) (p : Nat) (A : Option Addr) (n c : Nat) (a : Int) (h : Cur w p A n c a) (k : Nat) (hs : sizeOk k) (hk : k ≤ n) (hc : n ≤ c) (ha : 0 ≤ a) (hb : a + n ≤ 9223372036854775807)
    (B : Nat) (xs : List UInt8) (hx : Byt w B A xs) (hl : xs.length = n) (hB : B ≤ p) :
    Calls Try.prog 55 #[.pointer (some ⟨p, 0, none⟩), .int .i64 k] w fun e w' => e = .returned (.tuple #[.int .u64 (num (xs.take k)), .int .i64 0]) ∧ Cur w' p (cutAt A c k) (n - k) (c - k) (a + k) ∧
      Grew w w' (some p) ∧ w'.heap.size = w.heap.size := by
  have hk8 : k ≤ 8 := by unfold sizeOk at hs; omega
  have hk0 : 0 < k := by unfold sizeOk at hs; omega
  have H := Lib.hid h
  have Hx := Lib.hid hx
  have Hl := Lib.hid hl
  have Hs := Lib.hid hs
  clear h hx hl hs
  go_enter Try.func55, Try.ntmps55
  go_wp2_with fail
  refine (isnum_yes w k Hs.out).mono ?_
  rintro e w0 ⟨rfl, rfl⟩
  go_wp2_with fail
  refine (pass_ok w p A n c a H.out k hk hc ha hb).mono ?_
  rintro e w1 ⟨rfl, h1, g1, s1⟩
  have H1 := Lib.hid h1
  have S1 := Lib.hid s1
  clear h1 s1
  obtain ⟨b, o, rfl, hb', hcell⟩ := (Hx.out.grew g1 (fun q hq => by cases hq; exact hB)) (by have := Hl.out; omega)
  have Hc := Lib.hid hcell
  clear hcell
  go_wp2_with fail
  go_loop [8, 25] (fun x i => ∃ j : Nat, j ≤ k ∧ i = .int .i64 j ∧ x = .int .u64 (num (xs.take j))) (fun _ i => k - (intOf i).toNat)
  case atStart => exact ⟨0, Nat.zero_le _, rfl, rfl⟩
  case round =>
    obtain ⟨j, hj, rfl, rfl⟩ := hrel
    by_cases hlt : j < k
    · have hcj := Hc.out j (by have := Hl.out; omega)
      have hb1 := num_bound xs j (by omega)
      have hb2 := byte_lt xs j
      have HS := Lib.hid (num_step xs j (by have := Hl.out; omega))
      have HO := Lib.hid (or_byte _ _ hb1 hb2)
      go_wp2
      go_round
      case rel => exact ⟨j + 1, by omega, by go_num, by rw [HS.out]; exact congrArg (Value.int .u64) HO.out⟩
      case measure => simp [intOf]; omega
    · obtain rfl : j = k := by omega
      go_wp2
      go_ret2
      exact ⟨rfl, H1.out, g1, S1.out⟩

set_option maxHeartbeats 400000 in
theorem number_short (w : World) (p : Nat) (A : Option Addr) (n c : Nat) (a : Int) (h : Cur w p A n c a) (k : Int) (hs : sizeOk k) (hk : (n : Int) < k) :
    Calls Try.prog 55 #[.pointer (some ⟨p, 0, none⟩), .int .i64 k] w fun e w' => e = .returned (.tuple #[.int .u64 0, .int .i64 4]) ∧ w = w' := by
  have H := Lib.hid h
  have Hs := Lib.hid hs
  clear h hs
  go_enter Try.func55, Try.ntmps55
  go_wp2_with fail
  refine (isnum_yes w k Hs.out).mono ?_
  rintro e w0 ⟨rfl, rfl⟩
  go_wp2_with fail
  refine (pass_short w p A n c a H.out k hk).mono ?_
  rintro e w1 ⟨rfl, rfl⟩
  go_wp2_with fail
  go_ret2
  exact ⟨rfl, rfl⟩

set_option maxHeartbeats 400000 in
theorem number_arg (w : World) (p : Nat) (k : Int) (hs : ¬ sizeOk k) :
    Calls Try.prog 55 #[.pointer (some ⟨p, 0, none⟩), .int .i64 k] w fun e w' => e = .returned (.tuple #[.int .u64 0, .int .i64 2]) ∧ w = w' := by
  have Hs := Lib.hid hs
  clear hs
  go_enter Try.func55, Try.ntmps55
  go_wp2_with fail
  refine (isnum_no w k Hs.out).mono ?_
  rintro e w0 ⟨rfl, rfl⟩
  go_wp2_with fail
  go_ret2
  exact ⟨rfl, rfl⟩

set_option maxHeartbeats 400000 in
theorem number_nil (w : World) (k : Int) :
    Calls Try.prog 55 #[.pointer none, .int .i64 k] w fun e w' => e = .returned (.tuple #[.int .u64 0, .int .i64 1]) ∧ w = w' := by
  go_enter Try.func55, Try.ntmps55
  go_wp2_with fail
  go_ret2
  exact ⟨rfl, rfl⟩

end Go.Proofs.Ytdamjbngopfpkaa

