/- Grease: the program's answer and the document's are one; the document's own Name and Code. -/
import Derived.Test.YtdklkffodhcmfaaCn
import Derived.BigQuiet
import Derived.Deep.QuietTactic
import Derived.Lib.Hide
import Derived.Laws.BitsLemmas
namespace Go.Proofs.Ytdklkffodhcmfaa
open Go.RowKit

/-- Is the number grease? -/
def gr (c : Int) : Bool := decide (0 ≤ c ∧ c < 65536 ∧ c % 4112 = 2570)

theorem i64_and255 (n : Int) : bits .and .i64 n 255 = n % 256 := by
  have h255 : (BitVec.ofInt 64 255).toNat = 2 ^ 8 - 1 := by decide
  have key : (BitVec.ofInt 64 n &&& BitVec.ofInt 64 255).toNat = (n % ((2 ^ 64 : Nat) : Int)).toNat % 2 ^ 8 := by
    rw [BitVec.toNat_and, BitVec.toNat_ofInt, h255, Nat.and_two_pow_sub_one_eq_mod]
  show IntKind.i64.wrap ((BitVec.ofInt 64 n &&& BitVec.ofInt 64 255).toNat : Nat) = n % 256
  rw [key, IntKind.wrap_i64]
  omega
theorem i64_and15 (n : Int) : bits .and .i64 n 15 = n % 16 := by
  have h15 : (BitVec.ofInt 64 15).toNat = 2 ^ 4 - 1 := by decide
  have key : (BitVec.ofInt 64 n &&& BitVec.ofInt 64 15).toNat = (n % ((2 ^ 64 : Nat) : Int)).toNat % 2 ^ 4 := by
    rw [BitVec.toNat_and, BitVec.toNat_ofInt, h15, Nat.and_two_pow_sub_one_eq_mod]
  show IntKind.i64.wrap ((BitVec.ofInt 64 n &&& BitVec.ofInt 64 15).toNat : Nat) = n % 16
  rw [key, IntKind.wrap_i64]
  omega

theorem gr_eq {c : Int} (h : c / 256 = c % 256) : gr c = (c % 16 == 10) := by
  rw [Bool.eq_iff_iff]
  simp only [gr, decide_eq_true_eq, beq_iff_eq]
  omega
theorem gr_no {c : Int} (h : ¬ c / 256 = c % 256) : gr c = false := by
  simp only [gr, decide_eq_false_iff_not]
  omega

set_option maxRecDepth 100000 in
set_option maxHeartbeats 2000000 in
theorem grease_any (w : World) (c : Int) : Calls Try.prog 11 #[.int .i64 c] w fun e w' => e = .returned (.bool (gr c)) ∧ w' = w := by
  have e1 := i64_and255 c
  have e2 := i64_and15 (c % 256)
  by_cases h1 : c / 256 = c % 256
  · have h2 := gr_eq h1
    go_enter Try.func11, Try.ntmps11
    go_wp2_with fail
    go_ret
    exact ⟨by rw [h2]; rfl, rfl⟩
  · have h2 := gr_no h1
    go_enter Try.func11, Try.ntmps11
    go_wp2_with fail
    go_ret
    exact ⟨by rw [h2]; rfl, rfl⟩

set_option maxRecDepth 100000 in
set_option maxHeartbeats 2000000 in
theorem rgrease_any (w : World) (c : Int) : Calls Try.prog 12 #[.int .i64 c] w fun e w' => e = .returned (.bool (gr c)) ∧ w' = w := by
  go_enter Try.func12, Try.ntmps12
  go_wp2_with fail
  go_loopw [3] (fun i wr => ∃ k : Nat, k ≤ 16 ∧ i = .int .i64 k ∧ wr = w ∧ ∀ j : Nat, j < k → c ≠ (16 * (j : Int) + 10) * 257) (fun i _ => 16 - (intOf i).toNat)
  case atStart => exact ⟨0, by omega, rfl, rfl, fun j h => by omega⟩
  case round =>
    obtain ⟨k, hk, rfl, rfl, hn⟩ := hrel
    by_cases hlt : k < 16
    · have w1 : wrap64 (16 * (k : Int)) = 16 * (k : Int) := IntWalk.wrap64_in _ (by omega)
      have w2 : wrap64 (16 * (k : Int) + 10) = 16 * (k : Int) + 10 := IntWalk.wrap64_in _ (by omega)
      have w3 : wrap64 ((16 * (k : Int) + 10) * 257) = (16 * (k : Int) + 10) * 257 := IntWalk.wrap64_in _ (by omega)
      by_cases hc : c = (16 * (k : Int) + 10) * 257
      · have hg : gr c = true := by unfold gr; simp; omega
        have hb : (c == (16 * (k : Int) + 10) * 257) = true := by simp [hc]
        clear hc
        go_wp2_with fail
        go_ret
        exact ⟨by rw [hg]; rfl, rfl⟩
      · have hb : (c == (16 * (k : Int) + 10) * 257) = false := by simpa using hc
        go_wp2_with fail
        go_roundw
        case rel => exact ⟨k + 1, by omega, rfl, trivial, fun j hj => if h : j = k then h ▸ hc else hn j (by omega)⟩
        case measure => simp [intOf]; omega
    · have hg : gr c = false := by
        unfold gr
        simp only [decide_eq_false_iff_not]
        rintro ⟨h0, h1, h2⟩
        exact hn (c / 4112).toNat (by omega) (by omega)
      go_wp2_with fail
      go_ret
      exact ⟨by rw [hg]; rfl, rfl⟩

set_option maxRecDepth 100000 in
set_option maxHeartbeats 2000000 in
/-- The document's own Name. -/
theorem rname_any (w : World) (k : Int) (c : Int) : Calls Try.prog 7 #[.int .i64 k, .int .i64 c] w fun e w' => e = .returned (.tuple #[.string (nmS (cdOf k c)), .bool (cdOf k c).isSome]) ∧ Below w.heap.size w w' := by
  have hl := rcds_any w k
  by_cases hk : cds k = []
  · have hf : cdOf k c = none := by unfold cdOf; rw [hk]; rfl
    rw [hk, cdSlice, if_pos rfl, cdOut, if_pos rfl] at hl
    rw [hf]
    go_enter Try.func7, Try.ntmps7
    go_wp2_with fail
    refine hl.mono ?_
    rintro e w' ⟨rfl, rfl⟩
    go_wp2_with fail
    go_loopw [7] (fun i wr => i = .int .i64 0 ∧ wr = w') (fun _ _ => 0)
    case atStart => exact ⟨rfl, rfl⟩
    case round =>
      obtain ⟨rfl, rfl⟩ := hrel
      go_wp2_with fail
      go_ret2
      exact ⟨rfl, Below.refl _ _⟩
  · obtain ⟨xs, hxs⟩ : ∃ xs, cds k = xs := ⟨_, rfl⟩
    obtain ⟨L, hL⟩ : ∃ L, xs.length = L := ⟨_, rfl⟩
    have hB := cdOut_below w 36 (cds k)
    obtain ⟨p, hp⟩ : ∃ p, w.heap.size = p := ⟨_, rfl⟩
    have h22 : L ≤ 22 := by rw [← hL, ← hxs]; exact cds_len k
    have hwh := cdOut_whole w 36 (cds k) hk
    have hcd : cdOf k c = xs.find? fun x => decide (x.1 = c) := by rw [← hxs]; rfl
    rw [hxs] at hl hwh hk hB
    obtain ⟨W1, hW1⟩ : ∃ W1, cdOut w 36 xs = W1 := ⟨_, rfl⟩
    rw [hW1] at hl hwh hB
    rw [hp] at hwh hl hB ⊢
    rw [cdSlice, if_neg hk, hL] at hl
    clear hW1 hxs
    have HB := Lib.hid hB
    clear hB
    go_enter Try.func7, Try.ntmps7
    go_wp2_with fail
    refine hl.mono ?_
    rintro e w' ⟨rfl, rfl⟩
    go_wp2_with fail
    go_loopw [7] (fun i wr => ∃ j : Nat, j ≤ L ∧ i = .int .i64 j ∧ wr = w' ∧ ∀ y ∈ xs.take j, y.1 ≠ c) (fun i _ => L - (intOf i).toNat)
    case atStart => exact ⟨0, Nat.zero_le _, rfl, rfl, by simp⟩
    case round =>
      obtain ⟨j, hj, rfl, rfl, hn⟩ := hrel
      by_cases hlt : j < L
      · obtain ⟨x, hx⟩ : ∃ x, xs[j]? = some x := ⟨_, List.getElem?_eq_getElem (by omega)⟩
        obtain ⟨c0, c1⟩ := cdCells_0 xs j x hx
        have m0 : wr.cell? ⟨p, j * 2, none⟩ = some (.int .i64 x.1) := by rw [hwh.cell, Nat.mul_comm]; simpa using c0
        have m1 : wr.cell? ⟨p, j * 2 + 1, none⟩ = some (.string x.2) := by rw [hwh.cell, Nat.mul_comm]; simpa using c1
        have hnext : xs.take (j + 1) = xs.take j ++ [x] := by rw [List.take_add_one, hx]; rfl
        clear c0 c1
        by_cases hxc : x.1 = c
        · have hf : cdOf k c = some x := by rw [hcd]; exact find_hit (by rw [← hnext]; exact List.take_prefix _ _) (fun y hy => by simpa using hn y hy) (by simpa using hxc)
          have hb : (x.1 == c) = true := by simpa using hxc
          go_wp2_with fail
          go_ret2
          exact ⟨by rw [hf]; rfl, HB.out⟩
        · have hb : (x.1 == c) = false := by simpa using hxc
          go_wp2_with fail
          go_roundw
          case rel => exact ⟨j + 1, by omega, rfl, trivial, by rw [hnext]; exact fun y hy => (List.mem_append.1 hy).elim (hn y) (fun e => by simp at e; subst e; exact hxc)⟩
          case measure => simp [intOf]; omega
      · obtain rfl : j = L := by omega
        have hf : cdOf k c = none := by rw [hcd]; exact find_miss (fun y hy => by rw [← hL, List.take_length] at hn; simpa using hn y hy)
        go_wp2_with fail
        go_ret2
        exact ⟨by rw [hf]; rfl, HB.out⟩

set_option maxRecDepth 100000 in
set_option maxHeartbeats 2000000 in
/-- The document's own Code. -/
theorem rcode_any (w : World) (k : Int) (c : ByteArray) : Calls Try.prog 9 #[.int .i64 k, .string c] w fun e w' => e = .returned (.tuple #[.int .i64 (nmC (cdBy k c)), .bool (cdBy k c).isSome]) ∧ Below w.heap.size w w' := by
  have hl := rcds_any w k
  by_cases hk : cds k = []
  · have hf : cdBy k c = none := by unfold cdBy; rw [hk]; rfl
    rw [hk, cdSlice, if_pos rfl, cdOut, if_pos rfl] at hl
    rw [hf]
    go_enter Try.func9, Try.ntmps9
    go_wp2_with fail
    refine hl.mono ?_
    rintro e w' ⟨rfl, rfl⟩
    go_wp2_with fail
    go_loopw [7] (fun i wr => i = .int .i64 0 ∧ wr = w') (fun _ _ => 0)
    case atStart => exact ⟨rfl, rfl⟩
    case round =>
      obtain ⟨rfl, rfl⟩ := hrel
      go_wp2_with fail
      go_ret2
      exact ⟨rfl, Below.refl _ _⟩
  · obtain ⟨xs, hxs⟩ : ∃ xs, cds k = xs := ⟨_, rfl⟩
    obtain ⟨L, hL⟩ : ∃ L, xs.length = L := ⟨_, rfl⟩
    have hB := cdOut_below w 36 (cds k)
    obtain ⟨p, hp⟩ : ∃ p, w.heap.size = p := ⟨_, rfl⟩
    have h22 : L ≤ 22 := by rw [← hL, ← hxs]; exact cds_len k
    have hwh := cdOut_whole w 36 (cds k) hk
    have hcd : cdBy k c = xs.find? fun x => decide (x.2 = c) := by rw [← hxs]; rfl
    rw [hxs] at hl hwh hk hB
    obtain ⟨W1, hW1⟩ : ∃ W1, cdOut w 36 xs = W1 := ⟨_, rfl⟩
    rw [hW1] at hl hwh hB
    rw [hp] at hwh hl hB ⊢
    rw [cdSlice, if_neg hk, hL] at hl
    clear hW1 hxs
    have HB := Lib.hid hB
    clear hB
    go_enter Try.func9, Try.ntmps9
    go_wp2_with fail
    refine hl.mono ?_
    rintro e w' ⟨rfl, rfl⟩
    go_wp2_with fail
    go_loopw [7] (fun i wr => ∃ j : Nat, j ≤ L ∧ i = .int .i64 j ∧ wr = w' ∧ ∀ y ∈ xs.take j, y.2 ≠ c) (fun i _ => L - (intOf i).toNat)
    case atStart => exact ⟨0, Nat.zero_le _, rfl, rfl, by simp⟩
    case round =>
      obtain ⟨j, hj, rfl, rfl, hn⟩ := hrel
      by_cases hlt : j < L
      · obtain ⟨x, hx⟩ : ∃ x, xs[j]? = some x := ⟨_, List.getElem?_eq_getElem (by omega)⟩
        obtain ⟨c0, c1⟩ := cdCells_0 xs j x hx
        have m0 : wr.cell? ⟨p, j * 2, none⟩ = some (.int .i64 x.1) := by rw [hwh.cell, Nat.mul_comm]; simpa using c0
        have m1 : wr.cell? ⟨p, j * 2 + 1, none⟩ = some (.string x.2) := by rw [hwh.cell, Nat.mul_comm]; simpa using c1
        have hnext : xs.take (j + 1) = xs.take j ++ [x] := by rw [List.take_add_one, hx]; rfl
        clear c0 c1
        by_cases hxc : x.2 = c
        · have hf : cdBy k c = some x := by rw [hcd]; exact find_hit (by rw [← hnext]; exact List.take_prefix _ _) (fun y hy => by simpa using hn y hy) (by simpa using hxc)
          have hb : (x.2.toList == c.toList) = true := by rw [hxc]; exact beq_self_eq_true _
          go_wp2_with fail
          go_ret2
          exact ⟨by rw [hf]; rfl, HB.out⟩
        · have hb : (x.2.toList == c.toList) = false := beq_eq_false_iff_ne.2 (list_ne hxc)
          go_wp2_with fail
          go_roundw
          case rel => exact ⟨j + 1, by omega, rfl, trivial, by rw [hnext]; exact fun y hy => (List.mem_append.1 hy).elim (hn y) (fun e => by simp at e; subst e; exact hxc)⟩
          case measure => simp [intOf]; omega
      · obtain rfl : j = L := by omega
        have hf : cdBy k c = none := by rw [hcd]; exact find_miss (fun y hy => by rw [← hL, List.take_length] at hn; simpa using hn y hy)
        go_wp2_with fail
        go_ret2
        exact ⟨by rw [hf]; rfl, HB.out⟩
end Go.Proofs.Ytdklkffodhcmfaa

