/- Contracts of the reference's cursor. -/
import Derived.Test.YthdgfhjehijmoaaAll
namespace Go.Proofs.Ythdgfhjehijmoaa
open Go.RowKit

/-- The reference's cursor in block m: the bytes xs, below B; its base; how many are behind it. -/
def Rc (w : World) (m B : Nat) (xs : List UInt8) (base : Int) (i : Nat) : Prop :=
  B ≤ m ∧ i ≤ xs.length ∧ ∃ A c, Whole w m #[.slice A xs.length c, .int .i64 base, .int .i64 i] 30 ∧ xs.length ≤ c ∧ c ≤ 140737488351232 ∧ Byt w B A xs

theorem Rc.lt {w : World} {m B : Nat} {xs : List UInt8} {base : Int} {i : Nat} (h : Rc w m B xs base i) : m < w.heap.size := by
  obtain ⟨_, _, A, c, h, _⟩ := h
  exact h.lt
theorem Rc.grew {w w' : World} {m B : Nat} {xs : List UInt8} {base : Int} {i : Nat} {row : Option Nat} (h : Rc w m B xs base i) (g : Grew w w' row) (h1 : some m ≠ row) (h2 : ∀ k, row = some k → B ≤ k) : Rc w' m B xs base i := by
  obtain ⟨hB, h0, A, c, h, hl, hc, hb⟩ := h
  exact ⟨hB, h0, A, c, h.grew g h1, hl, hc, hb.grew g h2⟩
theorem Rc.drewN {w : World} {m B : Nat} {xs : List UInt8} {base : Int} {i : Nat} (h : Rc w m B xs base i) (n : Nat) : Rc (w.drewN n) m B xs base i := h

set_option maxHeartbeats 1000000 in
theorem rtake_ok (w : World) (m : Nat) (A : Option Addr) (n c i k : Nat) (base : Int) (h : Whole w m #[.slice A n c, .int .i64 base, .int .i64 i] 30) (hk : i + k ≤ n) (hn : n ≤ c) (hc : c ≤ 140737488351232) :
    Calls Try.prog 15 #[.pointer (some ⟨m, 0, none⟩), .int .i64 k] w fun e w' => e = .returned (.tuple #[.slice (cutAt A c i) k (c - i), .int .i64 0]) ∧
      Whole w' m #[.slice A n c, .int .i64 base, .int .i64 ((i + k : Nat) : Int)] 30 ∧ Grew w w' (some m) := by
  have h0 := h.cell 0
  have h2 := h.cell 2
  have f2 := h.frozen 2
  simp at h0 h2
  have H := Lib.hid h
  clear h
  have p0 : ¬ ((k : Int) < 0) := by omega
  have p1 : ¬ ((n : Int) - i < k) := by omega
  have p2 : IntKind.i64.wrap ((n : Int) - i) = (n : Int) - i := IntWalk.i64_in _ (by omega)
  have p3 : IntKind.i64.wrap ((i : Int) + k - k) = (i : Int) := by rw [show ((i : Int) + k - k) = i from by omega]; exact IntWalk.i64_in _ (by omega)
  have p4 : ∀ W : World, (Instr.slice 22 (.slice A n c) (some (.int .i64 (i : Int))) (some (.int .i64 ((i : Int) + k))) none).run Try.prog W = .ok (.slice (cutAt A c i) k (c - i)) W := by
    intro W
    have := slice_run W A n c i (i + k) (by omega) (by omega)
    rw [show ((i + k : Nat) : Int) = (i : Int) + k from by omega, show i + k - i = k from by omega] at this
    exact this
  go_enter Try.func15, Try.ntmps15
  go_wp2_with fail
  go_quiet (fail)
  go_wp2_with fail
  have hW : Whole ((w.drewN nq).setCell ⟨m, 2, none⟩ (.int .i64 ((i : Int) + k))) m #[.slice A n c, .int .i64 base, .int .i64 ((i : Int) + k)] 30 := by
    have := Whole.set (w := w.drewN nq) H.out 2 (.int .i64 ((i : Int) + k))
    simpa using this
  have hG : Grew w ((w.drewN nq).setCell ⟨m, 2, none⟩ (.int .i64 ((i : Int) + k))) (some m) := grew_set (grew_drewN (grew_refl _ _) nq) _ _ _
  clear h0 h2 f2 p2
  generalize (w.drewN nq).setCell ⟨m, 2, none⟩ (.int .i64 ((i : Int) + k)) = W1 at *
  have h0 := hW.cell 0
  have h2 := hW.cell 2
  simp at h0 h2
  have HW := Lib.hid hW
  clear hW
  go_quiet (fail)
  go_wp2_with fail
  go_ret2
  refine ⟨rfl, ?_, grew_drewN hG _⟩
  rw [show ((i + k : Nat) : Int) = (i : Int) + k from by omega]
  exact HW.out

set_option maxHeartbeats 1000000 in
theorem rtake_short (w : World) (m : Nat) (A : Option Addr) (n c i : Nat) (k : Int) (base : Int) (h : Whole w m #[.slice A n c, .int .i64 base, .int .i64 i] 30) (hi : i ≤ n) (hk : (n : Int) - i < k) (hn : n ≤ c) (hc : c ≤ 140737488351232) :
    Calls Try.prog 15 #[.pointer (some ⟨m, 0, none⟩), .int .i64 k] w fun e w' => e = .returned (.tuple #[.slice none 0 0, .int .i64 4]) ∧ ∃ q, w' = w.drewN q := by
  have h0 := h.cell 0
  have h2 := h.cell 2
  simp at h0 h2
  clear h
  have p0 : ¬ (k < 0) := by omega
  have p2 : IntKind.i64.wrap ((n : Int) - i) = (n : Int) - i := IntWalk.i64_in _ (by omega)
  go_enter Try.func15, Try.ntmps15
  go_wp2_with fail
  go_quiet (fail)
  go_wp2_with fail
  go_ret2
  exact ⟨rfl, _, rfl⟩

set_option maxHeartbeats 1000000 in
theorem rtake_arg (w : World) (m : Nat) (k : Int) (hk : k < 0) :
    Calls Try.prog 15 #[.pointer (some ⟨m, 0, none⟩), .int .i64 k] w fun e w' => e = .returned (.tuple #[.slice none 0 0, .int .i64 2]) ∧ w = w' := by
  go_enter Try.func15, Try.ntmps15
  go_wp2_with fail
  go_ret2
  exact ⟨rfl, rfl⟩

theorem rc_take_all (w : World) (m B : Nat) (xs : List UInt8) (base : Int) (i : Nat) (h : Rc w m B xs base i) (n : Int) :
    Calls Try.prog 15 #[.pointer (some ⟨m, 0, none⟩), .int .i64 n] w fun e w' => ∃ A' c', e = .returned (.tuple #[.slice A' (tkM (xs.length - i) n) c', .int .i64 (tkE (xs.length - i) n)]) ∧
      Rc w' m B xs base (i + tkM (xs.length - i) n) ∧ Byt w' B A' ((xs.drop i).take (tkM (xs.length - i) n)) ∧ tkM (xs.length - i) n ≤ c' ∧ Grew w w' (some m) := by
  obtain ⟨hB, hi, A, c, h, hl, hc, hb⟩ := h
  by_cases h1 : n < 0
  · have e1 : tkM (xs.length - i) n = 0 := by simp [tkM, h1]
    have e2 : tkE (xs.length - i) n = 2 := by simp [tkE, h1]
    rw [e1, e2]
    refine (rtake_arg w m n h1).mono ?_
    rintro e w' ⟨rfl, rfl⟩
    exact ⟨none, 0, rfl, ⟨hB, hi, A, c, h, hl, hc, hb⟩, fun h => by simp at h, Nat.le_refl _, grew_refl _ _⟩
  · by_cases h2 : ((xs.length - i : Nat) : Int) < n
    · have e1 : tkM (xs.length - i) n = 0 := by simp [tkM, h1, h2]
      have e2 : tkE (xs.length - i) n = 4 := by simp [tkE, h1, h2]
      rw [e1, e2]
      refine (rtake_short w m A _ c i n base h hi (by omega) hl hc).mono ?_
      rintro e w' ⟨rfl, q, rfl⟩
      exact ⟨none, 0, rfl, ⟨hB, hi, A, c, h, hl, hc, hb⟩, fun h => by simp at h, Nat.le_refl _, grew_drewN (grew_refl _ _) q⟩
    · have e2 : tkE (xs.length - i) n = 0 := by simp [tkE, h1, h2]
      have e1 : tkM (xs.length - i) n = n.toNat := by simp [tkM, h1, h2]
      obtain ⟨k, rfl⟩ := Int.eq_ofNat_of_zero_le (a := n) (by omega)
      rw [e1, e2, Int.toNat_natCast]
      refine (rtake_ok w m A _ c i k base h (by omega) hl hc).mono ?_
      rintro e w' ⟨rfl, h', g⟩
      have hb' := hb.grew g (fun q hq => by cases hq; exact hB)
      exact ⟨_, _, rfl, ⟨hB, by omega, A, c, h', hl, hc, hb'⟩, (hb'.drop hl).take k, by omega, g⟩

set_option maxHeartbeats 1000000 in
theorem size_yes (w : World) (k : Int) (hk : sizeOk k) : Calls Try.prog 22 #[.int .i64 k] w fun e w' => e = .returned (.bool true) ∧ w = w' := by
  rcases hk with rfl | rfl | rfl | rfl | rfl
  all_goals
    go_enter Try.func22, Try.ntmps22
    go_wp2
    go_ret
    exact ⟨rfl, rfl⟩

set_option maxHeartbeats 1000000 in
theorem size_no (w : World) (k : Int) (hk : ¬ sizeOk k) : Calls Try.prog 22 #[.int .i64 k] w fun e w' => e = .returned (.bool false) ∧ w = w' := by
  unfold sizeOk at hk
  have h1 : (k == 1) = false := by simp; omega
  have h2 : (k == 2) = false := by simp; omega
  have h3 : (k == 3) = false := by simp; omega
  have h4 : (k == 4) = false := by simp; omega
  have h8 : (k == 8) = false := by simp; omega
  clear hk
  go_enter Try.func22, Try.ntmps22
  go_wp2
  go_ret
  exact ⟨rfl, rfl⟩

set_option maxHeartbeats 1000000 in
theorem rnum_any (w : World) (B : Nat) (A : Option Addr) (ys : List UInt8) (c : Nat) (hb : Byt w B A ys) (hl : ys.length ≤ 8) :
    Calls Try.prog 23 #[.slice A ys.length c] w fun e w' => e = .returned (.int .u64 (num ys)) ∧ w = w' := by
  have Hb := Lib.hid hb
  clear hb
  go_enter Try.func23, Try.ntmps23
  go_wp2_with fail
  go_loop [3, 4] (fun x i => ∃ j : Nat, j ≤ ys.length ∧ i = .int .i64 j ∧ x = .int .u64 (num (ys.take j))) (fun _ i => ys.length - (intOf i).toNat)
  case atStart => exact ⟨0, Nat.zero_le _, rfl, rfl⟩
  case round =>
    obtain ⟨j, hj, rfl, rfl⟩ := hrel
    by_cases hlt : j < ys.length
    · obtain ⟨b, o, rfl, _, hcell⟩ := Hb.out (by omega)
      have hcj := hcell j hlt
      have hb1 := num_bound ys j (by omega)
      have hb2 := byte_lt ys j
      have HS := Lib.hid (num_step ys j hlt)
      clear hcell
      generalize (ys.getD j 0).toNat = b at *
      go_wp2
      go_round
      case rel => exact ⟨j + 1, by omega, by go_num, by rw [HS.out]; go_num⟩
      case measure => simp [intOf]; omega
    · obtain rfl : j = ys.length := by omega
      go_wp2
      go_ret
      exact ⟨rfl, rfl⟩

set_option maxHeartbeats 1000000 in
theorem rc_number_all (w : World) (m B : Nat) (xs : List UInt8) (base : Int) (i : Nat) (h : Rc w m B xs base i) (n : Int) :
    Calls Try.prog 13 #[.pointer (some ⟨m, 0, none⟩), .int .i64 n] w fun e w' => e = .returned (.tuple #[.int .u64 (nmX (xs.drop i) n), .int .i64 (nmE (xs.length - i) n)]) ∧
      Rc w' m B xs base (i + nmM (xs.length - i) n) ∧ Grew w w' (some m) := by
  have hl : (xs.drop i).length = xs.length - i := List.length_drop
  by_cases h1 : sizeOk n
  · have e1 : nmM (xs.length - i) n = tkM (xs.length - i) n := by
      have : ¬ n < 0 := by unfold sizeOk at h1; omega
      simp [nmM, tkM, h1, this]
    have e2 : nmE (xs.length - i) n = tkE (xs.length - i) n := by
      have : ¬ n < 0 := by unfold sizeOk at h1; omega
      simp [nmE, tkE, h1, this]
    have e3 : nmX (xs.drop i) n = num ((xs.drop i).take (tkM (xs.length - i) n)) := by
      have : ¬ n < 0 := by unfold sizeOk at h1; omega
      unfold nmX tkM
      rw [if_pos h1, if_neg this, hl]
      split
      · simp [num]
      · rfl
    have hle : tkM (xs.length - i) n ≤ 8 := by
      unfold tkM; unfold sizeOk at h1
      split
      · omega
      · split <;> omega
    have hlen : ((xs.drop i).take (tkM (xs.length - i) n)).length = tkM (xs.length - i) n := by
      have := tkM_le (xs.length - i) n
      rw [List.length_take, hl]; omega
    rw [e1, e2, e3]
    have H := Lib.hid h
    have H1 := Lib.hid h1
    have HL := Lib.hid hlen
    have hct := rc_take_all w m B xs base i h n
    have HC := Lib.hid hct
    clear h h1 hct hlen e1 e2 e3 hl
    generalize tkE (xs.length - i) n = E at *
    generalize tkM (xs.length - i) n = M at *
    go_enter Try.func13, Try.ntmps13
    go_wp2_with fail
    refine (size_yes w n H1.out).mono ?_
    rintro e w1 ⟨rfl, rfl⟩
    go_wp2_with fail
    refine HC.out.mono ?_
    rintro e w1 ⟨A', c', rfl, h1, b1, l1, g1⟩
    have hcn := rnum_any w1 B A' _ c' b1 (by rw [HL.out]; exact hle)
    rw [HL.out] at hcn
    have HN := Lib.hid hcn
    have H2 := Lib.hid h1
    clear hcn h1 b1
    go_wp2_with fail
    refine HN.out.mono ?_
    rintro e w2 ⟨rfl, rfl⟩
    go_wp2_with fail
    go_ret2
    exact ⟨rfl, H2.out, g1⟩
  · have e1 : nmM (xs.length - i) n = 0 := by simp [nmM, h1]
    have e2 : nmE (xs.length - i) n = 2 := by simp [nmE, h1]
    have e3 : nmX (xs.drop i) n = 0 := by simp [nmX, h1]
    rw [e1, e2, e3]
    have H := Lib.hid h
    have H1 := Lib.hid h1
    clear h h1 e1 e2 e3 hl
    go_enter Try.func13, Try.ntmps13
    go_wp2_with fail
    refine (size_no w n H1.out).mono ?_
    rintro e w1 ⟨rfl, rfl⟩
    go_wp2_with fail
    go_ret2
    exact ⟨rfl, H.out, grew_refl _ _⟩

/-- What Sub tells: a cursor, or none. -/
theorem cr_sub_all (w : World) (p B : Nat) (ys : List UInt8) (a : Int) (h : Cr w p B ys a) (n : Int) :
    Calls Try.prog 16 #[.pointer (some ⟨p, 0, none⟩), .int .i64 n] w fun e w' => ∃ S, e = .returned (.tuple #[.pointer S, .int .i64 (tkE ys.length n)]) ∧
      Cr w' p B (ys.drop (tkM ys.length n)) (a + tkM ys.length n) ∧ Grew w w' (some p) ∧ (tkE ys.length n ≠ 0 → S = none) ∧
      (tkE ys.length n = 0 → S = some ⟨w.heap.size, 0, none⟩ ∧ Cr w' w.heap.size B (ys.take (tkM ys.length n)) a) := by
  by_cases h1 : n < 0
  · have e1 : tkM ys.length n = 0 := by simp [tkM, h1]
    have e2 : tkE ys.length n = 2 := by simp [tkE, h1]
    rw [e1, e2]
    refine (cr_sub_arg w p B ys a h n h1).mono ?_
    rintro e w' ⟨rfl, rfl⟩
    exact ⟨none, rfl, by simpa using h, grew_refl _ _, fun _ => rfl, fun h => by omega⟩
  · by_cases h2 : (ys.length : Int) < n
    · have e1 : tkM ys.length n = 0 := by simp [tkM, h1, h2]
      have e2 : tkE ys.length n = 4 := by simp [tkE, h1, h2]
      rw [e1, e2]
      refine (cr_sub_short w p B ys a h n h2).mono ?_
      rintro e w' ⟨rfl, rfl⟩
      exact ⟨none, rfl, by simpa using h, grew_refl _ _, fun _ => rfl, fun h => by omega⟩
    · have e2 : tkE ys.length n = 0 := by simp [tkE, h1, h2]
      have e1 : tkM ys.length n = n.toNat := by simp [tkM, h1, h2]
      obtain ⟨k, rfl⟩ := Int.eq_ofNat_of_zero_le (a := n) (by omega)
      rw [e1, e2, Int.toNat_natCast]
      refine (cr_sub w p B ys a h k (by omega)).mono ?_
      rintro e w' ⟨rfl, h', h'', g, s⟩
      exact ⟨_, rfl, h', g, fun h => by omega, fun _ => ⟨rfl, h''⟩⟩

end Go.Proofs.Ythdgfhjehijmoaa
