/- What is put is read, whatever stands behind it; cut off it is told so (of plain lists). -/
import Derived.Test.YtbeknillegkidaaDoorPf
namespace Go.Proofs.YtbeknillegkidaaDoor
open Go.RowKit

theorem lenB_split {n : Nat} (h0 : ¬ n < 128) (h1 : n < 16777216) : ∃ t, lenB n = .ofNat (128 + nd n) :: t ∧ t.length = nd n ∧ bval t = n ∧ 0 < nd n := by
  unfold lenB nd
  rw [if_neg h0, if_neg h0]
  by_cases g1 : n < 256
  · rw [if_pos g1, if_pos g1]
    exact ⟨[.ofNat n], rfl, rfl, by simp [bval]; omega, by omega⟩
  · rw [if_neg g1, if_neg g1]
    by_cases g2 : n < 65536
    · rw [if_pos g2, if_pos g2]
      exact ⟨[.ofNat (n / 256), .ofNat (n % 256)], rfl, rfl, by simp [bval]; omega, by omega⟩
    · rw [if_neg g2, if_neg g2]
      exact ⟨[.ofNat (n / 65536), .ofNat (n / 256 % 256), .ofNat (n % 256)], rfl, rfl, by simp [bval]; omega, by omega⟩
/-- The first byte of a head that there is tells it. -/
theorem fb_tells {c t : Int} {m : Bool} (hk : kd c t m = true) : hdC (.ofNat (fb c t m)) = c ∧ hdT (.ofNat (fb c t m)) = t ∧ hdM (.ofNat (fb c t m)) = m := by
  obtain ⟨hc, ht0, ht1⟩ := kd_bounds hk
  obtain ⟨k, rfl⟩ := Int.eq_ofNat_of_zero_le ht0
  have hk31 : k < 31 := by omega
  have key : ∀ k, k < 31 → ∀ m, (hdC (.ofNat (fb 0 (k : Nat) m)) = 0 ∧ hdT (.ofNat (fb 0 (k : Nat) m)) = (k : Nat) ∧ hdM (.ofNat (fb 0 (k : Nat) m)) = m) ∧ (hdC (.ofNat (fb 2 (k : Nat) m)) = 2 ∧ hdT (.ofNat (fb 2 (k : Nat) m)) = (k : Nat) ∧ hdM (.ofNat (fb 2 (k : Nat) m)) = m) := by decide +kernel
  rcases hc with rfl | rfl
  · exact (key k hk31 m).1
  · exact (key k hk31 m).2
theorem rdH_put (h : Hd) (hk : kd h.c h.t h.m = true) (hl : 0 ≤ h.l ∧ h.l ≤ 16777215) (zs : List UInt8) : rdH (putH h ++ zs) = (h, (putH h).length, 0) := by
  obtain ⟨c, t, m, l⟩ := h
  dsimp only at hk hl
  obtain ⟨n, rfl⟩ := Int.eq_ofNat_of_zero_le hl.1
  obtain ⟨e1, e2, e3⟩ := fb_tells hk
  have ep : putH ⟨c, t, m, (n : Int)⟩ = .ofNat (fb c t m) :: lenB n := by show _ :: lenB ((n : Int)).toNat = _; rw [Int.toNat_natCast]
  rw [ep, List.cons_append, rdH_rl _ _ (by rw [e1, e2, e3]; exact hk), e1, e2, e3]
  have er : rl (lenB n ++ zs) = (n, 1 + (lenB n).length, 0) := by
    by_cases h0 : n < 128
    · rw [lenB_low h0]
      have hb : (UInt8.ofNat n).toNat = n := by simp; omega
      unfold rl
      simp only [List.cons_append, List.nil_append, hb]
      rw [if_pos h0]
      rfl
    · obtain ⟨t', et, hlen, hbv, hpos⟩ := lenB_split h0 (by omega)
      have h3 := nd_le n
      have hb : (UInt8.ofNat (128 + nd n)).toNat = 128 + nd n := by simp; omega
      rw [et]
      unfold rl
      simp only [List.cons_append, hb]
      have ek : 128 + nd n - 128 = nd n := by omega
      have etk : (t' ++ zs).take (nd n) = t' := by rw [← hlen]; exact List.take_left
      rw [if_neg (by omega), if_neg (by omega), ek, if_neg (by rw [List.length_append]; omega), etk, hbv, if_neg (by omega)]
      simp
      omega
  rw [er]
  simp
  omega
theorem rdH_cut (h : Hd) (hk : kd h.c h.t h.m = true) (hl : 0 ≤ h.l ∧ h.l ≤ 16777215) (i : Nat) (hi : i < (putH h).length) : rdH ((putH h).take i) = (.z, i, 4) := by
  obtain ⟨c, t, m, l⟩ := h
  dsimp only at hk hl
  obtain ⟨n, rfl⟩ := Int.eq_ofNat_of_zero_le hl.1
  obtain ⟨e1, e2, e3⟩ := fb_tells hk
  have ep : putH ⟨c, t, m, (n : Int)⟩ = .ofNat (fb c t m) :: lenB n := by show _ :: lenB ((n : Int)).toNat = _; rw [Int.toNat_natCast]
  rw [ep] at hi ⊢
  cases i with
  | zero => rfl
  | succ i =>
    rw [List.take_succ_cons]
    have hkk : kd (hdC (.ofNat (fb c t m))) (hdT (.ofNat (fb c t m))) (hdM (.ofNat (fb c t m))) = true := by rw [e1, e2, e3]; exact hk
    cases i with
    | zero => rw [List.take_zero]; exact rdH_one hkk
    | succ i =>
      have h0 : ¬ n < 128 := by
        intro h0
        rw [lenB_low h0] at hi
        simp at hi
        omega
      obtain ⟨t', et, hlen, hbv, hpos⟩ := lenB_split h0 (by omega)
      have h3 := nd_le n
      have hb : (UInt8.ofNat (128 + nd n)).toNat = 128 + nd n := by simp; omega
      rw [et] at hi ⊢
      simp only [List.length_cons] at hi
      rw [List.take_succ_cons, rdH_few hkk (by rw [hb]; omega) (by rw [hb]; omega) (by rw [hb, List.length_take]; omega)]
      rw [List.length_take, Nat.min_eq_left (by omega)]
theorem putH_len (h : Hd) : 2 ≤ (putH h).length ∧ (putH h).length ≤ 5 := by
  have h3 := nd_le h.l.toNat
  have := lenB_length h.l.toNat
  simp only [putH, List.length_cons]
  omega
end Go.Proofs.YtbeknillegkidaaDoor

