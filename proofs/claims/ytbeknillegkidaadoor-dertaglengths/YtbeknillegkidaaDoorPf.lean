/- A length's bytes, as numbers; what a head's reading tells, without its bytes: the program's way and the chapter's are one. -/
import Derived.Test.YtbeknillegkidaaDoorPa
namespace Go.Proofs.YtbeknillegkidaaDoor
open Go.RowKit

theorem bval_snoc (xs : List UInt8) (x : UInt8) : bval (xs ++ [x]) = 256 * bval xs + x.toNat := by simp [bval]
theorem bval_lt (xs : List UInt8) : bval xs < 256 ^ xs.length := by
  have : ∀ (n : Nat) (xs : List UInt8), xs.length = n → bval xs < 256 ^ n := by
    intro n
    induction n with
    | zero => intro xs h; obtain rfl := List.eq_nil_of_length_eq_zero h; simp [bval]
    | succ n ih =>
      intro xs h
      have hne : xs ≠ [] := fun e => by rw [e] at h; simp at h
      obtain ⟨ys, y, rfl⟩ : ∃ ys y, xs = ys ++ [y] := ⟨xs.dropLast, xs.getLast hne, (List.dropLast_concat_getLast hne).symm⟩
      rw [bval_snoc]
      have h1 := ih ys (by simpa using h)
      have h2 := y.toNat_lt
      rw [Nat.pow_succ]
      omega
  exact this _ xs rfl
theorem bval_take {s : List UInt8} {j : Nat} (h : j < s.length) : bval (s.take (j + 1)) = 256 * bval (s.take j) + (s.getD j 0).toNat := by
  rw [List.take_add_one, List.getElem?_eq_getElem h, Option.toList_some, bval_snoc, List.getD_eq_getElem?_getD, List.getElem?_eq_getElem h]
  rfl

/-- A list is another's beginning if all its places agree. -/
theorem pre_iff (xs ys : List UInt8) : (xs <+: ys) ↔ ∀ i, i < xs.length → i < ys.length ∧ xs.getD i 0 = ys.getD i 0 := by
  constructor
  · rintro ⟨t, rfl⟩ i hi
    refine ⟨by simp; omega, ?_⟩
    rw [List.getD_eq_getElem?_getD, List.getD_eq_getElem?_getD, List.getElem?_append_left hi]
  · intro h
    rw [List.prefix_iff_eq_take]
    apply List.ext_getElem?
    intro i
    by_cases hi : i < xs.length
    · obtain ⟨h1, h2⟩ := h i hi
      rw [List.getElem?_take_of_lt hi, List.getElem?_eq_getElem hi, List.getElem?_eq_getElem h1]
      rw [List.getD_eq_getElem?_getD, List.getD_eq_getElem?_getD, List.getElem?_eq_getElem hi, List.getElem?_eq_getElem h1] at h2
      simpa using h2
    · rw [List.getElem?_eq_none (by omega), List.getElem?_eq_none (by rw [List.length_take]; omega)]


/-- The length behind a head's first byte: what the program's own reading answers of the bytes behind it. -/
def rl (r : List UInt8) : Nat × Nat × Int :=
  match r with
  | [] => (0, 1, 4)
  | b :: s =>
    if b.toNat < 128 then (b.toNat, 2, 0)
    else if b.toNat = 128 ∨ 131 < b.toNat then (0, 1, 13)
    else if s.length < b.toNat - 128 then (0, s.length + 2, 4)
    else if nd (bval (s.take (b.toNat - 128))) < b.toNat - 128 then (0, 1, 13)
    else (bval (s.take (b.toNat - 128)), 2 + (b.toNat - 128), 0)

theorem lenB_low {n : Nat} (h : n < 128) : lenB n = [.ofNat n] := by unfold lenB; rw [if_pos h]
theorem nd_pow {n k : Nat} (h : n < 256 ^ k) (hk : k ≤ 3) : nd n ≤ k := by
  have : k = 0 ∨ k = 1 ∨ k = 2 ∨ k = 3 := by omega
  unfold nd
  rcases this with rfl | rfl | rfl | rfl
  · split
    · omega
    · simp at h; omega
  · simp at h
    split
    · omega
    · simp
  · simp at h
    split
    · omega
    · split
      · omega
      · simp
  · split
    · omega
    · split
      · omega
      · split <;> omega
theorem u8_eq (x y : UInt8) (h : x.toNat = y.toNat) : x = y := UInt8.toNat_inj.1 h
theorem u8_of (x : UInt8) (n : Nat) (h : x.toNat = n) : UInt8.ofNat n = x := by rw [← h]; simp
/-- So many bytes as a number needs are its own. -/
theorem lenB_take (s : List UInt8) (k : Nat) (hk : k ≤ s.length) (hn : nd (bval (s.take k)) = k) (h0 : 0 < k) : lenB (bval (s.take k)) = .ofNat (128 + k) :: s.take k := by
  have h3 := nd_le (bval (s.take k))
  rw [hn] at h3
  have : k = 1 ∨ k = 2 ∨ k = 3 := by omega
  rcases this with rfl | rfl | rfl
  · match s, hk with
    | a :: s, _ =>
      have hb : bval ((a :: s).take 1) = a.toNat := by simp [bval]
      rw [hb] at hn ⊢
      have ha := a.toNat_lt
      unfold nd at hn
      unfold lenB
      split at hn
      · omega
      · rename_i g
        rw [if_neg g, if_pos (by omega)]
        simp
  · match s, hk with
    | a :: b :: s, _ =>
      have hb : bval ((a :: b :: s).take 2) = 256 * a.toNat + b.toNat := by simp [bval]
      rw [hb] at hn ⊢
      have ha := a.toNat_lt
      have hb' := b.toNat_lt
      unfold nd at hn
      unfold lenB
      split at hn
      · omega
      · split at hn
        · omega
        · rename_i g1 g2
          rw [if_neg g1, if_neg g2, if_pos (by omega)]
          rw [u8_of a ((256 * a.toNat + b.toNat) / 256) (by omega), u8_of b ((256 * a.toNat + b.toNat) % 256) (by omega)]
          rfl
  · match s, hk with
    | a :: b :: c :: s, _ =>
      have hb : bval ((a :: b :: c :: s).take 3) = 256 * (256 * a.toNat + b.toNat) + c.toNat := by simp [bval]
      rw [hb] at hn ⊢
      have ha := a.toNat_lt
      have hb' := b.toNat_lt
      have hc' := c.toNat_lt
      unfold nd at hn
      unfold lenB
      split at hn
      · omega
      · split at hn
        · omega
        · split at hn
          · omega
          · rename_i g1 g2 g3
            rw [if_neg g1, if_neg g2, if_neg g3]
            rw [u8_of a ((256 * (256 * a.toNat + b.toNat) + c.toNat) / 65536) (by omega), u8_of b ((256 * (256 * a.toNat + b.toNat) + c.toNat) / 256 % 256) (by omega), u8_of c ((256 * (256 * a.toNat + b.toNat) + c.toNat) % 256) (by omega)]
            rfl
theorem lenB_first (n : Nat) (h : 0 < nd n) : ∃ t, lenB n = .ofNat (128 + nd n) :: t := by
  unfold nd at h ⊢
  unfold lenB
  split
  · rename_i g; rw [if_pos g] at h; omega
  · split
    · exact ⟨_, rfl⟩
    · split
      · exact ⟨_, rfl⟩
      · exact ⟨_, rfl⟩

/-- The first byte of a head that there is, told by that head. -/
theorem fb_self (a : UInt8) : UInt8.ofNat (fb (hdC a) (hdT a) (hdM a)) = a := by
  apply u8_of
  have ha := a.toNat_lt
  unfold fb hdC hdT hdM
  cases h : (a.toNat / 32 % 2 == 1)
  · have h2 : ¬ a.toNat / 32 % 2 = 1 := by simpa using h
    simp only [Bool.false_eq_true, if_false]
    omega
  · have h2 : a.toNat / 32 % 2 = 1 := by simpa using h
    simp only [if_true]
    omega

/-- The program's way of reading tells what the chapter says. -/
theorem rdH_rl (a : UInt8) (r : List UInt8) (h : kd (hdC a) (hdT a) (hdM a) = true) :
    rdH (a :: r) = if (rl r).2.2 = 0 then (⟨hdC a, hdT a, hdM a, ((rl r).1 : Nat)⟩, (rl r).2.1, 0) else (.z, (rl r).2.1, (rl r).2.2) := by
  cases r with
  | nil => rw [rdH_one h]; rfl
  | cons b s =>
    have hb256 := b.toNat_lt
    by_cases g1 : b.toNat < 128
    · have e : rl (b :: s) = (b.toNat, 2, 0) := by unfold rl; simp only; rw [if_pos g1]
      rw [e, rdH_all h (.inl g1)]
      have hof : hdOf a b s = ⟨hdC a, hdT a, hdM a, (b.toNat : Nat)⟩ := by unfold hdOf; rw [if_pos g1]
      rw [hof]
      have hp : putH ⟨hdC a, hdT a, hdM a, (b.toNat : Nat)⟩ = [a, b] := by
        show UInt8.ofNat (fb (hdC a) (hdT a) (hdM a)) :: lenB ((b.toNat : Nat) : Int).toNat = _
        rw [fb_self, Int.toNat_natCast, lenB_low g1, u8_of b _ rfl]
      rw [hp, if_pos ⟨s, rfl⟩]
      rfl
    · by_cases g2 : b.toNat = 128 ∨ 131 < b.toNat
      · have e : rl (b :: s) = (0, 1, 13) := by unfold rl; simp only; rw [if_neg g1, if_pos g2]
        rw [e, rdH_bad h g2]
        rfl
      · obtain ⟨k, hk⟩ : ∃ k, b.toNat = 128 + k := ⟨b.toNat - 128, by omega⟩
        have hk3 : k ≤ 3 := by omega
        have hk0 : 0 < k := by omega
        have ek : b.toNat - 128 = k := by omega
        by_cases g3 : s.length < k
        · have e : rl (b :: s) = (0, s.length + 2, 4) := by unfold rl; simp only; rw [if_neg g1, if_neg g2, ek, if_pos g3]
          rw [e, rdH_few h (by omega) (by omega) (by omega)]
          rfl
        · have hlt : bval (s.take k) < 256 ^ k := by
            have := bval_lt (s.take k)
            rwa [List.length_take, Nat.min_eq_left (by omega)] at this
          have hnd := nd_pow hlt hk3
          have hof : hdOf a b s = ⟨hdC a, hdT a, hdM a, (bval (s.take k) : Nat)⟩ := by unfold hdOf; rw [if_neg g1, ek]
          rw [rdH_all h (.inr ⟨by omega, by omega, by omega⟩), hof]
          have hput : putH ⟨hdC a, hdT a, hdM a, (bval (s.take k) : Nat)⟩ = a :: lenB (bval (s.take k)) := by
            show UInt8.ofNat (fb (hdC a) (hdT a) (hdM a)) :: lenB ((bval (s.take k) : Nat) : Int).toNat = _
            rw [fb_self, Int.toNat_natCast]
          rw [hput]
          by_cases g4 : nd (bval (s.take k)) < k
          · have e : rl (b :: s) = (0, 1, 13) := by unfold rl; simp only; rw [if_neg g1, if_neg g2, ek, if_neg g3, if_pos g4]
            rw [e, if_neg]
            · rfl
            · intro hpre
              rw [List.cons_prefix_cons] at hpre
              obtain ⟨_, hpre⟩ := hpre
              by_cases g5 : 0 < nd (bval (s.take k))
              · obtain ⟨t, ht⟩ := lenB_first _ g5
                rw [ht, List.cons_prefix_cons] at hpre
                have := congrArg UInt8.toNat hpre.1
                simp at this
                omega
              · have hlow : bval (s.take k) < 128 := by
                  by_cases g6 : bval (s.take k) < 128
                  · exact g6
                  · exfalso; apply g5; unfold nd; rw [if_neg g6]; split <;> (try split) <;> omega
                rw [lenB_low hlow, List.cons_prefix_cons] at hpre
                have := congrArg UInt8.toNat hpre.1
                simp at this
                omega
          · have e : rl (b :: s) = (bval (s.take k), 2 + k, 0) := by unfold rl; simp only; rw [if_neg g1, if_neg g2, ek, if_neg g3, if_neg g4]
            have hlb := lenB_take s k (by omega) (by omega) hk0
            have hb' : UInt8.ofNat (128 + k) = b := u8_of b _ hk
            rw [e, hlb, hb', if_pos]
            · simp
              omega
            · rw [List.cons_prefix_cons]
              refine ⟨rfl, ?_⟩
              rw [List.cons_prefix_cons]
              exact ⟨rfl, List.take_prefix _ _⟩
end Go.Proofs.YtbeknillegkidaaDoor

