/- Two tallies side by side, and small facts on numbers. -/
import Derived.Test.YtooiejfabnaljaaAlive3
namespace Go.Proofs.Ytooiejfabnaljaa
open Go.RowKit

theorem i64_bounds {a : Int} (h : (Lit.int .i64 a).wf = true) : -9223372036854775808 ≤ a ∧ a ≤ 9223372036854775807 := by
  simp only [Lit.wf, Bool.and_eq_true, decide_eq_true_eq] at h
  exact h

theorem max_nat (a : Int) : ∃ M : Nat, (if (0 : Int) < a then a else 0) = (M : Int) := by
  by_cases h : (0 : Int) < a
  · exact ⟨a.toNat, by rw [if_pos h]; omega⟩
  · exact ⟨0, by rw [if_neg h]; rfl⟩

/-- Two tallies, apart from each other; nothing old has turned. -/
def TwoRel (w wr : World) (p q : Nat) (m d e : Int) : Prop := Tal wr p m d ∧ Tal wr q m e ∧ p ≠ q ∧ w.heap.size ≤ p ∧ w.heap.size ≤ q ∧ Grew w wr none

theorem TwoRel.one {w wr : World} {p q : Nat} {m d e : Int} (h : TwoRel w wr p q m d e) (n : Int) (hn : n ≤ 9223372036854775807) :
    Calls Try.prog 11 #[.pointer (some ⟨p, 0, none⟩), .int .i64 n] wr fun v w' => v = .returned (.int .i64 (spE m d n)) ∧ TwoRel w w' p q m (spC m d n) e := by
  obtain ⟨h1, h2, h3, h4, h5, h6⟩ := h
  refine (tspend_any wr p m d h1 n hn).mono ?_
  rintro v w' ⟨rfl, k1, k2⟩
  exact ⟨rfl, k1, h2.grew k2 (by simp; omega), h3, h4, h5, grew_own h6 k2 h4⟩
theorem TwoRel.two {w wr : World} {p q : Nat} {m d e : Int} (h : TwoRel w wr p q m d e) (n : Int) (hn : n ≤ 9223372036854775807) :
    Calls Try.prog 11 #[.pointer (some ⟨q, 0, none⟩), .int .i64 n] wr fun v w' => v = .returned (.int .i64 (spE m e n)) ∧ TwoRel w w' p q m d (spC m e n) := by
  obtain ⟨h1, h2, h3, h4, h5, h6⟩ := h
  refine (tspend_any wr q m e h2 n hn).mono ?_
  rintro v w' ⟨rfl, k1, k2⟩
  exact ⟨rfl, h1.grew k2 (by simp; omega), k1, h3, h4, h5, grew_own h6 k2 h5⟩
theorem TwoRel.drewN {w wr : World} {p q : Nat} {m d e : Int} (h : TwoRel w wr p q m d e) (n : Nat) : TwoRel w (wr.drewN n) p q m d e :=
  ⟨h.1.drewN n, h.2.1.drewN n, h.2.2.1, h.2.2.2.1, h.2.2.2.2.1, grew_drewN h.2.2.2.2.2 n⟩
theorem TwoRel.below {w wr : World} {p q : Nat} {m d e : Int} (h : TwoRel w wr p q m d e) : Below w.heap.size w wr := grew_below h.2.2.2.2.2 (Nat.le_refl _) (fun _ h => by cases h)

/-- The sum of the first k. -/
def sm (f : Nat → Nat) : Nat → Nat
  | 0 => 0
  | k + 1 => sm f k + f k
theorem sm_mono (f : Nat → Nat) {j k : Nat} (h : j ≤ k) : sm f j ≤ sm f k := by
  induction k with
  | zero => obtain rfl : j = 0 := by omega
            exact Nat.le_refl _
  | succ k ih =>
    by_cases e : j = k + 1
    · subst e; exact Nat.le_refl _
    · have := ih (by omega)
      simp only [sm]
      omega
theorem sm_le (f : Nat → Nat) (b : Nat) (hf : ∀ i, f i ≤ b) (k : Nat) : sm f k ≤ b * k := by
  induction k with
  | zero => simp [sm]
  | succ k ih =>
    have := hf k
    simp only [sm, Nat.mul_add]
    omega

/-- Gone through backwards, from some place on, and round: the same sum, and never more on the way. -/
theorem sm_turn (x : Nat → Nat) (L t : Nat) (ht : t < L) :
    sm (fun i => x ((L - 1 - i + t) % L)) L = sm x L ∧ ∀ k, k ≤ L → sm (fun i => x ((L - 1 - i + t) % L)) k ≤ sm x L := by
  have hA : ∀ k, k ≤ t → sm (fun i => x ((L - 1 - i + t) % L)) k + sm x (t - k) = sm x t := by
    intro k
    induction k with
    | zero => intro _; simp [sm]
    | succ k ih =>
      intro hk
      have h1 := ih (by omega)
      have e1 : (L - 1 - k + t) % L = t - (k + 1) := by
        rw [show L - 1 - k + t = (t - (k + 1)) + L from by omega, Nat.add_mod_right]
        exact Nat.mod_eq_of_lt (by omega)
      have e2 : sm x (t - k) = sm x (t - (k + 1)) + x (t - (k + 1)) := by
        rw [show t - k = (t - (k + 1)) + 1 from by omega]
        rfl
      simp only [sm, e1]
      omega
  have hB : ∀ j, t + j ≤ L → sm (fun i => x ((L - 1 - i + t) % L)) (t + j) + sm x (L - j) = sm x L + sm x t := by
    intro j
    induction j with
    | zero =>
      intro _
      have := hA t (Nat.le_refl _)
      simp [sm] at this ⊢
      omega
    | succ j ih =>
      intro hj
      have h1 := ih (by omega)
      have e1 : (L - 1 - (t + j) + t) % L = L - (j + 1) := by
        rw [show L - 1 - (t + j) + t = L - (j + 1) from by omega]
        exact Nat.mod_eq_of_lt (by omega)
      have e2 : sm x (L - j) = sm x (L - (j + 1)) + x (L - (j + 1)) := by
        rw [show L - j = (L - (j + 1)) + 1 from by omega]
        rfl
      rw [show t + (j + 1) = (t + j) + 1 from by omega]
      simp only [sm, e1]
      omega
  have hT := sm_mono x (show t ≤ L from by omega)
  refine ⟨?_, fun k hk => ?_⟩
  · have := hB (L - t) (by omega)
    rw [show t + (L - t) = L from by omega, show L - (L - t) = t from by omega] at this
    omega
  · by_cases h : k ≤ t
    · have := hA k h
      omega
    · have := hB (k - t) (by omega)
      rw [show t + (k - t) = k from by omega] at this
      have := sm_mono x (show t ≤ L - (k - t) from by omega)
      omega

end Go.Proofs.Ytooiejfabnaljaa

