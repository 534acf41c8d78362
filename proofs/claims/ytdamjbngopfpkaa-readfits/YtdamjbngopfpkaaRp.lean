/- Rows of right forms: what Check, Least, Most and Open tell of them. -/
import Derived.Test.YtdamjbngopfpkaaRc
namespace Go.Proofs.Ytdamjbngopfpkaa
open Go.RowKit Fo

theorem alone_12_bounds {k s l h t : Int} {n : Nat} (hk : k = 1 ∨ k = 2) (h0 : alone k s l h t n = 0) : 1 ≤ s ∧ s ≤ 3 ∧ 0 ≤ l ∧ l ≤ 16777215 := by
  rw [alone_12 hk] at h0
  by_cases h1 : 1 ≤ s ∧ s ≤ 3
  · rw [if_pos h1] at h0
    by_cases h2 : 0 ≤ l ∧ l ≤ h ∧ h ≤ 256 ^ s.toNat - 1 ∧ 1 ≤ t ∧ t ≤ 65536
    · have key : s = 1 ∨ s = 2 ∨ s = 3 := by omega
      have hp : (256 : Int) ^ s.toNat - 1 ≤ 16777215 := by rcases key with rfl | rfl | rfl <;> decide
      omega
    · rw [if_neg h2] at h0; omega
  · rw [if_neg h1] at h0; omega

theorem lens_bounds {M : Int} (hM : 0 ≤ M) : ∀ (ps : List Fo) (a : Int), 0 ≤ a → (∀ p ∈ ps, 0 ≤ p.len false ∧ p.len false ≤ M) → a + ps.length * M ≤ 4611686018427387904 → 0 ≤ lens false a ps ∧ lens false a ps ≤ a + ps.length * M := by
  intro ps
  induction ps with
  | nil => intro a ha _ hb; rw [lens]; simp at *; omega
  | cons p ps ih =>
    intro a ha hp hb
    obtain ⟨h1, h2⟩ := hp p (by simp)
    have hlen : (((p :: ps).length : Nat) : Int) * M = ps.length * M + M := by
      rw [List.length_cons]; push_cast; rw [Int.add_mul]; omega
    rw [hlen] at hb ⊢
    have hnn : 0 ≤ (ps.length : Int) * M := Int.mul_nonneg (by omega) hM
    have hpl : plus a (p.len false) = a + p.len false := plus_in (by omega) (by omega)
    rw [lens, hpl]
    have := ih (a + p.len false) (by omega) (fun q hq => hp q (by simp [hq])) (by omega)
    omega

theorem pow32_one (n : Nat) : (1 : Int) ≤ 32 ^ n := by
  induction n with
  | zero => simp
  | succ n ih => rw [Int.pow_succ]; omega
theorem pow32_le {n m : Nat} (h : n ≤ m) : (32 : Int) ^ n ≤ 32 ^ m := by
  obtain ⟨d, rfl⟩ := Nat.exists_eq_add_of_le h
  induction d with
  | zero => simp
  | succ d ih => rw [← Nat.add_assoc, Int.pow_succ]; have := pow32_one (n + d); have := ih (by omega); omega

/-- A right form's least length. -/
theorem right_len (f : Fo) : f.wrg = 0 → f.dep ≤ 8 → 0 ≤ f.len false ∧ f.len false ≤ 33554432 * 32 ^ (f.dep - 1) := by
  induction f using Fo.ind with
  | H k s l h t A c ps ih =>
  intro hw hd
  obtain ⟨ha, hq, _⟩ := wrg_zero hw
  have one : (1 : Int) ≤ 32 ^ (dep (.mk k s l h t A c ps) - 1) := pow32_one _
  have hl : len false (.mk k s l h t A c ps) = if k = 0 then s else if k = 1 ∨ k = 2 then plus s (if false then h else l) else if k = 3 then lens false 0 ps else if k = 4 then (if false then h else l) else l := by rw [len]
  rw [hl]
  rcases alone_kind ha with rfl | rfl | rfl | rfl | rfl | rfl
  · rw [if_pos rfl]
    unfold alone at ha
    rw [if_pos rfl] at ha
    split at ha
    · omega
    · omega
  · obtain ⟨h1, h2, h3, h4⟩ := alone_12_bounds (.inl rfl) ha
    rw [if_neg (by omega), if_pos (by omega)]
    have : plus s l = s + l := plus_in (by omega) (by omega)
    simp only [Bool.false_eq_true, if_false, this]
    omega
  · obtain ⟨h1, h2, h3, h4⟩ := alone_12_bounds (.inr rfl) ha
    rw [if_neg (by omega), if_pos (by omega)]
    have : plus s l = s + l := plus_in (by omega) (by omega)
    simp only [Bool.false_eq_true, if_false, this]
    omega
  · rw [if_neg (by omega), if_neg (by omega), if_pos rfl]
    have hn : ps.length ≤ 32 := by
      unfold alone at ha
      rw [if_neg (by omega), if_neg (by omega), if_neg (by omega), if_neg (by omega), if_pos rfl] at ha
      split at ha
      · assumption
      · omega
    have hdp : dep (.mk 3 s l h t A c ps) = deps ps + 1 := by rw [dep, if_pos (by omega)]
    rw [hdp] at hd ⊢
    have hin : inn (.mk 3 s l h t A c ps) = ps := by rw [inn, if_pos (by omega)]
    rw [hin] at hq
    by_cases h0 : deps ps = 0
    · have : ps = [] := by
        cases ps with
        | nil => rfl
        | cons p ps => have := dep_pos p; rw [deps] at h0; omega
      subst this
      rw [lens, h0]
      simp
    · obtain ⟨m, hm⟩ : ∃ m, deps ps = m + 1 := ⟨deps ps - 1, by omega⟩
      have hmono : ∀ p ∈ ps, 0 ≤ p.len false ∧ p.len false ≤ 33554432 * 32 ^ m := by
        intro p hp
        have hdl : dep p ≤ deps ps := deps_le.1 (Nat.le_refl _) p hp
        obtain ⟨h1, h2⟩ := ih p hp (hq p hp) (by omega)
        have : (32 : Int) ^ (dep p - 1) ≤ 32 ^ m := pow32_le (by omega)
        omega
      have hpos : (0 : Int) ≤ 32 ^ m := Int.pow_nonneg (by omega)
      have hM : (0 : Int) ≤ 33554432 * 32 ^ m := by omega
      have h32 : (32 : Int) ^ (m + 1) = 32 ^ m * 32 := Int.pow_succ _ _
      have hcap : (32 : Int) ^ m ≤ 32 ^ 6 := pow32_le (by omega)
      have h6 : (32 : Int) ^ 6 = 1073741824 := by decide
      have hmul : (ps.length : Int) * (33554432 * 32 ^ m) ≤ 32 * (33554432 * 32 ^ m) := Int.mul_le_mul_of_nonneg_right (by omega) hM
      have := lens_bounds hM ps 0 (by omega) hmono (by omega)
      have e : deps ps + 1 - 1 = m + 1 := by omega
      rw [e, h32]
      omega
  · rw [if_neg (by omega), if_neg (by omega), if_neg (by omega), if_pos rfl]
    unfold alone at ha
    rw [if_neg (by omega), if_pos rfl] at ha
    simp only [Bool.false_eq_true, if_false]
    split at ha
    · omega
    · omega
  · rw [if_neg (by omega), if_neg (by omega), if_neg (by omega), if_neg (by omega)]
    unfold alone at ha
    rw [if_neg (by omega), if_neg (by omega), if_pos rfl] at ha
    split at ha
    · omega
    · omega

theorem chk_zero {f : Fo} (h : f.chk = 0) : f.dep ≤ 8 ∧ f.wrg = 0 := by
  unfold chk at h
  split at h
  · omega
  · exact ⟨by omega, h⟩
theorem wrgs_all {ps : List Fo} (h : ∀ p ∈ ps, wrg p = 0) : wrgs ps = 0 := by
  induction ps with
  | nil => rw [wrgs]
  | cons p ps ih => rw [wrgs, h p (by simp), if_neg (by simp)]; exact ih (fun q hq => h q (by simp [hq]))

/-- A row of right forms, none but the last open. -/
theorem row_right {ps : List Fo} (hl : ps.length ≤ 32) (hp : ∀ p ∈ ps, p.chk = 0 ∧ p.dep ≤ 6) (hs : Shut 3 ps ps.length) (A : Option Addr) (c : Nat) :
    wrg (.mk 3 0 0 0 0 A c ps) = 0 ∧ dep (.mk 3 0 0 0 0 A c ps) ≤ 7 := by
  constructor
  · rw [wrg_eq]
    have ha : alone 3 0 0 0 0 ps.length = 0 := by unfold alone; rw [if_neg (by omega), if_neg (by omega), if_neg (by omega), if_neg (by omega), if_pos rfl, if_pos hl]
    have hi : inn (.mk 3 0 0 0 0 A c ps) = ps := by rw [inn, if_pos (by omega)]
    rw [ha, if_neg (by simp), hi, wrgs_all (fun p h => (chk_zero (hp p h).1).2), if_neg (by simp), mis_three_false hs]
    rfl
  · have : deps ps ≤ 6 := deps_le.2 (fun p h => (hp p h).2)
    rw [dep, if_pos (by omega)]
    omega
theorem row_chk {ps : List Fo} {A : Option Addr} {c : Nat} (h : wrg (.mk 3 0 0 0 0 A c ps) = 0 ∧ dep (.mk 3 0 0 0 0 A c ps) ≤ 7) : chk (.mk 3 0 0 0 0 A c ps) = 0 := by
  unfold chk; rw [if_neg (by omega)]; exact h.1
theorem row_len {ps : List Fo} {A : Option Addr} {c : Nat} (b : Bool) : len b (.mk 3 0 0 0 0 A c ps) = lens b 0 ps := by
  rw [len, if_neg (by omega), if_neg (by omega), if_pos rfl]
/-- A list of such a row. -/
theorem list_chk {ps : List Fo} {A B : Option Addr} {c d : Nat} (h : wrg (.mk 3 0 0 0 0 A c ps) = 0 ∧ dep (.mk 3 0 0 0 0 A c ps) ≤ 7) :
    chk (.mk 2 3 0 9 1 B d [.mk 3 0 0 0 0 A c ps]) = if opn (.mk 3 0 0 0 0 A c ps) = true ∨ lens false 0 ps = 0 then 15 else 0 := by
  have hl := row_len (ps := ps) (A := A) (c := c) false
  obtain ⟨h1, h2⟩ := h
  generalize Fo.mk 3 0 0 0 0 A c ps = r at *
  have hd : dep (.mk 2 3 0 9 1 B d [r]) ≤ 8 := by rw [dep, if_pos (by omega), deps, deps]; omega
  unfold chk
  rw [if_neg (by omega), wrg_eq]
  have ha : alone 2 3 0 9 1 [r].length = 0 := by rw [alone_12 (by omega), List.length_singleton]; decide
  have hi : inn (.mk 2 3 0 9 1 B d [r]) = [r] := by rw [inn, if_pos (by omega)]
  have hw : wrgs [r] = 0 := wrgs_all (fun p hp => by rw [List.mem_singleton] at hp; rw [hp]; exact h1)
  rw [ha, if_neg (by simp), hi, hw, if_neg (by simp)]
  have hm : mis 2 [r] = (r.opn || decide (lens false 0 ps = 0)) := by simp [mis, hl]
  rw [hm]
  by_cases h3 : r.opn = true
  · simp [h3]
  · by_cases h4 : lens false 0 ps = 0
    · simp [h4]
    · simp [h3, h4]
theorem row_opn {ps : List Fo} {A : Option Addr} {c : Nat} : opn (.mk 3 0 0 0 0 A c ps) = if 0 < ps.length then opnL ps else false := by
  rw [opn]
  by_cases h : 0 < ps.length
  · rw [if_pos ⟨rfl, h⟩, if_pos h]
  · rw [if_neg (by omega), if_neg h]; rfl

end Go.Proofs.Ytdamjbngopfpkaa

