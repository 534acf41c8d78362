/- A size is from a right form's least length to its greatest. -/
import Derived.Test.YtmdmfinpcbedcaaVt
namespace Go.Proofs.Ytmdmfinpcbedcaa
open Go.RowKit Fo

theorem lensT_bounds {M : Int} (hM : 0 ≤ M) : ∀ (ps : List Fo) (a : Int), 0 ≤ a → (∀ p ∈ ps, 0 ≤ p.len true ∧ p.len true ≤ M) → a + ps.length * M ≤ 4611686018427387904 → 0 ≤ lens true a ps ∧ lens true a ps ≤ a + ps.length * M := by
  intro ps
  induction ps with
  | nil => intro a ha _ hb; rw [lens]; simp at *; omega
  | cons p ps ih =>
    intro a ha hp hb
    obtain ⟨h1, h2⟩ := hp p (by simp)
    have hlen : (((p :: ps).length : Nat) : Int) * M = ps.length * M + M := by
      rw [List.length_cons]; push_cast; rw [Int.add_mul]; omega
    rw [hlen] at hb ⊢
    have hnn : 0 ≤ (ps.length : Int) * M := Int.mul_nonneg (by omega) hM
    have hpl : plus a (p.len true) = a + p.len true := plus_in (by omega) (by omega)
    rw [lens, hpl]
    have := ih (a + p.len true) (by omega) (fun q hq => hp q (by simp [hq])) (by omega)
    omega

/-- A right form's greatest length. -/
theorem right_most (f : Fo) : f.wrg = 0 → f.dep ≤ 8 → 0 ≤ f.len true ∧ f.len true ≤ 33554432 * 32 ^ (f.dep - 1) := by
  induction f using Fo.ind with
  | H k s l h t A c ps ih =>
  intro hw hd
  obtain ⟨ha, hq, _⟩ := wrg_zero hw
  have one : (1 : Int) ≤ 32 ^ (dep (.mk k s l h t A c ps) - 1) := pow32_one _
  have hl : len true (.mk k s l h t A c ps) = if k = 0 then s else if k = 1 ∨ k = 2 then plus s (if true then h else l) else if k = 3 then lens true 0 ps else if k = 4 then (if true then h else l) else l := by rw [len]
  rw [hl]
  rcases alone_kind ha with rfl | rfl | rfl | rfl | rfl | rfl
  · rw [if_pos rfl]
    unfold alone at ha
    rw [if_pos rfl] at ha
    split at ha
    · omega
    · omega
  · obtain ⟨h1, h2, h3, h4, _⟩ := right12 (.inl rfl) ha
    rw [if_neg (by omega), if_pos (by omega)]
    have : plus s h = s + h := plus_in (by omega) (by omega)
    simp only [if_true, this]
    omega
  · obtain ⟨h1, h2, h3, h4, _⟩ := right12 (.inr rfl) ha
    rw [if_neg (by omega), if_pos (by omega)]
    have : plus s h = s + h := plus_in (by omega) (by omega)
    simp only [if_true, this]
    omega
  · rw [if_neg (by omega), if_neg (by omega), if_pos rfl]
    have hn : ps.length ≤ 32 := by
      unfold alone at ha
      rw [if_neg (by omega), if_neg (by omega), if_neg (by omega), if_neg (by omega), if_pos rfl] at ha
      split at ha
      · assumption
      · omega
    have hdp : dep (.mk 3 s l h t A c ps) = deps ps + 1 := by rw [dep, if_pos (by omega)]
    rw [hdp] at hd ⊢
    have hin : inn (.mk 3 s l h t A c ps) = ps := by rw [inn, if_pos (by omega)]
    rw [hin] at hq
    by_cases h0 : deps ps = 0
    · have : ps = [] := by
        cases ps with
        | nil => rfl
        | cons p ps => have := dep_pos p; rw [deps] at h0; omega
      subst this
      rw [lens, h0]
      simp
    · obtain ⟨m, hm⟩ : ∃ m, deps ps = m + 1 := ⟨deps ps - 1, by omega⟩
      have hmono : ∀ p ∈ ps, 0 ≤ p.len true ∧ p.len true ≤ 33554432 * 32 ^ m := by
        intro p hp
        have hdl : dep p ≤ deps ps := deps_le.1 (Nat.le_refl _) p hp
        obtain ⟨h1, h2⟩ := ih p hp (hq p hp) (by omega)
        have : (32 : Int) ^ (dep p - 1) ≤ 32 ^ m := pow32_le (by omega)
        omega
      have hpos : (0 : Int) ≤ 32 ^ m := Int.pow_nonneg (by omega)
      have hM : (0 : Int) ≤ 33554432 * 32 ^ m := by omega
      have h32 : (32 : Int) ^ (m + 1) = 32 ^ m * 32 := Int.pow_succ _ _
      have hcap : (32 : Int) ^ m ≤ 32 ^ 6 := pow32_le (by omega)
      have h6 : (32 : Int) ^ 6 = 1073741824 := by decide
      have hmul : (ps.length : Int) * (33554432 * 32 ^ m) ≤ 32 * (33554432 * 32 ^ m) := Int.mul_le_mul_of_nonneg_right (by omega) hM
      have := lensT_bounds hM ps 0 (by omega) hmono (by omega)
      have e : deps ps + 1 - 1 = m + 1 := by omega
      rw [e, h32]
      omega
  · rw [if_neg (by omega), if_neg (by omega), if_neg (by omega), if_pos rfl]
    unfold alone at ha
    rw [if_neg (by omega), if_pos rfl] at ha
    simp only [if_true]
    split at ha
    · omega
    · omega
  · rw [if_neg (by omega), if_neg (by omega), if_neg (by omega), if_neg (by omega)]
    unfold alone at ha
    rw [if_neg (by omega), if_neg (by omega), if_pos rfl] at ha
    split at ha
    · omega
    · omega


open Va in
theorem tot_none : ∀ (rs : List (Int × Int)) (a : Int), (tot a rs).2 ≠ 0 → (tot a rs).1 = 0 := by
  intro rs
  induction rs with
  | nil => intro a h; simp [tot] at h
  | cons r rs ih =>
    intro a h
    rw [tot] at h ⊢
    by_cases hr : r.2 = 0
    · rw [if_pos hr] at h ⊢; exact ih _ h
    · rw [if_neg hr]

open Va in
theorem wl_none {s l h t n : Int} (hn : (wl s l h t n).2 ≠ 0) : (wl s l h t n).1 = 0 := by
  unfold wl at hn ⊢
  split at hn
  · simp at hn
  · rename_i hc; rw [if_neg hc]

open Va in
/-- Of what doesn't fit the size is 0. -/
theorem fit_none (f : Fo) (v : Va) (h : (fit f v).2 ≠ 0) : (fit f v).1 = 0 := by
  obtain ⟨k, s, l, h', t, A, c, ps⟩ := f
  rw [fit] at h ⊢
  by_cases h1 : lonB v (Va.own k) = false
  · rw [if_pos h1]
  · rw [if_neg h1] at h ⊢
    by_cases h2 : k = 0
    · rw [if_pos h2] at h ⊢
      by_cases hx : v.n < 256 ^ s.toNat
      · rw [if_pos hx] at h; simp at h
      · rw [if_neg hx]
    · rw [if_neg h2] at h ⊢
      by_cases h3 : k = 2
      · rw [if_pos h3] at h ⊢
        unfold behind at h ⊢
        split at h
        · rename_i hr; rw [if_pos hr]; exact wl_none h
        · rename_i hr; rw [if_neg hr]
      · rw [if_neg h3] at h ⊢
        by_cases h4 : k = 3
        · rw [if_pos h4] at h ⊢
          split at h
          · rename_i hr; rw [if_pos hr]; exact tot_none _ _ h
          · rename_i hr; rw [if_neg hr]
        · rw [if_neg h4] at h ⊢
          unfold fitB at h ⊢
          by_cases h5 : k = 1
          · rw [if_pos h5] at h ⊢; exact wl_none h
          · rw [if_neg h5] at h ⊢
            by_cases h6 : k = 4
            · rw [if_pos h6] at h ⊢
              split at h
              · simp at h
              · rename_i hr; rw [if_neg hr]
            · rw [if_neg h6] at h ⊢
              split at h
              · simp at h
              · rename_i hr; rw [if_neg hr]

open Va in
theorem tot_bounds {M : Int} (hM : 0 ≤ M) : ∀ (ps : List Fo) (ls : List Va) (a y z : Int), 0 ≤ a → a ≤ y → y ≤ z → z + ps.length * M ≤ 4611686018427387904 → ls.length = ps.length →
    (∀ p ∈ ps, ∀ v : Va, (fit p v).2 = 0 → 0 ≤ p.len false ∧ p.len false ≤ (fit p v).1 ∧ (fit p v).1 ≤ p.len true ∧ p.len true ≤ M) → (tot y (pair (fits ps) ls)).2 = 0 →
    lens false a ps ≤ (tot y (pair (fits ps) ls)).1 ∧ (tot y (pair (fits ps) ls)).1 ≤ lens true z ps := by
  intro ps
  induction ps with
  | nil =>
    intro ls a y z h0 h1 h2 _ _ _ _
    rw [fits, pair, tot, lens, lens]
    · exact ⟨h1, h2⟩
    all_goals simp
  | cons p ps ih =>
    intro ls a y z h0 h1 h2 hb hl hp ht
    cases ls with
    | nil => simp at hl
    | cons v ls =>
      have hlen : (((p :: ps).length : Nat) : Int) * M = ps.length * M + M := by
        rw [List.length_cons]; push_cast; rw [Int.add_mul]; omega
      rw [hlen] at hb
      have hnn : 0 ≤ (ps.length : Int) * M := Int.mul_nonneg (by omega) hM
      rw [fits, pair, tot] at ht ⊢
      by_cases hr : (fit p v).2 = 0
      · obtain ⟨q1, q2, q3, q4⟩ := hp p (by simp) v hr
        rw [if_pos hr] at ht ⊢
        have e1 : plus a (p.len false) = a + p.len false := plus_in (by omega) (by omega)
        have e2 : plus y (fit p v).1 = y + (fit p v).1 := plus_in (by omega) (by omega)
        have e3 : plus z (p.len true) = z + p.len true := plus_in (by omega) (by omega)
        rw [lens, lens, e1, e3]
        rw [e2] at ht ⊢
        exact ih ls _ _ _ (by omega) (by omega) (by omega) (by omega) (by simpa using hl) (fun q hq => hp q (by simp [hq])) ht
      · rw [if_neg hr] at ht; exact absurd ht hr

theorem wl_bounds {s l h t n : Int} (hs : 1 ≤ s ∧ s ≤ 3) (hl : 0 ≤ l) (hh : h ≤ 16777215) (h0 : (Va.wl s l h t n).2 = 0) : s + l ≤ (Va.wl s l h t n).1 ∧ (Va.wl s l h t n).1 ≤ s + h := by
  unfold Va.wl at h0 ⊢
  split at h0
  · rename_i hc
    rw [if_pos hc]
    have : plus s n = s + n := plus_in (by omega) (by omega)
    simp only [this]
    omega
  · simp at h0

open Va in
/-- The size of what fits. -/
theorem fit_bounds (f : Fo) : f.wrg = 0 → f.dep ≤ 8 → ∀ v, (fit f v).2 = 0 → f.len false ≤ (fit f v).1 ∧ (fit f v).1 ≤ f.len true := by
  induction f using Fo.ind with
  | H k s l h t A c ps ih =>
  intro hw hd v h0
  obtain ⟨ha, hq, _⟩ := wrg_zero hw
  rcases alone_kind ha with rfl | rfl | rfl | rfl | rfl | rfl
  · have e1 : len false (.mk 0 s l h t A c ps) = s := by rw [len]; rfl
    have e2 : len true (.mk 0 s l h t A c ps) = s := by rw [len]; rfl
    have e3 : fit (.mk 0 s l h t A c ps) v = if lonB v 0 = false then (0, 15) else (if v.n < 256 ^ s.toNat then (s, 0) else (0, 3)) := by rw [fit]; rfl
    rw [e3] at h0 ⊢
    rw [e1, e2]
    by_cases hlo : lonB v 0 = false
    · rw [if_pos hlo] at h0; simp at h0
    · rw [if_neg hlo] at h0 ⊢
      clear e1 e2 e3 hlo
      split at h0
      · rename_i hx; rw [if_pos hx]; simp
      · simp at h0
  · have e1 : len false (.mk 1 s l h t A c ps) = plus s l := by rw [len]; rfl
    have e2 : len true (.mk 1 s l h t A c ps) = plus s h := by rw [len]; rfl
    have e3 : fit (.mk 1 s l h t A c ps) v = if lonB v 1 = false then (0, 15) else wl s l h t v.bs.length := by rw [fit]; rfl
    rw [e3] at h0 ⊢
    rw [e1, e2]
    by_cases hlo : lonB v 1 = false
    · rw [if_pos hlo] at h0; simp at h0
    · rw [if_neg hlo] at h0 ⊢
      clear e1 e2 e3 hlo
      obtain ⟨hs, b1, b2, b3, _⟩ := right12 (.inl rfl) ha
      rw [plus_in (by omega) (by omega), plus_in (by omega) (by omega)]
      exact wl_bounds hs b1 b3 h0
  · have e1 : len false (.mk 2 s l h t A c ps) = plus s l := by rw [len]; rfl
    have e2 : len true (.mk 2 s l h t A c ps) = plus s h := by rw [len]; rfl
    have e3 : fit (.mk 2 s l h t A c ps) v = if lonB v 2 = false then (0, 15) else behind s l h t (tot 0 (each (fits ps) v.ls)) := by rw [fit]; rfl
    rw [e3] at h0 ⊢
    rw [e1, e2]
    by_cases hlo : lonB v 2 = false
    · rw [if_pos hlo] at h0; simp at h0
    · rw [if_neg hlo] at h0 ⊢
      clear e1 e2 e3 hlo
      obtain ⟨hs, b1, b2, b3, _⟩ := right12 (.inr rfl) ha
      rw [plus_in (by omega) (by omega), plus_in (by omega) (by omega)]
      unfold behind at h0 ⊢
      split at h0
      · rename_i hr; rw [if_pos hr]; exact wl_bounds hs b1 b3 h0
      · rename_i hr; exact absurd h0 hr
  · have e1 : len false (.mk 3 s l h t A c ps) = lens false 0 ps := by rw [len]; rfl
    have e2 : len true (.mk 3 s l h t A c ps) = lens true 0 ps := by rw [len]; rfl
    have e3 : fit (.mk 3 s l h t A c ps) v = if lonB v 2 = false then (0, 15) else (if v.ls.length = ps.length then tot 0 (pair (fits ps) v.ls) else (0, 15)) := by rw [fit]; rfl
    rw [e3] at h0 ⊢
    rw [e1, e2]
    by_cases hlo : lonB v 2 = false
    · rw [if_pos hlo] at h0; simp at h0
    · rw [if_neg hlo] at h0 ⊢
      clear e1 e2 e3 hlo
      have hn : ps.length ≤ 32 := by
        unfold alone at ha
        rw [if_neg (by omega), if_neg (by omega), if_neg (by omega), if_neg (by omega), if_pos rfl] at ha
        split at ha
        · assumption
        · omega
      have hdp : dep (.mk 3 s l h t A c ps) = deps ps + 1 := by rw [dep, if_pos (by omega)]
      rw [hdp] at hd
      have hin : inn (.mk 3 s l h t A c ps) = ps := by rw [inn, if_pos (by omega)]
      rw [hin] at hq
      split at h0
      · rename_i hlen
        rw [if_pos hlen]
        have hp6 : ∀ p ∈ ps, ∀ v : Va, (fit p v).2 = 0 → 0 ≤ p.len false ∧ p.len false ≤ (fit p v).1 ∧ (fit p v).1 ≤ p.len true ∧ p.len true ≤ 33554432 * 32 ^ 6 := by
          intro p hp v hv
          have hdl : dep p ≤ deps ps := deps_le.1 (Nat.le_refl _) p hp
          have r1 := right_len p (hq p hp) (by omega)
          have r2 := right_most p (hq p hp) (by omega)
          have r3 := ih p hp (hq p hp) (by omega) v hv
          have : (32 : Int) ^ (dep p - 1) ≤ 32 ^ 6 := pow32_le (by omega)
          omega
        have h6 : (32 : Int) ^ 6 = 1073741824 := by decide
        rw [h6] at hp6
        exact tot_bounds (M := 33554432 * 1073741824) (by omega) ps v.ls 0 0 0 (by omega) (by omega) (by omega) (by omega) hlen hp6 h0
      · simp at h0
  · have e1 : len false (.mk 4 s l h t A c ps) = l := by rw [len]; rfl
    have e2 : len true (.mk 4 s l h t A c ps) = h := by rw [len]; rfl
    have e3 : fit (.mk 4 s l h t A c ps) v = if lonB v 1 = false then (0, 15) else (if l ≤ (v.bs.length : Int) ∧ (v.bs.length : Int) ≤ h then ((v.bs.length : Int), 0) else (0, 5)) := by rw [fit]; rfl
    rw [e3] at h0 ⊢
    rw [e1, e2]
    by_cases hlo : lonB v 1 = false
    · rw [if_pos hlo] at h0; simp at h0
    · rw [if_neg hlo] at h0 ⊢
      clear e1 e2 e3 hlo
      split at h0
      · rename_i hx; rw [if_pos hx]; exact hx
      · simp at h0
  · have e1 : len false (.mk 5 s l h t A c ps) = l := by rw [len]; rfl
    have e2 : len true (.mk 5 s l h t A c ps) = l := by rw [len]; rfl
    have e3 : fit (.mk 5 s l h t A c ps) v = if lonB v 1 = false then (0, 15) else (if (v.bs.length : Int) = l then ((v.bs.length : Int), 0) else (0, 5)) := by rw [fit]; rfl
    rw [e3] at h0 ⊢
    rw [e1, e2]
    by_cases hlo : lonB v 1 = false
    · rw [if_pos hlo] at h0; simp at h0
    · rw [if_neg hlo] at h0 ⊢
      clear e1 e2 e3 hlo
      split at h0
      · rename_i hx; rw [if_pos hx]; simp; omega
      · simp at h0
end Go.Proofs.Ytmdmfinpcbedcaa

