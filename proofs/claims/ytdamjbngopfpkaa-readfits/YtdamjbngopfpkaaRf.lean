/- Open, Least: the document's answers. -/
import Derived.Test.YtdamjbngopfpkaaFa
namespace Go.Proofs.Ytdamjbngopfpkaa
open Go.RowKit Fo

set_option maxHeartbeats 1000000 in
theorem ropen_any (f : Fo) : ∀ (w : World), f.In w →
    Calls Try.prog 18 #[f.val] w fun e w' => e = .returned (.bool f.opn) ∧ Grew w w' none := by
  induction f using Fo.ind with
  | H k s l h t A c ps ih =>
  intro w hin
  have HIN := Lib.hid hin
  have IH := Lib.hid ih
  clear hin ih
  change Calls Try.prog 18 #[.agg #[.int .i64 k, .int .i64 s, .int .i64 l, .int .i64 h, .int .i64 t, .slice A ps.length c]] w _
  have HO := Lib.hid (show opn (.mk k s l h t A c ps) = if k = 3 ∧ 0 < ps.length then opnL ps else decide (k = 4) from by rw [opn])
  rw [HO.out]
  clear HO
  by_cases hk4 : k = 4
  · subst hk4
    rw [if_neg (by omega)]
    go_enter Try.func18, Try.ntmps18
    go_wp2_with fail
    go_ret
    exact ⟨rfl, grew_alloc (grew_refl _ _) _⟩
  have hb4 := ne_beq hk4
  by_cases hk : k = 3
  · subst hk
    rcases Nat.eq_zero_or_pos ps.length with h0 | h0
    · rw [if_neg (by omega)]
      rw [h0]
      go_enter Try.func18, Try.ntmps18
      go_wp2_with fail
      go_ret
      exact ⟨rfl, grew_alloc (grew_refl _ _) _⟩
    · rw [if_pos ⟨rfl, h0⟩]
      obtain ⟨n, hn⟩ : ∃ n, ps.length = n + 1 := ⟨ps.length - 1, by omega⟩
      obtain ⟨b, o, p, hA, hp, hpm, hpi, c0, c1, c2, c3, c4, c5⟩ := (HIN.out.grew (grew_alloc (grew_refl w none) (.cells #[.int .i64 3, .int .i64 s, .int .i64 l, .int .i64 h, .int .i64 t, .slice A ps.length c] 24))).at (i := n) (by omega)
      subst hA
      have hlz : n ≤ 2199023255552 := by have := HIN.out; cases this; omega
      have HE := Lib.hid (show opnL ps = p.opn by
        rw [opnL_last ps (by intro e; subst e; simp at h0)]
        congr 1
        rw [List.getLast_eq_getElem]
        obtain ⟨_, rfl⟩ := List.getElem?_eq_some_iff.1 hp
        congr 1
        omega)
      have HP := Lib.hid (show p ∈ ps ∧ In (w.alloc (.cells #[.int .i64 3, .int .i64 s, .int .i64 l, .int .i64 h, .int .i64 t, .slice (some ⟨b, o, none⟩) ps.length c] 24)) p from ⟨hpm, hpi⟩)
      have hz0 : (((n + 1 : Nat) : Int) == 0) = false := ne_beq (by omega)
      have hz1 : (((n : Int) + 1) == 0) = false := ne_beq (by omega)
      clear hp hpm hpi h0
      rw [hn] at *
      clear hn
      go_enter Try.func18, Try.ntmps18
      go_wp2_with fail
      refine (IH.out p HP.out.1 _ HP.out.2).mono ?_
      rintro e w1 ⟨rfl, g1⟩
      go_wp2_with fail
      go_ret
      exact ⟨by rw [HE.out]; rfl, grew_trans (grew_alloc (grew_refl _ _) _) g1⟩
  · rw [if_neg (by omega), decide_eq_false hk4]
    have hb := ne_beq hk
    have hb2 : (k != 3) = true := by simpa using hk
    go_enter Try.func18, Try.ntmps18
    go_wp2_with fail
    go_ret
    exact ⟨rfl, grew_alloc (grew_refl _ _) _⟩

theorem wrgs_zero {qs : List Fo} (h : wrgs qs = 0) : ∀ p ∈ qs, wrg p = 0 := by
  induction qs with
  | nil => intro p hp; simp at hp
  | cons x xs ih =>
    intro p hp
    rw [wrgs] at h
    by_cases hx : wrg x = 0
    · rw [if_neg (by simpa using hx)] at h
      rcases List.mem_cons.1 hp with rfl | hp
      · exact hx
      · exact ih h p hp
    · rw [if_pos hx] at h; exact absurd h hx
/-- Of a right form itself nothing is wrong, of its parts neither. -/
theorem wrg_zero {k s l h t : Int} {A : Option Addr} {c : Nat} {ps : List Fo} (h0 : wrg (.mk k s l h t A c ps) = 0) : alone k s l h t ps.length = 0 ∧ (∀ p ∈ inn (.mk k s l h t A c ps), wrg p = 0) ∧ mis k ps = false := by
  rw [wrg_eq] at h0
  by_cases h1 : alone k s l h t ps.length = 0
  · rw [if_neg (by simpa using h1)] at h0
    by_cases h2 : wrgs (inn (.mk k s l h t A c ps)) = 0
    · rw [if_neg (by simpa using h2)] at h0
      refine ⟨h1, wrgs_zero h2, ?_⟩
      cases hm : mis k ps with
      | false => rfl
      | true => rw [hm] at h0; simp at h0
    · rw [if_pos h2] at h0; exact absurd h0 h2
  · rw [if_pos h1] at h0; exact absurd h0 h1
theorem alone_kind {k s l h t : Int} {n : Nat} (h0 : alone k s l h t n = 0) : k = 0 ∨ k = 1 ∨ k = 2 ∨ k = 3 ∨ k = 4 ∨ k = 5 := by
  by_cases hk : k = 0 ∨ k = 1 ∨ k = 2 ∨ k = 3 ∨ k = 4 ∨ k = 5
  · exact hk
  · unfold alone at h0
    rw [if_neg (by omega), if_neg (by omega), if_neg (by omega), if_neg (by omega), if_neg (by omega)] at h0
    omega

set_option maxRecDepth 100000 in
set_option maxHeartbeats 2000000 in
theorem rleast_any (f : Fo) : ∀ (w : World), f.In w → f.wrg = 0 →
    Calls Try.prog 21 #[f.val] w fun e w' => e = .returned (.int .i64 (f.len false)) ∧ Grew w w' none := by
  induction f using Fo.ind with
  | H k s l h t A c ps ih =>
  intro w hin hr
  obtain ⟨ha, hq, _⟩ := wrg_zero hr
  have key := alone_kind ha
  have HIN := Lib.hid hin
  have IH := Lib.hid ih
  have HQ := Lib.hid hq
  clear hin ih ha hr hq
  change Calls Try.prog 21 #[.agg #[.int .i64 k, .int .i64 s, .int .i64 l, .int .i64 h, .int .i64 t, .slice A ps.length c]] w _
  have HO := Lib.hid (show len false (.mk k s l h t A c ps) = if k = 0 then s else if k = 1 ∨ k = 2 then plus s (if false then h else l) else if k = 3 then lens false 0 ps else if k = 4 then (if false then h else l) else l from by rw [len])
  rw [HO.out]
  clear HO
  rcases key with rfl | rfl | rfl | rfl | rfl | rfl
  case inr.inr.inr.inl =>
    rw [if_neg (by omega), if_neg (by omega), if_pos rfl]
    have HR := Lib.hid (show Grew w (w.alloc (.cells #[.int .i64 3, .int .i64 s, .int .i64 l, .int .i64 h, .int .i64 t, .slice A ps.length c] 24)) none ∧ Whole (w.alloc (.cells #[.int .i64 3, .int .i64 s, .int .i64 l, .int .i64 h, .int .i64 t, .slice A ps.length c] 24)) w.heap.size #[.int .i64 3, .int .i64 s, .int .i64 l, .int .i64 h, .int .i64 t, .slice A ps.length c] 24 ∧ lens false 0 (ps.drop 0) = lens false 0 ps from ⟨grew_alloc (grew_refl _ _) _, Whole.new _ _ _, rfl⟩)
    go_enter Try.func21, Try.ntmps21
    go_wp2_with fail
    generalize w.alloc (.cells #[.int .i64 3, .int .i64 s, .int .i64 l, .int .i64 h, .int .i64 t, .slice A ps.length c] 24) = W0 at *
    have hlz : ps.length ≤ 2199023255552 := by have := HIN.out; cases this; assumption
    have HSZ := Lib.hid (show ∃ q, q = w.heap.size from ⟨_, rfl⟩)
    generalize w.heap.size = q at *
    go_loopw [4, 3] (fun i d wr => ∃ (n : Nat) (x : Int), n ≤ ps.length ∧ i = .int .i64 n ∧ d = .int .i64 x ∧ Hid (Grew w wr none ∧ Whole wr q #[.int .i64 3, .int .i64 s, .int .i64 l, .int .i64 h, .int .i64 t, .slice A ps.length c] 24 ∧ lens false x (ps.drop n) = lens false 0 ps)) (fun i _ _ => ps.length - (intOf i).toNat)
    case atStart => exact ⟨0, 0, Nat.zero_le _, rfl, rfl, HR⟩
    case round =>
      obtain ⟨n, x, hn, rfl, rfl, R⟩ := hrel
      obtain ⟨d0, d1, d2, d3, d4, d5⟩ := R.out.2.1.six
      by_cases hlt : n < ps.length
      · obtain ⟨b, o, p, rfl, hp, hpm, hpi, c0, c1, c2, c3, c4, c5⟩ := (HIN.out.grew R.out.1).at hlt
        have HP := Lib.hid (show ps[n]? = some p ∧ p ∈ ps ∧ In wr p from ⟨hp, hpm, hpi⟩)
        have HP2 := Lib.hid (show wrg p = 0 from HQ.out p (by rw [inn, if_pos (by omega)]; exact hpm))
        clear hp hpm hpi
        go_wp2_with fail
        refine (IH.out p HP.out.2.1 _ HP.out.2.2 HP2.out).mono ?_
        rintro e w2 ⟨rfl, g2⟩
        have HR2 := Lib.hid (show Grew w w2 none ∧ Whole w2 q #[.int .i64 3, .int .i64 s, .int .i64 l, .int .i64 h, .int .i64 t, .slice (some ⟨b, o, none⟩) ps.length c] 24 ∧ lens false (plus x (p.len false)) (ps.drop (n + 1)) = lens false 0 ps from ⟨grew_trans R.out.1 g2, R.out.2.1.grew g2 (by simp), by
          have := R.out.2.2
          rw [drop_at HP.out.1, lens] at this
          exact this⟩)
        clear c0 c1 c2 c3 c4 c5 d0 d1 d2 d3 d4 d5 g2 R
        generalize hy : p.len false = y at *
        have HY := Lib.hid hy
        clear hy
        go_wp2_with fail
        go_roundw
        case rel => exact ⟨n + 1, plus x y, by omega, by go_num, rfl, HR2⟩
        case measure => simp [intOf]; omega
      · have HE := Lib.hid (show x = lens false 0 ps by
          have h3 := R.out.2.2
          have : n = ps.length := by omega
          rw [this, List.drop_length, lens] at h3
          exact h3)
        have HG := Lib.hid R.out.1
        clear R
        go_wp2_with fail
        go_ret
        exact ⟨by rw [← HE.out]; rfl, HG.out⟩
  all_goals
    go_enter Try.func21, Try.ntmps21
    go_wp2_with fail
    go_ret
    exact ⟨rfl, grew_alloc (grew_refl _ _) _⟩

end Go.Proofs.Ytdamjbngopfpkaa

