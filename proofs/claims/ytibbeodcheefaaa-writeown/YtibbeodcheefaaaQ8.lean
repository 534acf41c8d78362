/- Open, Least: the document's answers. -/
import Derived.Test.YtibbeodcheefaaaQ4
import Derived.Test.YtibbeodcheefaaaQ6
import Derived.Test.YtibbeodcheefaaaQ7
import Derived.Test.YtibbeodcheefaaaQ1
import Derived.Test.YtibbeodcheefaaaRows
import Derived.BigQuiet
import Derived.Deep.QuietTactic
import Derived.Lib.Hide
import Derived.Deep.OwnRows
namespace Go.Proofs.Ytibbeodcheefaaa
open Go.RowKit Fo

set_option maxHeartbeats 1000000 in
theorem ropen_any (f : Fo) : ∀ (w : World), f.In w →
    Calls Try.prog 46 #[f.val] w fun e w' => e = .returned (.bool f.opn) ∧ Grew w w' none := by
  induction f using Fo.ind with
  | H k s l h t A c ps ih =>
  intro w hin
  have HIN := Lib.hid hin
  have IH := Lib.hid ih
  clear hin ih
  change Calls Try.prog 46 #[.agg #[.int .i64 k, .int .i64 s, .int .i64 l, .int .i64 h, .int .i64 t, .slice A ps.length c]] w _
  have HO := Lib.hid (show opn (.mk k s l h t A c ps) = if k = 3 ∧ 0 < ps.length then opnL ps else decide (k = 4) from by rw [opn])
  rw [HO.out]
  clear HO
  by_cases hk4 : k = 4
  · subst hk4
    rw [if_neg (by omega)]
    go_enter Try.func46, Try.ntmps46
    go_wp2_with fail
    go_ret
    exact ⟨rfl, grew_alloc (grew_refl _ _) _⟩
  have hb4 := ne_beq hk4
  by_cases hk : k = 3
  · subst hk
    rcases Nat.eq_zero_or_pos ps.length with h0 | h0
    · rw [if_neg (by omega)]
      rw [h0]
      go_enter Try.func46, Try.ntmps46
      go_wp2_with fail
      go_ret
      exact ⟨rfl, grew_alloc (grew_refl _ _) _⟩
    · rw [if_pos ⟨rfl, h0⟩]
      obtain ⟨n, hn⟩ : ∃ n, ps.length = n + 1 := ⟨ps.length - 1, by omega⟩
      obtain ⟨b, o, p, hA, hp, hpm, hpi, c0, c1, c2, c3, c4, c5⟩ := (HIN.out.grew (grew_alloc (grew_refl w none) (.cells #[.int .i64 3, .int .i64 s, .int .i64 l, .int .i64 h, .int .i64 t, .slice A ps.length c] 24))).at (i := n) (by omega)
      subst hA
      have hlz : n ≤ 2199023255552 := by have := HIN.out; cases this; omega
      have HE := Lib.hid (show opnL ps = p.opn by
        rw [opnL_last ps (by intro e; subst e; simp at h0)]
        congr 1
        rw [List.getLast_eq_getElem]
        obtain ⟨_, rfl⟩ := List.getElem?_eq_some_iff.1 hp
        congr 1
        omega)
      have HP := Lib.hid (show p ∈ ps ∧ In (w.alloc (.cells #[.int .i64 3, .int .i64 s, .int .i64 l, .int .i64 h, .int .i64 t, .slice (some ⟨b, o, none⟩) ps.length c] 24)) p from ⟨hpm, hpi⟩)
      have hz0 : (((n + 1 : Nat) : Int) == 0) = false := ne_beq (by omega)
      have hz1 : (((n : Int) + 1) == 0) = false := ne_beq (by omega)
      clear hp hpm hpi h0
      rw [hn] at *
      clear hn
      go_enter Try.func46, Try.ntmps46
      go_wp2_with fail
      refine (IH.out p HP.out.1 _ HP.out.2).mono ?_
      rintro e w1 ⟨rfl, g1⟩
      go_wp2_with fail
      go_ret
      exact ⟨by rw [HE.out]; rfl, grew_trans (grew_alloc (grew_refl _ _) _) g1⟩
  · rw [if_neg (by omega), decide_eq_false hk4]
    have hb := ne_beq hk
    have hb2 : (k != 3) = true := by simpa using hk
    go_enter Try.func46, Try.ntmps46
    go_wp2_with fail
    go_ret
    exact ⟨rfl, grew_alloc (grew_refl _ _) _⟩

theorem wrgs_zero {qs : List Fo} (h : wrgs qs = 0) : ∀ p ∈ qs, wrg p = 0 := by
  induction qs with
  | nil => intro p hp; simp at hp
  | cons x xs ih =>
    intro p hp
    rw [wrgs] at h
    by_cases hx : wrg x = 0
    · rw [if_neg (by simpa using hx)] at h
      rcases List.mem_cons.1 hp with rfl | hp
      · exact hx
      · exact ih h p hp
    · rw [if_pos hx] at h; exact absurd h hx
/-- Of a right form itself nothing is wrong, of its parts neither. -/
theorem wrg_zero {k s l h t : Int} {A : Option Addr} {c : Nat} {ps : List Fo} (h0 : wrg (.mk k s l h t A c ps) = 0) : alone k s l h t ps.length = 0 ∧ (∀ p ∈ inn (.mk k s l h t A c ps), wrg p = 0) ∧ mis k ps = false := by
  rw [wrg_eq] at h0
  by_cases h1 : alone k s l h t ps.length = 0
  · rw [if_neg (by simpa using h1)] at h0
    by_cases h2 : wrgs (inn (.mk k s l h t A c ps)) = 0
    · rw [if_neg (by simpa using h2)] at h0
      refine ⟨h1, wrgs_zero h2, ?_⟩
      cases hm : mis k ps with
      | false => rfl
      | true => rw [hm] at h0; simp at h0
    · rw [if_pos h2] at h0; exact absurd h0 h2
  · rw [if_pos h1] at h0; exact absurd h0 h1
theorem alone_kind {k s l h t : Int} {n : Nat} (h0 : alone k s l h t n = 0) : k = 0 ∨ k = 1 ∨ k = 2 ∨ k = 3 ∨ k = 4 ∨ k = 5 := by
  by_cases hk : k = 0 ∨ k = 1 ∨ k = 2 ∨ k = 3 ∨ k = 4 ∨ k = 5
  · exact hk
  · unfold alone at h0
    rw [if_neg (by omega), if_neg (by omega), if_neg (by omega), if_neg (by omega), if_neg (by omega)] at h0
    omega

set_option maxRecDepth 100000 in
set_option maxHeartbeats 2000000 in
theorem rleast_any (f : Fo) : ∀ (w : World), f.In w → f.wrg = 0 →
    Calls Try.prog 47 #[f.val] w fun e w' => e = .returned (.int .i64 (f.len false)) ∧ Grew w w' none := by
  induction f using Fo.ind with
  | H k s l h t A c ps ih =>
  intro w hin hr
  obtain ⟨ha, hq, _⟩ := wrg_zero hr
  have key := alone_kind ha
  have HIN := Lib.hid hin
  have IH := Lib.hid ih
  have HQ := Lib.hid hq
  clear hin ih ha hr hq
  change Calls Try.prog 47 #[.agg #[.int .i64 k, .int .i64 s, .int .i64 l, .int .i64 h, .int .i64 t, .slice A ps.length c]] w _
  have HO := Lib.hid (show len false (.mk k s l h t A c ps) = if k = 0 then s else if k = 1 ∨ k = 2 then plus s (if false then h else l) else if k = 3 then lens false 0 ps else if k = 4 then (if false then h else l) else l from by rw [len])
  rw [HO.out]
  clear HO
  rcases key with rfl | rfl | rfl | rfl | rfl | rfl
  case inr.inr.inr.inl =>
    rw [if_neg (by omega), if_neg (by omega), if_pos rfl]
    have HR := Lib.hid (show Grew w (w.alloc (.cells #[.int .i64 3, .int .i64 s, .int .i64 l, .int .i64 h, .int .i64 t, .slice A ps.length c] 24)) none ∧ Whole (w.alloc (.cells #[.int .i64 3, .int .i64 s, .int .i64 l, .int .i64 h, .int .i64 t, .slice A ps.length c] 24)) w.heap.size #[.int .i64 3, .int .i64 s, .int .i64 l, .int .i64 h, .int .i64 t, .slice A ps.length c] 24 ∧ lens false 0 (ps.drop 0) = lens false 0 ps from ⟨grew_alloc (grew_refl _ _) _, Whole.new _ _ _, rfl⟩)
    go_enter Try.func47, Try.ntmps47
    go_wp2_with fail
    generalize w.alloc (.cells #[.int .i64 3, .int .i64 s, .int .i64 l, .int .i64 h, .int .i64 t, .slice A ps.length c] 24) = W0 at *
    have hlz : ps.length ≤ 2199023255552 := by have := HIN.out; cases this; assumption
    have HSZ := Lib.hid (show ∃ q, q = w.heap.size from ⟨_, rfl⟩)
    generalize w.heap.size = q at *
    go_loopw [4, 3] (fun i d wr => ∃ (n : Nat) (x : Int), n ≤ ps.length ∧ i = .int .i64 n ∧ d = .int .i64 x ∧ Hid (Grew w wr none ∧ Whole wr q #[.int .i64 3, .int .i64 s, .int .i64 l, .int .i64 h, .int .i64 t, .slice A ps.length c] 24 ∧ lens false x (ps.drop n) = lens false 0 ps)) (fun i _ _ => ps.length - (intOf i).toNat)
    case atStart => exact ⟨0, 0, Nat.zero_le _, rfl, rfl, HR⟩
    case round =>
      obtain ⟨n, x, hn, rfl, rfl, R⟩ := hrel
      obtain ⟨d0, d1, d2, d3, d4, d5⟩ := R.out.2.1.six
      by_cases hlt : n < ps.length
      · obtain ⟨b, o, p, rfl, hp, hpm, hpi, c0, c1, c2, c3, c4, c5⟩ := (HIN.out.grew R.out.1).at hlt
        have HP := Lib.hid (show ps[n]? = some p ∧ p ∈ ps ∧ In wr p from ⟨hp, hpm, hpi⟩)
        have HP2 := Lib.hid (show wrg p = 0 from HQ.out p (by rw [inn, if_pos (by omega)]; exact hpm))
        clear hp hpm hpi
        go_wp2_with fail
        refine (IH.out p HP.out.2.1 _ HP.out.2.2 HP2.out).mono ?_
        rintro e w2 ⟨rfl, g2⟩
        have HR2 := Lib.hid (show Grew w w2 none ∧ Whole w2 q #[.int .i64 3, .int .i64 s, .int .i64 l, .int .i64 h, .int .i64 t, .slice (some ⟨b, o, none⟩) ps.length c] 24 ∧ lens false (plus x (p.len false)) (ps.drop (n + 1)) = lens false 0 ps from ⟨grew_trans R.out.1 g2, R.out.2.1.grew g2 (by simp), by
          have := R.out.2.2
          rw [drop_at HP.out.1, lens] at this
          exact this⟩)
        clear c0 c1 c2 c3 c4 c5 d0 d1 d2 d3 d4 d5 g2 R
        generalize hy : p.len false = y at *
        have HY := Lib.hid hy
        clear hy
        go_wp2_with fail
        go_roundw
        case rel => exact ⟨n + 1, plus x y, by omega, by go_num, rfl, HR2⟩
        case measure => simp [intOf]; omega
      · have HE := Lib.hid (show x = lens false 0 ps by
          have h3 := R.out.2.2
          have : n = ps.length := by omega
          rw [this, List.drop_length, lens] at h3
          exact h3)
        have HG := Lib.hid R.out.1
        clear R
        go_wp2_with fail
        go_ret
        exact ⟨by rw [← HE.out]; rfl, HG.out⟩
  all_goals
    go_enter Try.func47, Try.ntmps47
    go_wp2_with fail
    go_ret
    exact ⟨rfl, grew_alloc (grew_refl _ _) _⟩

end Go.Proofs.Ytibbeodcheefaaa


/- What is wrong with a form: the document's answer. -/
namespace Go.Proofs.Ytibbeodcheefaaa
open Go.RowKit Fo

theorem own1_any (w : World) (s l h t : Int) (A : Option Addr) (n c : Nat) :
    Calls Try.prog 45 #[.agg #[.int .i64 1, .int .i64 s, .int .i64 l, .int .i64 h, .int .i64 t, .slice A n c]] w fun e w' => e = .returned (.int .i64 (alone 1 s l h t n)) ∧ Grew w w' none := by
  rw [alone_12 (by omega)]
  by_cases h1 : s < 1
  · rw [if_neg (by omega)]; exact own1_small w s l h t A n c h1
  by_cases h3 : 3 < s
  · rw [if_neg (by omega)]; exact own1_wide w s l h t A n c h3
  rw [if_pos (by omega)]
  have key : s = 1 ∨ s = 2 ∨ s = 3 := by omega
  rcases key with rfl | rfl | rfl
  · have e0 : (256 : Int) ^ ((1 : Int).toNat) - 1 = 255 := by decide
    rw [e0]
    by_cases ha : l < 0
    · rw [if_neg (by omega)]; exact own1_1_a w l h t A n c ha
    by_cases hb : h < l
    · rw [if_neg (by omega)]; exact own1_1_b w l h t A n c (by omega) hb
    by_cases hc : 255 < h
    · rw [if_neg (by omega)]; exact own1_1_c w l h t A n c (by omega) (by omega) hc
    by_cases hd : t < 1
    · rw [if_neg (by omega)]; exact own1_1_d w l h t A n c (by omega) (by omega) (by omega) hd
    by_cases he : 65536 < t
    · rw [if_neg (by omega)]; exact own1_1_e w l h t A n c (by omega) (by omega) (by omega) he
    rw [if_pos (by omega)]
    rw [if_neg (by omega)]; exact own1_1_ok w l h t A n c (by omega) (by omega) (by omega) (by omega) (by omega)
  · have e0 : (256 : Int) ^ ((2 : Int).toNat) - 1 = 65535 := by decide
    rw [e0]
    by_cases ha : l < 0
    · rw [if_neg (by omega)]; exact own1_2_a w l h t A n c ha
    by_cases hb : h < l
    · rw [if_neg (by omega)]; exact own1_2_b w l h t A n c (by omega) hb
    by_cases hc : 65535 < h
    · rw [if_neg (by omega)]; exact own1_2_c w l h t A n c (by omega) (by omega) hc
    by_cases hd : t < 1
    · rw [if_neg (by omega)]; exact own1_2_d w l h t A n c (by omega) (by omega) (by omega) hd
    by_cases he : 65536 < t
    · rw [if_neg (by omega)]; exact own1_2_e w l h t A n c (by omega) (by omega) (by omega) he
    rw [if_pos (by omega)]
    rw [if_neg (by omega)]; exact own1_2_ok w l h t A n c (by omega) (by omega) (by omega) (by omega) (by omega)
  · have e0 : (256 : Int) ^ ((3 : Int).toNat) - 1 = 16777215 := by decide
    rw [e0]
    by_cases ha : l < 0
    · rw [if_neg (by omega)]; exact own1_3_a w l h t A n c ha
    by_cases hb : h < l
    · rw [if_neg (by omega)]; exact own1_3_b w l h t A n c (by omega) hb
    by_cases hc : 16777215 < h
    · rw [if_neg (by omega)]; exact own1_3_c w l h t A n c (by omega) (by omega) hc
    by_cases hd : t < 1
    · rw [if_neg (by omega)]; exact own1_3_d w l h t A n c (by omega) (by omega) (by omega) hd
    by_cases he : 65536 < t
    · rw [if_neg (by omega)]; exact own1_3_e w l h t A n c (by omega) (by omega) (by omega) he
    rw [if_pos (by omega)]
    rw [if_neg (by omega)]; exact own1_3_ok w l h t A n c (by omega) (by omega) (by omega) (by omega) (by omega)

theorem own2_any (w : World) (s l h t : Int) (A : Option Addr) (n c : Nat) :
    Calls Try.prog 45 #[.agg #[.int .i64 2, .int .i64 s, .int .i64 l, .int .i64 h, .int .i64 t, .slice A n c]] w fun e w' => e = .returned (.int .i64 (alone 2 s l h t n)) ∧ Grew w w' none := by
  rw [alone_12 (by omega)]
  by_cases h1 : s < 1
  · rw [if_neg (by omega)]; exact own2_small w s l h t A n c h1
  by_cases h3 : 3 < s
  · rw [if_neg (by omega)]; exact own2_wide w s l h t A n c h3
  rw [if_pos (by omega)]
  have key : s = 1 ∨ s = 2 ∨ s = 3 := by omega
  rcases key with rfl | rfl | rfl
  · have e0 : (256 : Int) ^ ((1 : Int).toNat) - 1 = 255 := by decide
    rw [e0]
    by_cases ha : l < 0
    · rw [if_neg (by omega)]; exact own2_1_a w l h t A n c ha
    by_cases hb : h < l
    · rw [if_neg (by omega)]; exact own2_1_b w l h t A n c (by omega) hb
    by_cases hc : 255 < h
    · rw [if_neg (by omega)]; exact own2_1_c w l h t A n c (by omega) (by omega) hc
    by_cases hd : t < 1
    · rw [if_neg (by omega)]; exact own2_1_d w l h t A n c (by omega) (by omega) (by omega) hd
    by_cases he : 65536 < t
    · rw [if_neg (by omega)]; exact own2_1_e w l h t A n c (by omega) (by omega) (by omega) he
    rw [if_pos (by omega)]
    by_cases hn : n = 1
    · rw [if_neg (by omega)]; exact own2_1_ok w l h t A n c (by omega) (by omega) (by omega) (by omega) (by omega) (by subst hn; rfl)
    · rw [if_pos (by omega)]; exact own2_1_many w l h t A n c (by omega) (by omega) (by omega) (by omega) (by omega) (ne_bne (by omega))
  · have e0 : (256 : Int) ^ ((2 : Int).toNat) - 1 = 65535 := by decide
    rw [e0]
    by_cases ha : l < 0
    · rw [if_neg (by omega)]; exact own2_2_a w l h t A n c ha
    by_cases hb : h < l
    · rw [if_neg (by omega)]; exact own2_2_b w l h t A n c (by omega) hb
    by_cases hc : 65535 < h
    · rw [if_neg (by omega)]; exact own2_2_c w l h t A n c (by omega) (by omega) hc
    by_cases hd : t < 1
    · rw [if_neg (by omega)]; exact own2_2_d w l h t A n c (by omega) (by omega) (by omega) hd
    by_cases he : 65536 < t
    · rw [if_neg (by omega)]; exact own2_2_e w l h t A n c (by omega) (by omega) (by omega) he
    rw [if_pos (by omega)]
    by_cases hn : n = 1
    · rw [if_neg (by omega)]; exact own2_2_ok w l h t A n c (by omega) (by omega) (by omega) (by omega) (by omega) (by subst hn; rfl)
    · rw [if_pos (by omega)]; exact own2_2_many w l h t A n c (by omega) (by omega) (by omega) (by omega) (by omega) (ne_bne (by omega))
  · have e0 : (256 : Int) ^ ((3 : Int).toNat) - 1 = 16777215 := by decide
    rw [e0]
    by_cases ha : l < 0
    · rw [if_neg (by omega)]; exact own2_3_a w l h t A n c ha
    by_cases hb : h < l
    · rw [if_neg (by omega)]; exact own2_3_b w l h t A n c (by omega) hb
    by_cases hc : 16777215 < h
    · rw [if_neg (by omega)]; exact own2_3_c w l h t A n c (by omega) (by omega) hc
    by_cases hd : t < 1
    · rw [if_neg (by omega)]; exact own2_3_d w l h t A n c (by omega) (by omega) (by omega) hd
    by_cases he : 65536 < t
    · rw [if_neg (by omega)]; exact own2_3_e w l h t A n c (by omega) (by omega) (by omega) he
    rw [if_pos (by omega)]
    by_cases hn : n = 1
    · rw [if_neg (by omega)]; exact own2_3_ok w l h t A n c (by omega) (by omega) (by omega) (by omega) (by omega) (by subst hn; rfl)
    · rw [if_pos (by omega)]; exact own2_3_many w l h t A n c (by omega) (by omega) (by omega) (by omega) (by omega) (ne_bne (by omega))

theorem own_any (w : World) (k s l h t : Int) (A : Option Addr) (n c : Nat) :
    Calls Try.prog 45 #[.agg #[.int .i64 k, .int .i64 s, .int .i64 l, .int .i64 h, .int .i64 t, .slice A n c]] w fun e w' => e = .returned (.int .i64 (alone k s l h t n)) ∧ Grew w w' none := by
  by_cases h0 : k = 0
  · subst h0
    by_cases hs : s = 1 ∨ s = 2 ∨ s = 3 ∨ s = 4 ∨ s = 8
    · have e : alone 0 s l h t n = 0 := by unfold alone; rw [if_pos rfl, if_pos hs]
      rw [e]
      rcases hs with rfl | rfl | rfl | rfl | rfl
      · exact own0_1 w l h t A n c
      · exact own0_2 w l h t A n c
      · exact own0_3 w l h t A n c
      · exact own0_4 w l h t A n c
      · exact own0_8 w l h t A n c
    · have e : alone 0 s l h t n = 3 := by unfold alone; rw [if_pos rfl, if_neg hs]
      rw [e]; exact own0_no w s l h t A n c (ne_bne (by omega)) (ne_bne (by omega)) (ne_bne (by omega)) (ne_bne (by omega)) (ne_bne (by omega))
  by_cases h4 : k = 4
  · subst h4
    have e : alone 4 s l h t n = if 0 ≤ l ∧ l ≤ h ∧ h ≤ 16777215 then 0 else 5 := by unfold alone; rw [if_neg (by omega), if_pos rfl]
    rw [e]
    by_cases ha : l < 0
    · rw [if_neg (by omega)]; exact own4_a w s l h t A n c ha
    by_cases hb : h < l
    · rw [if_neg (by omega)]; exact own4_b w s l h t A n c (by omega) hb
    by_cases hc : 16777215 < h
    · rw [if_neg (by omega)]; exact own4_c w s l h t A n c (by omega) (by omega) hc
    rw [if_pos (by omega)]; exact own4_ok w s l h t A n c (by omega) (by omega) (by omega)
  by_cases h5 : k = 5
  · subst h5
    have e : alone 5 s l h t n = if 0 ≤ l ∧ l ≤ 16777215 then 0 else 5 := by unfold alone; rw [if_neg (by omega), if_neg (by omega), if_pos rfl]
    rw [e]
    by_cases ha : l < 0
    · rw [if_neg (by omega)]; exact own5_a w s l h t A n c ha
    by_cases hb : 16777215 < l
    · rw [if_neg (by omega)]; exact own5_b w s l h t A n c (by omega) hb
    rw [if_pos (by omega)]; exact own5_ok w s l h t A n c (by omega) (by omega)
  by_cases h1 : k = 1
  · subst h1; exact own1_any w s l h t A n c
  by_cases h2 : k = 2
  · subst h2; exact own2_any w s l h t A n c
  by_cases h3 : k = 3
  · subst h3
    have e : alone 3 s l h t n = if n ≤ 32 then 0 else 15 := by unfold alone; rw [if_neg (by omega), if_neg (by omega), if_neg (by omega), if_neg (by omega), if_pos rfl]
    rw [e]
    by_cases hs : n ≤ 32
    · rw [if_pos hs]; exact own3_ok w s l h t A n c hs
    · rw [if_neg hs]; exact own3_no w s l h t A n c (by omega)
  have e : alone k s l h t n = 2 := by unfold alone; rw [if_neg h0, if_neg h4, if_neg h5, if_neg (by omega), if_neg h3]
  rw [e]
  by_cases hk : k < 0
  · exact own_neg w k s l h t A n c hk
  · exact own_big w k s l h t A n c (by omega)

/-- An open part where it may not stand. -/
theorem mis_true {k : Int} {ps : List Fo} {j : Nat} {p : Fo} (hk : k = 2 ∨ k = 3) (hj : ps[j]? = some p) (ho : p.opn = true) (hw : k = 2 ∨ j + 1 < ps.length) : mis k ps = true := by
  unfold mis
  by_cases h2 : k = 2
  · rw [if_pos h2, List.any_eq_true]
    exact ⟨p, List.mem_of_getElem? hj, by simp [ho]⟩
  · rw [if_neg h2, if_pos (by omega), List.any_eq_true]
    refine ⟨p, ?_, ho⟩
    have : ps.dropLast[j]? = some p := by rw [List.dropLast_eq_take, List.getElem?_take, if_pos (by omega)]; exact hj
    exact List.mem_of_getElem? this
/-- None of them. -/
def Shut (k : Int) (qs : List Fo) (i : Nat) : Prop := ∀ (j : Nat) (p : Fo), j < i → qs[j]? = some p → (k = 2 ∨ j + 1 < qs.length) → p.opn = false
theorem mis_three_false {ps : List Fo} (h : Shut 3 ps ps.length) : mis 3 ps = false := by
  unfold mis
  rw [if_neg (by omega), if_pos rfl, List.any_eq_false]
  intro p hp
  obtain ⟨j, hj⟩ := List.mem_iff_getElem?.1 hp
  rw [List.dropLast_eq_take, List.getElem?_take] at hj
  split at hj
  · have hl : j < ps.length := by
      rcases Nat.lt_or_ge j ps.length with h | h
      · exact h
      · rw [List.getElem?_eq_none h] at hj; cases hj
    have := h j p hl hj (.inr (by omega))
    simp [this]
  · cases hj
theorem mis_two_shut {p : Fo} (h : Shut 2 [p] 1) : mis 2 [p] = decide (p.len false = 0) := by
  have := h 0 p (by omega) rfl (.inl rfl)
  simp [mis, this]
theorem mis_else_false {k : Int} {ps : List Fo} (h : ¬ (k = 2 ∨ k = 3)) : mis k ps = false := by
  unfold mis
  rw [if_neg (by omega), if_neg (by omega)]

set_option maxRecDepth 100000 in
set_option maxHeartbeats 4000000 in
theorem rcheck_any (f : Fo) : ∀ (w : World), f.In w →
    Calls Try.prog 28 #[f.val] w fun e w' => e = .returned (.int .i64 f.wrg) ∧ Grew w w' none := by
  induction f using Fo.ind with
  | H k s l h t A c ps ih =>
  intro w hin
  obtain ⟨A', c', qs, hv, hqs, hlz, hlie, hmem⟩ := hin.inner
  have hW := wrg_eq k s l h t A c ps
  rw [hqs] at hW
  have h2 : k = 2 → alone k s l h t ps.length = 0 → ps.length = 1 := fun hk h0 => by subst hk; exact alone_two h0
  have hqk : (k = 2 ∨ k = 3) → qs = ps := fun hk => by rw [← hqs, inn, if_pos hk]
  have hqn : ¬ (k = 2 ∨ k = 3) → qs = [] := fun hk => by rw [← hqs, inn, if_neg hk]
  generalize hX : wrg (.mk k s l h t A c ps) = X at *
  have HX := Lib.hid hW
  have HAL := Lib.hid (fun w => own_any w k s l h t A ps.length c)
  have H2 := Lib.hid h2
  have HQK := Lib.hid hqk
  have HQN := Lib.hid hqn
  have IH := Lib.hid ih
  have HL := Lib.hid hlie
  have HM := Lib.hid hmem
  have HV := Lib.hid hv
  clear ih hlie hmem hv hqs hin hW h2 hX hqk hqn
  change Calls Try.prog 28 #[.agg #[.int .i64 k, .int .i64 s, .int .i64 l, .int .i64 h, .int .i64 t, .slice A ps.length c]] w _
  generalize alone k s l h t ps.length = E at *
  go_enter Try.func28, Try.ntmps28
  go_wp2_with fail
  refine (HAL.out _).mono ?_
  rintro e w1 ⟨rfl, g1⟩
  by_cases he : E = 0
  · have HX2 := Lib.hid (show X = if wrgs qs ≠ 0 then wrgs qs else if mis k ps then 15 else 0 by rw [HX.out, if_neg (by simpa using he)])
    have H21 := Lib.hid (show k = 2 → ps.length = 1 from fun hk => H2.out hk he)
    clear H2 HX
    subst he
    have hw1 := (Whole.new w #[.int .i64 k, .int .i64 s, .int .i64 l, .int .i64 h, .int .i64 t, .slice A ps.length c] 24).grew g1 (by simp)
    obtain ⟨c0, c1, c2, c3, c4, c5⟩ := hw1.six
    have HW1 := Lib.hid hw1
    have HG1 := Lib.hid (grew_trans (grew_alloc (grew_refl w none) _) g1)
    have HQ := Lib.hid (show ∃ q, q = w.heap.size from ⟨_, rfl⟩)
    clear g1 hw1
    generalize w.heap.size = q at *
    go_wp2_with fail
    refine (parts_any _ (.mk k s l h t A c ps)).mono ?_
    rintro e w2 ⟨rfl, g2⟩
    rw [HV.out]
    have HR := Lib.hid (show Grew w w2 none ∧ Whole w2 q #[.int .i64 k, .int .i64 s, .int .i64 l, .int .i64 h, .int .i64 t, .slice A ps.length c] 24 ∧ wrgs (qs.take 0) = 0 from ⟨grew_trans HG1.out g2, HW1.out.grew g2 (by simp), by simp [wrgs]⟩)
    clear g2 c0 c1 c2 c3 c4 c5 HAL
    go_wp2_with fail
    go_loopw [5] (fun i wr => ∃ n : Nat, n ≤ qs.length ∧ i = .int .i64 n ∧ Hid (Grew w wr none ∧ Whole wr q #[.int .i64 k, .int .i64 s, .int .i64 l, .int .i64 h, .int .i64 t, .slice A ps.length c] 24 ∧ wrgs (qs.take n) = 0)) (fun i _ => qs.length - (intOf i).toNat)
    case atStart => exact ⟨0, Nat.zero_le _, rfl, HR⟩
    case round =>
      obtain ⟨n, hn, rfl, R⟩ := hrel
      by_cases hlt : n < qs.length
      · obtain ⟨b, o, p, rfl, hp, hpm, c0, c1, c2, c3, c4, c5⟩ := (HL.out.grew R.out.1).at hlt
        have HP := Lib.hid (show qs[n]? = some p ∧ p ∈ qs from ⟨hp, hpm⟩)
        clear hp hpm
        go_wp2_with fail
        refine (IH.out p (HM.out p HP.out.2).1 _ ((HM.out p HP.out.2).2.grew R.out.1)).mono ?_
        rintro e w3 ⟨rfl, g3⟩
        have HG3 := Lib.hid (grew_trans R.out.1 g3)
        by_cases hd : wrg p = 0
        · have HR2 := Lib.hid (show Grew w w3 none ∧ Whole w3 q #[.int .i64 k, .int .i64 s, .int .i64 l, .int .i64 h, .int .i64 t, .slice A ps.length c] 24 ∧ wrgs (qs.take (n + 1)) = 0 from
            ⟨HG3.out, R.out.2.1.grew g3 (by simp), by rw [wrgs_take HP.out.1 R.out.2.2, hd]⟩)
          rw [hd]
          clear hd R g3 c0 c1 c2 c3 c4 c5 HG3
          go_wp2_with fail
          go_roundw
          case rel => exact ⟨n + 1, by omega, by go_num, HR2⟩
          case measure => simp [intOf]; omega
        · have HE := Lib.hid (show wrgs qs = wrg p from wrgs_some HP.out.1 R.out.2.2 hd)
          have hb := ne_beq hd
          have hb2 := ne_bne hd
          have HD := Lib.hid hd
          clear R g3 c0 c1 c2 c3 c4 c5
          generalize wrg p = y at *
          go_wp2_with fail
          go_ret
          refine ⟨?_, HG3.out⟩
          rw [HX2.out, HE.out, if_pos HD.out]
          rfl
      · have HE := Lib.hid (show wrgs qs = 0 by
          have h3 := R.out.2.2
          have : n = qs.length := by omega
          rw [this, List.take_length] at h3
          exact h3)
        have HX3 := Lib.hid (show X = if mis k ps then 15 else 0 by rw [HX2.out, HE.out, if_neg (by simp)])
        have HR5 := Lib.hid (show Grew w wr none ∧ Whole wr q #[.int .i64 k, .int .i64 s, .int .i64 l, .int .i64 h, .int .i64 t, .slice A ps.length c] 24 ∧ Shut k qs 0 from ⟨R.out.1, R.out.2.1, fun j p hj => by omega⟩)
        have hnq : n = qs.length := by omega
        subst hnq
        clear R HX2 HR
        go_wp2_with fail
        go_loopw [6] (fun i wr => ∃ n : Nat, n ≤ qs.length ∧ i = .int .i64 n ∧ Hid (Grew w wr none ∧ Whole wr q #[.int .i64 k, .int .i64 s, .int .i64 l, .int .i64 h, .int .i64 t, .slice A ps.length c] 24 ∧ Shut k qs n)) (fun i _ => qs.length - (intOf i).toNat)
        case atStart => exact ⟨0, Nat.zero_le _, rfl, HR5⟩
        case round =>
          obtain ⟨m, hm, rfl, R⟩ := hrel
          obtain ⟨d0, d1, d2, d3, d4, d5⟩ := R.out.2.1.six
          by_cases hlt2 : m < qs.length
          · have hk : k = 2 ∨ k = 3 := by
              by_cases hk : k = 2 ∨ k = 3
              · exact hk
              · have := HQN.out hk; rw [this] at hlt2; simp at hlt2
            have HQP := Lib.hid (HQK.out hk)
            obtain ⟨b, o, p, rfl, hp, hpm, c0, c1, c2, c3, c4, c5⟩ := (HL.out.grew R.out.1).at hlt2
            have HP := Lib.hid (show qs[m]? = some p ∧ p ∈ qs from ⟨hp, hpm⟩)
            have HK := Lib.hid hk
            clear hp hpm hk
            go_wp2_with fail
            refine (ropen_any p _ ((HM.out p HP.out.2).2.grew R.out.1)).mono ?_
            rintro e w3 ⟨rfl, g3⟩
            have HG3 := Lib.hid (grew_trans R.out.1 g3)
            have hw3 := R.out.2.1.grew g3 (by simp)
            obtain ⟨e0, e1, e2, e3, e4, e5⟩ := hw3.six
            have HW3 := Lib.hid hw3
            clear hw3 c0 c1 c2 c3 c4 c5 d0 d1 d2 d3 d4 d5 g3
            cases ho : p.opn with
            | true =>
              by_cases hk2 : k = 2
              · have HF := Lib.hid (show X = 15 by rw [HX3.out, mis_true HK.out (by rw [← HQP.out]; exact HP.out.1) ho (.inl hk2)]; rfl)
                subst hk2
                clear ho R
                go_wp2_with fail
                go_ret
                exact ⟨by rw [HF.out]; rfl, HG3.out⟩
              · have hb2 := ne_beq hk2
                by_cases hl1 : m + 1 < qs.length
                · have HF := Lib.hid (show X = 15 by rw [HX3.out, mis_true HK.out (by rw [← HQP.out]; exact HP.out.1) ho (.inr (by rw [← HQP.out]; exact hl1))]; rfl)
                  clear ho R
                  have hd1 : decide ((m : Int) + 1 < qs.length) = true := by simp; omega
                  go_wp2_with fail
                  go_ret
                  exact ⟨by rw [HF.out]; rfl, HG3.out⟩
                · have HR6 := Lib.hid (show Grew w w3 none ∧ Whole w3 q #[.int .i64 k, .int .i64 s, .int .i64 l, .int .i64 h, .int .i64 t, .slice A ps.length c] 24 ∧ Shut k qs (m + 1) from ⟨HG3.out, HW3.out, fun j p' hj hjp hw => by
                    rcases Nat.lt_or_ge j m with hjm | hjm
                    · exact R.out.2.2 j p' hjm hjp hw
                    · omega⟩)
                  clear ho R
                  have hd1 : decide ((m : Int) + 1 < qs.length) = false := by simp; omega
                  go_wp2_with fail
                  go_roundw
                  case rel => exact ⟨m + 1, by omega, by go_num, HR6⟩
                  case measure => simp [intOf]; omega
            | false =>
              have HR6 := Lib.hid (show Grew w w3 none ∧ Whole w3 q #[.int .i64 k, .int .i64 s, .int .i64 l, .int .i64 h, .int .i64 t, .slice A ps.length c] 24 ∧ Shut k qs (m + 1) from ⟨HG3.out, HW3.out, fun j p' hj hjp hw => by
                rcases Nat.lt_or_ge j m with hjm | hjm
                · exact R.out.2.2 j p' hjm hjp hw
                · have : j = m := by omega
                  subst this
                  rw [HP.out.1] at hjp
                  injection hjp with hjp
                  rw [← hjp]; exact ho⟩)
              clear ho R
              go_wp2_with fail
              go_roundw
              case rel => exact ⟨m + 1, by omega, by go_num, HR6⟩
              case measure => simp [intOf]; omega
          · have hmq : m = qs.length := by omega
            subst hmq
            by_cases hk2 : k = 2
            · have hqp : qs = ps := HQK.out (.inl hk2)
              have hl1 : ps.length = 1 := H21.out hk2
              have hq0 : 0 < qs.length := by rw [hqp]; omega
              obtain ⟨b, o, p, rfl, hp, hpm, c0, c1, c2, c3, c4, c5⟩ := (HL.out.grew R.out.1).at hq0
              have HPI := Lib.hid (show In wr p ∧ wrg p = 0 from ⟨(HM.out p hpm).2.grew R.out.1, wrgs_zero HE.out p hpm⟩)
              have HF := Lib.hid (show X = if p.len false = 0 then 15 else 0 by
                obtain ⟨p', rfl⟩ := List.length_eq_one_iff.1 hl1
                rw [hqp] at hp
                obtain rfl : p' = p := by simpa using hp
                have hsh := R.out.2.2
                rw [hqp, hk2] at hsh
                rw [HX3.out, hk2, mis_two_shut hsh]
                by_cases hz : p'.len false = 0
                · simp [hz]
                · simp [hz])
              have HG := Lib.hid R.out.1
              clear hqp hl1 hp hpm R H21 HQK HQN
              simp only [Nat.zero_mul, Nat.add_zero] at c0 c1 c2 c3 c4 c5
              subst hk2
              go_wp2_with fail
              refine (rleast_any p _ HPI.out.1 HPI.out.2).mono ?_
              rintro e w3 ⟨rfl, g3⟩
              have HG3 := Lib.hid (grew_trans HG.out g3)
              clear g3 c0 c1 c2 c3 c4 c5 d0 d1 d2 d3 d4 d5 HPI
              generalize p.len false = y at *
              by_cases hy : y = 0
              · rw [if_pos hy] at HF
                subst hy
                go_wp2_with fail
                go_ret
                exact ⟨by rw [HF.out]; rfl, HG3.out⟩
              · rw [if_neg hy] at HF
                have hb := ne_beq hy
                go_wp2_with fail
                go_ret
                exact ⟨by rw [HF.out]; rfl, HG3.out⟩
            · have hb2 := ne_beq hk2
              have HF := Lib.hid (show X = 0 by
                have hms : mis k ps = false := by
                  by_cases hk3 : k = 3
                  · have hsh := R.out.2.2
                    rw [HQK.out (.inr hk3), hk3] at hsh
                    rw [hk3]; exact mis_three_false hsh
                  · exact mis_else_false (by omega)
                rw [HX3.out, hms]; rfl)
              have HG := Lib.hid R.out.1
              clear R
              go_wp2_with fail
              go_ret
              exact ⟨by rw [HF.out]; rfl, HG.out⟩
  · have hb := ne_beq he
    have hb2 := ne_bne he
    have HG1 := Lib.hid (grew_trans (grew_alloc (grew_refl w none) _) g1)
    have HE := Lib.hid he
    clear g1
    go_wp2_with fail
    go_ret
    exact ⟨by rw [HX.out, if_pos HE.out]; rfl, HG1.out⟩

/-- Check: the document's. -/
theorem rchk_any (w : World) (f : Fo) (hf : f.In w) :
    Calls Try.prog 16 #[f.val] w fun e w' => e = .returned (.int .i64 f.chk) ∧ Grew w w' none := by
  have HD := Lib.hid (fun (w1 : World) (g : Grew w w1 none) => depth_any f 9 w1 (by omega) (by omega) (hf.grew g))
  have HW := Lib.hid (fun (w1 : World) (g : Grew w w1 none) => rcheck_any f w1 (hf.grew g))
  clear hf
  have hC : f.chk = if 8 < f.dep then 14 else f.wrg := rfl
  generalize f.chk = C at *
  rw [val_eq] at *
  by_cases hd : 8 < f.dep
  · rw [if_pos hd] at hC
    have hy : (8 : Int) < min (f.dep : Int) (9 + 1) := by omega
    generalize min (f.dep : Int) (9 + 1) = y at *
    subst hC
    clear hd
    go_enter Try.func16, Try.ntmps16
    go_wp2_with fail
    refine (HD.out _ (grew_alloc (grew_refl _ _) _)).mono ?_
    rintro e w1 ⟨rfl, g1⟩
    go_wp2_with fail
    go_ret
    exact ⟨rfl, grew_trans (grew_alloc (grew_refl _ _) _) g1⟩
  · rw [if_neg hd] at hC
    have hy : ¬ (8 : Int) < min (f.dep : Int) (9 + 1) := by omega
    generalize min (f.dep : Int) (9 + 1) = y at *
    subst hC
    clear hd
    go_enter Try.func16, Try.ntmps16
    go_wp2_with fail
    refine (HD.out _ (grew_alloc (grew_refl _ _) _)).mono ?_
    rintro e w1 ⟨rfl, g1⟩
    have hw1 := (Whole.new w #[.int .i64 f.k, .int .i64 f.s, .int .i64 f.l, .int .i64 f.h, .int .i64 f.t, .slice f.A f.ps.length f.c] 24).grew g1 (by simp)
    obtain ⟨c0, c1, c2, c3, c4, c5⟩ := hw1.six
    have HG := Lib.hid (grew_trans (grew_alloc (grew_refl w none) _) g1)
    clear hw1 g1
    go_wp2_with fail
    refine (HW.out _ HG.out).mono ?_
    rintro e w2 ⟨rfl, g2⟩
    go_wp2_with fail
    go_ret
    exact ⟨rfl, grew_trans HG.out g2⟩

end Go.Proofs.Ytibbeodcheefaaa


/- Rows of right forms: what Check, Least, Most and Open tell of them. -/
namespace Go.Proofs.Ytibbeodcheefaaa
open Go.RowKit Fo

theorem alone_12_bounds {k s l h t : Int} {n : Nat} (hk : k = 1 ∨ k = 2) (h0 : alone k s l h t n = 0) : 1 ≤ s ∧ s ≤ 3 ∧ 0 ≤ l ∧ l ≤ 16777215 := by
  rw [alone_12 hk] at h0
  by_cases h1 : 1 ≤ s ∧ s ≤ 3
  · rw [if_pos h1] at h0
    by_cases h2 : 0 ≤ l ∧ l ≤ h ∧ h ≤ 256 ^ s.toNat - 1 ∧ 1 ≤ t ∧ t ≤ 65536
    · have key : s = 1 ∨ s = 2 ∨ s = 3 := by omega
      have hp : (256 : Int) ^ s.toNat - 1 ≤ 16777215 := by rcases key with rfl | rfl | rfl <;> decide
      omega
    · rw [if_neg h2] at h0; omega
  · rw [if_neg h1] at h0; omega

theorem lens_bounds {M : Int} (hM : 0 ≤ M) : ∀ (ps : List Fo) (a : Int), 0 ≤ a → (∀ p ∈ ps, 0 ≤ p.len false ∧ p.len false ≤ M) → a + ps.length * M ≤ 4611686018427387904 → 0 ≤ lens false a ps ∧ lens false a ps ≤ a + ps.length * M := by
  intro ps
  induction ps with
  | nil => intro a ha _ hb; rw [lens]; simp at *; omega
  | cons p ps ih =>
    intro a ha hp hb
    obtain ⟨h1, h2⟩ := hp p (by simp)
    have hlen : (((p :: ps).length : Nat) : Int) * M = ps.length * M + M := by
      rw [List.length_cons]; push_cast; rw [Int.add_mul]; omega
    rw [hlen] at hb ⊢
    have hnn : 0 ≤ (ps.length : Int) * M := Int.mul_nonneg (by omega) hM
    have hpl : plus a (p.len false) = a + p.len false := plus_in (by omega) (by omega)
    rw [lens, hpl]
    have := ih (a + p.len false) (by omega) (fun q hq => hp q (by simp [hq])) (by omega)
    omega

theorem pow32_one (n : Nat) : (1 : Int) ≤ 32 ^ n := by
  induction n with
  | zero => simp
  | succ n ih => rw [Int.pow_succ]; omega
theorem pow32_le {n m : Nat} (h : n ≤ m) : (32 : Int) ^ n ≤ 32 ^ m := by
  obtain ⟨d, rfl⟩ := Nat.exists_eq_add_of_le h
  induction d with
  | zero => simp
  | succ d ih => rw [← Nat.add_assoc, Int.pow_succ]; have := pow32_one (n + d); have := ih (by omega); omega

/-- A right form's least length. -/
theorem right_len (f : Fo) : f.wrg = 0 → f.dep ≤ 8 → 0 ≤ f.len false ∧ f.len false ≤ 33554432 * 32 ^ (f.dep - 1) := by
  induction f using Fo.ind with
  | H k s l h t A c ps ih =>
  intro hw hd
  obtain ⟨ha, hq, _⟩ := wrg_zero hw
  have one : (1 : Int) ≤ 32 ^ (dep (.mk k s l h t A c ps) - 1) := pow32_one _
  have hl : len false (.mk k s l h t A c ps) = if k = 0 then s else if k = 1 ∨ k = 2 then plus s (if false then h else l) else if k = 3 then lens false 0 ps else if k = 4 then (if false then h else l) else l := by rw [len]
  rw [hl]
  rcases alone_kind ha with rfl | rfl | rfl | rfl | rfl | rfl
  · rw [if_pos rfl]
    unfold alone at ha
    rw [if_pos rfl] at ha
    split at ha
    · omega
    · omega
  · obtain ⟨h1, h2, h3, h4⟩ := alone_12_bounds (.inl rfl) ha
    rw [if_neg (by omega), if_pos (by omega)]
    have : plus s l = s + l := plus_in (by omega) (by omega)
    simp only [Bool.false_eq_true, if_false, this]
    omega
  · obtain ⟨h1, h2, h3, h4⟩ := alone_12_bounds (.inr rfl) ha
    rw [if_neg (by omega), if_pos (by omega)]
    have : plus s l = s + l := plus_in (by omega) (by omega)
    simp only [Bool.false_eq_true, if_false, this]
    omega
  · rw [if_neg (by omega), if_neg (by omega), if_pos rfl]
    have hn : ps.length ≤ 32 := by
      unfold alone at ha
      rw [if_neg (by omega), if_neg (by omega), if_neg (by omega), if_neg (by omega), if_pos rfl] at ha
      split at ha
      · assumption
      · omega
    have hdp : dep (.mk 3 s l h t A c ps) = deps ps + 1 := by rw [dep, if_pos (by omega)]
    rw [hdp] at hd ⊢
    have hin : inn (.mk 3 s l h t A c ps) = ps := by rw [inn, if_pos (by omega)]
    rw [hin] at hq
    by_cases h0 : deps ps = 0
    · have : ps = [] := by
        cases ps with
        | nil => rfl
        | cons p ps => have := dep_pos p; rw [deps] at h0; omega
      subst this
      rw [lens, h0]
      simp
    · obtain ⟨m, hm⟩ : ∃ m, deps ps = m + 1 := ⟨deps ps - 1, by omega⟩
      have hmono : ∀ p ∈ ps, 0 ≤ p.len false ∧ p.len false ≤ 33554432 * 32 ^ m := by
        intro p hp
        have hdl : dep p ≤ deps ps := deps_le.1 (Nat.le_refl _) p hp
        obtain ⟨h1, h2⟩ := ih p hp (hq p hp) (by omega)
        have : (32 : Int) ^ (dep p - 1) ≤ 32 ^ m := pow32_le (by omega)
        omega
      have hpos : (0 : Int) ≤ 32 ^ m := Int.pow_nonneg (by omega)
      have hM : (0 : Int) ≤ 33554432 * 32 ^ m := by omega
      have h32 : (32 : Int) ^ (m + 1) = 32 ^ m * 32 := Int.pow_succ _ _
      have hcap : (32 : Int) ^ m ≤ 32 ^ 6 := pow32_le (by omega)
      have h6 : (32 : Int) ^ 6 = 1073741824 := by decide
      have hmul : (ps.length : Int) * (33554432 * 32 ^ m) ≤ 32 * (33554432 * 32 ^ m) := Int.mul_le_mul_of_nonneg_right (by omega) hM
      have := lens_bounds hM ps 0 (by omega) hmono (by omega)
      have e : deps ps + 1 - 1 = m + 1 := by omega
      rw [e, h32]
      omega
  · rw [if_neg (by omega), if_neg (by omega), if_neg (by omega), if_pos rfl]
    unfold alone at ha
    rw [if_neg (by omega), if_pos rfl] at ha
    simp only [Bool.false_eq_true, if_false]
    split at ha
    · omega
    · omega
  · rw [if_neg (by omega), if_neg (by omega), if_neg (by omega), if_neg (by omega)]
    unfold alone at ha
    rw [if_neg (by omega), if_neg (by omega), if_pos rfl] at ha
    split at ha
    · omega
    · omega

theorem chk_zero {f : Fo} (h : f.chk = 0) : f.dep ≤ 8 ∧ f.wrg = 0 := by
  unfold chk at h
  split at h
  · omega
  · exact ⟨by omega, h⟩
theorem wrgs_all {ps : List Fo} (h : ∀ p ∈ ps, wrg p = 0) : wrgs ps = 0 := by
  induction ps with
  | nil => rw [wrgs]
  | cons p ps ih => rw [wrgs, h p (by simp), if_neg (by simp)]; exact ih (fun q hq => h q (by simp [hq]))

/-- A row of right forms, none but the last open. -/
theorem row_right {ps : List Fo} (hl : ps.length ≤ 32) (hp : ∀ p ∈ ps, p.chk = 0 ∧ p.dep ≤ 6) (hs : Shut 3 ps ps.length) (A : Option Addr) (c : Nat) :
    wrg (.mk 3 0 0 0 0 A c ps) = 0 ∧ dep (.mk 3 0 0 0 0 A c ps) ≤ 7 := by
  constructor
  · rw [wrg_eq]
    have ha : alone 3 0 0 0 0 ps.length = 0 := by unfold alone; rw [if_neg (by omega), if_neg (by omega), if_neg (by omega), if_neg (by omega), if_pos rfl, if_pos hl]
    have hi : inn (.mk 3 0 0 0 0 A c ps) = ps := by rw [inn, if_pos (by omega)]
    rw [ha, if_neg (by simp), hi, wrgs_all (fun p h => (chk_zero (hp p h).1).2), if_neg (by simp), mis_three_false hs]
    rfl
  · have : deps ps ≤ 6 := deps_le.2 (fun p h => (hp p h).2)
    rw [dep, if_pos (by omega)]
    omega
theorem row_chk {ps : List Fo} {A : Option Addr} {c : Nat} (h : wrg (.mk 3 0 0 0 0 A c ps) = 0 ∧ dep (.mk 3 0 0 0 0 A c ps) ≤ 7) : chk (.mk 3 0 0 0 0 A c ps) = 0 := by
  unfold chk; rw [if_neg (by omega)]; exact h.1
theorem row_len {ps : List Fo} {A : Option Addr} {c : Nat} (b : Bool) : len b (.mk 3 0 0 0 0 A c ps) = lens b 0 ps := by
  rw [len, if_neg (by omega), if_neg (by omega), if_pos rfl]
/-- A list of such a row. -/
theorem list_chk {ps : List Fo} {A B : Option Addr} {c d : Nat} (h : wrg (.mk 3 0 0 0 0 A c ps) = 0 ∧ dep (.mk 3 0 0 0 0 A c ps) ≤ 7) :
    chk (.mk 2 3 0 9 1 B d [.mk 3 0 0 0 0 A c ps]) = if opn (.mk 3 0 0 0 0 A c ps) = true ∨ lens false 0 ps = 0 then 15 else 0 := by
  have hl := row_len (ps := ps) (A := A) (c := c) false
  obtain ⟨h1, h2⟩ := h
  generalize Fo.mk 3 0 0 0 0 A c ps = r at *
  have hd : dep (.mk 2 3 0 9 1 B d [r]) ≤ 8 := by rw [dep, if_pos (by omega), deps, deps]; omega
  unfold chk
  rw [if_neg (by omega), wrg_eq]
  have ha : alone 2 3 0 9 1 [r].length = 0 := by rw [alone_12 (by omega), List.length_singleton]; decide
  have hi : inn (.mk 2 3 0 9 1 B d [r]) = [r] := by rw [inn, if_pos (by omega)]
  have hw : wrgs [r] = 0 := wrgs_all (fun p hp => by rw [List.mem_singleton] at hp; rw [hp]; exact h1)
  rw [ha, if_neg (by simp), hi, hw, if_neg (by simp)]
  have hm : mis 2 [r] = (r.opn || decide (lens false 0 ps = 0)) := by simp [mis, hl]
  rw [hm]
  by_cases h3 : r.opn = true
  · simp [h3]
  · by_cases h4 : lens false 0 ps = 0
    · simp [h4]
    · simp [h3, h4]
theorem row_opn {ps : List Fo} {A : Option Addr} {c : Nat} : opn (.mk 3 0 0 0 0 A c ps) = if 0 < ps.length then opnL ps else false := by
  rw [opn]
  by_cases h : 0 < ps.length
  · rw [if_pos ⟨rfl, h⟩, if_pos h]
  · rw [if_neg (by omega), if_neg h]; rfl

end Go.Proofs.Ytibbeodcheefaaa


/- Values: a tree, with where its bytes and its list lie; what the chapter's words tell of it. -/
namespace Go.Proofs.Ytibbeodcheefaaa
open Go.RowKit

/-- A value: its number, where its bytes lie, its bytes, where its list lies, its list. -/
inductive Va where
  | mk (n : Int) (B : Option Addr) (d : Nat) (bs : List UInt8) (A : Option Addr) (c : Nat) (ls : List Va)

namespace Va
def n : Va → Int | mk n _ _ _ _ _ _ => n
def B : Va → Option Addr | mk _ B _ _ _ _ _ => B
def d : Va → Nat | mk _ _ d _ _ _ _ => d
def bs : Va → List UInt8 | mk _ _ _ bs _ _ _ => bs
def A : Va → Option Addr | mk _ _ _ _ A _ _ => A
def c : Va → Nat | mk _ _ _ _ _ c _ => c
def ls : Va → List Va | mk _ _ _ _ _ _ ls => ls
/-- Its three cells. -/
def cells (v : Va) : Array Value := #[.int .u64 v.n, .slice v.B v.bs.length v.d, .slice v.A v.ls.length v.c]
def val (v : Va) : Value := .agg v.cells

theorem ind {P : Va → Prop} (H : ∀ n B d bs A c ls, (∀ p ∈ ls, P p) → P (mk n B d bs A c ls)) : ∀ v, P v
  | mk n B d bs A c ls => H n B d bs A c ls (fun p _ => ind H p)
termination_by v => SizeOf.sizeOf v
decreasing_by
  have := List.sizeOf_lt_of_mem ‹_›
  simp
  omega

/-- The slice at A holds the values (of none nothing is asked). -/
def Lie (w : World) (A : Option Addr) (ps : List Va) : Prop :=
  0 < ps.length → ∃ b o, A = some ⟨b, o, none⟩ ∧ ∀ (i : Nat) (p : Va), ps[i]? = some p → ∀ (j : Nat) (v : Value), p.cells[j]? = some v → w.cell? ⟨b, o + i * 3 + j, none⟩ = some v
theorem Lie.grew {w w' : World} {A : Option Addr} {ps : List Va} (h : Lie w A ps) (g : Grew w w' none) : Lie w' A ps := by
  intro hn
  obtain ⟨b, o, e, hcell⟩ := h hn
  exact ⟨b, o, e, fun i p hi j v hv => g.cell (hcell i p hi j v hv) (by simp)⟩
theorem Lie.fr {w w' : World} {F : Nat → Prop} {A : Option Addr} {ps : List Va} (h : Lie w A ps) (g : Fr w w' F) (hF : ∀ a, A = some a → ¬ F a.block) : Lie w' A ps := by
  intro hn
  obtain ⟨b, o, e, hcell⟩ := h hn
  exact ⟨b, o, e, fun i p hi j v hv => g.cell (hcell i p hi j v hv) (hF ⟨b, o, none⟩ e)⟩
theorem Lie.take {w : World} {A : Option Addr} {ps : List Va} (h : Lie w A ps) (n : Nat) : Lie w A (ps.take n) := by
  intro hn
  have hl : (ps.take n).length ≤ ps.length := List.length_take_le' _ _
  obtain ⟨b, o, e, hcell⟩ := h (by omega)
  refine ⟨b, o, e, fun i p hi j v hv => hcell i p ?_ j v hv⟩
  rw [List.getElem?_take] at hi
  split at hi
  · exact hi
  · cases hi
/-- The cells of values, one behind the other. -/
def flat (ps : List Va) : List Value := ps.flatMap (fun p => p.cells.toList)
theorem flat_length (ps : List Va) : (flat ps).length = ps.length * 3 := by
  induction ps with
  | nil => rfl
  | cons p ps ih =>
    have : flat (p :: ps) = p.cells.toList ++ flat ps := rfl
    rw [this, List.length_append, ih]; simp [cells]; omega
theorem flat_append (ps qs : List Va) : flat (ps ++ qs) = flat ps ++ flat qs := by simp [flat]
theorem flat_at {ps : List Va} {i : Nat} {p : Va} (h : ps[i]? = some p) {j : Nat} {v : Value} (hv : p.cells[j]? = some v) : (flat ps)[i * 3 + j]? = some v := by
  have hj : j < 3 := by
    rcases Nat.lt_or_ge j 3 with h | h
    · exact h
    · rw [Array.getElem?_eq_none (by simpa [cells] using h)] at hv; cases hv
  induction ps generalizing i with
  | nil => simp at h
  | cons q ps ih =>
    have hq : flat (q :: ps) = q.cells.toList ++ flat ps := rfl
    have hl : q.cells.toList.length = 3 := by simp [cells]
    rw [hq]
    cases i with
    | zero =>
      simp at h
      subst h
      rw [List.getElem?_append_left (by omega)]
      simpa using hv
    | succ i =>
      rw [List.getElem?_append_right (by omega), hl]
      have : (i + 1) * 3 + j - 3 = i * 3 + j := by omega
      rw [this]
      exact ih (by simpa using h)
theorem flat_lt {ps : List Va} {m : Nat} (h : m < (flat ps).length) : ∃ p, ps[m / 3]? = some p ∧ p.cells[m % 3]? = (flat ps)[m]? := by
  rw [flat_length] at h
  have hi : m / 3 < ps.length := by omega
  have hp : ps[m / 3]? = some ps[m / 3] := List.getElem?_eq_getElem hi
  refine ⟨ps[m / 3], hp, ?_⟩
  have hj : m % 3 < (ps[m / 3]).cells.size := by simp [cells]; omega
  rw [Array.getElem?_eq_getElem hj]
  have := flat_at hp (Array.getElem?_eq_getElem hj)
  rw [← this]
  congr 1
  omega
theorem flat_one (ps : List Va) : ∀ v ∈ flat ps, v.oneCell' = true := by
  intro v hv
  obtain ⟨p, _, hp⟩ := List.mem_flatMap.1 hv
  simp [cells] at hp
  rcases hp with rfl | rfl | rfl <;> rfl
/-- An owned row of values. -/
theorem Lie.of_own {w : World} {e : TypeId} {v : Value} {n : Nat} {ps : List Va} (h : w.ownsRow 0 e 3 v n (flat ps)) : ∃ A c, v = .slice A ps.length c ∧ ps.length ≤ c ∧ Lie w A ps := by
  have hl := h.1
  rw [flat_length] at hl
  have hn : n = ps.length := by omega
  subst hn
  rcases h.2 with ⟨rfl, h0⟩ | ⟨b, cap, cur, rfl, _, hh, hnc, _, hsz, ht⟩
  · exact ⟨none, 0, by rw [h0], by omega, fun h => by omega⟩
  · refine ⟨_, _, rfl, hnc, fun _ => ⟨b, 0, rfl, fun i p hi j v hv => ?_⟩⟩
    have hW : Whole w b cur e := hh
    have hil : i < ps.length := by
      rcases Nat.lt_or_ge i ps.length with h | h
      · exact h
      · rw [List.getElem?_eq_none h] at hi; cases hi
    have hj : j < 3 := by
      rcases Nat.lt_or_ge j 3 with h | h
      · exact h
      · rw [Array.getElem?_eq_none (by simpa [cells] using h)] at hv; cases hv
    have hf := flat_at hi hv
    rw [← ht, List.getElem?_take_of_lt (by omega)] at hf
    rw [hW.cell, Nat.zero_add, ← Array.getElem?_toList]
    exact hf
/-- A block of values. -/
theorem Lie.whole {w : World} {b : Nat} {cs : Array Value} {e : TypeId} {ps : List Va} (h : Whole w b cs e) (hf : cs.toList = flat ps) : Lie w (some ⟨b, 0, none⟩) ps := by
  refine fun _ => ⟨b, 0, rfl, fun i p hi j v hv => ?_⟩
  rw [h.cell, Nat.zero_add, ← Array.getElem?_toList, hf]
  exact flat_at hi hv
theorem Lie.nil (w : World) (A : Option Addr) : Lie w A [] := fun h => by simp at h

/-- Where its bytes and its list lie in memory. -/
inductive In (w : World) : Va → Prop
  | mk {n : Int} {B : Option Addr} {d : Nat} {bs : List UInt8} {A : Option Addr} {c : Nat} {ls : List Va} (hn : 0 ≤ n ∧ n ≤ 18446744073709551615) (hb : Byt w w.heap.size B bs) (hd : bs.length ≤ d ∧ bs.length ≤ 140737488355328)
      (hc : ls.length ≤ c) (hz : ls.length ≤ 2513169434916) (ha : Lie w A ls) (hp : ∀ p ∈ ls, In w p) : In w (.mk n B d bs A c ls)

theorem In.grew {w w' : World} {v : Va} (h : In w v) (g : Grew w w' none) : In w' v := by
  induction h with
  | mk hn hb hd hc hz ha _ ih =>
    exact .mk hn ((hb.grew g (fun _ h => by cases h)).more g.size) hd hc hz (ha.grew g) ih
theorem In.parts {w : World} {v : Va} (h : In w v) : ∀ p ∈ v.ls, In w p := by
  cases h with
  | mk _ _ _ _ _ _ hp => exact hp
theorem In.num {w : World} {v : Va} (h : In w v) : 0 ≤ v.n ∧ v.n ≤ 18446744073709551615 := by
  cases h with
  | mk hn _ _ _ _ _ _ => exact hn
theorem In.bytes {w : World} {v : Va} (h : In w v) : Byt w w.heap.size v.B v.bs ∧ v.bs.length ≤ v.d ∧ v.bs.length ≤ 140737488355328 := by
  cases h with
  | mk _ hb hd _ _ _ _ => exact ⟨hb, hd⟩
theorem In.list {w : World} {v : Va} (h : In w v) : Lie w v.A v.ls ∧ v.ls.length ≤ v.c ∧ v.ls.length ≤ 2513169434916 := by
  cases h with
  | mk _ _ _ hc hz ha _ => exact ⟨ha, hc, hz⟩

/-- The cells of a value that lies. -/
theorem Lie.at {w : World} {A : Option Addr} {ps : List Va} (H : Lie w A ps) {i : Nat} (hi : i < ps.length) :
    ∃ b o p, A = some ⟨b, o, none⟩ ∧ ps[i]? = some p ∧ p ∈ ps ∧ w.cell? ⟨b, o + i * 3, none⟩ = some (.int .u64 p.n) ∧ w.cell? ⟨b, o + i * 3 + 1, none⟩ = some (.slice p.B p.bs.length p.d) ∧
      w.cell? ⟨b, o + i * 3 + 2, none⟩ = some (.slice p.A p.ls.length p.c) := by
  obtain ⟨b, o, e, hcell⟩ := H (by omega)
  have he : ps[i]? = some ps[i] := List.getElem?_eq_getElem hi
  have hm : ps[i] ∈ ps := List.getElem_mem hi
  exact ⟨b, o, ps[i], e, he, hm, hcell i _ he 0 _ rfl, hcell i _ he 1 _ rfl, hcell i _ he 2 _ rfl⟩

mutual
/-- How many there are. -/
def cnt : Va → Nat
  | mk _ _ _ _ _ _ ls => cnts ls + 1
def cnts : List Va → Nat
  | [] => 0
  | p :: ps => cnt p + cnts ps
end
mutual
/-- How many bytes there are in all. -/
def byt : Va → Nat
  | mk _ _ _ bs _ _ ls => bs.length + byts ls
def byts : List Va → Nat
  | [] => 0
  | p :: ps => byt p + byts ps
end
mutual
/-- The same. -/
def same : Va → Va → Bool
  | mk n _ _ bs _ _ ls, u => decide (n = u.n) && decide (bs = u.bs) && decide (ls.length = u.ls.length) && sames ls u.ls
def sames : List Va → List Va → Bool
  | [], _ => true
  | _ :: _, [] => true
  | p :: ps, q :: qs => same p q && sames ps qs
end

theorem cnts_append (xs ys : List Va) : cnts (xs ++ ys) = cnts xs + cnts ys := by
  induction xs with
  | nil => simp [cnts]
  | cons x xs ih => simp [cnts, ih]; omega
theorem cnts_take {qs : List Va} {n : Nat} {p : Va} (h : qs[n]? = some p) : cnts (qs.take (n + 1)) = cnts (qs.take n) + cnt p := by
  rw [List.take_add_one, h, cnts_append]; simp [cnts]
theorem cnts_take_le (qs : List Va) (n : Nat) : cnts (qs.take n) ≤ cnts qs := by
  have := cnts_append (qs.take n) (qs.drop n)
  rw [List.take_append_drop] at this
  omega
theorem byts_append (xs ys : List Va) : byts (xs ++ ys) = byts xs + byts ys := by
  induction xs with
  | nil => simp [byts]
  | cons x xs ih => simp [byts, ih]; omega
theorem byts_take {qs : List Va} {n : Nat} {p : Va} (h : qs[n]? = some p) : byts (qs.take (n + 1)) = byts (qs.take n) + byt p := by
  rw [List.take_add_one, h, byts_append]; simp [byts]
theorem byts_take_le (qs : List Va) (n : Nat) : byts (qs.take n) ≤ byts qs := by
  have := byts_append (qs.take n) (qs.drop n)
  rw [List.take_append_drop] at this
  omega
theorem cnt_pos (v : Va) : 1 ≤ v.cnt := by
  cases v; simp only [cnt]; omega
theorem take_succ' {ps : List Va} {i : Nat} {p : Va} (h : ps[i]? = some p) : ps.take (i + 1) = ps.take i ++ [p] := by
  rw [List.take_add_one, h]; rfl
theorem drop_at {ps : List Va} {i : Nat} {p : Va} (h : ps[i]? = some p) : ps.drop i = p :: ps.drop (i + 1) := by
  obtain ⟨hi, rfl⟩ := List.getElem?_eq_some_iff.1 h
  exact List.drop_eq_getElem_cons hi

/-- Of answers (a size, an error) the sum, or the first error. -/
def tot : Int → List (Int × Int) → Int × Int
  | a, [] => (a, 0)
  | a, r :: rs => if r.2 = 0 then tot (Fo.plus a r.1) rs else (0, r.2)
/-- A length and so many bytes. -/
def wl (s l h t n : Int) : Int × Int := if l ≤ n ∧ n ≤ h ∧ n % t = 0 then (Fo.plus s n, 0) else (0, 5)
/-- Which field a kind's is. -/
def own (k : Int) : Nat := if k = 0 then 0 else if k = 2 ∨ k = 3 then 2 else 1
/-- Is a field neither 0 nor empty? -/
def fil (v : Va) (o : Nat) : Bool := if o = 0 then decide (v.n ≠ 0) else if o = 1 then decide (0 < v.bs.length) else decide (0 < v.ls.length)
/-- Is no other field filled? -/
def lonB (v : Va) (o : Nat) : Bool := (o == 0 || !fil v 0) && (o == 1 || !fil v 1) && (o == 2 || !fil v 2)
/-- Each of a list by the one form. -/
def each : List (Va → Int × Int) → List Va → List (Int × Int)
  | [], _ => []
  | g :: _, vs => vs.map g
/-- Each of a row by its own. -/
def pair : List (Va → Int × Int) → List Va → List (Int × Int)
  | g :: gs, v :: vs => g v :: pair gs vs
  | _, _ => []
/-- A list behind its length. -/
def behind (s l h t : Int) (r : Int × Int) : Int × Int := if r.2 = 0 then wl s l h t r.1 else (0, r.2)
/-- Of so many bytes. -/
def fitB (k s l h t : Int) (n : Nat) : Int × Int :=
  if k = 1 then wl s l h t n else if k = 4 then (if l ≤ n ∧ (n : Int) ≤ h then ((n : Int), 0) else (0, 5)) else (if (n : Int) = l then ((n : Int), 0) else (0, 5))

mutual
/-- The size of a value of a right form, or why it doesn't fit. -/
def fit : Fo → Va → Int × Int
  | .mk k s l h t _ _ ps, v =>
    if lonB v (own k) = false then (0, 15)
    else if k = 0 then (if v.n < 256 ^ s.toNat then (s, 0) else (0, 3))
    else if k = 2 then behind s l h t (tot 0 (each (fits ps) v.ls))
    else if k = 3 then (if v.ls.length = ps.length then tot 0 (pair (fits ps) v.ls) else (0, 15))
    else fitB k s l h t v.bs.length
def fits : List Fo → List (Va → Int × Int)
  | [] => []
  | p :: ps => fit p :: fits ps
end
/-- What a value's size is, and why it doesn't fit. -/
def meas (f : Fo) (v : Va) : Int × Int := if f.chk = 0 then fit f v else (0, f.chk)

theorem fits_map (ps : List Fo) : fits ps = ps.map fit := by
  induction ps with
  | nil => rfl
  | cons p ps ih => rw [fits, ih]; rfl
theorem pair_at {ps : List Fo} {vs : List Va} {i : Nat} {p : Fo} {v : Va} (hp : ps[i]? = some p) (hv : vs[i]? = some v) : (pair (fits ps) vs)[i]? = some (fit p v) := by
  induction ps generalizing vs i with
  | nil => simp at hp
  | cons q ps ih =>
    cases vs with
    | nil => simp at hv
    | cons u vs =>
      rw [fits, pair]
      cases i with
      | zero => simp at hp hv; subst hp hv; rfl
      | succ i => simp at hp hv ⊢; exact ih hp hv
theorem pair_length {ps : List Fo} {vs : List Va} (h : vs.length = ps.length) : (pair (fits ps) vs).length = ps.length := by
  induction ps generalizing vs with
  | nil => rfl
  | cons q ps ih =>
    cases vs with
    | nil => simp at h
    | cons u vs => rw [fits, pair]; simp at h ⊢; exact ih h
theorem dropL {α : Type} {xs : List α} {i : Nat} {x : α} (h : xs[i]? = some x) : xs.drop i = x :: xs.drop (i + 1) := by
  obtain ⟨hi, rfl⟩ := List.getElem?_eq_some_iff.1 h
  exact List.drop_eq_getElem_cons hi
end Va
end Go.Proofs.Ytibbeodcheefaaa


/- Contracts of the cursor's functions. -/
namespace Go.Proofs.Ytibbeodcheefaaa
open Go.RowKit

/-- A cursor: the slice of what is ahead, its place. -/
abbrev Cur (w : World) (p : Nat) (A : Option Addr) (n c : Nat) (at_ : Int) : Prop := Whole w p #[.slice A n c, .int .i64 at_] 101

set_option maxHeartbeats 400000 in
theorem new_any (A : Option Addr) (n c : Nat) (base : Int) (w : World) :
    Calls Try.prog 39 #[.slice A n c, .int .i64 base] w fun e w' => e = .returned (.pointer (some ⟨w.heap.size, 0, none⟩)) ∧ Cur w' w.heap.size A n c base ∧ Grew w w' none := by
  go_enter Try.func39, Try.ntmps39
  go_wp2
  go_ret
  exact ⟨rfl, Whole.new _ _ _, grew_alloc (grew_refl _ _) _⟩

set_option maxHeartbeats 400000 in
theorem at_any (w : World) (p : Nat) (A : Option Addr) (n c : Nat) (a : Int) (h : Cur w p A n c a) :
    Calls Try.prog 42 #[.pointer (some ⟨p, 0, none⟩)] w fun e w' => e = .returned (.int .i64 a) ∧ w = w' := by
  have h1 := h.cell 1
  have h0 := h.cell 0
  simp at h1 h0
  go_enter Try.func42, Try.ntmps42
  go_wp2
  go_ret
  exact ⟨rfl, rfl⟩


set_option maxHeartbeats 400000 in
theorem end_any (w : World) (p : Nat) (A : Option Addr) (n c : Nat) (a : Int) (h : Cur w p A n c a) (ha : 0 ≤ a) (hb : a + n ≤ 9223372036854775807) :
    Calls Try.prog 93 #[.pointer (some ⟨p, 0, none⟩)] w fun e w' => e = .returned (.int .i64 (a + n)) ∧ ∃ m, w' = w.drewN m := by
  have h1 := h.cell 1
  have h0 := h.cell 0
  simp at h1 h0
  have hw : IntKind.i64.wrap (a + n) = a + n := IntWalk.i64_in _ (by omega)
  go_enter Try.func93, Try.ntmps93
  go_wp2
  go_quiet (fail)
  go_wp2
  go_ret
  exact ⟨rfl, _, rfl⟩

set_option maxHeartbeats 400000 in
theorem left_any (w : World) (p : Nat) (A : Option Addr) (n c : Nat) (a : Int) (h : Cur w p A n c a) :
    Calls Try.prog 41 #[.pointer (some ⟨p, 0, none⟩)] w fun e w' => e = .returned (.int .i64 n) ∧ w = w' := by
  have h0 := h.cell 0
  simp at h0
  go_enter Try.func41, Try.ntmps41
  go_wp2
  go_ret
  exact ⟨rfl, rfl⟩

theorem Cur.moved {w : World} {p : Nat} {A : Option Addr} {n c : Nat} {a : Int} (h : Cur w p A n c a) (A' : Option Addr) (n' c' : Nat) (a' : Int) :
    Cur ((w.setCell ⟨p, 0, none⟩ (.slice A' n' c')).setCell ⟨p, 1, none⟩ (.int .i64 a')) p A' n' c' a' := by
  have := (h.set 0 (.slice A' n' c')).set 1 (.int .i64 a')
  simpa using this

set_option maxHeartbeats 400000 in
theorem pass_ok (w : World) (p : Nat) (A : Option Addr) (n c : Nat) (a : Int) (h : Cur w p A n c a) (k : Nat) (hk : k ≤ n) (hc : n ≤ c) (ha : 0 ≤ a) (hb : a + n ≤ 9223372036854775807) :
    Calls Try.prog 109 #[.pointer (some ⟨p, 0, none⟩), .int .i64 k] w fun e w' => e = .returned (.tuple #[.slice A k c, .int .i64 0]) ∧ Cur w' p (cutAt A c k) (n - k) (c - k) (a + k) ∧ Grew w w' (some p) ∧ w'.heap.size = w.heap.size := by
  have h1 := h.cell 1
  have h0 := h.cell 0
  have f0 := h.frozen 0
  have f1 := h.frozen 1
  simp at h1 h0
  have hg : ∀ u v, Grew w ((w.setCell ⟨p, 0, none⟩ u).setCell ⟨p, 1, none⟩ v) (some p) := fun u v => grew_set (grew_set (grew_refl _ _) _ _ _) _ _ _
  have Hg := Lib.hid hg
  have H := Lib.hid h
  clear hg h
  by_cases e : c = k
  · obtain rfl : k = c := e.symm
    go_enter Try.func109, Try.ntmps109
    go_wp2
    go_ret2
    refine ⟨rfl, ?_, Hg.out _ _, by simp⟩
    have := H.out.moved (cutAt A k k) (n - k) 0 (a + k)
    have e0 : n - k = 0 := by omega
    simpa [cutAt, e0] using this
  · go_enter Try.func109, Try.ntmps109
    go_wp2
    go_ret2
    refine ⟨rfl, ?_, Hg.out _ _, by simp⟩
    have := H.out.moved (cutAt A c k) (n - k) (c - k) (a + k)
    simpa [cutAt, e] using this

set_option maxHeartbeats 400000 in
theorem pass_short (w : World) (p : Nat) (A : Option Addr) (n c : Nat) (a : Int) (h : Cur w p A n c a) (k : Int) (hk : (n : Int) < k) :
    Calls Try.prog 109 #[.pointer (some ⟨p, 0, none⟩), .int .i64 k] w fun e w' => e = .returned (.tuple #[.slice none 0 0, .int .i64 4]) ∧ w = w' := by
  have h0 := h.cell 0
  simp at h0
  have h2 : ¬ k < 0 := by omega
  clear h
  go_enter Try.func109, Try.ntmps109
  go_wp2
  go_ret2
  exact ⟨rfl, rfl⟩

set_option maxHeartbeats 400000 in
theorem pass_arg (w : World) (p : Nat) (k : Int) (hk : k < 0) :
    Calls Try.prog 109 #[.pointer (some ⟨p, 0, none⟩), .int .i64 k] w fun e w' => e = .returned (.tuple #[.slice none 0 0, .int .i64 2]) ∧ w = w' := by
  go_enter Try.func109, Try.ntmps109
  go_wp2
  go_ret2
  exact ⟨rfl, rfl⟩

set_option maxHeartbeats 400000 in
theorem pass_nil (w : World) (k : Int) :
    Calls Try.prog 109 #[.pointer none, .int .i64 k] w fun e w' => e = .returned (.tuple #[.slice none 0 0, .int .i64 1]) ∧ w = w' := by
  go_enter Try.func109, Try.ntmps109
  go_wp2
  go_ret2
  exact ⟨rfl, rfl⟩


theorem info_u8 : (Try.prog.info? 5).map (fun i => (i.zero, i.size, i.bytes)) = some (some (.int .u8 0), 1, 1) := by kernel_rfl
theorem size_u8 : (Try.prog.info? 5).map (·.size) = some 1 := by kernel_rfl

theorem size_of_u8 (w : World) : (Go.sizeOf 5).run Try.prog w = .ok 1 w := by kernel_rfl
theorem elem_u8 : Try.prog.elem 26 = 5 := by simp [Program.elem, Try.underlying26]
/-- 'b[l:h]'. -/
theorem slice_run (w : World) (A : Option Addr) (n c l h : Nat) (hl : l ≤ h) (hh : h ≤ c) :
    (Instr.slice 26 (.slice A n c) (some (.int .i64 (l : Int))) (some (.int .i64 (h : Int))) none).run Try.prog w = .ok (.slice (cutAt A c l) (h - l) (c - l)) w := by
  have ht : Try.prog.underlying 26 = some (.slice (Try.prog.elem 26)) := by rw [elem_u8]; exact Try.underlying26
  rw [run_slice_lh w 26 A n c ht .i64 .i64 _ _ (by omega) (by omega) (by omega), elem_u8, size_of_u8]
  simp [Result.andThen, sliced, cutAt]

theorem Byt.of_whole {w : World} {g : Nat} {xs : List UInt8} {cs : Array Value} {t : TypeId} (h : Whole w g cs t) (hc : cs.toList = cellsOf xs) : Byt w (g + 1) (some ⟨g, 0, none⟩) xs := by
  intro _
  refine ⟨g, 0, rfl, by omega, fun i hi => ?_⟩
  rw [h.cell, ← Array.getElem?_toList, hc, Nat.zero_add, cellsOf_at _ _ hi]

theorem Byt.src {w : World} {B : Nat} {A : Option Addr} {xs : List UInt8} (h : Byt w B A xs) : 0 < (cellsOf xs).length → ∃ ad, A = some ad ∧ ∀ j v, (cellsOf xs)[j]? = some v → w.cell? (ad.add j) = some v := by
  intro hn
  rw [cellsOf_length] at hn
  obtain ⟨b, o, rfl, _, hc⟩ := h hn
  refine ⟨_, rfl, fun j v hj => ?_⟩
  have hj' : j < xs.length := by
    rcases Nat.lt_or_ge j xs.length with h | h
    · exact h
    · rw [List.getElem?_eq_none (by rw [cellsOf_length]; exact h)] at hj; cases hj
  rw [cellsOf_at _ _ hj'] at hj
  have e : (⟨b, o, none⟩ : Addr).add j = ⟨b, o + j, none⟩ := by
    unfold Addr.add
    split <;> simp_all
  rw [e, hc j hj']
  exact hj

theorem splice_all {α : Type} (L cs : List α) (h : cs.length = L.length) : splice L 0 cs = cs := by
  simp [splice, h]

set_option maxHeartbeats 1000000 in
theorem take_ok (w : World) (p : Nat) (A : Option Addr) (n c : Nat) (a : Int) (h : Cur w p A n c a) (k : Nat) (hk : k ≤ n) (hc : n ≤ c) (ha : 0 ≤ a) (hb : a + n ≤ 9223372036854775807) (hm : n ≤ 140737488355328)
    (B : Nat) (xs : List UInt8) (hx : Byt w B A xs) (hl : xs.length = n) (hB : B ≤ p) :
    Calls Try.prog 110 #[.pointer (some ⟨p, 0, none⟩), .int .i64 k] w fun e w' => e = .returned (.tuple #[.slice (some ⟨w.heap.size, 0, none⟩) k k, .int .i64 0]) ∧ Cur w' p (cutAt A c k) (n - k) (c - k) (a + k) ∧
      Byt w' (w.heap.size + 1) (some ⟨w.heap.size, 0, none⟩) (xs.take k) ∧ Grew w w' (some p) ∧ w.heap.size < w'.heap.size := by
  have hp := h.lt
  have H := Lib.hid h
  have Hx := Lib.hid hx
  have Hl := Lib.hid hl
  clear h hx hl
  go_enter Try.func110, Try.ntmps110
  go_wp2_with fail
  refine (pass_ok w p A n c a H.out k hk hc ha hb).mono ?_
  rintro e w1 ⟨rfl, h1, g1, s1⟩
  have H1 := Lib.hid h1
  have S1 := Lib.hid s1
  clear h1 s1
  have hmk := run_make_row' (P := Try.prog) 26 5 (.int .u8 0) 1 Try.underlying26 info_u8 rfl .i64 .i64 k (by omega) (by omega)
  have hx1 : Byt (w1.alloc (.cells (madeCells #[.int .u8 0] k) 5)) B A (xs.take k) := ((Hx.out.grew g1 (fun q hq => by cases hq; exact hB)).take k).grew (grew_alloc (grew_refl _ none) _) (fun q hq => by cases hq)
  have Hx1 := Lib.hid hx1
  clear hx1
  go_wp2_with (with_reducible refine wpList_copy_splice (o := ⟨some 23, _, _, _, _, _⟩) rfl (.tmp 21) (.tmp 22) 26 26 rfl 5 Try.underlying26 size_u8 (some ⟨w1.heap.size, 0, none⟩) A k k k c rfl rfl w1.heap.size 0 (List.replicate k (.int .u8 0)) 5 ?hg (cellsOf (xs.take k)) ?hn ?hpos ?hfit ?h1 w1.heap.size w1 ?hb ?hBg ?K)
  case hg => rw [← toList_madeCells_one, Array.toArray_toList]; exact heap_alloc_new _ _
  case hn => have := Hl.out; rw [cellsOf_length, List.length_take]; simp; omega
  case hpos => exact Hx1.out.src
  case hfit => rw [cellsOf_length, List.length_take]; simp; omega
  case h1 => exact cellsOf_one _
  case hb => exact (Below.refl _ _).alloc (Nat.le_refl _) _
  case hBg => exact Nat.le_refl _
  case K =>
    intro w2 hw2 hb2
    go_wp2
    go_ret2
    have hl2 : (cellsOf (xs.take k)).length = k := by have := Hl.out; rw [cellsOf_length, List.length_take]; omega
    have hw : Whole w2 w1.heap.size (cellsOf (xs.take k)).toArray 5 := by
      have := hw2.out
      rw [splice_all _ _ (by simp [hl2])] at this
      exact this
    have g2 : Grew w1 w2 none := ⟨hb2.os, hb2.tape, hb2.output, hb2.size, fun i hi _ => hb2.block i hi⟩
    have e1 := S1.out
    rw [e1] at hw
    refine ⟨by simp [e1], H1.out.grew g2 (by simp), Byt.of_whole hw (by simp), grew_trans g1 (grew_weak g2), hw.lt⟩


set_option maxHeartbeats 400000 in
theorem take_short (w : World) (p : Nat) (A : Option Addr) (n c : Nat) (a : Int) (h : Cur w p A n c a) (k : Int) (hk : (n : Int) < k) :
    Calls Try.prog 110 #[.pointer (some ⟨p, 0, none⟩), .int .i64 k] w fun e w' => e = .returned (.tuple #[.slice none 0 0, .int .i64 4]) ∧ w = w' := by
  have H := Lib.hid h
  clear h
  go_enter Try.func110, Try.ntmps110
  go_wp2_with fail
  refine (pass_short w p A n c a H.out k hk).mono ?_
  rintro e w1 ⟨rfl, rfl⟩
  go_wp2_with fail
  go_ret2
  exact ⟨rfl, rfl⟩

set_option maxHeartbeats 400000 in
theorem take_arg (w : World) (p : Nat) (k : Int) (hk : k < 0) :
    Calls Try.prog 110 #[.pointer (some ⟨p, 0, none⟩), .int .i64 k] w fun e w' => e = .returned (.tuple #[.slice none 0 0, .int .i64 2]) ∧ w = w' := by
  go_enter Try.func110, Try.ntmps110
  go_wp2_with fail
  refine (pass_arg w p k hk).mono ?_
  rintro e w1 ⟨rfl, rfl⟩
  go_wp2_with fail
  go_ret2
  exact ⟨rfl, rfl⟩

set_option maxHeartbeats 400000 in
theorem take_nil (w : World) (k : Int) :
    Calls Try.prog 110 #[.pointer none, .int .i64 k] w fun e w' => e = .returned (.tuple #[.slice none 0 0, .int .i64 1]) ∧ w = w' := by
  go_enter Try.func110, Try.ntmps110
  go_wp2_with fail
  refine (pass_nil w k).mono ?_
  rintro e w1 ⟨rfl, rfl⟩
  go_wp2_with fail
  go_ret2
  exact ⟨rfl, rfl⟩

set_option maxHeartbeats 400000 in
theorem at_nil (w : World) : Calls Try.prog 42 #[.pointer none] w fun e w' => e = .returned (.int .i64 0) ∧ w = w' := by
  go_enter Try.func42, Try.ntmps42
  go_wp2
  go_ret
  exact ⟨rfl, rfl⟩

set_option maxHeartbeats 400000 in
theorem end_nil (w : World) : Calls Try.prog 93 #[.pointer none] w fun e w' => e = .returned (.int .i64 0) ∧ w = w' := by
  go_enter Try.func93, Try.ntmps93
  go_wp2
  go_ret
  exact ⟨rfl, rfl⟩

set_option maxHeartbeats 400000 in
theorem left_nil (w : World) : Calls Try.prog 41 #[.pointer none] w fun e w' => e = .returned (.int .i64 0) ∧ w = w' := by
  go_enter Try.func41, Try.ntmps41
  go_wp2
  go_ret
  exact ⟨rfl, rfl⟩

set_option maxHeartbeats 400000 in
theorem sub_ok (w : World) (p : Nat) (A : Option Addr) (n c : Nat) (a : Int) (h : Cur w p A n c a) (k : Nat) (hk : k ≤ n) (hc : n ≤ c) (ha : 0 ≤ a) (hb : a + n ≤ 9223372036854775807) :
    Calls Try.prog 96 #[.pointer (some ⟨p, 0, none⟩), .int .i64 k] w fun e w' => e = .returned (.tuple #[.pointer (some ⟨w.heap.size, 0, none⟩), .int .i64 0]) ∧ Cur w' p (cutAt A c k) (n - k) (c - k) (a + k) ∧
      Cur w' w.heap.size A k c a ∧ Grew w w' (some p) ∧ w.heap.size < w'.heap.size := by
  have hp := h.lt
  have H := Lib.hid h
  clear h
  go_enter Try.func96, Try.ntmps96
  go_wp2_with fail
  refine (at_any w p A n c a H.out).mono ?_
  rintro e w0 ⟨rfl, rfl⟩
  go_wp2_with fail
  refine (pass_ok w p A n c a H.out k hk hc ha hb).mono ?_
  rintro e w1 ⟨rfl, h1, g1, s1⟩
  have H1 := Lib.hid h1
  have S1 := Lib.hid s1
  clear h1 s1
  go_wp2_with fail
  refine (new_any A k c a w1).mono ?_
  rintro e w2 ⟨rfl, h2, g2⟩
  have H2 := Lib.hid h2
  clear h2
  go_wp2_with fail
  go_ret2
  have e1 := S1.out
  have h2 := H2.out
  rw [e1] at h2
  exact ⟨by simp [e1], H1.out.grew g2 (by simp), h2, grew_trans g1 (grew_weak g2), h2.lt⟩

set_option maxHeartbeats 400000 in
theorem sub_short (w : World) (p : Nat) (A : Option Addr) (n c : Nat) (a : Int) (h : Cur w p A n c a) (k : Int) (hk : (n : Int) < k) :
    Calls Try.prog 96 #[.pointer (some ⟨p, 0, none⟩), .int .i64 k] w fun e w' => e = .returned (.tuple #[.pointer none, .int .i64 4]) ∧ w = w' := by
  have H := Lib.hid h
  clear h
  go_enter Try.func96, Try.ntmps96
  go_wp2_with fail
  refine (at_any w p A n c a H.out).mono ?_
  rintro e w0 ⟨rfl, rfl⟩
  go_wp2_with fail
  refine (pass_short w p A n c a H.out k hk).mono ?_
  rintro e w1 ⟨rfl, rfl⟩
  go_wp2_with fail
  go_ret2
  exact ⟨rfl, rfl⟩

set_option maxHeartbeats 400000 in
theorem sub_arg (w : World) (p : Nat) (A : Option Addr) (n c : Nat) (a : Int) (h : Cur w p A n c a) (k : Int) (hk : k < 0) :
    Calls Try.prog 96 #[.pointer (some ⟨p, 0, none⟩), .int .i64 k] w fun e w' => e = .returned (.tuple #[.pointer none, .int .i64 2]) ∧ w = w' := by
  have H := Lib.hid h
  clear h
  go_enter Try.func96, Try.ntmps96
  go_wp2_with fail
  refine (at_any w p A n c a H.out).mono ?_
  rintro e w0 ⟨rfl, rfl⟩
  go_wp2_with fail
  refine (pass_arg w p k hk).mono ?_
  rintro e w1 ⟨rfl, rfl⟩
  go_wp2_with fail
  go_ret2
  exact ⟨rfl, rfl⟩

set_option maxHeartbeats 400000 in
theorem sub_nil (w : World) (k : Int) :
    Calls Try.prog 96 #[.pointer none, .int .i64 k] w fun e w' => e = .returned (.tuple #[.pointer none, .int .i64 1]) ∧ w = w' := by
  go_enter Try.func96, Try.ntmps96
  go_wp2_with fail
  refine (at_nil w).mono ?_
  rintro e w0 ⟨rfl, rfl⟩
  go_wp2_with fail
  refine (pass_nil w k).mono ?_
  rintro e w1 ⟨rfl, rfl⟩
  go_wp2_with fail
  go_ret2
  exact ⟨rfl, rfl⟩

/-- The sizes that a number may have. -/
def sizeOk (k : Int) : Prop := k = 1 ∨ k = 2 ∨ k = 3 ∨ k = 4 ∨ k = 8
instance (k : Int) : Decidable (sizeOk k) := by unfold sizeOk; infer_instance

set_option maxHeartbeats 400000 in
theorem isnum_yes (w : World) (k : Int) (hk : sizeOk k) : Calls Try.prog 108 #[.int .i64 k] w fun e w' => e = .returned (.bool true) ∧ w = w' := by
  rcases hk with rfl | rfl | rfl | rfl | rfl
  all_goals
    go_enter Try.func108, Try.ntmps108
    go_wp2
    go_ret
    exact ⟨rfl, rfl⟩

set_option maxHeartbeats 400000 in
theorem isnum_no (w : World) (k : Int) (hk : ¬ sizeOk k) : Calls Try.prog 108 #[.int .i64 k] w fun e w' => e = .returned (.bool false) ∧ w = w' := by
  unfold sizeOk at hk
  have h1 : (k == 1) = false := by simp; omega
  have h2 : (k == 2) = false := by simp; omega
  have h3 : (k == 3) = false := by simp; omega
  have h4 : (k == 4) = false := by simp; omega
  have h8 : (k == 8) = false := by simp; omega
  clear hk
  go_enter Try.func108, Try.ntmps108
  go_wp2
  go_ret
  exact ⟨rfl, rfl⟩

end Go.Proofs.Ytibbeodcheefaaa


/- Contracts of the cursor's Number. -/
namespace Go.Proofs.Ytibbeodcheefaaa
open Go.RowKit

/-- What bytes are, the highest first. -/
def num (xs : List UInt8) : Nat := xs.foldl (fun a x => a * 256 + x.toNat) 0
theorem num_nil : num [] = 0 := rfl
theorem num_snoc (xs : List UInt8) (x : UInt8) : num (xs ++ [x]) = num xs * 256 + x.toNat := by simp [num]
theorem num_lt (xs : List UInt8) : num xs < 256 ^ xs.length := by
  have key : ∀ (l : List UInt8), num l.reverse < 256 ^ l.length := by
    intro l
    induction l with
    | nil => simp [num]
    | cons x l ih =>
      rw [List.reverse_cons, num_snoc, List.length_cons, Nat.pow_succ]
      have := x.toNat_lt
      omega
  have := key xs.reverse
  simpa using this
theorem take_one_more (xs : List UInt8) (i : Nat) (h : i < xs.length) : xs.take (i + 1) = xs.take i ++ [xs.getD i 0] := by
  rw [List.take_succ_eq_append_getElem h]
  simp [List.getD, List.getElem?_eq_getElem h]
theorem num_step (xs : List UInt8) (i : Nat) (h : i < xs.length) : num (xs.take (i + 1)) = num (xs.take i) * 256 + (xs.getD i 0).toNat := by
  rw [take_one_more xs i h, num_snoc]
theorem num_bound (xs : List UInt8) (i : Nat) (h : i < 8) : num (xs.take i) < 72057594037927936 := by
  have h1 := num_lt (xs.take i)
  have h2 : (xs.take i).length ≤ 7 := by rw [List.length_take]; omega
  have h3 : 256 ^ (xs.take i).length ≤ 256 ^ 7 := Nat.pow_le_pow_right (by decide) h2
  have h4 : 256 ^ 7 = 72057594037927936 := by decide
  omega
theorem byte_lt (xs : List UInt8) (i : Nat) : (xs.getD i 0).toNat < 256 := (xs.getD i 0).toNat_lt

theorem or_byte (a b : Nat) (ha : a < 72057594037927936) (hb : b < 256) : bits .or .u64 ((a : Int) * 256) (IntKind.u64.wrap (b : Int)) = ((a * 256 + b : Nat) : Int) := by
  have e1 : IntKind.u64.wrap (b : Int) = (b : Int) := IntWalk.u64_in _ (by omega)
  have e2 : ((a : Int) * 256) = ((a * 256 : Nat) : Int) := by omega
  rw [e1, e2, u64_or_nat _ _ (by omega) (by omega)]
  have := Nat.two_pow_add_eq_or_of_lt (i := 8) (b := b) (by omega) a
  have e3 : 2 ^ 8 * a = a * 256 := by omega
  rw [e3] at this
  rw [this]

set_option maxHeartbeats 1000000 in
theorem number_ok (w : World) (p : Nat) (A : Option Addr) (n c : Nat) (a : Int) (h : Cur w p A n c a) (k : Nat) (hs : sizeOk k) (hk : k ≤ n) (hc : n ≤ c) (ha : 0 ≤ a) (hb : a + n ≤ 9223372036854775807)
    (B : Nat) (xs : List UInt8) (hx : Byt w B A xs) (hl : xs.length = n) (hB : B ≤ p) :
    Calls Try.prog 92 #[.pointer (some ⟨p, 0, none⟩), .int .i64 k] w fun e w' => e = .returned (.tuple #[.int .u64 (num (xs.take k)), .int .i64 0]) ∧ Cur w' p (cutAt A c k) (n - k) (c - k) (a + k) ∧
      Grew w w' (some p) ∧ w'.heap.size = w.heap.size := by
  have hk8 : k ≤ 8 := by unfold sizeOk at hs; omega
  have hk0 : 0 < k := by unfold sizeOk at hs; omega
  have H := Lib.hid h
  have Hx := Lib.hid hx
  have Hl := Lib.hid hl
  have Hs := Lib.hid hs
  clear h hx hl hs
  go_enter Try.func92, Try.ntmps92
  go_wp2_with fail
  refine (isnum_yes w k Hs.out).mono ?_
  rintro e w0 ⟨rfl, rfl⟩
  go_wp2_with fail
  refine (pass_ok w p A n c a H.out k hk hc ha hb).mono ?_
  rintro e w1 ⟨rfl, h1, g1, s1⟩
  have H1 := Lib.hid h1
  have S1 := Lib.hid s1
  clear h1 s1
  obtain ⟨b, o, rfl, hb', hcell⟩ := (Hx.out.grew g1 (fun q hq => by cases hq; exact hB)) (by have := Hl.out; omega)
  have Hc := Lib.hid hcell
  clear hcell
  go_wp2_with fail
  go_loop [8, 25] (fun x i => ∃ j : Nat, j ≤ k ∧ i = .int .i64 j ∧ x = .int .u64 (num (xs.take j))) (fun _ i => k - (intOf i).toNat)
  case atStart => exact ⟨0, Nat.zero_le _, rfl, rfl⟩
  case round =>
    obtain ⟨j, hj, rfl, rfl⟩ := hrel
    by_cases hlt : j < k
    · have hcj := Hc.out j (by have := Hl.out; omega)
      have hb1 := num_bound xs j (by omega)
      have hb2 := byte_lt xs j
      have HS := Lib.hid (num_step xs j (by have := Hl.out; omega))
      have HO := Lib.hid (or_byte _ _ hb1 hb2)
      go_wp2
      go_round
      case rel => exact ⟨j + 1, by omega, by go_num, by rw [HS.out]; exact congrArg (Value.int .u64) HO.out⟩
      case measure => simp [intOf]; omega
    · obtain rfl : j = k := by omega
      go_wp2
      go_ret2
      exact ⟨rfl, H1.out, g1, S1.out⟩

set_option maxHeartbeats 400000 in
theorem number_short (w : World) (p : Nat) (A : Option Addr) (n c : Nat) (a : Int) (h : Cur w p A n c a) (k : Int) (hs : sizeOk k) (hk : (n : Int) < k) :
    Calls Try.prog 92 #[.pointer (some ⟨p, 0, none⟩), .int .i64 k] w fun e w' => e = .returned (.tuple #[.int .u64 0, .int .i64 4]) ∧ w = w' := by
  have H := Lib.hid h
  have Hs := Lib.hid hs
  clear h hs
  go_enter Try.func92, Try.ntmps92
  go_wp2_with fail
  refine (isnum_yes w k Hs.out).mono ?_
  rintro e w0 ⟨rfl, rfl⟩
  go_wp2_with fail
  refine (pass_short w p A n c a H.out k hk).mono ?_
  rintro e w1 ⟨rfl, rfl⟩
  go_wp2_with fail
  go_ret2
  exact ⟨rfl, rfl⟩

set_option maxHeartbeats 400000 in
theorem number_arg (w : World) (p : Nat) (k : Int) (hs : ¬ sizeOk k) :
    Calls Try.prog 92 #[.pointer (some ⟨p, 0, none⟩), .int .i64 k] w fun e w' => e = .returned (.tuple #[.int .u64 0, .int .i64 2]) ∧ w = w' := by
  have Hs := Lib.hid hs
  clear hs
  go_enter Try.func92, Try.ntmps92
  go_wp2_with fail
  refine (isnum_no w k Hs.out).mono ?_
  rintro e w0 ⟨rfl, rfl⟩
  go_wp2_with fail
  go_ret2
  exact ⟨rfl, rfl⟩

set_option maxHeartbeats 400000 in
theorem number_nil (w : World) (k : Int) :
    Calls Try.prog 92 #[.pointer none, .int .i64 k] w fun e w' => e = .returned (.tuple #[.int .u64 0, .int .i64 1]) ∧ w = w' := by
  go_enter Try.func92, Try.ntmps92
  go_wp2_with fail
  go_ret2
  exact ⟨rfl, rfl⟩

end Go.Proofs.Ytibbeodcheefaaa

