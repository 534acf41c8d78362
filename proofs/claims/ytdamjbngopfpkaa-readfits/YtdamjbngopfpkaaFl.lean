/- Forms that are open, and their lengths. -/
import Derived.Test.YtdamjbngopfpkaaFm
import Derived.Test.YtdamjbngopfpkaaPad
namespace Go.Proofs.Ytdamjbngopfpkaa
open Go.RowKit Fo

set_option maxHeartbeats 1000000 in
theorem open_any (f : Fo) : ∀ (w : World), f.In w →
    Calls Try.prog 64 #[f.val] w fun e w' => e = .returned (.bool f.opn) ∧ Grew w w' none := by
  induction f using Fo.ind with
  | H k s l h t A c ps ih =>
  intro w hin
  have HIN := Lib.hid hin
  have IH := Lib.hid ih
  clear hin ih
  change Calls Try.prog 64 #[.agg #[.int .i64 k, .int .i64 s, .int .i64 l, .int .i64 h, .int .i64 t, .slice A ps.length c]] w _
  have HO := Lib.hid (show opn (.mk k s l h t A c ps) = if k = 3 ∧ 0 < ps.length then opnL ps else decide (k = 4) from by rw [opn])
  rw [HO.out]
  clear HO
  by_cases hk : k = 3
  · subst hk
    rcases Nat.eq_zero_or_pos ps.length with h0 | h0
    · rw [if_neg (by omega)]
      rw [h0]
      go_enter Try.func64, Try.ntmps64
      go_wp2_with fail
      go_ret
      exact ⟨rfl, grew_alloc (grew_refl _ _) _⟩
    · rw [if_pos ⟨rfl, h0⟩]
      obtain ⟨n, hn⟩ : ∃ n, ps.length = n + 1 := ⟨ps.length - 1, by omega⟩
      obtain ⟨b, o, p, hA, hp, hpm, hpi, c0, c1, c2, c3, c4, c5⟩ := (HIN.out.grew (grew_alloc (grew_refl w none) (.cells #[.int .i64 3, .int .i64 s, .int .i64 l, .int .i64 h, .int .i64 t, .slice A ps.length c] 24))).at (i := n) (by omega)
      subst hA
      have hlz : n ≤ 2199023255552 := by have := HIN.out; cases this; omega
      have HE := Lib.hid (show opnL ps = p.opn by
        rw [opnL_last ps (by intro e; subst e; simp at h0)]
        congr 1
        rw [List.getLast_eq_getElem]
        obtain ⟨_, rfl⟩ := List.getElem?_eq_some_iff.1 hp
        congr 1
        omega)
      have HP := Lib.hid (show p ∈ ps ∧ In (w.alloc (.cells #[.int .i64 3, .int .i64 s, .int .i64 l, .int .i64 h, .int .i64 t, .slice (some ⟨b, o, none⟩) ps.length c] 24)) p from ⟨hpm, hpi⟩)
      clear hp hpm hpi h0
      rw [hn] at *
      clear hn
      go_enter Try.func64, Try.ntmps64
      go_wp2_with fail
      refine (IH.out p HP.out.1 _ HP.out.2).mono ?_
      rintro e w1 ⟨rfl, g1⟩
      go_wp2_with fail
      go_ret
      exact ⟨by rw [HE.out]; rfl, grew_trans (grew_alloc (grew_refl _ _) _) g1⟩
  · rw [if_neg (by omega)]
    have hb := ne_beq hk
    go_enter Try.func64, Try.ntmps64
    go_wp2_with fail
    go_ret
    exact ⟨rfl, grew_alloc (grew_refl _ _) _⟩

theorem low_any (w : World) (f : Fo) :
    Calls Try.prog 66 #[f.val] w fun e w' => e = .returned (.int .i64 f.l) ∧ Grew w w' none := by
  have hval : f.val = .agg #[.int .i64 f.k, .int .i64 f.s, .int .i64 f.l, .int .i64 f.h, .int .i64 f.t, .slice f.A f.ps.length f.c] := rfl
  rw [hval]
  clear hval
  go_enter Try.func66, Try.ntmps66
  go_wp2_with fail
  go_ret
  exact ⟨rfl, grew_alloc (grew_refl _ _) _⟩

theorem plus_in {a b : Int} (h : -9223372036854775808 ≤ a + b) (h' : a + b ≤ 9223372036854775807) : plus a b = a + b := IntWalk.wrap64_in _ (by omega)

set_option maxRecDepth 100000 in
set_option maxHeartbeats 2000000 in
theorem length_low (f : Fo) : ∀ (w : World), f.In w →
    Calls Try.prog 65 #[f.val, .func (.func 66) #[] #[]] w fun e w' => e = .returned (.int .i64 (f.len false)) ∧ Grew w w' none := by
  induction f using Fo.ind with
  | H k s l h t A c ps ih =>
  intro w hin
  have HIN := Lib.hid hin
  have IH := Lib.hid ih
  clear hin ih
  change Calls Try.prog 65 #[.agg #[.int .i64 k, .int .i64 s, .int .i64 l, .int .i64 h, .int .i64 t, .slice A ps.length c], .func (.func 66) #[] #[]] w _
  have HO := Lib.hid (show len false (.mk k s l h t A c ps) = if k = 0 then s else if k = 1 ∨ k = 2 then plus s (if false then h else l) else if k = 3 then lens false 0 ps else if k = 4 then (if false then h else l) else l from by rw [len])
  rw [HO.out]
  clear HO
  have key : k = 0 ∨ (k = 1 ∨ k = 2) ∨ k = 3 ∨ k = 4 ∨ ((k == 0) = false ∧ (k == 1) = false ∧ (k == 2) = false ∧ (k == 3) = false ∧ (k == 4) = false ∧ ¬ k = 0 ∧ ¬ (k = 1 ∨ k = 2) ∧ ¬ k = 3 ∧ ¬ k = 4) := by
    by_cases h0 : k = 0
    · exact .inl h0
    by_cases h1 : k = 1
    · exact .inr (.inl (.inl h1))
    by_cases h2 : k = 2
    · exact .inr (.inl (.inr h2))
    by_cases h3 : k = 3
    · exact .inr (.inr (.inl h3))
    by_cases h4 : k = 4
    · exact .inr (.inr (.inr (.inl h4)))
    · exact .inr (.inr (.inr (.inr ⟨ne_beq h0, ne_beq h1, ne_beq h2, ne_beq h3, ne_beq h4, h0, by omega, h3, h4⟩)))
  rcases key with rfl | (rfl | rfl) | rfl | rfl | ⟨b0, b1, b2, b3, b4, n0, n1, n3, n4⟩
  · go_enter Try.func65, Try.ntmps65
    go_wp2_with fail
    go_ret
    exact ⟨rfl, grew_alloc (grew_refl _ _) _⟩
  · rw [if_neg (by omega), if_pos (by omega)]
    have hc := (Whole.new w #[.int .i64 1, .int .i64 s, .int .i64 l, .int .i64 h, .int .i64 t, .slice A ps.length c] 24)
    have HG := Lib.hid (grew_alloc (grew_refl w none) (.cells #[.int .i64 1, .int .i64 s, .int .i64 l, .int .i64 h, .int .i64 t, .slice A ps.length c] 24))
    have d0 := fun x => pad_cell (hc.cell 0) x
    have d1 := fun x => pad_cell (hc.cell 1) x
    have d2 := fun x => pad_cell (hc.cell 2) x
    have d3 := fun x => pad_cell (hc.cell 3) x
    have d4 := fun x => pad_cell (hc.cell 4) x
    have d5 := fun x => pad_cell (hc.cell 5) x
    clear hc
    go_enter Try.func65, Try.ntmps65
    go_wp2_with fail
    refine wp_region_pad (by kernel_rfl) (by kernel_rfl) ?_
    repeat (go_big_quiet_step ((go_at_call 66; exact pad_call (low_any _ (.mk 1 s l h t A c ps)))))
    refine wpQuiet_nil ?_
    rintro _ ⟨xq, rfl⟩
    go_wp2_with fail
    go_ret
    exact ⟨rfl, grew_trans HG.out (grew_pad _ xq)⟩
  · rw [if_neg (by omega), if_pos (by omega)]
    have hc := (Whole.new w #[.int .i64 2, .int .i64 s, .int .i64 l, .int .i64 h, .int .i64 t, .slice A ps.length c] 24)
    have HG := Lib.hid (grew_alloc (grew_refl w none) (.cells #[.int .i64 2, .int .i64 s, .int .i64 l, .int .i64 h, .int .i64 t, .slice A ps.length c] 24))
    have d0 := fun x => pad_cell (hc.cell 0) x
    have d1 := fun x => pad_cell (hc.cell 1) x
    have d2 := fun x => pad_cell (hc.cell 2) x
    have d3 := fun x => pad_cell (hc.cell 3) x
    have d4 := fun x => pad_cell (hc.cell 4) x
    have d5 := fun x => pad_cell (hc.cell 5) x
    clear hc
    go_enter Try.func65, Try.ntmps65
    go_wp2_with fail
    refine wp_region_pad (by kernel_rfl) (by kernel_rfl) ?_
    repeat (go_big_quiet_step ((go_at_call 66; exact pad_call (low_any _ (.mk 2 s l h t A c ps)))))
    refine wpQuiet_nil ?_
    rintro _ ⟨xq, rfl⟩
    go_wp2_with fail
    go_ret
    exact ⟨rfl, grew_trans HG.out (grew_pad _ xq)⟩
  · rw [if_neg (by omega), if_neg (by omega), if_pos rfl]
    go_enter Try.func65, Try.ntmps65
    have HR := Lib.hid (show Grew w (w.alloc (.cells #[.int .i64 3, .int .i64 s, .int .i64 l, .int .i64 h, .int .i64 t, .slice A ps.length c] 24)) none ∧ lens false 0 (ps.drop 0) = lens false 0 ps from ⟨grew_alloc (grew_refl _ _) _, rfl⟩)
    go_wp2_with fail
    generalize w.alloc (.cells #[.int .i64 3, .int .i64 s, .int .i64 l, .int .i64 h, .int .i64 t, .slice A ps.length c] 24) = W0 at *
    have hlz : ps.length ≤ 2199023255552 := by have := HIN.out; cases this; assumption
    go_loopw [28, 5] (fun i d wr => ∃ (n : Nat) (x : Int), n ≤ ps.length ∧ i = .int .i64 n ∧ d = .int .i64 x ∧ Hid (Grew w wr none ∧ lens false x (ps.drop n) = lens false 0 ps)) (fun i _ _ => ps.length - (intOf i).toNat)
    case atStart => exact ⟨0, 0, Nat.zero_le _, rfl, rfl, HR⟩
    case round =>
      obtain ⟨n, x, hn, rfl, rfl, R⟩ := hrel
      by_cases hlt : n < ps.length
      · obtain ⟨b, o, p, rfl, hp, hpm, hpi, c0, c1, c2, c3, c4, c5⟩ := (HIN.out.grew R.out.1).at hlt
        have HP := Lib.hid (show ps[n]? = some p ∧ p ∈ ps ∧ In wr p from ⟨hp, hpm, hpi⟩)
        clear hp hpm hpi
        go_wp2_with fail
        refine (IH.out p HP.out.2.1 _ (HP.out.2.2.grew (grew_alloc (grew_refl _ _) _))).mono ?_
        rintro e w2 ⟨rfl, g2⟩
        have HR2 := Lib.hid (show Grew w w2 none ∧ lens false (plus x (p.len false)) (ps.drop (n + 1)) = lens false 0 ps from ⟨grew_trans (grew_alloc R.out.1 _) g2, by
          have := R.out.2
          rw [drop_at HP.out.1, lens] at this
          exact this⟩)
        clear c0 c1 c2 c3 c4 c5 g2 R
        generalize hy : p.len false = y at *
        have HY := Lib.hid hy
        clear hy
        go_wp2_with fail
        go_roundw
        case rel => exact ⟨n + 1, plus x y, by omega, by go_num, rfl, HR2⟩
        case measure => simp [intOf]; omega
      · have HE := Lib.hid (show x = lens false 0 ps by
          have h3 := R.out.2
          have : n = ps.length := by omega
          rw [this, List.drop_length, lens] at h3
          exact h3)
        have HG := Lib.hid R.out.1
        clear R
        go_wp2_with fail
        go_ret
        exact ⟨by rw [← HE.out]; rfl, HG.out⟩
  · rw [if_neg (by omega), if_neg (by omega), if_neg (by omega), if_pos rfl]
    go_enter Try.func65, Try.ntmps65
    go_wp2_with fail
    refine (low_any _ (.mk 4 s l h t A c ps)).mono ?_
    rintro e w1 ⟨rfl, g1⟩
    go_wp2_with fail
    go_ret
    exact ⟨rfl, grew_trans (grew_alloc (grew_refl _ _) _) g1⟩
  · rw [if_neg n0, if_neg n1, if_neg n3, if_neg n4]
    clear n0 n1 n3 n4
    go_enter Try.func65, Try.ntmps65
    go_wp2_with fail
    go_ret
    exact ⟨rfl, grew_alloc (grew_refl _ _) _⟩

end Go.Proofs.Ytdamjbngopfpkaa

