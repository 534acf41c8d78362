/- Parts where they may not stand: the code's answer. -/
import Derived.Test.YtdamjbngopfpkaaFl
namespace Go.Proofs.Ytdamjbngopfpkaa
open Go.RowKit Fo

set_option maxHeartbeats 1000000 in
theorem index_any (w : World) (A : Option Addr) (c : Nat) (ps : List Fo) (hl : Lie w A ps) (hp : ∀ p ∈ ps, p.In w) (hz : ps.length ≤ 2199023255552) :
    Calls Try.prog 72 #[.slice A ps.length c, .func (.func 64) #[] #[]] w fun e w' => ∃ r : Int, e = .returned (.int .i64 r) ∧ decide (0 ≤ r) = ps.any opn ∧ Grew w w' none := by
  have HL := Lib.hid hl
  have HP := Lib.hid hp
  clear hl hp
  go_enter Try.func72, Try.ntmps72
  go_wp2_with fail
  go_loopw [8] (fun i wr => ∃ (n : Nat), n ≤ ps.length ∧ i = .int .i64 n ∧ Hid (Grew w wr none ∧ (ps.take n).any opn = false)) (fun i _ => ps.length - (intOf i).toNat)
  case atStart => exact ⟨0, Nat.zero_le _, rfl, Lib.hid ⟨grew_refl _ _, rfl⟩⟩
  case round =>
    obtain ⟨n, hn, rfl, R⟩ := hrel
    by_cases hlt : n < ps.length
    · obtain ⟨b, o, p, rfl, hp, hpm, c0, c1, c2, c3, c4, c5⟩ := (HL.out.grew R.out.1).at hlt
      have HQ := Lib.hid (show ps[n]? = some p ∧ p ∈ ps from ⟨hp, hpm⟩)
      clear hp hpm
      go_wp2_with fail
      refine (open_any p _ ((HP.out p HQ.out.2).grew R.out.1)).mono ?_
      rintro e w2 ⟨rfl, g2⟩
      have HG := Lib.hid (grew_trans R.out.1 g2)
      cases ho : p.opn with
      | true =>
        have HE := Lib.hid (show ps.any opn = true from List.any_eq_true.2 ⟨p, HQ.out.2, ho⟩)
        clear ho g2 R c0 c1 c2 c3 c4 c5
        go_wp2_with fail
        go_ret
        exact ⟨n, rfl, by rw [HE.out]; simp, HG.out⟩
      | false =>
        have HR2 := Lib.hid (show Grew w w2 none ∧ (ps.take (n + 1)).any opn = false from ⟨HG.out, by rw [take_succ' HQ.out.1, List.any_append, R.out.2]; simp [ho]⟩)
        clear ho g2 R c0 c1 c2 c3 c4 c5 HG
        go_wp2_with fail
        go_roundw
        case rel => exact ⟨n + 1, by omega, by go_num, HR2⟩
        case measure => simp [intOf]; omega
    · have HE := Lib.hid (show ps.any opn = false by
        have h3 := R.out.2
        have : n = ps.length := by omega
        rw [this, List.take_length] at h3
        exact h3)
      have HG := Lib.hid R.out.1
      clear R
      go_wp2_with fail
      go_ret
      exact ⟨-1, rfl, by rw [HE.out]; rfl, HG.out⟩

theorem contains_any (w : World) (A : Option Addr) (c : Nat) (ps : List Fo) (hl : Lie w A ps) (hp : ∀ p ∈ ps, p.In w) (hz : ps.length ≤ 2199023255552) :
    Calls Try.prog 67 #[.slice A ps.length c, .func (.func 64) #[] #[]] w fun e w' => e = .returned (.bool (ps.any opn)) ∧ Grew w w' none := by
  have HL := Lib.hid hl
  have HP := Lib.hid hp
  have HZ := Lib.hid hz
  clear hl hp hz
  go_enter Try.func67, Try.ntmps67
  go_wp2_with fail
  refine (index_any w A c ps HL.out HP.out HZ.out).mono ?_
  rintro e w1 ⟨r, rfl, hr, g⟩
  have HR := Lib.hid hr
  clear hr
  go_wp2_with fail
  go_ret
  exact ⟨by rw [← HR.out]; rfl, g⟩

theorem mis_two (w : World) (s l h t : Int) (A : Option Addr) (c : Nat) (p : Fo) (hin : (Fo.mk 2 s l h t A c [p]).In w) :
    Calls Try.prog 54 #[(Fo.mk 2 s l h t A c [p]).val] w fun e w' => e = .returned (.bool (mis 2 [p])) ∧ Grew w w' none := by
  obtain ⟨b, o, p', rfl, hp, hpm, hpi, c0, c1, c2, c3, c4, c5⟩ := (hin.grew (grew_alloc (grew_refl w none) (.cells #[.int .i64 2, .int .i64 s, .int .i64 l, .int .i64 h, .int .i64 t, .slice A 1 c] 24))).at (i := 0) (by simp)
  obtain rfl : p' = p := by simpa using hpm
  have HPI := Lib.hid hpi
  have HM := Lib.hid (show mis 2 [p'] = (p'.opn || decide (p'.len false = 0)) by simp [mis])
  rw [HM.out]
  clear hpi hp hpm hin HM
  simp only [Nat.zero_mul, Nat.add_zero] at c0 c1 c2 c3 c4 c5
  change Calls Try.prog 54 #[.agg #[.int .i64 2, .int .i64 s, .int .i64 l, .int .i64 h, .int .i64 t, .slice (some ⟨b, o, none⟩) 1 c]] w _
  have HOP := Lib.hid (open_any p' _ HPI.out)
  generalize p'.opn = O at *
  go_enter Try.func54, Try.ntmps54
  go_wp2_with fail
  refine HOP.out.mono ?_
  clear HOP
  rintro e w1 ⟨rfl, g1⟩
  cases O with
  | true =>
    have HG := Lib.hid (grew_trans (grew_alloc (grew_refl w none) _) g1)
    clear g1
    go_wp2_with fail
    go_ret
    exact ⟨rfl, HG.out⟩
  | false =>
    have HG := Lib.hid (grew_trans (grew_alloc (grew_refl w none) _) g1)
    have hw := (Whole.new w #[.int .i64 2, .int .i64 s, .int .i64 l, .int .i64 h, .int .i64 t, .slice (some ⟨b, o, none⟩) 1 c] 24).grew g1 (by simp)
    have e5 := hw.cell 5
    simp only [List.getElem?_toArray, List.getElem?_cons_succ, List.getElem?_cons_zero] at e5
    have d0 := g1.cell c0 (by simp)
    have d1 := g1.cell c1 (by simp)
    have d2 := g1.cell c2 (by simp)
    have d3 := g1.cell c3 (by simp)
    have d4 := g1.cell c4 (by simp)
    have d5 := g1.cell c5 (by simp)
    have HPI1 := Lib.hid (HPI.out.grew g1)
    clear g1 c0 c1 c2 c3 c4 c5 hw
    go_wp2_with fail
    refine (length_low p' _ HPI1.out).mono ?_
    rintro e w2 ⟨rfl, g2⟩
    go_wp2_with fail
    go_ret
    exact ⟨rfl, grew_trans HG.out g2⟩

set_option maxHeartbeats 1000000 in
theorem mis_three (w : World) (s l h t : Int) (A : Option Addr) (c : Nat) (ps : List Fo) (hin : (Fo.mk 3 s l h t A c ps).In w) :
    Calls Try.prog 54 #[(Fo.mk 3 s l h t A c ps).val] w fun e w' => e = .returned (.bool (mis 3 ps)) ∧ Grew w w' none := by
  have HM := Lib.hid (show mis 3 ps = ps.dropLast.any opn by simp [mis])
  rw [HM.out]
  have HIN := Lib.hid hin
  clear hin HM
  change Calls Try.prog 54 #[.agg #[.int .i64 3, .int .i64 s, .int .i64 l, .int .i64 h, .int .i64 t, .slice A ps.length c]] w _
  by_cases h1 : 1 < ps.length
  · obtain ⟨n, hn⟩ : ∃ n, ps.length = n + 1 := ⟨ps.length - 1, by omega⟩
    have hcz : ps.length ≤ c ∧ ps.length ≤ 2199023255552 := by have := HIN.out; cases this; constructor <;> assumption
    obtain ⟨hc, hz⟩ := hcz
    have hdl : ps.dropLast = ps.take n := by rw [List.dropLast_eq_take, hn]; rfl
    have hl : (ps.take n).length = n := by rw [List.length_take]; omega
    have HC := Lib.hid (fun (w1 : World) (g : Grew w w1 none) => contains_any w1 A c (ps.take n) ((show Lie w A ps by have := HIN.out; cases this; assumption).grew g |>.take n) (fun p hp => ((HIN.out.parts p (List.mem_of_mem_take hp))).grew g) (by omega))
    rw [hl] at HC
    rw [hdl]
    have hn1 : 1 ≤ n := by omega
    rw [hn] at *
    clear hn hl hdl h1
    go_enter Try.func54, Try.ntmps54
    go_wp2_with fail
    refine (HC.out _ (grew_alloc (grew_refl _ _) _)).mono ?_
    rintro e w1 ⟨rfl, g1⟩
    go_wp2_with fail
    go_ret
    exact ⟨rfl, grew_trans (grew_alloc (grew_refl _ _) _) g1⟩
  · have hd : ps.dropLast.any opn = false := by
      have : ps.dropLast = [] := by
        apply List.eq_nil_of_length_eq_zero
        rw [List.length_dropLast]; omega
      rw [this]; rfl
    rw [hd]
    clear hd
    go_enter Try.func54, Try.ntmps54
    go_wp2_with fail
    go_ret
    exact ⟨rfl, grew_alloc (grew_refl _ _) _⟩

theorem mis_else (w : World) (k s l h t : Int) (A : Option Addr) (c : Nat) (ps : List Fo) (h2 : (k == 2) = false) (h3 : (k == 3) = false) :
    Calls Try.prog 54 #[(Fo.mk k s l h t A c ps).val] w fun e w' => e = .returned (.bool (mis k ps)) ∧ Grew w w' none := by
  have HM := Lib.hid (show mis k ps = false by unfold mis; rw [if_neg (by simpa using h2), if_neg (by simpa using h3)])
  rw [HM.out]
  clear HM
  change Calls Try.prog 54 #[.agg #[.int .i64 k, .int .i64 s, .int .i64 l, .int .i64 h, .int .i64 t, .slice A ps.length c]] w _
  go_enter Try.func54, Try.ntmps54
  go_wp2_with fail
  go_ret
  exact ⟨rfl, grew_alloc (grew_refl _ _) _⟩

end Go.Proofs.Ytdamjbngopfpkaa

