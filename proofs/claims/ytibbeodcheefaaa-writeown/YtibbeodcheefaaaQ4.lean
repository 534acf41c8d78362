/- Parts where they may not stand: the code's answer. -/
import Derived.Test.YtibbeodcheefaaaQ1
import Derived.Test.YtibbeodcheefaaaQ2
import Derived.Test.YtibbeodcheefaaaQ3
namespace Go.Proofs.Ytibbeodcheefaaa
open Go.RowKit Fo

set_option maxHeartbeats 1000000 in
theorem index_any (w : World) (A : Option Addr) (c : Nat) (ps : List Fo) (hl : Lie w A ps) (hp : ∀ p ∈ ps, p.In w) (hz : ps.length ≤ 2199023255552) :
    Calls Try.prog 113 #[.slice A ps.length c, .func (.func 104) #[] #[]] w fun e w' => ∃ r : Int, e = .returned (.int .i64 r) ∧ decide (0 ≤ r) = ps.any opn ∧ Grew w w' none := by
  have HL := Lib.hid hl
  have HP := Lib.hid hp
  clear hl hp
  go_enter Try.func113, Try.ntmps113
  go_wp2_with fail
  go_loopw [8] (fun i wr => ∃ (n : Nat), n ≤ ps.length ∧ i = .int .i64 n ∧ Hid (Grew w wr none ∧ (ps.take n).any opn = false)) (fun i _ => ps.length - (intOf i).toNat)
  case atStart => exact ⟨0, Nat.zero_le _, rfl, Lib.hid ⟨grew_refl _ _, rfl⟩⟩
  case round =>
    obtain ⟨n, hn, rfl, R⟩ := hrel
    by_cases hlt : n < ps.length
    · obtain ⟨b, o, p, rfl, hp, hpm, c0, c1, c2, c3, c4, c5⟩ := (HL.out.grew R.out.1).at hlt
      have HQ := Lib.hid (show ps[n]? = some p ∧ p ∈ ps from ⟨hp, hpm⟩)
      clear hp hpm
      go_wp2_with fail
      refine (open_any p _ ((HP.out p HQ.out.2).grew R.out.1)).mono ?_
      rintro e w2 ⟨rfl, g2⟩
      have HG := Lib.hid (grew_trans R.out.1 g2)
      cases ho : p.opn with
      | true =>
        have HE := Lib.hid (show ps.any opn = true from List.any_eq_true.2 ⟨p, HQ.out.2, ho⟩)
        clear ho g2 R c0 c1 c2 c3 c4 c5
        go_wp2_with fail
        go_ret
        exact ⟨n, rfl, by rw [HE.out]; simp, HG.out⟩
      | false =>
        have HR2 := Lib.hid (show Grew w w2 none ∧ (ps.take (n + 1)).any opn = false from ⟨HG.out, by rw [take_succ' HQ.out.1, List.any_append, R.out.2]; simp [ho]⟩)
        clear ho g2 R c0 c1 c2 c3 c4 c5 HG
        go_wp2_with fail
        go_roundw
        case rel => exact ⟨n + 1, by omega, by go_num, HR2⟩
        case measure => simp [intOf]; omega
    · have HE := Lib.hid (show ps.any opn = false by
        have h3 := R.out.2
        have : n = ps.length := by omega
        rw [this, List.take_length] at h3
        exact h3)
      have HG := Lib.hid R.out.1
      clear R
      go_wp2_with fail
      go_ret
      exact ⟨-1, rfl, by rw [HE.out]; rfl, HG.out⟩

theorem contains_any (w : World) (A : Option Addr) (c : Nat) (ps : List Fo) (hl : Lie w A ps) (hp : ∀ p ∈ ps, p.In w) (hz : ps.length ≤ 2199023255552) :
    Calls Try.prog 107 #[.slice A ps.length c, .func (.func 104) #[] #[]] w fun e w' => e = .returned (.bool (ps.any opn)) ∧ Grew w w' none := by
  have HL := Lib.hid hl
  have HP := Lib.hid hp
  have HZ := Lib.hid hz
  clear hl hp hz
  go_enter Try.func107, Try.ntmps107
  go_wp2_with fail
  refine (index_any w A c ps HL.out HP.out HZ.out).mono ?_
  rintro e w1 ⟨r, rfl, hr, g⟩
  have HR := Lib.hid hr
  clear hr
  go_wp2_with fail
  go_ret
  exact ⟨by rw [← HR.out]; rfl, g⟩

theorem mis_two (w : World) (s l h t : Int) (A : Option Addr) (c : Nat) (p : Fo) (hin : (Fo.mk 2 s l h t A c [p]).In w) :
    Calls Try.prog 91 #[(Fo.mk 2 s l h t A c [p]).val] w fun e w' => e = .returned (.bool (mis 2 [p])) ∧ Grew w w' none := by
  obtain ⟨b, o, p', rfl, hp, hpm, hpi, c0, c1, c2, c3, c4, c5⟩ := (hin.grew (grew_alloc (grew_refl w none) (.cells #[.int .i64 2, .int .i64 s, .int .i64 l, .int .i64 h, .int .i64 t, .slice A 1 c] 24))).at (i := 0) (by simp)
  obtain rfl : p' = p := by simpa using hpm
  have HPI := Lib.hid hpi
  have HM := Lib.hid (show mis 2 [p'] = (p'.opn || decide (p'.len false = 0)) by simp [mis])
  rw [HM.out]
  clear hpi hp hpm hin HM
  simp only [Nat.zero_mul, Nat.add_zero] at c0 c1 c2 c3 c4 c5
  change Calls Try.prog 91 #[.agg #[.int .i64 2, .int .i64 s, .int .i64 l, .int .i64 h, .int .i64 t, .slice (some ⟨b, o, none⟩) 1 c]] w _
  have HOP := Lib.hid (open_any p' _ HPI.out)
  generalize p'.opn = O at *
  go_enter Try.func91, Try.ntmps91
  go_wp2_with fail
  refine HOP.out.mono ?_
  clear HOP
  rintro e w1 ⟨rfl, g1⟩
  cases O with
  | true =>
    have HG := Lib.hid (grew_trans (grew_alloc (grew_refl w none) _) g1)
    clear g1
    go_wp2_with fail
    go_ret
    exact ⟨rfl, HG.out⟩
  | false =>
    have HG := Lib.hid (grew_trans (grew_alloc (grew_refl w none) _) g1)
    have hw := (Whole.new w #[.int .i64 2, .int .i64 s, .int .i64 l, .int .i64 h, .int .i64 t, .slice (some ⟨b, o, none⟩) 1 c] 24).grew g1 (by simp)
    have e5 := hw.cell 5
    simp only [List.getElem?_toArray, List.getElem?_cons_succ, List.getElem?_cons_zero] at e5
    have d0 := g1.cell c0 (by simp)
    have d1 := g1.cell c1 (by simp)
    have d2 := g1.cell c2 (by simp)
    have d3 := g1.cell c3 (by simp)
    have d4 := g1.cell c4 (by simp)
    have d5 := g1.cell c5 (by simp)
    have HPI1 := Lib.hid (HPI.out.grew g1)
    clear g1 c0 c1 c2 c3 c4 c5 hw
    go_wp2_with fail
    refine (length_low p' _ HPI1.out).mono ?_
    rintro e w2 ⟨rfl, g2⟩
    go_wp2_with fail
    go_ret
    exact ⟨rfl, grew_trans HG.out g2⟩

set_option maxHeartbeats 1000000 in
theorem mis_three (w : World) (s l h t : Int) (A : Option Addr) (c : Nat) (ps : List Fo) (hin : (Fo.mk 3 s l h t A c ps).In w) :
    Calls Try.prog 91 #[(Fo.mk 3 s l h t A c ps).val] w fun e w' => e = .returned (.bool (mis 3 ps)) ∧ Grew w w' none := by
  have HM := Lib.hid (show mis 3 ps = ps.dropLast.any opn by simp [mis])
  rw [HM.out]
  have HIN := Lib.hid hin
  clear hin HM
  change Calls Try.prog 91 #[.agg #[.int .i64 3, .int .i64 s, .int .i64 l, .int .i64 h, .int .i64 t, .slice A ps.length c]] w _
  by_cases h1 : 1 < ps.length
  · obtain ⟨n, hn⟩ : ∃ n, ps.length = n + 1 := ⟨ps.length - 1, by omega⟩
    have hcz : ps.length ≤ c ∧ ps.length ≤ 2199023255552 := by have := HIN.out; cases this; constructor <;> assumption
    obtain ⟨hc, hz⟩ := hcz
    have hdl : ps.dropLast = ps.take n := by rw [List.dropLast_eq_take, hn]; rfl
    have hl : (ps.take n).length = n := by rw [List.length_take]; omega
    have HC := Lib.hid (fun (w1 : World) (g : Grew w w1 none) => contains_any w1 A c (ps.take n) ((show Lie w A ps by have := HIN.out; cases this; assumption).grew g |>.take n) (fun p hp => ((HIN.out.parts p (List.mem_of_mem_take hp))).grew g) (by omega))
    rw [hl] at HC
    rw [hdl]
    have hn1 : 1 ≤ n := by omega
    rw [hn] at *
    clear hn hl hdl h1
    go_enter Try.func91, Try.ntmps91
    go_wp2_with fail
    refine (HC.out _ (grew_alloc (grew_refl _ _) _)).mono ?_
    rintro e w1 ⟨rfl, g1⟩
    go_wp2_with fail
    go_ret
    exact ⟨rfl, grew_trans (grew_alloc (grew_refl _ _) _) g1⟩
  · have hd : ps.dropLast.any opn = false := by
      have : ps.dropLast = [] := by
        apply List.eq_nil_of_length_eq_zero
        rw [List.length_dropLast]; omega
      rw [this]; rfl
    rw [hd]
    clear hd
    go_enter Try.func91, Try.ntmps91
    go_wp2_with fail
    go_ret
    exact ⟨rfl, grew_alloc (grew_refl _ _) _⟩

theorem mis_else (w : World) (k s l h t : Int) (A : Option Addr) (c : Nat) (ps : List Fo) (h2 : (k == 2) = false) (h3 : (k == 3) = false) :
    Calls Try.prog 91 #[(Fo.mk k s l h t A c ps).val] w fun e w' => e = .returned (.bool (mis k ps)) ∧ Grew w w' none := by
  have HM := Lib.hid (show mis k ps = false by unfold mis; rw [if_neg (by simpa using h2), if_neg (by simpa using h3)])
  rw [HM.out]
  clear HM
  change Calls Try.prog 91 #[.agg #[.int .i64 k, .int .i64 s, .int .i64 l, .int .i64 h, .int .i64 t, .slice A ps.length c]] w _
  go_enter Try.func91, Try.ntmps91
  go_wp2_with fail
  go_ret
  exact ⟨rfl, grew_alloc (grew_refl _ _) _⟩

end Go.Proofs.Ytibbeodcheefaaa


/- How deep forms are, and how many: deeper, the document's Depth and Count. -/
namespace Go.Proofs.Ytibbeodcheefaaa
open Go.RowKit Fo

set_option maxHeartbeats 1000000 in
theorem deeper_any (f : Fo) : ∀ (m : Int) (w : World), 0 ≤ m → m ≤ 1000 → f.In w →
    Calls Try.prog 69 #[f.val, .int .i64 m] w fun e w' => e = .returned (.bool (decide (m < (f.dep : Int)))) ∧ Grew w w' none := by
  induction f using Fo.ind with
  | H k s l h t A c ps ih =>
  intro m w h0 h1 hin
  obtain ⟨A', c', qs, hv, hqs, hlz, hlie, hmem⟩ := hin.inner
  have hdep := dep_inn (.mk k s l h t A c ps)
  rw [hqs] at hdep
  generalize hD : dep (.mk k s l h t A c ps) = D at *
  have IH := Lib.hid ih
  have HL := Lib.hid hlie
  have HM := Lib.hid hmem
  have HV := Lib.hid hv
  have HD := Lib.hid hdep
  clear ih hlie hmem hv hqs hin hdep hD
  change Calls Try.prog 69 #[.agg #[.int .i64 k, .int .i64 s, .int .i64 l, .int .i64 h, .int .i64 t, .slice A ps.length c], .int .i64 m] w _
  by_cases hm : m = 0
  · subst hm
    have : decide ((0 : Int) < D) = true := by have := HD.out; simp; omega
    rw [this]
    clear this
    go_enter Try.func69, Try.ntmps69
    go_wp2_with fail
    go_ret
    exact ⟨rfl, grew_alloc (grew_refl _ _) _⟩
  · have hmb : (m == 0) = false := ne_beq hm
    go_enter Try.func69, Try.ntmps69
    go_wp2_with fail
    refine (inside_any _ (.mk k s l h t A c ps)).mono ?_
    rintro e w1 ⟨rfl, g1⟩
    rw [HV.out]
    have HR := Lib.hid (show Grew w w1 none ∧ deps (qs.take 0) ≤ m.toNat - 1 from ⟨grew_trans (grew_alloc (grew_refl _ _) _) g1, by simp [deps]⟩)
    clear g1
    go_wp2_with fail
    go_loopw [12] (fun i wr => ∃ n : Nat, n ≤ qs.length ∧ i = .int .i64 n ∧ Hid (Grew w wr none ∧ deps (qs.take n) ≤ m.toNat - 1)) (fun i _ => qs.length - (intOf i).toNat)
    case atStart => exact ⟨0, Nat.zero_le _, rfl, HR⟩
    case round =>
      obtain ⟨n, hn, rfl, R⟩ := hrel
      by_cases hlt : n < qs.length
      · obtain ⟨b, o, p, rfl, hp, hpm, c0, c1, c2, c3, c4, c5⟩ := (HL.out.grew R.out.1).at hlt
        have HP := Lib.hid (show qs[n]? = some p ∧ p ∈ qs from ⟨hp, hpm⟩)
        clear hp hpm
        go_wp2_with fail
        refine (IH.out p (HM.out p HP.out.2).1 (m - 1) _ (by omega) (by omega) ((HM.out p HP.out.2).2.grew (grew_alloc R.out.1 _))).mono ?_
        rintro e w2 ⟨rfl, g2⟩
        have hle : dep p ≤ deps qs := deps_le.1 (Nat.le_refl _) p HP.out.2
        by_cases hd : m - 1 < (dep p : Int)
        · have e1 : decide (m - 1 < (dep p : Int)) = true := by simpa using hd
          have e2 : decide (m < (D : Int)) = true := by have := HD.out; simp; omega
          rw [e1]
          have HG := Lib.hid (grew_trans (grew_alloc R.out.1 _) g2)
          have HE := Lib.hid e2
          clear hd e1 e2 hle R g2
          go_wp2_with fail
          go_ret
          exact ⟨by rw [HE.out]; rfl, HG.out⟩
        · have e1 : decide (m - 1 < (dep p : Int)) = false := by simpa using hd
          rw [e1]
          have HR2 := Lib.hid (show Grew w w2 none ∧ deps (qs.take (n + 1)) ≤ m.toNat - 1 from ⟨grew_trans (grew_alloc R.out.1 _) g2, by rw [deps_take HP.out.1]; have := R.out.2; omega⟩)
          clear hd e1 hle R g2
          go_wp2_with fail
          go_roundw
          case rel => exact ⟨n + 1, by omega, by go_num, HR2⟩
          case measure => simp [intOf]; omega
      · have e2 : decide (m < (D : Int)) = false := by
          have h3 := R.out.2
          have : n = qs.length := by omega
          rw [this, List.take_length] at h3
          have := HD.out
          simp; omega
        have HE := Lib.hid e2
        have HG := Lib.hid R.out.1
        clear e2 R
        go_wp2_with fail
        go_ret
        exact ⟨by rw [HE.out]; rfl, HG.out⟩

set_option maxHeartbeats 1000000 in
theorem depth_any (f : Fo) : ∀ (m : Int) (w : World), 0 ≤ m → m ≤ 1000 → f.In w →
    Calls Try.prog 27 #[f.val, .int .i64 m] w fun e w' => e = .returned (.int .i64 (min (f.dep : Int) (m + 1))) ∧ Grew w w' none := by
  induction f using Fo.ind with
  | H k s l h t A c ps ih =>
  intro m w h0 h1 hin
  obtain ⟨A', c', qs, hv, hqs, hlz, hlie, hmem⟩ := hin.inner
  have hdep := dep_inn (.mk k s l h t A c ps)
  rw [hqs] at hdep
  generalize hD : dep (.mk k s l h t A c ps) = D at *
  have IH := Lib.hid ih
  have HL := Lib.hid hlie
  have HM := Lib.hid hmem
  have HV := Lib.hid hv
  have HD := Lib.hid hdep
  clear ih hlie hmem hv hqs hin hdep hD
  change Calls Try.prog 27 #[.agg #[.int .i64 k, .int .i64 s, .int .i64 l, .int .i64 h, .int .i64 t, .slice A ps.length c], .int .i64 m] w _
  go_enter Try.func27, Try.ntmps27
  go_wp2_with fail
  refine (parts_any _ (.mk k s l h t A c ps)).mono ?_
  rintro e w1 ⟨rfl, g1⟩
  rw [HV.out]
  have HR := Lib.hid (show Grew w w1 none ∧ (0 : Int) = min (deps (qs.take 0) : Int) m from ⟨grew_trans (grew_alloc (grew_refl _ _) _) g1, by simp [deps]; omega⟩)
  clear g1
  go_wp2_with fail
  go_loopw [7, 5] (fun i d wr => ∃ (n : Nat) (x : Int), n ≤ qs.length ∧ i = .int .i64 n ∧ d = .int .i64 x ∧ 0 ≤ x ∧ x ≤ m ∧ Hid (Grew w wr none ∧ x = min (deps (qs.take n) : Int) m)) (fun i _ _ => qs.length - (intOf i).toNat)
  case atStart => exact ⟨0, 0, Nat.zero_le _, rfl, rfl, by omega, by omega, HR⟩
  case round =>
    obtain ⟨n, x, hn, rfl, rfl, x0, x1, R⟩ := hrel
    by_cases hlt : n < qs.length
    · by_cases hm : 0 < m
      · obtain ⟨b, o, p, rfl, hp, hpm, c0, c1, c2, c3, c4, c5⟩ := (HL.out.grew R.out.1).at hlt
        have HP := Lib.hid (show qs[n]? = some p ∧ p ∈ qs from ⟨hp, hpm⟩)
        clear hp hpm
        go_wp2_with fail
        refine (IH.out p (HM.out p HP.out.2).1 (m - 1) _ (by omega) (by omega) ((HM.out p HP.out.2).2.grew R.out.1)).mono ?_
        rintro e w2 ⟨rfl, g2⟩
        have hdp := dep_pos p
        have key := deps_take HP.out.1
        have hr := R.out.2
        have HG := Lib.hid (grew_trans R.out.1 g2)
        generalize hy : min (dep p : Int) (m - 1 + 1) = y at *
        clear c0 c1 c2 c3 c4 c5 g2
        by_cases hxy : x < y
        · have HR2 := Lib.hid (show Grew w w2 none ∧ y = min (deps (qs.take (n + 1)) : Int) m from ⟨HG.out, by rw [key]; omega⟩)
          have y1 : y ≤ m := by omega
          clear hy key hr R hdp HG
          go_wp2_with fail
          go_roundw
          case rel => exact ⟨n + 1, y, by omega, by go_num, rfl, by omega, by omega, HR2⟩
          case measure => simp [intOf]; omega
        · have HR2 := Lib.hid (show Grew w w2 none ∧ x = min (deps (qs.take (n + 1)) : Int) m from ⟨HG.out, by rw [key]; omega⟩)
          clear hy key hr R hdp HG
          go_wp2_with fail
          go_roundw
          case rel => exact ⟨n + 1, x, by omega, by go_num, rfl, by omega, by omega, HR2⟩
          case measure => simp [intOf]; omega
      · have hm0 : m = 0 := by omega
        subst hm0
        have HE := Lib.hid (show x + 1 = min (D : Int) (0 + 1) by have := HD.out; have := R.out.2; omega)
        have HG := Lib.hid R.out.1
        clear R hm
        go_wp2_with fail
        go_ret
        exact ⟨by rw [HE.out]; rfl, HG.out⟩
    · have HE := Lib.hid (show x + 1 = min (D : Int) (m + 1) by
        have h3 := R.out.2
        have : n = qs.length := by omega
        rw [this, List.take_length] at h3
        have := HD.out
        omega)
      have HG := Lib.hid R.out.1
      clear R
      go_wp2_with fail
      go_ret
      exact ⟨by rw [HE.out]; rfl, HG.out⟩

set_option maxHeartbeats 1000000 in
theorem count_any (f : Fo) : ∀ (m : Int) (w : World), 0 ≤ m → m ≤ 1000 → f.In w →
    Calls Try.prog 20 #[f.val, .int .i64 m] w fun e w' => e = .returned (.int .i64 (min (f.cnt : Int) (m + 1))) ∧ Grew w w' none := by
  induction f using Fo.ind with
  | H k s l h t A c ps ih =>
  intro m w h0 h1 hin
  obtain ⟨A', c', qs, hv, hqs, hlz, hlie, hmem⟩ := hin.inner
  have hdep := cnt_inn (.mk k s l h t A c ps)
  rw [hqs] at hdep
  generalize hD : cnt (.mk k s l h t A c ps) = D at *
  have IH := Lib.hid ih
  have HL := Lib.hid hlie
  have HM := Lib.hid hmem
  have HV := Lib.hid hv
  have HD := Lib.hid hdep
  clear ih hlie hmem hv hqs hin hdep hD
  change Calls Try.prog 20 #[.agg #[.int .i64 k, .int .i64 s, .int .i64 l, .int .i64 h, .int .i64 t, .slice A ps.length c], .int .i64 m] w _
  go_enter Try.func20, Try.ntmps20
  go_wp2_with fail
  refine (parts_any _ (.mk k s l h t A c ps)).mono ?_
  rintro e w1 ⟨rfl, g1⟩
  rw [HV.out]
  have HR := Lib.hid (show Grew w w1 none ∧ (1 : Int) = min (cnts (qs.take 0) + 1 : Int) (m + 1) from ⟨grew_trans (grew_alloc (grew_refl _ _) _) g1, by simp [cnts]; omega⟩)
  clear g1
  go_wp2_with fail
  go_loopw [7, 5] (fun i d wr => ∃ (n : Nat) (x : Int), n ≤ qs.length ∧ i = .int .i64 n ∧ d = .int .i64 x ∧ 1 ≤ x ∧ x ≤ m + 1 ∧ Hid (Grew w wr none ∧ x = min (cnts (qs.take n) + 1 : Int) (m + 1))) (fun i _ _ => qs.length - (intOf i).toNat)
  case atStart => exact ⟨0, 1, Nat.zero_le _, rfl, rfl, by omega, by omega, HR⟩
  case round =>
    obtain ⟨n, x, hn, rfl, rfl, x0, x1, R⟩ := hrel
    by_cases hlt : n < qs.length
    · by_cases hm : x ≤ m
      · obtain ⟨b, o, p, rfl, hp, hpm, c0, c1, c2, c3, c4, c5⟩ := (HL.out.grew R.out.1).at hlt
        have HP := Lib.hid (show qs[n]? = some p ∧ p ∈ qs from ⟨hp, hpm⟩)
        clear hp hpm
        go_wp2_with fail
        refine (IH.out p (HM.out p HP.out.2).1 (m - x) _ (by omega) (by omega) ((HM.out p HP.out.2).2.grew R.out.1)).mono ?_
        rintro e w2 ⟨rfl, g2⟩
        have hdp := cnt_pos p
        have key := cnts_take HP.out.1
        have hr := R.out.2
        have HG := Lib.hid (grew_trans R.out.1 g2)
        generalize hy : min (cnt p : Int) (m - x + 1) = y at *
        clear c0 c1 c2 c3 c4 c5 g2
        have HR2 := Lib.hid (show Grew w w2 none ∧ x + y = min (cnts (qs.take (n + 1)) + 1 : Int) (m + 1) from ⟨HG.out, by rw [key]; omega⟩)
        have y1 : y ≤ m - x + 1 := by omega
        have y0 : 1 ≤ y := by omega
        clear hy key hr R hdp HG
        go_wp2_with fail
        go_roundw
        case rel => exact ⟨n + 1, x + y, by omega, by go_num, rfl, by omega, by omega, HR2⟩
        case measure => simp [intOf]; omega
      · have HE := Lib.hid (show x = min (D : Int) (m + 1) by have := HD.out; have := R.out.2; have := cnts_take_le qs n; omega)
        have HG := Lib.hid R.out.1
        clear R
        go_wp2_with fail
        go_ret
        exact ⟨by rw [HE.out]; rfl, HG.out⟩
    · have HE := Lib.hid (show x = min (D : Int) (m + 1) by
        have h3 := R.out.2
        have : n = qs.length := by omega
        rw [this, List.take_length] at h3
        have := HD.out
        omega)
      have HG := Lib.hid R.out.1
      clear R
      go_wp2_with fail
      go_ret
      exact ⟨by rw [HE.out]; rfl, HG.out⟩

end Go.Proofs.Ytibbeodcheefaaa


/- What is wrong with a form: the code's answer. -/
namespace Go.Proofs.Ytibbeodcheefaaa
open Go.RowKit Fo

theorem alone_12 {k s l h t : Int} {n : Nat} (hk : k = 1 ∨ k = 2) : alone k s l h t n = if 1 ≤ s ∧ s ≤ 3 then (if 0 ≤ l ∧ l ≤ h ∧ h ≤ 256 ^ s.toNat - 1 ∧ 1 ≤ t ∧ t ≤ 65536 then (if k = 2 ∧ n ≠ 1 then 15 else 0) else 5) else 3 := by
  unfold alone; rw [if_neg (by omega), if_neg (by omega), if_neg (by omega), if_pos hk]

theorem alone1_any (w : World) (s l h t : Int) (A : Option Addr) (n c : Nat) :
    Calls Try.prog 90 #[.agg #[.int .i64 1, .int .i64 s, .int .i64 l, .int .i64 h, .int .i64 t, .slice A n c]] w fun e w' => e = .returned (.int .i64 (alone 1 s l h t n)) ∧ Grew w w' none := by
  rw [alone_12 (by omega)]
  by_cases h1 : s < 1
  · rw [if_neg (by omega)]; exact alone1_small w s l h t h1 A n c
  by_cases h3 : 3 < s
  · rw [if_neg (by omega)]; exact alone1_wide w s l h t h3 A n c
  rw [if_pos (by omega)]
  have key : s = 1 ∨ s = 2 ∨ s = 3 := by omega
  rcases key with rfl | rfl | rfl
  · have e0 : (256 : Int) ^ ((1 : Int).toNat) - 1 = 255 := by decide
    rw [e0]
    by_cases hs : 0 ≤ l ∧ l ≤ h ∧ h ≤ 255
    · by_cases ht : t < 1
      · rw [if_neg (by omega)]; exact alone1_1_low w l h t hs ht A n c
      · by_cases hu : 65536 < t
        · rw [if_neg (by omega)]; exact alone1_1_high w l h t hs hu A n c
        · rw [if_pos (by omega)]
          rw [if_neg (by omega)]; exact alone1_1_ok w l h t hs (by omega) (by omega) A n c
    · rw [if_neg (by omega)]; exact alone1_1_span w l h t hs A n c
  · have e0 : (256 : Int) ^ ((2 : Int).toNat) - 1 = 65535 := by decide
    rw [e0]
    by_cases hs : 0 ≤ l ∧ l ≤ h ∧ h ≤ 65535
    · by_cases ht : t < 1
      · rw [if_neg (by omega)]; exact alone1_2_low w l h t hs ht A n c
      · by_cases hu : 65536 < t
        · rw [if_neg (by omega)]; exact alone1_2_high w l h t hs hu A n c
        · rw [if_pos (by omega)]
          rw [if_neg (by omega)]; exact alone1_2_ok w l h t hs (by omega) (by omega) A n c
    · rw [if_neg (by omega)]; exact alone1_2_span w l h t hs A n c
  · have e0 : (256 : Int) ^ ((3 : Int).toNat) - 1 = 16777215 := by decide
    rw [e0]
    by_cases hs : 0 ≤ l ∧ l ≤ h ∧ h ≤ 16777215
    · by_cases ht : t < 1
      · rw [if_neg (by omega)]; exact alone1_3_low w l h t hs ht A n c
      · by_cases hu : 65536 < t
        · rw [if_neg (by omega)]; exact alone1_3_high w l h t hs hu A n c
        · rw [if_pos (by omega)]
          rw [if_neg (by omega)]; exact alone1_3_ok w l h t hs (by omega) (by omega) A n c
    · rw [if_neg (by omega)]; exact alone1_3_span w l h t hs A n c

theorem alone2_any (w : World) (s l h t : Int) (A : Option Addr) (n c : Nat) :
    Calls Try.prog 90 #[.agg #[.int .i64 2, .int .i64 s, .int .i64 l, .int .i64 h, .int .i64 t, .slice A n c]] w fun e w' => e = .returned (.int .i64 (alone 2 s l h t n)) ∧ Grew w w' none := by
  rw [alone_12 (by omega)]
  by_cases h1 : s < 1
  · rw [if_neg (by omega)]; exact alone2_small w s l h t h1 A n c
  by_cases h3 : 3 < s
  · rw [if_neg (by omega)]; exact alone2_wide w s l h t h3 A n c
  rw [if_pos (by omega)]
  have key : s = 1 ∨ s = 2 ∨ s = 3 := by omega
  rcases key with rfl | rfl | rfl
  · have e0 : (256 : Int) ^ ((1 : Int).toNat) - 1 = 255 := by decide
    rw [e0]
    by_cases hs : 0 ≤ l ∧ l ≤ h ∧ h ≤ 255
    · by_cases ht : t < 1
      · rw [if_neg (by omega)]; exact alone2_1_low w l h t hs ht A n c
      · by_cases hu : 65536 < t
        · rw [if_neg (by omega)]; exact alone2_1_high w l h t hs hu A n c
        · rw [if_pos (by omega)]
          by_cases hn : n = 1
          · rw [if_neg (by omega)]; exact alone2_1_ok w l h t A n c hs (by omega) (by omega) (by subst hn; rfl)
          · rw [if_pos (by omega)]; exact alone2_1_many w l h t A n c hs (by omega) (by omega) (ne_beq (by omega))
    · rw [if_neg (by omega)]; exact alone2_1_span w l h t hs A n c
  · have e0 : (256 : Int) ^ ((2 : Int).toNat) - 1 = 65535 := by decide
    rw [e0]
    by_cases hs : 0 ≤ l ∧ l ≤ h ∧ h ≤ 65535
    · by_cases ht : t < 1
      · rw [if_neg (by omega)]; exact alone2_2_low w l h t hs ht A n c
      · by_cases hu : 65536 < t
        · rw [if_neg (by omega)]; exact alone2_2_high w l h t hs hu A n c
        · rw [if_pos (by omega)]
          by_cases hn : n = 1
          · rw [if_neg (by omega)]; exact alone2_2_ok w l h t A n c hs (by omega) (by omega) (by subst hn; rfl)
          · rw [if_pos (by omega)]; exact alone2_2_many w l h t A n c hs (by omega) (by omega) (ne_beq (by omega))
    · rw [if_neg (by omega)]; exact alone2_2_span w l h t hs A n c
  · have e0 : (256 : Int) ^ ((3 : Int).toNat) - 1 = 16777215 := by decide
    rw [e0]
    by_cases hs : 0 ≤ l ∧ l ≤ h ∧ h ≤ 16777215
    · by_cases ht : t < 1
      · rw [if_neg (by omega)]; exact alone2_3_low w l h t hs ht A n c
      · by_cases hu : 65536 < t
        · rw [if_neg (by omega)]; exact alone2_3_high w l h t hs hu A n c
        · rw [if_pos (by omega)]
          by_cases hn : n = 1
          · rw [if_neg (by omega)]; exact alone2_3_ok w l h t A n c hs (by omega) (by omega) (by subst hn; rfl)
          · rw [if_pos (by omega)]; exact alone2_3_many w l h t A n c hs (by omega) (by omega) (ne_beq (by omega))
    · rw [if_neg (by omega)]; exact alone2_3_span w l h t hs A n c

theorem alone_any (w : World) (k s l h t : Int) (A : Option Addr) (n c : Nat) :
    Calls Try.prog 90 #[.agg #[.int .i64 k, .int .i64 s, .int .i64 l, .int .i64 h, .int .i64 t, .slice A n c]] w fun e w' => e = .returned (.int .i64 (alone k s l h t n)) ∧ Grew w w' none := by
  by_cases h0 : k = 0
  · subst h0
    by_cases hs : s = 1 ∨ s = 2 ∨ s = 3 ∨ s = 4 ∨ s = 8
    · have e : alone 0 s l h t n = 0 := by unfold alone; rw [if_pos rfl, if_pos hs]
      rw [e]; exact alone0_ok w s l h t hs A n c
    · have e : alone 0 s l h t n = 3 := by unfold alone; rw [if_pos rfl, if_neg hs]
      rw [e]; exact alone0_no w s l h t hs A n c
  by_cases h4 : k = 4
  · subst h4
    by_cases hs : 0 ≤ l ∧ l ≤ h ∧ h ≤ 16777215
    · have e : alone 4 s l h t n = 0 := by unfold alone; rw [if_neg (by omega), if_pos rfl, if_pos hs]
      rw [e]; exact alone4_ok w s l h t hs A n c
    · have e : alone 4 s l h t n = 5 := by unfold alone; rw [if_neg (by omega), if_pos rfl, if_neg hs]
      rw [e]; exact alone4_no w s l h t hs A n c
  by_cases h5 : k = 5
  · subst h5
    by_cases hs : 0 ≤ l ∧ l ≤ 16777215
    · have e : alone 5 s l h t n = 0 := by unfold alone; rw [if_neg (by omega), if_neg (by omega), if_pos rfl, if_pos hs]
      rw [e]; exact alone5_ok w s l h t hs A n c
    · have e : alone 5 s l h t n = 5 := by unfold alone; rw [if_neg (by omega), if_neg (by omega), if_pos rfl, if_neg hs]
      rw [e]; exact alone5_no w s l h t hs A n c
  by_cases h1 : k = 1
  · subst h1; exact alone1_any w s l h t A n c
  by_cases h2 : k = 2
  · subst h2; exact alone2_any w s l h t A n c
  by_cases h3 : k = 3
  · subst h3
    by_cases hs : n ≤ 32
    · have e : alone 3 s l h t n = 0 := by unfold alone; rw [if_neg (by omega), if_neg (by omega), if_neg (by omega), if_neg (by omega), if_pos rfl, if_pos hs]
      rw [e]; exact alone3_ok w s l h t A n c hs
    · have e : alone 3 s l h t n = 15 := by unfold alone; rw [if_neg (by omega), if_neg (by omega), if_neg (by omega), if_neg (by omega), if_pos rfl, if_neg hs]
      rw [e]; exact alone3_no w s l h t A n c hs
  have e : alone k s l h t n = 2 := by unfold alone; rw [if_neg h0, if_neg h4, if_neg h5, if_neg (by omega), if_neg h3]
  rw [e]; exact aloneX w k s l h t (ne_beq h0) (ne_beq h1) (ne_beq h2) (ne_beq h3) (ne_beq h4) (ne_beq h5) A n c

theorem mis_any (w : World) (k s l h t : Int) (A : Option Addr) (c : Nat) (ps : List Fo) (hin : (Fo.mk k s l h t A c ps).In w) (hk : k = 2 → ps.length = 1) :
    Calls Try.prog 91 #[(Fo.mk k s l h t A c ps).val] w fun e w' => e = .returned (.bool (mis k ps)) ∧ Grew w w' none := by
  by_cases h2 : k = 2
  · subst h2
    obtain ⟨p, rfl⟩ := List.length_eq_one_iff.1 (hk rfl)
    exact mis_two w s l h t A c p hin
  by_cases h3 : k = 3
  · subst h3; exact mis_three w s l h t A c ps hin
  exact mis_else w k s l h t A c ps (ne_beq h2) (ne_beq h3)

theorem wrgs_append (xs ys : List Fo) : wrgs (xs ++ ys) = if wrgs xs ≠ 0 then wrgs xs else wrgs ys := by
  induction xs with
  | nil => simp [wrgs]
  | cons x xs ih =>
    simp only [List.cons_append, wrgs, ih]
    by_cases hx : wrg x ≠ 0
    · simp [hx]
    · simp [hx]
theorem wrgs_take {qs : List Fo} {n : Nat} {p : Fo} (h : qs[n]? = some p) (h0 : wrgs (qs.take n) = 0) : wrgs (qs.take (n + 1)) = wrg p := by
  rw [take_succ' h, wrgs_append, h0, if_neg (by simp)]
  simp only [wrgs]
  by_cases hp : wrg p ≠ 0
  · rw [if_pos hp]
  · rw [if_neg hp]; omega
theorem wrgs_some {qs : List Fo} {n : Nat} {p : Fo} (h : qs[n]? = some p) (h0 : wrgs (qs.take n) = 0) (hp : wrg p ≠ 0) : wrgs qs = wrg p := by
  have e := List.take_append_drop (n + 1) qs
  rw [← e, wrgs_append, wrgs_take h h0, if_pos hp]
theorem wrg_eq (k s l h t : Int) (A : Option Addr) (c : Nat) (ps : List Fo) : wrg (.mk k s l h t A c ps) = if alone k s l h t ps.length ≠ 0 then alone k s l h t ps.length else if wrgs (inn (.mk k s l h t A c ps)) ≠ 0 then wrgs (inn (.mk k s l h t A c ps)) else if mis k ps then 15 else 0 := by
  rw [wrg, inn]
  by_cases hk : k = 2 ∨ k = 3
  · simp only [if_pos hk]
  · simp only [if_neg hk, wrgs]; simp
theorem alone_two {s l h t : Int} {n : Nat} (h0 : alone 2 s l h t n = 0) : n = 1 := by
  rw [alone_12 (by omega)] at h0
  split at h0
  · split at h0
    · split at h0
      · omega
      · omega
    · omega
  · omega

theorem Whole.six {w : World} {q : Nat} {a0 a1 a2 a3 a4 a5 : Value} {t : TypeId} (h : Whole w q #[a0, a1, a2, a3, a4, a5] t) :
    w.cell? ⟨q, 0, none⟩ = some a0 ∧ w.cell? ⟨q, 1, none⟩ = some a1 ∧ w.cell? ⟨q, 2, none⟩ = some a2 ∧ w.cell? ⟨q, 3, none⟩ = some a3 ∧ w.cell? ⟨q, 4, none⟩ = some a4 ∧ w.cell? ⟨q, 5, none⟩ = some a5 :=
  ⟨h.cell 0, h.cell 1, h.cell 2, h.cell 3, h.cell 4, h.cell 5⟩

set_option maxRecDepth 100000 in
set_option maxHeartbeats 2000000 in
theorem wrong_any (f : Fo) : ∀ (w : World), f.In w →
    Calls Try.prog 70 #[f.val] w fun e w' => e = .returned (.int .i64 f.wrg) ∧ Grew w w' none := by
  induction f using Fo.ind with
  | H k s l h t A c ps ih =>
  intro w hin
  obtain ⟨A', c', qs, hv, hqs, hlz, hlie, hmem⟩ := hin.inner
  have hW := wrg_eq k s l h t A c ps
  rw [hqs] at hW
  have h2 : k = 2 → alone k s l h t ps.length = 0 → ps.length = 1 := fun hk h0 => by subst hk; exact alone_two h0
  generalize hX : wrg (.mk k s l h t A c ps) = X at *
  have HX := Lib.hid hW
  have HAL := Lib.hid (fun w => alone_any w k s l h t A ps.length c)
  have HMI := Lib.hid (fun w1 (g : Grew w w1 none) (h0 : alone k s l h t ps.length = 0) => mis_any w1 k s l h t A c ps (hin.grew g) (fun hk => h2 hk h0))
  have IH := Lib.hid ih
  have HL := Lib.hid hlie
  have HM := Lib.hid hmem
  have HV := Lib.hid hv
  clear ih hlie hmem hv hqs hin hW h2 hX
  change Calls Try.prog 70 #[.agg #[.int .i64 k, .int .i64 s, .int .i64 l, .int .i64 h, .int .i64 t, .slice A ps.length c]] w _
  generalize alone k s l h t ps.length = E at *
  generalize mis k ps = M at *
  go_enter Try.func70, Try.ntmps70
  go_wp2_with fail
  refine (HAL.out _).mono ?_
  rintro e w1 ⟨rfl, g1⟩
  by_cases he : E = 0
  · subst he
    have hw1 := (Whole.new w #[.int .i64 k, .int .i64 s, .int .i64 l, .int .i64 h, .int .i64 t, .slice A ps.length c] 24).grew g1 (by simp)
    obtain ⟨c0, c1, c2, c3, c4, c5⟩ := hw1.six
    have HW1 := Lib.hid hw1
    have HG1 := Lib.hid (grew_trans (grew_alloc (grew_refl w none) _) g1)
    have HQ := Lib.hid (show ∃ q, q = w.heap.size from ⟨_, rfl⟩)
    clear g1 hw1
    generalize w.heap.size = q at *
    go_wp2_with fail
    refine (inside_any _ (.mk k s l h t A c ps)).mono ?_
    rintro e w2 ⟨rfl, g2⟩
    rw [HV.out]
    have HR := Lib.hid (show Grew w w2 none ∧ Whole w2 q #[.int .i64 k, .int .i64 s, .int .i64 l, .int .i64 h, .int .i64 t, .slice A ps.length c] 24 ∧ wrgs (qs.take 0) = 0 from ⟨grew_trans HG1.out g2, HW1.out.grew g2 (by simp), by simp [wrgs]⟩)
    clear g2 c0 c1 c2 c3 c4 c5
    go_wp2_with fail
    go_loopw [15] (fun i wr => ∃ n : Nat, n ≤ qs.length ∧ i = .int .i64 n ∧ Hid (Grew w wr none ∧ Whole wr q #[.int .i64 k, .int .i64 s, .int .i64 l, .int .i64 h, .int .i64 t, .slice A ps.length c] 24 ∧ wrgs (qs.take n) = 0)) (fun i _ => qs.length - (intOf i).toNat)
    case atStart => exact ⟨0, Nat.zero_le _, rfl, HR⟩
    case round =>
      obtain ⟨n, hn, rfl, R⟩ := hrel
      by_cases hlt : n < qs.length
      · obtain ⟨b, o, p, rfl, hp, hpm, c0, c1, c2, c3, c4, c5⟩ := (HL.out.grew R.out.1).at hlt
        have HP := Lib.hid (show qs[n]? = some p ∧ p ∈ qs from ⟨hp, hpm⟩)
        clear hp hpm
        go_wp2_with fail
        refine (IH.out p (HM.out p HP.out.2).1 _ ((HM.out p HP.out.2).2.grew (grew_alloc R.out.1 _))).mono ?_
        rintro e w3 ⟨rfl, g3⟩
        have HG3 := Lib.hid (grew_trans (grew_alloc R.out.1 _) g3)
        by_cases hd : wrg p = 0
        · have HR2 := Lib.hid (show Grew w w3 none ∧ Whole w3 q #[.int .i64 k, .int .i64 s, .int .i64 l, .int .i64 h, .int .i64 t, .slice A ps.length c] 24 ∧ wrgs (qs.take (n + 1)) = 0 from
            ⟨HG3.out, R.out.2.1.grew (grew_trans (grew_alloc (grew_refl _ none) _) g3) (by simp), by rw [wrgs_take HP.out.1 R.out.2.2, hd]⟩)
          rw [hd]
          clear hd R g3 c0 c1 c2 c3 c4 c5 HG3
          go_wp2_with fail
          go_roundw
          case rel => exact ⟨n + 1, by omega, by go_num, HR2⟩
          case measure => simp [intOf]; omega
        · have HE := Lib.hid (show wrgs qs = wrg p from wrgs_some HP.out.1 R.out.2.2 hd)
          have hb := ne_beq hd
          have HD := Lib.hid hd
          clear R g3 c0 c1 c2 c3 c4 c5
          generalize wrg p = y at *
          go_wp2_with fail
          go_ret
          refine ⟨?_, HG3.out⟩
          rw [HX.out, if_neg (by simp), HE.out, if_pos HD.out]
          rfl
      · have HE := Lib.hid (show wrgs qs = 0 by
          have h3 := R.out.2.2
          have : n = qs.length := by omega
          rw [this, List.take_length] at h3
          exact h3)
        have HG := Lib.hid R.out.1
        obtain ⟨c0, c1, c2, c3, c4, c5⟩ := R.out.2.1.six
        clear R
        go_wp2_with fail
        refine (HMI.out _ HG.out (by trivial)).mono ?_
        rintro e w3 ⟨rfl, g3⟩
        have HG3 := Lib.hid (grew_trans HG.out g3)
        clear g3 c0 c1 c2 c3 c4 c5
        cases M with
        | true =>
          go_wp2_with fail
          go_ret
          refine ⟨?_, HG3.out⟩
          rw [HX.out, if_neg (by simp), HE.out]
          rfl
        | false =>
          go_wp2_with fail
          go_ret
          refine ⟨?_, HG3.out⟩
          rw [HX.out, if_neg (by simp), HE.out]
          rfl
  · have hb := ne_beq he
    have HG1 := Lib.hid (grew_trans (grew_alloc (grew_refl w none) _) g1)
    have HE := Lib.hid he
    clear g1
    go_wp2_with fail
    go_ret
    exact ⟨by rw [HX.out, if_pos HE.out]; rfl, HG1.out⟩

end Go.Proofs.Ytibbeodcheefaaa


/- Check, Open, Least, Most of any form; the statements' own example. -/
namespace Go.Proofs.Ytibbeodcheefaaa
open Go.RowKit Fo

theorem val_eq (f : Fo) : f.val = .agg #[.int .i64 f.k, .int .i64 f.s, .int .i64 f.l, .int .i64 f.h, .int .i64 f.t, .slice f.A f.ps.length f.c] := rfl

theorem check_any (w : World) (f : Fo) (hf : f.In w) :
    Calls Try.prog 57 #[f.val] w fun e w' => e = .returned (.int .i64 f.chk) ∧ Grew w w' none := by
  have HD := Lib.hid (fun (w1 : World) (g : Grew w w1 none) => deeper_any f 8 w1 (by omega) (by omega) (hf.grew g))
  have HW := Lib.hid (fun (w1 : World) (g : Grew w w1 none) => wrong_any f w1 (hf.grew g))
  clear hf
  have hC : f.chk = if 8 < f.dep then 14 else f.wrg := rfl
  generalize f.chk = C at *
  rw [val_eq] at *
  by_cases hd : 8 < f.dep
  · rw [if_pos hd] at hC
    have e : decide ((8 : Int) < (f.dep : Int)) = true := by simp; omega
    rw [e] at HD
    subst hC
    clear e hd
    go_enter Try.func57, Try.ntmps57
    go_wp2_with fail
    refine (HD.out _ (grew_alloc (grew_refl _ _) _)).mono ?_
    rintro e w1 ⟨rfl, g1⟩
    go_wp2_with fail
    go_ret
    exact ⟨rfl, grew_trans (grew_alloc (grew_refl _ _) _) g1⟩
  · rw [if_neg hd] at hC
    have e : decide ((8 : Int) < (f.dep : Int)) = false := by simp; omega
    rw [e] at HD
    subst hC
    clear e hd
    go_enter Try.func57, Try.ntmps57
    go_wp2_with fail
    refine (HD.out _ (grew_alloc (grew_refl _ _) _)).mono ?_
    rintro e w1 ⟨rfl, g1⟩
    have hw1 := (Whole.new w #[.int .i64 f.k, .int .i64 f.s, .int .i64 f.l, .int .i64 f.h, .int .i64 f.t, .slice f.A f.ps.length f.c] 24).grew g1 (by simp)
    obtain ⟨c0, c1, c2, c3, c4, c5⟩ := hw1.six
    have HG := Lib.hid (grew_trans (grew_alloc (grew_refl w none) _) g1)
    clear hw1 g1
    go_wp2_with fail
    refine (HW.out _ HG.out).mono ?_
    rintro e w2 ⟨rfl, g2⟩
    go_wp2_with fail
    go_ret
    exact ⟨rfl, grew_trans HG.out g2⟩

/-- What Open tells. -/
def openV (f : Fo) : Bool := if f.chk = 0 then f.opn else false
/-- What Least tells. -/
def leastV (f : Fo) : Int := if f.chk = 0 then f.len false else 0
/-- What Most tells. -/
def mostV (f : Fo) : Int := if f.chk = 0 then f.len true else 0
/-- The example's form. -/
theorem ex_chk (A : Option Addr) (c : Nat) : chk (.mk 2 2 2 65534 2 A c [.mk 0 2 0 0 0 none 0 []]) = 0 := by kernel_rfl
theorem ex_least (A : Option Addr) (c : Nat) : leastV (.mk 2 2 2 65534 2 A c [.mk 0 2 0 0 0 none 0 []]) = 4 := by kernel_rfl
theorem ex_most (A : Option Addr) (c : Nat) : mostV (.mk 2 2 2 65534 2 A c [.mk 0 2 0 0 0 none 0 []]) = 65536 := by kernel_rfl
theorem ex_none (A : Option Addr) (c : Nat) : chk (.mk 2 1 0 9 1 A c [.mk 5 0 0 0 0 none 0 []]) = 15 := by kernel_rfl
theorem plain_in (w : World) (k s l h t : Int) : In w (.mk k s l h t none 0 []) := .mk (by simp) (by simp) (Lie.nil _ _) (fun p hp => by simp at hp)

end Go.Proofs.Ytibbeodcheefaaa

