/- How deep forms are, and how many: deeper, the document's Depth and Count. -/
import Derived.Test.YtdamjbngopfpkaaFm
namespace Go.Proofs.Ytdamjbngopfpkaa
open Go.RowKit Fo

set_option maxHeartbeats 1000000 in
theorem deeper_any (f : Fo) : ∀ (m : Int) (w : World), 0 ≤ m → m ≤ 1000 → f.In w →
    Calls Try.prog 42 #[f.val, .int .i64 m] w fun e w' => e = .returned (.bool (decide (m < (f.dep : Int)))) ∧ Grew w w' none := by
  induction f using Fo.ind with
  | H k s l h t A c ps ih =>
  intro m w h0 h1 hin
  obtain ⟨A', c', qs, hv, hqs, hlz, hlie, hmem⟩ := hin.inner
  have hdep := dep_inn (.mk k s l h t A c ps)
  rw [hqs] at hdep
  generalize hD : dep (.mk k s l h t A c ps) = D at *
  have IH := Lib.hid ih
  have HL := Lib.hid hlie
  have HM := Lib.hid hmem
  have HV := Lib.hid hv
  have HD := Lib.hid hdep
  clear ih hlie hmem hv hqs hin hdep hD
  change Calls Try.prog 42 #[.agg #[.int .i64 k, .int .i64 s, .int .i64 l, .int .i64 h, .int .i64 t, .slice A ps.length c], .int .i64 m] w _
  by_cases hm : m = 0
  · subst hm
    have : decide ((0 : Int) < D) = true := by have := HD.out; simp; omega
    rw [this]
    clear this
    go_enter Try.func42, Try.ntmps42
    go_wp2_with fail
    go_ret
    exact ⟨rfl, grew_alloc (grew_refl _ _) _⟩
  · have hmb : (m == 0) = false := ne_beq hm
    go_enter Try.func42, Try.ntmps42
    go_wp2_with fail
    refine (inside_any _ (.mk k s l h t A c ps)).mono ?_
    rintro e w1 ⟨rfl, g1⟩
    rw [HV.out]
    have HR := Lib.hid (show Grew w w1 none ∧ deps (qs.take 0) ≤ m.toNat - 1 from ⟨grew_trans (grew_alloc (grew_refl _ _) _) g1, by simp [deps]⟩)
    clear g1
    go_wp2_with fail
    go_loopw [12] (fun i wr => ∃ n : Nat, n ≤ qs.length ∧ i = .int .i64 n ∧ Hid (Grew w wr none ∧ deps (qs.take n) ≤ m.toNat - 1)) (fun i _ => qs.length - (intOf i).toNat)
    case atStart => exact ⟨0, Nat.zero_le _, rfl, HR⟩
    case round =>
      obtain ⟨n, hn, rfl, R⟩ := hrel
      by_cases hlt : n < qs.length
      · obtain ⟨b, o, p, rfl, hp, hpm, c0, c1, c2, c3, c4, c5⟩ := (HL.out.grew R.out.1).at hlt
        have HP := Lib.hid (show qs[n]? = some p ∧ p ∈ qs from ⟨hp, hpm⟩)
        clear hp hpm
        go_wp2_with fail
        refine (IH.out p (HM.out p HP.out.2).1 (m - 1) _ (by omega) (by omega) ((HM.out p HP.out.2).2.grew (grew_alloc R.out.1 _))).mono ?_
        rintro e w2 ⟨rfl, g2⟩
        have hle : dep p ≤ deps qs := deps_le.1 (Nat.le_refl _) p HP.out.2
        by_cases hd : m - 1 < (dep p : Int)
        · have e1 : decide (m - 1 < (dep p : Int)) = true := by simpa using hd
          have e2 : decide (m < (D : Int)) = true := by have := HD.out; simp; omega
          rw [e1]
          have HG := Lib.hid (grew_trans (grew_alloc R.out.1 _) g2)
          have HE := Lib.hid e2
          clear hd e1 e2 hle R g2
          go_wp2_with fail
          go_ret
          exact ⟨by rw [HE.out]; rfl, HG.out⟩
        · have e1 : decide (m - 1 < (dep p : Int)) = false := by simpa using hd
          rw [e1]
          have HR2 := Lib.hid (show Grew w w2 none ∧ deps (qs.take (n + 1)) ≤ m.toNat - 1 from ⟨grew_trans (grew_alloc R.out.1 _) g2, by rw [deps_take HP.out.1]; have := R.out.2; omega⟩)
          clear hd e1 hle R g2
          go_wp2_with fail
          go_roundw
          case rel => exact ⟨n + 1, by omega, by go_num, HR2⟩
          case measure => simp [intOf]; omega
      · have e2 : decide (m < (D : Int)) = false := by
          have h3 := R.out.2
          have : n = qs.length := by omega
          rw [this, List.take_length] at h3
          have := HD.out
          simp; omega
        have HE := Lib.hid e2
        have HG := Lib.hid R.out.1
        clear e2 R
        go_wp2_with fail
        go_ret
        exact ⟨by rw [HE.out]; rfl, HG.out⟩

set_option maxHeartbeats 1000000 in
theorem depth_any (f : Fo) : ∀ (m : Int) (w : World), 0 ≤ m → m ≤ 1000 → f.In w →
    Calls Try.prog 31 #[f.val, .int .i64 m] w fun e w' => e = .returned (.int .i64 (min (f.dep : Int) (m + 1))) ∧ Grew w w' none := by
  induction f using Fo.ind with
  | H k s l h t A c ps ih =>
  intro m w h0 h1 hin
  obtain ⟨A', c', qs, hv, hqs, hlz, hlie, hmem⟩ := hin.inner
  have hdep := dep_inn (.mk k s l h t A c ps)
  rw [hqs] at hdep
  generalize hD : dep (.mk k s l h t A c ps) = D at *
  have IH := Lib.hid ih
  have HL := Lib.hid hlie
  have HM := Lib.hid hmem
  have HV := Lib.hid hv
  have HD := Lib.hid hdep
  clear ih hlie hmem hv hqs hin hdep hD
  change Calls Try.prog 31 #[.agg #[.int .i64 k, .int .i64 s, .int .i64 l, .int .i64 h, .int .i64 t, .slice A ps.length c], .int .i64 m] w _
  go_enter Try.func31, Try.ntmps31
  go_wp2_with fail
  refine (parts_any _ (.mk k s l h t A c ps)).mono ?_
  rintro e w1 ⟨rfl, g1⟩
  rw [HV.out]
  have HR := Lib.hid (show Grew w w1 none ∧ (0 : Int) = min (deps (qs.take 0) : Int) m from ⟨grew_trans (grew_alloc (grew_refl _ _) _) g1, by simp [deps]; omega⟩)
  clear g1
  go_wp2_with fail
  go_loopw [7, 5] (fun i d wr => ∃ (n : Nat) (x : Int), n ≤ qs.length ∧ i = .int .i64 n ∧ d = .int .i64 x ∧ 0 ≤ x ∧ x ≤ m ∧ Hid (Grew w wr none ∧ x = min (deps (qs.take n) : Int) m)) (fun i _ _ => qs.length - (intOf i).toNat)
  case atStart => exact ⟨0, 0, Nat.zero_le _, rfl, rfl, by omega, by omega, HR⟩
  case round =>
    obtain ⟨n, x, hn, rfl, rfl, x0, x1, R⟩ := hrel
    by_cases hlt : n < qs.length
    · by_cases hm : 0 < m
      · obtain ⟨b, o, p, rfl, hp, hpm, c0, c1, c2, c3, c4, c5⟩ := (HL.out.grew R.out.1).at hlt
        have HP := Lib.hid (show qs[n]? = some p ∧ p ∈ qs from ⟨hp, hpm⟩)
        clear hp hpm
        go_wp2_with fail
        refine (IH.out p (HM.out p HP.out.2).1 (m - 1) _ (by omega) (by omega) ((HM.out p HP.out.2).2.grew R.out.1)).mono ?_
        rintro e w2 ⟨rfl, g2⟩
        have hdp := dep_pos p
        have key := deps_take HP.out.1
        have hr := R.out.2
        have HG := Lib.hid (grew_trans R.out.1 g2)
        generalize hy : min (dep p : Int) (m - 1 + 1) = y at *
        clear c0 c1 c2 c3 c4 c5 g2
        by_cases hxy : x < y
        · have HR2 := Lib.hid (show Grew w w2 none ∧ y = min (deps (qs.take (n + 1)) : Int) m from ⟨HG.out, by rw [key]; omega⟩)
          have y1 : y ≤ m := by omega
          clear hy key hr R hdp HG
          go_wp2_with fail
          go_roundw
          case rel => exact ⟨n + 1, y, by omega, by go_num, rfl, by omega, by omega, HR2⟩
          case measure => simp [intOf]; omega
        · have HR2 := Lib.hid (show Grew w w2 none ∧ x = min (deps (qs.take (n + 1)) : Int) m from ⟨HG.out, by rw [key]; omega⟩)
          clear hy key hr R hdp HG
          go_wp2_with fail
          go_roundw
          case rel => exact ⟨n + 1, x, by omega, by go_num, rfl, by omega, by omega, HR2⟩
          case measure => simp [intOf]; omega
      · have hm0 : m = 0 := by omega
        subst hm0
        have HE := Lib.hid (show x + 1 = min (D : Int) (0 + 1) by have := HD.out; have := R.out.2; omega)
        have HG := Lib.hid R.out.1
        clear R hm
        go_wp2_with fail
        go_ret
        exact ⟨by rw [HE.out]; rfl, HG.out⟩
    · have HE := Lib.hid (show x + 1 = min (D : Int) (m + 1) by
        have h3 := R.out.2
        have : n = qs.length := by omega
        rw [this, List.take_length] at h3
        have := HD.out
        omega)
      have HG := Lib.hid R.out.1
      clear R
      go_wp2_with fail
      go_ret
      exact ⟨by rw [HE.out]; rfl, HG.out⟩

set_option maxHeartbeats 1000000 in
theorem count_any (f : Fo) : ∀ (m : Int) (w : World), 0 ≤ m → m ≤ 1000 → f.In w →
    Calls Try.prog 12 #[f.val, .int .i64 m] w fun e w' => e = .returned (.int .i64 (min (f.cnt : Int) (m + 1))) ∧ Grew w w' none := by
  induction f using Fo.ind with
  | H k s l h t A c ps ih =>
  intro m w h0 h1 hin
  obtain ⟨A', c', qs, hv, hqs, hlz, hlie, hmem⟩ := hin.inner
  have hdep := cnt_inn (.mk k s l h t A c ps)
  rw [hqs] at hdep
  generalize hD : cnt (.mk k s l h t A c ps) = D at *
  have IH := Lib.hid ih
  have HL := Lib.hid hlie
  have HM := Lib.hid hmem
  have HV := Lib.hid hv
  have HD := Lib.hid hdep
  clear ih hlie hmem hv hqs hin hdep hD
  change Calls Try.prog 12 #[.agg #[.int .i64 k, .int .i64 s, .int .i64 l, .int .i64 h, .int .i64 t, .slice A ps.length c], .int .i64 m] w _
  go_enter Try.func12, Try.ntmps12
  go_wp2_with fail
  refine (parts_any _ (.mk k s l h t A c ps)).mono ?_
  rintro e w1 ⟨rfl, g1⟩
  rw [HV.out]
  have HR := Lib.hid (show Grew w w1 none ∧ (1 : Int) = min (cnts (qs.take 0) + 1 : Int) (m + 1) from ⟨grew_trans (grew_alloc (grew_refl _ _) _) g1, by simp [cnts]; omega⟩)
  clear g1
  go_wp2_with fail
  go_loopw [7, 5] (fun i d wr => ∃ (n : Nat) (x : Int), n ≤ qs.length ∧ i = .int .i64 n ∧ d = .int .i64 x ∧ 1 ≤ x ∧ x ≤ m + 1 ∧ Hid (Grew w wr none ∧ x = min (cnts (qs.take n) + 1 : Int) (m + 1))) (fun i _ _ => qs.length - (intOf i).toNat)
  case atStart => exact ⟨0, 1, Nat.zero_le _, rfl, rfl, by omega, by omega, HR⟩
  case round =>
    obtain ⟨n, x, hn, rfl, rfl, x0, x1, R⟩ := hrel
    by_cases hlt : n < qs.length
    · by_cases hm : x ≤ m
      · obtain ⟨b, o, p, rfl, hp, hpm, c0, c1, c2, c3, c4, c5⟩ := (HL.out.grew R.out.1).at hlt
        have HP := Lib.hid (show qs[n]? = some p ∧ p ∈ qs from ⟨hp, hpm⟩)
        clear hp hpm
        go_wp2_with fail
        refine (IH.out p (HM.out p HP.out.2).1 (m - x) _ (by omega) (by omega) ((HM.out p HP.out.2).2.grew R.out.1)).mono ?_
        rintro e w2 ⟨rfl, g2⟩
        have hdp := cnt_pos p
        have key := cnts_take HP.out.1
        have hr := R.out.2
        have HG := Lib.hid (grew_trans R.out.1 g2)
        generalize hy : min (cnt p : Int) (m - x + 1) = y at *
        clear c0 c1 c2 c3 c4 c5 g2
        have HR2 := Lib.hid (show Grew w w2 none ∧ x + y = min (cnts (qs.take (n + 1)) + 1 : Int) (m + 1) from ⟨HG.out, by rw [key]; omega⟩)
        have y1 : y ≤ m - x + 1 := by omega
        have y0 : 1 ≤ y := by omega
        clear hy key hr R hdp HG
        go_wp2_with fail
        go_roundw
        case rel => exact ⟨n + 1, x + y, by omega, by go_num, rfl, by omega, by omega, HR2⟩
        case measure => simp [intOf]; omega
      · have HE := Lib.hid (show x = min (D : Int) (m + 1) by have := HD.out; have := R.out.2; have := cnts_take_le qs n; omega)
        have HG := Lib.hid R.out.1
        clear R
        go_wp2_with fail
        go_ret
        exact ⟨by rw [HE.out]; rfl, HG.out⟩
    · have HE := Lib.hid (show x = min (D : Int) (m + 1) by
        have h3 := R.out.2
        have : n = qs.length := by omega
        rw [this, List.take_length] at h3
        have := HD.out
        omega)
      have HG := Lib.hid R.out.1
      clear R
      go_wp2_with fail
      go_ret
      exact ⟨by rw [HE.out]; rfl, HG.out⟩

end Go.Proofs.Ytdamjbngopfpkaa

