/- Same: the document's answer, where the numbers that play a part are the same. -/
import Derived.Test.YtlehehibfpbhmaaRs2
import Derived.Test.YtlehehibfpbhmaaFa
namespace Go.Proofs.Ytlehehibfpbhmaa
open Go.RowKit Fo

set_option maxRecDepth 100000 in
set_option maxHeartbeats 4000000 in
theorem rsok_4 (w : World) (s l h t s' t' : Int) (A A' : Option Addr) (c c' : Nat) (ps ps' : List Fo)  (ih : RsIH ps) (hf : In w (.mk 4 s l h t A c ps)) (hg : In w (.mk 4 s' l h t' A' c' ps')) :
    Calls Try.prog 11 #[.agg #[.int .i64 4, .int .i64 s, .int .i64 l, .int .i64 h, .int .i64 t, .slice A ps.length c], .agg #[.int .i64 4, .int .i64 s', .int .i64 l, .int .i64 h, .int .i64 t', .slice A' ps'.length c']] w fun e w' => e = .returned (.bool (same (.mk 4 s l h t A c ps) (.mk 4 s' l h t' A' c' ps'))) ∧ Grew w w' none := by
  obtain ⟨A1, c1, qs, hv1, hqs1, hlz1, hlie1, hmem1⟩ := hf.inner
  obtain ⟨A2, c2, rs, hv2, hqs2, hlz2, hlie2, hmem2⟩ := hg.inner
  have hS := same_eq (k := 4) (s := s) (l := l) (h := h) (t := t) (s' := s') (l' := l) (h' := h) (t' := t') (A := A) (A' := A') (c := c) (c' := c') (ps := ps) (ps' := ps') (fun h => by omega) (fun h => by omega) (fun _ => ⟨rfl, rfl⟩) (fun h => by omega)
  rw [hqs1, hqs2] at hS
  generalize hX : same (.mk 4 s l h t A c ps) (.mk 4 s' l h t' A' c' ps') = X at *
  have HX := Lib.hid hS
  have IH := Lib.hid ih
  have HL1 := Lib.hid hlie1
  have HL2 := Lib.hid hlie2
  have HM1 := Lib.hid hmem1
  have HM2 := Lib.hid hmem2
  have HV1 := Lib.hid hv1
  have HV2 := Lib.hid hv2
  clear ih hlie1 hlie2 hmem1 hmem2 hv1 hv2 hqs1 hqs2 hf hg hS hX
  have HW2 := Lib.hid (Whole.new (w.alloc (.cells #[.int .i64 4, .int .i64 s, .int .i64 l, .int .i64 h, .int .i64 t, .slice A ps.length c] 24)) #[.int .i64 4, .int .i64 s', .int .i64 l, .int .i64 h, .int .i64 t', .slice A' ps'.length c'] 24)
  rw [show (w.alloc (.cells #[.int .i64 4, .int .i64 s, .int .i64 l, .int .i64 h, .int .i64 t, .slice A ps.length c] 24)).heap.size = w.heap.size + 1 by simp] at HW2
  go_enter Try.func11, Try.ntmps11
  go_wp2_with fail
  have HG0 := Lib.hid (grew_alloc (grew_alloc (grew_refl w none) (.cells #[.int .i64 4, .int .i64 s, .int .i64 l, .int .i64 h, .int .i64 t, .slice A ps.length c] 24)) (.cells #[.int .i64 4, .int .i64 s', .int .i64 l, .int .i64 h, .int .i64 t', .slice A' ps'.length c'] 24))
  generalize (w.alloc (.cells #[.int .i64 4, .int .i64 s, .int .i64 l, .int .i64 h, .int .i64 t, .slice A ps.length c] 24)).alloc (.cells #[.int .i64 4, .int .i64 s', .int .i64 l, .int .i64 h, .int .i64 t', .slice A' ps'.length c'] 24) = W at *
  generalize w.heap.size + 1 = q at *
  refine (parts_any W (.mk 4 s l h t A c ps)).mono ?_
  rintro e w1 ⟨rfl, g1⟩
  rw [HV1.out]
  have HG1 := Lib.hid (grew_trans HG0.out g1)
  obtain ⟨d0, d1, d2, d3, d4, d5⟩ := (HW2.out.grew g1 (by simp)).six
  clear g1
  go_wp2_with fail
  refine (parts_any w1 (.mk 4 s' l h t' A' c' ps')).mono ?_
  rintro e w2 ⟨rfl, g2⟩
  rw [HV2.out]
  have HG2 := Lib.hid (grew_trans HG1.out g2)
  clear g2 d0 d1 d2 d3 d4 d5
  by_cases hll : qs.length = rs.length
  · have HX2 := Lib.hid (show X = sames qs rs by rw [HX.out, decide_eq_true hll, Bool.true_and])
    have HLL := Lib.hid hll
    rw [← hll]
    clear hll HX
    have HR := Lib.hid (show Grew w w2 none ∧ ∀ (i : Nat) (p r : Fo), i < 0 → qs[i]? = some p → rs[i]? = some r → same p r = true from ⟨HG2.out, fun i p r hi => by omega⟩)
    go_wp2_with fail
    go_loopw [7] (fun i wr => ∃ n : Nat, n ≤ qs.length ∧ i = .int .i64 n ∧ Hid (Grew w wr none ∧ ∀ (i : Nat) (p r : Fo), i < n → qs[i]? = some p → rs[i]? = some r → same p r = true)) (fun i _ => qs.length - (intOf i).toNat)
    case atStart => exact ⟨0, Nat.zero_le _, rfl, HR⟩
    case round =>
      obtain ⟨n, hn, rfl, R⟩ := hrel
      by_cases hlt : n < qs.length
      · obtain ⟨b, o, p, rfl, hp, hpm, p0, p1, p2, p3, p4, p5⟩ := (HL1.out.grew R.out.1).at hlt
        obtain ⟨b', o', r, rfl, hr, hrm, r0, r1, r2, r3, r4, r5⟩ := (HL2.out.grew R.out.1).at (by rw [← HLL.out]; exact hlt)
        have f0 := fun x => pad_cell p0 x
        have f1 := fun x => pad_cell p1 x
        have f2 := fun x => pad_cell p2 x
        have f3 := fun x => pad_cell p3 x
        have f4 := fun x => pad_cell p4 x
        have f5 := fun x => pad_cell p5 x
        have g0 := fun x => pad_cell r0 x
        have g1 := fun x => pad_cell r1 x
        have g2 := fun x => pad_cell r2 x
        have g3 := fun x => pad_cell r3 x
        have g4 := fun x => pad_cell r4 x
        have g5 := fun x => pad_cell r5 x
        have HC := Lib.hid (fun x => IH.out p (HM1.out p hpm).1 r (World.pad wr x) ((HM1.out p hpm).2.grew (grew_trans R.out.1 (grew_pad wr x))) ((HM2.out r hrm).2.grew (grew_trans R.out.1 (grew_pad wr x))))
        have HP := Lib.hid (show qs[n]? = some p ∧ rs[n]? = some r from ⟨hp, hr⟩)
        clear hp hpm hr hrm p0 p1 p2 p3 p4 p5 r0 r1 r2 r3 r4 r5
        have hlr : (n : Int) < qs.length := by omega
        go_wp2_with fail
        refine wp_region_pad (by kernel_rfl) (by kernel_rfl) ?_
        repeat (go_big_quiet_step ((go_at_call 11; exact pad_call (HC.out _))))
        refine wpQuiet_nil ?_
        rintro _ ⟨xq, rfl⟩
        have HG3 := Lib.hid (grew_trans R.out.1 (grew_pad wr xq))
        clear f0 f1 f2 f3 f4 f5 g0 g1 g2 g3 g4 g5 HC
        generalize World.pad wr xq = W3 at *
        cases hs : same p r with
        | false =>
          have HE := Lib.hid (show X = false by rw [HX2.out]; exact sames_no HP.out.1 HP.out.2 hs)
          clear hs R
          go_wp2_with fail
          go_ret
          exact ⟨by rw [HE.out]; rfl, HG3.out⟩
        | true =>
          have HR2 := Lib.hid (show Grew w W3 none ∧ ∀ (i : Nat) (p r : Fo), i < n + 1 → qs[i]? = some p → rs[i]? = some r → same p r = true from ⟨HG3.out, fun i p' r' hi hp' hr' => by
            rcases Nat.lt_or_ge i n with h | h
            · exact R.out.2 i p' r' h hp' hr'
            · have : i = n := by omega
              subst this
              rw [HP.out.1] at hp'
              rw [HP.out.2] at hr'
              injection hp' with hp'
              injection hr' with hr'
              rw [← hp', ← hr']; exact hs⟩)
          clear hs R HG3
          go_wp2_with fail
          go_roundw
          case rel => exact ⟨n + 1, by omega, by go_num, HR2⟩
          case measure => simp [intOf]; omega
      · have HE := Lib.hid (show X = true by
          rw [HX2.out, sames_iff]
          intro i p r hp hr
          exact R.out.2 i p r (by rw [List.getElem?_eq_some_iff] at hp; obtain ⟨h, _⟩ := hp; omega) hp hr)
        have HG3 := Lib.hid R.out.1
        clear R
        go_wp2_with fail
        go_ret
        exact ⟨by rw [HE.out]; rfl, HG3.out⟩
  · have HX2 := Lib.hid (show X = false by rw [HX.out, decide_eq_false hll]; rfl)
    have hb : ((qs.length : Int) != (rs.length : Int)) = true := ne_bne' (by omega)
    clear hll HX
    go_wp2_with fail
    go_ret
    exact ⟨by rw [HX2.out]; rfl, HG2.out⟩

set_option maxRecDepth 100000 in
set_option maxHeartbeats 4000000 in
theorem rsok_5 (w : World) (s l h t s' h' t' : Int) (A A' : Option Addr) (c c' : Nat) (ps ps' : List Fo)  (ih : RsIH ps) (hf : In w (.mk 5 s l h t A c ps)) (hg : In w (.mk 5 s' l h' t' A' c' ps')) :
    Calls Try.prog 11 #[.agg #[.int .i64 5, .int .i64 s, .int .i64 l, .int .i64 h, .int .i64 t, .slice A ps.length c], .agg #[.int .i64 5, .int .i64 s', .int .i64 l, .int .i64 h', .int .i64 t', .slice A' ps'.length c']] w fun e w' => e = .returned (.bool (same (.mk 5 s l h t A c ps) (.mk 5 s' l h' t' A' c' ps'))) ∧ Grew w w' none := by
  obtain ⟨A1, c1, qs, hv1, hqs1, hlz1, hlie1, hmem1⟩ := hf.inner
  obtain ⟨A2, c2, rs, hv2, hqs2, hlz2, hlie2, hmem2⟩ := hg.inner
  have hS := same_eq (k := 5) (s := s) (l := l) (h := h) (t := t) (s' := s') (l' := l) (h' := h') (t' := t') (A := A) (A' := A') (c := c) (c' := c') (ps := ps) (ps' := ps') (fun h => by omega) (fun h => by omega) (fun h => by omega) (fun _ => rfl)
  rw [hqs1, hqs2] at hS
  generalize hX : same (.mk 5 s l h t A c ps) (.mk 5 s' l h' t' A' c' ps') = X at *
  have HX := Lib.hid hS
  have IH := Lib.hid ih
  have HL1 := Lib.hid hlie1
  have HL2 := Lib.hid hlie2
  have HM1 := Lib.hid hmem1
  have HM2 := Lib.hid hmem2
  have HV1 := Lib.hid hv1
  have HV2 := Lib.hid hv2
  clear ih hlie1 hlie2 hmem1 hmem2 hv1 hv2 hqs1 hqs2 hf hg hS hX
  have HW2 := Lib.hid (Whole.new (w.alloc (.cells #[.int .i64 5, .int .i64 s, .int .i64 l, .int .i64 h, .int .i64 t, .slice A ps.length c] 24)) #[.int .i64 5, .int .i64 s', .int .i64 l, .int .i64 h', .int .i64 t', .slice A' ps'.length c'] 24)
  rw [show (w.alloc (.cells #[.int .i64 5, .int .i64 s, .int .i64 l, .int .i64 h, .int .i64 t, .slice A ps.length c] 24)).heap.size = w.heap.size + 1 by simp] at HW2
  go_enter Try.func11, Try.ntmps11
  go_wp2_with fail
  have HG0 := Lib.hid (grew_alloc (grew_alloc (grew_refl w none) (.cells #[.int .i64 5, .int .i64 s, .int .i64 l, .int .i64 h, .int .i64 t, .slice A ps.length c] 24)) (.cells #[.int .i64 5, .int .i64 s', .int .i64 l, .int .i64 h', .int .i64 t', .slice A' ps'.length c'] 24))
  generalize (w.alloc (.cells #[.int .i64 5, .int .i64 s, .int .i64 l, .int .i64 h, .int .i64 t, .slice A ps.length c] 24)).alloc (.cells #[.int .i64 5, .int .i64 s', .int .i64 l, .int .i64 h', .int .i64 t', .slice A' ps'.length c'] 24) = W at *
  generalize w.heap.size + 1 = q at *
  refine (parts_any W (.mk 5 s l h t A c ps)).mono ?_
  rintro e w1 ⟨rfl, g1⟩
  rw [HV1.out]
  have HG1 := Lib.hid (grew_trans HG0.out g1)
  obtain ⟨d0, d1, d2, d3, d4, d5⟩ := (HW2.out.grew g1 (by simp)).six
  clear g1
  go_wp2_with fail
  refine (parts_any w1 (.mk 5 s' l h' t' A' c' ps')).mono ?_
  rintro e w2 ⟨rfl, g2⟩
  rw [HV2.out]
  have HG2 := Lib.hid (grew_trans HG1.out g2)
  clear g2 d0 d1 d2 d3 d4 d5
  by_cases hll : qs.length = rs.length
  · have HX2 := Lib.hid (show X = sames qs rs by rw [HX.out, decide_eq_true hll, Bool.true_and])
    have HLL := Lib.hid hll
    rw [← hll]
    clear hll HX
    have HR := Lib.hid (show Grew w w2 none ∧ ∀ (i : Nat) (p r : Fo), i < 0 → qs[i]? = some p → rs[i]? = some r → same p r = true from ⟨HG2.out, fun i p r hi => by omega⟩)
    go_wp2_with fail
    go_loopw [7] (fun i wr => ∃ n : Nat, n ≤ qs.length ∧ i = .int .i64 n ∧ Hid (Grew w wr none ∧ ∀ (i : Nat) (p r : Fo), i < n → qs[i]? = some p → rs[i]? = some r → same p r = true)) (fun i _ => qs.length - (intOf i).toNat)
    case atStart => exact ⟨0, Nat.zero_le _, rfl, HR⟩
    case round =>
      obtain ⟨n, hn, rfl, R⟩ := hrel
      by_cases hlt : n < qs.length
      · obtain ⟨b, o, p, rfl, hp, hpm, p0, p1, p2, p3, p4, p5⟩ := (HL1.out.grew R.out.1).at hlt
        obtain ⟨b', o', r, rfl, hr, hrm, r0, r1, r2, r3, r4, r5⟩ := (HL2.out.grew R.out.1).at (by rw [← HLL.out]; exact hlt)
        have f0 := fun x => pad_cell p0 x
        have f1 := fun x => pad_cell p1 x
        have f2 := fun x => pad_cell p2 x
        have f3 := fun x => pad_cell p3 x
        have f4 := fun x => pad_cell p4 x
        have f5 := fun x => pad_cell p5 x
        have g0 := fun x => pad_cell r0 x
        have g1 := fun x => pad_cell r1 x
        have g2 := fun x => pad_cell r2 x
        have g3 := fun x => pad_cell r3 x
        have g4 := fun x => pad_cell r4 x
        have g5 := fun x => pad_cell r5 x
        have HC := Lib.hid (fun x => IH.out p (HM1.out p hpm).1 r (World.pad wr x) ((HM1.out p hpm).2.grew (grew_trans R.out.1 (grew_pad wr x))) ((HM2.out r hrm).2.grew (grew_trans R.out.1 (grew_pad wr x))))
        have HP := Lib.hid (show qs[n]? = some p ∧ rs[n]? = some r from ⟨hp, hr⟩)
        clear hp hpm hr hrm p0 p1 p2 p3 p4 p5 r0 r1 r2 r3 r4 r5
        have hlr : (n : Int) < qs.length := by omega
        go_wp2_with fail
        refine wp_region_pad (by kernel_rfl) (by kernel_rfl) ?_
        repeat (go_big_quiet_step ((go_at_call 11; exact pad_call (HC.out _))))
        refine wpQuiet_nil ?_
        rintro _ ⟨xq, rfl⟩
        have HG3 := Lib.hid (grew_trans R.out.1 (grew_pad wr xq))
        clear f0 f1 f2 f3 f4 f5 g0 g1 g2 g3 g4 g5 HC
        generalize World.pad wr xq = W3 at *
        cases hs : same p r with
        | false =>
          have HE := Lib.hid (show X = false by rw [HX2.out]; exact sames_no HP.out.1 HP.out.2 hs)
          clear hs R
          go_wp2_with fail
          go_ret
          exact ⟨by rw [HE.out]; rfl, HG3.out⟩
        | true =>
          have HR2 := Lib.hid (show Grew w W3 none ∧ ∀ (i : Nat) (p r : Fo), i < n + 1 → qs[i]? = some p → rs[i]? = some r → same p r = true from ⟨HG3.out, fun i p' r' hi hp' hr' => by
            rcases Nat.lt_or_ge i n with h | h
            · exact R.out.2 i p' r' h hp' hr'
            · have : i = n := by omega
              subst this
              rw [HP.out.1] at hp'
              rw [HP.out.2] at hr'
              injection hp' with hp'
              injection hr' with hr'
              rw [← hp', ← hr']; exact hs⟩)
          clear hs R HG3
          go_wp2_with fail
          go_roundw
          case rel => exact ⟨n + 1, by omega, by go_num, HR2⟩
          case measure => simp [intOf]; omega
      · have HE := Lib.hid (show X = true by
          rw [HX2.out, sames_iff]
          intro i p r hp hr
          exact R.out.2 i p r (by rw [List.getElem?_eq_some_iff] at hp; obtain ⟨h, _⟩ := hp; omega) hp hr)
        have HG3 := Lib.hid R.out.1
        clear R
        go_wp2_with fail
        go_ret
        exact ⟨by rw [HE.out]; rfl, HG3.out⟩
  · have HX2 := Lib.hid (show X = false by rw [HX.out, decide_eq_false hll]; rfl)
    have hb : ((qs.length : Int) != (rs.length : Int)) = true := ne_bne' (by omega)
    clear hll HX
    go_wp2_with fail
    go_ret
    exact ⟨by rw [HX2.out]; rfl, HG2.out⟩

set_option maxRecDepth 100000 in
set_option maxHeartbeats 4000000 in
theorem rsok_k (w : World) (k s l h t s' l' h' t' : Int) (A A' : Option Addr) (c c' : Nat) (ps ps' : List Fo) (k0 : (k == 0) = false) (k1 : (k == 1) = false) (k2 : (k == 2) = false) (k4 : (k == 4) = false) (k5 : (k == 5) = false) (ih : RsIH ps) (hf : In w (.mk k s l h t A c ps)) (hg : In w (.mk k s' l' h' t' A' c' ps')) :
    Calls Try.prog 11 #[.agg #[.int .i64 k, .int .i64 s, .int .i64 l, .int .i64 h, .int .i64 t, .slice A ps.length c], .agg #[.int .i64 k, .int .i64 s', .int .i64 l', .int .i64 h', .int .i64 t', .slice A' ps'.length c']] w fun e w' => e = .returned (.bool (same (.mk k s l h t A c ps) (.mk k s' l' h' t' A' c' ps'))) ∧ Grew w w' none := by
  obtain ⟨A1, c1, qs, hv1, hqs1, hlz1, hlie1, hmem1⟩ := hf.inner
  obtain ⟨A2, c2, rs, hv2, hqs2, hlz2, hlie2, hmem2⟩ := hg.inner
  have hS := same_eq (k := k) (s := s) (l := l) (h := h) (t := t) (s' := s') (l' := l') (h' := h') (t' := t') (A := A) (A' := A') (c := c) (c' := c') (ps := ps) (ps' := ps') (fun h => by subst h; cases k0) (fun h => by rcases h with rfl | rfl; cases k1; cases k2) (fun h => by subst h; cases k4) (fun h => by subst h; cases k5)
  rw [hqs1, hqs2] at hS
  generalize hX : same (.mk k s l h t A c ps) (.mk k s' l' h' t' A' c' ps') = X at *
  have HX := Lib.hid hS
  have IH := Lib.hid ih
  have HL1 := Lib.hid hlie1
  have HL2 := Lib.hid hlie2
  have HM1 := Lib.hid hmem1
  have HM2 := Lib.hid hmem2
  have HV1 := Lib.hid hv1
  have HV2 := Lib.hid hv2
  clear ih hlie1 hlie2 hmem1 hmem2 hv1 hv2 hqs1 hqs2 hf hg hS hX
  have HW2 := Lib.hid (Whole.new (w.alloc (.cells #[.int .i64 k, .int .i64 s, .int .i64 l, .int .i64 h, .int .i64 t, .slice A ps.length c] 24)) #[.int .i64 k, .int .i64 s', .int .i64 l', .int .i64 h', .int .i64 t', .slice A' ps'.length c'] 24)
  rw [show (w.alloc (.cells #[.int .i64 k, .int .i64 s, .int .i64 l, .int .i64 h, .int .i64 t, .slice A ps.length c] 24)).heap.size = w.heap.size + 1 by simp] at HW2
  go_enter Try.func11, Try.ntmps11
  go_wp2_with fail
  have HG0 := Lib.hid (grew_alloc (grew_alloc (grew_refl w none) (.cells #[.int .i64 k, .int .i64 s, .int .i64 l, .int .i64 h, .int .i64 t, .slice A ps.length c] 24)) (.cells #[.int .i64 k, .int .i64 s', .int .i64 l', .int .i64 h', .int .i64 t', .slice A' ps'.length c'] 24))
  generalize (w.alloc (.cells #[.int .i64 k, .int .i64 s, .int .i64 l, .int .i64 h, .int .i64 t, .slice A ps.length c] 24)).alloc (.cells #[.int .i64 k, .int .i64 s', .int .i64 l', .int .i64 h', .int .i64 t', .slice A' ps'.length c'] 24) = W at *
  generalize w.heap.size + 1 = q at *
  refine (parts_any W (.mk k s l h t A c ps)).mono ?_
  rintro e w1 ⟨rfl, g1⟩
  rw [HV1.out]
  have HG1 := Lib.hid (grew_trans HG0.out g1)
  obtain ⟨d0, d1, d2, d3, d4, d5⟩ := (HW2.out.grew g1 (by simp)).six
  clear g1
  go_wp2_with fail
  refine (parts_any w1 (.mk k s' l' h' t' A' c' ps')).mono ?_
  rintro e w2 ⟨rfl, g2⟩
  rw [HV2.out]
  have HG2 := Lib.hid (grew_trans HG1.out g2)
  clear g2 d0 d1 d2 d3 d4 d5
  by_cases hll : qs.length = rs.length
  · have HX2 := Lib.hid (show X = sames qs rs by rw [HX.out, decide_eq_true hll, Bool.true_and])
    have HLL := Lib.hid hll
    rw [← hll]
    clear hll HX
    have HR := Lib.hid (show Grew w w2 none ∧ ∀ (i : Nat) (p r : Fo), i < 0 → qs[i]? = some p → rs[i]? = some r → same p r = true from ⟨HG2.out, fun i p r hi => by omega⟩)
    go_wp2_with fail
    go_loopw [7] (fun i wr => ∃ n : Nat, n ≤ qs.length ∧ i = .int .i64 n ∧ Hid (Grew w wr none ∧ ∀ (i : Nat) (p r : Fo), i < n → qs[i]? = some p → rs[i]? = some r → same p r = true)) (fun i _ => qs.length - (intOf i).toNat)
    case atStart => exact ⟨0, Nat.zero_le _, rfl, HR⟩
    case round =>
      obtain ⟨n, hn, rfl, R⟩ := hrel
      by_cases hlt : n < qs.length
      · obtain ⟨b, o, p, rfl, hp, hpm, p0, p1, p2, p3, p4, p5⟩ := (HL1.out.grew R.out.1).at hlt
        obtain ⟨b', o', r, rfl, hr, hrm, r0, r1, r2, r3, r4, r5⟩ := (HL2.out.grew R.out.1).at (by rw [← HLL.out]; exact hlt)
        have f0 := fun x => pad_cell p0 x
        have f1 := fun x => pad_cell p1 x
        have f2 := fun x => pad_cell p2 x
        have f3 := fun x => pad_cell p3 x
        have f4 := fun x => pad_cell p4 x
        have f5 := fun x => pad_cell p5 x
        have g0 := fun x => pad_cell r0 x
        have g1 := fun x => pad_cell r1 x
        have g2 := fun x => pad_cell r2 x
        have g3 := fun x => pad_cell r3 x
        have g4 := fun x => pad_cell r4 x
        have g5 := fun x => pad_cell r5 x
        have HC := Lib.hid (fun x => IH.out p (HM1.out p hpm).1 r (World.pad wr x) ((HM1.out p hpm).2.grew (grew_trans R.out.1 (grew_pad wr x))) ((HM2.out r hrm).2.grew (grew_trans R.out.1 (grew_pad wr x))))
        have HP := Lib.hid (show qs[n]? = some p ∧ rs[n]? = some r from ⟨hp, hr⟩)
        clear hp hpm hr hrm p0 p1 p2 p3 p4 p5 r0 r1 r2 r3 r4 r5
        have hlr : (n : Int) < qs.length := by omega
        go_wp2_with fail
        refine wp_region_pad (by kernel_rfl) (by kernel_rfl) ?_
        repeat (go_big_quiet_step ((go_at_call 11; exact pad_call (HC.out _))))
        refine wpQuiet_nil ?_
        rintro _ ⟨xq, rfl⟩
        have HG3 := Lib.hid (grew_trans R.out.1 (grew_pad wr xq))
        clear f0 f1 f2 f3 f4 f5 g0 g1 g2 g3 g4 g5 HC
        generalize World.pad wr xq = W3 at *
        cases hs : same p r with
        | false =>
          have HE := Lib.hid (show X = false by rw [HX2.out]; exact sames_no HP.out.1 HP.out.2 hs)
          clear hs R
          go_wp2_with fail
          go_ret
          exact ⟨by rw [HE.out]; rfl, HG3.out⟩
        | true =>
          have HR2 := Lib.hid (show Grew w W3 none ∧ ∀ (i : Nat) (p r : Fo), i < n + 1 → qs[i]? = some p → rs[i]? = some r → same p r = true from ⟨HG3.out, fun i p' r' hi hp' hr' => by
            rcases Nat.lt_or_ge i n with h | h
            · exact R.out.2 i p' r' h hp' hr'
            · have : i = n := by omega
              subst this
              rw [HP.out.1] at hp'
              rw [HP.out.2] at hr'
              injection hp' with hp'
              injection hr' with hr'
              rw [← hp', ← hr']; exact hs⟩)
          clear hs R HG3
          go_wp2_with fail
          go_roundw
          case rel => exact ⟨n + 1, by omega, by go_num, HR2⟩
          case measure => simp [intOf]; omega
      · have HE := Lib.hid (show X = true by
          rw [HX2.out, sames_iff]
          intro i p r hp hr
          exact R.out.2 i p r (by rw [List.getElem?_eq_some_iff] at hp; obtain ⟨h, _⟩ := hp; omega) hp hr)
        have HG3 := Lib.hid R.out.1
        clear R
        go_wp2_with fail
        go_ret
        exact ⟨by rw [HE.out]; rfl, HG3.out⟩
  · have HX2 := Lib.hid (show X = false by rw [HX.out, decide_eq_false hll]; rfl)
    have hb : ((qs.length : Int) != (rs.length : Int)) = true := ne_bne' (by omega)
    clear hll HX
    go_wp2_with fail
    go_ret
    exact ⟨by rw [HX2.out]; rfl, HG2.out⟩

end Go.Proofs.Ytlehehibfpbhmaa

