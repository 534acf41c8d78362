/- A row of right forms, none but the last open, is right, and has as many bytes as all together; in a list of it, too, if it isn't open and has a byte at least: for every list of forms the law returns true, and it reads as it did. No condition. -/
import Derived.Test.YtlehehibfpbhmaaRp
import Derived.Test.YtlehehibfpbhmaaOf
namespace Go.Proofs.Ytlehehibfpbhmaa
open Go.ChangeShapes Go.WideShapes Go.ChangeAt Go.RowKit Fo

/-- What holds ahead of each round. -/
def RowsRel (w wr : World) (ps : List Fo) (n : Nat) (x y : Int) : Prop :=
  Grew w wr none ∧ lens false x (ps.drop n) = lens false 0 ps ∧ lens true y (ps.drop n) = lens true 0 ps ∧ (∀ p ∈ ps.take n, p.chk = 0 ∧ p.dep ≤ 6) ∧ Shut 3 ps n

theorem RowsRel.on {w wr w2 : World} {ps : List Fo} {n : Nat} {x y : Int} {p : Fo} (h : RowsRel w wr ps n x y) (g : Grew wr w2 none) (hp : ps[n]? = some p) (hc : p.chk = 0) (hd : p.dep ≤ 6) (ho : n + 1 < ps.length → p.opn = false) :
    RowsRel w w2 ps (n + 1) (plus x (p.len false)) (plus y (p.len true)) := by
  obtain ⟨h1, h2, h3, h4, h5⟩ := h
  rw [drop_at hp, lens] at h2 h3
  refine ⟨grew_trans h1 g, h2, h3, fun q hq => ?_, fun j q hj hq hw => ?_⟩
  · rw [take_succ' hp, List.mem_append, List.mem_singleton] at hq
    rcases hq with hq | rfl
    · exact h4 q hq
    · exact ⟨hc, hd⟩
  · rcases Nat.lt_or_ge j n with hjn | hjn
    · exact h5 j q hjn hq hw
    · have : j = n := by omega
      subst this
      rw [hp] at hq
      injection hq with hq
      subst hq
      exact ho (by omega)

set_option maxRecDepth 100000 in
set_option maxHeartbeats 4000000 in
theorem formRows_walk (w : World) (A : Option Addr) (c : Nat) (xs : List Fo) (hl : xs.length ≤ c) (_ : c ≤ 2199023255488) (hb : Lie w A xs) (hw : ∀ p ∈ xs, p.In w) :
    Calls Try.prog 5 #[.slice A xs.length c] w fun e w' => e = .returned (.bool true) ∧ Below w.heap.size w w' := by
  obtain ⟨L, hL, hLl, hL32⟩ : ∃ L : Nat, L = min xs.length 32 ∧ L ≤ xs.length ∧ L ≤ 32 := ⟨_, rfl, Nat.min_le_left _ _, Nat.min_le_right _ _⟩
  have hif : (if (32 : Int) < (xs.length : Int) then (32 : Int) else (xs.length : Int)) = (L : Int) := by split <;> omega
  obtain ⟨ps, hps⟩ : ∃ ps, ps = xs.take L := ⟨_, rfl⟩
  have hpl : ps.length = L := by rw [hps, List.length_take]; omega
  have HL := Lib.hid (show Lie w A ps by rw [hps]; exact hb.take L)
  have HP := Lib.hid (show ∀ p ∈ ps, p.In w by rw [hps]; exact fun p hp => hw p (List.mem_of_mem_take hp))
  have hcL : ps.length ≤ c := by omega
  have HGR := Lib.hid (fun (w1 : World) (g : Grew w w1 none) => great_any w1 (.mk 3 0 0 0 0 A c ps) (.mk hcL (by omega) (HL.out.grew g) (fun p hp => (HP.out p hp).grew g)))
  generalize decide (500 < cnt (.mk 3 0 0 0 0 A c ps)) = GR at *
  have HPL := Lib.hid hpl
  clear hL hps hb hw hcL
  go_enter Try.func5, Try.ntmps5
  go_wp2_with fail
  clear hif hLl
  refine (alive4_any w).mono ?_
  rintro e w1 ⟨rfl, g1⟩
  rw [← HPL.out]
  have hl32 : ps.length ≤ 32 := by omega
  clear hL32 hpl HPL hl
  go_wp2_with fail
  refine (HGR.out w1 g1).mono ?_
  rintro e w2 ⟨rfl, g2⟩
  have HG2 := Lib.hid (grew_trans g1 g2)
  clear g1 g2 HGR
  cases GR with
  | true =>
    go_wp2_with fail
    refine (alive4_any w2).mono ?_
    rintro e w3 ⟨rfl, g3⟩
    go_wp2_with fail
    go_ret
    exact ⟨rfl, grew_below (grew_trans HG2.out g3) (Nat.le_refl _) (fun _ h => by cases h)⟩
  | false =>
    have HR := Lib.hid (show RowsRel w w2 ps 0 0 0 from ⟨HG2.out, rfl, rfl, fun p hp => by simp at hp, fun j p hj => by omega⟩)
    go_wp2_with fail
    go_loopw [24, 3, 4] (fun i a b wr => ∃ (n : Nat) (x y : Int), n ≤ ps.length ∧ i = .int .i64 n ∧ a = .int .i64 x ∧ b = .int .i64 y ∧ Hid (RowsRel w wr ps n x y)) (fun i _ _ _ => ps.length - (intOf i).toNat)
    case atStart => exact ⟨0, 0, 0, Nat.zero_le _, rfl, rfl, rfl, HR⟩
    case round =>
      obtain ⟨n, x, y, hn, rfl, rfl, rfl, R⟩ := hrel
      by_cases hlt : n < ps.length
      · obtain ⟨b, o, p, rfl, hp, hpm, c0, c1, c2, c3, c4, c5⟩ := (HL.out.grew R.out.1).at hlt
        have HQ := Lib.hid (show ps[n]? = some p ∧ p.In wr from ⟨hp, (HP.out p hpm).grew R.out.1⟩)
        clear hp hpm
        have HWQ := Lib.hid (Whole.new wr #[.int .i64 p.k, .int .i64 p.s, .int .i64 p.l, .int .i64 p.h, .int .i64 p.t, .slice p.A p.ps.length p.c] 24)
        have HGQ := Lib.hid (grew_alloc (grew_refl wr none) (.cells #[.int .i64 p.k, .int .i64 p.s, .int .i64 p.l, .int .i64 p.h, .int .i64 p.t, .slice p.A p.ps.length p.c] 24))
        go_wp2_with fail
        generalize wr.alloc (.cells #[.int .i64 p.k, .int .i64 p.s, .int .i64 p.l, .int .i64 p.h, .int .i64 p.t, .slice p.A p.ps.length p.c] 24) = W at *
        generalize wr.heap.size = q at *
        refine (rchk_any W p (HQ.out.2.grew HGQ.out)).mono ?_
        rintro e w4 ⟨rfl, g4⟩
        have HG4 := Lib.hid (grew_trans HGQ.out g4)
        have HW4 := Lib.hid (HWQ.out.grew g4 (by simp))
        clear g4 HGQ HWQ c0 c1 c2 c3 c4 c5
        by_cases hck : p.chk = 0
        · have HCK := Lib.hid hck
          rw [hck]
          clear hck
          obtain ⟨d0, d1, d2, d3, d4, d5⟩ := HW4.out.six
          go_wp2_with fail
          refine (depth_any p 9 w4 (by omega) (by omega) (HQ.out.2.grew HG4.out)).mono ?_
          rintro e w5 ⟨rfl, g5⟩
          have HG5 := Lib.hid (grew_trans HG4.out g5)
          have HW5 := Lib.hid (HW4.out.grew g5 (by simp))
          clear g5 HG4 HW4 d0 d1 d2 d3 d4 d5
          by_cases hdp : 6 < p.dep
          · have hy : (6 : Int) < min (p.dep : Int) (9 + 1) := by omega
            generalize min (p.dep : Int) (9 + 1) = z at *
            clear hdp
            go_wp2_with fail
            refine (alive4_any w5).mono ?_
            rintro e w6 ⟨rfl, g6⟩
            go_wp2_with fail
            go_ret
            exact ⟨rfl, grew_below (grew_trans (grew_trans R.out.1 HG5.out) g6) (Nat.le_refl _) (fun _ h => by cases h)⟩
          · have hy : ¬ (6 : Int) < min (p.dep : Int) (9 + 1) := by omega
            have HDP := Lib.hid (show p.dep ≤ 6 by omega)
            generalize min (p.dep : Int) (9 + 1) = z at *
            clear hdp
            obtain ⟨d0, d1, d2, d3, d4, d5⟩ := HW5.out.six
            go_wp2_with fail
            refine (opens_any w5 p (HQ.out.2.grew HG5.out)).mono ?_
            rintro e w6 ⟨rfl, g6⟩
            have HG6 := Lib.hid (grew_trans HG5.out g6)
            have HW6 := Lib.hid (HW5.out.grew g6 (by simp))
            have HOV := Lib.hid (show openV p = p.opn by unfold openV; rw [if_pos HCK.out])
            rw [HOV.out]
            clear g6 HG5 HW5 d0 d1 d2 d3 d4 d5 HOV
            have HLV := Lib.hid (show leastV p = p.len false by unfold leastV; rw [if_pos HCK.out])
            have HMV := Lib.hid (show mostV p = p.len true by unfold mostV; rw [if_pos HCK.out])
            have HCL := Lib.hid (fun x => least_any (World.pad w6 x) p (HQ.out.2.grew (grew_trans HG6.out (grew_pad w6 x))))
            have HCM := Lib.hid (fun x => most_any (World.pad w6 x) p (HQ.out.2.grew (grew_trans HG6.out (grew_pad w6 x))))
            rw [HLV.out] at HCL
            rw [HMV.out] at HCM
            obtain ⟨d0, d1, d2, d3, d4, d5⟩ := HW6.out.six
            have f0 := fun x => pad_cell d0 x
            have f1 := fun x => pad_cell d1 x
            have f2 := fun x => pad_cell d2 x
            have f3 := fun x => pad_cell d3 x
            have f4 := fun x => pad_cell d4 x
            have f5 := fun x => pad_cell d5 x
            by_cases hop : p.opn = true
            · by_cases hl1 : n + 1 < ps.length
              · rw [hop]
                have hd1 : decide ((n : Int) + 1 < ps.length) = true := by simp; omega
                clear f0 f1 f2 f3 f4 f5 d0 d1 d2 d3 d4 d5
                go_wp2_with fail
                refine (alive4_any w6).mono ?_
                rintro e w7 ⟨rfl, g7⟩
                go_wp2_with fail
                go_ret
                exact ⟨rfl, grew_below (grew_trans (grew_trans R.out.1 HG6.out) g7) (Nat.le_refl _) (fun _ h => by cases h)⟩
              · rw [hop]
                have hd1 : decide ((n : Int) + 1 < ps.length) = false := by simp; omega
                have HRX := Lib.hid (fun (w7 : World) (g : Grew w6 w7 none) => R.out.on (grew_trans HG6.out g) HQ.out.1 HCK.out HDP.out (fun h => absurd h hl1))
                generalize p.len false = lv at *
                generalize p.len true = mv at *
                clear R HLV HMV hop
                go_wp2_with fail
                refine wp_region_pad (by kernel_rfl) (by kernel_rfl) ?_
                repeat (go_big_quiet_step (first | (go_at_call 21; exact pad_call (HCL.out _)) | (go_at_call 22; exact pad_call (HCM.out _))))
                refine wpQuiet_nil ?_
                rintro _ ⟨xq, rfl⟩
                go_wp2_with fail
                go_roundw
                case rel => exact ⟨n + 1, _, _, by omega, by go_num, rfl, rfl, Lib.hid (HRX.out _ (grew_pad w6 xq))⟩
                case measure => simp [intOf]; omega
            · have hof : p.opn = false := by simpa using hop
              rw [hof]
              have HRX := Lib.hid (fun (w7 : World) (g : Grew w6 w7 none) => R.out.on (grew_trans HG6.out g) HQ.out.1 HCK.out HDP.out (fun _ => hof))
              generalize p.len false = lv at *
              generalize p.len true = mv at *
              clear R HLV HMV hop hof
              go_wp2_with fail
              refine wp_region_pad (by kernel_rfl) (by kernel_rfl) ?_
              repeat (go_big_quiet_step (first | (go_at_call 21; exact pad_call (HCL.out _)) | (go_at_call 22; exact pad_call (HCM.out _))))
              refine wpQuiet_nil ?_
              rintro _ ⟨xq, rfl⟩
              go_wp2_with fail
              go_roundw
              case rel => exact ⟨n + 1, _, _, by omega, by go_num, rfl, rfl, Lib.hid (HRX.out _ (grew_pad w6 xq))⟩
              case measure => simp [intOf]; omega
        · have hb1 := ne_beq hck
          have hb2 := ne_bne hck
          generalize p.chk = z at *
          go_wp2_with fail
          refine (alive4_any w4).mono ?_
          rintro e w6 ⟨rfl, g6⟩
          go_wp2_with fail
          go_ret
          exact ⟨rfl, grew_below (grew_trans (grew_trans R.out.1 HG4.out) g6) (Nat.le_refl _) (fun _ h => by cases h)⟩
      · have hnl : n = ps.length := by omega
        subst hnl
        obtain ⟨r1, r2, r3, r4, r5⟩ := R.out
        rw [List.drop_length, lens] at r2 r3
        rw [List.take_length] at r4
        have HRR := Lib.hid (fun A c => row_right hl32 r4 r5 A c)
        have HX := Lib.hid r2
        have HY := Lib.hid r3
        have HG := Lib.hid r1
        have HCK := Lib.hid (fun p hp => (r4 p hp).1)
        have x0 : 0 ≤ x := by
          obtain ⟨h1, h2⟩ := row_right hl32 r4 r5 none 0
          have := (right_len _ h1 (by omega)).1
          rw [row_len] at this
          omega
        have HXO := Lib.hid x0
        clear r1 r2 r3 r4 r5 R x0 HR
        go_wp2_with fail
        refine (row_any wr A c ps (HL.out.grew HG.out) (fun p hp => (HP.out p hp).grew HG.out) (by omega)).mono ?_
        rintro e w4 ⟨A', c', rfl, h4, g4, _⟩
        have HI4 := Lib.hid (h4.grew (grew_alloc (grew_refl w4 none) (.cells #[.int .i64 3, .int .i64 0, .int .i64 0, .int .i64 0, .int .i64 0, .slice A' ps.length c'] 24)))
        have HG4 := Lib.hid (grew_alloc (grew_trans HG.out g4) (.cells #[.int .i64 3, .int .i64 0, .int .i64 0, .int .i64 0, .int .i64 0, .slice A' ps.length c'] 24))
        have HW4 := Lib.hid (Whole.new w4 #[.int .i64 3, .int .i64 0, .int .i64 0, .int .i64 0, .int .i64 0, .slice A' ps.length c'] 24)
        have HC := Lib.hid (row_chk (HRR.out A' c'))
        have HLV := Lib.hid (show leastV (.mk 3 0 0 0 0 A' c' ps) = x by unfold leastV; rw [if_pos HC.out, row_len]; exact HX.out.symm)
        have HMV := Lib.hid (show mostV (.mk 3 0 0 0 0 A' c' ps) = y by unfold mostV; rw [if_pos HC.out, row_len]; exact HY.out.symm)
        have HOV := Lib.hid (show openV (.mk 3 0 0 0 0 A' c' ps) = opn (.mk 3 0 0 0 0 A' c' ps) by unfold openV; rw [if_pos HC.out])
        have HOP := Lib.hid (row_opn (ps := ps) (A := A') (c := c'))
        have HLC := Lib.hid (fun B d => list_chk (ps := ps) (A := A') (c := c') (B := B) (d := d) (HRR.out A' c'))
        rw [← HX.out] at HLC
        generalize hO : opn (.mk 3 0 0 0 0 A' c' ps) = O at *
        clear h4 g4 HRR hO
        rw [val_eq]
        simp only [Fo.k, Fo.s, Fo.l, Fo.h, Fo.t, Fo.A, Fo.c, Fo.ps]
        go_wp2_with fail
        generalize w4.alloc (.cells #[.int .i64 3, .int .i64 0, .int .i64 0, .int .i64 0, .int .i64 0, .slice A' ps.length c'] 24) = W at *
        generalize w4.heap.size = q at *
        refine (check_any W (.mk 3 0 0 0 0 A' c' ps) HI4.out).mono ?_
        rintro e w5 ⟨rfl, g5⟩
        rw [HC.out]
        have HI5 := Lib.hid (HI4.out.grew g5)
        have HG5 := Lib.hid (grew_trans HG4.out g5)
        have HW5 := Lib.hid (HW4.out.grew g5 (by simp))
        clear g5 HI4 HG4 HW4 HC
        obtain ⟨d0, d1, d2, d3, d4, d5⟩ := HW5.out.six
        go_wp2_with fail
        refine (least_any w5 (.mk 3 0 0 0 0 A' c' ps) HI5.out).mono ?_
        rintro e w6 ⟨rfl, g6⟩
        rw [HLV.out]
        have HI6 := Lib.hid (HI5.out.grew g6)
        have HG6 := Lib.hid (grew_trans HG5.out g6)
        have HW6 := Lib.hid (HW5.out.grew g6 (by simp))
        clear g6 HI5 HG5 HW5 d0 d1 d2 d3 d4 d5
        obtain ⟨d0, d1, d2, d3, d4, d5⟩ := HW6.out.six
        go_wp2_with fail
        refine (most_any w6 (.mk 3 0 0 0 0 A' c' ps) HI6.out).mono ?_
        rintro e w7 ⟨rfl, g7⟩
        rw [HMV.out]
        have HI7 := Lib.hid (HI6.out.grew g7)
        have HG7 := Lib.hid (grew_trans HG6.out g7)
        have HW7 := Lib.hid (HW6.out.grew g7 (by simp))
        clear g7 HI6 HG6 HW6 d0 d1 d2 d3 d4 d5
        obtain ⟨d0, d1, d2, d3, d4, d5⟩ := HW7.out.six
        go_wp2_with fail
        refine (opens_any w7 (.mk 3 0 0 0 0 A' c' ps) HI7.out).mono ?_
        rintro e w8 ⟨rfl, g8⟩
        rw [HOV.out]
        have HI8 := Lib.hid (HI7.out.grew g8)
        have HG8 := Lib.hid (grew_trans HG7.out g8)
        have HW8 := Lib.hid (HW7.out.grew g8 (by simp))
        clear g8 HI7 HG7 HW7 d0 d1 d2 d3 d4 d5
        rcases Nat.eq_zero_or_pos ps.length with hz | hz
        · have hO : O = false := by rw [HOP.out, if_neg (by omega)]
          have hx : x = 0 := by
            have := HX.out
            rw [List.eq_nil_of_length_eq_zero hz, lens] at this
            exact this
          subst hO hx
          have hd : decide ((0 : Int) < (ps.length : Int)) = false := decide_eq_false (by omega)
          have hd2 : decide (0 < ps.length) = false := decide_eq_false (by omega)
          have hd3 : ¬ (0 < ps.length) := by omega
          clear hz hn hlt
          obtain ⟨d0, d1, d2, d3, d4, d5⟩ := HW8.out.six
          go_wp2_with fail
          refine (list_any w8 3 0 9 1 (.mk 3 0 0 0 0 A' c' ps) HI8.out).mono ?_
          rintro e w9 ⟨B, d, rfl, h9, g9, _⟩
          have HI9 := Lib.hid h9
          have HG9 := Lib.hid (grew_trans HG8.out g9)
          have HW9 := Lib.hid (HW8.out.grew g9 (by simp))
          have HIr := Lib.hid (HI8.out.grew g9)
          clear h9 g9
          go_wp2_with fail
          refine (check_any w9 _ HI9.out).mono ?_
          rintro e w10 ⟨rfl, g10⟩
          have HE := HLC.out B d
          rw [if_pos (by simp)] at HE
          rw [HE]
          have HG10 := Lib.hid (grew_trans HG9.out g10)
          have HW10 := Lib.hid (HW9.out.grew g10 (by simp))
          have HI10 := Lib.hid (HIr.out.grew g10)
          clear g10 HE
          go_wp2_with fail
          go_ret
          exact ⟨rfl, grew_below HG10.out (Nat.le_refl _) (fun _ h => by cases h)⟩
        · have hd : decide ((0 : Int) < (ps.length : Int)) = true := decide_eq_true (by omega)
          obtain ⟨m, hm⟩ : ∃ m, ps.length = m + 1 := ⟨ps.length - 1, by omega⟩
          obtain ⟨b, o, p, rfl, hp, hpm, c0, c1, c2, c3, c4, c5⟩ := (HL.out.grew HG8.out).at (i := m) (by omega)
          have HPP := Lib.hid (show openV p = O by
            unfold openV
            rw [if_pos (HCK.out p hpm), HOP.out, if_pos hz, opnL_last ps (by intro e; rw [e] at hz; simp at hz)]
            congr 1
            rw [List.getLast_eq_getElem]
            obtain ⟨_, rfl⟩ := List.getElem?_eq_some_iff.1 hp
            congr 1
            omega)
          have HPI := Lib.hid ((HP.out p hpm).grew HG8.out)
          have hd2 : decide (0 < ps.length) = true := decide_eq_true (by omega)
          have hm32 : m ≤ 31 := by omega
          clear hp hpm hn hlt hz
          rw [hm] at *
          clear hm
          obtain ⟨d0, d1, d2, d3, d4, d5⟩ := HW8.out.six
          go_wp2_with fail
          refine (opens_any w8 p HPI.out).mono ?_
          rintro e wb ⟨rfl, gb⟩
          rw [HPP.out]
          have HIb := Lib.hid (HI8.out.grew gb)
          have HGb := Lib.hid (grew_trans HG8.out gb)
          have HWb := Lib.hid (HW8.out.grew gb (by simp))
          clear gb HI8 HG8 HW8 d0 d1 d2 d3 d4 d5 c0 c1 c2 c3 c4 c5 hd hd2
          obtain ⟨d0, d1, d2, d3, d4, d5⟩ := HWb.out.six
          have hOO : (O != O) = false := by simp
          by_cases hx : x = 0
          · subst hx
            go_wp2_with fail
            refine (list_any wb 3 0 9 1 (.mk 3 0 0 0 0 A' c' ps) HIb.out).mono ?_
            rintro e w9 ⟨B, d, rfl, h9, g9, _⟩
            have HI9 := Lib.hid h9
            have HG9 := Lib.hid (grew_trans HGb.out g9)
            have HW9 := Lib.hid (HWb.out.grew g9 (by simp))
            have HIr := Lib.hid (HIb.out.grew g9)
            clear h9 g9
            go_wp2_with fail
            refine (check_any w9 _ HI9.out).mono ?_
            rintro e w10 ⟨rfl, g10⟩
            have HE := HLC.out B d
            rw [if_pos (by simp)] at HE
            rw [HE]
            have HG10 := Lib.hid (grew_trans HG9.out g10)
            have HW10 := Lib.hid (HW9.out.grew g10 (by simp))
            have HI10 := Lib.hid (HIr.out.grew g10)
            clear g10 HE
            go_wp2_with fail
            go_ret
            exact ⟨rfl, grew_below HG10.out (Nat.le_refl _) (fun _ h => by cases h)⟩
          · have hxp : 0 < x := by have := HXO.out; omega
            have hdx : decide (0 < x) = true := by simp; omega
            cases O with
            | true =>
              go_wp2_with fail
              refine (list_any wb 3 0 9 1 (.mk 3 0 0 0 0 A' c' ps) HIb.out).mono ?_
              rintro e w9 ⟨B, d, rfl, h9, g9, _⟩
              have HI9 := Lib.hid h9
              have HG9 := Lib.hid (grew_trans HGb.out g9)
              have HW9 := Lib.hid (HWb.out.grew g9 (by simp))
              have HIr := Lib.hid (HIb.out.grew g9)
              clear h9 g9
              go_wp2_with fail
              refine (check_any w9 _ HI9.out).mono ?_
              rintro e w10 ⟨rfl, g10⟩
              have HE := HLC.out B d
              rw [if_pos (by simp)] at HE
              rw [HE]
              have HG10 := Lib.hid (grew_trans HG9.out g10)
              have HW10 := Lib.hid (HW9.out.grew g10 (by simp))
              have HI10 := Lib.hid (HIr.out.grew g10)
              clear g10 HE
              obtain ⟨e0, e1, e2, e3, e4, e5⟩ := HW10.out.six
              go_wp2_with fail
              refine (opens_any w10 (.mk 3 0 0 0 0 A' c' ps) HI10.out).mono ?_
              rintro e w11 ⟨rfl, g11⟩
              rw [HOV.out]
              have HG11 := Lib.hid (grew_trans HG10.out g11)
              clear g11
              go_wp2_with fail
              go_ret
              exact ⟨rfl, grew_below HG11.out (Nat.le_refl _) (fun _ h => by cases h)⟩
            | false =>
              go_wp2_with fail
              refine (list_any wb 3 0 9 1 (.mk 3 0 0 0 0 A' c' ps) HIb.out).mono ?_
              rintro e w9 ⟨B, d, rfl, h9, g9, _⟩
              have HI9 := Lib.hid h9
              have HG9 := Lib.hid (grew_trans HGb.out g9)
              have HW9 := Lib.hid (HWb.out.grew g9 (by simp))
              have HIr := Lib.hid (HIb.out.grew g9)
              clear h9 g9
              go_wp2_with fail
              refine (check_any w9 _ HI9.out).mono ?_
              rintro e w10 ⟨rfl, g10⟩
              have HE := HLC.out B d
              rw [if_neg (by simp; omega)] at HE
              rw [HE]
              have HG10 := Lib.hid (grew_trans HG9.out g10)
              have HW10 := Lib.hid (HW9.out.grew g10 (by simp))
              have HI10 := Lib.hid (HIr.out.grew g10)
              clear g10 HE
              obtain ⟨e0, e1, e2, e3, e4, e5⟩ := HW10.out.six
              go_wp2_with fail
              refine (opens_any w10 (.mk 3 0 0 0 0 A' c' ps) HI10.out).mono ?_
              rintro e w11 ⟨rfl, g11⟩
              rw [HOV.out]
              have HG11 := Lib.hid (grew_trans HG10.out g11)
              clear g11
              go_wp2_with fail
              go_ret
              exact ⟨rfl, grew_below HG11.out (Nat.le_refl _) (fun _ h => by cases h)⟩

set_option maxRecDepth 100000 in
theorem formRows_lifted (os : Os) (started : os.Started) (H : Type) (enc : TypeId × Value → H) :
    ReturnsInHanded {} Try.checked os 5 .any (Rows.formRowsSpec.pre6 enc Try.prog Try.f5 Rows.formRowsRow.domain false) (Rows.formRowsSpec.post enc Try.prog Try.f5 false true false false) := by
  refine returnsInHanded_of_change_sized (C := Try.checked) own started (by kernel_rfl) Try.func5
    (ChangeSpec.witness6 (enc := enc) (C := Try.checked) false ⟨#[], #[.slice none 0 0], []⟩ 8 (by kernel_rfl) (by kernel_rfl) (by kernel_rfl) (by kernel_rfl)) ?_
  intro W base args ds gs before hval0 hW hcnd hsz0 _
  have hval : ∀ (j : Nat) t v, Try.f5.params[j]? = some t → args[j]? = some v → Value.okWide Try.prog W .any base t v := hval0
  have hsz : (DataW.weightsEach Try.prog (Try.f5.params.toList ++ Rows.formRowsSpec.plain.varTypes Try.prog) (ds ++ gs)).all (· ≤ reachBytes) = true := hsz0
  have hW' := hW
  obtain ⟨p, q, hA0, hV, rfl, hfz, hnd⟩ := hW
  have hA : DataW.TrodAll enc Try.prog W 0 (fun _ => true) true Try.f5.params.toList args.toList ds p := hA0
  rw [Try.params5] at hA hval hsz
  obtain ⟨v0, vs0, d0, ds0, p0, q0, hargs, rfl, rfl, h0, r0⟩ := trodAll_cons hA
  obtain ⟨rfl, rfl, rfl⟩ := trodAll_nil r0
  obtain rfl : args = #[v0] := by cases args; simp_all
  obtain ⟨rfl, rfl⟩ := trodVars_none hV
  have k0 := h0
  have lt0 : ∀ x ∈ p0, x.block < W.heap.size := by obtain ⟨m, hm⟩ := k0; exact DataW.trod_lt m _ _ _ hm
  obtain ⟨A0, c0, x0, rfl, l0, m0, b0, w0⟩ := arg_forms (hval 0 22 v0 rfl rfl) h0 hsz (j := 0) rfl rfl
  clear hA0 hval0 hsz0
  refine (formRows_walk W A0 c0 x0 l0 m0 b0 w0).mono fun e W' ⟨he, bel⟩ => ?_
  subst he
  exact ⟨_, rfl, _, _, _, [], _, [], hW', trodAll_mk1 (shut_bool Try.underlying4 _), (trodAll_cons_mk (Below.trod laidOut (by kernel_rfl) (of_decide_eq_true (by kernel_rfl)) k0 bel lt0) trodAll_mk0), rfl, bel.frame _, fun h => by cases h⟩

theorem formRows_over : Rows.formRowsRow.holds Try.pinned (OpenSpec.ofChange Rows.formRowsSpec) :=
  OpenClaim.holds_of_wide 5 Try.f5 rfl rfl rfl rfl rfl rfl rfl ⟨rfl, rfl, rfl, rfl, rfl⟩ rfl rfl rfl rfl rfl (by kernel_rfl) Try.func5 (by kernel_rfl)
    (of_decide_eq_true (by kernel_rfl)) (by unfold Func.isWrapper; first | (rw [if_pos (by decide +kernel)]; kernel_rfl) | (rw [if_neg (by decide +kernel)]; exact ⟨rfl, rfl⟩))
    (fun os started H enc _ => formRows_lifted os started H enc)

theorem formRows_holds : Rows.FormRowsSaid := formRows_over
#print axioms formRows_holds
end Go.Proofs.Ytlehehibfpbhmaa

