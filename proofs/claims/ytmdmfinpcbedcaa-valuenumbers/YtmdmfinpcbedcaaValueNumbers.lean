/- A number fits so many bytes just if it is below 256 to that power, and bytes fit so many just if they are as many: for every number, bytes and length the law returns true. No condition. -/
import Derived.Test.YtmdmfinpcbedcaaVal
import Derived.Test.YtmdmfinpcbedcaaOpen
namespace Go.Proofs.Ytmdmfinpcbedcaa
open Go.ChangeShapes Go.WideShapes Go.ChangeAt Go.RowKit Va

theorem nm_chk {s : Int} (hs : s = 1 ∨ s = 2 ∨ s = 3 ∨ s = 4 ∨ s = 8) : Fo.chk (.mk 0 s 0 0 0 none 0 []) = 0 := by
  simp [Fo.chk, Fo.dep, Fo.wrg, Fo.alone, Fo.mis, hs]
theorem nm_meas {s x : Int} (hs : s = 1 ∨ s = 2 ∨ s = 3 ∨ s = 4 ∨ s = 8) : meas (.mk 0 s 0 0 0 none 0 []) (.mk x none 0 [] none 0 []) = if x < 256 ^ s.toNat then (s, 0) else (0, 3) := by
  rw [meas_ok (nm_chk hs)]
  exact (by rw [fit]; rfl : fit (.mk 0 s 0 0 0 none 0 []) (.mk x none 0 [] none 0 []) = if x < 256 ^ s.toNat then (s, 0) else (0, 3))
theorem fx_meas {k : Int} (h0 : 0 ≤ k) (h1 : k < 3000) (A : Option Addr) (c : Nat) (xs : List UInt8) : (meas (.mk 5 0 k 0 0 none 0 []) (.mk 0 A c xs none 0 [])).2 = if (xs.length : Int) = k then 0 else 5 := by
  have hc : Fo.chk (.mk 5 0 k 0 0 none 0 []) = 0 := by simp [Fo.chk, Fo.dep, Fo.wrg, Fo.alone, Fo.mis]; omega
  have he : fit (.mk 5 0 k 0 0 none 0 []) (.mk 0 A c xs none 0 []) = if (xs.length : Int) = k then ((xs.length : Int), 0) else (0, 5) := by rw [fit]; rfl
  rw [meas_ok hc, he]
  split <;> rfl
theorem rs_meas {k : Int} (h0 : 0 ≤ k) (h1 : k < 3000) (A : Option Addr) (c : Nat) (xs : List UInt8) (hx : xs.length ≤ 2000) : (meas (.mk 4 0 k 16777215 0 none 0 []) (.mk 0 A c xs none 0 [])).2 = if k ≤ (xs.length : Int) then 0 else 5 := by
  have hc : Fo.chk (.mk 4 0 k 16777215 0 none 0 []) = 0 := by simp [Fo.chk, Fo.dep, Fo.wrg, Fo.alone, Fo.mis]; omega
  have he : fit (.mk 4 0 k 16777215 0 none 0 []) (.mk 0 A c xs none 0 []) = if k ≤ (xs.length : Int) ∧ (xs.length : Int) ≤ 16777215 then ((xs.length : Int), 0) else (0, 5) := by rw [fit]; rfl
  rw [meas_ok hc, he]
  by_cases h : k ≤ (xs.length : Int)
  · rw [if_pos (by omega), if_pos h]
  · rw [if_neg (by omega), if_neg h]
theorem op_meas {k : Int} (h0 : 0 ≤ k) (h1 : k < 3000) (A : Option Addr) (c : Nat) (xs : List UInt8) : (meas (.mk 1 3 0 k 1 none 0 []) (.mk 0 A c xs none 0 [])).2 = if (xs.length : Int) ≤ k then 0 else 5 := by
  have hc : Fo.chk (.mk 1 3 0 k 1 none 0 []) = 0 := by simp [Fo.chk, Fo.dep, Fo.wrg, Fo.alone, Fo.mis]; omega
  have he : fit (.mk 1 3 0 k 1 none 0 []) (.mk 0 A c xs none 0 []) = if 0 ≤ (xs.length : Int) ∧ (xs.length : Int) ≤ k ∧ (xs.length : Int) % 1 = 0 then (Fo.plus 3 (xs.length : Int), 0) else (0, 5) := by rw [fit]; rfl
  rw [meas_ok hc, he]
  by_cases h : (xs.length : Int) ≤ k
  · rw [if_pos (by omega), if_pos h]
  · rw [if_neg (by omega), if_neg h]
theorem nm_in (w : World) (s : Int) : Fo.In w (.mk 0 s 0 0 0 none 0 []) := plain_in w 0 s 0 0 0

set_option maxRecDepth 100000 in
set_option maxHeartbeats 4000000 in
theorem valueNumbers_walk (w : World) (x : Int) (hx : (Lit.int .u64 x).wf = true) (A : Option Addr) (c : Nat) (xs : List UInt8) (hl : xs.length ≤ c) (hm : c ≤ 140737488351232) (hb : Byt w w.heap.size A xs) (n : Int) (_ : (Lit.int .i64 n).wf = true) :
    Calls Try.prog 8 #[.int .u64 x, .slice A xs.length c, .int .i64 n] w fun e w' => e = .returned (.bool true) ∧ Below w.heap.size w w' := by
  obtain ⟨x0, x1⟩ := bounds_u64 hx
  clear hx
  obtain ⟨m, hmx, hm0⟩ : ∃ m : Int, (if (0 : Int) < n then n else 0) = m ∧ 0 ≤ m := ⟨_, rfl, by split <;> omega⟩
  have hk0 : 0 ≤ m % 3000 := by omega
  have hk1 : m % 3000 < 3000 := by omega
  have HB := Lib.hid hb
  have HMX := Lib.hid hmx
  have HK0 := Lib.hid hk0
  have HK1 := Lib.hid hk1
  clear hb hmx hk0 hk1
  go_enter Try.func8, Try.ntmps8
  go_wp2_with fail
  refine (alive5_any w).mono ?_
  rintro e w1 ⟨rfl, g1⟩
  have G1 := Lib.hid g1
  clear g1
  by_cases hlen : 2000 < xs.length
  · go_wp2_with fail
    refine (alive5_any w1).mono ?_
    rintro e w2 ⟨rfl, g2⟩
    go_wp2_with fail
    go_ret
    exact ⟨rfl, grew_below (grew_trans G1.out g2) (Nat.le_refl _) (fun _ h => by cases h)⟩
  · go_wp2_with fail
    have HR := Lib.hid (show Grew w (w1.alloc (.cells #[.int .i64 1, .int .i64 2, .int .i64 3, .int .i64 4, .int .i64 8] 3)) none ∧ Whole (w1.alloc (.cells #[.int .i64 1, .int .i64 2, .int .i64 3, .int .i64 4, .int .i64 8] 3)) w1.heap.size #[.int .i64 1, .int .i64 2, .int .i64 3, .int .i64 4, .int .i64 8] 3 from ⟨grew_alloc G1.out _, Whole.new _ _ _⟩)
    generalize w1.alloc (.cells #[.int .i64 1, .int .i64 2, .int .i64 3, .int .i64 4, .int .i64 8] 3) = W0 at *
    generalize w1.heap.size = q at *
    go_loopw [26] (fun i wr => ∃ j : Nat, j ≤ 5 ∧ i = .int .i64 j ∧ Hid (Grew w wr none ∧ Whole wr q #[.int .i64 1, .int .i64 2, .int .i64 3, .int .i64 4, .int .i64 8] 3)) (fun i _ => 5 - (intOf i).toNat)
    case atStart => exact ⟨0, by omega, rfl, HR⟩
    case round =>
      obtain ⟨j, hj, rfl, R⟩ := hrel
      have key : j = 0 ∨ j = 1 ∨ j = 2 ∨ j = 3 ∨ j = 4 ∨ j = 5 := by omega
      rcases key with rfl | rfl | rfl | rfl | rfl | rfl
      · by_cases hf : x < 256
        · have hE := nm_meas (s := 1) (x := x) (by omega)
          rw [if_pos (show x < 256 ^ Int.toNat 1 by show x < 256; omega)] at hE
          have HE := Lib.hid hE
          clear hE
          have c0 : wr.cell? ⟨q, 0, none⟩ = some (.int .i64 1) := R.out.2.cell 0
          go_wp2_with fail
          have hw := Whole.new wr #[.int .i64 0, .int .i64 1, .int .i64 0, .int .i64 0, .int .i64 0, .slice none 0 0] 31
          have hg := grew_alloc R.out.1 (.cells #[.int .i64 0, .int .i64 1, .int .i64 0, .int .i64 0, .int .i64 0, .slice none 0 0] 31)
          have hq := R.out.2.grew (grew_alloc (grew_refl wr none) (.cells #[.int .i64 0, .int .i64 1, .int .i64 0, .int .i64 0, .int .i64 0, .slice none 0 0] 31)) (by simp)
          clear R c0
          generalize wr.alloc (.cells #[.int .i64 0, .int .i64 1, .int .i64 0, .int .i64 0, .int .i64 0, .slice none 0 0] 31) = W1 at *
          generalize wr.heap.size = qf at *
          obtain ⟨c0, c1, c2, c3, c4, c5⟩ := hw.six
          have HW := Lib.hid hw
          have HG := Lib.hid hg
          have HQ := Lib.hid hq
          clear hw hg hq
          have d0 := fun z => pad_cell c0 z
          have d1 := fun z => pad_cell c1 z
          have d2 := fun z => pad_cell c2 z
          have d3 := fun z => pad_cell c3 z
          have d4 := fun z => pad_cell c4 z
          have d5 := fun z => pad_cell c5 z
          clear c0 c1 c2 c3 c4 c5
          have CN := Lib.hid (fun w => vnumber_any w x)
          have CF := Lib.hid (fun w => fitsE w (.mk 0 1 0 0 0 none 0 []) (.mk x none 0 [] none 0 []) (nm_in w 1) (plainN_in w ⟨x0, x1⟩) (congrArg Prod.snd HE.out))
          refine wp_region_pad (by kernel_rfl) (by kernel_rfl) ?_
          repeat (go_big_quiet_step ((first | (go_at_call 15; exact pad_call (CN.out _)) | (go_at_call 19; exact pad_call (CF.out _)))))
          refine wpQuiet_nil ?_
          rintro _ ⟨z1, rfl⟩
          clear d0 d1 d2 d3 d4 d5 CF
          have HW1 := Lib.hid (HW.out.grew (grew_pad W1 z1) (by simp))
          have HG1 := Lib.hid (grew_trans HG.out (grew_pad W1 z1))
          have HQ1 := Lib.hid (HQ.out.grew (grew_pad W1 z1) (by simp))
          clear HW HG HQ
          generalize World.pad W1 z1 = W2 at *
          go_wp2_with fail
          obtain ⟨c0, c1, c2, c3, c4, c5⟩ := HW1.out.six
          have d0 := fun z => pad_cell c0 z
          have d1 := fun z => pad_cell c1 z
          have d2 := fun z => pad_cell c2 z
          have d3 := fun z => pad_cell c3 z
          have d4 := fun z => pad_cell c4 z
          have d5 := fun z => pad_cell c5 z
          clear c0 c1 c2 c3 c4 c5
          have CS := Lib.hid (fun w => sizeE w (.mk 0 1 0 0 0 none 0 []) (.mk x none 0 [] none 0 []) (nm_in w 1) (plainN_in w ⟨x0, x1⟩) (congrArg Prod.fst HE.out))
          refine wp_region_pad (by kernel_rfl) (by kernel_rfl) ?_
          repeat (go_big_quiet_step ((first | (go_at_call 15; exact pad_call (CN.out _)) | (go_at_call 18; exact pad_call (CS.out _)))))
          refine wpQuiet_nil ?_
          rintro _ ⟨z2, rfl⟩
          have HR2 := Lib.hid (show Grew w (World.pad W2 z2) none ∧ Whole (World.pad W2 z2) q #[.int .i64 1, .int .i64 2, .int .i64 3, .int .i64 4, .int .i64 8] 3 from ⟨grew_trans HG1.out (grew_pad W2 z2), HQ1.out.grew (grew_pad W2 z2) (by simp)⟩)
          clear d0 d1 d2 d3 d4 d5 CN CS HW1 HG1 HQ1 HE
          generalize World.pad W2 z2 = W3 at *
          go_wp2_with fail
          go_roundw
          case rel => exact ⟨1, by omega, by go_num, HR2⟩
          case measure => simp [intOf]
        · have hE := nm_meas (s := 1) (x := x) (by omega)
          rw [if_neg (show ¬ x < 256 ^ Int.toNat 1 by show ¬ x < 256; omega)] at hE
          have HE := Lib.hid hE
          clear hE
          have c0 : wr.cell? ⟨q, 0, none⟩ = some (.int .i64 1) := R.out.2.cell 0
          have hfb : decide (x < 256) = false := by simpa using hf
          go_wp2_with fail
          have hw := Whole.new wr #[.int .i64 0, .int .i64 1, .int .i64 0, .int .i64 0, .int .i64 0, .slice none 0 0] 31
          have hg := grew_alloc R.out.1 (.cells #[.int .i64 0, .int .i64 1, .int .i64 0, .int .i64 0, .int .i64 0, .slice none 0 0] 31)
          have hq := R.out.2.grew (grew_alloc (grew_refl wr none) (.cells #[.int .i64 0, .int .i64 1, .int .i64 0, .int .i64 0, .int .i64 0, .slice none 0 0] 31)) (by simp)
          clear R c0
          generalize wr.alloc (.cells #[.int .i64 0, .int .i64 1, .int .i64 0, .int .i64 0, .int .i64 0, .slice none 0 0] 31) = W1 at *
          generalize wr.heap.size = qf at *
          obtain ⟨c0, c1, c2, c3, c4, c5⟩ := hw.six
          have HW := Lib.hid hw
          have HG := Lib.hid hg
          have HQ := Lib.hid hq
          clear hw hg hq
          have d0 := fun z => pad_cell c0 z
          have d1 := fun z => pad_cell c1 z
          have d2 := fun z => pad_cell c2 z
          have d3 := fun z => pad_cell c3 z
          have d4 := fun z => pad_cell c4 z
          have d5 := fun z => pad_cell c5 z
          clear c0 c1 c2 c3 c4 c5
          have CN := Lib.hid (fun w => vnumber_any w x)
          have CF := Lib.hid (fun w => fitsE w (.mk 0 1 0 0 0 none 0 []) (.mk x none 0 [] none 0 []) (nm_in w 1) (plainN_in w ⟨x0, x1⟩) (congrArg Prod.snd HE.out))
          refine wp_region_pad (by kernel_rfl) (by kernel_rfl) ?_
          repeat (go_big_quiet_step ((first | (go_at_call 15; exact pad_call (CN.out _)) | (go_at_call 19; exact pad_call (CF.out _)))))
          refine wpQuiet_nil ?_
          rintro _ ⟨z1, rfl⟩
          clear d0 d1 d2 d3 d4 d5 CF
          have HW1 := Lib.hid (HW.out.grew (grew_pad W1 z1) (by simp))
          have HG1 := Lib.hid (grew_trans HG.out (grew_pad W1 z1))
          have HQ1 := Lib.hid (HQ.out.grew (grew_pad W1 z1) (by simp))
          clear HW HG HQ
          generalize World.pad W1 z1 = W2 at *
          go_wp2_with fail
          obtain ⟨c0, c1, c2, c3, c4, c5⟩ := HW1.out.six
          have d0 := fun z => pad_cell c0 z
          have d1 := fun z => pad_cell c1 z
          have d2 := fun z => pad_cell c2 z
          have d3 := fun z => pad_cell c3 z
          have d4 := fun z => pad_cell c4 z
          have d5 := fun z => pad_cell c5 z
          clear c0 c1 c2 c3 c4 c5
          refine wp_region_pad (by kernel_rfl) (by kernel_rfl) ?_
          repeat (go_big_quiet_step (fail))
          refine wpQuiet_nil ?_
          rintro _ ⟨z2, rfl⟩
          have HR2 := Lib.hid (show Grew w (World.pad W2 z2) none ∧ Whole (World.pad W2 z2) q #[.int .i64 1, .int .i64 2, .int .i64 3, .int .i64 4, .int .i64 8] 3 from ⟨grew_trans HG1.out (grew_pad W2 z2), HQ1.out.grew (grew_pad W2 z2) (by simp)⟩)
          clear d0 d1 d2 d3 d4 d5 CN HW1 HG1 HQ1 HE
          generalize World.pad W2 z2 = W3 at *
          go_wp2_with fail
          go_roundw
          case rel => exact ⟨1, by omega, by go_num, HR2⟩
          case measure => simp [intOf]
      · by_cases hf : x < 65536
        · have hE := nm_meas (s := 2) (x := x) (by omega)
          rw [if_pos (show x < 256 ^ Int.toNat 2 by show x < 65536; omega)] at hE
          have HE := Lib.hid hE
          clear hE
          have c0 : wr.cell? ⟨q, 1, none⟩ = some (.int .i64 2) := R.out.2.cell 1
          go_wp2_with fail
          have hw := Whole.new wr #[.int .i64 0, .int .i64 2, .int .i64 0, .int .i64 0, .int .i64 0, .slice none 0 0] 31
          have hg := grew_alloc R.out.1 (.cells #[.int .i64 0, .int .i64 2, .int .i64 0, .int .i64 0, .int .i64 0, .slice none 0 0] 31)
          have hq := R.out.2.grew (grew_alloc (grew_refl wr none) (.cells #[.int .i64 0, .int .i64 2, .int .i64 0, .int .i64 0, .int .i64 0, .slice none 0 0] 31)) (by simp)
          clear R c0
          generalize wr.alloc (.cells #[.int .i64 0, .int .i64 2, .int .i64 0, .int .i64 0, .int .i64 0, .slice none 0 0] 31) = W1 at *
          generalize wr.heap.size = qf at *
          obtain ⟨c0, c1, c2, c3, c4, c5⟩ := hw.six
          have HW := Lib.hid hw
          have HG := Lib.hid hg
          have HQ := Lib.hid hq
          clear hw hg hq
          have d0 := fun z => pad_cell c0 z
          have d1 := fun z => pad_cell c1 z
          have d2 := fun z => pad_cell c2 z
          have d3 := fun z => pad_cell c3 z
          have d4 := fun z => pad_cell c4 z
          have d5 := fun z => pad_cell c5 z
          clear c0 c1 c2 c3 c4 c5
          have CN := Lib.hid (fun w => vnumber_any w x)
          have CF := Lib.hid (fun w => fitsE w (.mk 0 2 0 0 0 none 0 []) (.mk x none 0 [] none 0 []) (nm_in w 2) (plainN_in w ⟨x0, x1⟩) (congrArg Prod.snd HE.out))
          refine wp_region_pad (by kernel_rfl) (by kernel_rfl) ?_
          repeat (go_big_quiet_step ((first | (go_at_call 15; exact pad_call (CN.out _)) | (go_at_call 19; exact pad_call (CF.out _)))))
          refine wpQuiet_nil ?_
          rintro _ ⟨z1, rfl⟩
          clear d0 d1 d2 d3 d4 d5 CF
          have HW1 := Lib.hid (HW.out.grew (grew_pad W1 z1) (by simp))
          have HG1 := Lib.hid (grew_trans HG.out (grew_pad W1 z1))
          have HQ1 := Lib.hid (HQ.out.grew (grew_pad W1 z1) (by simp))
          clear HW HG HQ
          generalize World.pad W1 z1 = W2 at *
          go_wp2_with fail
          obtain ⟨c0, c1, c2, c3, c4, c5⟩ := HW1.out.six
          have d0 := fun z => pad_cell c0 z
          have d1 := fun z => pad_cell c1 z
          have d2 := fun z => pad_cell c2 z
          have d3 := fun z => pad_cell c3 z
          have d4 := fun z => pad_cell c4 z
          have d5 := fun z => pad_cell c5 z
          clear c0 c1 c2 c3 c4 c5
          have CS := Lib.hid (fun w => sizeE w (.mk 0 2 0 0 0 none 0 []) (.mk x none 0 [] none 0 []) (nm_in w 2) (plainN_in w ⟨x0, x1⟩) (congrArg Prod.fst HE.out))
          refine wp_region_pad (by kernel_rfl) (by kernel_rfl) ?_
          repeat (go_big_quiet_step ((first | (go_at_call 15; exact pad_call (CN.out _)) | (go_at_call 18; exact pad_call (CS.out _)))))
          refine wpQuiet_nil ?_
          rintro _ ⟨z2, rfl⟩
          have HR2 := Lib.hid (show Grew w (World.pad W2 z2) none ∧ Whole (World.pad W2 z2) q #[.int .i64 1, .int .i64 2, .int .i64 3, .int .i64 4, .int .i64 8] 3 from ⟨grew_trans HG1.out (grew_pad W2 z2), HQ1.out.grew (grew_pad W2 z2) (by simp)⟩)
          clear d0 d1 d2 d3 d4 d5 CN CS HW1 HG1 HQ1 HE
          generalize World.pad W2 z2 = W3 at *
          go_wp2_with fail
          go_roundw
          case rel => exact ⟨2, by omega, by go_num, HR2⟩
          case measure => simp [intOf]
        · have hE := nm_meas (s := 2) (x := x) (by omega)
          rw [if_neg (show ¬ x < 256 ^ Int.toNat 2 by show ¬ x < 65536; omega)] at hE
          have HE := Lib.hid hE
          clear hE
          have c0 : wr.cell? ⟨q, 1, none⟩ = some (.int .i64 2) := R.out.2.cell 1
          have hfb : decide (x < 65536) = false := by simpa using hf
          go_wp2_with fail
          have hw := Whole.new wr #[.int .i64 0, .int .i64 2, .int .i64 0, .int .i64 0, .int .i64 0, .slice none 0 0] 31
          have hg := grew_alloc R.out.1 (.cells #[.int .i64 0, .int .i64 2, .int .i64 0, .int .i64 0, .int .i64 0, .slice none 0 0] 31)
          have hq := R.out.2.grew (grew_alloc (grew_refl wr none) (.cells #[.int .i64 0, .int .i64 2, .int .i64 0, .int .i64 0, .int .i64 0, .slice none 0 0] 31)) (by simp)
          clear R c0
          generalize wr.alloc (.cells #[.int .i64 0, .int .i64 2, .int .i64 0, .int .i64 0, .int .i64 0, .slice none 0 0] 31) = W1 at *
          generalize wr.heap.size = qf at *
          obtain ⟨c0, c1, c2, c3, c4, c5⟩ := hw.six
          have HW := Lib.hid hw
          have HG := Lib.hid hg
          have HQ := Lib.hid hq
          clear hw hg hq
          have d0 := fun z => pad_cell c0 z
          have d1 := fun z => pad_cell c1 z
          have d2 := fun z => pad_cell c2 z
          have d3 := fun z => pad_cell c3 z
          have d4 := fun z => pad_cell c4 z
          have d5 := fun z => pad_cell c5 z
          clear c0 c1 c2 c3 c4 c5
          have CN := Lib.hid (fun w => vnumber_any w x)
          have CF := Lib.hid (fun w => fitsE w (.mk 0 2 0 0 0 none 0 []) (.mk x none 0 [] none 0 []) (nm_in w 2) (plainN_in w ⟨x0, x1⟩) (congrArg Prod.snd HE.out))
          refine wp_region_pad (by kernel_rfl) (by kernel_rfl) ?_
          repeat (go_big_quiet_step ((first | (go_at_call 15; exact pad_call (CN.out _)) | (go_at_call 19; exact pad_call (CF.out _)))))
          refine wpQuiet_nil ?_
          rintro _ ⟨z1, rfl⟩
          clear d0 d1 d2 d3 d4 d5 CF
          have HW1 := Lib.hid (HW.out.grew (grew_pad W1 z1) (by simp))
          have HG1 := Lib.hid (grew_trans HG.out (grew_pad W1 z1))
          have HQ1 := Lib.hid (HQ.out.grew (grew_pad W1 z1) (by simp))
          clear HW HG HQ
          generalize World.pad W1 z1 = W2 at *
          go_wp2_with fail
          obtain ⟨c0, c1, c2, c3, c4, c5⟩ := HW1.out.six
          have d0 := fun z => pad_cell c0 z
          have d1 := fun z => pad_cell c1 z
          have d2 := fun z => pad_cell c2 z
          have d3 := fun z => pad_cell c3 z
          have d4 := fun z => pad_cell c4 z
          have d5 := fun z => pad_cell c5 z
          clear c0 c1 c2 c3 c4 c5
          refine wp_region_pad (by kernel_rfl) (by kernel_rfl) ?_
          repeat (go_big_quiet_step (fail))
          refine wpQuiet_nil ?_
          rintro _ ⟨z2, rfl⟩
          have HR2 := Lib.hid (show Grew w (World.pad W2 z2) none ∧ Whole (World.pad W2 z2) q #[.int .i64 1, .int .i64 2, .int .i64 3, .int .i64 4, .int .i64 8] 3 from ⟨grew_trans HG1.out (grew_pad W2 z2), HQ1.out.grew (grew_pad W2 z2) (by simp)⟩)
          clear d0 d1 d2 d3 d4 d5 CN HW1 HG1 HQ1 HE
          generalize World.pad W2 z2 = W3 at *
          go_wp2_with fail
          go_roundw
          case rel => exact ⟨2, by omega, by go_num, HR2⟩
          case measure => simp [intOf]
      · by_cases hf : x < 16777216
        · have hE := nm_meas (s := 3) (x := x) (by omega)
          rw [if_pos (show x < 256 ^ Int.toNat 3 by show x < 16777216; omega)] at hE
          have HE := Lib.hid hE
          clear hE
          have c0 : wr.cell? ⟨q, 2, none⟩ = some (.int .i64 3) := R.out.2.cell 2
          go_wp2_with fail
          have hw := Whole.new wr #[.int .i64 0, .int .i64 3, .int .i64 0, .int .i64 0, .int .i64 0, .slice none 0 0] 31
          have hg := grew_alloc R.out.1 (.cells #[.int .i64 0, .int .i64 3, .int .i64 0, .int .i64 0, .int .i64 0, .slice none 0 0] 31)
          have hq := R.out.2.grew (grew_alloc (grew_refl wr none) (.cells #[.int .i64 0, .int .i64 3, .int .i64 0, .int .i64 0, .int .i64 0, .slice none 0 0] 31)) (by simp)
          clear R c0
          generalize wr.alloc (.cells #[.int .i64 0, .int .i64 3, .int .i64 0, .int .i64 0, .int .i64 0, .slice none 0 0] 31) = W1 at *
          generalize wr.heap.size = qf at *
          obtain ⟨c0, c1, c2, c3, c4, c5⟩ := hw.six
          have HW := Lib.hid hw
          have HG := Lib.hid hg
          have HQ := Lib.hid hq
          clear hw hg hq
          have d0 := fun z => pad_cell c0 z
          have d1 := fun z => pad_cell c1 z
          have d2 := fun z => pad_cell c2 z
          have d3 := fun z => pad_cell c3 z
          have d4 := fun z => pad_cell c4 z
          have d5 := fun z => pad_cell c5 z
          clear c0 c1 c2 c3 c4 c5
          have CN := Lib.hid (fun w => vnumber_any w x)
          have CF := Lib.hid (fun w => fitsE w (.mk 0 3 0 0 0 none 0 []) (.mk x none 0 [] none 0 []) (nm_in w 3) (plainN_in w ⟨x0, x1⟩) (congrArg Prod.snd HE.out))
          refine wp_region_pad (by kernel_rfl) (by kernel_rfl) ?_
          repeat (go_big_quiet_step ((first | (go_at_call 15; exact pad_call (CN.out _)) | (go_at_call 19; exact pad_call (CF.out _)))))
          refine wpQuiet_nil ?_
          rintro _ ⟨z1, rfl⟩
          clear d0 d1 d2 d3 d4 d5 CF
          have HW1 := Lib.hid (HW.out.grew (grew_pad W1 z1) (by simp))
          have HG1 := Lib.hid (grew_trans HG.out (grew_pad W1 z1))
          have HQ1 := Lib.hid (HQ.out.grew (grew_pad W1 z1) (by simp))
          clear HW HG HQ
          generalize World.pad W1 z1 = W2 at *
          go_wp2_with fail
          obtain ⟨c0, c1, c2, c3, c4, c5⟩ := HW1.out.six
          have d0 := fun z => pad_cell c0 z
          have d1 := fun z => pad_cell c1 z
          have d2 := fun z => pad_cell c2 z
          have d3 := fun z => pad_cell c3 z
          have d4 := fun z => pad_cell c4 z
          have d5 := fun z => pad_cell c5 z
          clear c0 c1 c2 c3 c4 c5
          have CS := Lib.hid (fun w => sizeE w (.mk 0 3 0 0 0 none 0 []) (.mk x none 0 [] none 0 []) (nm_in w 3) (plainN_in w ⟨x0, x1⟩) (congrArg Prod.fst HE.out))
          refine wp_region_pad (by kernel_rfl) (by kernel_rfl) ?_
          repeat (go_big_quiet_step ((first | (go_at_call 15; exact pad_call (CN.out _)) | (go_at_call 18; exact pad_call (CS.out _)))))
          refine wpQuiet_nil ?_
          rintro _ ⟨z2, rfl⟩
          have HR2 := Lib.hid (show Grew w (World.pad W2 z2) none ∧ Whole (World.pad W2 z2) q #[.int .i64 1, .int .i64 2, .int .i64 3, .int .i64 4, .int .i64 8] 3 from ⟨grew_trans HG1.out (grew_pad W2 z2), HQ1.out.grew (grew_pad W2 z2) (by simp)⟩)
          clear d0 d1 d2 d3 d4 d5 CN CS HW1 HG1 HQ1 HE
          generalize World.pad W2 z2 = W3 at *
          go_wp2_with fail
          go_roundw
          case rel => exact ⟨3, by omega, by go_num, HR2⟩
          case measure => simp [intOf]
        · have hE := nm_meas (s := 3) (x := x) (by omega)
          rw [if_neg (show ¬ x < 256 ^ Int.toNat 3 by show ¬ x < 16777216; omega)] at hE
          have HE := Lib.hid hE
          clear hE
          have c0 : wr.cell? ⟨q, 2, none⟩ = some (.int .i64 3) := R.out.2.cell 2
          have hfb : decide (x < 16777216) = false := by simpa using hf
          go_wp2_with fail
          have hw := Whole.new wr #[.int .i64 0, .int .i64 3, .int .i64 0, .int .i64 0, .int .i64 0, .slice none 0 0] 31
          have hg := grew_alloc R.out.1 (.cells #[.int .i64 0, .int .i64 3, .int .i64 0, .int .i64 0, .int .i64 0, .slice none 0 0] 31)
          have hq := R.out.2.grew (grew_alloc (grew_refl wr none) (.cells #[.int .i64 0, .int .i64 3, .int .i64 0, .int .i64 0, .int .i64 0, .slice none 0 0] 31)) (by simp)
          clear R c0
          generalize wr.alloc (.cells #[.int .i64 0, .int .i64 3, .int .i64 0, .int .i64 0, .int .i64 0, .slice none 0 0] 31) = W1 at *
          generalize wr.heap.size = qf at *
          obtain ⟨c0, c1, c2, c3, c4, c5⟩ := hw.six
          have HW := Lib.hid hw
          have HG := Lib.hid hg
          have HQ := Lib.hid hq
          clear hw hg hq
          have d0 := fun z => pad_cell c0 z
          have d1 := fun z => pad_cell c1 z
          have d2 := fun z => pad_cell c2 z
          have d3 := fun z => pad_cell c3 z
          have d4 := fun z => pad_cell c4 z
          have d5 := fun z => pad_cell c5 z
          clear c0 c1 c2 c3 c4 c5
          have CN := Lib.hid (fun w => vnumber_any w x)
          have CF := Lib.hid (fun w => fitsE w (.mk 0 3 0 0 0 none 0 []) (.mk x none 0 [] none 0 []) (nm_in w 3) (plainN_in w ⟨x0, x1⟩) (congrArg Prod.snd HE.out))
          refine wp_region_pad (by kernel_rfl) (by kernel_rfl) ?_
          repeat (go_big_quiet_step ((first | (go_at_call 15; exact pad_call (CN.out _)) | (go_at_call 19; exact pad_call (CF.out _)))))
          refine wpQuiet_nil ?_
          rintro _ ⟨z1, rfl⟩
          clear d0 d1 d2 d3 d4 d5 CF
          have HW1 := Lib.hid (HW.out.grew (grew_pad W1 z1) (by simp))
          have HG1 := Lib.hid (grew_trans HG.out (grew_pad W1 z1))
          have HQ1 := Lib.hid (HQ.out.grew (grew_pad W1 z1) (by simp))
          clear HW HG HQ
          generalize World.pad W1 z1 = W2 at *
          go_wp2_with fail
          obtain ⟨c0, c1, c2, c3, c4, c5⟩ := HW1.out.six
          have d0 := fun z => pad_cell c0 z
          have d1 := fun z => pad_cell c1 z
          have d2 := fun z => pad_cell c2 z
          have d3 := fun z => pad_cell c3 z
          have d4 := fun z => pad_cell c4 z
          have d5 := fun z => pad_cell c5 z
          clear c0 c1 c2 c3 c4 c5
          refine wp_region_pad (by kernel_rfl) (by kernel_rfl) ?_
          repeat (go_big_quiet_step (fail))
          refine wpQuiet_nil ?_
          rintro _ ⟨z2, rfl⟩
          have HR2 := Lib.hid (show Grew w (World.pad W2 z2) none ∧ Whole (World.pad W2 z2) q #[.int .i64 1, .int .i64 2, .int .i64 3, .int .i64 4, .int .i64 8] 3 from ⟨grew_trans HG1.out (grew_pad W2 z2), HQ1.out.grew (grew_pad W2 z2) (by simp)⟩)
          clear d0 d1 d2 d3 d4 d5 CN HW1 HG1 HQ1 HE
          generalize World.pad W2 z2 = W3 at *
          go_wp2_with fail
          go_roundw
          case rel => exact ⟨3, by omega, by go_num, HR2⟩
          case measure => simp [intOf]
      · by_cases hf : x < 4294967296
        · have hE := nm_meas (s := 4) (x := x) (by omega)
          rw [if_pos (show x < 256 ^ Int.toNat 4 by show x < 4294967296; omega)] at hE
          have HE := Lib.hid hE
          clear hE
          have c0 : wr.cell? ⟨q, 3, none⟩ = some (.int .i64 4) := R.out.2.cell 3
          go_wp2_with fail
          have hw := Whole.new wr #[.int .i64 0, .int .i64 4, .int .i64 0, .int .i64 0, .int .i64 0, .slice none 0 0] 31
          have hg := grew_alloc R.out.1 (.cells #[.int .i64 0, .int .i64 4, .int .i64 0, .int .i64 0, .int .i64 0, .slice none 0 0] 31)
          have hq := R.out.2.grew (grew_alloc (grew_refl wr none) (.cells #[.int .i64 0, .int .i64 4, .int .i64 0, .int .i64 0, .int .i64 0, .slice none 0 0] 31)) (by simp)
          clear R c0
          generalize wr.alloc (.cells #[.int .i64 0, .int .i64 4, .int .i64 0, .int .i64 0, .int .i64 0, .slice none 0 0] 31) = W1 at *
          generalize wr.heap.size = qf at *
          obtain ⟨c0, c1, c2, c3, c4, c5⟩ := hw.six
          have HW := Lib.hid hw
          have HG := Lib.hid hg
          have HQ := Lib.hid hq
          clear hw hg hq
          have d0 := fun z => pad_cell c0 z
          have d1 := fun z => pad_cell c1 z
          have d2 := fun z => pad_cell c2 z
          have d3 := fun z => pad_cell c3 z
          have d4 := fun z => pad_cell c4 z
          have d5 := fun z => pad_cell c5 z
          clear c0 c1 c2 c3 c4 c5
          have CN := Lib.hid (fun w => vnumber_any w x)
          have CF := Lib.hid (fun w => fitsE w (.mk 0 4 0 0 0 none 0 []) (.mk x none 0 [] none 0 []) (nm_in w 4) (plainN_in w ⟨x0, x1⟩) (congrArg Prod.snd HE.out))
          refine wp_region_pad (by kernel_rfl) (by kernel_rfl) ?_
          repeat (go_big_quiet_step ((first | (go_at_call 15; exact pad_call (CN.out _)) | (go_at_call 19; exact pad_call (CF.out _)))))
          refine wpQuiet_nil ?_
          rintro _ ⟨z1, rfl⟩
          clear d0 d1 d2 d3 d4 d5 CF
          have HW1 := Lib.hid (HW.out.grew (grew_pad W1 z1) (by simp))
          have HG1 := Lib.hid (grew_trans HG.out (grew_pad W1 z1))
          have HQ1 := Lib.hid (HQ.out.grew (grew_pad W1 z1) (by simp))
          clear HW HG HQ
          generalize World.pad W1 z1 = W2 at *
          go_wp2_with fail
          obtain ⟨c0, c1, c2, c3, c4, c5⟩ := HW1.out.six
          have d0 := fun z => pad_cell c0 z
          have d1 := fun z => pad_cell c1 z
          have d2 := fun z => pad_cell c2 z
          have d3 := fun z => pad_cell c3 z
          have d4 := fun z => pad_cell c4 z
          have d5 := fun z => pad_cell c5 z
          clear c0 c1 c2 c3 c4 c5
          have CS := Lib.hid (fun w => sizeE w (.mk 0 4 0 0 0 none 0 []) (.mk x none 0 [] none 0 []) (nm_in w 4) (plainN_in w ⟨x0, x1⟩) (congrArg Prod.fst HE.out))
          refine wp_region_pad (by kernel_rfl) (by kernel_rfl) ?_
          repeat (go_big_quiet_step ((first | (go_at_call 15; exact pad_call (CN.out _)) | (go_at_call 18; exact pad_call (CS.out _)))))
          refine wpQuiet_nil ?_
          rintro _ ⟨z2, rfl⟩
          have HR2 := Lib.hid (show Grew w (World.pad W2 z2) none ∧ Whole (World.pad W2 z2) q #[.int .i64 1, .int .i64 2, .int .i64 3, .int .i64 4, .int .i64 8] 3 from ⟨grew_trans HG1.out (grew_pad W2 z2), HQ1.out.grew (grew_pad W2 z2) (by simp)⟩)
          clear d0 d1 d2 d3 d4 d5 CN CS HW1 HG1 HQ1 HE
          generalize World.pad W2 z2 = W3 at *
          go_wp2_with fail
          go_roundw
          case rel => exact ⟨4, by omega, by go_num, HR2⟩
          case measure => simp [intOf]
        · have hE := nm_meas (s := 4) (x := x) (by omega)
          rw [if_neg (show ¬ x < 256 ^ Int.toNat 4 by show ¬ x < 4294967296; omega)] at hE
          have HE := Lib.hid hE
          clear hE
          have c0 : wr.cell? ⟨q, 3, none⟩ = some (.int .i64 4) := R.out.2.cell 3
          have hfb : decide (x < 4294967296) = false := by simpa using hf
          go_wp2_with fail
          have hw := Whole.new wr #[.int .i64 0, .int .i64 4, .int .i64 0, .int .i64 0, .int .i64 0, .slice none 0 0] 31
          have hg := grew_alloc R.out.1 (.cells #[.int .i64 0, .int .i64 4, .int .i64 0, .int .i64 0, .int .i64 0, .slice none 0 0] 31)
          have hq := R.out.2.grew (grew_alloc (grew_refl wr none) (.cells #[.int .i64 0, .int .i64 4, .int .i64 0, .int .i64 0, .int .i64 0, .slice none 0 0] 31)) (by simp)
          clear R c0
          generalize wr.alloc (.cells #[.int .i64 0, .int .i64 4, .int .i64 0, .int .i64 0, .int .i64 0, .slice none 0 0] 31) = W1 at *
          generalize wr.heap.size = qf at *
          obtain ⟨c0, c1, c2, c3, c4, c5⟩ := hw.six
          have HW := Lib.hid hw
          have HG := Lib.hid hg
          have HQ := Lib.hid hq
          clear hw hg hq
          have d0 := fun z => pad_cell c0 z
          have d1 := fun z => pad_cell c1 z
          have d2 := fun z => pad_cell c2 z
          have d3 := fun z => pad_cell c3 z
          have d4 := fun z => pad_cell c4 z
          have d5 := fun z => pad_cell c5 z
          clear c0 c1 c2 c3 c4 c5
          have CN := Lib.hid (fun w => vnumber_any w x)
          have CF := Lib.hid (fun w => fitsE w (.mk 0 4 0 0 0 none 0 []) (.mk x none 0 [] none 0 []) (nm_in w 4) (plainN_in w ⟨x0, x1⟩) (congrArg Prod.snd HE.out))
          refine wp_region_pad (by kernel_rfl) (by kernel_rfl) ?_
          repeat (go_big_quiet_step ((first | (go_at_call 15; exact pad_call (CN.out _)) | (go_at_call 19; exact pad_call (CF.out _)))))
          refine wpQuiet_nil ?_
          rintro _ ⟨z1, rfl⟩
          clear d0 d1 d2 d3 d4 d5 CF
          have HW1 := Lib.hid (HW.out.grew (grew_pad W1 z1) (by simp))
          have HG1 := Lib.hid (grew_trans HG.out (grew_pad W1 z1))
          have HQ1 := Lib.hid (HQ.out.grew (grew_pad W1 z1) (by simp))
          clear HW HG HQ
          generalize World.pad W1 z1 = W2 at *
          go_wp2_with fail
          obtain ⟨c0, c1, c2, c3, c4, c5⟩ := HW1.out.six
          have d0 := fun z => pad_cell c0 z
          have d1 := fun z => pad_cell c1 z
          have d2 := fun z => pad_cell c2 z
          have d3 := fun z => pad_cell c3 z
          have d4 := fun z => pad_cell c4 z
          have d5 := fun z => pad_cell c5 z
          clear c0 c1 c2 c3 c4 c5
          refine wp_region_pad (by kernel_rfl) (by kernel_rfl) ?_
          repeat (go_big_quiet_step (fail))
          refine wpQuiet_nil ?_
          rintro _ ⟨z2, rfl⟩
          have HR2 := Lib.hid (show Grew w (World.pad W2 z2) none ∧ Whole (World.pad W2 z2) q #[.int .i64 1, .int .i64 2, .int .i64 3, .int .i64 4, .int .i64 8] 3 from ⟨grew_trans HG1.out (grew_pad W2 z2), HQ1.out.grew (grew_pad W2 z2) (by simp)⟩)
          clear d0 d1 d2 d3 d4 d5 CN HW1 HG1 HQ1 HE
          generalize World.pad W2 z2 = W3 at *
          go_wp2_with fail
          go_roundw
          case rel => exact ⟨4, by omega, by go_num, HR2⟩
          case measure => simp [intOf]
      · have hE := nm_meas (s := 8) (x := x) (by omega)
        rw [if_pos (show x < 256 ^ Int.toNat 8 by show x < 18446744073709551616; omega)] at hE
        have HE := Lib.hid hE
        clear hE
        have c0 : wr.cell? ⟨q, 4, none⟩ = some (.int .i64 8) := R.out.2.cell 4
        go_wp2_with fail
        have hw := Whole.new wr #[.int .i64 0, .int .i64 8, .int .i64 0, .int .i64 0, .int .i64 0, .slice none 0 0] 31
        have hg := grew_alloc R.out.1 (.cells #[.int .i64 0, .int .i64 8, .int .i64 0, .int .i64 0, .int .i64 0, .slice none 0 0] 31)
        have hq := R.out.2.grew (grew_alloc (grew_refl wr none) (.cells #[.int .i64 0, .int .i64 8, .int .i64 0, .int .i64 0, .int .i64 0, .slice none 0 0] 31)) (by simp)
        clear R c0
        generalize wr.alloc (.cells #[.int .i64 0, .int .i64 8, .int .i64 0, .int .i64 0, .int .i64 0, .slice none 0 0] 31) = W1 at *
        generalize wr.heap.size = qf at *
        obtain ⟨c0, c1, c2, c3, c4, c5⟩ := hw.six
        have HW := Lib.hid hw
        have HG := Lib.hid hg
        have HQ := Lib.hid hq
        clear hw hg hq
        have d0 := fun z => pad_cell c0 z
        have d1 := fun z => pad_cell c1 z
        have d2 := fun z => pad_cell c2 z
        have d3 := fun z => pad_cell c3 z
        have d4 := fun z => pad_cell c4 z
        have d5 := fun z => pad_cell c5 z
        clear c0 c1 c2 c3 c4 c5
        have CN := Lib.hid (fun w => vnumber_any w x)
        have CF := Lib.hid (fun w => fitsE w (.mk 0 8 0 0 0 none 0 []) (.mk x none 0 [] none 0 []) (nm_in w 8) (plainN_in w ⟨x0, x1⟩) (congrArg Prod.snd HE.out))
        refine wp_region_pad (by kernel_rfl) (by kernel_rfl) ?_
        repeat (go_big_quiet_step ((first | (go_at_call 15; exact pad_call (CN.out _)) | (go_at_call 19; exact pad_call (CF.out _)))))
        refine wpQuiet_nil ?_
        rintro _ ⟨z1, rfl⟩
        clear d0 d1 d2 d3 d4 d5 CF
        have HW1 := Lib.hid (HW.out.grew (grew_pad W1 z1) (by simp))
        have HG1 := Lib.hid (grew_trans HG.out (grew_pad W1 z1))
        have HQ1 := Lib.hid (HQ.out.grew (grew_pad W1 z1) (by simp))
        clear HW HG HQ
        generalize World.pad W1 z1 = W2 at *
        go_wp2_with fail
        obtain ⟨c0, c1, c2, c3, c4, c5⟩ := HW1.out.six
        have d0 := fun z => pad_cell c0 z
        have d1 := fun z => pad_cell c1 z
        have d2 := fun z => pad_cell c2 z
        have d3 := fun z => pad_cell c3 z
        have d4 := fun z => pad_cell c4 z
        have d5 := fun z => pad_cell c5 z
        clear c0 c1 c2 c3 c4 c5
        have CS := Lib.hid (fun w => sizeE w (.mk 0 8 0 0 0 none 0 []) (.mk x none 0 [] none 0 []) (nm_in w 8) (plainN_in w ⟨x0, x1⟩) (congrArg Prod.fst HE.out))
        refine wp_region_pad (by kernel_rfl) (by kernel_rfl) ?_
        repeat (go_big_quiet_step ((first | (go_at_call 15; exact pad_call (CN.out _)) | (go_at_call 18; exact pad_call (CS.out _)))))
        refine wpQuiet_nil ?_
        rintro _ ⟨z2, rfl⟩
        have HR2 := Lib.hid (show Grew w (World.pad W2 z2) none ∧ Whole (World.pad W2 z2) q #[.int .i64 1, .int .i64 2, .int .i64 3, .int .i64 4, .int .i64 8] 3 from ⟨grew_trans HG1.out (grew_pad W2 z2), HQ1.out.grew (grew_pad W2 z2) (by simp)⟩)
        clear d0 d1 d2 d3 d4 d5 CN CS HW1 HG1 HQ1 HE
        generalize World.pad W2 z2 = W3 at *
        go_wp2_with fail
        go_roundw
        case rel => exact ⟨5, by omega, by go_num, HR2⟩
        case measure => simp [intOf]
      · have G := Lib.hid R.out.1
        clear R
        have hmx := HMX.out
        have hk0 := HK0.out
        have hk1 := HK1.out
        go_wp2_with fail
        clear hmx HMX HK0 HK1
        generalize m % 3000 = k at *
        have HL := Lib.hid hl
        have HM := Lib.hid hm
        have HLE := Lib.hid (show xs.length ≤ 2000 by omega)
        refine (vbytes_any wr A c xs ((HB.out.grew G.out (fun _ h => by cases h)).more G.out.size) (by omega)).mono ?_
        rintro e w2 ⟨B2, b2, rfl, i2, g2⟩
        have G2 := Lib.hid (grew_trans G.out g2)
        have I2 := Lib.hid i2
        clear i2 g2
        rw [vval_eq]
        simp only [Va.n, Va.B, Va.d, Va.bs, Va.A, Va.c, Va.ls, List.length_nil]
        go_wp2_with fail
        obtain ⟨r1, hr1⟩ : ∃ r : Int, r = if (xs.length : Int) = k then 0 else 5 := ⟨_, rfl⟩
        have Hr1 := Lib.hid hr1
        clear hr1
        refine (fitsE w2 (.mk 5 0 k 0 0 none 0 []) (.mk 0 B2 b2 xs none 0 []) (plain_in w2 5 0 k 0 0) I2.out ((fx_meas hk0 hk1 B2 b2 xs).trans Hr1.out.symm)).mono ?_
        rintro e w3 ⟨rfl, g3⟩
        have G3 := Lib.hid (grew_trans G2.out g3)
        clear I2 G2 g3
        go_wp2_with fail
        refine (vbytes_any w3 A c xs ((HB.out.grew G3.out (fun _ h => by cases h)).more G3.out.size) (by omega)).mono ?_
        rintro e w4 ⟨B4, b4, rfl, i4, g4⟩
        have G4 := Lib.hid (grew_trans G3.out g4)
        have I4 := Lib.hid i4
        clear i4 g4
        rw [vval_eq]
        simp only [Va.n, Va.B, Va.d, Va.bs, Va.A, Va.c, Va.ls, List.length_nil]
        go_wp2_with fail
        obtain ⟨r2, hr2⟩ : ∃ r : Int, r = if k ≤ (xs.length : Int) then 0 else 5 := ⟨_, rfl⟩
        have Hr2 := Lib.hid hr2
        clear hr2
        refine (fitsE w4 (.mk 4 0 k 16777215 0 none 0 []) (.mk 0 B4 b4 xs none 0 []) (plain_in w4 4 0 k 16777215 0) I4.out ((rs_meas hk0 hk1 B4 b4 xs HLE.out).trans Hr2.out.symm)).mono ?_
        rintro e w5 ⟨rfl, g5⟩
        have G5 := Lib.hid (grew_trans G4.out g5)
        clear I4 G4 g5
        go_wp2_with fail
        refine (vbytes_any w5 A c xs ((HB.out.grew G5.out (fun _ h => by cases h)).more G5.out.size) (by omega)).mono ?_
        rintro e w6 ⟨B6, b6, rfl, i6, g6⟩
        have G6 := Lib.hid (grew_trans G5.out g6)
        have I6 := Lib.hid i6
        clear i6 g6
        rw [vval_eq]
        simp only [Va.n, Va.B, Va.d, Va.bs, Va.A, Va.c, Va.ls, List.length_nil]
        go_wp2_with fail
        obtain ⟨r3, hr3⟩ : ∃ r : Int, r = if (xs.length : Int) ≤ k then 0 else 5 := ⟨_, rfl⟩
        have Hr3 := Lib.hid hr3
        clear hr3
        refine (fitsE w6 (.mk 1 3 0 k 1 none 0 []) (.mk 0 B6 b6 xs none 0 []) (plain_in w6 1 3 0 k 1) I6.out ((op_meas hk0 hk1 B6 b6 xs).trans Hr3.out.symm)).mono ?_
        rintro e w7 ⟨rfl, g7⟩
        have G7 := Lib.hid (grew_trans G6.out g7)
        clear I6 G6 g7
        have key : (xs.length : Int) = k ∨ (xs.length : Int) < k ∨ k < (xs.length : Int) := by omega
        rcases key with hkk | hkk | hkk
        · obtain rfl : r1 = 0 := by rw [Hr1.out, if_pos (by omega)]
          obtain rfl : r2 = 0 := by rw [Hr2.out, if_pos (by omega)]
          obtain rfl : r3 = 0 := by rw [Hr3.out, if_pos (by omega)]
          subst hkk
          go_wp2_with fail
          go_ret
          exact ⟨rfl, grew_below G7.out (Nat.le_refl _) (fun _ h => by cases h)⟩
        · obtain rfl : r1 = 5 := by rw [Hr1.out, if_neg (by omega)]
          obtain rfl : r2 = 5 := by rw [Hr2.out, if_neg (by omega)]
          obtain rfl : r3 = 0 := by rw [Hr3.out, if_pos (by omega)]
          have hb1 : ((xs.length : Int) == k) = false := by simp; omega
          have hb2 : decide (k ≤ (xs.length : Int)) = false := by simp; omega
          have hb3 : decide ((xs.length : Int) ≤ k) = true := by simp; omega
          go_wp2_with fail
          go_ret
          exact ⟨rfl, grew_below G7.out (Nat.le_refl _) (fun _ h => by cases h)⟩
        · obtain rfl : r1 = 5 := by rw [Hr1.out, if_neg (by omega)]
          obtain rfl : r2 = 0 := by rw [Hr2.out, if_pos (by omega)]
          obtain rfl : r3 = 5 := by rw [Hr3.out, if_neg (by omega)]
          have hb1 : ((xs.length : Int) == k) = false := by simp; omega
          have hb2 : decide (k ≤ (xs.length : Int)) = true := by simp; omega
          have hb3 : decide ((xs.length : Int) ≤ k) = false := by simp; omega
          go_wp2_with fail
          go_ret
          exact ⟨rfl, grew_below G7.out (Nat.le_refl _) (fun _ h => by cases h)⟩

set_option maxRecDepth 100000 in
theorem valueNumbers_lifted (os : Os) (started : os.Started) (H : Type) (enc : TypeId × Value → H) :
    ReturnsInHanded {} Try.checked os 8 .any (Rows.valueNumbersSpec.pre6 enc Try.prog Try.f8 Rows.valueNumbersRow.domain false) (Rows.valueNumbersSpec.post enc Try.prog Try.f8 false true false false) := by
  refine returnsInHanded_of_change_sized (C := Try.checked) own started (by kernel_rfl) Try.func8
    (ChangeSpec.witness6 (enc := enc) (C := Try.checked) false ⟨#[], #[.int .u64 0, .slice none 0 0, .int .i64 0], []⟩ 8 (by kernel_rfl) (by kernel_rfl) (by kernel_rfl) (by kernel_rfl)) ?_
  intro W base args ds gs before hval0 hW hcnd hsz0 _
  have hval : ∀ (j : Nat) t v, Try.f8.params[j]? = some t → args[j]? = some v → Value.okWide Try.prog W .any base t v := hval0
  have hsz : (DataW.weightsEach Try.prog (Try.f8.params.toList ++ Rows.valueNumbersSpec.plain.varTypes Try.prog) (ds ++ gs)).all (· ≤ reachBytes) = true := hsz0
  have hW' := hW
  obtain ⟨p, q, hA0, hV, rfl, hfz, hnd⟩ := hW
  have hA : DataW.TrodAll enc Try.prog W 0 (fun _ => true) true Try.f8.params.toList args.toList ds p := hA0
  rw [Try.params8] at hA hval hsz
  obtain ⟨v0, vs0, d0, ds0, p0, q0, hargs, rfl, rfl, h0, r0⟩ := trodAll_cons hA
  obtain ⟨v1, vs1, d1, ds1, p1, q1, rfl, rfl, rfl, h1, r1⟩ := trodAll_cons r0
  obtain ⟨v2, vs2, d2, ds2, p2, q2, rfl, rfl, rfl, h2, r2⟩ := trodAll_cons r1
  obtain ⟨rfl, rfl, rfl⟩ := trodAll_nil r2
  obtain rfl : args = #[v0, v1, v2] := by cases args; simp_all
  obtain ⟨rfl, rfl⟩ := trodVars_none hV
  obtain ⟨a0, rfl, rfl, rfl, w0⟩ := open_int Try.underlying22 (hval 0 22 v0 rfl rfl) h0
  have k1 := h1
  have lt1 : ∀ x ∈ p1, x.block < W.heap.size := by obtain ⟨m, hm⟩ := k1; exact DataW.trod_lt m _ _ _ hm
  obtain ⟨A1, c1, x1, rfl, l1, m1, b1⟩ := arg_bytes (hval 1 23 v1 rfl rfl) h1 hsz (j := 1) rfl rfl
  obtain ⟨a2, rfl, rfl, rfl, w2⟩ := open_int Try.underlying3 (hval 2 3 v2 rfl rfl) h2
  clear hA0 hval0 hsz0
  refine (valueNumbers_walk W a0 w0 A1 c1 x1 l1 m1 b1 a2 w2).mono fun e W' ⟨he, bel⟩ => ?_
  subst he
  exact ⟨_, rfl, _, _, _, [], _, [], hW', trodAll_mk1 (shut_bool Try.underlying4 _), (trodAll_cons_mk (shut_int Try.underlying22 w0) (trodAll_cons_mk (Below.trod laidOut (by kernel_rfl) (of_decide_eq_true (by kernel_rfl)) k1 bel lt1) (trodAll_cons_mk (shut_int Try.underlying3 w2) trodAll_mk0))), rfl, bel.frame _, fun h => by cases h⟩

theorem valueNumbers_over : Rows.valueNumbersRow.holds Try.pinned (OpenSpec.ofChange Rows.valueNumbersSpec) :=
  OpenClaim.holds_of_wide 8 Try.f8 rfl rfl rfl rfl rfl rfl rfl ⟨rfl, rfl, rfl, rfl, rfl⟩ rfl rfl rfl rfl rfl (by kernel_rfl) Try.func8 (by kernel_rfl)
    (of_decide_eq_true (by kernel_rfl)) (by unfold Func.isWrapper; first | (rw [if_pos (by decide +kernel)]; kernel_rfl) | (rw [if_neg (by decide +kernel)]; exact ⟨rfl, rfl⟩))
    (fun os started H enc _ => valueNumbers_lifted os started H enc)

theorem valueNumbers_holds : Rows.ValueNumbersSaid := valueNumbers_over
#print axioms valueNumbers_holds
end Go.Proofs.Ytmdmfinpcbedcaa

