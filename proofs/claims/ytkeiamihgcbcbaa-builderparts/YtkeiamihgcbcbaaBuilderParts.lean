/- Parts one in the other are read by sub-cursors, one in the other, with what stands behind each: for every sizes and bytes the law returns true, and they read as they did. No condition. -/
import Derived.Test.YtkeiamihgcbcbaaParts2
import Derived.Test.YtkeiamihgcbcbaaCr
import Derived.Test.YtkeiamihgcbcbaaOpen
namespace Go.Proofs.Ytkeiamihgcbcbaa
open Go.ChangeShapes Go.WideShapes Go.ChangeAt Go.RowKit

/-- A builder of the law's own, and nothing old has turned. -/
def PtRel (w wr : World) (p : Nat) (xs : List UInt8) (ps : List (Nat × Nat)) : Prop := ∃ F, Bd wr F p 65536 xs ps ∧ (∀ i, F i → w.heap.size ≤ i) ∧ Grew w wr none

/-- A cursor of the law's own, what is ahead of it, and nothing old has turned. -/
def PtRead (w wr : World) (q d : Nat) (ys : List UInt8) : Prop := w.heap.size ≤ q ∧ (∃ pl, Cr wr q (d + 1) ys pl) ∧ Grew w wr none

set_option maxRecDepth 100000 in
set_option maxHeartbeats 8000000 in
theorem builderParts_walk (w : World) (A1 : Option Addr) (c1 : Nat) (zs : List Int) (hl1 : zs.length ≤ c1) (_ : c1 ≤ 140737488351232) (hz : Nums w A1 zs) (_ : ∀ z ∈ zs, (Lit.int .i64 z).wf = true)
    (A : Option Addr) (c : Nat) (xs : List UInt8) (hl : xs.length ≤ c) (_ : c ≤ 140737488351232) (hb : Byt w w.heap.size A xs) :
    Calls Try.prog 6 #[.slice A1 zs.length c1, .slice A xs.length c] w fun e w' => e = .returned (.bool true) ∧ Below w.heap.size w w' := by
  obtain ⟨L, hL, hLl, hL2⟩ : ∃ L : Nat, L = min xs.length 100 ∧ L ≤ xs.length ∧ L ≤ 100 := ⟨_, rfl, Nat.min_le_left _ _, Nat.min_le_right _ _⟩
  obtain ⟨M, hM, hMl, hM2⟩ : ∃ M : Nat, M = min zs.length 12 ∧ M ≤ zs.length ∧ M ≤ 12 := ⟨_, rfl, Nat.min_le_left _ _, Nat.min_le_right _ _⟩
  have hifL : (if (100 : Int) < (xs.length : Int) then (100 : Int) else (xs.length : Int)) = (L : Int) := by split <;> omega
  have hifM : (if (12 : Int) < (zs.length : Int) then (12 : Int) else (zs.length : Int)) = (M : Int) := by split <;> omega
  have hLc : (L : Int) ≤ c := by omega
  have hMc : (M : Int) ≤ c1 := by omega
  have hL0 : (0 : Int) ≤ L := by omega
  have hM0 : (0 : Int) ≤ M := by omega
  have HZ := Lib.hid hz
  have HB := Lib.hid hb
  have HLL := Lib.hid hL
  have HMM := Lib.hid hM
  clear hz hb hL hM
  go_enter Try.func6, Try.ntmps6
  go_wp2_with fail
  go_quiet (fail)
  clear hifL hifM
  go_wp2_with fail
  have g0 : Grew w (w.drewN nq) none := grew_drewN (grew_refl _ _) nq
  generalize w.drewN nq = W0 at *
  have hp0 := g0.size
  refine (bnew_ok W0 65536 (by omega)).mono ?_
  rintro e w1 ⟨rfl, h1, g1⟩
  have H1 := Lib.hid h1
  generalize W0.heap.size = p at *
  clear h1
  go_wp2_with fail
  refine (alive2_any w1).mono ?_
  rintro e w2 ⟨rfl, g2⟩
  have HR := Lib.hid (show PtRel w w2 p [] [] from ⟨_, H1.out.fr (Fr.of_grew g2) (fun _ _ h => by cases h), fun i hi => by omega, grew_trans (grew_trans g0 g1) g2⟩)
  clear g0 g1 g2 H1
  go_wp2_with fail
  go_loopw [51] (fun i wr => ∃ k : Nat, k ≤ M ∧ i = .int .i64 k ∧ Hid (PtRel w wr p (hd (zs.take k)) (pts 0 (zs.take k)))) (fun i _ => M - (intOf i).toNat)
  case atStart => exact ⟨0, Nat.zero_le _, rfl, by simpa [hd, pts] using HR⟩
  case round =>
    obtain ⟨k, hk, rfl, R⟩ := hrel
    by_cases hlt : k < M
    · obtain ⟨F, r1, r2, r3⟩ := R.out
      obtain ⟨b, o, rfl, hbl, hcell⟩ := HZ.out (by omega)
      have hck := r3.cell (hcell k (by omega)) (by simp)
      have htk := take_snoc_int zs k (by omega)
      have hlen : (zs.take k).length = k := by rw [List.length_take]; omega
      have hhd := hd_le (zs.take k)
      rw [hlen] at hhd
      have HTK := Lib.hid htk
      clear hcell htk hlen
      generalize zs.getD k 0 = z at *
      have hcb := cb_nat z
      obtain ⟨t, ht, ht2, hsz⟩ := sz_form z
      have HSZ := Lib.hid hsz
      clear hsz
      have R1 := Lib.hid r1
      have R2 := Lib.hid r2
      have R3 := Lib.hid r3
      clear r1 r2 r3 R
      have hbB := ByF.of_whole (k := 0) (Whole.new wr #[.int .u8 (z % 256)] 5) (ys := [cb z]) (by simp [cellsOf, hcb])
      have hbb := bbytes_any _ F p 65536 _ _ (R1.out.fr ((Fr.refl wr (fun _ => False)).alloc (.cells #[.int .u8 (z % 256)] 5)) (fun _ _ h => h)) _ _ [cb z] 1 hbB
      rw [show adE 65536 (hd (zs.take k)).length [cb z].length = 0 from by unfold adE; rw [if_neg (by simp; omega)], show adX 65536 (hd (zs.take k)) [cb z] = hd (zs.take k) ++ [cb z] from by unfold adX; rw [if_neg (by simp; omega)]] at hbb
      have HBB := Lib.hid hbb
      have G4 := Lib.hid (grew_alloc R3.out (.cells #[.int .u8 (z % 256)] 5))
      clear hbB hbb
      go_wp2_with fail
      refine HBB.out.mono ?_
      rintro e w4 ⟨rfl, h4⟩
      obtain ⟨F4, h4, g4, f4, _⟩ := h4.grew G4.out R2.out
      have H4 := Lib.hid h4
      have FF4 := Lib.hid f4
      have G5 := Lib.hid g4
      clear h4 f4 g4 G4 HBB
      have hop := bopen_ok w4 F4 p 65536 _ _ H4.out (1 + t) (by omega) (by omega) (by simp; omega)
      rw [show ((1 + t : Nat) : Int) = 1 + (t : Int) from by omega] at hop
      have HOP := Lib.hid hop
      clear hop
      go_wp2_with fail
      refine HOP.out.mono ?_
      rintro e w6 ⟨rfl, h6⟩
      obtain ⟨F6, h6, g6, f6, _⟩ := h6.grew G5.out FF4.out
      have HR6 := Lib.hid (show PtRel w w6 p (hd (zs.take (k + 1))) (pts 0 (zs.take (k + 1))) from ⟨F6, by
        rw [HTK.out, hd_snoc, pts_snoc, HSZ.out]
        have e1 : hd (zs.take k) ++ [cb z] ++ List.replicate (1 + t) 0 = hd (zs.take k) ++ cb z :: List.replicate (1 + t) 0 := by simp
        rw [e1] at h6
        simpa [Nat.add_assoc, Nat.zero_add] using h6, f6, g6⟩)
      clear h6 f6 g6 HOP G5 FF4 H4 ht hcb
      go_wp2_with fail
      go_roundw
      case rel => exact ⟨k + 1, by omega, by go_num, HR6⟩
      case measure => simp [intOf]; omega
    · obtain rfl : k = M := by omega
      clear hk hlt
      obtain ⟨F, r1, r2, r3⟩ := R.out
      have hlen : (zs.take k).length = k := by rw [List.length_take]; omega
      have hhd := hd_le (zs.take k)
      rw [hlen] at hhd
      have hyl : (xs.take L).length = L := by rw [List.length_take]; omega
      have hbt := ((HB.out.grew r3 (fun _ h => by cases h)).take L).byf
      have hbb := bbytes_any wr F p 65536 _ _ r1 _ A (xs.take L) c hbt
      rw [hyl, show adE 65536 (hd (zs.take k)).length L = 0 from by unfold adE; rw [if_neg (by omega)], show adX 65536 (hd (zs.take k)) (xs.take L) = hd (zs.take k) ++ xs.take L from by unfold adX; rw [if_neg (by rw [hyl]; omega)]] at hbb
      have HBB := Lib.hid hbb
      have R2 := Lib.hid r2
      have R3 := Lib.hid r3
      have HLEN := Lib.hid hlen
      have HYL := Lib.hid hyl
      have HHD := Lib.hid hhd
      clear hbb hbt r1 r2 r3 R HR hlen hyl hhd
      generalize hys : xs.take L = ys at *
      have HYS := Lib.hid hys
      clear hys
      go_wp2_with fail
      refine HBB.out.mono ?_
      rintro e w3 ⟨rfl, h3⟩
      obtain ⟨F3, h3, g3, f3, _⟩ := h3.grew R3.out R2.out
      have H3 := Lib.hid h3
      have hde := bdeep_any w3 F3 p 65536 _ _ h3
      rw [pts_length, HLEN.out] at hde
      have HDE := Lib.hid hde
      have HR3 := Lib.hid (show PtRel w w3 p (hd (zs.take k) ++ full ys ((zs.take k).drop k)) (pts 0 (zs.take k)) from ⟨F3, by
        rw [List.drop_of_length_le (by rw [HLEN.out]; omega)]
        exact h3, f3, g3⟩)
      clear h3 g3 f3 hde HBB R2 R3
      go_wp2_with fail
      refine HDE.out.mono ?_
      rintro e w4 ⟨rfl, rfl⟩
      clear HDE H3
      go_wp2_with fail
      go_loopw [85] (fun v wr => ∃ i j : Nat, i + j = k ∧ v = .int .i64 j ∧ Hid (PtRel w wr p (hd (zs.take i) ++ full ys ((zs.take k).drop i)) (pts 0 (zs.take i)))) (fun v _ => k - (intOf v).toNat)
      case atStart => exact ⟨k, 0, by omega, rfl, HR3⟩
      case round =>
        obtain ⟨i, j, hij, rfl, R⟩ := hrel
        by_cases hlt : j < k
        · obtain ⟨i, rfl⟩ : ∃ i', i = i' + 1 := ⟨i - 1, by omega⟩
          obtain ⟨F, r1, r2, r3⟩ := R.out
          have hfl := full_le ys ((zs.take k).drop (i + 1))
          rw [List.length_drop, HLEN.out, HYL.out] at hfl
          have hgd : (zs.take k).getD i 0 = zs.getD i 0 := by simp [List.getD, List.getElem?_take_of_lt (show i < k from by omega)]
          have htk := take_snoc_int zs i (by omega)
          have hdr := drop_cons_int (zs.take k) i (by rw [HLEN.out]; omega)
          rw [hgd] at hdr
          have hzb := sz_bd (zs.getD i 0)
          have hpw : 256 ^ 1 ≤ 256 ^ sz (zs.getD i 0) := Nat.pow_le_pow_right (by decide) hzb.1
          obtain ⟨q1, q2, q3⟩ := close_last ys (zs.take i) ((zs.take k).drop (i + 1)) (zs.getD i 0) (by omega)
          rw [← htk] at q1 q2 q3
          rw [← hdr] at q2
          have hcl := bclose_any wr F p 65536 _ _ r1
          rw [q1, q3] at hcl
          have hfl2 := full_le ys ((zs.take k).drop i)
          rw [List.length_drop, HLEN.out, HYL.out] at hfl2
          have hhi := hd_le (zs.take i)
          have hti : (zs.take i).length ≤ i := List.length_take_le _ _
          have hxl : (clX (hd (zs.take (i + 1)) ++ full ys ((zs.take k).drop (i + 1))) (pts 0 (zs.take (i + 1)))).length + 1 ≤ 65536 := by
            have := congrArg List.length q2
            simp only [List.length_append, List.length_singleton] at this
            omega
          generalize clX (hd (zs.take (i + 1)) ++ full ys ((zs.take k).drop (i + 1))) (pts 0 (zs.take (i + 1))) = X at *
          have HCL := Lib.hid hcl
          have HX := Lib.hid q2
          have R2 := Lib.hid r2
          have R3 := Lib.hid r3
          clear r1 r2 r3 R hgd htk hdr q1 q2 q3 hcl
          go_wp2_with fail
          refine HCL.out.mono ?_
          rintro e w5 ⟨rfl, h5⟩
          obtain ⟨F5, h5, g5, f5, _⟩ := h5.grew R3.out R2.out
          have hbB := ByF.of_whole (k := 0) (Whole.new w5 #[.int .u8 77] 5) (ys := [77]) rfl
          have hbb := bbytes_any _ F5 p 65536 _ _ (h5.fr ((Fr.refl w5 (fun _ => False)).alloc (.cells #[.int .u8 77] 5)) (fun _ _ h => h)) _ _ [77] 1 hbB
          rw [show adE 65536 X.length [(77 : UInt8)].length = 0 from by unfold adE; rw [if_neg (by simp; omega)], show adX 65536 X [77] = X ++ [77] from by unfold adX; rw [if_neg (by simp; omega)], HX.out] at hbb
          have HBB := Lib.hid hbb
          have G5 := Lib.hid (grew_alloc g5 (.cells #[.int .u8 77] 5))
          have FF5 := Lib.hid f5
          clear h5 f5 g5 hbB hbb HCL HX R2 R3
          go_wp2_with fail
          refine HBB.out.mono ?_
          rintro e w6 ⟨rfl, h6⟩
          obtain ⟨F6, h6, g6, f6, _⟩ := h6.grew G5.out FF5.out
          have HR6 := Lib.hid (show PtRel w w6 p (hd (zs.take i) ++ full ys ((zs.take k).drop i)) (pts 0 (zs.take i)) from ⟨F6, h6, f6, g6⟩)
          clear h6 g6 f6 HBB G5 FF5
          go_wp2_with fail
          go_roundw
          case rel => exact ⟨i, j + 1, by omega, by go_num, HR6⟩
          case measure => simp [intOf]; omega
        · obtain rfl : i = 0 := by omega
          obtain rfl : j = k := by omega
          obtain ⟨F, r1, r2, r3⟩ := R.out
          rw [List.drop_zero, List.take_zero, show hd [] = [] from rfl, List.nil_append, show pts 0 [] = [] from rfl] at r1
          have hxl := full_le ys (zs.take j)
          rw [HLEN.out, HYL.out] at hxl
          have R1 := Lib.hid r1
          have R3 := Lib.hid r3
          clear r1 r2 r3 R HR3 hlt hij h3
          go_wp2_with fail
          refine (bdone_ok wr F p 65536 (full ys (zs.take j)) R1.out).mono ?_
          rintro e w5 ⟨rfl, b5, g5, l5⟩
          have hcn := cr_new w5 (some ⟨wr.heap.size, 0, none⟩) (full ys (zs.take j)).length (full ys (zs.take j)) 0 (Nat.le_refl _) (by omega) (wr.heap.size + 1) (fun hn => by obtain ⟨b, o, e, hb, hcell⟩ := b5 hn; exact ⟨b, o, e, by omega, hcell⟩) (by omega) (by omega) (by omega)
          have HCN := Lib.hid hcn
          have g6 := grew_trans R3.out g5
          clear hcn b5 g5 R1 R3
          go_wp2_with fail
          refine HCN.out.mono ?_
          rintro e w6 ⟨rfl, h6, g7⟩
          have hq6 : w.heap.size ≤ w5.heap.size := g6.size
          have HR6 := Lib.hid (show PtRead w w6 w5.heap.size wr.heap.size (full ys ((zs.take j).drop 0)) from ⟨hq6, ⟨0, by rw [List.drop_zero]; exact h6⟩, grew_trans g6 g7⟩)
          generalize w5.heap.size = q at *
          generalize wr.heap.size = d at *
          clear h6 g7 g6 HCN
          go_wp2_with fail
          go_loopw [12, 118] (fun cp v wr => ∃ k q : Nat, k ≤ j ∧ v = .int .i64 k ∧ cp = .pointer (some ⟨q, 0, none⟩) ∧ Hid (PtRead w wr q d (full ys ((zs.take j).drop k)))) (fun _ v _ => j - (intOf v).toNat)
          case atStart => exact ⟨0, q, Nat.zero_le _, rfl, rfl, HR6⟩
          case round =>
            obtain ⟨k, q2, hk, rfl, rfl, S⟩ := hrel
            by_cases hlt : k < j
            · obtain ⟨s0, ⟨pl, s1⟩, s2⟩ := S.out
              obtain ⟨b, o, rfl, hbl, hcell⟩ := HZ.out (by omega)
              have hck := s2.cell (hcell k (by omega)) (by simp)
              have hgd : (zs.take j).getD k 0 = zs.getD k 0 := by simp [List.getD, List.getElem?_take_of_lt hlt]
              have hdr := drop_cons_int (zs.take j) k (by rw [HLEN.out]; omega)
              rw [hgd] at hdr
              rw [hdr, full] at s1
              have hfl := full_le ys ((zs.take j).drop (k + 1))
              rw [List.length_drop, HLEN.out, HYL.out] at hfl
              generalize hY : full ys ((zs.take j).drop (k + 1)) = Y at *
              have HY := Lib.hid hY
              clear hY
              generalize zs.getD k 0 = z at *
              have hcb := cb_nat z
              obtain ⟨t, ht, ht2, hsz⟩ := sz_form z
              have hpw : 256 ^ 1 ≤ 256 ^ (1 + t) := Nat.pow_le_pow_right (by decide) (by omega)
              rw [hsz] at s1
              have S2 := Lib.hid s2
              have hc1 := cr_number wr q2 (d + 1) _ pl s1 1 (by unfold sizeOk; omega) (by simp)
              rw [show (cb z :: (be (1 + t) Y.length ++ (Y ++ [77]))).take 1 = [cb z] from rfl, show (cb z :: (be (1 + t) Y.length ++ (Y ++ [77]))).drop 1 = be (1 + t) Y.length ++ (Y ++ [77]) from rfl,
                show num [cb z] = (cb z).toNat from by simp [num], show ((1 : Nat) : Int) = 1 from rfl, hcb] at hc1
              have HC1 := Lib.hid hc1
              clear s1 s2 hc1 hcell hgd hdr S hsz
              go_wp2_with fail
              refine HC1.out.mono ?_
              rintro e w7 ⟨rfl, h7, g7, z7⟩
              have hc2 := cr_number w7 q2 (d + 1) _ _ h7 (1 + t) (by unfold sizeOk; omega) (by simp [be_length])
              rw [List.take_left' (be_length _ _), List.drop_left' (be_length _ _), num_be_lt _ _ (by omega), show ((1 + t : Nat) : Int) = 1 + (t : Int) from by omega] at hc2
              have HC2 := Lib.hid hc2
              have G7 := Lib.hid (grew_own S2.out g7 s0)
              clear h7 g7 z7 hc2 HC1 S2
              go_wp2_with fail
              refine HC2.out.mono ?_
              rintro e w8 ⟨rfl, h8, g8, z8⟩
              have hc3 := cr_sub w8 q2 (d + 1) _ _ h8 Y.length (by simp)
              rw [List.take_left, List.drop_left] at hc3
              have HC3 := Lib.hid hc3
              have G8 := Lib.hid (grew_own G7.out g8 s0)
              have hq8 := h8.lt
              have hmod : (Y.length : Int) % 16777216 = Y.length := by omega
              clear h8 g8 z8 hc3 HC2 G7
              go_wp2_with fail
              refine HC3.out.mono ?_
              rintro e w9 ⟨rfl, h9, k9, g9, z9⟩
              have G9 := Lib.hid (grew_own G8.out g9 s0)
              have hc4 := cr_number w9 q2 (d + 1) _ _ h9 1 (by unfold sizeOk; omega) (by simp)
              rw [show ([77] : List UInt8).take 1 = [77] from rfl, show ([77] : List UInt8).drop 1 = [] from rfl, show num [77] = 77 from rfl, show ((1 : Nat) : Int) = 1 from rfl] at hc4
              have HC4 := Lib.hid hc4
              have K9 := Lib.hid k9
              have hsz8 := G8.out.size
              generalize w8.heap.size = q3 at *
              clear h9 k9 g9 z9 hc4 HC3 G8 hmod
              go_wp2_with fail
              refine HC4.out.mono ?_
              rintro e w10 ⟨rfl, h10, g10, z10⟩
              have HR10 := Lib.hid (show PtRead w w10 q3 d Y from ⟨by omega, ⟨_, K9.out.grew g10 (by simp; omega) (fun k hk => by cases hk; exact h10.1)⟩, grew_own G9.out g10 s0⟩)
              have HC5 := Lib.hid (cr_left w10 q2 (d + 1) _ _ h10)
              clear h10 g10 z10 HC4 K9 G9
              go_wp2_with fail
              refine HC5.out.mono ?_
              rintro e w11 ⟨rfl, rfl⟩
              simp only [List.length_nil]
              clear HC5 ht hcb
              go_wp2_with fail
              go_roundw
              case rel => exact ⟨k + 1, q3, by omega, by go_num, rfl, by rw [HY.out]; exact HR10⟩
              case measure => simp [intOf]; omega
            · obtain rfl : k = j := by omega
              obtain ⟨s0, ⟨pl, s1⟩, s2⟩ := S.out
              rw [List.drop_of_length_le (by rw [HLEN.out]; omega), full] at s1
              have hcl := cr_left wr q2 (d + 1) ys pl s1
              have hct := cr_take wr q2 (d + 1) ys pl s1 ys.length (Nat.le_refl _)
              rw [List.take_length] at hct
              rw [HYL.out] at hcl hct
              have HCL := Lib.hid hcl
              have HCT := Lib.hid hct
              have S2 := Lib.hid s2
              have hbys := (HB.out.grew s2 (fun _ h => by cases h)).take L
              rw [HYS.out] at hbys
              have HBY := Lib.hid hbys
              clear s1 s2 hcl hct hbys S
              go_wp2_with fail
              refine HCL.out.mono ?_
              rintro e w7 ⟨rfl, rfl⟩
              go_wp2_with fail
              refine HCT.out.mono ?_
              rintro e w8 ⟨rfl, h8, b8, g8, _⟩
              have cv1 := conv_txt w8 Try.underlying32 Try.underlying5 Try.underlying9 b8 HYL.out.symm L
              have cv2 := conv_txt w8 Try.underlying32 Try.underlying5 Try.underlying9 (HBY.out.grew g8 (fun k h => by cases h; exact s0)) HYL.out.symm c
              have hfin := grew_own S2.out g8 s0
              generalize txt ys = T at *
              clear h8 b8 g8 HBY
              go_wp2_with fail
              go_ret
              exact ⟨rfl, grew_below hfin (Nat.le_refl _) (fun _ h => by cases h)⟩

set_option maxRecDepth 100000 in
theorem builderParts_lifted (os : Os) (started : os.Started) (H : Type) (enc : TypeId × Value → H) :
    ReturnsInHanded {} Try.checked os 6 .any (Rows.builderPartsSpec.pre6 enc Try.prog Try.f6 Rows.builderPartsRow.domain false) (Rows.builderPartsSpec.post enc Try.prog Try.f6 false true false false) := by
  refine returnsInHanded_of_change_sized (C := Try.checked) own started (by kernel_rfl) Try.func6
    (ChangeSpec.witness6 (enc := enc) (C := Try.checked) false ⟨#[], #[.slice none 0 0, .slice none 0 0], []⟩ 8 (by kernel_rfl) (by kernel_rfl) (by kernel_rfl) (by kernel_rfl)) ?_
  intro W base args ds gs before hval0 hW hcnd hsz0 _
  have hval : ∀ (j : Nat) t v, Try.f6.params[j]? = some t → args[j]? = some v → Value.okWide Try.prog W .any base t v := hval0
  have hsz : (DataW.weightsEach Try.prog (Try.f6.params.toList ++ Rows.builderPartsSpec.plain.varTypes Try.prog) (ds ++ gs)).all (· ≤ reachBytes) = true := hsz0
  have hW' := hW
  obtain ⟨p, q, hA0, hV, rfl, hfz, hnd⟩ := hW
  have hA : DataW.TrodAll enc Try.prog W 0 (fun _ => true) true Try.f6.params.toList args.toList ds p := hA0
  rw [Try.params6] at hA hval hsz
  obtain ⟨v0, vs0, d0, ds0, p0, q0, hargs, rfl, rfl, h0, r0⟩ := trodAll_cons hA
  obtain ⟨v1, vs1, d1, ds1, p1, q1, rfl, rfl, rfl, h1, r1⟩ := trodAll_cons r0
  obtain ⟨rfl, rfl, rfl⟩ := trodAll_nil r1
  obtain rfl : args = #[v0, v1] := by cases args; simp_all
  obtain ⟨rfl, rfl⟩ := trodVars_none hV
  have k0 := h0
  have lt0 : ∀ x ∈ p0, x.block < W.heap.size := by obtain ⟨m, hm⟩ := k0; exact DataW.trod_lt m _ _ _ hm
  obtain ⟨A0, c0, x0, rfl, l0, m0, b0, w0⟩ := arg_ints (hval 0 39 v0 rfl rfl) h0 hsz (j := 0) rfl rfl
  have k1 := h1
  have lt1 : ∀ x ∈ p1, x.block < W.heap.size := by obtain ⟨m, hm⟩ := k1; exact DataW.trod_lt m _ _ _ hm
  obtain ⟨A1, c1, x1, rfl, l1, m1, b1⟩ := arg_bytes (hval 1 32 v1 rfl rfl) h1 hsz (j := 1) rfl rfl
  clear hA0 hval0 hsz0
  refine (builderParts_walk W A0 c0 x0 l0 m0 b0 w0 A1 c1 x1 l1 m1 b1).mono fun e W' ⟨he, bel⟩ => ?_
  subst he
  exact ⟨_, rfl, _, _, _, [], _, [], hW', trodAll_mk1 (shut_bool Try.underlying4 _), (trodAll_cons_mk (Below.trod laidOut (by kernel_rfl) (of_decide_eq_true (by kernel_rfl)) k0 bel lt0) (trodAll_cons_mk (Below.trod laidOut (by kernel_rfl) (of_decide_eq_true (by kernel_rfl)) k1 bel lt1) trodAll_mk0)), rfl, bel.frame _, fun h => by cases h⟩

theorem builderParts_over : Rows.builderPartsRow.holds Try.pinned (OpenSpec.ofChange Rows.builderPartsSpec) :=
  OpenClaim.holds_of_wide 6 Try.f6 rfl rfl rfl rfl rfl rfl rfl ⟨rfl, rfl, rfl, rfl, rfl⟩ rfl rfl rfl rfl rfl (by kernel_rfl) Try.func6 (by kernel_rfl)
    (of_decide_eq_true (by kernel_rfl)) (by unfold Func.isWrapper; first | (rw [if_pos (by decide +kernel)]; kernel_rfl) | (rw [if_neg (by decide +kernel)]; exact ⟨rfl, rfl⟩))
    (fun os started H enc _ => builderParts_lifted os started H enc)

theorem builderParts_holds : Rows.BuilderPartsSaid := builderParts_over
#print axioms builderParts_holds
end Go.Proofs.Ytkeiamihgcbcbaa

