/- Each answer is the document's, and where the cursor is: for every bytes, every number and every acts the law returns true, and all read as they did. No condition. -/
import Derived.Test.YthdgfhjehijmoaaPlace
import Derived.Test.YthdgfhjehijmoaaRef
import Derived.Test.YthdgfhjehijmoaaActs
namespace Go.Proofs.Ythdgfhjehijmoaa
open Go.ChangeShapes Go.WideShapes Go.ChangeAt Go.RowKit

set_option maxRecDepth 100000 in
set_option maxHeartbeats 4000000 in
theorem cursorActs_long (w : World) (A : Option Addr) (c : Nat) (xs : List UInt8) (a : Int)
    (A1 : Option Addr) (c1 : Nat) (zs : List (Int × Int)) (hbig : 200 < zs.length) :
    Calls Try.prog 3 #[.slice A xs.length c, .int .i64 a, .slice A1 zs.length c1] w fun e w' => e = .returned (.bool true) ∧ Below w.heap.size w w' := by
  go_enter Try.func3, Try.ntmps3
  go_wp2_with fail
  refine (alive_any w).mono ?_
  rintro e w1 ⟨rfl, g1⟩
  go_wp2_with fail
  refine (alive_any w1).mono ?_
  rintro e w2 ⟨rfl, g2⟩
  go_wp2_with fail
  go_ret
  exact ⟨rfl, grew_below (grew_trans g1 g2) (Nat.le_refl _) (fun _ h => by cases h)⟩

set_option maxRecDepth 100000 in
set_option maxHeartbeats 8000000 in
theorem cursorActs_walk (w : World) (A : Option Addr) (c : Nat) (xs : List UInt8) (hl : xs.length ≤ c) (hc : c ≤ 140737488351232) (hb : Byt w w.heap.size A xs) (a : Int) (_ : (Lit.int .i64 a).wf = true)
    (A1 : Option Addr) (c1 : Nat) (zs : List (Int × Int)) (_hl1 : zs.length ≤ c1) (_hc1 : c1 ≤ 140737488351232) (hz : Acts w A1 zs) (_ : ∀ z ∈ zs, (Lit.int .i64 z.1).wf = true ∧ (Lit.int .i64 z.2).wf = true) :
    Calls Try.prog 3 #[.slice A xs.length c, .int .i64 a, .slice A1 zs.length c1] w fun e w' => e = .returned (.bool true) ∧ Below w.heap.size w w' := by
  by_cases hbig : 200 < zs.length
  · exact cursorActs_long w A c xs a A1 c1 zs hbig
  have Hb := Lib.hid hb
  have Hz := Lib.hid hz
  clear hb hz
  have hdec : decide ((200 : Int) < (zs.length : Int)) = false := by simp; omega
  go_enter Try.func3, Try.ntmps3
  go_wp2_with fail
  refine (alive_any w).mono ?_
  rintro e w1 ⟨rfl, g1⟩
  go_wp2_with fail
  refine (place_any w1 a).mono ?_
  rintro e w2 ⟨rfl, rfl⟩
  have hpl := plc_bd a
  generalize plc a = q at *
  have hw1 := g1.size
  go_wp2_with fail
  refine (cr_new w1 A c xs q hl hc w.heap.size (Hb.out.grew g1 (fun _ h => by cases h)) hw1 (by omega) (by omega)).mono ?_
  rintro e w2 ⟨rfl, h2, g2⟩
  have l2 := h2.lt
  have H2 := Lib.hid (h2.grew (grew_alloc (grew_refl w2 none) (.cells #[.slice A xs.length c, .int .i64 q, .int .i64 0] 30)) (by simp) (fun _ h => by cases h))
  have Hg2 := Lib.hid (grew_alloc (grew_trans g1 g2) (.cells #[.slice A xs.length c, .int .i64 q, .int .i64 0] 30))
  have H3 := Lib.hid (show Rc (w2.alloc (.cells #[.slice A xs.length c, .int .i64 q, .int .i64 0] 30)) w2.heap.size w.heap.size xs q 0 from
    ⟨by omega, Nat.zero_le _, A, c, Whole.new _ _ _, hl, hc, Hb.out.grew Hg2.out (fun _ h => by cases h)⟩)
  clear h2 g1 g2
  go_wp2_with fail
  generalize w2.alloc (.cells #[.slice A xs.length c, .int .i64 q, .int .i64 0] 30) = w3 at *
  generalize w1.heap.size = r at *
  generalize w2.heap.size = t at *
  generalize hp : w.heap.size = p at *
  have Hp := Lib.hid hp
  clear hp
  go_loopw [47] (fun j wr => ∃ i k : Nat, k ≤ zs.length ∧ i ≤ xs.length ∧ j = .int .i64 k ∧ Hid (Cr wr r p (xs.drop i) (q + i)) ∧ Hid (Rc wr t p xs q i) ∧ Hid (Grew w wr none)) (fun j _ => zs.length - (intOf j).toNat)
  case atStart => exact ⟨0, 0, Nat.zero_le _, Nat.zero_le _, rfl, by simpa using H2, H3, Hg2⟩
  case round =>
    obtain ⟨i, k, hk, hi, rfl, R1, R2, R3⟩ := hrel
    by_cases hlt : k < zs.length
    · obtain ⟨b, o, rfl, _, hcell⟩ := Hz.out (by omega)
      obtain ⟨hc0, hc1'⟩ := hcell k hlt
      have hck := R3.out.cell hc0 (by simp)
      have hcn := R3.out.cell hc1' (by simp)
      clear hcell hc0 hc1'
      generalize (zs.getD k (0, 0)).1 = kd at *
      generalize (zs.getD k (0, 0)).2 = n at *
      have lr := R1.out.lt
      have lt := R2.out.lt
      have R1' := Lib.hid (R1.out.grew (grew_alloc (grew_refl wr none) (.cells #[.int .i64 kd, .int .i64 n] 32)) (by simp) (fun _ h => by cases h))
      have R2' := Lib.hid (R2.out.grew (grew_alloc (grew_refl wr none) (.cells #[.int .i64 kd, .int .i64 n] 32)) (by simp) (fun _ h => by cases h))
      have R3' := Lib.hid (grew_alloc R3.out (.cells #[.int .i64 kd, .int .i64 n] 32))
      have R4' := Lib.hid (Whole.new wr #[.int .i64 kd, .int .i64 n] 32)
      have hyl : (xs.drop i).length = xs.length - i := List.length_drop
      have HYL := Lib.hid hyl
      clear hyl R1 R2 R3
      by_cases k0 : kd = 0
      · subst k0
        have hM := nmM_le (xs.length - i) n
        go_wp2_with fail
        generalize wr.alloc (.cells #[.int .i64 0, .int .i64 n] 32) = W1 at *
        generalize wr.heap.size = z at *
        refine (cr_number_all W1 r p _ _ R1'.out n).mono ?_
        rintro e w4 ⟨rfl, h4, g4⟩
        rw [HYL.out] at h4 ⊢
        have h4' := R4'.out.grew g4 (by simp; omega)
        have hn4 := h4'.cell 1
        simp at hn4
        have hc2 := rc_number_all w4 t p _ _ _ (R2'.out.grew g4 (by simp; omega) (fun _ h => by cases h; omega)) n
        have Hc2 := Lib.hid hc2
        have H4 := Lib.hid h4
        have G4 := Lib.hid (grew_own R3'.out g4 (by have := Hp.out; omega))
        clear h4 hc2 h4' g4
        generalize nmX (xs.drop i) n = X at *
        generalize nmE (xs.length - i) n = E at *
        generalize nmM (xs.length - i) n = M at *
        go_wp2_with fail
        refine Hc2.out.mono ?_
        rintro e w5 ⟨rfl, h5, g5⟩
        have H5 := Lib.hid h5
        have H5' := Lib.hid (H4.out.grew g5 (by simp; omega) (fun _ h => by cases h; omega))
        have G5 := Lib.hid (grew_own G4.out g5 (by have := Hp.out; omega))
        clear h5 g5 H4 G4 Hc2 hn4 R1' R2' R3' R4'
        go_wp2_with fail
        obtain ⟨J, hJ⟩ : ∃ J, J = i + M := ⟨_, rfl⟩
        have hJl : J ≤ xs.length := by omega
        have h6 := H5'.out
        have h7 := H5.out
        rw [List.drop_drop, show (q + (i : Int) + M) = q + J from by omega, ← hJ] at h6
        rw [← hJ] at h7
        have eJ : (xs.drop J).length = xs.length - J := List.length_drop
        have hm2 : w5.cell? ⟨t, 2, none⟩ = some (.int .i64 J) := by
          obtain ⟨_, _, A', c', h, _⟩ := h7
          have := h.cell 2
          simpa using this
        have cat := fun m => cr_at (w5.drewN m) r p _ _ (h6.drewN m)
        have cle := fun m => cr_left (w5.drewN m) r p _ _ (h6.drewN m)
        have cen := fun m => cr_end (w5.drewN m) r p _ _ (h6.drewN m)
        rw [eJ, show ((xs.length - J : Nat) : Int) = (xs.length : Int) - J from by omega] at cle
        rw [eJ, show (q + (J : Int) + ((xs.length - J : Nat) : Int)) = q + xs.length from by omega] at cen
        have C1 := Lib.hid cat
        have C2 := Lib.hid cle
        have C3 := Lib.hid cen
        have H6 := Lib.hid h6
        have H7 := Lib.hid h7
        have v1 : IntKind.i64.wrap (q + J) = q + J := IntWalk.i64_in _ (by omega)
        have v2 : IntKind.i64.wrap ((xs.length : Int) - J) = (xs.length : Int) - J := IntWalk.i64_in _ (by omega)
        have v3 : IntKind.i64.wrap (q + xs.length) = q + xs.length := IntWalk.i64_in _ (by omega)
        clear cat cle cen h6 h7 hJ eJ H5 H5'
        go_quiet (first | (go_at_call 17; exact quiet_same (C1.out _)) | (go_at_call 19; exact quiet_same (C2.out _)) | (go_at_call 18; exact Calls.quiet_of (C3.out _)))
        clear v1 v2 v3
        go_wp2_with fail
        go_roundw
        case rel => exact ⟨J, k + 1, by omega, hJl, by go_num, H6, H7, grew_drewN G5.out _⟩
        case measure => simp [intOf]; omega
      · have hk0 : (kd == 0) = false := by simpa using k0
        by_cases k1 : kd = 1
        · subst k1
          clear hk0 k0
          have hM := tkM_le (xs.length - i) n
          go_wp2_with fail
          generalize wr.alloc (.cells #[.int .i64 1, .int .i64 n] 32) = W1 at *
          generalize wr.heap.size = z at *
          refine (cr_take_all W1 r p _ _ R1'.out n).mono ?_
          rintro e w4 ⟨A2, rfl, h4, b4, f4, g4⟩
          rw [HYL.out] at h4 b4 ⊢
          have h4' := R4'.out.grew g4 (by simp; omega)
          have hn4 := h4'.cell 1
          simp at hn4
          have lz : z < W1.heap.size := R4'.out.lt
          have hc2 := rc_take_all w4 t p _ _ _ (R2'.out.grew g4 (by simp; omega) (fun _ h => by cases h; omega)) n
          have Hc2 := Lib.hid hc2
          have H4 := Lib.hid h4
          have B4 := Lib.hid b4
          have F4 := Lib.hid f4
          have G4 := Lib.hid (grew_own R3'.out g4 (by have := Hp.out; omega))
          clear h4 hc2 h4' g4 b4 f4
          generalize tkE (xs.length - i) n = E at *
          generalize tkM (xs.length - i) n = M at *
          have e1 : ((xs.drop i).take M).length = M := by rw [List.length_take, HYL.out]; omega
          go_wp2_with fail
          refine Hc2.out.mono ?_
          rintro e w5 ⟨A3, c3, rfl, h5, b5, l5, g5⟩
          have H5 := Lib.hid h5
          have H5' := Lib.hid (H4.out.grew g5 (by simp; omega) (fun _ h => by cases h; omega))
          have G5 := Lib.hid (grew_own G4.out g5 (by have := Hp.out; omega))
          have c4 : (convert 22 9 (.slice A2 M M)).run Try.prog w5 = .ok (.string (txt ((xs.drop i).take M))) w5 :=
            conv_txt w5 Try.underlying22 Try.underlying5 Try.underlying9 (B4.out.far F4.out g5 (by simp; omega)) e1.symm M
          have c5 : (convert 22 9 (.slice A3 M c3)).run Try.prog w5 = .ok (.string (txt ((xs.drop i).take M))) w5 :=
            conv_txt w5 Try.underlying22 Try.underlying5 Try.underlying9 b5 e1.symm c3
          generalize txt ((xs.drop i).take M) = T at *
          clear h5 g5 H4 G4 Hc2 hn4 R1' R2' R3' R4' b5 B4 F4 e1
          go_wp2_with fail
          clear c4 c5
          obtain ⟨J, hJ⟩ : ∃ J, J = i + M := ⟨_, rfl⟩
          have hJl : J ≤ xs.length := by omega
          have h6 := H5'.out
          have h7 := H5.out
          rw [List.drop_drop, show (q + (i : Int) + M) = q + J from by omega, ← hJ] at h6
          rw [← hJ] at h7
          have eJ : (xs.drop J).length = xs.length - J := List.length_drop
          have hm2 : w5.cell? ⟨t, 2, none⟩ = some (.int .i64 J) := by
            obtain ⟨_, _, A', c', h, _⟩ := h7
            have := h.cell 2
            simpa using this
          have cat := fun m => cr_at (w5.drewN m) r p _ _ (h6.drewN m)
          have cle := fun m => cr_left (w5.drewN m) r p _ _ (h6.drewN m)
          have cen := fun m => cr_end (w5.drewN m) r p _ _ (h6.drewN m)
          rw [eJ, show ((xs.length - J : Nat) : Int) = (xs.length : Int) - J from by omega] at cle
          rw [eJ, show (q + (J : Int) + ((xs.length - J : Nat) : Int)) = q + xs.length from by omega] at cen
          have C1 := Lib.hid cat
          have C2 := Lib.hid cle
          have C3 := Lib.hid cen
          have H6 := Lib.hid h6
          have H7 := Lib.hid h7
          have v1 : IntKind.i64.wrap (q + J) = q + J := IntWalk.i64_in _ (by omega)
          have v2 : IntKind.i64.wrap ((xs.length : Int) - J) = (xs.length : Int) - J := IntWalk.i64_in _ (by omega)
          have v3 : IntKind.i64.wrap (q + xs.length) = q + xs.length := IntWalk.i64_in _ (by omega)
          clear cat cle cen h6 h7 hJ eJ H5 H5'
          go_quiet (first | (go_at_call 17; exact quiet_same (C1.out _)) | (go_at_call 19; exact quiet_same (C2.out _)) | (go_at_call 18; exact Calls.quiet_of (C3.out _)))
          clear v1 v2 v3
          go_wp2_with fail
          go_roundw
          case rel => exact ⟨J, k + 1, by omega, hJl, by go_num, H6, H7, grew_drewN G5.out _⟩
          case measure => simp [intOf]; omega
        · have hk1 : (kd == 1) = false := by simpa using k1
          by_cases k2 : kd = 2
          · subst k2
            clear hk0 k0 hk1 k1
            have hM := tkM_le (xs.length - i) n
            have hI : (wr.alloc (.cells #[.int .i64 2, .int .i64 n] 32)).cell? ⟨t, 2, none⟩ = some (.int .i64 i) := by
              obtain ⟨_, _, A', c', h, _⟩ := R2'.out
              have := h.cell 2
              simpa using this
            go_wp2_with fail
            generalize wr.alloc (.cells #[.int .i64 2, .int .i64 n] 32) = W1 at *
            generalize wr.heap.size = z at *
            clear hI
            refine (cr_sub_all W1 r p _ _ R1'.out n).mono ?_
            rintro e w4 ⟨S, rfl, h4, g4, hno, hyes⟩
            rw [HYL.out] at h4 hno hyes ⊢
            have h4' := R4'.out.grew g4 (by simp; omega)
            have hn4 := h4'.cell 1
            simp at hn4
            have lz : z < W1.heap.size := R4'.out.lt
            have hc2 := rc_take_all w4 t p _ _ _ (R2'.out.grew g4 (by simp; omega) (fun _ h => by cases h; omega)) n
            have Hc2 := Lib.hid hc2
            have H4 := Lib.hid h4
            have Hno := Lib.hid hno
            have Hyes := Lib.hid hyes
            have G4 := Lib.hid (grew_own R3'.out g4 (by have := Hp.out; omega))
            clear h4 hc2 h4' g4 hno hyes
            generalize tkE (xs.length - i) n = E at *
            generalize tkM (xs.length - i) n = M at *
            have e1 : ((xs.drop i).take M).length = M := by rw [List.length_take, HYL.out]; omega
            have E1 := Lib.hid e1
            clear e1
            by_cases hE : E = 0
            · obtain ⟨rfl, h4s⟩ := Hyes.out hE
              subst hE
              have H4s := Lib.hid h4s
              clear h4s Hyes Hno
              generalize W1.heap.size = sp at *
              go_wp2_with fail
              refine Hc2.out.mono ?_
              rintro e w5 ⟨A3, c3, rfl, h5, b5, l5, g5⟩
              have H5a := Lib.hid h5
              have H5b := Lib.hid (H4.out.grew g5 (by simp; omega) (fun _ h => by cases h; omega))
              have H5s := Lib.hid (H4s.out.grew g5 (by simp; omega) (fun _ h => by cases h; omega))
              have G5a := Lib.hid (grew_own G4.out g5 (by have := Hp.out; omega))
              have B5 := Lib.hid b5
              have hce := cr_end w5 sp p _ _ H5s.out
              have hcl := fun m => cr_left (w5.drewN m) sp p _ _ (H5s.out.drewN m)
              have hct := fun m => cr_take (w5.drewN m) sp p _ _ (H5s.out.drewN m) M (by rw [E1.out]; omega)
              rw [E1.out] at hce hcl
              have CE := Lib.hid hce
              have CL := Lib.hid hcl
              have CT := Lib.hid hct
              clear h5 g5 H4 G4 Hc2 hn4 R1' R2' R3' R4' b5 hce hcl hct H4s
              have hqi : q + (i : Int) + M ≤ 4611686018427387904 := by omega
              go_wp2_with fail
              refine (cr_at w5 sp p _ _ H5s.out).mono ?_
              rintro e w6 ⟨rfl, rfl⟩
              go_wp2_with fail
              refine CE.out.mono ?_
              rintro e w6 ⟨rfl, m1, rfl⟩
              go_wp2_with fail
              refine (CL.out m1).mono ?_
              rintro e w6 ⟨rfl, rfl⟩
              go_wp2_with fail
              refine (CT.out m1).mono ?_
              rintro e w6 ⟨rfl, h6, b6, g6, s6⟩
              have e7 : List.take M ((xs.drop i).take M) = (xs.drop i).take M := List.take_of_length_le (by rw [E1.out]; omega)
              rw [e7] at b6
              have c4 : (convert 22 9 (.slice (some ⟨w5.heap.size, 0, none⟩) M M)).run Try.prog w6 = .ok (.string (txt ((xs.drop i).take M))) w6 :=
                conv_txt w6 Try.underlying22 Try.underlying5 Try.underlying9 b6 E1.out.symm M
              have c5 : (convert 22 9 (.slice A3 M c3)).run Try.prog w6 = .ok (.string (txt ((xs.drop i).take M))) w6 :=
                conv_txt w6 Try.underlying22 Try.underlying5 Try.underlying9 (Byt.grew (w := w5.drewN m1) B5.out g6 (fun _ h => by cases h; omega)) E1.out.symm c3
              have H5 := Lib.hid ((H5a.out.drewN m1).grew g6 (by simp; omega) (fun _ h => by cases h; omega))
              have H5' := Lib.hid ((H5b.out.drewN m1).grew g6 (by simp; omega) (fun _ h => by cases h; omega))
              have G5 := Lib.hid (grew_own (grew_drewN G5a.out m1) g6 (by have := Hp.out; omega))
              generalize txt ((xs.drop i).take M) = T at *
              clear h6 b6 g6 e7 H5a H5b H5s G5a B5 CE CL CT hqi
              go_wp2_with fail
              clear c4 c5
              obtain ⟨J, hJ⟩ : ∃ J, J = i + M := ⟨_, rfl⟩
              have hJl : J ≤ xs.length := by omega
              have h6 := H5'.out
              have h7 := H5.out
              rw [List.drop_drop, show (q + (i : Int) + M) = q + J from by omega, ← hJ] at h6
              rw [← hJ] at h7
              have eJ : (xs.drop J).length = xs.length - J := List.length_drop
              have hm2 : w6.cell? ⟨t, 2, none⟩ = some (.int .i64 J) := by
                obtain ⟨_, _, A', c', h, _⟩ := h7
                have := h.cell 2
                simpa using this
              have cat := fun m => cr_at (w6.drewN m) r p _ _ (h6.drewN m)
              have cle := fun m => cr_left (w6.drewN m) r p _ _ (h6.drewN m)
              have cen := fun m => cr_end (w6.drewN m) r p _ _ (h6.drewN m)
              rw [eJ, show ((xs.length - J : Nat) : Int) = (xs.length : Int) - J from by omega] at cle
              rw [eJ, show (q + (J : Int) + ((xs.length - J : Nat) : Int)) = q + xs.length from by omega] at cen
              have C1 := Lib.hid cat
              have C2 := Lib.hid cle
              have C3 := Lib.hid cen
              have H6 := Lib.hid h6
              have H7 := Lib.hid h7
              have v1 : IntKind.i64.wrap (q + J) = q + J := IntWalk.i64_in _ (by omega)
              have v2 : IntKind.i64.wrap ((xs.length : Int) - J) = (xs.length : Int) - J := IntWalk.i64_in _ (by omega)
              have v3 : IntKind.i64.wrap (q + xs.length) = q + xs.length := IntWalk.i64_in _ (by omega)
              clear cat cle cen h6 h7 hJ eJ H5 H5'
              go_quiet (first | (go_at_call 17; exact quiet_same (C1.out _)) | (go_at_call 19; exact quiet_same (C2.out _)) | (go_at_call 18; exact Calls.quiet_of (C3.out _)))
              clear v1 v2 v3
              go_wp2_with fail
              go_roundw
              case rel => exact ⟨J, k + 1, by omega, hJl, by go_num, H6, H7, grew_drewN G5.out _⟩
              case measure => simp [intOf]; omega
            · have hE0 : (E == 0) = false := by simpa using hE
              have hE1 : (E != 0) = true := by simpa using hE
              obtain rfl := Hno.out hE
              clear Hyes Hno
              go_wp2_with fail
              refine Hc2.out.mono ?_
              rintro e w5 ⟨A3, c3, rfl, h5, b5, l5, g5⟩
              have H5 := Lib.hid h5
              have H5' := Lib.hid (H4.out.grew g5 (by simp; omega) (fun _ h => by cases h; omega))
              have G5 := Lib.hid (grew_own G4.out g5 (by have := Hp.out; omega))
              clear h5 g5 H4 G4 Hc2 hn4 R1' R2' R3' R4' b5
              go_wp2_with fail
              obtain ⟨J, hJ⟩ : ∃ J, J = i + M := ⟨_, rfl⟩
              have hJl : J ≤ xs.length := by omega
              have h6 := H5'.out
              have h7 := H5.out
              rw [List.drop_drop, show (q + (i : Int) + M) = q + J from by omega, ← hJ] at h6
              rw [← hJ] at h7
              have eJ : (xs.drop J).length = xs.length - J := List.length_drop
              have hm2 : w5.cell? ⟨t, 2, none⟩ = some (.int .i64 J) := by
                obtain ⟨_, _, A', c', h, _⟩ := h7
                have := h.cell 2
                simpa using this
              have cat := fun m => cr_at (w5.drewN m) r p _ _ (h6.drewN m)
              have cle := fun m => cr_left (w5.drewN m) r p _ _ (h6.drewN m)
              have cen := fun m => cr_end (w5.drewN m) r p _ _ (h6.drewN m)
              rw [eJ, show ((xs.length - J : Nat) : Int) = (xs.length : Int) - J from by omega] at cle
              rw [eJ, show (q + (J : Int) + ((xs.length - J : Nat) : Int)) = q + xs.length from by omega] at cen
              have C1 := Lib.hid cat
              have C2 := Lib.hid cle
              have C3 := Lib.hid cen
              have H6 := Lib.hid h6
              have H7 := Lib.hid h7
              have v1 : IntKind.i64.wrap (q + J) = q + J := IntWalk.i64_in _ (by omega)
              have v2 : IntKind.i64.wrap ((xs.length : Int) - J) = (xs.length : Int) - J := IntWalk.i64_in _ (by omega)
              have v3 : IntKind.i64.wrap (q + xs.length) = q + xs.length := IntWalk.i64_in _ (by omega)
              clear cat cle cen h6 h7 hJ eJ H5 H5'
              go_quiet (first | (go_at_call 17; exact quiet_same (C1.out _)) | (go_at_call 19; exact quiet_same (C2.out _)) | (go_at_call 18; exact Calls.quiet_of (C3.out _)))
              clear v1 v2 v3
              go_wp2_with fail
              go_roundw
              case rel => exact ⟨J, k + 1, by omega, hJl, by go_num, H6, H7, grew_drewN G5.out _⟩
              case measure => simp [intOf]; omega
          · have hk2 : (kd == 2) = false := by simpa using k2
            obtain ⟨M, hM0⟩ : ∃ M : Nat, M = 0 := ⟨0, rfl⟩
            have hM : M ≤ xs.length - i := by omega
            go_wp2_with fail
            generalize wr.alloc (.cells #[.int .i64 kd, .int .i64 n] 32) = w5 at *
            have H5 : Hid (Rc w5 t p xs q (i + M)) := by rw [hM0]; exact R2'
            have H5' : Hid (Cr w5 r p ((xs.drop i).drop M) (q + i + M)) := by rw [hM0]; simpa using R1'
            have G5 := R3'
            clear hM0 R1' R2' R3' R4'
            obtain ⟨J, hJ⟩ : ∃ J, J = i + M := ⟨_, rfl⟩
            have hJl : J ≤ xs.length := by omega
            have h6 := H5'.out
            have h7 := H5.out
            rw [List.drop_drop, show (q + (i : Int) + M) = q + J from by omega, ← hJ] at h6
            rw [← hJ] at h7
            have eJ : (xs.drop J).length = xs.length - J := List.length_drop
            have hm2 : w5.cell? ⟨t, 2, none⟩ = some (.int .i64 J) := by
              obtain ⟨_, _, A', c', h, _⟩ := h7
              have := h.cell 2
              simpa using this
            have cat := fun m => cr_at (w5.drewN m) r p _ _ (h6.drewN m)
            have cle := fun m => cr_left (w5.drewN m) r p _ _ (h6.drewN m)
            have cen := fun m => cr_end (w5.drewN m) r p _ _ (h6.drewN m)
            rw [eJ, show ((xs.length - J : Nat) : Int) = (xs.length : Int) - J from by omega] at cle
            rw [eJ, show (q + (J : Int) + ((xs.length - J : Nat) : Int)) = q + xs.length from by omega] at cen
            have C1 := Lib.hid cat
            have C2 := Lib.hid cle
            have C3 := Lib.hid cen
            have H6 := Lib.hid h6
            have H7 := Lib.hid h7
            have v1 : IntKind.i64.wrap (q + J) = q + J := IntWalk.i64_in _ (by omega)
            have v2 : IntKind.i64.wrap ((xs.length : Int) - J) = (xs.length : Int) - J := IntWalk.i64_in _ (by omega)
            have v3 : IntKind.i64.wrap (q + xs.length) = q + xs.length := IntWalk.i64_in _ (by omega)
            clear cat cle cen h6 h7 hJ eJ H5 H5'
            go_quiet (first | (go_at_call 17; exact quiet_same (C1.out _)) | (go_at_call 19; exact quiet_same (C2.out _)) | (go_at_call 18; exact Calls.quiet_of (C3.out _)))
            clear v1 v2 v3
            go_wp2_with fail
            go_roundw
            case rel => exact ⟨J, k + 1, by omega, hJl, by go_num, H6, H7, grew_drewN G5.out _⟩
            case measure => simp [intOf]; omega
    · go_wp2_with fail
      go_ret
      exact ⟨rfl, grew_below R3.out (Nat.le_refl _) (fun _ h => by cases h)⟩

set_option maxRecDepth 100000 in
theorem cursorActs_lifted (os : Os) (started : os.Started) (H : Type) (enc : TypeId × Value → H) :
    ReturnsInHanded {} Try.checked os 3 .any (Rows.cursorActsSpec.pre6 enc Try.prog Try.f3 Rows.cursorActsRow.domain false) (Rows.cursorActsSpec.post enc Try.prog Try.f3 false true false false) := by
  refine returnsInHanded_of_change_sized (C := Try.checked) own started (by kernel_rfl) Try.func3
    (ChangeSpec.witness6 (enc := enc) (C := Try.checked) false ⟨#[], #[.slice none 0 0, .int .i64 0, .slice none 0 0], []⟩ 8 (by kernel_rfl) (by kernel_rfl) (by kernel_rfl) (by kernel_rfl)) ?_
  intro W base args ds gs before hval0 hW hcnd hsz0 _
  have hval : ∀ (j : Nat) t v, Try.f3.params[j]? = some t → args[j]? = some v → Value.okWide Try.prog W .any base t v := hval0
  have hsz : (DataW.weightsEach Try.prog (Try.f3.params.toList ++ Rows.cursorActsSpec.plain.varTypes Try.prog) (ds ++ gs)).all (· ≤ reachBytes) = true := hsz0
  have hW' := hW
  obtain ⟨p, q, hA0, hV, rfl, hfz, hnd⟩ := hW
  have hA : DataW.TrodAll enc Try.prog W 0 (fun _ => true) true Try.f3.params.toList args.toList ds p := hA0
  rw [Try.params3] at hA hval hsz
  obtain ⟨v0, vs0, d0, ds0, p0, q0, hargs, rfl, rfl, h0, r0⟩ := trodAll_cons hA
  obtain ⟨v1, vs1, d1, ds1, p1, q1, rfl, rfl, rfl, h1, r1⟩ := trodAll_cons r0
  obtain ⟨v2, vs2, d2, ds2, p2, q2, rfl, rfl, rfl, h2, r2⟩ := trodAll_cons r1
  obtain ⟨rfl, rfl, rfl⟩ := trodAll_nil r2
  obtain rfl : args = #[v0, v1, v2] := by cases args; simp_all
  obtain ⟨rfl, rfl⟩ := trodVars_none hV
  have k0 := h0
  have lt0 : ∀ x ∈ p0, x.block < W.heap.size := by obtain ⟨m, hm⟩ := k0; exact DataW.trod_lt m _ _ _ hm
  obtain ⟨A0, c0, x0, rfl, l0, m0, b0⟩ := arg_bytes (hval 0 22 v0 rfl rfl) h0 hsz (j := 0) rfl rfl
  obtain ⟨a1, rfl, rfl, rfl, w1⟩ := open_int Try.underlying3 (hval 1 3 v1 rfl rfl) h1
  have k2 := h2
  have lt2 : ∀ x ∈ p2, x.block < W.heap.size := by obtain ⟨m, hm⟩ := k2; exact DataW.trod_lt m _ _ _ hm
  obtain ⟨A2, c2, x2, rfl, l2, m2, b2, w2⟩ := arg_acts (hval 2 23 v2 rfl rfl) h2 hsz (j := 2) rfl rfl
  clear hA0 hval0 hsz0
  refine (cursorActs_walk W A0 c0 x0 l0 m0 b0 a1 w1 A2 c2 x2 l2 m2 b2 w2).mono fun e W' ⟨he, bel⟩ => ?_
  subst he
  exact ⟨_, rfl, _, _, _, [], _, [], hW', trodAll_mk1 (shut_bool Try.underlying4 _), (trodAll_cons_mk (Below.trod laidOut (by kernel_rfl) (of_decide_eq_true (by kernel_rfl)) k0 bel lt0) (trodAll_cons_mk (shut_int Try.underlying3 w1) (trodAll_cons_mk (Below.trod laidOut (by kernel_rfl) (of_decide_eq_true (by kernel_rfl)) k2 bel lt2) trodAll_mk0))), rfl, bel.frame _, fun h => by cases h⟩

theorem cursorActs_over : Rows.cursorActsRow.holds Try.pinned (OpenSpec.ofChange Rows.cursorActsSpec) :=
  OpenClaim.holds_of_wide 3 Try.f3 rfl rfl rfl rfl rfl rfl rfl ⟨rfl, rfl, rfl, rfl, rfl⟩ rfl rfl rfl rfl rfl (by kernel_rfl) Try.func3 (by kernel_rfl)
    (of_decide_eq_true (by kernel_rfl)) (by unfold Func.isWrapper; first | (rw [if_pos (by decide +kernel)]; kernel_rfl) | (rw [if_neg (by decide +kernel)]; exact ⟨rfl, rfl⟩))
    (fun os started H enc _ => cursorActs_lifted os started H enc)

theorem cursorActs_holds : Rows.CursorActsSaid := cursorActs_over
#print axioms cursorActs_holds
end Go.Proofs.Ythdgfhjehijmoaa
