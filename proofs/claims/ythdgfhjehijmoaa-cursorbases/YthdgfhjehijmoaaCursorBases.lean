/- From another place on a cursor tells the same, all places so much further on: for every bytes, every number and every acts the law returns true, and all read as they did. No condition. -/
import Derived.Test.YthdgfhjehijmoaaPlace
import Derived.Test.YthdgfhjehijmoaaAll
import Derived.Test.YthdgfhjehijmoaaActs
import Derived.Handy
namespace Go.Proofs.Ythdgfhjehijmoaa
open Go.ChangeShapes Go.WideShapes Go.ChangeAt Go.RowKit

set_option maxRecDepth 100000 in
set_option maxHeartbeats 4000000 in
theorem cursorBases_long (w : World) (A : Option Addr) (c : Nat) (xs : List UInt8) (a : Int)
    (A1 : Option Addr) (c1 : Nat) (zs : List (Int × Int)) (hbig : 100 < zs.length) :
    Calls Try.prog 8 #[.slice A xs.length c, .int .i64 a, .slice A1 zs.length c1] w fun e w' => e = .returned (.bool true) ∧ Below w.heap.size w w' := by
  go_enter Try.func8, Try.ntmps8
  go_wp2_with fail
  refine (alive_any w).mono ?_
  rintro e w1 ⟨rfl, g1⟩
  go_wp2_with fail
  refine (alive_any w1).mono ?_
  rintro e w2 ⟨rfl, g2⟩
  go_wp2_with fail
  go_ret
  exact ⟨rfl, grew_below (grew_trans g1 g2) (Nat.le_refl _) (fun _ h => by cases h)⟩

set_option maxRecDepth 100000 in
set_option maxHeartbeats 4000000 in
theorem cursorBases_walk (w : World) (A : Option Addr) (c : Nat) (xs : List UInt8) (hl : xs.length ≤ c) (hc : c ≤ 140737488351232) (hb : Byt w w.heap.size A xs) (a : Int) (_ : (Lit.int .i64 a).wf = true)
    (A1 : Option Addr) (c1 : Nat) (zs : List (Int × Int)) (_hl1 : zs.length ≤ c1) (_hc1 : c1 ≤ 140737488351232) (hz : Acts w A1 zs) (_ : ∀ z ∈ zs, (Lit.int .i64 z.1).wf = true ∧ (Lit.int .i64 z.2).wf = true) :
    Calls Try.prog 8 #[.slice A xs.length c, .int .i64 a, .slice A1 zs.length c1] w fun e w' => e = .returned (.bool true) ∧ Below w.heap.size w w' := by
  by_cases hbig : 100 < zs.length
  · exact cursorBases_long w A c xs a A1 c1 zs hbig
  have Hb := Lib.hid hb
  have Hz := Lib.hid hz
  clear hb hz
  have hdec : decide ((100 : Int) < (zs.length : Int)) = false := by simp; omega
  go_enter Try.func8, Try.ntmps8
  go_wp2_with fail
  refine (alive_any w).mono ?_
  rintro e w1 ⟨rfl, g1⟩
  go_wp2_with fail
  refine (place_any w1 a).mono ?_
  rintro e w2 ⟨rfl, rfl⟩
  have hpl := plc_bd a
  generalize plc a = q at *
  have hw1 := g1.size
  go_wp2_with fail
  refine (cr_new w1 A c xs 0 hl hc w.heap.size (Hb.out.grew g1 (fun _ h => by cases h)) hw1 (by omega) (by omega)).mono ?_
  rintro e w2 ⟨rfl, h2, g2⟩
  have l2 := h2.lt
  have H2 := Lib.hid h2
  have Hg2 := Lib.hid (grew_trans g1 g2)
  clear h2
  go_wp2_with fail
  refine (cr_new w2 A c xs q hl hc w.heap.size (Hb.out.grew Hg2.out (fun _ h => by cases h)) (by omega) (by omega) (by omega)).mono ?_
  rintro e w3 ⟨rfl, h3, g3⟩
  have l3 := h3.lt
  have H3 := Lib.hid h3
  have H3' := Lib.hid (H2.out.grew g3 (by simp) (fun _ h => by cases h))
  have Hg3 := Lib.hid (grew_trans Hg2.out g3)
  clear h3 g3 g2 g1 H2 Hg2
  generalize w1.heap.size = r at *
  generalize w2.heap.size = t at *
  generalize hp : w.heap.size = p at *
  have Hp := Lib.hid hp
  clear hp
  go_wp2_with fail
  go_loopw [42] (fun j wr => ∃ i k : Nat, k ≤ zs.length ∧ i ≤ xs.length ∧ j = .int .i64 k ∧ Hid (Cr wr r p (xs.drop i) i) ∧ Hid (Cr wr t p (xs.drop i) (i + q)) ∧ Hid (Grew w wr none)) (fun j _ => zs.length - (intOf j).toNat)
  case atStart => exact ⟨0, 0, Nat.zero_le _, Nat.zero_le _, rfl, H3', by simpa using H3, Hg3⟩
  case round =>
    obtain ⟨i, k, hk, hi, rfl, R1, R2, R3⟩ := hrel
    by_cases hlt : k < zs.length
    · obtain ⟨b, o, rfl, _, hcell⟩ := Hz.out (by omega)
      obtain ⟨hc0, hc1'⟩ := hcell k hlt
      have hck := R3.out.cell hc0 (by simp)
      have hcn := R3.out.cell hc1' (by simp)
      clear hcell hc0 hc1'
      generalize (zs.getD k (0, 0)).1 = kd at *
      generalize (zs.getD k (0, 0)).2 = n at *
      have lr := R1.out.lt
      have lt := R2.out.lt
      have R1' := Lib.hid (R1.out.grew (grew_alloc (grew_refl wr none) (.cells #[.int .i64 kd, .int .i64 n] 32)) (by simp) (fun _ h => by cases h))
      have R2' := Lib.hid (R2.out.grew (grew_alloc (grew_refl wr none) (.cells #[.int .i64 kd, .int .i64 n] 32)) (by simp) (fun _ h => by cases h))
      have R3' := Lib.hid (grew_alloc R3.out (.cells #[.int .i64 kd, .int .i64 n] 32))
      have R4' := Lib.hid (Whole.new wr #[.int .i64 kd, .int .i64 n] 32)
      obtain ⟨ys, hys⟩ : ∃ ys, ys = xs.drop i := ⟨_, rfl⟩
      have hyl : ys.length = xs.length - i := by rw [hys, List.length_drop]
      have Hys := Lib.hid hys
      rw [← hys] at R1' R2'
      have HYL := Lib.hid hyl
      clear hys hyl R1 R2 R3
      by_cases hpar : (bits .and .i64 kd 1 == 0) = true
      rotate_left
      · have hpar' : (bits .and .i64 kd 1 == 0) = false := by simpa using hpar
        clear hpar
        have hM := tkM_le ys.length n
        go_wp2_with fail
        generalize wr.alloc (.cells #[.int .i64 kd, .int .i64 n] 32) = W1 at *
        generalize wr.heap.size = z at *
        refine (cr_take_all W1 r p _ _ R1'.out n).mono ?_
        rintro e w4 ⟨A2, rfl, h4, b4, f4, g4⟩
        have h4' := R4'.out.grew g4 (by simp; omega)
        have hn4 := h4'.cell 1
        simp at hn4
        have lz : z < W1.heap.size := R4'.out.lt
        have hc2 := cr_take_all w4 t p _ _ (R2'.out.grew g4 (by simp; omega) (fun _ h => by cases h; omega)) n
        have Hc2 := Lib.hid hc2
        have H4 := Lib.hid h4
        have B4 := Lib.hid b4
        have F4 := Lib.hid f4
        have G4 := Lib.hid (grew_own R3'.out g4 (by have := Hp.out; omega))
        clear h4 hc2 h4' g4 b4 f4
        generalize tkE ys.length n = E at *
        generalize tkM ys.length n = M at *
        have e1 : (ys.take M).length = M := by rw [List.length_take]; omega
        go_wp2_with fail
        refine Hc2.out.mono ?_
        rintro e w5 ⟨A3, rfl, h5, b5, f5, g5⟩
        have H5 := Lib.hid h5
        have H5' := Lib.hid (H4.out.grew g5 (by simp; omega) (fun _ h => by cases h; omega))
        have G5 := Lib.hid (grew_own G4.out g5 (by have := Hp.out; omega))
        have c4 : (convert 22 9 (.slice A2 M M)).run Try.prog w5 = .ok (.string (txt (ys.take M))) w5 :=
          conv_txt w5 Try.underlying22 Try.underlying5 Try.underlying9 (B4.out.far F4.out g5 (by simp; omega)) e1.symm M
        have c5 : (convert 22 9 (.slice A3 M M)).run Try.prog w5 = .ok (.string (txt (ys.take M))) w5 :=
          conv_txt w5 Try.underlying22 Try.underlying5 Try.underlying9 b5 e1.symm M
        generalize txt (ys.take M) = T at *
        clear h5 g5 H4 G4 Hc2 hn4 R1' R2' R3' R4' b5 f5 B4 F4 e1
        go_wp2_with fail
        clear c4 c5
        have h5 := H5.out
        rw [show ((i : Int) + q + M) = i + M + q from by omega] at h5
        have hlb : ys.length ≤ xs.length := by have := HYL.out; omega
        have e2 : (ys.drop M).length = ys.length - M := List.length_drop
        have hce1 := cr_end w5 t p _ _ h5
        have hce2 := fun m => cr_end (w5.drewN m) r p _ _ (H5'.out.drewN m)
        rw [e2, show ((i : Int) + M + q + ((ys.length - M : Nat) : Int)) = i + M + ((ys.length - M : Nat) : Int) + q from by omega] at hce1
        rw [e2] at hce2
        have H6 := Lib.hid h5
        have C1 := Lib.hid hce1
        have C2 := Lib.hid hce2
        have HE2 := Lib.hid e2
        clear h5 hce1 hce2 e2 H5
        refine (cr_at w5 t p _ _ H6.out).mono ?_
        rintro e w6 ⟨rfl, rfl⟩
        go_wp2_with fail
        refine (cr_at w5 r p _ _ H5'.out).mono ?_
        rintro e w6 ⟨rfl, rfl⟩
        go_wp2_with fail
        refine C1.out.mono ?_
        rintro e w6 ⟨rfl, m1, rfl⟩
        go_wp2_with fail
        refine (C2.out m1).mono ?_
        rintro e w6 ⟨rfl, m2, rfl⟩
        go_wp2_with fail
        refine (cr_left (w5.drewN (m1 + m2)) r p _ _ H5'.out).mono ?_
        rintro e w6 ⟨rfl, rfl⟩
        go_wp2_with fail
        refine (cr_left (w5.drewN (m1 + m2)) t p _ _ H6.out).mono ?_
        rintro e w6 ⟨rfl, rfl⟩
        go_wp2_with fail
        go_roundw
        case rel =>
          have e3 : ys.drop M = xs.drop (i + M) := by rw [Hys.out, List.drop_drop]
          have h5 := H5'.out
          have h6 := H6.out
          rw [e3] at h5 h6
          refine ⟨i + M, k + 1, by omega, ?_, by go_num, ?_, ?_, ?_⟩
          · have := HYL.out; omega
          · rw [show ((i + M : Nat) : Int) = i + M from by omega]; exact h5
          · rw [show ((i + M : Nat) : Int) = i + M from by omega]; exact h6
          · exact grew_drewN G5.out _
        case measure => simp [intOf]; omega
      · have hM := nmM_le ys.length n
        go_wp2_with fail
        generalize wr.alloc (.cells #[.int .i64 kd, .int .i64 n] 32) = W1 at *
        generalize wr.heap.size = z at *
        refine (cr_number_all W1 r p _ _ R1'.out n).mono ?_
        rintro e w4 ⟨rfl, h4, g4⟩
        have h4' := R4'.out.grew g4 (by simp; omega)
        have hn4 := h4'.cell 1
        simp at hn4
        have hc2 := cr_number_all w4 t p _ _ (R2'.out.grew g4 (by simp; omega) (fun _ h => by cases h; omega)) n
        have Hc2 := Lib.hid hc2
        have H4 := Lib.hid h4
        have G4 := Lib.hid (grew_own R3'.out g4 (by have := Hp.out; omega))
        clear h4 hc2 h4' g4
        generalize nmX ys n = X at *
        generalize nmE ys.length n = E at *
        generalize nmM ys.length n = M at *
        go_wp2_with fail
        refine Hc2.out.mono ?_
        rintro e w5 ⟨rfl, h5, g5⟩
        have H5 := Lib.hid h5
        have H5' := Lib.hid (H4.out.grew g5 (by simp; omega) (fun _ h => by cases h; omega))
        have G5 := Lib.hid (grew_own G4.out g5 (by have := Hp.out; omega))
        clear h5 g5 H4 G4 Hc2 hn4 R1' R2' R3' R4'
        go_wp2_with fail
        have h5 := H5.out
        rw [show ((i : Int) + q + M) = i + M + q from by omega] at h5
        have hlb : ys.length ≤ xs.length := by have := HYL.out; omega
        have e2 : (ys.drop M).length = ys.length - M := List.length_drop
        have hce1 := cr_end w5 t p _ _ h5
        have hce2 := fun m => cr_end (w5.drewN m) r p _ _ (H5'.out.drewN m)
        rw [e2, show ((i : Int) + M + q + ((ys.length - M : Nat) : Int)) = i + M + ((ys.length - M : Nat) : Int) + q from by omega] at hce1
        rw [e2] at hce2
        have H6 := Lib.hid h5
        have C1 := Lib.hid hce1
        have C2 := Lib.hid hce2
        have HE2 := Lib.hid e2
        clear h5 hce1 hce2 e2 H5
        refine (cr_at w5 t p _ _ H6.out).mono ?_
        rintro e w6 ⟨rfl, rfl⟩
        go_wp2_with fail
        refine (cr_at w5 r p _ _ H5'.out).mono ?_
        rintro e w6 ⟨rfl, rfl⟩
        go_wp2_with fail
        refine C1.out.mono ?_
        rintro e w6 ⟨rfl, m1, rfl⟩
        go_wp2_with fail
        refine (C2.out m1).mono ?_
        rintro e w6 ⟨rfl, m2, rfl⟩
        go_wp2_with fail
        refine (cr_left (w5.drewN (m1 + m2)) r p _ _ H5'.out).mono ?_
        rintro e w6 ⟨rfl, rfl⟩
        go_wp2_with fail
        refine (cr_left (w5.drewN (m1 + m2)) t p _ _ H6.out).mono ?_
        rintro e w6 ⟨rfl, rfl⟩
        go_wp2_with fail
        go_roundw
        case rel =>
          have e3 : ys.drop M = xs.drop (i + M) := by rw [Hys.out, List.drop_drop]
          have h5 := H5'.out
          have h6 := H6.out
          rw [e3] at h5 h6
          refine ⟨i + M, k + 1, by omega, ?_, by go_num, ?_, ?_, ?_⟩
          · have := HYL.out; omega
          · rw [show ((i + M : Nat) : Int) = i + M from by omega]; exact h5
          · rw [show ((i + M : Nat) : Int) = i + M from by omega]; exact h6
          · exact grew_drewN G5.out _
        case measure => simp [intOf]; omega
    · go_wp2_with fail
      go_ret
      exact ⟨rfl, grew_below R3.out (Nat.le_refl _) (fun _ h => by cases h)⟩

set_option maxRecDepth 100000 in
theorem cursorBases_lifted (os : Os) (started : os.Started) (H : Type) (enc : TypeId × Value → H) :
    ReturnsInHanded {} Try.checked os 8 .any (Rows.cursorBasesSpec.pre6 enc Try.prog Try.f8 Rows.cursorBasesRow.domain false) (Rows.cursorBasesSpec.post enc Try.prog Try.f8 false true false false) := by
  refine returnsInHanded_of_change_sized (C := Try.checked) own started (by kernel_rfl) Try.func8
    (ChangeSpec.witness6 (enc := enc) (C := Try.checked) false ⟨#[], #[.slice none 0 0, .int .i64 0, .slice none 0 0], []⟩ 8 (by kernel_rfl) (by kernel_rfl) (by kernel_rfl) (by kernel_rfl)) ?_
  intro W base args ds gs before hval0 hW hcnd hsz0 _
  have hval : ∀ (j : Nat) t v, Try.f8.params[j]? = some t → args[j]? = some v → Value.okWide Try.prog W .any base t v := hval0
  have hsz : (DataW.weightsEach Try.prog (Try.f8.params.toList ++ Rows.cursorBasesSpec.plain.varTypes Try.prog) (ds ++ gs)).all (· ≤ reachBytes) = true := hsz0
  have hW' := hW
  obtain ⟨p, q, hA0, hV, rfl, hfz, hnd⟩ := hW
  have hA : DataW.TrodAll enc Try.prog W 0 (fun _ => true) true Try.f8.params.toList args.toList ds p := hA0
  rw [Try.params8] at hA hval hsz
  obtain ⟨v0, vs0, d0, ds0, p0, q0, hargs, rfl, rfl, h0, r0⟩ := trodAll_cons hA
  obtain ⟨v1, vs1, d1, ds1, p1, q1, rfl, rfl, rfl, h1, r1⟩ := trodAll_cons r0
  obtain ⟨v2, vs2, d2, ds2, p2, q2, rfl, rfl, rfl, h2, r2⟩ := trodAll_cons r1
  obtain ⟨rfl, rfl, rfl⟩ := trodAll_nil r2
  obtain rfl : args = #[v0, v1, v2] := by cases args; simp_all
  obtain ⟨rfl, rfl⟩ := trodVars_none hV
  have k0 := h0
  have lt0 : ∀ x ∈ p0, x.block < W.heap.size := by obtain ⟨m, hm⟩ := k0; exact DataW.trod_lt m _ _ _ hm
  obtain ⟨A0, c0, x0, rfl, l0, m0, b0⟩ := arg_bytes (hval 0 22 v0 rfl rfl) h0 hsz (j := 0) rfl rfl
  obtain ⟨a1, rfl, rfl, rfl, w1⟩ := open_int Try.underlying3 (hval 1 3 v1 rfl rfl) h1
  have k2 := h2
  have lt2 : ∀ x ∈ p2, x.block < W.heap.size := by obtain ⟨m, hm⟩ := k2; exact DataW.trod_lt m _ _ _ hm
  obtain ⟨A2, c2, x2, rfl, l2, m2, b2, w2⟩ := arg_acts (hval 2 23 v2 rfl rfl) h2 hsz (j := 2) rfl rfl
  clear hA0 hval0 hsz0
  refine (cursorBases_walk W A0 c0 x0 l0 m0 b0 a1 w1 A2 c2 x2 l2 m2 b2 w2).mono fun e W' ⟨he, bel⟩ => ?_
  subst he
  exact ⟨_, rfl, _, _, _, [], _, [], hW', trodAll_mk1 (shut_bool Try.underlying4 _), (trodAll_cons_mk (Below.trod laidOut (by kernel_rfl) (of_decide_eq_true (by kernel_rfl)) k0 bel lt0) (trodAll_cons_mk (shut_int Try.underlying3 w1) (trodAll_cons_mk (Below.trod laidOut (by kernel_rfl) (of_decide_eq_true (by kernel_rfl)) k2 bel lt2) trodAll_mk0))), rfl, bel.frame _, fun h => by cases h⟩

theorem cursorBases_over : Rows.cursorBasesRow.holds Try.pinned (OpenSpec.ofChange Rows.cursorBasesSpec) :=
  OpenClaim.holds_of_wide 8 Try.f8 rfl rfl rfl rfl rfl rfl rfl ⟨rfl, rfl, rfl, rfl, rfl⟩ rfl rfl rfl rfl rfl (by kernel_rfl) Try.func8 (by kernel_rfl)
    (of_decide_eq_true (by kernel_rfl)) (by unfold Func.isWrapper; first | (rw [if_pos (by decide +kernel)]; kernel_rfl) | (rw [if_neg (by decide +kernel)]; exact ⟨rfl, rfl⟩))
    (fun os started H enc _ => cursorBases_lifted os started H enc)

theorem cursorBases_holds : Rows.CursorBasesSaid := cursorBases_over
#print axioms cursorBases_holds
end Go.Proofs.Ythdgfhjehijmoaa
