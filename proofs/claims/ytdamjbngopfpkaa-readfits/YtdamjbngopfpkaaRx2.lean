/- Reading: length, number, opaque, fixed, rest. -/
import Derived.Test.YtdamjbngopfpkaaRx
import Derived.Deep.RegionWith
import Derived.RegionTactic
import Derived.BigRegion
namespace Go.Proofs.Ytdamjbngopfpkaa
open Go.RowKit Va

/-- What a length leaves behind. -/
def GotL (B : Nat) (w : World) (p : Nat) (xs : List UInt8) (a s l h t : Int) (e : Ending) (w' : World) : Prop :=
  ∃ (x y : Int) (ys : List UInt8) (a' : Int), e = .returned (.tuple #[.int .i64 x, fault y (Rd.lnE s l h t xs)]) ∧ Cr w' p B ys a' ∧ (Rd.lnE s l h t xs = 0 → x = Rd.lnN s xs ∧ y = 0 ∧ ys = xs.drop s.toNat ∧ a' = a + s.toNat) ∧ (Rd.lnE s l h t xs ≠ 0 → y = a + Rd.lnA s xs) ∧ Grew w w' (some p)

theorem gotL_close {B : Nat} {w X Y : World} {p r : Nat} {xs ys : List UInt8} {a a' s l h t x y : Int} (hG : Grew w X (some p)) (hC : Cr X p B ys a') (hY : Fr X Y (fun i => i = r)) (hr : w.heap.size ≤ r) (hp : p < w.heap.size)
    (hx : Rd.lnE s l h t xs = 0 → x = Rd.lnN s xs ∧ y = 0 ∧ ys = xs.drop s.toNat ∧ a' = a + s.toNat) (hy : Rd.lnE s l h t xs ≠ 0 → y = a + Rd.lnA s xs) {V : Value} (hV : V = .tuple #[.int .i64 x, fault y (Rd.lnE s l h t xs)]) : GotL B w p xs a s l h t (.returned V) Y := by
  have hB := hC.1
  exact ⟨x, y, ys, a', by rw [hV], hC.fr hY (by omega) (fun i hi => by subst hi; omega), hx, hy, grew_fr hG hY (fun i hi => by subst hi; exact hr)⟩

set_option maxHeartbeats 1000000 in
theorem rlength_any (w : World) (p B : Nat) (xs : List UInt8) (a : Int) (hc : Cr w p B xs a) (k s l h t : Int) (A : Option Addr) (n c : Nat) (s1 : 1 ≤ s) (s3 : s ≤ 3) (t1 : 1 ≤ t) :
    Calls Try.prog 57 #[.pointer (some ⟨p, 0, none⟩), .agg #[.int .i64 k, .int .i64 s, .int .i64 l, .int .i64 h, .int .i64 t, .slice A n c]] w (GotL B w p xs a s l h t) := by
  obtain ⟨g0, k0, k1, ks⟩ := two_new w #[.int .i64 k, .int .i64 s, .int .i64 l, .int .i64 h, .int .i64 t, .slice A n c] 24 #[.int .i64 0, .int .i64 0] 62
  have HP := Lib.hid hc.lt
  have HM := Lib.hid hc.max
  have HC := Lib.hid (hc.grew g0 (by simp) (fun _ h => by cases h))
  have G0 := Lib.hid g0
  have K0 := Lib.hid k0
  have K1 := Lib.hid k1
  have KS := Lib.hid ks
  clear hc g0 k0 k1 ks
  have hso : sizeOk s := by unfold sizeOk; omega
  have HO := Lib.hid hso
  obtain ⟨z, rfl⟩ := Int.eq_ofNat_of_zero_le (a := s) (by omega)
  clear hso
  by_cases hs : (xs.length : Int) < z
  · have HE := Lib.hid (show Rd.lnE z l h t xs = 4 by unfold Rd.lnE; rw [if_pos hs])
    have HA := Lib.hid (show Rd.lnA z xs = xs.length by unfold Rd.lnA; rw [if_pos hs])
    have HS := Lib.hid hs
    clear hs
    go_enter Try.func57, Try.ntmps57
    go_wp2_with fail
    generalize (w.alloc (.cells #[.int .i64 k, .int .i64 z, .int .i64 l, .int .i64 h, .int .i64 t, .slice A n c] 24)).alloc (.cells #[.int .i64 0, .int .i64 0] 62) = W at *
    refine (cr_at W p B xs a HC.out).mono ?_
    rintro e w1 ⟨rfl, rfl⟩
    obtain ⟨b0, b1, b2, b3, b4, b5⟩ := K0.out.six
    go_wp2_with fail
    refine (cr_number_short W p B xs a HC.out z HO.out HS.out).mono ?_
    rintro e w1 ⟨rfl, rfl⟩
    go_wp2_with fail
    refine (cr_end W p B xs a HC.out).mono ?_
    rintro e w1 ⟨rfl, m, rfl⟩
    have k1 := K1.out.grew (grew_drewN (grew_refl _ none) m) (by simp)
    obtain ⟨d0, d1⟩ := k1.two
    have f1 := k1.frozen
    have C2 := Lib.hid (HC.out.drewN m)
    have K1' := Lib.hid k1
    have G2 := Lib.hid (grew_drewN G0.out m)
    clear k1 HC G0 K0 K1 KS b0 b1 b2 b3 b4 b5
    generalize W.drewN m = X at *
    go_wp2_with fail
    refine bodyPost_ret (results_tmp_cell rfl _ _ _ _ _ _ _ rfl (K1'.out.put2 (.int .i64 (a + xs.length)) (.int .i64 4)) Try.underlying62 rfl (by kernel_rfl)) rfl ?_
    exact gotL_close (grew_weak G2.out) C2.out (fr_put2 _ _ _ _) (by omega) HP.out (fun h => by rw [HE.out] at h; omega) (fun _ => by rw [HA.out]) (by rw [HE.out]; rfl)
  · have hN : Rd.lnN z xs = num (xs.take z) := by unfold Rd.lnN; rw [Int.toNat_natCast]
    have hb : num (xs.take z) < 16777216 := by
      have h1 := num_lt (xs.take z)
      have h2 : (xs.take z).length = z := by rw [List.length_take]; omega
      rw [h2] at h1
      have h3 : z = 1 ∨ z = 2 ∨ z = 3 := by omega
      rcases h3 with rfl | rfl | rfl <;> omega
    have hd : Rd.lnE z l h t xs = if l ≤ (num (xs.take z) : Int) ∧ (num (xs.take z) : Int) ≤ h ∧ (num (xs.take z) : Int) % t = 0 then 0 else 5 := by unfold Rd.lnE; rw [if_neg hs, hN]
    have HA := Lib.hid (show Rd.lnA z xs = 0 by unfold Rd.lnA; rw [if_neg hs])
    have HS := Lib.hid (show z ≤ xs.length by omega)
    have HN := Lib.hid hN
    clear hs hN
    generalize hy : num (xs.take z) = N at *
    have HY := Lib.hid hy
    have HD := Lib.hid hd
    clear hy hd
    have key : Calls Try.prog 57 #[.pointer (some ⟨p, 0, none⟩), .agg #[.int .i64 k, .int .i64 z, .int .i64 l, .int .i64 h, .int .i64 t, .slice A n c]] w (GotL B w p xs a z l h t) := by
      by_cases q1 : (N : Int) < l
      · have HE := Lib.hid (show Rd.lnE z l h t xs = 5 by rw [HD.out, if_neg (by omega)])
        go_enter Try.func57, Try.ntmps57
        go_wp2_with fail
        generalize (w.alloc (.cells #[.int .i64 k, .int .i64 z, .int .i64 l, .int .i64 h, .int .i64 t, .slice A n c] 24)).alloc (.cells #[.int .i64 0, .int .i64 0] 62) = W at *
        refine (cr_at W p B xs a HC.out).mono ?_
        rintro e w1 ⟨rfl, rfl⟩
        obtain ⟨b0, b1, b2, b3, b4, b5⟩ := K0.out.six
        go_wp2_with fail
        refine (cr_number W p B xs a HC.out z HO.out HS.out).mono ?_
        rintro e X ⟨rfl, hC, g, hsz⟩
        rw [HY.out]
        have k0 := K0.out.grew g (by have := HP.out; simp; omega)
        have k1 := K1.out.grew g (by have := HP.out; simp; omega)
        clear b0 b1 b2 b3 b4 b5
        obtain ⟨b0, b1, b2, b3, b4, b5⟩ := k0.six
        obtain ⟨d0, d1⟩ := k1.two
        have f1 := k1.frozen
        have C2 := Lib.hid hC
        have K1' := Lib.hid k1
        have G2 := Lib.hid (grew_trans (grew_weak G0.out) g)
        clear k0 k1 HC G0 K0 K1 KS hC g hsz
        go_wp2_with fail
        refine bodyPost_ret (results_tmp_cell rfl _ _ _ _ _ _ _ rfl (K1'.out.put2 (.int .i64 a) (.int .i64 5)) Try.underlying62 rfl (by kernel_rfl)) rfl ?_
        exact gotL_close (x := 0) (y := a) G2.out C2.out (fr_put2 _ _ _ _) (by omega) HP.out (fun h => by rw [HE.out] at h; omega) (fun _ => by rw [HA.out]; simp) (by rw [HE.out]; rfl)
      · by_cases q2 : h < (N : Int)
        · have HE := Lib.hid (show Rd.lnE z l h t xs = 5 by rw [HD.out, if_neg (by omega)])
          go_enter Try.func57, Try.ntmps57
          go_wp2_with fail
          generalize (w.alloc (.cells #[.int .i64 k, .int .i64 z, .int .i64 l, .int .i64 h, .int .i64 t, .slice A n c] 24)).alloc (.cells #[.int .i64 0, .int .i64 0] 62) = W at *
          refine (cr_at W p B xs a HC.out).mono ?_
          rintro e w1 ⟨rfl, rfl⟩
          obtain ⟨b0, b1, b2, b3, b4, b5⟩ := K0.out.six
          go_wp2_with fail
          refine (cr_number W p B xs a HC.out z HO.out HS.out).mono ?_
          rintro e X ⟨rfl, hC, g, hsz⟩
          rw [HY.out]
          have k0 := K0.out.grew g (by have := HP.out; simp; omega)
          have k1 := K1.out.grew g (by have := HP.out; simp; omega)
          clear b0 b1 b2 b3 b4 b5
          obtain ⟨b0, b1, b2, b3, b4, b5⟩ := k0.six
          obtain ⟨d0, d1⟩ := k1.two
          have f1 := k1.frozen
          have C2 := Lib.hid hC
          have K1' := Lib.hid k1
          have G2 := Lib.hid (grew_trans (grew_weak G0.out) g)
          clear k0 k1 HC G0 K0 K1 KS hC g hsz
          go_wp2_with fail
          refine bodyPost_ret (results_tmp_cell rfl _ _ _ _ _ _ _ rfl (K1'.out.put2 (.int .i64 a) (.int .i64 5)) Try.underlying62 rfl (by kernel_rfl)) rfl ?_
          exact gotL_close (x := 0) (y := a) G2.out C2.out (fr_put2 _ _ _ _) (by omega) HP.out (fun h => by rw [HE.out] at h; omega) (fun _ => by rw [HA.out]; simp) (by rw [HE.out]; rfl)
        · by_cases q3 : (N : Int) % t = 0
          · have HE := Lib.hid (show Rd.lnE z l h t xs = 0 by rw [HD.out, if_pos ⟨by omega, by omega, q3⟩])
            go_enter Try.func57, Try.ntmps57
            go_wp2_with fail
            generalize (w.alloc (.cells #[.int .i64 k, .int .i64 z, .int .i64 l, .int .i64 h, .int .i64 t, .slice A n c] 24)).alloc (.cells #[.int .i64 0, .int .i64 0] 62) = W at *
            refine (cr_at W p B xs a HC.out).mono ?_
            rintro e w1 ⟨rfl, rfl⟩
            obtain ⟨b0, b1, b2, b3, b4, b5⟩ := K0.out.six
            go_wp2_with fail
            refine (cr_number W p B xs a HC.out z HO.out HS.out).mono ?_
            rintro e X ⟨rfl, hC, g, hsz⟩
            rw [HY.out]
            have k0 := K0.out.grew g (by have := HP.out; simp; omega)
            have k1 := K1.out.grew g (by have := HP.out; simp; omega)
            clear b0 b1 b2 b3 b4 b5
            obtain ⟨b0, b1, b2, b3, b4, b5⟩ := k0.six
            obtain ⟨d0, d1⟩ := k1.two
            have f1 := k1.frozen
            have C2 := Lib.hid hC
            have K1' := Lib.hid k1
            have G2 := Lib.hid (grew_trans (grew_weak G0.out) g)
            clear k0 k1 HC G0 K0 K1 KS hC g hsz
            go_wp2_with fail
            refine bodyPost_ret (results_tmp_cell rfl _ _ _ _ _ _ _ rfl (K1'.out.put2 (.int .i64 0) (.int .i64 0)) Try.underlying62 rfl (by kernel_rfl)) rfl ?_
            exact gotL_close G2.out C2.out (fr_put2 _ _ _ _) (by omega) HP.out (fun _ => ⟨by rw [HN.out], rfl, by rw [Int.toNat_natCast], by rw [Int.toNat_natCast]⟩) (fun h => absurd HE.out h) (by rw [HE.out]; rfl)
          · have HE := Lib.hid (show Rd.lnE z l h t xs = 5 by rw [HD.out, if_neg (fun e => q3 e.2.2)])
            have q4 : ((N : Int) % t != 0) = true := by simpa using q3
            clear q3
            go_enter Try.func57, Try.ntmps57
            go_wp2_with fail
            generalize (w.alloc (.cells #[.int .i64 k, .int .i64 z, .int .i64 l, .int .i64 h, .int .i64 t, .slice A n c] 24)).alloc (.cells #[.int .i64 0, .int .i64 0] 62) = W at *
            refine (cr_at W p B xs a HC.out).mono ?_
            rintro e w1 ⟨rfl, rfl⟩
            obtain ⟨b0, b1, b2, b3, b4, b5⟩ := K0.out.six
            go_wp2_with fail
            refine (cr_number W p B xs a HC.out z HO.out HS.out).mono ?_
            rintro e X ⟨rfl, hC, g, hsz⟩
            rw [HY.out]
            have k0 := K0.out.grew g (by have := HP.out; simp; omega)
            have k1 := K1.out.grew g (by have := HP.out; simp; omega)
            clear b0 b1 b2 b3 b4 b5
            obtain ⟨b0, b1, b2, b3, b4, b5⟩ := k0.six
            obtain ⟨d0, d1⟩ := k1.two
            have f1 := k1.frozen
            have C2 := Lib.hid hC
            have K1' := Lib.hid k1
            have G2 := Lib.hid (grew_trans (grew_weak G0.out) g)
            clear k0 k1 HC G0 K0 K1 KS hC g hsz
            go_wp2_with fail
            refine bodyPost_ret (results_tmp_cell rfl _ _ _ _ _ _ _ rfl (K1'.out.put2 (.int .i64 a) (.int .i64 5)) Try.underlying62 rfl (by kernel_rfl)) rfl ?_
            exact gotL_close (x := 0) (y := a) G2.out C2.out (fr_put2 _ _ _ _) (by omega) HP.out (fun h => by rw [HE.out] at h; omega) (fun _ => by rw [HA.out]; simp) (by rw [HE.out]; rfl)
    exact key
end Go.Proofs.Ytdamjbngopfpkaa

