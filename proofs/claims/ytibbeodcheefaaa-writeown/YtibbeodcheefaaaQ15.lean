/- Reading: length, number, opaque, fixed, rest. -/
import Derived.Test.YtibbeodcheefaaaQ11
import Derived.Deep.RegionWith
import Derived.RegionTactic
import Derived.BigRegion
namespace Go.Proofs.Ytibbeodcheefaaa
open Go.RowKit Va

/-- What a length leaves behind. -/
def GotL (B : Nat) (w : World) (p : Nat) (xs : List UInt8) (a s l h t : Int) (e : Ending) (w' : World) : Prop :=
  ∃ (x y : Int) (ys : List UInt8) (a' : Int), e = .returned (.tuple #[.int .i64 x, fault y (Rd.lnE s l h t xs)]) ∧ Cr w' p B ys a' ∧ (Rd.lnE s l h t xs = 0 → x = Rd.lnN s xs ∧ y = 0 ∧ ys = xs.drop s.toNat ∧ a' = a + s.toNat) ∧ (Rd.lnE s l h t xs ≠ 0 → y = a + Rd.lnA s xs) ∧ Grew w w' (some p)

set_option maxRecDepth 100000 in
theorem gotL_close {B : Nat} {w X Y : World} {p r : Nat} {xs ys : List UInt8} {a a' s l h t x y : Int} (hG : Grew w X (some p)) (hC : Cr X p B ys a') (hY : Fr X Y (fun i => i = r)) (hr : w.heap.size ≤ r) (hp : p < w.heap.size)
    (hx : Rd.lnE s l h t xs = 0 → x = Rd.lnN s xs ∧ y = 0 ∧ ys = xs.drop s.toNat ∧ a' = a + s.toNat) (hy : Rd.lnE s l h t xs ≠ 0 → y = a + Rd.lnA s xs) {V : Value} (hV : V = .tuple #[.int .i64 x, fault y (Rd.lnE s l h t xs)]) : GotL B w p xs a s l h t (.returned V) Y := by
  have hB := hC.1
  exact ⟨x, y, ys, a', by rw [hV], hC.fr hY (by omega) (fun i hi => by subst hi; omega), hx, hy, grew_fr hG hY (fun i hi => by subst hi; exact hr)⟩

set_option maxRecDepth 100000 in
set_option maxHeartbeats 1000000 in
theorem rlength_any (w : World) (p B : Nat) (xs : List UInt8) (a : Int) (hc : Cr w p B xs a) (k s l h t : Int) (A : Option Addr) (n c : Nat) (s1 : 1 ≤ s) (s3 : s ≤ 3) (t1 : 1 ≤ t) :
    Calls Try.prog 94 #[.pointer (some ⟨p, 0, none⟩), .agg #[.int .i64 k, .int .i64 s, .int .i64 l, .int .i64 h, .int .i64 t, .slice A n c]] w (GotL B w p xs a s l h t) := by
  obtain ⟨g0, k0, k1, ks⟩ := two_new w #[.int .i64 k, .int .i64 s, .int .i64 l, .int .i64 h, .int .i64 t, .slice A n c] 24 #[.int .i64 0, .int .i64 0] 78
  have HP := Lib.hid hc.lt
  have HM := Lib.hid hc.max
  have HC := Lib.hid (hc.grew g0 (by simp) (fun _ h => by cases h))
  have G0 := Lib.hid g0
  have K0 := Lib.hid k0
  have K1 := Lib.hid k1
  have KS := Lib.hid ks
  clear hc g0 k0 k1 ks
  have hso : sizeOk s := by unfold sizeOk; omega
  have HO := Lib.hid hso
  obtain ⟨z, rfl⟩ := Int.eq_ofNat_of_zero_le (a := s) (by omega)
  clear hso
  by_cases hs : (xs.length : Int) < z
  · have HE := Lib.hid (show Rd.lnE z l h t xs = 4 by unfold Rd.lnE; rw [if_pos hs])
    have HA := Lib.hid (show Rd.lnA z xs = xs.length by unfold Rd.lnA; rw [if_pos hs])
    have HS := Lib.hid hs
    clear hs
    go_enter Try.func94, Try.ntmps94
    go_wp2_with fail
    generalize (w.alloc (.cells #[.int .i64 k, .int .i64 z, .int .i64 l, .int .i64 h, .int .i64 t, .slice A n c] 24)).alloc (.cells #[.int .i64 0, .int .i64 0] 78) = W at *
    refine (cr_at W p B xs a HC.out).mono ?_
    rintro e w1 ⟨rfl, rfl⟩
    obtain ⟨b0, b1, b2, b3, b4, b5⟩ := K0.out.six
    go_wp2_with fail
    refine (cr_number_short W p B xs a HC.out z HO.out HS.out).mono ?_
    rintro e w1 ⟨rfl, rfl⟩
    go_wp2_with fail
    refine (cr_end W p B xs a HC.out).mono ?_
    rintro e w1 ⟨rfl, m, rfl⟩
    have k1 := K1.out.grew (grew_drewN (grew_refl _ none) m) (by simp)
    obtain ⟨d0, d1⟩ := k1.two
    have f1 := k1.frozen
    have C2 := Lib.hid (HC.out.drewN m)
    have K1' := Lib.hid k1
    have G2 := Lib.hid (grew_drewN G0.out m)
    clear k1 HC G0 K0 K1 KS b0 b1 b2 b3 b4 b5
    generalize W.drewN m = X at *
    go_wp2_with fail
    refine bodyPost_ret (results_tmp_cell rfl _ _ _ _ _ _ _ rfl (K1'.out.put2 (.int .i64 (a + xs.length)) (.int .i64 4)) Try.underlying78 rfl (by kernel_rfl)) rfl ?_
    exact gotL_close (grew_weak G2.out) C2.out (fr_put2 _ _ _ _) (by omega) HP.out (fun h => by rw [HE.out] at h; omega) (fun _ => by rw [HA.out]) (by rw [HE.out]; rfl)
  · have hN : Rd.lnN z xs = num (xs.take z) := by unfold Rd.lnN; rw [Int.toNat_natCast]
    have hb : num (xs.take z) < 16777216 := by
      have h1 := num_lt (xs.take z)
      have h2 : (xs.take z).length = z := by rw [List.length_take]; omega
      rw [h2] at h1
      have h3 : z = 1 ∨ z = 2 ∨ z = 3 := by omega
      rcases h3 with rfl | rfl | rfl <;> omega
    have hd : Rd.lnE z l h t xs = if l ≤ (num (xs.take z) : Int) ∧ (num (xs.take z) : Int) ≤ h ∧ (num (xs.take z) : Int) % t = 0 then 0 else 5 := by unfold Rd.lnE; rw [if_neg hs, hN]
    have HA := Lib.hid (show Rd.lnA z xs = 0 by unfold Rd.lnA; rw [if_neg hs])
    have HS := Lib.hid (show z ≤ xs.length by omega)
    have HN := Lib.hid hN
    clear hs hN
    generalize hy : num (xs.take z) = N at *
    have HY := Lib.hid hy
    have HD := Lib.hid hd
    clear hy hd
    have key : Calls Try.prog 94 #[.pointer (some ⟨p, 0, none⟩), .agg #[.int .i64 k, .int .i64 z, .int .i64 l, .int .i64 h, .int .i64 t, .slice A n c]] w (GotL B w p xs a z l h t) := by
      by_cases q1 : (N : Int) < l
      · have HE := Lib.hid (show Rd.lnE z l h t xs = 5 by rw [HD.out, if_neg (by omega)])
        go_enter Try.func94, Try.ntmps94
        go_wp2_with fail
        generalize (w.alloc (.cells #[.int .i64 k, .int .i64 z, .int .i64 l, .int .i64 h, .int .i64 t, .slice A n c] 24)).alloc (.cells #[.int .i64 0, .int .i64 0] 78) = W at *
        refine (cr_at W p B xs a HC.out).mono ?_
        rintro e w1 ⟨rfl, rfl⟩
        obtain ⟨b0, b1, b2, b3, b4, b5⟩ := K0.out.six
        go_wp2_with fail
        refine (cr_number W p B xs a HC.out z HO.out HS.out).mono ?_
        rintro e X ⟨rfl, hC, g, hsz⟩
        rw [HY.out]
        have k0 := K0.out.grew g (by have := HP.out; simp; omega)
        have k1 := K1.out.grew g (by have := HP.out; simp; omega)
        clear b0 b1 b2 b3 b4 b5
        obtain ⟨b0, b1, b2, b3, b4, b5⟩ := k0.six
        obtain ⟨d0, d1⟩ := k1.two
        have f1 := k1.frozen
        have C2 := Lib.hid hC
        have K1' := Lib.hid k1
        have G2 := Lib.hid (grew_trans (grew_weak G0.out) g)
        clear k0 k1 HC G0 K0 K1 KS hC g hsz
        go_wp2_with fail
        refine bodyPost_ret (results_tmp_cell rfl _ _ _ _ _ _ _ rfl (K1'.out.put2 (.int .i64 a) (.int .i64 5)) Try.underlying78 rfl (by kernel_rfl)) rfl ?_
        exact gotL_close (x := 0) (y := a) G2.out C2.out (fr_put2 _ _ _ _) (by omega) HP.out (fun h => by rw [HE.out] at h; omega) (fun _ => by rw [HA.out]; simp) (by rw [HE.out]; rfl)
      · by_cases q2 : h < (N : Int)
        · have HE := Lib.hid (show Rd.lnE z l h t xs = 5 by rw [HD.out, if_neg (by omega)])
          go_enter Try.func94, Try.ntmps94
          go_wp2_with fail
          generalize (w.alloc (.cells #[.int .i64 k, .int .i64 z, .int .i64 l, .int .i64 h, .int .i64 t, .slice A n c] 24)).alloc (.cells #[.int .i64 0, .int .i64 0] 78) = W at *
          refine (cr_at W p B xs a HC.out).mono ?_
          rintro e w1 ⟨rfl, rfl⟩
          obtain ⟨b0, b1, b2, b3, b4, b5⟩ := K0.out.six
          go_wp2_with fail
          refine (cr_number W p B xs a HC.out z HO.out HS.out).mono ?_
          rintro e X ⟨rfl, hC, g, hsz⟩
          rw [HY.out]
          have k0 := K0.out.grew g (by have := HP.out; simp; omega)
          have k1 := K1.out.grew g (by have := HP.out; simp; omega)
          clear b0 b1 b2 b3 b4 b5
          obtain ⟨b0, b1, b2, b3, b4, b5⟩ := k0.six
          obtain ⟨d0, d1⟩ := k1.two
          have f1 := k1.frozen
          have C2 := Lib.hid hC
          have K1' := Lib.hid k1
          have G2 := Lib.hid (grew_trans (grew_weak G0.out) g)
          clear k0 k1 HC G0 K0 K1 KS hC g hsz
          go_wp2_with fail
          refine bodyPost_ret (results_tmp_cell rfl _ _ _ _ _ _ _ rfl (K1'.out.put2 (.int .i64 a) (.int .i64 5)) Try.underlying78 rfl (by kernel_rfl)) rfl ?_
          exact gotL_close (x := 0) (y := a) G2.out C2.out (fr_put2 _ _ _ _) (by omega) HP.out (fun h => by rw [HE.out] at h; omega) (fun _ => by rw [HA.out]; simp) (by rw [HE.out]; rfl)
        · by_cases q3 : (N : Int) % t = 0
          · have HE := Lib.hid (show Rd.lnE z l h t xs = 0 by rw [HD.out, if_pos ⟨by omega, by omega, q3⟩])
            go_enter Try.func94, Try.ntmps94
            go_wp2_with fail
            generalize (w.alloc (.cells #[.int .i64 k, .int .i64 z, .int .i64 l, .int .i64 h, .int .i64 t, .slice A n c] 24)).alloc (.cells #[.int .i64 0, .int .i64 0] 78) = W at *
            refine (cr_at W p B xs a HC.out).mono ?_
            rintro e w1 ⟨rfl, rfl⟩
            obtain ⟨b0, b1, b2, b3, b4, b5⟩ := K0.out.six
            go_wp2_with fail
            refine (cr_number W p B xs a HC.out z HO.out HS.out).mono ?_
            rintro e X ⟨rfl, hC, g, hsz⟩
            rw [HY.out]
            have k0 := K0.out.grew g (by have := HP.out; simp; omega)
            have k1 := K1.out.grew g (by have := HP.out; simp; omega)
            clear b0 b1 b2 b3 b4 b5
            obtain ⟨b0, b1, b2, b3, b4, b5⟩ := k0.six
            obtain ⟨d0, d1⟩ := k1.two
            have f1 := k1.frozen
            have C2 := Lib.hid hC
            have K1' := Lib.hid k1
            have G2 := Lib.hid (grew_trans (grew_weak G0.out) g)
            clear k0 k1 HC G0 K0 K1 KS hC g hsz
            go_wp2_with fail
            refine bodyPost_ret (results_tmp_cell rfl _ _ _ _ _ _ _ rfl (K1'.out.put2 (.int .i64 0) (.int .i64 0)) Try.underlying78 rfl (by kernel_rfl)) rfl ?_
            exact gotL_close G2.out C2.out (fr_put2 _ _ _ _) (by omega) HP.out (fun _ => ⟨by rw [HN.out], rfl, by rw [Int.toNat_natCast], by rw [Int.toNat_natCast]⟩) (fun h => absurd HE.out h) (by rw [HE.out]; rfl)
          · have HE := Lib.hid (show Rd.lnE z l h t xs = 5 by rw [HD.out, if_neg (fun e => q3 e.2.2)])
            have q4 : ((N : Int) % t != 0) = true := by simpa using q3
            clear q3
            go_enter Try.func94, Try.ntmps94
            go_wp2_with fail
            generalize (w.alloc (.cells #[.int .i64 k, .int .i64 z, .int .i64 l, .int .i64 h, .int .i64 t, .slice A n c] 24)).alloc (.cells #[.int .i64 0, .int .i64 0] 78) = W at *
            refine (cr_at W p B xs a HC.out).mono ?_
            rintro e w1 ⟨rfl, rfl⟩
            obtain ⟨b0, b1, b2, b3, b4, b5⟩ := K0.out.six
            go_wp2_with fail
            refine (cr_number W p B xs a HC.out z HO.out HS.out).mono ?_
            rintro e X ⟨rfl, hC, g, hsz⟩
            rw [HY.out]
            have k0 := K0.out.grew g (by have := HP.out; simp; omega)
            have k1 := K1.out.grew g (by have := HP.out; simp; omega)
            clear b0 b1 b2 b3 b4 b5
            obtain ⟨b0, b1, b2, b3, b4, b5⟩ := k0.six
            obtain ⟨d0, d1⟩ := k1.two
            have f1 := k1.frozen
            have C2 := Lib.hid hC
            have K1' := Lib.hid k1
            have G2 := Lib.hid (grew_trans (grew_weak G0.out) g)
            clear k0 k1 HC G0 K0 K1 KS hC g hsz
            go_wp2_with fail
            refine bodyPost_ret (results_tmp_cell rfl _ _ _ _ _ _ _ rfl (K1'.out.put2 (.int .i64 a) (.int .i64 5)) Try.underlying78 rfl (by kernel_rfl)) rfl ?_
            exact gotL_close (x := 0) (y := a) G2.out C2.out (fr_put2 _ _ _ _) (by omega) HP.out (fun h => by rw [HE.out] at h; omega) (fun _ => by rw [HA.out]; simp) (by rw [HE.out]; rfl)
    exact key
end Go.Proofs.Ytibbeodcheefaaa


/- Reading: number, fixed, opaque, rest. -/
namespace Go.Proofs.Ytibbeodcheefaaa
open Go.RowKit Va

set_option maxRecDepth 100000 in
set_option maxHeartbeats 1000000 in
theorem rnumber_any (w : World) (rv : Value) (p B : Nat) (xs : List UInt8) (a : Int) (hc : Cr w p B xs a) (k s l h t : Int) (A : Option Addr) (n c : Nat) (hs : sizeOk s) :
    Calls Try.prog 71 #[rv, .pointer (some ⟨p, 0, none⟩), .agg #[.int .i64 k, .int .i64 s, .int .i64 l, .int .i64 h, .int .i64 t, .slice A n c]] w (GotP B w p xs a (Rd.rdN s xs)) := by
  obtain ⟨g0, k0, k1, k2, ks⟩ := three_new w #[.int .i64 k, .int .i64 s, .int .i64 l, .int .i64 h, .int .i64 t, .slice A n c] 24 #[.int .u64 0, .slice none 0 0, .slice none 0 0] 29 #[.int .i64 0, .int .i64 0] 78
  have HP := Lib.hid hc.lt
  have HC := Lib.hid (hc.grew g0 (by simp) (fun _ h => by cases h))
  have G0 := Lib.hid g0
  have K1 := Lib.hid k1
  have K2 := Lib.hid k2
  have HO := Lib.hid hs
  obtain ⟨z, rfl⟩ := Int.eq_ofNat_of_zero_le (a := s) (by unfold sizeOk at hs; omega)
  have HZ := Lib.hid (show z ≤ 8 by unfold sizeOk at hs; omega)
  clear hc g0 k0 k1 k2 ks hs
  by_cases hs : (xs.length : Int) < z
  · have e : Rd.rdN z xs = ⟨4, xs.length, v0, 0⟩ := by unfold Rd.rdN; rw [if_pos hs]
    rw [e]
    have HS := Lib.hid hs
    clear e hs
    go_enter Try.func71, Try.ntmps71
    go_wp2_with fail
    generalize ((w.alloc (.cells #[.int .i64 k, .int .i64 z, .int .i64 l, .int .i64 h, .int .i64 t, .slice A n c] 24)).alloc (.cells #[.int .u64 0, .slice none 0 0, .slice none 0 0] 29)).alloc (.cells #[.int .i64 0, .int .i64 0] 78) = W at *
    refine (cr_number_short W p B xs a HC.out z HO.out HS.out).mono ?_
    rintro e w1 ⟨rfl, rfl⟩
    go_wp2_with fail
    refine (cr_end W p B xs a HC.out).mono ?_
    rintro e w1 ⟨rfl, m, rfl⟩
    have k1 := K1.out.grew (grew_drewN (grew_refl _ none) m) (by simp)
    have k2 := K2.out.grew (grew_drewN (grew_refl _ none) m) (by simp)
    obtain ⟨c0, c1, c2⟩ := k1.three
    obtain ⟨d0, d1⟩ := k2.two
    have f0 := k1.frozen
    have f1 := k2.frozen
    have C2 := Lib.hid (HC.out.drewN m)
    have K1' := Lib.hid k1
    have K2' := Lib.hid k2
    have G2 := Lib.hid (grew_drewN G0.out m)
    clear k1 k2 HC G0 K1 K2
    generalize W.drewN m = X at *
    go_wp2_with fail
    obtain ⟨r1, r2, r3⟩ := put32 K1'.out K2'.out (by omega) (.int .u64 0) (.slice none 0 0) (.slice none 0 0) (.int .i64 (a + xs.length)) (.int .i64 4)
    refine bodyPost_ret (results_cells rfl _ _ _ _ _ _ _ _ _ _ _ _ rfl r1 Try.underlying29 rfl (by kernel_rfl) rfl r2 Try.underlying78 rfl (by kernel_rfl)) rfl ?_
    exact gotP_close (v := v0) (k := w.heap.size + 3) (grew_weak G2.out) C2.out r3 (by omega) (by omega) HP.out (v0_in _) (v0_hi _) (by omega) (by omega) rfl (fun h => by cases h) rfl
  · have e : Rd.rdN z xs = ⟨0, z, vN (num (xs.take z)), 0⟩ := by unfold Rd.rdN; rw [if_neg hs, Int.toNat_natCast]
    rw [e]
    have hlt : num (xs.take z) ≤ 18446744073709551615 := by
      have h1 := num_lt (xs.take z)
      have h2 : (xs.take z).length ≤ 8 := by have := HZ.out; rw [List.length_take]; omega
      have h3 : 256 ^ (xs.take z).length ≤ 256 ^ 8 := Nat.pow_le_pow_right (by omega) h2
      omega
    have HL := Lib.hid hlt
    have HS := Lib.hid (show z ≤ xs.length by omega)
    clear e hs hlt
    go_enter Try.func71, Try.ntmps71
    go_wp2_with fail
    generalize ((w.alloc (.cells #[.int .i64 k, .int .i64 z, .int .i64 l, .int .i64 h, .int .i64 t, .slice A n c] 24)).alloc (.cells #[.int .u64 0, .slice none 0 0, .slice none 0 0] 29)).alloc (.cells #[.int .i64 0, .int .i64 0] 78) = W at *
    refine (cr_number W p B xs a HC.out z HO.out HS.out).mono ?_
    rintro e X ⟨rfl, hC, g, hsz⟩
    have k1 := K1.out.grew g (by have := HP.out; simp; omega)
    have k2 := K2.out.grew g (by have := HP.out; simp; omega)
    obtain ⟨c0, c1, c2⟩ := k1.three
    obtain ⟨d0, d1⟩ := k2.two
    have f0 := k1.frozen
    have f1 := k2.frozen
    have C2 := Lib.hid hC
    have K1' := Lib.hid k1
    have K2' := Lib.hid k2
    have G2 := Lib.hid (grew_trans (grew_weak G0.out) g)
    clear k1 k2 HC G0 K1 K2 hC g hsz
    go_wp2_with fail
    obtain ⟨r1, r2, r3⟩ := put32 K1'.out K2'.out (by omega) (.int .u64 (num (xs.take z))) (.slice none 0 0) (.slice none 0 0) (.int .i64 0) (.int .i64 0)
    refine bodyPost_ret (results_cells rfl _ _ _ _ _ _ _ _ _ _ _ _ rfl r1 Try.underlying29 rfl (by kernel_rfl) rfl r2 Try.underlying78 rfl (by kernel_rfl)) rfl ?_
    exact gotP_close (v := vN (num (xs.take z))) (k := w.heap.size + 3) G2.out C2.out r3 (by omega) (by omega) HP.out (plainN_in _ (by have := HL.out; omega)) (vN_hi _ _) (by omega) (by omega) rfl (fun _ => ⟨rfl, rfl⟩) rfl

set_option maxRecDepth 100000 in
/-- A call's answer handed on: what is left behind. -/
theorem gotP_hand {B : Nat} {w w1 X Y : World} {p q r : Nat} {xs ys zs : List UInt8} {a b a' : Int} {R S : Rd} {v : Va} (hG : Grew w X (some p)) (hq1 : q < w1.heap.size) (hr1 : r < w1.heap.size) (hC : Cr X p B ys a') (hY : Fr X Y (fun i => i = q ∨ i = r)) (hq : w.heap.size ≤ q) (hr : w.heap.size ≤ r) (hp : p < w.heap.size)
    (hv : v.In X) (hi : v.Hi w1.heap.size) (hn : v.nf = S.v) (hx : S.e = 0 → ys = zs.drop S.n ∧ a' = b + S.n) (hR : R = S.shift (b - a).toNat) (hab : a ≤ b) (hz : zs = xs.drop (b - a).toNat) {V : Value} (hV : V = .tuple #[v.val, fault (faI b S) S.e]) : GotP B w p xs a R (.returned V) Y := by
  have e1 : R.e = S.e := by rw [hR]; rfl
  have e2 : R.n = (b - a).toNat + S.n := by rw [hR]; rfl
  have e3 : R.v = S.v := by rw [hR]; rfl
  refine gotP_close (k := w1.heap.size) hG hC hY hq hr hp hv hi hq1 hr1 (hn.trans e3.symm) (fun h => ?_) ?_
  · rw [e1] at h
    obtain ⟨h1, h2⟩ := hx h
    rw [h1, h2, hz, List.drop_drop, e2]
    exact ⟨rfl, by omega⟩
  · rw [hV]
    have : faI b S = faI a R := by
      unfold faI
      rw [e1, e2]
      split
      · rfl
      · omega
    rw [this, e1]

set_option maxRecDepth 100000 in
theorem shift_zero (R : Rd) : R.shift 0 = R := by cases R; simp [Rd.shift]

set_option maxRecDepth 100000 in
set_option maxHeartbeats 1000000 in
theorem rfixed_any (w : World) (rv : Value) (p B : Nat) (xs : List UInt8) (a : Int) (hc : Cr w p B xs a) (k s l h t : Int) (A : Option Addr) (n c : Nat) (l0 : 0 ≤ l) :
    Calls Try.prog 76 #[rv, .pointer (some ⟨p, 0, none⟩), .agg #[.int .i64 k, .int .i64 s, .int .i64 l, .int .i64 h, .int .i64 t, .slice A n c]] w (GotP B w p xs a (Rd.rdT l.toNat xs)) := by
  obtain ⟨g0, k0, k1, k2, ks⟩ := three_new w #[.int .i64 k, .int .i64 s, .int .i64 l, .int .i64 h, .int .i64 t, .slice A n c] 24 #[.int .u64 0, .slice none 0 0, .slice none 0 0] 29 #[.int .i64 0, .int .i64 0] 78
  have HP := Lib.hid hc.lt
  have HC := Lib.hid (hc.grew g0 (by simp) (fun _ h => by cases h))
  have G0 := Lib.hid g0
  have K1 := Lib.hid k1
  have K2 := Lib.hid k2
  have KS := Lib.hid ks
  obtain ⟨z, rfl⟩ := Int.eq_ofNat_of_zero_le (a := l) l0
  rw [Int.toNat_natCast]
  clear hc g0 k0 k1 k2 ks l0
  go_enter Try.func76, Try.ntmps76
  go_wp2_with fail
  generalize ((w.alloc (.cells #[.int .i64 k, .int .i64 s, .int .i64 z, .int .i64 h, .int .i64 t, .slice A n c] 24)).alloc (.cells #[.int .u64 0, .slice none 0 0, .slice none 0 0] 29)).alloc (.cells #[.int .i64 0, .int .i64 0] 78) = W at *
  refine (rtake_any W p B xs a HC.out z).mono ?_
  rintro e X ⟨v, ys, a', rfl, hv, hi, hn, hC, hx, g⟩
  have k1 := K1.out.grew g (by have := HP.out; simp; omega)
  have k2 := K2.out.grew g (by have := HP.out; simp; omega)
  obtain ⟨c0, c1, c2⟩ := k1.three
  obtain ⟨d0, d1⟩ := k2.two
  have f0 := k1.frozen
  have f1 := k2.frozen
  have C2 := Lib.hid hC
  have K1' := Lib.hid k1
  have K2' := Lib.hid k2
  have G2 := Lib.hid (grew_trans (grew_weak G0.out) g)
  have HV := Lib.hid (show v.In X ∧ v.Hi W.heap.size ∧ v.nf = (Rd.rdT z xs).v ∧ ((Rd.rdT z xs).e = 0 → ys = xs.drop (Rd.rdT z xs).n ∧ a' = a + (Rd.rdT z xs).n) from ⟨hv, hi, hn, hx⟩)
  clear k1 k2 HC G0 K1 K2 hC g hv hi hn hx
  rw [vval_eq]
  unfold fault
  generalize hfa : faI a (Rd.rdT z xs) = fa at *
  generalize hfe : (Rd.rdT z xs).e = fe at *
  have HFA := Lib.hid hfa
  have HFE := Lib.hid hfe
  clear hfa hfe
  go_wp2_with fail
  obtain ⟨r1, r2, r3⟩ := put32 K1'.out K2'.out (by omega) (.int .u64 v.n) (.slice v.B v.bs.length v.d) (.slice v.A v.ls.length v.c) (.int .i64 fa) (.int .i64 fe)
  refine bodyPost_ret (results_cells rfl _ _ _ _ _ _ _ _ _ _ _ _ rfl r1 Try.underlying29 rfl (by kernel_rfl) rfl r2 Try.underlying78 rfl (by kernel_rfl)) rfl ?_
  obtain ⟨hv, hi, hn, hx⟩ := HV.out
  have hsz := KS.out
  refine gotP_hand (b := a) (S := Rd.rdT z xs) (zs := xs) G2.out (by omega) (by omega) C2.out r3 (by omega) (by omega) HP.out hv hi hn (by rw [HFE.out]; exact hx) ?_ (Int.le_refl _) ?_ ?_
  · rw [Int.sub_self, Int.toNat_zero, shift_zero]
  · rw [Int.sub_self, Int.toNat_zero]; rfl
  · rw [HFA.out, HFE.out]; rfl
end Go.Proofs.Ytibbeodcheefaaa

