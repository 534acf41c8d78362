/- Reading: number, fixed, opaque, rest. -/
import Derived.Test.YtdamjbngopfpkaaRx2
namespace Go.Proofs.Ytdamjbngopfpkaa
open Go.RowKit Va

set_option maxHeartbeats 1000000 in
theorem rnumber_any (w : World) (rv : Value) (p B : Nat) (xs : List UInt8) (a : Int) (hc : Cr w p B xs a) (k s l h t : Int) (A : Option Addr) (n c : Nat) (hs : sizeOk s) :
    Calls Try.prog 44 #[rv, .pointer (some ⟨p, 0, none⟩), .agg #[.int .i64 k, .int .i64 s, .int .i64 l, .int .i64 h, .int .i64 t, .slice A n c]] w (GotP B w p xs a (Rd.rdN s xs)) := by
  obtain ⟨g0, k0, k1, k2, ks⟩ := three_new w #[.int .i64 k, .int .i64 s, .int .i64 l, .int .i64 h, .int .i64 t, .slice A n c] 24 #[.int .u64 0, .slice none 0 0, .slice none 0 0] 35 #[.int .i64 0, .int .i64 0] 62
  have HP := Lib.hid hc.lt
  have HC := Lib.hid (hc.grew g0 (by simp) (fun _ h => by cases h))
  have G0 := Lib.hid g0
  have K1 := Lib.hid k1
  have K2 := Lib.hid k2
  have HO := Lib.hid hs
  obtain ⟨z, rfl⟩ := Int.eq_ofNat_of_zero_le (a := s) (by unfold sizeOk at hs; omega)
  have HZ := Lib.hid (show z ≤ 8 by unfold sizeOk at hs; omega)
  clear hc g0 k0 k1 k2 ks hs
  by_cases hs : (xs.length : Int) < z
  · have e : Rd.rdN z xs = ⟨4, xs.length, v0, 0⟩ := by unfold Rd.rdN; rw [if_pos hs]
    rw [e]
    have HS := Lib.hid hs
    clear e hs
    go_enter Try.func44, Try.ntmps44
    go_wp2_with fail
    generalize ((w.alloc (.cells #[.int .i64 k, .int .i64 z, .int .i64 l, .int .i64 h, .int .i64 t, .slice A n c] 24)).alloc (.cells #[.int .u64 0, .slice none 0 0, .slice none 0 0] 35)).alloc (.cells #[.int .i64 0, .int .i64 0] 62) = W at *
    refine (cr_number_short W p B xs a HC.out z HO.out HS.out).mono ?_
    rintro e w1 ⟨rfl, rfl⟩
    go_wp2_with fail
    refine (cr_end W p B xs a HC.out).mono ?_
    rintro e w1 ⟨rfl, m, rfl⟩
    have k1 := K1.out.grew (grew_drewN (grew_refl _ none) m) (by simp)
    have k2 := K2.out.grew (grew_drewN (grew_refl _ none) m) (by simp)
    obtain ⟨c0, c1, c2⟩ := k1.three
    obtain ⟨d0, d1⟩ := k2.two
    have f0 := k1.frozen
    have f1 := k2.frozen
    have C2 := Lib.hid (HC.out.drewN m)
    have K1' := Lib.hid k1
    have K2' := Lib.hid k2
    have G2 := Lib.hid (grew_drewN G0.out m)
    clear k1 k2 HC G0 K1 K2
    generalize W.drewN m = X at *
    go_wp2_with fail
    obtain ⟨r1, r2, r3⟩ := put32 K1'.out K2'.out (by omega) (.int .u64 0) (.slice none 0 0) (.slice none 0 0) (.int .i64 (a + xs.length)) (.int .i64 4)
    refine bodyPost_ret (results_cells rfl _ _ _ _ _ _ _ _ _ _ _ _ rfl r1 Try.underlying35 rfl (by kernel_rfl) rfl r2 Try.underlying62 rfl (by kernel_rfl)) rfl ?_
    exact gotP_close (v := v0) (k := w.heap.size + 3) (grew_weak G2.out) C2.out r3 (by omega) (by omega) HP.out (v0_in _) (v0_hi _) (by omega) (by omega) rfl (fun h => by cases h) rfl
  · have e : Rd.rdN z xs = ⟨0, z, vN (num (xs.take z)), 0⟩ := by unfold Rd.rdN; rw [if_neg hs, Int.toNat_natCast]
    rw [e]
    have hlt : num (xs.take z) ≤ 18446744073709551615 := by
      have h1 := num_lt (xs.take z)
      have h2 : (xs.take z).length ≤ 8 := by have := HZ.out; rw [List.length_take]; omega
      have h3 : 256 ^ (xs.take z).length ≤ 256 ^ 8 := Nat.pow_le_pow_right (by omega) h2
      omega
    have HL := Lib.hid hlt
    have HS := Lib.hid (show z ≤ xs.length by omega)
    clear e hs hlt
    go_enter Try.func44, Try.ntmps44
    go_wp2_with fail
    generalize ((w.alloc (.cells #[.int .i64 k, .int .i64 z, .int .i64 l, .int .i64 h, .int .i64 t, .slice A n c] 24)).alloc (.cells #[.int .u64 0, .slice none 0 0, .slice none 0 0] 35)).alloc (.cells #[.int .i64 0, .int .i64 0] 62) = W at *
    refine (cr_number W p B xs a HC.out z HO.out HS.out).mono ?_
    rintro e X ⟨rfl, hC, g, hsz⟩
    have k1 := K1.out.grew g (by have := HP.out; simp; omega)
    have k2 := K2.out.grew g (by have := HP.out; simp; omega)
    obtain ⟨c0, c1, c2⟩ := k1.three
    obtain ⟨d0, d1⟩ := k2.two
    have f0 := k1.frozen
    have f1 := k2.frozen
    have C2 := Lib.hid hC
    have K1' := Lib.hid k1
    have K2' := Lib.hid k2
    have G2 := Lib.hid (grew_trans (grew_weak G0.out) g)
    clear k1 k2 HC G0 K1 K2 hC g hsz
    go_wp2_with fail
    obtain ⟨r1, r2, r3⟩ := put32 K1'.out K2'.out (by omega) (.int .u64 (num (xs.take z))) (.slice none 0 0) (.slice none 0 0) (.int .i64 0) (.int .i64 0)
    refine bodyPost_ret (results_cells rfl _ _ _ _ _ _ _ _ _ _ _ _ rfl r1 Try.underlying35 rfl (by kernel_rfl) rfl r2 Try.underlying62 rfl (by kernel_rfl)) rfl ?_
    exact gotP_close (v := vN (num (xs.take z))) (k := w.heap.size + 3) G2.out C2.out r3 (by omega) (by omega) HP.out (plainN_in _ (by have := HL.out; omega)) (vN_hi _ _) (by omega) (by omega) rfl (fun _ => ⟨rfl, rfl⟩) rfl

/-- A call's answer handed on: what is left behind. -/
theorem gotP_hand {B : Nat} {w w1 X Y : World} {p q r : Nat} {xs ys zs : List UInt8} {a b a' : Int} {R S : Rd} {v : Va} (hG : Grew w X (some p)) (hq1 : q < w1.heap.size) (hr1 : r < w1.heap.size) (hC : Cr X p B ys a') (hY : Fr X Y (fun i => i = q ∨ i = r)) (hq : w.heap.size ≤ q) (hr : w.heap.size ≤ r) (hp : p < w.heap.size)
    (hv : v.In X) (hi : v.Hi w1.heap.size) (hn : v.nf = S.v) (hx : S.e = 0 → ys = zs.drop S.n ∧ a' = b + S.n) (hR : R = S.shift (b - a).toNat) (hab : a ≤ b) (hz : zs = xs.drop (b - a).toNat) {V : Value} (hV : V = .tuple #[v.val, fault (faI b S) S.e]) : GotP B w p xs a R (.returned V) Y := by
  have e1 : R.e = S.e := by rw [hR]; rfl
  have e2 : R.n = (b - a).toNat + S.n := by rw [hR]; rfl
  have e3 : R.v = S.v := by rw [hR]; rfl
  refine gotP_close (k := w1.heap.size) hG hC hY hq hr hp hv hi hq1 hr1 (hn.trans e3.symm) (fun h => ?_) ?_
  · rw [e1] at h
    obtain ⟨h1, h2⟩ := hx h
    rw [h1, h2, hz, List.drop_drop, e2]
    exact ⟨rfl, by omega⟩
  · rw [hV]
    have : faI b S = faI a R := by
      unfold faI
      rw [e1, e2]
      split
      · rfl
      · omega
    rw [this, e1]

theorem shift_zero (R : Rd) : R.shift 0 = R := by cases R; simp [Rd.shift]

set_option maxHeartbeats 1000000 in
theorem rfixed_any (w : World) (rv : Value) (p B : Nat) (xs : List UInt8) (a : Int) (hc : Cr w p B xs a) (k s l h t : Int) (A : Option Addr) (n c : Nat) (l0 : 0 ≤ l) :
    Calls Try.prog 49 #[rv, .pointer (some ⟨p, 0, none⟩), .agg #[.int .i64 k, .int .i64 s, .int .i64 l, .int .i64 h, .int .i64 t, .slice A n c]] w (GotP B w p xs a (Rd.rdT l.toNat xs)) := by
  obtain ⟨g0, k0, k1, k2, ks⟩ := three_new w #[.int .i64 k, .int .i64 s, .int .i64 l, .int .i64 h, .int .i64 t, .slice A n c] 24 #[.int .u64 0, .slice none 0 0, .slice none 0 0] 35 #[.int .i64 0, .int .i64 0] 62
  have HP := Lib.hid hc.lt
  have HC := Lib.hid (hc.grew g0 (by simp) (fun _ h => by cases h))
  have G0 := Lib.hid g0
  have K1 := Lib.hid k1
  have K2 := Lib.hid k2
  have KS := Lib.hid ks
  obtain ⟨z, rfl⟩ := Int.eq_ofNat_of_zero_le (a := l) l0
  rw [Int.toNat_natCast]
  clear hc g0 k0 k1 k2 ks l0
  go_enter Try.func49, Try.ntmps49
  go_wp2_with fail
  generalize ((w.alloc (.cells #[.int .i64 k, .int .i64 s, .int .i64 z, .int .i64 h, .int .i64 t, .slice A n c] 24)).alloc (.cells #[.int .u64 0, .slice none 0 0, .slice none 0 0] 35)).alloc (.cells #[.int .i64 0, .int .i64 0] 62) = W at *
  refine (rtake_any W p B xs a HC.out z).mono ?_
  rintro e X ⟨v, ys, a', rfl, hv, hi, hn, hC, hx, g⟩
  have k1 := K1.out.grew g (by have := HP.out; simp; omega)
  have k2 := K2.out.grew g (by have := HP.out; simp; omega)
  obtain ⟨c0, c1, c2⟩ := k1.three
  obtain ⟨d0, d1⟩ := k2.two
  have f0 := k1.frozen
  have f1 := k2.frozen
  have C2 := Lib.hid hC
  have K1' := Lib.hid k1
  have K2' := Lib.hid k2
  have G2 := Lib.hid (grew_trans (grew_weak G0.out) g)
  have HV := Lib.hid (show v.In X ∧ v.Hi W.heap.size ∧ v.nf = (Rd.rdT z xs).v ∧ ((Rd.rdT z xs).e = 0 → ys = xs.drop (Rd.rdT z xs).n ∧ a' = a + (Rd.rdT z xs).n) from ⟨hv, hi, hn, hx⟩)
  clear k1 k2 HC G0 K1 K2 hC g hv hi hn hx
  rw [vval_eq]
  unfold fault
  generalize hfa : faI a (Rd.rdT z xs) = fa at *
  generalize hfe : (Rd.rdT z xs).e = fe at *
  have HFA := Lib.hid hfa
  have HFE := Lib.hid hfe
  clear hfa hfe
  go_wp2_with fail
  obtain ⟨r1, r2, r3⟩ := put32 K1'.out K2'.out (by omega) (.int .u64 v.n) (.slice v.B v.bs.length v.d) (.slice v.A v.ls.length v.c) (.int .i64 fa) (.int .i64 fe)
  refine bodyPost_ret (results_cells rfl _ _ _ _ _ _ _ _ _ _ _ _ rfl r1 Try.underlying35 rfl (by kernel_rfl) rfl r2 Try.underlying62 rfl (by kernel_rfl)) rfl ?_
  obtain ⟨hv, hi, hn, hx⟩ := HV.out
  have hsz := KS.out
  refine gotP_hand (b := a) (S := Rd.rdT z xs) (zs := xs) G2.out (by omega) (by omega) C2.out r3 (by omega) (by omega) HP.out hv hi hn (by rw [HFE.out]; exact hx) ?_ (Int.le_refl _) ?_ ?_
  · rw [Int.sub_self, Int.toNat_zero, shift_zero]
  · rw [Int.sub_self, Int.toNat_zero]; rfl
  · rw [HFA.out, HFE.out]; rfl
end Go.Proofs.Ytdamjbngopfpkaa

