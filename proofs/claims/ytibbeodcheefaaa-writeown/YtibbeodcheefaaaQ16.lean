/- Reading: opaque, rest. -/
import Derived.Test.YtibbeodcheefaaaQ15
import Derived.RegionTactic
import Derived.BigRegion
namespace Go.Proofs.Ytibbeodcheefaaa
open Go.RowKit Va

set_option maxRecDepth 100000 in
set_option maxHeartbeats 1000000 in
theorem ropaque_any (w : World) (rv : Value) (p B : Nat) (xs : List UInt8) (a : Int) (hc : Cr w p B xs a) (k s l h t : Int) (A : Option Addr) (n c : Nat) (s1 : 1 ≤ s) (s3 : s ≤ 3) (t1 : 1 ≤ t) :
    Calls Try.prog 72 #[rv, .pointer (some ⟨p, 0, none⟩), .agg #[.int .i64 k, .int .i64 s, .int .i64 l, .int .i64 h, .int .i64 t, .slice A n c]] w (GotP B w p xs a (Rd.rdO s l h t xs)) := by
  obtain ⟨g0, k0, k1, k2, ks⟩ := three_new w #[.int .i64 k, .int .i64 s, .int .i64 l, .int .i64 h, .int .i64 t, .slice A n c] 24 #[.int .u64 0, .slice none 0 0, .slice none 0 0] 29 #[.int .i64 0, .int .i64 0] 78
  have HP := Lib.hid hc.lt
  have HC := Lib.hid (hc.grew g0 (by simp) (fun _ h => by cases h))
  have G0 := Lib.hid g0
  have K1 := Lib.hid k1
  have K2 := Lib.hid k2
  have KS := Lib.hid ks
  have HL := Lib.hid (fun (W : World) (h0 : Cr W p B xs a) => rlength_any W p B xs a h0 k s l h t A n c s1 s3 t1)
  have S1 := Lib.hid s1
  clear hc g0 k0 k1 k2 ks s1 s3 t1
  by_cases hE : Rd.lnE s l h t xs = 0
  · have e : Rd.rdO s l h t xs = (Rd.rdT (Rd.lnN s xs) (xs.drop s.toNat)).shift s.toNat := by unfold Rd.rdO; rw [if_pos hE]
    rw [e]
    have HN := Lib.hid hE
    clear e
    go_enter Try.func72, Try.ntmps72
    go_wp2_with fail
    generalize ((w.alloc (.cells #[.int .i64 k, .int .i64 s, .int .i64 l, .int .i64 h, .int .i64 t, .slice A n c] 24)).alloc (.cells #[.int .u64 0, .slice none 0 0, .slice none 0 0] 29)).alloc (.cells #[.int .i64 0, .int .i64 0] 78) = W at *
    refine (HL.out W HC.out).mono ?_
    rintro e X ⟨x, y, ys, a', rfl, hC, hx, -, g⟩
    obtain ⟨rfl, rfl, rfl, rfl⟩ := hx hE
    rw [hE]
    have HX := Lib.hid (show w.heap.size + 3 ≤ X.heap.size by rw [← KS.out]; exact g.size)
    have k1 := (K1.out.grew g (by have := HP.out; simp; omega)).grew (grew_alloc (grew_refl X none) (.cells #[.int .i64 0, .int .i64 0] 78)) (by simp)
    have k2 := (K2.out.grew g (by have := HP.out; simp; omega)).grew (grew_alloc (grew_refl X none) (.cells #[.int .i64 0, .int .i64 0] 78)) (by simp)
    have C2 := Lib.hid (hC.grew (grew_alloc (grew_refl X none) (.cells #[.int .i64 0, .int .i64 0] 78)) (by simp) (fun _ h => by cases h))
    have G2 := Lib.hid (grew_alloc (grew_trans (grew_weak G0.out) g) (.cells #[.int .i64 0, .int .i64 0] 78))
    have Z1 := Lib.hid (show X.heap.size < (X.alloc (.cells #[.int .i64 0, .int .i64 0] 78)).heap.size by simp)
    clear hC hx g HC G0 K1 K2 HL hE
    unfold fault
    have K1' := Lib.hid k1
    have K2' := Lib.hid k2
    clear k1 k2
    go_wp2_with fail
    generalize X.alloc (.cells #[.int .i64 0, .int .i64 0] 78) = Z at *
    generalize X.heap.size = z3 at *
    refine (rtake_any Z p B (xs.drop s.toNat) (a + s.toNat) C2.out (Rd.lnN s xs)).mono ?_
    rintro e Y ⟨v, ys, a', rfl, hv, hi, hn, hC, hx, g⟩
    have k1 := K1'.out.grew g (by have := HP.out; simp; omega)
    have k2 := K2'.out.grew g (by have := HP.out; simp; omega)
    obtain ⟨c0, c1, c2⟩ := k1.three
    obtain ⟨d0, d1⟩ := k2.two
    have f0 := k1.frozen
    have f1 := k2.frozen
    have C3 := Lib.hid hC
    have K1'' := Lib.hid k1
    have K2'' := Lib.hid k2
    have G3 := Lib.hid (grew_trans G2.out g)
    generalize hR : Rd.rdT (Rd.lnN s xs) (xs.drop s.toNat) = R at *
    have HV := Lib.hid (show v.In Y ∧ v.Hi Z.heap.size ∧ v.nf = R.v ∧ (R.e = 0 → ys = (xs.drop s.toNat).drop R.n ∧ a' = a + s.toNat + R.n) from ⟨hv, hi, hn, hx⟩)
    clear k1 k2 C2 G2 K1' K2' hC g hv hi hn hx hR
    rw [vval_eq]
    unfold fault
    generalize hfa : faI (a + s.toNat) R = fa at *
    generalize hfe : R.e = fe at *
    have HFA := Lib.hid hfa
    have HFE := Lib.hid hfe
    clear hfa hfe
    go_wp2_with fail
    obtain ⟨r1, r2, r3⟩ := put32 K1''.out K2''.out (by omega) (.int .u64 v.n) (.slice v.B v.bs.length v.d) (.slice v.A v.ls.length v.c) (.int .i64 fa) (.int .i64 fe)
    refine bodyPost_ret (results_cells rfl _ _ _ _ _ _ _ _ _ _ _ _ rfl r1 Try.underlying29 rfl (by kernel_rfl) rfl r2 Try.underlying78 rfl (by kernel_rfl)) rfl ?_
    obtain ⟨hv, hi, hn, hx⟩ := HV.out
    have hz1 := Z1.out
    have hz3 := HX.out
    have hs1 := S1.out
    have hba : (a + (s.toNat : Int) - a).toNat = s.toNat := by omega
    refine gotP_hand (b := a + s.toNat) (S := R) (zs := xs.drop s.toNat) G3.out (by omega) (by omega) C3.out r3 (by omega) (by omega) HP.out hv hi hn (by rw [HFE.out]; exact hx) ?_ (by omega) ?_ ?_
    · rw [hba]
    · rw [hba]
    · rw [HFA.out, HFE.out]; rfl
  · have e : Rd.rdO s l h t xs = ⟨Rd.lnE s l h t xs, Rd.lnA s xs, v0, 0⟩ := by unfold Rd.rdO; rw [if_neg hE]
    rw [e]
    have HN := Lib.hid hE
    clear e
    go_enter Try.func72, Try.ntmps72
    go_wp2_with fail
    generalize ((w.alloc (.cells #[.int .i64 k, .int .i64 s, .int .i64 l, .int .i64 h, .int .i64 t, .slice A n c] 24)).alloc (.cells #[.int .u64 0, .slice none 0 0, .slice none 0 0] 29)).alloc (.cells #[.int .i64 0, .int .i64 0] 78) = W at *
    refine (HL.out W HC.out).mono ?_
    rintro e X ⟨x, y, ys, a', rfl, hC, -, hy, g⟩
    have hy' := hy hE
    have HY := Lib.hid hy'
    have HX := Lib.hid (show w.heap.size + 3 ≤ X.heap.size by rw [← KS.out]; exact g.size)
    have k1 := (K1.out.grew g (by have := HP.out; simp; omega)).grew (grew_alloc (grew_refl X none) (.cells #[.int .i64 y, .int .i64 (Rd.lnE s l h t xs)] 78)) (by simp)
    have k2 := (K2.out.grew g (by have := HP.out; simp; omega)).grew (grew_alloc (grew_refl X none) (.cells #[.int .i64 y, .int .i64 (Rd.lnE s l h t xs)] 78)) (by simp)
    have k3 := Whole.new X #[.int .i64 y, .int .i64 (Rd.lnE s l h t xs)] 78
    have C2 := Lib.hid (hC.grew (grew_alloc (grew_refl X none) (.cells #[.int .i64 y, .int .i64 (Rd.lnE s l h t xs)] 78)) (by simp) (fun _ h => by cases h))
    have G2 := Lib.hid (grew_alloc (grew_trans (grew_weak G0.out) g) (.cells #[.int .i64 y, .int .i64 (Rd.lnE s l h t xs)] 78))
    clear hC hy hy' g HC G0 K1 K2 HL
    unfold fault
    have K1' := Lib.hid k1
    have K2' := Lib.hid k2
    have K3' := Lib.hid k3
    clear k1 k2 k3
    go_upto_region 3 with (fail)
    generalize X.alloc (.cells #[.int .i64 y, .int .i64 (Rd.lnE s l h t xs)] 78) = Z at *
    generalize X.heap.size = z3 at *
    obtain ⟨c0, c1, c2⟩ := K1'.out.three
    obtain ⟨d0, d1⟩ := K2'.out.two
    obtain ⟨e0, e1⟩ := K3'.out.two
    have f0 := K1'.out.frozen
    have f1 := K2'.out.frozen
    have n1 : ¬ z3 = w.heap.size + 1 := by have := HX.out; omega
    have n2 : ¬ w.heap.size + 1 = z3 := by have := HX.out; omega
    go_region
    go_wp2_with fail
    obtain ⟨r1, r2, r3⟩ := put32 K1'.out K2'.out (by omega) (.int .u64 0) (.slice none 0 0) (.slice none 0 0) (.int .i64 y) (.int .i64 (Rd.lnE s l h t xs))
    refine bodyPost_ret (results_cells rfl _ _ _ _ _ _ _ _ _ _ _ _ rfl r1 Try.underlying29 rfl (by kernel_rfl) rfl r2 Try.underlying78 rfl (by kernel_rfl)) rfl ?_
    exact gotP_close (v := v0) (k := w.heap.size + 3) G2.out C2.out r3.drew (by omega) (by omega) HP.out (v0_in _) (v0_hi _) (by omega) (by omega) rfl (fun h => absurd h HN.out) (by rw [HY.out]; unfold faI; rw [if_neg HN.out]; rfl)

/-- The end of a region behind which the results are handed out. -/
def AtEnd (v6 v7 : Value) (Y0 : World) : Exit → Act → World → Prop
  | .normal, a', Y => a'.tmps.getD 6 undef = v6 ∧ a'.tmps.getD 7 undef = v7 ∧ a'.defers = [] ∧ Y = Y0
  | _, _, _ => False
set_option maxRecDepth 100000 in
theorem AtEnd.out {v6 v7 : Value} {Y0 : World} {e : Exit} {a' : Act} {Y : World} (h : AtEnd v6 v7 Y0 e a' Y) : e = .normal ∧ a'.tmps.getD 6 undef = v6 ∧ a'.tmps.getD 7 undef = v7 ∧ a'.defers = [] ∧ Y = Y0 := by
  cases e <;> first | exact ⟨rfl, h⟩ | exact h.elim

set_option maxRecDepth 100000 in
set_option maxHeartbeats 2000000 in
theorem rrest_any (w : World) (rv : Value) (p B : Nat) (xs : List UInt8) (a : Int) (hc : Cr w p B xs a) (k s l h t : Int) (A : Option Addr) (n c : Nat) (h0 : 0 ≤ h) :
    Calls Try.prog 75 #[rv, .pointer (some ⟨p, 0, none⟩), .agg #[.int .i64 k, .int .i64 s, .int .i64 l, .int .i64 h, .int .i64 t, .slice A n c]] w (GotP B w p xs a (Rd.rdR l h xs)) := by
  obtain ⟨g0, k0, k1, k2, ks⟩ := three_new w #[.int .i64 k, .int .i64 s, .int .i64 l, .int .i64 h, .int .i64 t, .slice A n c] 24 #[.int .u64 0, .slice none 0 0, .slice none 0 0] 29 #[.int .i64 0, .int .i64 0] 78
  have HP := Lib.hid hc.lt
  have HB := Lib.hid (show 0 ≤ a ∧ a + xs.length ≤ 4611686018427387904 from ⟨hc.2.1, hc.2.2.1⟩)
  have HC := Lib.hid (hc.grew g0 (by simp) (fun _ h => by cases h))
  have G0 := Lib.hid g0
  have K0 := Lib.hid k0
  have K1 := Lib.hid k1
  have K2 := Lib.hid k2
  have KS := Lib.hid ks
  clear hc g0 k0 k1 k2 ks
  by_cases h1 : (xs.length : Int) < l
  · have e : Rd.rdR l h xs = ⟨4, xs.length, v0, 0⟩ := by unfold Rd.rdR; rw [if_pos h1]
    rw [e]
    clear e
    go_enter Try.func75, Try.ntmps75
    go_wp2_with fail
    generalize ((w.alloc (.cells #[.int .i64 k, .int .i64 s, .int .i64 l, .int .i64 h, .int .i64 t, .slice A n c] 24)).alloc (.cells #[.int .u64 0, .slice none 0 0, .slice none 0 0] 29)).alloc (.cells #[.int .i64 0, .int .i64 0] 78) = W at *
    refine (cr_left W p B xs a HC.out).mono ?_
    rintro e w1 ⟨rfl, rfl⟩
    obtain ⟨b0, b1, b2, b3, b4, b5⟩ := K0.out.six
    go_wp2_with fail
    refine (cr_end W p B xs a HC.out).mono ?_
    rintro e w1 ⟨rfl, m, rfl⟩
    clear b0 b1 b2 b3 b4 b5
    have k1 := K1.out.grew (grew_drewN (grew_refl _ none) m) (by simp)
    have k2 := K2.out.grew (grew_drewN (grew_refl _ none) m) (by simp)
    obtain ⟨c0, c1, c2⟩ := k1.three
    obtain ⟨d0, d1⟩ := k2.two
    have f0 := k1.frozen
    have f1 := k2.frozen
    have C2 := Lib.hid (HC.out.drewN m)
    have K1' := Lib.hid k1
    have K2' := Lib.hid k2
    have G2 := Lib.hid (grew_drewN G0.out m)
    clear k1 k2 HC G0 K1 K2
    generalize W.drewN m = X at *
    go_wp2_with fail
    obtain ⟨r1, r2, r3⟩ := put32 K1'.out K2'.out (by omega) (.int .u64 0) (.slice none 0 0) (.slice none 0 0) (.int .i64 (a + xs.length)) (.int .i64 4)
    refine bodyPost_ret (results_cells rfl _ _ _ _ _ _ _ _ _ _ _ _ rfl r1 Try.underlying29 rfl (by kernel_rfl) rfl r2 Try.underlying78 rfl (by kernel_rfl)) rfl ?_
    exact gotP_close (v := v0) (k := w.heap.size + 3) (grew_weak G2.out) C2.out r3 (by omega) (by omega) HP.out (v0_in _) (v0_hi _) (by omega) (by omega) rfl (fun h => by cases h) rfl
  · by_cases h2 : h < (xs.length : Int)
    · have e : Rd.rdR l h xs = ⟨6, h.toNat, v0, 0⟩ := by unfold Rd.rdR; rw [if_neg h1, if_pos h2]
      rw [e]
      clear e
      obtain ⟨hb1, hb2⟩ := HB.out
      have hah : a + h ≤ 4611686018427387904 := by omega
      go_enter Try.func75, Try.ntmps75
      go_wp2_with fail
      generalize ((w.alloc (.cells #[.int .i64 k, .int .i64 s, .int .i64 l, .int .i64 h, .int .i64 t, .slice A n c] 24)).alloc (.cells #[.int .u64 0, .slice none 0 0, .slice none 0 0] 29)).alloc (.cells #[.int .i64 0, .int .i64 0] 78) = W at *
      refine (cr_left W p B xs a HC.out).mono ?_
      rintro e w1 ⟨rfl, rfl⟩
      obtain ⟨b0, b1, b2, b3, b4, b5⟩ := K0.out.six
      obtain ⟨c0, c1, c2⟩ := K1.out.three
      obtain ⟨d0, d1⟩ := K2.out.two
      have f0 := K1.out.frozen
      have f1 := K2.out.frozen
      have hw : IntKind.i64.wrap (a + h) = a + h := IntWalk.i64_in _ (by omega)
      go_upto_region 5 with (fail)
      refine Code.wp_mono (Q := AtEnd (.pointer (some ⟨w.heap.size + 1, 0, none⟩)) (.pointer (some ⟨w.heap.size + 2, 0, none⟩)) (put2 (put3 W (w.heap.size + 1) (.int .u64 0) (.slice none 0 0) (.slice none 0 0)) (w.heap.size + 2) (.int .i64 (a + h)) (.int .i64 6)).drew) (fun e a' Y hq => ?_) ?_
      · obtain ⟨rfl, q6, q7, q8, rfl⟩ := hq.out
        clear b0 b1 b2 b3 b4 b5 c0 c1 c2 d0 d1 f0 f1
        obtain ⟨r1, r2, r3⟩ := put32 K1.out K2.out (by omega) (.int .u64 0) (.slice none 0 0) (.slice none 0 0) (.int .i64 (a + h)) (.int .i64 6)
        have Q6 := Lib.hid q6
        have Q7 := Lib.hid q7
        clear q6 q7
        go_wp2_with fail
        refine bodyPost_ret (results_cells rfl _ _ _ _ _ _ _ _ _ _ _ _ Q6.out r1 Try.underlying29 rfl (by kernel_rfl) Q7.out r2 Try.underlying78 rfl (by kernel_rfl)) q8 ?_
        exact gotP_close (v := v0) (k := w.heap.size + 3) (grew_weak G0.out) HC.out r3.drew (by omega) (by omega) HP.out (v0_in _) (v0_hi _) (by omega) (by omega) rfl (fun h => by cases h) (by unfold faI; rw [if_neg (by simp), Int.toNat_of_nonneg h0]; rfl)
      · go_region_with ((go_at_call 42; refine (cr_at _ p B xs a (by exact HC.out)).mono ?_; rintro e w1 ⟨rfl, rfl⟩))
        all_goals exact ⟨rfl, rfl, rfl, rfl⟩
    · have e : Rd.rdR l h xs = Rd.rdT xs.length xs := by unfold Rd.rdR; rw [if_neg h1, if_neg h2]
      rw [e]
      clear e
      go_enter Try.func75, Try.ntmps75
      go_wp2_with fail
      generalize ((w.alloc (.cells #[.int .i64 k, .int .i64 s, .int .i64 l, .int .i64 h, .int .i64 t, .slice A n c] 24)).alloc (.cells #[.int .u64 0, .slice none 0 0, .slice none 0 0] 29)).alloc (.cells #[.int .i64 0, .int .i64 0] 78) = W at *
      refine (cr_left W p B xs a HC.out).mono ?_
      rintro e w1 ⟨rfl, rfl⟩
      obtain ⟨b0, b1, b2, b3, b4, b5⟩ := K0.out.six
      go_wp2_with fail
      clear b0 b1 b2 b3 b4 b5
      refine (rtake_any W p B xs a HC.out xs.length).mono ?_
      rintro e X ⟨v, ys, a', rfl, hv, hi, hn, hC, hx, g⟩
      have k1 := K1.out.grew g (by have := HP.out; simp; omega)
      have k2 := K2.out.grew g (by have := HP.out; simp; omega)
      obtain ⟨c0, c1, c2⟩ := k1.three
      obtain ⟨d0, d1⟩ := k2.two
      have f0 := k1.frozen
      have f1 := k2.frozen
      have C2 := Lib.hid hC
      have K1' := Lib.hid k1
      have K2' := Lib.hid k2
      have G2 := Lib.hid (grew_trans (grew_weak G0.out) g)
      generalize hR : Rd.rdT xs.length xs = R at *
      have HV := Lib.hid (show v.In X ∧ v.Hi W.heap.size ∧ v.nf = R.v ∧ (R.e = 0 → ys = xs.drop R.n ∧ a' = a + R.n) from ⟨hv, hi, hn, hx⟩)
      clear k1 k2 HC G0 K1 K2 hC g hv hi hn hx hR
      rw [vval_eq]
      unfold fault
      generalize hfa : faI a R = fa at *
      generalize hfe : R.e = fe at *
      have HFA := Lib.hid hfa
      have HFE := Lib.hid hfe
      clear hfa hfe
      go_wp2_with fail
      obtain ⟨r1, r2, r3⟩ := put32 K1'.out K2'.out (by omega) (.int .u64 v.n) (.slice v.B v.bs.length v.d) (.slice v.A v.ls.length v.c) (.int .i64 fa) (.int .i64 fe)
      refine bodyPost_ret (results_cells rfl _ _ _ _ _ _ _ _ _ _ _ _ rfl r1 Try.underlying29 rfl (by kernel_rfl) rfl r2 Try.underlying78 rfl (by kernel_rfl)) rfl ?_
      obtain ⟨hv, hi, hn, hx⟩ := HV.out
      have hsz := KS.out
      refine gotP_hand (b := a) (S := R) (zs := xs) G2.out (by omega) (by omega) C2.out r3 (by omega) (by omega) HP.out hv hi hn (by rw [HFE.out]; exact hx) ?_ (Int.le_refl _) ?_ ?_
      · rw [Int.sub_self, Int.toNat_zero, shift_zero]
      · rw [Int.sub_self, Int.toNat_zero]; rfl
      · rw [HFA.out, HFE.out]; rfl
end Go.Proofs.Ytibbeodcheefaaa

