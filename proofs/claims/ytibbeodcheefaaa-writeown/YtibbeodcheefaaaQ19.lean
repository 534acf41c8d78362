/- Reading: a list whose length is right. -/
import Derived.Test.YtibbeodcheefaaaQ18
import Derived.Laws.OwnMore
namespace Go.Proofs.Ytibbeodcheefaaa
open Go.RowKit Va

set_option maxRecDepth 100000 in
set_option maxHeartbeats 1000000 in
theorem rlist_short (w : World) (rv : Value) (p B : Nat) (xs : List UInt8) (a : Int) (hc : Cr w p B xs a) (k s l h t : Int) (A : Option Addr) (n c : Nat) (s1 : 1 ≤ s) (s3 : s ≤ 3) (t1 : 1 ≤ t) (hE : Rd.lnE s l h t xs = 0) (hS : (xs.drop s.toNat).length < Rd.lnN s xs) :
    Calls Try.prog 73 #[rv, .pointer (some ⟨p, 0, none⟩), .agg #[.int .i64 k, .int .i64 s, .int .i64 l, .int .i64 h, .int .i64 t, .slice A n c]] w (GotP B w p xs a ⟨4, xs.length, v0, 0⟩) := by
  obtain ⟨g0, k0, k1, k2, ks⟩ := three_new w #[.int .i64 k, .int .i64 s, .int .i64 l, .int .i64 h, .int .i64 t, .slice A n c] 24 #[.int .u64 0, .slice none 0 0, .slice none 0 0] 29 #[.int .i64 0, .int .i64 0] 78
  have HP := Lib.hid hc.lt
  have HC := Lib.hid (hc.grew g0 (by simp) (fun _ h => by cases h))
  have G0 := Lib.hid g0
  have K1 := Lib.hid k1
  have K2 := Lib.hid k2
  have KS := Lib.hid ks
  have HL := Lib.hid (fun (W : World) (h0 : Cr W p B xs a) => rlength_any W p B xs a h0 k s l h t A n c s1 s3 t1)
  have HS := Lib.hid hS
  have HLN := Lib.hid (show s.toNat ≤ xs.length by
    unfold Rd.lnE at hE
    split at hE
    · omega
    · omega)
  clear hc g0 k0 k1 k2 ks s1 s3 t1 hS
  go_enter Try.func73, Try.ntmps73
  go_wp2_with fail
  generalize ((w.alloc (.cells #[.int .i64 k, .int .i64 s, .int .i64 l, .int .i64 h, .int .i64 t, .slice A n c] 24)).alloc (.cells #[.int .u64 0, .slice none 0 0, .slice none 0 0] 29)).alloc (.cells #[.int .i64 0, .int .i64 0] 78) = W at *
  refine (HL.out W HC.out).mono ?_
  rintro e X ⟨x, y, ys, a', rfl, hC, hx, -, g⟩
  obtain ⟨rfl, rfl, rfl, rfl⟩ := hx hE
  rw [hE]
  have HX := Lib.hid (show w.heap.size + 3 ≤ X.heap.size by rw [← KS.out]; exact g.size)
  have k1 := (K1.out.grew g (by have := HP.out; simp; omega)).grew (grew_alloc (grew_refl X none) (.cells #[.int .i64 0, .int .i64 0] 78)) (by simp)
  have k2 := (K2.out.grew g (by have := HP.out; simp; omega)).grew (grew_alloc (grew_refl X none) (.cells #[.int .i64 0, .int .i64 0] 78)) (by simp)
  have C2 := Lib.hid (hC.grew (grew_alloc (grew_refl X none) (.cells #[.int .i64 0, .int .i64 0] 78)) (by simp) (fun _ h => by cases h))
  have G2 := Lib.hid (grew_alloc (grew_trans (grew_weak G0.out) g) (.cells #[.int .i64 0, .int .i64 0] 78))
  clear hC hx g HC G0 K1 K2 HL hE
  unfold fault
  have K1' := Lib.hid k1
  have K2' := Lib.hid k2
  clear k1 k2
  go_wp2_with fail
  generalize X.alloc (.cells #[.int .i64 0, .int .i64 0] 78) = Z at *
  generalize X.heap.size = z3 at *
  refine (cr_sub_short Z p B (xs.drop s.toNat) (a + s.toNat) C2.out (Rd.lnN s xs) (by have := HS.out; omega)).mono ?_
  rintro e w1 ⟨rfl, rfl⟩
  go_wp2_with fail
  refine (cr_end Z p B (xs.drop s.toNat) (a + s.toNat) C2.out).mono ?_
  rintro e w1 ⟨rfl, m, rfl⟩
  have he : a + (s.toNat : Int) + ((xs.drop s.toNat).length : Int) = a + xs.length := by have := HLN.out; rw [List.length_drop]; omega
  rw [he]
  have k1 := K1'.out.grew (grew_drewN (grew_refl _ none) m) (by simp)
  have k2 := K2'.out.grew (grew_drewN (grew_refl _ none) m) (by simp)
  obtain ⟨c0, c1, c2⟩ := k1.three
  obtain ⟨d0, d1⟩ := k2.two
  have f0 := k1.frozen
  have f1 := k2.frozen
  have C3 := Lib.hid (C2.out.drewN m)
  have K1'' := Lib.hid k1
  have K2'' := Lib.hid k2
  have G3 := Lib.hid (grew_drewN G2.out m)
  clear k1 k2 C2 G2 K1' K2' he
  generalize Z.drewN m = Y at *
  go_wp2_with fail
  obtain ⟨r1, r2, r3⟩ := put32 K1''.out K2''.out (by omega) (.int .u64 0) (.slice none 0 0) (.slice none 0 0) (.int .i64 (a + xs.length)) (.int .i64 4)
  refine bodyPost_ret (results_cells rfl _ _ _ _ _ _ _ _ _ _ _ _ rfl r1 Try.underlying29 rfl (by kernel_rfl) rfl r2 Try.underlying78 rfl (by kernel_rfl)) rfl ?_
  exact gotP_close (v := v0) (k := w.heap.size + 3) G3.out C3.out r3 (by omega) (by omega) HP.out (v0_in _) (v0_hi _) (by omega) (by omega) rfl (fun h => by cases h) rfl
end Go.Proofs.Ytibbeodcheefaaa

