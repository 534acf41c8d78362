/- What is read is put as those bytes; with an error the head is the zero one, and the place lies in the bytes: for every bytes the law returns true, and they read as they did. Condition: the table of the package holds what the program's own text lays there (the card). -/
import Derived.Test.YtbeknillegkidaaDoorLz9
namespace Go.Proofs.YtbeknillegkidaaDoor
open Go.ChangeShapes Go.WideShapes Go.ChangeAt Go.RowKit

theorem enter_alive : ∀ args w, (callFunc 11 args).run Tryd.prog w = .ok (.enter 11 args) w := fun _ _ => by kernel_rfl

set_option maxRecDepth 100000 in
set_option maxHeartbeats 4000000 in
theorem dertagOne_walk (w : World) (A : Option Addr) (c : Nat) (xs : List UInt8) (hl : xs.length ≤ c) (hc : c ≤ 140737488351232) (hb : Byt w w.heap.size A xs) (hL : laidMetH Tryd.prog laidList w) :
    Calls Tryd.prog 6 #[.slice A xs.length c] w fun e w' => e = .returned (.bool true) ∧ Below w.heap.size w w' := by
  have HT := Lib.hid (tb_of_laid hL)
  have HB := Lib.hid hb
  obtain ⟨q, hq⟩ : ∃ q, w.heap.size = q := ⟨_, rfl⟩
  have hq0 : 0 < q := by rw [← hq]; exact HT.out.lt
  have r1 := read_any w HT.out A c xs hb hl hc
  have hgood := rdH_good xs
  obtain ⟨⟨h, k, e⟩, hR⟩ : ∃ R, rdH xs = R := ⟨_, rfl⟩
  rw [hR] at r1 hgood
  dsimp only at r1 hgood
  rw [hq] at r1 ⊢
  have HLC := Lib.hid (And.intro hl hc)
  clear hL hb hR hl hc
  obtain ⟨M, hM⟩ : ∃ M, xs.length = M := ⟨_, rfl⟩
  rcases hgood with ⟨he, rfl, hk⟩ | ⟨rfl, hkd, hlen, rfl, hpre⟩
  · dsimp only [Hd.agg, Hd.z] at r1
    have he' : (e != 0) = true := bne_iff_ne.2 he
    have hk' : (k : Int) ≤ (M : Int) := by omega
    rw [hM] at r1 ⊢
    clear he hk
    go_enter Tryd.func6, Tryd.ntmps6
    go_wp2_with fail
    refine r1.mono ?_
    rintro e w1 ⟨rfl, hB1⟩
    have hs1 : q ≤ w1.heap.size := by rw [← hq]; exact hB1.size
    have K1 := Lib.hid (Whole.new w1 #[.int .i64 0, .int .i64 0, .bool false, .int .i64 0] 24)
    have B1 := Lib.hid (show Below q w (w1.alloc (.cells #[.int .i64 0, .int .i64 0, .bool false, .int .i64 0] 24)) ∧ q ≤ (w1.alloc (.cells #[.int .i64 0, .int .i64 0, .bool false, .int .i64 0] 24)).heap.size from ⟨hB1.alloc hs1 _, by rw [World.size_alloc]; omega⟩)
    obtain ⟨p, hp⟩ : ∃ p, w1.heap.size = p := ⟨_, rfl⟩
    rw [hp] at K1
    clear hB1 hs1 r1
    go_wp2_with fail
    clear hp
    generalize w1.alloc (.cells #[.int .i64 0, .int .i64 0, .bool false, .int .i64 0] 24) = W at *
    refine (alive9_any W (HT.out.below B1.out.1 hq0)).mono ?_
    rintro e w2 ⟨rfl, hB2⟩
    obtain ⟨c0, c1, c2, c3⟩ := whole_head (whole_below K1.out hB2 K1.out.lt)
    have B2 := Lib.hid (B1.out.1.trans (hB2.mono B1.out.2))
    clear hB2 K1 B1
    go_wp2_with fail
    go_ret
    exact ⟨rfl, B2.out⟩
  · have hput := fun W (hW : Tb W) => put_yes W hW h hkd
    obtain ⟨ys, hys⟩ : ∃ ys, putH h = ys := ⟨_, rfl⟩
    have hy0 : 0 < ys.length := by rw [← hys]; simp [putH]
    have hl0 := hlen.1
    have hl1 := hlen.2
    rw [hys] at hput hpre r1
    have htake : xs.take ys.length = ys := (List.prefix_iff_eq_take.1 hpre).symm
    have hyl := hpre.length_le
    obtain ⟨N, hN⟩ : ∃ N, ys.length = N := ⟨_, rfl⟩
    have hx0 : 0 < xs.length := by omega
    obtain ⟨Bb, o, rfl, -, -⟩ := HB.out hx0
    rw [hN] at htake hyl r1
    have HTK := Lib.hid htake
    have HYL := Lib.hid (And.intro hyl (show N ≤ c by have := HLC.out.1; omega))
    have HY0 := Lib.hid hy0
    have HNN := Lib.hid hN
    have HMM := Lib.hid hM
    have HLE := Lib.hid hlen
    obtain ⟨h0, h1, h2, h3⟩ := h
    dsimp only [Hd.agg] at r1 hput
    have HP := Lib.hid hput
    rw [hM] at r1 ⊢
    clear hput hys hy0 hl0 hl1 hpre htake hyl hx0 hN hkd hlen
    go_enter Tryd.func6, Tryd.ntmps6
    go_wp2_with fail
    refine r1.mono ?_
    rintro e w1 ⟨rfl, hB1⟩
    obtain ⟨p, W, hp, hW, hs, hqp, k1, b1, -⟩ := new_block hB1 (by rw [← hq]; exact hB1.size) #[.int .i64 h0, .int .i64 h1, .bool h2, .int .i64 h3] 24
    have HB1 := Lib.hid b1
    have HK1 := Lib.hid k1
    have HS := Lib.hid (show q < W.heap.size by omega)
    have HBY := Lib.hid (byt_below HB.out b1 (by omega))
    clear hB1 k1 b1 hs HB r1
    obtain ⟨c0, c1, c2, c3⟩ := whole_head HK1.out
    go_wp2_with fail
    clear hW hp
    refine (HP.out W (HT.out.below HB1.out hq0)).mono ?_
    rintro e w2 ⟨hor, hB2⟩
    rcases hor with ⟨hbad, -⟩ | ⟨-, v, rfl, own, -⟩
    · exact absurd HLE.out hbad
    obtain ⟨bo, cap, rfl, -, -⟩ := own_slice own HY0.out
    have HBC := Lib.hid (show Byt w2 w2.heap.size (some ⟨bo, 0, none⟩) ys from (own_by own).byt)
    have B2 := Lib.hid (show Below q w w2 ∧ q ≤ w2.heap.size from ⟨HB1.out.trans (hB2.mono (Nat.le_of_lt HS.out)), Nat.le_trans (Nat.le_of_lt HS.out) hB2.size⟩)
    have HBX := Lib.hid (show Byt w2 w2.heap.size (some ⟨Bb, o, none⟩) xs from (byt_below HBY.out hB2 (by have := HS.out; omega)).more (by have := hB2.size; have := HS.out; omega))
    rw [HNN.out]
    clear own hB2 c0 c1 c2 c3 HB1 HK1 HS HBY HP
    go_upto_region 5 with (fail)
    have GS := Lib.hid (show (fun w' => Byt w' w2.heap.size (some ⟨bo, 0, none⟩) ys ∧ Byt w' w2.heap.size (some ⟨Bb, o, none⟩) xs) w2.drew from ⟨HBC.out, HBX.out⟩)
    have BD := Lib.hid (show Below q w w2.drew ∧ q ≤ w2.drew.heap.size from ⟨B2.out.1.drew, B2.out.2⟩)
    have XE := Lib.hid (show w2.heap.size ≤ w2.drew.heap.size from Nat.le_refl _)
    clear HBC B2 HBX
    refine act_letterC (fun A1 hA1 => ?_)
    have d0 : A1.eval (.tmp 0) = .slice (some ⟨Bb, o, none⟩) M c := by rw [← hA1]; rfl
    have d4 : A1.eval (.tmp 4) = .int .i64 (N : Int) := by rw [← hA1]; rfl
    have d6 : A1.eval (.tmp 6) = .slice (some ⟨bo, 0, none⟩) N cap := by rw [← hA1]; rfl
    have d7 : A1.eval (.tmp 7) = .int .i64 0 := by rw [← hA1]; rfl
    have szA1 : A1.tmps.size = 57 := by rw [← hA1]; rfl
    have HA1 := Lib.hid hA1
    clear hA1
    refine wp_region_held (S := fun w' => Byt w' w2.heap.size (some ⟨bo, 0, none⟩) ys ∧ Byt w' w2.heap.size (some ⟨Bb, o, none⟩) xs) (by kernel_rfl) ?_
    change wpAnyH _ _ _ _ _ _ _ _ (World.drew w2)
    refine wpAnyH_ready (rs := [0]) (by kernel_rfl) (by simp) ?_
    refine AllReadyH.cons rfl (fun K hK => ?_) AllReadyH.nil
    refine wp_callG rfl rfl enter_alive (vs := #[]) (by simp) ((alive9_any w2.drew (HT.out.below BD.out.1 hq0)).mono ?_)
    rintro e x1 ⟨rfl, hB1⟩
    refine ⟨_, rfl, hK.out _ _ (⟨byt_below GS.out.1 hB1 XE.out, byt_below GS.out.2 hB1 XE.out⟩) (fun _ => ?_)⟩
    clear hK K
    have S1 := Lib.hid (show (fun w' => Byt w' w2.heap.size (some ⟨bo, 0, none⟩) ys ∧ Byt w' w2.heap.size (some ⟨Bb, o, none⟩) xs) x1 from ⟨byt_below GS.out.1 hB1 XE.out, byt_below GS.out.2 hB1 XE.out⟩)
    have B5 := Lib.hid (BD.out.1.trans (hB1.mono BD.out.2))
    clear hB1
    clear GS
    refine act_letter (fun A2 hA2 => ?_)
    replace d0 : A2.eval (.tmp 0) = .slice (some ⟨Bb, o, none⟩) M c := by rw [← hA2]; exact (ev_ne A1 (m := 37) (n := 0) (.bool true) (by decide)).trans d0
    replace d4 : A2.eval (.tmp 4) = .int .i64 (N : Int) := by rw [← hA2]; exact (ev_ne A1 (m := 37) (n := 4) (.bool true) (by decide)).trans d4
    replace d6 : A2.eval (.tmp 6) = .slice (some ⟨bo, 0, none⟩) N cap := by rw [← hA2]; exact (ev_ne A1 (m := 37) (n := 6) (.bool true) (by decide)).trans d6
    replace d7 : A2.eval (.tmp 7) = .int .i64 0 := by rw [← hA2]; exact (ev_ne A1 (m := 37) (n := 7) (.bool true) (by decide)).trans d7
    have e37 : A2.eval (.tmp 37) = .bool true := by rw [← hA2]; exact ev_self A1 37 (.bool true) (by omega)
    have szA2 : A2.tmps.size = 57 := by rw [← hA2]; exact (sz_put A1 37 (.bool true)).trans szA1
    have HA2 := Lib.hid (show A1.put (some 37) (.bool true) = A2 from hA2)
    clear hA2 szA1
    have d37 := e37
    clear e37
    refine wpAnyH_take (i := 1) (v := .bool true) rfl (by kernel_rfl) (by kernel_rfl) (by kernel_rfl) (fun _ _ _ h => h) (.inl ⟨rfl, fun w g => run_moveV rfl d37 w⟩) S1.out ?_
    refine act_letter (fun A3 hA3 => ?_)
    replace d0 : A3.eval (.tmp 0) = .slice (some ⟨Bb, o, none⟩) M c := by rw [← hA3]; exact (ev_ne A2 (m := 38) (n := 0) (.bool true) (by decide)).trans d0
    replace d4 : A3.eval (.tmp 4) = .int .i64 (N : Int) := by rw [← hA3]; exact (ev_ne A2 (m := 38) (n := 4) (.bool true) (by decide)).trans d4
    replace d6 : A3.eval (.tmp 6) = .slice (some ⟨bo, 0, none⟩) N cap := by rw [← hA3]; exact (ev_ne A2 (m := 38) (n := 6) (.bool true) (by decide)).trans d6
    replace d7 : A3.eval (.tmp 7) = .int .i64 0 := by rw [← hA3]; exact (ev_ne A2 (m := 38) (n := 7) (.bool true) (by decide)).trans d7
    have e38 : A3.eval (.tmp 38) = .bool true := by rw [← hA3]; exact ev_self A2 38 (.bool true) (by omega)
    have szA3 : A3.tmps.size = 57 := by rw [← hA3]; exact (sz_put A2 38 (.bool true)).trans szA2
    have HA3 := Lib.hid (show A2.put (some 38) (.bool true) = A3 from hA3)
    clear hA3 szA2 d37
    have d38 := e38
    clear e38
    refine wpAnyH_take (i := 2) (v := .int .i64 0) rfl (by kernel_rfl) (by kernel_rfl) (by kernel_rfl) (fun _ _ _ h => h) (.inl ⟨wanted_yes (j := 1) (d := 38) rfl rfl d38, fun w g => run_moveV rfl d7 w⟩) S1.out ?_
    refine act_letter (fun A4 hA4 => ?_)
    replace d0 : A4.eval (.tmp 0) = .slice (some ⟨Bb, o, none⟩) M c := by rw [← hA4]; exact (ev_ne A3 (m := 39) (n := 0) (.int .i64 0) (by decide)).trans d0
    replace d4 : A4.eval (.tmp 4) = .int .i64 (N : Int) := by rw [← hA4]; exact (ev_ne A3 (m := 39) (n := 4) (.int .i64 0) (by decide)).trans d4
    replace d6 : A4.eval (.tmp 6) = .slice (some ⟨bo, 0, none⟩) N cap := by rw [← hA4]; exact (ev_ne A3 (m := 39) (n := 6) (.int .i64 0) (by decide)).trans d6
    replace d38 : A4.eval (.tmp 38) = .bool true := by rw [← hA4]; exact (ev_ne A3 (m := 39) (n := 38) (.int .i64 0) (by decide)).trans d38
    have e39 : A4.eval (.tmp 39) = .int .i64 0 := by rw [← hA4]; exact ev_self A3 39 (.int .i64 0) (by omega)
    have szA4 : A4.tmps.size = 57 := by rw [← hA4]; exact (sz_put A3 39 (.int .i64 0)).trans szA3
    have HA4 := Lib.hid (show A3.put (some 39) (.int .i64 0) = A4 from hA4)
    clear hA4 szA3 d7
    have d39 := e39
    clear e39
    refine wpAnyH_take (i := 3) (v := .bool true) rfl (by kernel_rfl) (by kernel_rfl) (by kernel_rfl) (fun _ _ _ h => h) (.inl ⟨wanted_yes (j := 1) (d := 38) rfl rfl d38, fun w g => run_eql (y := .const (.int .i64 0)) (a := 0) (b := 0) rfl d39 rfl w⟩) S1.out ?_
    refine act_letter (fun A5 hA5 => ?_)
    replace d0 : A5.eval (.tmp 0) = .slice (some ⟨Bb, o, none⟩) M c := by rw [← hA5]; exact (ev_ne A4 (m := 40) (n := 0) (.bool true) (by decide)).trans d0
    replace d4 : A5.eval (.tmp 4) = .int .i64 (N : Int) := by rw [← hA5]; exact (ev_ne A4 (m := 40) (n := 4) (.bool true) (by decide)).trans d4
    replace d6 : A5.eval (.tmp 6) = .slice (some ⟨bo, 0, none⟩) N cap := by rw [← hA5]; exact (ev_ne A4 (m := 40) (n := 6) (.bool true) (by decide)).trans d6
    replace d38 : A5.eval (.tmp 38) = .bool true := by rw [← hA5]; exact (ev_ne A4 (m := 40) (n := 38) (.bool true) (by decide)).trans d38
    have e40 : A5.eval (.tmp 40) = .bool true := by rw [← hA5]; exact ev_self A4 40 (.bool true) (by omega)
    have szA5 : A5.tmps.size = 57 := by rw [← hA5]; exact (sz_put A4 40 (.bool true)).trans szA4
    have HA5 := Lib.hid (show A4.put (some 40) (.bool true) = A5 from hA5)
    clear hA5 szA4 d39
    have d40 := e40
    clear e40
    refine wpAnyH_take (i := 4) (v := .bool true) rfl (by kernel_rfl) (by kernel_rfl) (by kernel_rfl) (fun _ _ _ h => h) (.inl ⟨rfl, fun w g => run_pickT rfl d38 d40 w⟩) S1.out ?_
    refine act_letter (fun A6 hA6 => ?_)
    replace d0 : A6.eval (.tmp 0) = .slice (some ⟨Bb, o, none⟩) M c := by rw [← hA6]; exact (ev_ne A5 (m := 41) (n := 0) (.bool true) (by decide)).trans d0
    replace d4 : A6.eval (.tmp 4) = .int .i64 (N : Int) := by rw [← hA6]; exact (ev_ne A5 (m := 41) (n := 4) (.bool true) (by decide)).trans d4
    replace d6 : A6.eval (.tmp 6) = .slice (some ⟨bo, 0, none⟩) N cap := by rw [← hA6]; exact (ev_ne A5 (m := 41) (n := 6) (.bool true) (by decide)).trans d6
    have e41 : A6.eval (.tmp 41) = .bool true := by rw [← hA6]; exact ev_self A5 41 (.bool true) (by omega)
    have szA6 : A6.tmps.size = 57 := by rw [← hA6]; exact (sz_put A5 41 (.bool true)).trans szA5
    have HA6 := Lib.hid (show A5.put (some 41) (.bool true) = A6 from hA6)
    clear hA6 szA5 d38 d40
    have d41 := e41
    clear e41
    refine wpAnyH_take (i := 5) (v := .bool true) rfl (by kernel_rfl) (by kernel_rfl) (by kernel_rfl) (fun _ _ _ h => h) (.inl ⟨rfl, fun w g => run_moveV rfl d41 w⟩) S1.out ?_
    refine act_letter (fun A7 hA7 => ?_)
    replace d0 : A7.eval (.tmp 0) = .slice (some ⟨Bb, o, none⟩) M c := by rw [← hA7]; exact (ev_ne A6 (m := 42) (n := 0) (.bool true) (by decide)).trans d0
    replace d4 : A7.eval (.tmp 4) = .int .i64 (N : Int) := by rw [← hA7]; exact (ev_ne A6 (m := 42) (n := 4) (.bool true) (by decide)).trans d4
    replace d6 : A7.eval (.tmp 6) = .slice (some ⟨bo, 0, none⟩) N cap := by rw [← hA7]; exact (ev_ne A6 (m := 42) (n := 6) (.bool true) (by decide)).trans d6
    have e42 : A7.eval (.tmp 42) = .bool true := by rw [← hA7]; exact ev_self A6 42 (.bool true) (by omega)
    have szA7 : A7.tmps.size = 57 := by rw [← hA7]; exact (sz_put A6 42 (.bool true)).trans szA6
    have HA7 := Lib.hid (show A6.put (some 42) (.bool true) = A7 from hA7)
    clear hA7 szA6 d41
    have d42 := e42
    clear e42
    refine wpAnyH_take (i := 6) (v := .int .i64 (N : Int)) rfl (by kernel_rfl) (by kernel_rfl) (by kernel_rfl) (fun _ _ _ h => h) (.inl ⟨wanted_yes (j := 5) (d := 42) rfl rfl d42, fun w g => run_moveV rfl d4 w⟩) S1.out ?_
    refine act_letter (fun A8 hA8 => ?_)
    replace d0 : A8.eval (.tmp 0) = .slice (some ⟨Bb, o, none⟩) M c := by rw [← hA8]; exact (ev_ne A7 (m := 43) (n := 0) (.int .i64 (N : Int)) (by decide)).trans d0
    replace d4 : A8.eval (.tmp 4) = .int .i64 (N : Int) := by rw [← hA8]; exact (ev_ne A7 (m := 43) (n := 4) (.int .i64 (N : Int)) (by decide)).trans d4
    replace d6 : A8.eval (.tmp 6) = .slice (some ⟨bo, 0, none⟩) N cap := by rw [← hA8]; exact (ev_ne A7 (m := 43) (n := 6) (.int .i64 (N : Int)) (by decide)).trans d6
    replace d42 : A8.eval (.tmp 42) = .bool true := by rw [← hA8]; exact (ev_ne A7 (m := 43) (n := 42) (.int .i64 (N : Int)) (by decide)).trans d42
    have e43 : A8.eval (.tmp 43) = .int .i64 (N : Int) := by rw [← hA8]; exact ev_self A7 43 (.int .i64 (N : Int)) (by omega)
    have szA8 : A8.tmps.size = 57 := by rw [← hA8]; exact (sz_put A7 43 (.int .i64 (N : Int))).trans szA7
    have HA8 := Lib.hid (show A7.put (some 43) (.int .i64 (N : Int)) = A8 from hA8)
    clear hA8 szA7
    have d43 := e43
    clear e43
    refine wpAnyH_take (i := 7) (v := .slice (some ⟨Bb, o, none⟩) M c) rfl (by kernel_rfl) (by kernel_rfl) (by kernel_rfl) (fun _ _ _ h => h) (.inl ⟨wanted_yes (j := 5) (d := 42) rfl rfl d42, fun w g => run_moveV rfl d0 w⟩) S1.out ?_
    refine act_letter (fun A9 hA9 => ?_)
    replace d0 : A9.eval (.tmp 0) = .slice (some ⟨Bb, o, none⟩) M c := by rw [← hA9]; exact (ev_ne A8 (m := 44) (n := 0) (.slice (some ⟨Bb, o, none⟩) M c) (by decide)).trans d0
    replace d4 : A9.eval (.tmp 4) = .int .i64 (N : Int) := by rw [← hA9]; exact (ev_ne A8 (m := 44) (n := 4) (.slice (some ⟨Bb, o, none⟩) M c) (by decide)).trans d4
    replace d6 : A9.eval (.tmp 6) = .slice (some ⟨bo, 0, none⟩) N cap := by rw [← hA9]; exact (ev_ne A8 (m := 44) (n := 6) (.slice (some ⟨Bb, o, none⟩) M c) (by decide)).trans d6
    replace d42 : A9.eval (.tmp 42) = .bool true := by rw [← hA9]; exact (ev_ne A8 (m := 44) (n := 42) (.slice (some ⟨Bb, o, none⟩) M c) (by decide)).trans d42
    replace d43 : A9.eval (.tmp 43) = .int .i64 (N : Int) := by rw [← hA9]; exact (ev_ne A8 (m := 44) (n := 43) (.slice (some ⟨Bb, o, none⟩) M c) (by decide)).trans d43
    have e44 : A9.eval (.tmp 44) = .slice (some ⟨Bb, o, none⟩) M c := by rw [← hA9]; exact ev_self A8 44 (.slice (some ⟨Bb, o, none⟩) M c) (by omega)
    have szA9 : A9.tmps.size = 57 := by rw [← hA9]; exact (sz_put A8 44 (.slice (some ⟨Bb, o, none⟩) M c)).trans szA8
    have HA9 := Lib.hid (show A8.put (some 44) (.slice (some ⟨Bb, o, none⟩) M c) = A9 from hA9)
    clear hA9 szA8
    have d44 := e44
    clear e44
    refine wpAnyH_take (i := 8) (v := .int .i64 (M : Int)) rfl (by kernel_rfl) (by kernel_rfl) (by kernel_rfl) (fun _ _ _ h => h) (.inl ⟨wanted_yes (j := 5) (d := 42) rfl rfl d42, fun w g => run_lenU rfl d44 w⟩) S1.out ?_
    refine act_letter (fun A10 hA10 => ?_)
    replace d0 : A10.eval (.tmp 0) = .slice (some ⟨Bb, o, none⟩) M c := by rw [← hA10]; exact (ev_ne A9 (m := 45) (n := 0) (.int .i64 (M : Int)) (by decide)).trans d0
    replace d4 : A10.eval (.tmp 4) = .int .i64 (N : Int) := by rw [← hA10]; exact (ev_ne A9 (m := 45) (n := 4) (.int .i64 (M : Int)) (by decide)).trans d4
    replace d6 : A10.eval (.tmp 6) = .slice (some ⟨bo, 0, none⟩) N cap := by rw [← hA10]; exact (ev_ne A9 (m := 45) (n := 6) (.int .i64 (M : Int)) (by decide)).trans d6
    replace d42 : A10.eval (.tmp 42) = .bool true := by rw [← hA10]; exact (ev_ne A9 (m := 45) (n := 42) (.int .i64 (M : Int)) (by decide)).trans d42
    replace d43 : A10.eval (.tmp 43) = .int .i64 (N : Int) := by rw [← hA10]; exact (ev_ne A9 (m := 45) (n := 43) (.int .i64 (M : Int)) (by decide)).trans d43
    have e45 : A10.eval (.tmp 45) = .int .i64 (M : Int) := by rw [← hA10]; exact ev_self A9 45 (.int .i64 (M : Int)) (by omega)
    have szA10 : A10.tmps.size = 57 := by rw [← hA10]; exact (sz_put A9 45 (.int .i64 (M : Int))).trans szA9
    have HA10 := Lib.hid (show A9.put (some 45) (.int .i64 (M : Int)) = A10 from hA10)
    clear hA10 szA9 d44
    have d45 := e45
    clear e45
    refine wpAnyH_take (i := 9) (v := .bool true) rfl (by kernel_rfl) (by kernel_rfl) (by kernel_rfl) (fun _ _ _ h => h) (.inl ⟨wanted_yes (j := 5) (d := 42) rfl rfl d42, fun w g => (run_leqI rfl d43 d45 w).trans (by rw [decide_eq_true (show (N : Int) ≤ (M : Int) by have := HYL.out.1; have := HMM.out; omega)])⟩) S1.out ?_
    refine act_letter (fun A11 hA11 => ?_)
    replace d0 : A11.eval (.tmp 0) = .slice (some ⟨Bb, o, none⟩) M c := by rw [← hA11]; exact (ev_ne A10 (m := 46) (n := 0) (.bool true) (by decide)).trans d0
    replace d4 : A11.eval (.tmp 4) = .int .i64 (N : Int) := by rw [← hA11]; exact (ev_ne A10 (m := 46) (n := 4) (.bool true) (by decide)).trans d4
    replace d6 : A11.eval (.tmp 6) = .slice (some ⟨bo, 0, none⟩) N cap := by rw [← hA11]; exact (ev_ne A10 (m := 46) (n := 6) (.bool true) (by decide)).trans d6
    replace d42 : A11.eval (.tmp 42) = .bool true := by rw [← hA11]; exact (ev_ne A10 (m := 46) (n := 42) (.bool true) (by decide)).trans d42
    have e46 : A11.eval (.tmp 46) = .bool true := by rw [← hA11]; exact ev_self A10 46 (.bool true) (by omega)
    have szA11 : A11.tmps.size = 57 := by rw [← hA11]; exact (sz_put A10 46 (.bool true)).trans szA10
    have HA11 := Lib.hid (show A10.put (some 46) (.bool true) = A11 from hA11)
    clear hA11 szA10 d43 d45
    have d46 := e46
    clear e46
    refine wpAnyH_take (i := 10) (v := .bool true) rfl (by kernel_rfl) (by kernel_rfl) (by kernel_rfl) (fun _ _ _ h => h) (.inl ⟨rfl, fun w g => run_pickT rfl d42 d46 w⟩) S1.out ?_
    refine act_letter (fun A12 hA12 => ?_)
    replace d0 : A12.eval (.tmp 0) = .slice (some ⟨Bb, o, none⟩) M c := by rw [← hA12]; exact (ev_ne A11 (m := 47) (n := 0) (.bool true) (by decide)).trans d0
    replace d4 : A12.eval (.tmp 4) = .int .i64 (N : Int) := by rw [← hA12]; exact (ev_ne A11 (m := 47) (n := 4) (.bool true) (by decide)).trans d4
    replace d6 : A12.eval (.tmp 6) = .slice (some ⟨bo, 0, none⟩) N cap := by rw [← hA12]; exact (ev_ne A11 (m := 47) (n := 6) (.bool true) (by decide)).trans d6
    have e47 : A12.eval (.tmp 47) = .bool true := by rw [← hA12]; exact ev_self A11 47 (.bool true) (by omega)
    have szA12 : A12.tmps.size = 57 := by rw [← hA12]; exact (sz_put A11 47 (.bool true)).trans szA11
    have HA12 := Lib.hid (show A11.put (some 47) (.bool true) = A12 from hA12)
    clear hA12 szA11 d42 d46
    have d47 := e47
    clear e47
    refine wpAnyH_take (i := 11) (v := .bool true) rfl (by kernel_rfl) (by kernel_rfl) (by kernel_rfl) (fun _ _ _ h => h) (.inl ⟨rfl, fun w g => run_moveV rfl d47 w⟩) S1.out ?_
    refine act_letter (fun A13 hA13 => ?_)
    replace d0 : A13.eval (.tmp 0) = .slice (some ⟨Bb, o, none⟩) M c := by rw [← hA13]; exact (ev_ne A12 (m := 48) (n := 0) (.bool true) (by decide)).trans d0
    replace d4 : A13.eval (.tmp 4) = .int .i64 (N : Int) := by rw [← hA13]; exact (ev_ne A12 (m := 48) (n := 4) (.bool true) (by decide)).trans d4
    replace d6 : A13.eval (.tmp 6) = .slice (some ⟨bo, 0, none⟩) N cap := by rw [← hA13]; exact (ev_ne A12 (m := 48) (n := 6) (.bool true) (by decide)).trans d6
    have e48 : A13.eval (.tmp 48) = .bool true := by rw [← hA13]; exact ev_self A12 48 (.bool true) (by omega)
    have szA13 : A13.tmps.size = 57 := by rw [← hA13]; exact (sz_put A12 48 (.bool true)).trans szA12
    have HA13 := Lib.hid (show A12.put (some 48) (.bool true) = A13 from hA13)
    clear hA13 szA12 d47
    have d48 := e48
    clear e48
    refine wpAnyH_take (i := 12) (v := .slice (some ⟨bo, 0, none⟩) N cap) rfl (by kernel_rfl) (by kernel_rfl) (by kernel_rfl) (fun _ _ _ h => h) (.inl ⟨wanted_yes (j := 11) (d := 48) rfl rfl d48, fun w g => run_moveV rfl d6 w⟩) S1.out ?_
    refine act_letter (fun A14 hA14 => ?_)
    replace d0 : A14.eval (.tmp 0) = .slice (some ⟨Bb, o, none⟩) M c := by rw [← hA14]; exact (ev_ne A13 (m := 49) (n := 0) (.slice (some ⟨bo, 0, none⟩) N cap) (by decide)).trans d0
    replace d4 : A14.eval (.tmp 4) = .int .i64 (N : Int) := by rw [← hA14]; exact (ev_ne A13 (m := 49) (n := 4) (.slice (some ⟨bo, 0, none⟩) N cap) (by decide)).trans d4
    replace d48 : A14.eval (.tmp 48) = .bool true := by rw [← hA14]; exact (ev_ne A13 (m := 49) (n := 48) (.slice (some ⟨bo, 0, none⟩) N cap) (by decide)).trans d48
    have e49 : A14.eval (.tmp 49) = .slice (some ⟨bo, 0, none⟩) N cap := by rw [← hA14]; exact ev_self A13 49 (.slice (some ⟨bo, 0, none⟩) N cap) (by omega)
    have szA14 : A14.tmps.size = 57 := by rw [← hA14]; exact (sz_put A13 49 (.slice (some ⟨bo, 0, none⟩) N cap)).trans szA13
    have HA14 := Lib.hid (show A13.put (some 49) (.slice (some ⟨bo, 0, none⟩) N cap) = A14 from hA14)
    clear hA14 szA13 d6
    have d49 := e49
    clear e49
    refine wpAnyH_take (i := 13) (v := .string (txt ys)) rfl (by kernel_rfl) (by kernel_rfl) (by kernel_rfl) (fun _ _ _ h => h) (.inl ⟨wanted_yes (j := 11) (d := 48) rfl rfl d48, fun w g => run_convS rfl d49 g.1 HNN.out.symm⟩) S1.out ?_
    refine act_letter (fun A15 hA15 => ?_)
    replace d0 : A15.eval (.tmp 0) = .slice (some ⟨Bb, o, none⟩) M c := by rw [← hA15]; exact (ev_ne A14 (m := 50) (n := 0) (.string (txt ys)) (by decide)).trans d0
    replace d4 : A15.eval (.tmp 4) = .int .i64 (N : Int) := by rw [← hA15]; exact (ev_ne A14 (m := 50) (n := 4) (.string (txt ys)) (by decide)).trans d4
    replace d48 : A15.eval (.tmp 48) = .bool true := by rw [← hA15]; exact (ev_ne A14 (m := 50) (n := 48) (.string (txt ys)) (by decide)).trans d48
    have e50 : A15.eval (.tmp 50) = .string (txt ys) := by rw [← hA15]; exact ev_self A14 50 (.string (txt ys)) (by omega)
    have szA15 : A15.tmps.size = 57 := by rw [← hA15]; exact (sz_put A14 50 (.string (txt ys))).trans szA14
    have HA15 := Lib.hid (show A14.put (some 50) (.string (txt ys)) = A15 from hA15)
    clear hA15 szA14 d49
    have d50 := e50
    clear e50
    refine wpAnyH_take (i := 14) (v := .slice (some ⟨Bb, o, none⟩) M c) rfl (by kernel_rfl) (by kernel_rfl) (by kernel_rfl) (fun _ _ _ h => h) (.inl ⟨wanted_yes (j := 11) (d := 48) rfl rfl d48, fun w g => run_moveV rfl d0 w⟩) S1.out ?_
    refine act_letter (fun A16 hA16 => ?_)
    replace d4 : A16.eval (.tmp 4) = .int .i64 (N : Int) := by rw [← hA16]; exact (ev_ne A15 (m := 51) (n := 4) (.slice (some ⟨Bb, o, none⟩) M c) (by decide)).trans d4
    replace d48 : A16.eval (.tmp 48) = .bool true := by rw [← hA16]; exact (ev_ne A15 (m := 51) (n := 48) (.slice (some ⟨Bb, o, none⟩) M c) (by decide)).trans d48
    replace d50 : A16.eval (.tmp 50) = .string (txt ys) := by rw [← hA16]; exact (ev_ne A15 (m := 51) (n := 50) (.slice (some ⟨Bb, o, none⟩) M c) (by decide)).trans d50
    have e51 : A16.eval (.tmp 51) = .slice (some ⟨Bb, o, none⟩) M c := by rw [← hA16]; exact ev_self A15 51 (.slice (some ⟨Bb, o, none⟩) M c) (by omega)
    have szA16 : A16.tmps.size = 57 := by rw [← hA16]; exact (sz_put A15 51 (.slice (some ⟨Bb, o, none⟩) M c)).trans szA15
    have HA16 := Lib.hid (show A15.put (some 51) (.slice (some ⟨Bb, o, none⟩) M c) = A16 from hA16)
    clear hA16 szA15 d0
    have d51 := e51
    clear e51
    refine wpAnyH_take (i := 15) (v := .int .i64 (N : Int)) rfl (by kernel_rfl) (by kernel_rfl) (by kernel_rfl) (fun _ _ _ h => h) (.inl ⟨wanted_yes (j := 11) (d := 48) rfl rfl d48, fun w g => run_moveV rfl d4 w⟩) S1.out ?_
    refine act_letter (fun A17 hA17 => ?_)
    replace d48 : A17.eval (.tmp 48) = .bool true := by rw [← hA17]; exact (ev_ne A16 (m := 52) (n := 48) (.int .i64 (N : Int)) (by decide)).trans d48
    replace d50 : A17.eval (.tmp 50) = .string (txt ys) := by rw [← hA17]; exact (ev_ne A16 (m := 52) (n := 50) (.int .i64 (N : Int)) (by decide)).trans d50
    replace d51 : A17.eval (.tmp 51) = .slice (some ⟨Bb, o, none⟩) M c := by rw [← hA17]; exact (ev_ne A16 (m := 52) (n := 51) (.int .i64 (N : Int)) (by decide)).trans d51
    have e52 : A17.eval (.tmp 52) = .int .i64 (N : Int) := by rw [← hA17]; exact ev_self A16 52 (.int .i64 (N : Int)) (by omega)
    have szA17 : A17.tmps.size = 57 := by rw [← hA17]; exact (sz_put A16 52 (.int .i64 (N : Int))).trans szA16
    have HA17 := Lib.hid (show A16.put (some 52) (.int .i64 (N : Int)) = A17 from hA17)
    clear hA17 szA16 d4
    have d52 := e52
    clear e52
    refine wpAnyH_take (i := 16) (v := .slice (some ⟨Bb, o, none⟩) N c) rfl (by kernel_rfl) (by kernel_rfl) (by kernel_rfl) (fun _ _ _ h => h) (.inl ⟨wanted_yes (j := 11) (d := 48) rfl rfl d48, fun w g => run_sliceTo rfl d51 d52 HYL.out.2 w⟩) S1.out ?_
    refine act_letter (fun A18 hA18 => ?_)
    replace d48 : A18.eval (.tmp 48) = .bool true := by rw [← hA18]; exact (ev_ne A17 (m := 53) (n := 48) (.slice (some ⟨Bb, o, none⟩) N c) (by decide)).trans d48
    replace d50 : A18.eval (.tmp 50) = .string (txt ys) := by rw [← hA18]; exact (ev_ne A17 (m := 53) (n := 50) (.slice (some ⟨Bb, o, none⟩) N c) (by decide)).trans d50
    have e53 : A18.eval (.tmp 53) = .slice (some ⟨Bb, o, none⟩) N c := by rw [← hA18]; exact ev_self A17 53 (.slice (some ⟨Bb, o, none⟩) N c) (by omega)
    have szA18 : A18.tmps.size = 57 := by rw [← hA18]; exact (sz_put A17 53 (.slice (some ⟨Bb, o, none⟩) N c)).trans szA17
    have HA18 := Lib.hid (show A17.put (some 53) (.slice (some ⟨Bb, o, none⟩) N c) = A18 from hA18)
    clear hA18 szA17 d51 d52
    have d53 := e53
    clear e53
    refine wpAnyH_take (i := 17) (v := .string (txt ys)) rfl (by kernel_rfl) (by kernel_rfl) (by kernel_rfl) (fun _ _ _ h => h) (.inl ⟨wanted_yes (j := 11) (d := 48) rfl rfl d48, fun w g => run_convS rfl d53 (by have := g.2.take N; rw [HTK.out] at this; exact this) HNN.out.symm⟩) S1.out ?_
    refine act_letter (fun A19 hA19 => ?_)
    replace d48 : A19.eval (.tmp 48) = .bool true := by rw [← hA19]; exact (ev_ne A18 (m := 54) (n := 48) (.string (txt ys)) (by decide)).trans d48
    replace d50 : A19.eval (.tmp 50) = .string (txt ys) := by rw [← hA19]; exact (ev_ne A18 (m := 54) (n := 50) (.string (txt ys)) (by decide)).trans d50
    have e54 : A19.eval (.tmp 54) = .string (txt ys) := by rw [← hA19]; exact ev_self A18 54 (.string (txt ys)) (by omega)
    have szA19 : A19.tmps.size = 57 := by rw [← hA19]; exact (sz_put A18 54 (.string (txt ys))).trans szA18
    have HA19 := Lib.hid (show A18.put (some 54) (.string (txt ys)) = A19 from hA19)
    clear hA19 szA18 d53
    have d54 := e54
    clear e54
    refine wpAnyH_take (i := 18) (v := .bool true) rfl (by kernel_rfl) (by kernel_rfl) (by kernel_rfl) (fun _ _ _ h => h) (.inl ⟨wanted_yes (j := 11) (d := 48) rfl rfl d48, fun w g => run_eqlS rfl d50 d54 w⟩) S1.out ?_
    refine act_letter (fun A20 hA20 => ?_)
    replace d48 : A20.eval (.tmp 48) = .bool true := by rw [← hA20]; exact (ev_ne A19 (m := 55) (n := 48) (.bool true) (by decide)).trans d48
    have e55 : A20.eval (.tmp 55) = .bool true := by rw [← hA20]; exact ev_self A19 55 (.bool true) (by omega)
    have szA20 : A20.tmps.size = 57 := by rw [← hA20]; exact (sz_put A19 55 (.bool true)).trans szA19
    have HA20 := Lib.hid (show A19.put (some 55) (.bool true) = A20 from hA20)
    clear hA20 szA19 d50 d54
    have d55 := e55
    clear e55
    refine wpAnyH_take (i := 19) (v := .bool true) rfl (by kernel_rfl) (by kernel_rfl) (by kernel_rfl) (fun _ _ _ h => h) (.inl ⟨rfl, fun w g => run_pickT rfl d48 d55 w⟩) S1.out ?_
    refine act_letter (fun A21 hA21 => ?_)
    have e56 : A21.eval (.tmp 56) = .bool true := by rw [← hA21]; exact ev_self A20 56 (.bool true) (by omega)
    have szA21 : A21.tmps.size = 57 := by rw [← hA21]; exact (sz_put A20 56 (.bool true)).trans szA20
    have HA21 := Lib.hid (show A20.put (some 56) (.bool true) = A21 from hA21)
    clear hA21 szA20 d48 d55
    have d56 := e56
    clear e56
    refine wpAnyH_take (i := 20) (v := .bool true) rfl (by kernel_rfl) (by kernel_rfl) (by kernel_rfl) (fun _ _ _ h => h) (.inl ⟨rfl, fun w g => run_asgn rfl d56 w⟩) S1.out ?_
    refine act_letter (fun A22 hA22 => ?_)
    replace d56 : A22.eval (.tmp 56) = .bool true := by rw [← hA22]; exact (ev_ne A21 (m := 2) (n := 56) (.bool true) (by decide)).trans d56
    have e2 : A22.eval (.tmp 2) = .bool true := by rw [← hA22]; exact ev_self A21 2 (.bool true) (by omega)
    have szA22 : A22.tmps.size = 57 := by rw [← hA22]; exact (sz_put A21 2 (.bool true)).trans szA21
    have HA22 := Lib.hid (show A21.put (some 2) (.bool true) = A22 from hA22)
    clear hA22 szA21
    have d2 := e2
    clear e2
    refine wpAnyH_done (by kernel_rfl) ?_ _
    rw [← HA22.out, ← HA21.out, ← HA20.out, ← HA19.out, ← HA18.out, ← HA17.out, ← HA16.out, ← HA15.out, ← HA14.out, ← HA13.out, ← HA12.out, ← HA11.out, ← HA10.out, ← HA9.out, ← HA8.out, ← HA7.out, ← HA6.out, ← HA5.out, ← HA4.out, ← HA3.out, ← HA2.out, ← HA1.out]
    clear HA2 HA3 HA4 HA5 HA6 HA7 HA8 HA9 HA10 HA11 HA12 HA13 HA14 HA15 HA16 HA17 HA18 HA19 HA20 HA21 HA22 HA1 d56 d2 szA22
    simp only [Act.put, List.setIfInBounds_toArray, List.set_cons_zero, List.set_cons_succ]
    go_wp2_with fail
    go_ret
    exact ⟨rfl, B5.out⟩

set_option maxRecDepth 100000 in
theorem dertagOne_lifted (os : Os) (started : os.Started) (H : Type) (enc : TypeId × Value → H) :
    ReturnsInHanded {} Tryd.checked os 6 .any (fun w args => (Rows.dertagOneSpec.pre enc Tryd.prog Tryd.f6 [] false w args ∧ laidMetH Tryd.prog laidList w) ∧ sizedMet enc Tryd.prog Tryd.f6 (OpenSpec.ofChange Rows.dertagOneSpec) false w args)
      (Rows.dertagOneSpec.post enc Tryd.prog Tryd.f6 false true false false) := by
  refine returnsInHanded_of_change_and (C := Tryd.checked) (X := fun w _ => laidMetH Tryd.prog laidList w) (fun _ _ _ hh h => h.of_heap hh) own started (by kernel_rfl) Tryd.func6
    (ChangeSpec.witness_shaped (enc := enc) (C := Tryd.checked) (os := os) (X := fun w _ => laidMetH Tryd.prog laidList w) false (World.doorLaid Tryd.prog doorSteps os) #[.slice none 0 0] 8 rfl (World.shaped_of_RefB (by kernel_rfl) (by kernel_rfl)) (by kernel_rfl) (by kernel_rfl) (by kernel_rfl) (door_met os _)) ?_
  intro W base args ds gs before hval0 hW hcnd hsz0 hL _
  have hval : ∀ (j : Nat) t v, Tryd.f6.params[j]? = some t → args[j]? = some v → Value.okWide Tryd.prog W .any base t v := hval0
  have hsz : (DataW.weightsEach Tryd.prog (Tryd.f6.params.toList ++ Rows.dertagOneSpec.plain.varTypes Tryd.prog) (ds ++ gs)).all (· ≤ reachBytes) = true := hsz0
  have hW' := hW
  obtain ⟨p, q, hA0, hV, rfl, hfz, hnd⟩ := hW
  have hA : DataW.TrodAll enc Tryd.prog W 0 (fun _ => true) true Tryd.f6.params.toList args.toList ds p := hA0
  rw [Tryd.params6] at hA hval hsz
  obtain ⟨v0, vs0, d0, ds0, p0, q0, hargs, rfl, rfl, h0, r0⟩ := trodAll_cons hA
  obtain ⟨rfl, rfl, rfl⟩ := trodAll_nil r0
  obtain rfl : args = #[v0] := by cases args; simp_all
  obtain ⟨rfl, rfl⟩ := trodVars_none hV
  have k0 := h0
  have lt0 : ∀ x ∈ p0, x.block < W.heap.size := by obtain ⟨m, hm⟩ := k0; exact DataW.trod_lt m _ _ _ hm
  obtain ⟨A0, c0, x0, rfl, l0, m0, b0⟩ := arg_bytes (hval 0 22 v0 rfl rfl) h0 hsz (j := 0) rfl rfl
  clear hA0 hval0 hsz0
  refine (dertagOne_walk W A0 c0 x0 l0 m0 b0 hL).mono fun e W' ⟨he, bel⟩ => ?_
  subst he
  exact ⟨_, rfl, _, _, _, [], _, [], hW', trodAll_mk1 (shut_bool Tryd.underlying4 _), (trodAll_cons_mk (Below.trod laidOut (by kernel_rfl) (of_decide_eq_true (by kernel_rfl)) k0 bel lt0) trodAll_mk0), rfl, bel.frame _, fun h => by cases h⟩

theorem dertagOne_over : Rows.dertagOneRow.holds Tryd.pinned (OpenSpec.ofChange Rows.dertagOneSpec) :=
  OpenClaim.holds_of_wide 6 Tryd.f6 rfl rfl rfl rfl rfl rfl rfl ⟨rfl, rfl, rfl, rfl, rfl⟩ rfl rfl rfl rfl rfl (by kernel_rfl) Tryd.func6 (by kernel_rfl)
    (of_decide_eq_true (by kernel_rfl)) (by unfold Func.isWrapper; first | (rw [if_pos (by decide +kernel)]; kernel_rfl) | (rw [if_neg (by decide +kernel)]; exact ⟨rfl, rfl⟩))
    (fun os started H enc _ => dertagOne_lifted os started H enc)

theorem dertagOne_holds : Rows.DertagOneSaid := dertagOne_over
#print axioms dertagOne_holds

/-- The row's card: what it lists of the package's variables is what the program's own text lays there. -/
theorem dertagOne_card : Rows.DertagOneCardSaid :=
  Claim7.holds_tied_plain_at .later [] [.data] true Rows.dertagOneCard.stood.harness false
    dertagOne_holds (fun _ h => by cases h) (by kernel_rfl) (fun _ h => by cases h) dertagOne_row_tie rfl ⟨rfl, rfl⟩ (by kernel_rfl) rfl
    (fun f fn hf hfn => by
      obtain rfl : f = 6 := Option.some.inj ((show Tryd.prog.funcNamed "passepartout/passepartoutlaw09.DertagOne" = some 6 by kernel_rfl).symm.trans hf) |>.symm
      obtain rfl : fn = Tryd.f6 := (Option.some.inj (Tryd.func6.symm.trans hfn)).symm
      exact ⟨by kernel_rfl, fun j t ht => by
        rw [Tryd.params6] at ht
        have hm : t ∈ [22] := by simpa using Array.mem_of_getElem? ht
        have hall : ([22].all fun u => !Tryd.prog.wantsStandIn u) = true := by kernel_rfl
        exact (show Tryd.prog.wantsStandIn t = false by simpa using List.all_eq_true.1 hall t hm)⟩)
    (by kernel_rfl)
#print axioms dertagOne_card
end Go.Proofs.YtbeknillegkidaaDoor

