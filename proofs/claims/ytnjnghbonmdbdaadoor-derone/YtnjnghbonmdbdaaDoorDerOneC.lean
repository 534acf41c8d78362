/- What is read of bytes is right, and written as those bytes; with a byte more it isn't read, with a byte less neither: for every bytes and every byte more the law returns true, and they read as they did. Condition: the table of the package dertag holds what the program's own text lays there (the card). -/
import Derived.Test.YtnjnghbonmdbdaaDoorQ7
import Derived.Test.YtnjnghbonmdbdaaDoorQ11
import Derived.Test.YtnjnghbonmdbdaaDoorQ12
namespace Go.Proofs.YtnjnghbonmdbdaaDoor
open Go.ChangeShapes Go.WideShapes Go.ChangeAt Go.RowKit Nd

theorem Tb.grew {w w' : World} (h : Tb w) (g : Grew w w' none) : Tb w' := h.self (grew_below g (Nat.le_refl _) (fun _ e => by cases e))

set_option maxRecDepth 100000 in
set_option maxHeartbeats 2000000 in
theorem derOne_by (hA : AliveE) (hR : ReadEC) (hW : WriteEC) (hC : CheckEC) (hD : DepthEC) (w : World) (A : Option Addr) (c : Nat) (xs : List UInt8) (hl : xs.length ≤ c) (hc : c ≤ 140737488351232) (hb : Byt w w.heap.size A xs) (y : UInt8) (hT : Tb w) :
    Calls Tryd.prog 7 #[.slice A xs.length c, .int .u8 (y.toNat : Int)] w fun e w' => e = .returned (.bool true) ∧ Below w.heap.size w w' := by
  have HA := Lib.hid hA
  have HR := Lib.hid hR
  have HWC := Lib.hid hW
  have HCC := Lib.hid hC
  have HDC := Lib.hid hD
  have HB := Lib.hid hb
  have HT := Lib.hid hT
  have HC := Lib.hid hl
  obtain ⟨L, hL⟩ : ∃ L, xs.length = L := ⟨_, rfl⟩
  have HL := Lib.hid hL
  rw [hL] at hl ⊢
  have hLI : (L : Int) ≤ 140737488351232 := by omega
  clear hA hR hW hC hD hb hT hl hL
  go_enter Tryd.func7, Tryd.ntmps7
  go_wp2_with fail
  refine (HA.out w HT.out).mono ?_
  rintro e w1 ⟨rfl, b1⟩
  have B1 := Lib.hid b1
  clear b1
  by_cases g1 : 3000 < L
  · have g1' : 3000 < (L : Int) := by omega
    go_wp2_with fail
    refine (HA.out w1 (HT.out.self B1.out)).mono ?_
    rintro e w2 ⟨rfl, b2⟩
    go_wp2_with fail
    go_ret
    exact ⟨rfl, B1.out.trans (b2.mono B1.out.size)⟩
  have g1' : ¬ 3000 < (L : Int) := by omega
  have hL3 : (L : Int) ≤ 3000 := by omega
  obtain ⟨R, hRR⟩ : ∃ R, rdN xs = R := ⟨_, rfl⟩
  have hRd := HR.out w1 A c xs 0 (HT.out.self B1.out) ((HB.out.grew (grew_of_below B1.out) (fun _ e => by cases e)).more B1.out.size) HC.out (by have := HL.out; omega) (by omega) (by omega)
  rw [HL.out, hRR] at hRd
  have HRd := Lib.hid hRd
  have HRR := Lib.hid hRR
  have hRn : R.n ≤ L ∧ (R.e ≠ 0 → R.v = .z) := by
    rw [← hRR, ← HL.out]
    have := rn_good 8 xs
    unfold rdN
    split
    · exact ⟨this.1, this.2.2⟩
    · split
      · exact ⟨this.1, fun _ => rfl⟩
      · exact ⟨this.1, this.2.2⟩
  have HRN := Lib.hid hRn
  have hRI : (R.n : Int) ≤ 3000 := by omega
  clear hRd hRR hRn g1 g1'
  go_upto_region 3 with (fail)
  go_wp2_with fail
  refine HRd.out.mono ?_
  rintro e w2 ⟨v, rfl, hnf, hin, b2⟩
  have HV := Lib.hid (And.intro hnf hin)
  have B2 := Lib.hid (B1.out.trans (b2.mono B1.out.size))
  clear hnf hin b2 HRd
  go_upto_region 4 with (fail)
  obtain ⟨xq, hxq⟩ : ∃ xq, w2.heap.size = xq := ⟨_, rfl⟩
  rw [hxq]
  have HX := Lib.hid (show Whole (w2.alloc (.cells #[.int .i64 v.k, .int .i64 v.t, .bool v.m, .slice v.B v.bs.length v.d, .slice v.A v.ls.length v.c] 27)) xq #[.int .i64 v.k, .int .i64 v.t, .bool v.m, .slice v.B v.bs.length v.d, .slice v.A v.ls.length v.c] 27 by rw [← hxq]; exact Whole.new _ _ _)
  have HV3 := Lib.hid (HV.out.2.grew (grew_alloc (grew_refl w2 none) (.cells #[.int .i64 v.k, .int .i64 v.t, .bool v.m, .slice v.B v.bs.length v.d, .slice v.A v.ls.length v.c] 27)))
  have B3 := Lib.hid (B2.out.alloc B2.out.size (.cells #[.int .i64 v.k, .int .i64 v.t, .bool v.m, .slice v.B v.bs.length v.d, .slice v.A v.ls.length v.c] 27))
  generalize w2.alloc (.cells #[.int .i64 v.k, .int .i64 v.t, .bool v.m, .slice v.B v.bs.length v.d, .slice v.A v.ls.length v.c] 27) = w3 at *
  clear hxq B2
  have x0 : w3.cell? ⟨xq, 0, none⟩ = some (.int .i64 v.k) := HX.out.cell 0
  have x1 : w3.cell? ⟨xq, 1, none⟩ = some (.int .i64 v.t) := HX.out.cell 1
  have x2 : w3.cell? ⟨xq, 2, none⟩ = some (.bool v.m) := HX.out.cell 2
  have x3 : w3.cell? ⟨xq, 3, none⟩ = some (.slice v.B v.bs.length v.d) := HX.out.cell 3
  have x4 : w3.cell? ⟨xq, 4, none⟩ = some (.slice v.A v.ls.length v.c) := HX.out.cell 4
  rcases (Decidable.em (R.e = 0)).symm with g2 | g2
  · have g2' : (R.e != 0) = true := bne_iff_ne.2 g2
    have HSA := Lib.hid (rsame_any v .z w3 HV3.out.inn (z_in _))
    rw [(same_nf v .z).2 (HV.out.1.trans (HRN.out.2 g2))] at HSA
    have h0 : (0 : Int) ≤ (R.n : Int) := by omega
    have h1 : (R.n : Int) ≤ (L : Int) := by have := HRN.out.1; omega
    clear g2
    go_wp2_with fail
    refine HSA.out.mono ?_
    rintro e w6 ⟨rfl, g6⟩
    have HG6 := Lib.hid (B3.out.trans (grew_below g6 B3.out.size (fun _ e => by cases e)))
    clear g6
    go_wp2_with fail
    go_ret
    exact ⟨rfl, HG6.out⟩
  have g2' : (R.e != 0) = false := by rw [g2]; rfl
  have HK := Lib.hid (wr_rdN (xs := xs) (by rw [HRR.out]; exact g2) (v := v) (by rw [HRR.out]; exact HV.out.1))
  clear g2
  have hWr := HWC.out w3 v (HT.out.self B3.out) HV3.out (by have := HK.out.2.2.2.1; have := HL.out; omega)
  rw [HK.out.2.1] at hWr
  go_wp2_with fail
  refine hWr.mono ?_
  rintro e w4 ⟨A7, d7, rfl, hd7, hb7, g7⟩
  dsimp only at hd7 hb7 ⊢
  rw [HL.out] at hd7 ⊢
  have HY4 := Lib.hid hb7
  have HX4 := Lib.hid (HX.out.grew g7 (by simp))
  have HV4 := Lib.hid (HV3.out.grew g7)
  have B4 := Lib.hid (B3.out.trans (grew_below g7 B3.out.size (fun _ e => by cases e)))
  clear hd7 hb7 g7 x0 x1 x2 x3 x4 HX HV3 B3 hWr HV
  have hbA : ∀ w', Below w.heap.size w w' → Byt w' w'.heap.size A xs := fun w' b => (HB.out.grew (grew_of_below b) (fun _ e => by cases e)).more b.size
  have HBA := Lib.hid hbA
  have a1 := Lib.hid (fun ty => app_more (own8_none w4.heap.size w4 w4 (Below.refl _ _) (Nat.le_refl _)) (A := A) (bs := xs) (hbA _ (B4.out.alloc B4.out.size _)) c (by have := HL.out; simp; omega) ty)
  rw [HL.out] at a1
  clear hbA
  go_upto_region 7 with (fail)
  go_wp2_with (at_builtin; first | (refine wpList_append_run _ rfl (.tmp 51) (.tmp 52) 22 rfl rfl rfl a1.out ?_; rintro v1 w5 k1; rw [List.nil_append] at k1; have A1 := Lib.hid k1; clear k1 a1; have a2 := Lib.hid (fun ty => app_more (A1.out.grew (grew_alloc (grew_refl w5 none) (.cells #[.int .u8 (y.toNat : Int)] 5))) (A := some ⟨w5.heap.size, 0, none⟩) (bs := [y]) (own_by (own_new w5 #[.int .u8 (y.toNat : Int)] [y] rfl (by simp))).byt 1 (by have := HL.out; simp; omega) ty)) | (refine wpList_append_run _ rfl (.tmp 53) (.tmp 55) 22 rfl rfl rfl a2.out ?_; rintro v2 w6 k2; have A2 := Lib.hid k2; clear k2 a2; obtain ⟨A8, d8, rfl, hd8, hb8⟩ := A2.out.form))
  have B6 := Lib.hid (B4.out.trans (A2.out.bel.mono B4.out.size))
  have HX6 := Lib.hid (HX4.out.below A2.out.bel HX4.out.lt)
  have HV6 := Lib.hid (HV4.out.grew (grew_of_below A2.out.bel))
  have HY6 := Lib.hid ((HY4.out.grew (grew_of_below A2.out.bel) (fun _ e => by cases e)).more A2.out.bel.size)
  have hr2 := HR.out w6 A8 d8 (xs ++ [y]) 0 (HT.out.self B6.out) hb8 hd8 (by have := HL.out; simp; omega) (by omega) (by omega)
  rw [HK.out.2.2.2.2.2.1 y, HL.out, show (xs ++ [y]).length = xs.length + 1 by simp] at hr2
  clear A1 A2 hd8 hb8 HX4 HV4 HY4 B4
  refine hr2.mono ?_
  rintro e w7 ⟨v3, rfl, -, -, b7⟩
  dsimp only
  have B7 := Lib.hid (B6.out.trans (b7.mono B6.out.size))
  have HX7 := Lib.hid (HX6.out.below b7 HX6.out.lt)
  have HV7 := Lib.hid (HV6.out.grew (grew_of_below b7))
  have HY7 := Lib.hid ((HY6.out.grew (grew_of_below b7) (fun _ e => by cases e)).more b7.size)
  clear hr2 b7 HX6 HV6 HY6 B6
  go_upto_region 8 with (fail)
  have B8 := Lib.hid (B7.out.alloc B7.out.size (.cells #[.int .i64 v3.k, .int .i64 v3.t, .bool v3.m, .slice v3.B v3.bs.length v3.d, .slice v3.A v3.ls.length v3.c] 27))
  have HX8 := Lib.hid (HX7.out.grew (grew_alloc (grew_refl w7 none) (.cells #[.int .i64 v3.k, .int .i64 v3.t, .bool v3.m, .slice v3.B v3.bs.length v3.d, .slice v3.A v3.ls.length v3.c] 27)) (by simp))
  have HV8 := Lib.hid (HV7.out.grew (grew_alloc (grew_refl w7 none) (.cells #[.int .i64 v3.k, .int .i64 v3.t, .bool v3.m, .slice v3.B v3.bs.length v3.d, .slice v3.A v3.ls.length v3.c] 27)))
  have HY8 := Lib.hid ((HY7.out.grew (grew_alloc (grew_refl w7 none) (.cells #[.int .i64 v3.k, .int .i64 v3.t, .bool v3.m, .slice v3.B v3.bs.length v3.d, .slice v3.A v3.ls.length v3.c] 27)) (fun _ e => by cases e)).more (grew_alloc (grew_refl w7 none) (.cells #[.int .i64 v3.k, .int .i64 v3.t, .bool v3.m, .slice v3.B v3.bs.length v3.d, .slice v3.A v3.ls.length v3.c] 27)).size)
  generalize w7.alloc (.cells #[.int .i64 v3.k, .int .i64 v3.t, .bool v3.m, .slice v3.B v3.bs.length v3.d, .slice v3.A v3.ls.length v3.c] 27) = w8 at *
  clear B7 HX7 HV7 HY7
  obtain ⟨M, hM⟩ : ∃ M, L - 1 = M := ⟨_, rfl⟩
  have hL0 : 0 < L := by have := HK.out.2.2.2.2.1; have := HL.out; omega
  have hMI : (L : Int) - 1 = (M : Int) := by omega
  have HM := Lib.hid (show xs.length - 1 = M ∧ (xs.take M).length = M from ⟨by rw [HL.out]; exact hM, by rw [List.length_take, HL.out]; omega⟩)
  have hBA := HBA.out w8 B8.out
  obtain ⟨b, o', rfl, -⟩ := hBA (by rw [HL.out]; exact hL0)
  have hr3 := HR.out w8 (some ⟨b, o', none⟩) c (xs.take M) 0 (HT.out.self B8.out) (hBA.take M) (by have := HM.out.2; have := HC.out; have := HL.out; omega) (by have := HM.out.2; omega) (by omega) (by omega)
  have hK2 := HK.out.2.2.2.2.2.2
  rw [HM.out.1] at hK2
  rw [HM.out.2, hK2] at hr3
  have hs1 : ∀ w' : World, (Instr.slice 22 (.slice (some ⟨b, o', none⟩) L c) none (some (.int .i64 (M : Int))) none).run Tryd.prog w' = .ok (.slice (some ⟨b, o', none⟩) M c) w' := fun w' => slice_to w' b o' L c M (by have := HC.out; have := HL.out; omega)
  clear hBA hK2 hM
  go_wp2_with fail
  refine hr3.mono ?_
  rintro e w9 ⟨v4, rfl, -, -, b9⟩
  dsimp only
  have B9 := Lib.hid (B8.out.trans (b9.mono B8.out.size))
  have HX9 := Lib.hid (HX8.out.below b9 HX8.out.lt)
  have HV9 := Lib.hid (HV8.out.grew (grew_of_below b9))
  have HY9 := Lib.hid ((HY8.out.grew (grew_of_below b9) (fun _ e => by cases e)).more b9.size)
  clear hr3 b9 HX8 HV8 HY8 B8
  go_upto_region 9 with (fail)
  have Ba := Lib.hid (B9.out.alloc B9.out.size (.cells #[.int .i64 v4.k, .int .i64 v4.t, .bool v4.m, .slice v4.B v4.bs.length v4.d, .slice v4.A v4.ls.length v4.c] 27))
  have HXa := Lib.hid (HX9.out.grew (grew_alloc (grew_refl w9 none) (.cells #[.int .i64 v4.k, .int .i64 v4.t, .bool v4.m, .slice v4.B v4.bs.length v4.d, .slice v4.A v4.ls.length v4.c] 27)) (by simp))
  have HVa := Lib.hid (HV9.out.grew (grew_alloc (grew_refl w9 none) (.cells #[.int .i64 v4.k, .int .i64 v4.t, .bool v4.m, .slice v4.B v4.bs.length v4.d, .slice v4.A v4.ls.length v4.c] 27)))
  have HYa := Lib.hid ((HY9.out.grew (grew_alloc (grew_refl w9 none) (.cells #[.int .i64 v4.k, .int .i64 v4.t, .bool v4.m, .slice v4.B v4.bs.length v4.d, .slice v4.A v4.ls.length v4.c] 27)) (fun _ e => by cases e)).more (grew_alloc (grew_refl w9 none) (.cells #[.int .i64 v4.k, .int .i64 v4.t, .bool v4.m, .slice v4.B v4.bs.length v4.d, .slice v4.A v4.ls.length v4.c] 27)).size)
  generalize w9.alloc (.cells #[.int .i64 v4.k, .int .i64 v4.t, .bool v4.m, .slice v4.B v4.bs.length v4.d, .slice v4.A v4.ls.length v4.c] 27) = wa at *
  clear B9 HX9 HV9 HY9
  have hcv1 : (convert 22 9 (.slice A7 L d7)).run Tryd.prog wa = .ok (.string (txt xs)) wa := conv_txt wa Tryd.underlying22 Tryd.underlying5 Tryd.underlying9 HYa.out HL.out.symm d7
  have hcv2 : (convert 22 9 (.slice (some ⟨b, o', none⟩) L c)).run Tryd.prog wa = .ok (.string (txt xs)) wa := conv_txt wa Tryd.underlying22 Tryd.underlying5 Tryd.underlying9 (HBA.out wa Ba.out) HL.out.symm c
  generalize txt xs = X at *
  have x0 : wa.cell? ⟨xq, 0, none⟩ = some (.int .i64 v.k) := HXa.out.cell 0
  have x1 : wa.cell? ⟨xq, 1, none⟩ = some (.int .i64 v.t) := HXa.out.cell 1
  have x2 : wa.cell? ⟨xq, 2, none⟩ = some (.bool v.m) := HXa.out.cell 2
  have x3 : wa.cell? ⟨xq, 3, none⟩ = some (.slice v.B v.bs.length v.d) := HXa.out.cell 3
  have x4 : wa.cell? ⟨xq, 4, none⟩ = some (.slice v.A v.ls.length v.c) := HXa.out.cell 4
  have hck := HCC.out wa v (HT.out.self Ba.out) HVa.out (by have := HK.out.2.2.2.1; have := HL.out; omega)
  rw [HK.out.2.1] at hck
  go_wp2_with fail
  refine hck.mono ?_
  rintro e wb ⟨rfl, gb⟩
  dsimp only
  have HXb := Lib.hid (HXa.out.grew gb (by simp))
  have HVb := Lib.hid (HVa.out.grew gb)
  have Bb := Lib.hid (Ba.out.trans (grew_below gb Ba.out.size (fun _ e => by cases e)))
  clear x0 x1 x2 x3 x4 hck gb HXa HVa Ba hcv1 hcv2 HYa
  have x0 : wb.cell? ⟨xq, 0, none⟩ = some (.int .i64 v.k) := HXb.out.cell 0
  have x1 : wb.cell? ⟨xq, 1, none⟩ = some (.int .i64 v.t) := HXb.out.cell 1
  have x2 : wb.cell? ⟨xq, 2, none⟩ = some (.bool v.m) := HXb.out.cell 2
  have x3 : wb.cell? ⟨xq, 3, none⟩ = some (.slice v.B v.bs.length v.d) := HXb.out.cell 3
  have x4 : wb.cell? ⟨xq, 4, none⟩ = some (.slice v.A v.ls.length v.c) := HXb.out.cell 4
  obtain ⟨Q, hQ⟩ : ∃ Q, v.dep = Q := ⟨_, rfl⟩
  have hQ8 : (Q : Int) ≤ 8 := by have := HK.out.2.2.1; omega
  have hdp := HDC.out wb v (HT.out.self Bb.out) HVb.out (by have := HK.out.2.2.2.1; have := HL.out; omega)
  rw [hQ] at hdp
  go_wp2_with fail
  refine hdp.mono ?_
  rintro e wc ⟨rfl, gc⟩
  have HF := Lib.hid (Bb.out.trans (grew_below gc Bb.out.size (fun _ e => by cases e)))
  clear gc hdp
  go_wp2_with fail
  go_ret
  exact ⟨rfl, HF.out⟩

theorem derOne_walk (w : World) (A : Option Addr) (c : Nat) (xs : List UInt8) (hl : xs.length ≤ c) (hc : c ≤ 140737488351232) (hb : Byt w w.heap.size A xs) (y : Int) (hy : (Lit.int .u8 y).wf = true) (hL : laidMetH Tryd.prog laidList w) :
    Calls Tryd.prog 7 #[.slice A xs.length c, .int .u8 y] w fun e w' => e = .returned (.bool true) ∧ Below w.heap.size w w' := by
  have hb8 := bounds_u8 hy
  obtain ⟨t, rfl⟩ := Int.eq_ofNat_of_zero_le hb8.1
  have ht : ((UInt8.ofNat t).toNat : Int) = (t : Int) := by rw [UInt8.toNat_ofNat']; omega
  have := derOne_by aliveE readEC writeEC checkEC depthEC w A c xs hl hc hb (UInt8.ofNat t) (tb_of_laid hL)
  rw [ht] at this
  exact this

set_option maxRecDepth 100000 in
theorem derOne_lifted (os : Os) (started : os.Started) (H : Type) (enc : TypeId × Value → H) :
    ReturnsInHanded {} Tryd.checked os 7 .any (fun w args => (Rows.derOneSpec.pre enc Tryd.prog Tryd.f7 [] false w args ∧ laidMetH Tryd.prog laidList w) ∧ sizedMet enc Tryd.prog Tryd.f7 (OpenSpec.ofChange Rows.derOneSpec) false w args)
      (Rows.derOneSpec.post enc Tryd.prog Tryd.f7 false true false false) := by
  refine returnsInHanded_of_change_and (C := Tryd.checked) (X := fun w _ => laidMetH Tryd.prog laidList w) (fun _ _ _ hh h => h.of_heap hh) own started (by kernel_rfl) Tryd.func7
    (ChangeSpec.witness_shaped (enc := enc) (C := Tryd.checked) (os := os) (X := fun w _ => laidMetH Tryd.prog laidList w) false (World.doorLaid Tryd.prog doorSteps os) #[.slice none 0 0, .int .u8 0] 8 rfl (World.shaped_of_RefB (by kernel_rfl) (by kernel_rfl)) (by kernel_rfl) (by kernel_rfl) (by kernel_rfl) (door_met os _)) ?_
  intro W base args ds gs before hval0 hW hcnd hsz0 hL _
  have hval : ∀ (j : Nat) t v, Tryd.f7.params[j]? = some t → args[j]? = some v → Value.okWide Tryd.prog W .any base t v := hval0
  have hsz : (DataW.weightsEach Tryd.prog (Tryd.f7.params.toList ++ Rows.derOneSpec.plain.varTypes Tryd.prog) (ds ++ gs)).all (· ≤ reachBytes) = true := hsz0
  have hW' := hW
  obtain ⟨p, q, hA0, hV, rfl, hfz, hnd⟩ := hW
  have hA : DataW.TrodAll enc Tryd.prog W 0 (fun _ => true) true Tryd.f7.params.toList args.toList ds p := hA0
  rw [Tryd.params7] at hA hval hsz
  obtain ⟨v0, vs0, d0, ds0, p0, q0, hargs, rfl, rfl, h0, r0⟩ := trodAll_cons hA
  obtain ⟨v1, vs1, d1, ds1, p1, q1, rfl, rfl, rfl, h1, r1⟩ := trodAll_cons r0
  obtain ⟨rfl, rfl, rfl⟩ := trodAll_nil r1
  obtain rfl : args = #[v0, v1] := by cases args; simp_all
  obtain ⟨rfl, rfl⟩ := trodVars_none hV
  have k0 := h0
  have lt0 : ∀ x ∈ p0, x.block < W.heap.size := by obtain ⟨m, hm⟩ := k0; exact DataW.trod_lt m _ _ _ hm
  obtain ⟨A0, c0, x0, rfl, l0, m0, b0⟩ := arg_bytes (hval 0 22 v0 rfl rfl) h0 hsz (j := 0) rfl rfl
  obtain ⟨a1, rfl, rfl, rfl, w1⟩ := open_int Tryd.underlying5 (hval 1 5 v1 rfl rfl) h1
  clear hA0 hval0 hsz0
  refine (derOne_walk W A0 c0 x0 l0 m0 b0 a1 w1 hL).mono fun e W' ⟨he, bel⟩ => ?_
  subst he
  exact ⟨_, rfl, _, _, _, [], _, [], hW', trodAll_mk1 (shut_bool Tryd.underlying4 _), (trodAll_cons_mk (Below.trod laidOut (by kernel_rfl) (of_decide_eq_true (by kernel_rfl)) k0 bel lt0) (trodAll_cons_mk (shut_int Tryd.underlying5 w1) trodAll_mk0)), rfl, bel.frame _, fun h => by cases h⟩

theorem derOne_over : Rows.derOneRow.holds Tryd.pinned (OpenSpec.ofChange Rows.derOneSpec) :=
  OpenClaim.holds_of_wide 7 Tryd.f7 rfl rfl rfl rfl rfl rfl rfl ⟨rfl, rfl, rfl, rfl, rfl⟩ rfl rfl rfl rfl rfl (by kernel_rfl) Tryd.func7 (by kernel_rfl)
    (of_decide_eq_true (by kernel_rfl)) (by unfold Func.isWrapper; first | (rw [if_pos (by decide +kernel)]; kernel_rfl) | (rw [if_neg (by decide +kernel)]; exact ⟨rfl, rfl⟩))
    (fun os started H enc _ => derOne_lifted os started H enc)

theorem derOne_holds : Rows.DerOneSaid := derOne_over
#print axioms derOne_holds

/-- The row's card: what it lists of the package's variables is what the program's own text lays there. -/
theorem derOne_card : Rows.DerOneCardSaid :=
  Claim7.holds_tied_plain_at .later [] [.data] true Rows.derOneCard.stood.harness false
    derOne_holds (fun _ h => by cases h) (by kernel_rfl) (fun _ h => by cases h) derOne_row_tie rfl ⟨rfl, rfl⟩ (by kernel_rfl) rfl
    (fun f fn hf hfn => by
      obtain rfl : f = 7 := Option.some.inj ((show Tryd.prog.funcNamed "passepartout/passepartoutlaw11.DerOne" = some 7 by kernel_rfl).symm.trans hf) |>.symm
      obtain rfl : fn = Tryd.f7 := (Option.some.inj (Tryd.func7.symm.trans hfn)).symm
      exact ⟨by kernel_rfl, fun j t ht => by
        rw [Tryd.params7] at ht
        have hm : t ∈ [22, 5] := by simpa using Array.mem_of_getElem? ht
        have hall : ([22, 5].all fun u => !Tryd.prog.wantsStandIn u) = true := by kernel_rfl
        exact (show Tryd.prog.wantsStandIn t = false by simpa using List.all_eq_true.1 hall t hm)⟩)
    (by kernel_rfl)
#print axioms derOne_card
end Go.Proofs.YtnjnghbonmdbdaaDoor

