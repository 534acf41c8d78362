/- A value that fits a form doesn't any more when a field is filled that isn't its kind's: for every form, value and bytes the law returns true. No condition. -/
import Derived.Test.YtmdmfinpcbedcaaVal
import Derived.Test.YtmdmfinpcbedcaaVa2
import Derived.Deep.Cut
import Derived.Test.YtmdmfinpcbedcaaVg
import Derived.Test.YtmdmfinpcbedcaaOv
namespace Go.Proofs.Ytmdmfinpcbedcaa
open Go.ChangeShapes Go.WideShapes Go.ChangeAt Go.RowKit Va

/-- With another field filled it doesn't fit. -/
theorem fit_lonB {k s l h t : Int} {A : Option Addr} {c : Nat} {ps : List Fo} {v : Va} (h0 : lonB v (Va.own k) = false) : fit (.mk k s l h t A c ps) v = (0, 15) := by rw [fit, if_pos h0]
theorem meas_filled {f : Fo} {v : Va} (hc : f.chk = 0) {j : Nat} (hj : j < 3) (hne : j ≠ Va.own f.k) (hf : fil v j = true) : (meas f v).2 = 15 := by
  rw [meas_ok hc]
  obtain ⟨k, s, l, h, t, A, c, ps⟩ := f
  have : fit (.mk k s l h t A c ps) v = (0, 15) := fit_lonB (lone_false hj hne hf)
  rw [this]
theorem meas_zero {f : Fo} {v : Va} (h : (meas f v).2 = 0) : f.chk = 0 := by
  by_cases hc : f.chk = 0
  · exact hc
  · rw [meas_no hc] at h; exact absurd h hc
theorem kind_of {f : Fo} (h : f.chk = 0) : f.k = 0 ∨ f.k = 1 ∨ f.k = 2 ∨ f.k = 3 ∨ f.k = 4 ∨ f.k = 5 := by
  obtain ⟨k, s, l, h, t, A, c, ps⟩ := f
  exact alone_kind (wrg_zero (chk_zero h).2).1

theorem or_one (n : Nat) : 0 < bits .or .u64 (n : Int) 1 ∧ bits .or .u64 (n : Int) 1 ≤ 18446744073709551615 := by
  have h1 : bits .or .u64 (n : Int) 1 = IntKind.u64.wrap ((BitVec.ofInt 64 (n : Int) ||| BitVec.ofInt 64 1).toNat : Int) := rfl
  have h2 : (1 : Nat) ≤ (BitVec.ofInt 64 (n : Int) ||| BitVec.ofInt 64 1).toNat := by
    rw [BitVec.toNat_or]
    exact Nat.right_le_or
  have h3 := (BitVec.ofInt 64 (n : Int) ||| BitVec.ofInt 64 1).isLt
  have h4 : ∀ m : Nat, m < 18446744073709551616 → IntKind.u64.wrap (m : Int) = (m : Int) := by
    intro m hm
    simp [IntKind.wrap, IntKind.signed, IntKind.bits]
    omega
  rw [h1, h4 _ h3]
  omega

/-- Bytes in a block of their own stay where another block turns. -/
theorem byt_far {x1 X2 : World} {q : Nat} {A : Option Addr} {bs : List UInt8} {cs : Array Value} (hb : Byt x1 x1.heap.size A bs) (fr : Fr x1 X2 (fun i => i = q)) (hq : Whole x1 q cs 26) (hcs : ∀ (i : Nat) (x : Int), cs[i]? ≠ some (Value.int .u8 x)) : Byt X2 X2.heap.size A bs := by
  intro hn
  obtain ⟨b, o, e, hlt, hc⟩ := hb hn
  have hbq : b ≠ q := by
    rintro rfl
    have c0 := hc 0 hn
    rw [hq.cell] at c0
    exact hcs _ _ c0
  exact ⟨b, o, e, Nat.lt_of_lt_of_le hlt fr.size, fun i hi => fr.cell (hc i hi) hbq⟩
theorem no_u8 (a : Int) (B A : Option Addr) (m d n c : Nat) : ∀ (i : Nat) (x : Int), (#[.int .u64 a, .slice B m d, .slice A n c] : Array Value)[i]? ≠ some (Value.int .u8 x) := by
  intro i x h
  have key : i = 0 ∨ i = 1 ∨ i = 2 ∨ 3 ≤ i := by omega
  rcases key with rfl | rfl | rfl | hi
  · simp at h
  · simp at h
  · simp at h
  · rw [Array.getElem?_eq_none (by simpa using hi)] at h; cases h

/-- What is known ahead of another field's filling. -/
structure Ready (w X : World) (qf q9 : Nat) (k : Int) (f : Fo) (v : Va) : Prop where
  g : Grew w X none
  fc : Whole X qf #[.int .i64 k, .int .i64 f.s, .int .i64 f.l, .int .i64 f.h, .int .i64 f.t, .slice f.A f.ps.length f.c] 31
  vc : Whole X q9 #[.int .u64 v.n, .slice v.B v.bs.length v.d, .slice v.A v.ls.length v.c] 26
  s9 : w.heap.size ≤ q9

set_option maxRecDepth 100000 in
set_option maxHeartbeats 4000000 in
theorem valueAlone_walk (w : World) (f : Fo) (hf : f.In w) (v : Va) (hv : v.In w) (B : Option Addr) (d : Nat) (bs : List UInt8) (hbl : bs.length ≤ d) (hbm : d ≤ 140737488351232) (hb : Byt w w.heap.size B bs) :
    Calls Try.prog 7 #[f.val, v.val, .slice B bs.length d] w fun e w' => e = .returned (.bool true) ∧ Below w.heap.size w w' := by
  have HF := Lib.hid hf
  have HV := Lib.hid hv
  have HB := Lib.hid hb
  clear hf hv hb
  have CF := Lib.hid (fun w' (u : Va) (g : Grew w w' none) (hu : u.In w') => fits_any w' f u (HF.out.grew g) hu)
  have T0 := Lib.hid (fun h => meas_zero (f := f) (v := v) h)
  have TF := Lib.hid (fun (u : Va) hc (j : Nat) hj hne hu => meas_filled (f := f) (v := u) hc (j := j) hj hne hu)
  have KF := Lib.hid (fun h => kind_of (f := f) h)
  have CV := Lib.hid (fun w' (g : Grew w w' none) => fits_any w' f v (HF.out.grew g) (HV.out.grew g))
  generalize (meas f v).2 = E at *
  rw [val_eq, vval_eq] at *
  go_enter Try.func7, Try.ntmps7
  go_wp2_with fail
  have hw2 := Whole.new_at (w.alloc (.cells #[.int .i64 f.k, .int .i64 f.s, .int .i64 f.l, .int .i64 f.h, .int .i64 f.t, .slice f.A f.ps.length f.c] 31)) #[.int .u64 v.n, .slice v.B v.bs.length v.d, .slice v.A v.ls.length v.c] 26 (p := w.heap.size + 1) (by simp)
  have hw1 := (Whole.new w #[.int .i64 f.k, .int .i64 f.s, .int .i64 f.l, .int .i64 f.h, .int .i64 f.t, .slice f.A f.ps.length f.c] 31).grew (grew_alloc (grew_refl _ none) (.cells #[.int .u64 v.n, .slice v.B v.bs.length v.d, .slice v.A v.ls.length v.c] 26)) (by simp)
  have hg2 := grew_alloc (grew_alloc (grew_refl w none) (.cells #[.int .i64 f.k, .int .i64 f.s, .int .i64 f.l, .int .i64 f.h, .int .i64 f.t, .slice f.A f.ps.length f.c] 31)) (.cells #[.int .u64 v.n, .slice v.B v.bs.length v.d, .slice v.A v.ls.length v.c] 26)
  generalize (w.alloc (.cells #[.int .i64 f.k, .int .i64 f.s, .int .i64 f.l, .int .i64 f.h, .int .i64 f.t, .slice f.A f.ps.length f.c] 31)).alloc (.cells #[.int .u64 v.n, .slice v.B v.bs.length v.d, .slice v.A v.ls.length v.c] 26) = W2 at *
  generalize w.heap.size + 1 = qv at *
  generalize hqf : w.heap.size = qf at *
  have HQF := Lib.hid hqf
  have HW1 := Lib.hid hw1
  have HW2 := Lib.hid hw2
  have HG := Lib.hid hg2
  clear hw1 hw2 hg2 hqf
  refine (alive5_any W2).mono ?_
  rintro e w3 ⟨rfl, g3⟩
  obtain ⟨v0, v1, v2⟩ := (HW2.out.grew g3 (by simp)).three
  obtain ⟨c0, c1, c2, c3, c4, c5⟩ := (HW1.out.grew g3 (by simp)).six
  have HG3 := Lib.hid (grew_trans HG.out g3)
  have HF3 := Lib.hid (HW1.out.grew g3 (by simp))
  have HV3 := Lib.hid (HW2.out.grew g3 (by simp))
  clear g3 HG HW1 HW2
  go_wp2_with fail
  have hl := Va.Lie.whole (Whole.new w3 #[.int .u64 v.n, .slice v.B v.bs.length v.d, .slice v.A v.ls.length v.c] 26) (ps := [v]) rfl
  have hg := grew_alloc (grew_refl w3 none) (.cells #[.int .u64 v.n, .slice v.B v.bs.length v.d, .slice v.A v.ls.length v.c] 26)
  clear v0 v1 v2 c0 c1 c2 c3 c4 c5
  generalize w3.alloc (.cells #[.int .u64 v.n, .slice v.B v.bs.length v.d, .slice v.A v.ls.length v.c] 26) = W4 at *
  generalize w3.heap.size = ql at *
  refine (vgreat_any W4 f (some ⟨ql, 0, none⟩) 1 [v] (HF.out.grew (grew_trans HG3.out hg)) hl (fun u hu => by rw [List.mem_singleton] at hu; subst hu; exact HV.out.grew (grew_trans HG3.out hg)) (by simp)).mono ?_
  rintro e w5 ⟨r, rfl, r0, r1, g5⟩
  obtain ⟨v0, v1, v2⟩ := (HV3.out.grew (grew_trans hg g5) (by simp)).three
  obtain ⟨c0, c1, c2, c3, c4, c5⟩ := (HF3.out.grew (grew_trans hg g5) (by simp)).six
  have HG5 := Lib.hid (grew_trans HG3.out (grew_trans hg g5))
  have HF5 := Lib.hid (HF3.out.grew (grew_trans hg g5) (by simp))
  have HV5 := Lib.hid (HV3.out.grew (grew_trans hg g5) (by simp))
  clear hl hg g5 HG3 HF3 HV3
  by_cases hr : 0 < r
  · clear v0 v1 v2 c0 c1 c2 c3 c4 c5
    go_wp2_with fail
    refine (alive5_any w5).mono ?_
    rintro e w6 ⟨rfl, g6⟩
    go_wp2_with fail
    go_ret
    exact ⟨rfl, grew_below (grew_trans HG5.out g6) (by rw [HQF.out]; exact Nat.le_refl _) (fun _ h => by cases h)⟩
  · go_wp2_with fail
    refine (CV.out w5 HG5.out).mono ?_
    rintro e w6 ⟨rfl, g6⟩
    have HG6 := Lib.hid (grew_trans HG5.out g6)
    have HF6 := Lib.hid (HF5.out.grew g6 (by simp))
    have HV6 := Lib.hid (HV5.out.grew g6 (by simp))
    clear g6 v0 v1 v2 c0 c1 c2 c3 c4 c5 HG5 HF5 HV5 CV
    by_cases hE : E = 0
    · have HCH := Lib.hid (T0.out hE)
      have hkd := KF.out HCH.out
      have HKD := Lib.hid hkd
      subst hE
      clear hkd KF T0
      go_wp2_with fail
      refine act_letterC (fun A1 hA1 => ?_)
      have d4 : A1.eval (.tmp 4) = .pointer (some ⟨qv, 0, none⟩) := by rw [← hA1]; rfl
      have sz1 : A1.tmps.size = 74 := by rw [← hA1]; rfl
      have HA1 := Lib.hid hA1
      clear hA1
      refine Code.wp_mono (Q := fun e a' w' => e = .normal ∧ Copies A1 w6 v 29 30 8 9 a' w') (fun e a' X h => ?_) ?_
      · obtain ⟨rfl, q8, q9, rfl, hne, hs8, hs9, h8, h9, gX⟩ := h
        have HGX := Lib.hid (grew_trans HG6.out gX)
        have HFX := Lib.hid (HF6.out.grew gX (by simp))
        have H8 := Lib.hid h8
        have H9 := Lib.hid h9
        have HN := Lib.hid hne
        have HS8 := Lib.hid (show w.heap.size ≤ q8 by have := HG6.out.size; omega)
        have HS9 := Lib.hid (show w.heap.size ≤ q9 by have := HG6.out.size; omega)
        clear h8 h9 hne hs8 hs9 gX HG6 HF6 HV6
        have HR := Lib.hid (show Ready w X qf q9 f.k f v from ⟨HGX.out, HFX.out, H9.out, HS9.out⟩)
        clear HGX HFX H9 HS9
        rw [← HA1.out]
        clear HA1 d4 sz1
        simp only [Act.put, List.setIfInBounds_toArray, List.set_cons_zero, List.set_cons_succ]
        obtain ⟨K, hmin, hKl⟩ : ∃ K : Nat, (if (50 : Int) < (bs.length : Int) then 50 else (bs.length : Int)) = (K : Int) ∧ K ≤ bs.length ∧ K ≤ 50 := by
          by_cases h : 50 < bs.length
          · exact ⟨50, by rw [if_pos (by omega)]; rfl, by omega, by omega⟩
          · exact ⟨bs.length, by rw [if_neg (by omega)], by omega, by omega⟩
        have HMIN := Lib.hid hmin
        have HKL := Lib.hid (show (bs.take K).length = K by rw [List.length_take]; omega)
        clear hmin
        have hkd := HKD.out
        rw [HQF.out.symm] at HB
        generalize hk : f.k = k at *
        have HK := Lib.hid hk
        clear hk
        by_cases hk0 : k = 0
        · subst hk0
          clear hkd HKD
          obtain ⟨c0, c1, c2, c3, c4, c5⟩ := HR.out.fc.six
          go_upto_region 10 with (fail)
          clear c0 c1 c2 c3 c4 c5
          have hmin := HMIN.out
          obtain ⟨u0, u1, u2⟩ := HR.out.vc.three
          have HA := Lib.hid (fun ty => append_bytes (P := Try.prog) (w := X.alloc (.cells #[.int .u8 7] 5)) 23 ty 5 Try.underlying23 info_u8 (xs := [7]) (v := .slice (some ⟨X.heap.size, 0, none⟩) 1 1) (n := 1) ⟨rfl, .inr ⟨X.heap.size, 1, #[.int .u8 7], rfl, Nat.zero_le _, Whole.new _ _ _, Nat.le_refl _, by unfold maxLen; omega, rfl, rfl⟩⟩ (F := (· < w.heap.size)) (((HB.out.grew (grew_alloc HR.out.g _) (fun _ h => by cases h)).byf).take K) d (by rw [HKL.out]; omega))
          rw [HKL.out] at HA
          go_upto_region 11 with (at_builtin; refine wpList_append_run _ rfl (.tmp 54) (.tmp 59) 23 rfl rfl rfl HA.out ?_; rintro v' x1 ⟨a1, a2, a3⟩; obtain ⟨A', c', rfl, l1, b1⟩ := byt_of_own a1; have k9 := (HR.out.vc.grew (grew_alloc (grew_refl _ none) _) (by simp)).grew a2 (by simp [Value.ownBlock]; have := HR.out.vc.lt; omega); have L1 := Lib.hid l1; have B1 := Lib.hid b1; have K9 := Lib.hid k9; have KF := Lib.hid ((HR.out.fc.grew (grew_alloc (grew_refl _ none) _) (by simp)).grew a2 (by simp [Value.ownBlock]; have := HR.out.fc.lt; omega)); have KG := Lib.hid (grew_own (grew_alloc HR.out.g _) a2 (by have := HR.out.g.size; exact this)); have kz := k9.frozen; obtain ⟨k0, k1, k2⟩ := k9.three; clear a1 a2 a3 l1 b1 k9)
          clear u0 u1 u2 HA hmin kz k0 k1 k2
          have fr : Fr x1 (x1.setCell ⟨q9, 1, none⟩ (.slice A' (K + 1) c')) (fun i => i = q9) := Fr.set (F := fun i => i = q9) (Fr.refl _ _) (p := q9) (.inl rfl) 1 none _
          have hl7 : ([7] ++ bs.take K).length = K + 1 := by simp [HKL.out]
          have h9' : Whole (x1.setCell ⟨q9, 1, none⟩ (.slice A' (K + 1) c')) q9 #[.int .u64 v.n, .slice A' (K + 1) c', .slice v.A v.ls.length v.c] 26 := K9.out.set 1 _
          have hf' := KF.out.fr fr (KF.out.ne K9.out (by decide))
          have hg' : Grew w (x1.setCell ⟨q9, 1, none⟩ (.slice A' (K + 1) c')) none := grew_own KG.out (grew_set (grew_refl x1 (some q9)) 1 none _) HR.out.s9
          have hb' : Byt (x1.setCell ⟨q9, 1, none⟩ (.slice A' (K + 1) c')) (x1.setCell ⟨q9, 1, none⟩ (.slice A' (K + 1) c')).heap.size A' ([7] ++ bs.take K) := byt_far B1.out fr K9.out (no_u8 _ _ _ _ _ _ _)
          have HU := Lib.hid (show Va.In (x1.setCell ⟨q9, 1, none⟩ (.slice A' (K + 1) c')) (.mk v.n A' c' ([7] ++ bs.take K) v.A v.c v.ls) by
            have h := HV.out.grew hg'
            exact .mk h.num hb' ⟨L1.out, by rw [hl7]; omega⟩ h.list.2.1 h.list.2.2 h.list.1 h.parts)
          have HL7 := Lib.hid hl7
          clear hl7 fr hb' L1 B1 K9 KF KG
          have HG' := Lib.hid hg'
          generalize x1.setCell ⟨q9, 1, none⟩ (.slice A' (K + 1) c') = X2 at *
          obtain ⟨u0, u1, u2⟩ := h9'.three
          obtain ⟨c0, c1, c2, c3, c4, c5⟩ := hf'.six
          clear h9' hf' hg'
          have HE := Lib.hid (TF.out (.mk v.n A' c' ([7] ++ bs.take K) v.A v.c v.ls) HCH.out 1 (by omega) (by decide) (by simp [fil, Va.bs]))
          have CU := Lib.hid (CF.out X2 (.mk v.n A' c' ([7] ++ bs.take K) v.A v.c v.ls) HG'.out HU.out)
          rw [HE.out, vval_eq] at CU
          simp only [Va.n, Va.B, Va.d, Va.bs, Va.A, Va.c, Va.ls, HL7.out] at CU
          go_wp2_with fail
          refine CU.out.mono ?_
          rintro e w9 ⟨rfl, g9⟩
          clear u0 u1 u2 c0 c1 c2 c3 c4 c5
          go_wp2_with fail
          go_ret
          exact ⟨rfl, grew_below (grew_trans HG'.out g9) (by rw [HQF.out]; exact Nat.le_refl _) (fun _ h => by cases h)⟩
        · have hkb : (k != 0) = true := by simpa using hk0
          obtain ⟨v0, v1, v2⟩ := (show Whole X q8 #[.int .u64 v.n, .slice v.B v.bs.length v.d, .slice v.A v.ls.length v.c] 26 from H8.out).three
          obtain ⟨c0, c1, c2, c3, c4, c5⟩ := HR.out.fc.six
          have hz8 := H8.out.frozen
          go_upto_region 7 with (fail)
          clear v0 v1 v2 c0 c1 c2 c3 c4 c5 hz8
          obtain ⟨z0, z1⟩ := or_one bs.length
          generalize bits BinOp.or IntKind.u64 (bs.length : Int) 1 = Z at *
          have h8' : Whole (X.setCell ⟨q8, 0, none⟩ (.int .u64 Z)) q8 #[.int .u64 Z, .slice v.B v.bs.length v.d, .slice v.A v.ls.length v.c] 26 := H8.out.set 0 _
          have fr : Fr X (X.setCell ⟨q8, 0, none⟩ (.int .u64 Z)) (fun i => i = q8) := Fr.set (F := fun i => i = q8) (Fr.refl _ _) (p := q8) (.inl rfl) 0 none _
          have HR1 := Lib.hid (show Ready w (X.setCell ⟨q8, 0, none⟩ (.int .u64 Z)) qf q9 k f v from ⟨grew_own HR.out.g (grew_set (grew_refl X (some q8)) 0 none _) HS8.out, HR.out.fc.fr fr (HR.out.fc.ne H8.out (by decide)), HR.out.vc.fr fr (Ne.symm HN.out), HR.out.s9⟩)
          have H8' := Lib.hid h8'
          clear h8' fr H8 HR
          generalize X.setCell ⟨q8, 0, none⟩ (.int .u64 Z) = X1 at *
          obtain ⟨v0, v1, v2⟩ := H8'.out.three
          obtain ⟨c0, c1, c2, c3, c4, c5⟩ := HR1.out.fc.six
          have HU := Lib.hid (show Va.In X1 (.mk Z v.B v.d v.bs v.A v.c v.ls) by
            have h := HV.out.grew HR1.out.g
            exact .mk ⟨by omega, z1⟩ h.bytes.1 h.bytes.2 h.list.2.1 h.list.2.2 h.list.1 h.parts)
          have HE := Lib.hid (TF.out (.mk Z v.B v.d v.bs v.A v.c v.ls) HCH.out 0 (by omega) (by unfold Va.own; rw [if_neg hk0]; split <;> simp) (by unfold fil; rw [if_pos rfl]; exact decide_eq_true (show Z ≠ 0 by omega)))
          go_wp2_with fail
          refine (CF.out X1 (.mk Z v.B v.d v.bs v.A v.c v.ls) HR1.out.g HU.out).mono ?_
          rintro e w7 ⟨rfl, g7⟩
          rw [HE.out]
          have HR7 := Lib.hid (show Ready w w7 qf q9 k f v from ⟨grew_trans HR1.out.g g7, HR1.out.fc.grew g7 (by simp), HR1.out.vc.grew g7 (by simp), HR1.out.s9⟩)
          clear HU HE HR1 H8' g7 v0 v1 v2 c0 c1 c2 c3 c4 c5
          obtain ⟨c0, c1, c2, c3, c4, c5⟩ := HR7.out.fc.six
          have key : (k = 2 ∨ k = 3) ∨ (k = 1 ∨ k = 4 ∨ k = 5) := by omega
          clear hkd HKD
          rcases key with hk23 | hk145
          · have hb1 : (k == 0) = false := by simp; omega
            rcases hk23 with rfl | rfl
            · go_upto_region 10 with (fail)
              clear c0 c1 c2 c3 c4 c5
              have hmin := HMIN.out
              obtain ⟨u0, u1, u2⟩ := HR7.out.vc.three
              have HA := Lib.hid (fun ty => append_bytes (P := Try.prog) (w := w7.alloc (.cells #[.int .u8 7] 5)) 23 ty 5 Try.underlying23 info_u8 (xs := [7]) (v := .slice (some ⟨w7.heap.size, 0, none⟩) 1 1) (n := 1) ⟨rfl, .inr ⟨w7.heap.size, 1, #[.int .u8 7], rfl, Nat.zero_le _, Whole.new _ _ _, Nat.le_refl _, by unfold maxLen; omega, rfl, rfl⟩⟩ (F := (· < w.heap.size)) (((HB.out.grew (grew_alloc HR7.out.g _) (fun _ h => by cases h)).byf).take K) d (by rw [HKL.out]; omega))
              rw [HKL.out] at HA
              go_upto_region 11 with (at_builtin; refine wpList_append_run _ rfl (.tmp 54) (.tmp 59) 23 rfl rfl rfl HA.out ?_; rintro v' x1 ⟨a1, a2, a3⟩; obtain ⟨A', c', rfl, l1, b1⟩ := byt_of_own a1; have k9 := (HR7.out.vc.grew (grew_alloc (grew_refl _ none) _) (by simp)).grew a2 (by simp [Value.ownBlock]; have := HR7.out.vc.lt; omega); have L1 := Lib.hid l1; have B1 := Lib.hid b1; have K9 := Lib.hid k9; have KF := Lib.hid ((HR7.out.fc.grew (grew_alloc (grew_refl _ none) _) (by simp)).grew a2 (by simp [Value.ownBlock]; have := HR7.out.fc.lt; omega)); have KG := Lib.hid (grew_own (grew_alloc HR7.out.g _) a2 (by have := HR7.out.g.size; exact this)); have kz := k9.frozen; obtain ⟨k0, k1, k2⟩ := k9.three; clear a1 a2 a3 l1 b1 k9)
              clear u0 u1 u2 HA hmin kz k0 k1 k2
              have fr : Fr x1 (x1.setCell ⟨q9, 1, none⟩ (.slice A' (K + 1) c')) (fun i => i = q9) := Fr.set (F := fun i => i = q9) (Fr.refl _ _) (p := q9) (.inl rfl) 1 none _
              have hl7 : ([7] ++ bs.take K).length = K + 1 := by simp [HKL.out]
              have h9' : Whole (x1.setCell ⟨q9, 1, none⟩ (.slice A' (K + 1) c')) q9 #[.int .u64 v.n, .slice A' (K + 1) c', .slice v.A v.ls.length v.c] 26 := K9.out.set 1 _
              have hf' := KF.out.fr fr (KF.out.ne K9.out (by decide))
              have hg' : Grew w (x1.setCell ⟨q9, 1, none⟩ (.slice A' (K + 1) c')) none := grew_own KG.out (grew_set (grew_refl x1 (some q9)) 1 none _) HR7.out.s9
              have hb' : Byt (x1.setCell ⟨q9, 1, none⟩ (.slice A' (K + 1) c')) (x1.setCell ⟨q9, 1, none⟩ (.slice A' (K + 1) c')).heap.size A' ([7] ++ bs.take K) := byt_far B1.out fr K9.out (no_u8 _ _ _ _ _ _ _)
              have HU := Lib.hid (show Va.In (x1.setCell ⟨q9, 1, none⟩ (.slice A' (K + 1) c')) (.mk v.n A' c' ([7] ++ bs.take K) v.A v.c v.ls) by
                have h := HV.out.grew hg'
                exact .mk h.num hb' ⟨L1.out, by rw [hl7]; omega⟩ h.list.2.1 h.list.2.2 h.list.1 h.parts)
              have HL7 := Lib.hid hl7
              clear hl7 fr hb' L1 B1 K9 KF KG
              have HG' := Lib.hid hg'
              generalize x1.setCell ⟨q9, 1, none⟩ (.slice A' (K + 1) c') = X2 at *
              obtain ⟨u0, u1, u2⟩ := h9'.three
              obtain ⟨c0, c1, c2, c3, c4, c5⟩ := hf'.six
              clear h9' hf' hg'
              have HE := Lib.hid (TF.out (.mk v.n A' c' ([7] ++ bs.take K) v.A v.c v.ls) HCH.out 1 (by omega) (by decide) (by simp [fil, Va.bs]))
              have CU := Lib.hid (CF.out X2 (.mk v.n A' c' ([7] ++ bs.take K) v.A v.c v.ls) HG'.out HU.out)
              rw [HE.out, vval_eq] at CU
              simp only [Va.n, Va.B, Va.d, Va.bs, Va.A, Va.c, Va.ls, HL7.out] at CU
              go_wp2_with fail
              refine CU.out.mono ?_
              rintro e w9 ⟨rfl, g9⟩
              clear u0 u1 u2 c0 c1 c2 c3 c4 c5
              go_wp2_with fail
              go_ret
              exact ⟨rfl, grew_below (grew_trans HG'.out g9) (by rw [HQF.out]; exact Nat.le_refl _) (fun _ h => by cases h)⟩
            · go_upto_region 10 with (fail)
              clear c0 c1 c2 c3 c4 c5
              have hmin := HMIN.out
              obtain ⟨u0, u1, u2⟩ := HR7.out.vc.three
              have HA := Lib.hid (fun ty => append_bytes (P := Try.prog) (w := w7.alloc (.cells #[.int .u8 7] 5)) 23 ty 5 Try.underlying23 info_u8 (xs := [7]) (v := .slice (some ⟨w7.heap.size, 0, none⟩) 1 1) (n := 1) ⟨rfl, .inr ⟨w7.heap.size, 1, #[.int .u8 7], rfl, Nat.zero_le _, Whole.new _ _ _, Nat.le_refl _, by unfold maxLen; omega, rfl, rfl⟩⟩ (F := (· < w.heap.size)) (((HB.out.grew (grew_alloc HR7.out.g _) (fun _ h => by cases h)).byf).take K) d (by rw [HKL.out]; omega))
              rw [HKL.out] at HA
              go_upto_region 11 with (at_builtin; refine wpList_append_run _ rfl (.tmp 54) (.tmp 59) 23 rfl rfl rfl HA.out ?_; rintro v' x1 ⟨a1, a2, a3⟩; obtain ⟨A', c', rfl, l1, b1⟩ := byt_of_own a1; have k9 := (HR7.out.vc.grew (grew_alloc (grew_refl _ none) _) (by simp)).grew a2 (by simp [Value.ownBlock]; have := HR7.out.vc.lt; omega); have L1 := Lib.hid l1; have B1 := Lib.hid b1; have K9 := Lib.hid k9; have KF := Lib.hid ((HR7.out.fc.grew (grew_alloc (grew_refl _ none) _) (by simp)).grew a2 (by simp [Value.ownBlock]; have := HR7.out.fc.lt; omega)); have KG := Lib.hid (grew_own (grew_alloc HR7.out.g _) a2 (by have := HR7.out.g.size; exact this)); have kz := k9.frozen; obtain ⟨k0, k1, k2⟩ := k9.three; clear a1 a2 a3 l1 b1 k9)
              clear u0 u1 u2 HA hmin kz k0 k1 k2
              have fr : Fr x1 (x1.setCell ⟨q9, 1, none⟩ (.slice A' (K + 1) c')) (fun i => i = q9) := Fr.set (F := fun i => i = q9) (Fr.refl _ _) (p := q9) (.inl rfl) 1 none _
              have hl7 : ([7] ++ bs.take K).length = K + 1 := by simp [HKL.out]
              have h9' : Whole (x1.setCell ⟨q9, 1, none⟩ (.slice A' (K + 1) c')) q9 #[.int .u64 v.n, .slice A' (K + 1) c', .slice v.A v.ls.length v.c] 26 := K9.out.set 1 _
              have hf' := KF.out.fr fr (KF.out.ne K9.out (by decide))
              have hg' : Grew w (x1.setCell ⟨q9, 1, none⟩ (.slice A' (K + 1) c')) none := grew_own KG.out (grew_set (grew_refl x1 (some q9)) 1 none _) HR7.out.s9
              have hb' : Byt (x1.setCell ⟨q9, 1, none⟩ (.slice A' (K + 1) c')) (x1.setCell ⟨q9, 1, none⟩ (.slice A' (K + 1) c')).heap.size A' ([7] ++ bs.take K) := byt_far B1.out fr K9.out (no_u8 _ _ _ _ _ _ _)
              have HU := Lib.hid (show Va.In (x1.setCell ⟨q9, 1, none⟩ (.slice A' (K + 1) c')) (.mk v.n A' c' ([7] ++ bs.take K) v.A v.c v.ls) by
                have h := HV.out.grew hg'
                exact .mk h.num hb' ⟨L1.out, by rw [hl7]; omega⟩ h.list.2.1 h.list.2.2 h.list.1 h.parts)
              have HL7 := Lib.hid hl7
              clear hl7 fr hb' L1 B1 K9 KF KG
              have HG' := Lib.hid hg'
              generalize x1.setCell ⟨q9, 1, none⟩ (.slice A' (K + 1) c') = X2 at *
              obtain ⟨u0, u1, u2⟩ := h9'.three
              obtain ⟨c0, c1, c2, c3, c4, c5⟩ := hf'.six
              clear h9' hf' hg'
              have HE := Lib.hid (TF.out (.mk v.n A' c' ([7] ++ bs.take K) v.A v.c v.ls) HCH.out 1 (by omega) (by decide) (by simp [fil, Va.bs]))
              have CU := Lib.hid (CF.out X2 (.mk v.n A' c' ([7] ++ bs.take K) v.A v.c v.ls) HG'.out HU.out)
              rw [HE.out, vval_eq] at CU
              simp only [Va.n, Va.B, Va.d, Va.bs, Va.A, Va.c, Va.ls, HL7.out] at CU
              go_wp2_with fail
              refine CU.out.mono ?_
              rintro e w9 ⟨rfl, g9⟩
              clear u0 u1 u2 c0 c1 c2 c3 c4 c5
              go_wp2_with fail
              go_ret
              exact ⟨rfl, grew_below (grew_trans HG'.out g9) (by rw [HQF.out]; exact Nat.le_refl _) (fun _ h => by cases h)⟩
          · have hb1 : (k == 0) = false := by simp; omega
            have hb2 : (k == 2) = false := by simp; omega
            have hb3 : (k == 3) = false := by simp; omega
            have HK145 := Lib.hid hk145
            clear hk145 hk0
            obtain ⟨u0, u1, u2⟩ := (HR7.out.vc.grew (grew_alloc (grew_refl w7 none) (.cells #[.int .u64 (bs.length : Int), .slice none 0 0, .slice none 0 0] 26)) (by simp)).three
            have kz : ∀ i, (w7.alloc (.cells #[.int .u64 (bs.length : Int), .slice none 0 0, .slice none 0 0] 26)).frozen? ⟨q9, i, none⟩ = false := (HR7.out.vc.grew (grew_alloc (grew_refl w7 none) _) (by simp)).frozen
            go_upto_region 14 with (fail)
            clear u0 u1 u2 c0 c1 c2 c3 c4 c5 kz hb1 hb2 hb3
            have k9 := HR7.out.vc.grew (grew_alloc (grew_refl w7 none) (.cells #[.int .u64 (bs.length : Int), .slice none 0 0, .slice none 0 0] 26)) (by simp)
            have kf := HR7.out.fc.grew (grew_alloc (grew_refl w7 none) (.cells #[.int .u64 (bs.length : Int), .slice none 0 0, .slice none 0 0] 26)) (by simp)
            have kg := grew_alloc HR7.out.g (.cells #[.int .u64 (bs.length : Int), .slice none 0 0, .slice none 0 0] 26)
            have kl := Whole.new w7 #[.int .u64 (bs.length : Int), .slice none 0 0, .slice none 0 0] 26
            have klt := HR7.out.vc.lt
            generalize w7.alloc (.cells #[.int .u64 (bs.length : Int), .slice none 0 0, .slice none 0 0] 26) = x1 at *
            generalize w7.heap.size = ql' at *
            have fr : Fr x1 (x1.setCell ⟨q9, 2, none⟩ (.slice (some ⟨ql', 0, none⟩) 1 1)) (fun i => i = q9) := Fr.set (F := fun i => i = q9) (Fr.refl _ _) (p := q9) (.inl rfl) 2 none _
            have h9' : Whole (x1.setCell ⟨q9, 2, none⟩ (.slice (some ⟨ql', 0, none⟩) 1 1)) q9 #[.int .u64 v.n, .slice v.B v.bs.length v.d, .slice (some ⟨ql', 0, none⟩) 1 1] 26 := k9.set 2 _
            have hf' := kf.fr fr (kf.ne k9 (by decide))
            have hg' : Grew w (x1.setCell ⟨q9, 2, none⟩ (.slice (some ⟨ql', 0, none⟩) 1 1)) none := grew_own kg (grew_set (grew_refl x1 (some q9)) 2 none _) HR7.out.s9
            have hl' := Va.Lie.whole (ps := [.mk (bs.length : Int) none 0 [] none 0 []]) (kl.fr fr (by omega)) rfl
            have HU := Lib.hid (show Va.In (x1.setCell ⟨q9, 2, none⟩ (.slice (some ⟨ql', 0, none⟩) 1 1)) (.mk v.n v.B v.d v.bs (some ⟨ql', 0, none⟩) 1 [.mk (bs.length : Int) none 0 [] none 0 []]) by
              have h := HV.out.grew hg'
              exact .mk h.num h.bytes.1 h.bytes.2 (by simp) (by simp) hl' (fun p hp => by rw [List.mem_singleton] at hp; subst hp; exact plainN_in _ ⟨by omega, by omega⟩))
            clear fr hl' k9 kf kg kl klt
            have HG' := Lib.hid hg'
            generalize x1.setCell ⟨q9, 2, none⟩ (.slice (some ⟨ql', 0, none⟩) 1 1) = X2 at *
            obtain ⟨u0, u1, u2⟩ := h9'.three
            obtain ⟨c0, c1, c2, c3, c4, c5⟩ := hf'.six
            clear h9' hf' hg'
            have HE := Lib.hid (TF.out (.mk v.n v.B v.d v.bs (some ⟨ql', 0, none⟩) 1 [.mk (bs.length : Int) none 0 [] none 0 []]) HCH.out 2 (by omega) (by have := HK145.out; unfold Va.own; rw [if_neg (by omega), if_neg (by omega)]; decide) (by simp [fil, Va.ls]))
            have CU := Lib.hid (CF.out X2 (.mk v.n v.B v.d v.bs (some ⟨ql', 0, none⟩) 1 [.mk (bs.length : Int) none 0 [] none 0 []]) HG'.out HU.out)
            rw [HE.out] at CU
            go_wp2_with fail
            refine CU.out.mono ?_
            rintro e w9 ⟨rfl, g9⟩
            clear u0 u1 u2 c0 c1 c2 c3 c4 c5
            go_wp2_with fail
            go_ret
            exact ⟨rfl, grew_below (grew_trans HG'.out g9) (by rw [HQF.out]; exact Nat.le_refl _) (fun _ h => by cases h)⟩
      · have G0 := Lib.hid (grew_drew (grew_refl w6 none))
        refine wp_region_held (S := fun w' => Grew w6 w' none) (by kernel_rfl) ?_
        change wpAnyH _ _ _ _ _ _ _ _ (World.drew w6)
        refine wpAnyH_take (i := 0) (v := v.val) rfl (by kernel_rfl) (by kernel_rfl) (by kernel_rfl) (fun _ _ _ h => by cases h.1) (.inl ⟨rfl, fun w g => run_value (v := v) rfl d4 (HV6.out.grew g (by simp))⟩) G0.out ?_
        refine wpAnyH_take (i := 1) (v := v.val) rfl (by kernel_rfl) (by kernel_rfl) (by kernel_rfl) (fun _ _ _ h => by cases h.1) (.inl ⟨rfl, fun w g => run_value (v := v) rfl (by exact (ev_ne A1 (m := 29) (n := 4) v.val (by decide)).trans d4) (HV6.out.grew g (by simp))⟩) G0.out ?_
        refine act_letter (fun A2 hA2 => ?_)
        have e29 : A2.eval (.tmp 29) = v.val := by rw [← hA2]; exact (ev_ne _ (m := 30) (n := 29) v.val (by decide)).trans (ev_self A1 29 v.val (by omega))
        have e30 : A2.eval (.tmp 30) = v.val := by rw [← hA2]; exact ev_self _ 30 v.val (by have := sz_put A1 29 v.val; exact (by omega : 30 < (A1.put (some 29) v.val).tmps.size))
        have sz2 : A2.tmps.size = 74 := by rw [← hA2]; exact ((sz_put _ 30 v.val).trans (sz_put A1 29 v.val)).trans sz1
        have HA2 := Lib.hid (show (A1.put (some 29) v.val).put (some 30) v.val = A2 from hA2)
        clear hA2 d4 sz1
        refine wpAnyH_ready (rs := [2, 3]) (by kernel_rfl) (by simp) ?_
        refine AllReadyH.cons rfl (fun K hK => ?_) (AllReadyH.cons rfl (fun K hK => ?_) AllReadyH.nil)
        · refine wp_newV rfl rfl (fun q8 W1 h8 g1 s8 => hK.out _ _ (grew_trans G0.out g1) (fun _ => ?_))
          clear hK K
          refine wpAnyH_ready (rs := [3]) (by kernel_rfl) (by simp) ?_
          refine AllReadyH.cons rfl (fun K hK => ?_) AllReadyH.nil
          refine wp_newV rfl rfl (fun q9 W2 h9 g2 s9 => hK.out _ _ (grew_trans G0.out (grew_trans g1 g2)) (fun _ => ?_))
          clear hK K
          have hlt : q8 < q9 := Nat.lt_of_lt_of_le h8.lt s9
          have b8 : w6.heap.size ≤ q8 := s8
          have b9 : w6.heap.size ≤ q9 := by omega
          have h8' := h8.grew g2 (by simp)
          have g := grew_trans G0.out (grew_trans g1 g2)
          clear h8 g1 g2 s8 s9
          refine act_letter (fun A3 hA3 => ?_)
          have d8 : A3.eval (.tmp 8) = .pointer (some ⟨q8, 0, none⟩) := by rw [← hA3]; exact (ev_ne _ (m := 9) (n := 8) _ (by decide)).trans (ev_self A2 8 _ (by omega))
          have d9 : A3.eval (.tmp 9) = .pointer (some ⟨q9, 0, none⟩) := by rw [← hA3]; exact ev_self _ 9 _ (by have := sz_put A2 8 (.pointer (some ⟨q8, 0, none⟩)); exact (by omega : 9 < (A2.put (some 8) (.pointer (some ⟨q8, 0, none⟩))).tmps.size))
          have d29 : A3.eval (.tmp 29) = v.val := by rw [← hA3]; exact (ev_ne _ (m := 9) (n := 29) _ (by decide)).trans ((ev_ne _ (m := 8) (n := 29) _ (by decide)).trans e29)
          have d30 : A3.eval (.tmp 30) = v.val := by rw [← hA3]; exact (ev_ne _ (m := 9) (n := 30) _ (by decide)).trans ((ev_ne _ (m := 8) (n := 30) _ (by decide)).trans e30)
          have HA3 := Lib.hid (show (A2.put (some 8) (.pointer (some ⟨q8, 0, none⟩))).put (some 9) (.pointer (some ⟨q9, 0, none⟩)) = A3 from hA3)
          clear hA3 e29 e30 sz2
          refine wpAnyH_ready (rs := [4]) (by kernel_rfl) (by simp) ?_
          refine AllReadyH.cons rfl (fun K hK => ?_) AllReadyH.nil
          refine wp_storeV (q := q8) (v := v) rfl rfl d8 d29 h8' (fun W3 k8 f3 => hK.out _ _ (grew_fr g f3 (fun i hi => by subst hi; assumption)) (fun _ => ?_))
          clear hK K
          refine wpAnyH_ready (rs := [5]) (by kernel_rfl) (by simp) ?_
          refine AllReadyH.cons rfl (fun K hK => ?_) AllReadyH.nil
          refine wp_storeV (q := q9) (v := v) rfl rfl d9 d30 (h9.fr f3 (by omega)) (fun W4 k9 f4 => hK.out _ _ (grew_fr (grew_fr g f3 (fun i hi => by subst hi; assumption)) f4 (fun i hi => by subst hi; assumption)) (fun _ => ?_))
          clear hK K
          refine wpAnyH_done (by kernel_rfl) ?_ _
          exact ⟨rfl, q8, q9, by rw [HA2.out, HA3.out]; rfl, by omega, b8, b9, k8.fr f4 (by omega), k9, grew_fr (grew_fr g f3 (fun i hi => by subst hi; assumption)) f4 (fun i hi => by subst hi; assumption)⟩
        · refine wp_newV rfl rfl (fun q9 W1 h9 g1 s9 => hK.out _ _ (grew_trans G0.out g1) (fun _ => ?_))
          clear hK K
          refine wpAnyH_ready (rs := [2]) (by kernel_rfl) (by simp) ?_
          refine AllReadyH.cons rfl (fun K hK => ?_) AllReadyH.nil
          refine wp_newV rfl rfl (fun q8 W2 h8 g2 s8 => hK.out _ _ (grew_trans G0.out (grew_trans g1 g2)) (fun _ => ?_))
          clear hK K
          have hlt : q9 < q8 := Nat.lt_of_lt_of_le h9.lt s8
          have b9 : w6.heap.size ≤ q9 := s9
          have b8 : w6.heap.size ≤ q8 := by omega
          have h9' := h9.grew g2 (by simp)
          have g := grew_trans G0.out (grew_trans g1 g2)
          clear h9 g1 g2 s8 s9
          refine act_letter (fun A3 hA3 => ?_)
          have d9 : A3.eval (.tmp 9) = .pointer (some ⟨q9, 0, none⟩) := by rw [← hA3]; exact (ev_ne _ (m := 8) (n := 9) _ (by decide)).trans (ev_self A2 9 _ (by omega))
          have d8 : A3.eval (.tmp 8) = .pointer (some ⟨q8, 0, none⟩) := by rw [← hA3]; exact ev_self _ 8 _ (by have := sz_put A2 9 (.pointer (some ⟨q9, 0, none⟩)); exact (by omega : 8 < (A2.put (some 9) (.pointer (some ⟨q9, 0, none⟩))).tmps.size))
          have d29 : A3.eval (.tmp 29) = v.val := by rw [← hA3]; exact (ev_ne _ (m := 8) (n := 29) _ (by decide)).trans ((ev_ne _ (m := 9) (n := 29) _ (by decide)).trans e29)
          have d30 : A3.eval (.tmp 30) = v.val := by rw [← hA3]; exact (ev_ne _ (m := 8) (n := 30) _ (by decide)).trans ((ev_ne _ (m := 9) (n := 30) _ (by decide)).trans e30)
          have HA3 := Lib.hid (show (A2.put (some 9) (.pointer (some ⟨q9, 0, none⟩))).put (some 8) (.pointer (some ⟨q8, 0, none⟩)) = A3 from hA3)
          clear hA3 e29 e30 sz2
          refine wpAnyH_ready (rs := [4]) (by kernel_rfl) (by simp) ?_
          refine AllReadyH.cons rfl (fun K hK => ?_) AllReadyH.nil
          refine wp_storeV (q := q8) (v := v) rfl rfl d8 d29 h8 (fun W3 k8 f3 => hK.out _ _ (grew_fr g f3 (fun i hi => by subst hi; assumption)) (fun _ => ?_))
          clear hK K
          refine wpAnyH_ready (rs := [5]) (by kernel_rfl) (by simp) ?_
          refine AllReadyH.cons rfl (fun K hK => ?_) AllReadyH.nil
          refine wp_storeV (q := q9) (v := v) rfl rfl d9 d30 (h9'.fr f3 (by omega)) (fun W4 k9 f4 => hK.out _ _ (grew_fr (grew_fr g f3 (fun i hi => by subst hi; assumption)) f4 (fun i hi => by subst hi; assumption)) (fun _ => ?_))
          clear hK K
          refine wpAnyH_done (by kernel_rfl) ?_ _
          exact ⟨rfl, q8, q9, by rw [HA2.out, ← pc A2 9 8 _ _ (by decide), HA3.out]; rfl, by omega, b8, b9, k8.fr f4 (by omega), k9, grew_fr (grew_fr g f3 (fun i hi => by subst hi; assumption)) f4 (fun i hi => by subst hi; assumption)⟩
    · have hb : (E != 0) = true := by simpa using hE
      go_wp2_with fail
      refine (alive5_any w6).mono ?_
      rintro e w7 ⟨rfl, g7⟩
      go_wp2_with fail
      go_ret
      exact ⟨rfl, grew_below (grew_trans HG6.out g7) (by rw [HQF.out]; exact Nat.le_refl _) (fun _ h => by cases h)⟩

set_option maxRecDepth 100000 in
theorem valueAlone_lifted (os : Os) (started : os.Started) (H : Type) (enc : TypeId × Value → H) :
    ReturnsInHanded {} Try.checked os 7 .any (Rows.valueAloneSpec.pre6 enc Try.prog Try.f7 Rows.valueAloneRow.domain false) (Rows.valueAloneSpec.post enc Try.prog Try.f7 false true false false) := by
  refine returnsInHanded_of_change_sized (C := Try.checked) own started (by kernel_rfl) Try.func7
    (ChangeSpec.witness6 (enc := enc) (C := Try.checked) false ⟨#[], #[.agg #[.int .i64 0, .int .i64 0, .int .i64 0, .int .i64 0, .int .i64 0, .slice none 0 0], .agg #[.int .u64 0, .slice none 0 0, .slice none 0 0], .slice none 0 0], []⟩ 8 (by kernel_rfl) (by kernel_rfl) (by kernel_rfl) (by kernel_rfl)) ?_
  intro W base args ds gs before hval0 hW hcnd hsz0 _
  have hval : ∀ (j : Nat) t v, Try.f7.params[j]? = some t → args[j]? = some v → Value.okWide Try.prog W .any base t v := hval0
  have hsz : (DataW.weightsEach Try.prog (Try.f7.params.toList ++ Rows.valueAloneSpec.plain.varTypes Try.prog) (ds ++ gs)).all (· ≤ reachBytes) = true := hsz0
  have hW' := hW
  obtain ⟨p, q, hA0, hV, rfl, hfz, hnd⟩ := hW
  have hA : DataW.TrodAll enc Try.prog W 0 (fun _ => true) true Try.f7.params.toList args.toList ds p := hA0
  rw [Try.params7] at hA hval hsz
  obtain ⟨v0, vs0, d0, ds0, p0, q0, hargs, rfl, rfl, h0, r0⟩ := trodAll_cons hA
  obtain ⟨v1, vs1, d1, ds1, p1, q1, rfl, rfl, rfl, h1, r1⟩ := trodAll_cons r0
  obtain ⟨v2, vs2, d2, ds2, p2, q2, rfl, rfl, rfl, h2, r2⟩ := trodAll_cons r1
  obtain ⟨rfl, rfl, rfl⟩ := trodAll_nil r2
  obtain rfl : args = #[v0, v1, v2] := by cases args; simp_all
  obtain ⟨rfl, rfl⟩ := trodVars_none hV
  have k0 := h0
  have lt0 : ∀ x ∈ p0, x.block < W.heap.size := by obtain ⟨m, hm⟩ := k0; exact DataW.trod_lt m _ _ _ hm
  obtain ⟨f0, rfl, n0⟩ := arg_form (hval 0 31 v0 rfl rfl) h0 hsz (j := 0) rfl rfl
  have k1 := h1
  have lt1 : ∀ x ∈ p1, x.block < W.heap.size := by obtain ⟨m, hm⟩ := k1; exact DataW.trod_lt m _ _ _ hm
  obtain ⟨f1, rfl, n1⟩ := arg_value (hval 1 26 v1 rfl rfl) h1 hsz (j := 1) rfl rfl
  have k2 := h2
  have lt2 : ∀ x ∈ p2, x.block < W.heap.size := by obtain ⟨m, hm⟩ := k2; exact DataW.trod_lt m _ _ _ hm
  obtain ⟨A2, c2, x2, rfl, l2, m2, b2⟩ := arg_bytes (hval 2 23 v2 rfl rfl) h2 hsz (j := 2) rfl rfl
  clear hA0 hval0 hsz0
  refine (valueAlone_walk W f0 n0 f1 n1 A2 c2 x2 l2 m2 b2).mono fun e W' ⟨he, bel⟩ => ?_
  subst he
  exact ⟨_, rfl, _, _, _, [], _, [], hW', trodAll_mk1 (shut_bool Try.underlying4 _), (trodAll_cons_mk (Below.trod laidOut (by kernel_rfl) (of_decide_eq_true (by kernel_rfl)) k0 bel lt0) (trodAll_cons_mk (Below.trod laidOut (by kernel_rfl) (of_decide_eq_true (by kernel_rfl)) k1 bel lt1) (trodAll_cons_mk (Below.trod laidOut (by kernel_rfl) (of_decide_eq_true (by kernel_rfl)) k2 bel lt2) trodAll_mk0))), rfl, bel.frame _, fun h => by cases h⟩

theorem valueAlone_over : Rows.valueAloneRow.holds Try.pinned (OpenSpec.ofChange Rows.valueAloneSpec) :=
  OpenClaim.holds_of_wide 7 Try.f7 rfl rfl rfl rfl rfl rfl rfl ⟨rfl, rfl, rfl, rfl, rfl⟩ rfl rfl rfl rfl rfl (by kernel_rfl) Try.func7 (by kernel_rfl)
    (of_decide_eq_true (by kernel_rfl)) (by unfold Func.isWrapper; first | (rw [if_pos (by decide +kernel)]; kernel_rfl) | (rw [if_neg (by decide +kernel)]; exact ⟨rfl, rfl⟩))
    (fun os started H enc _ => valueAlone_lifted os started H enc)

theorem valueAlone_holds : Rows.ValueAloneSaid := valueAlone_over
#print axioms valueAlone_holds
end Go.Proofs.Ytmdmfinpcbedcaa

