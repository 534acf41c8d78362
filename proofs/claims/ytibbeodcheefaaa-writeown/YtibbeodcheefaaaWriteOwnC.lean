/- What is written, and what is varied, shares nothing with what was handed in: for every form and value the law returns true. No condition. -/
import Derived.Test.YtibbeodcheefaaaQ28
namespace Go.Proofs.Ytibbeodcheefaaa
open Go.ChangeShapes Go.WideShapes Go.ChangeAt Go.RowKit Va

set_option maxRecDepth 100000 in
set_option maxHeartbeats 4000000 in
theorem writeOwn_walk (w : World) (f : Fo) (hf : f.In w) (v : Va) (hv : v.In w) :
    Calls Try.prog 7 #[f.val, v.val] w fun e w' => e = .returned (.bool true) ∧ Below w.heap.size w w' := by
  obtain ⟨g0, k0, k1, ks⟩ := two_new w #[.int .i64 f.k, .int .i64 f.s, .int .i64 f.l, .int .i64 f.h, .int .i64 f.t, .slice f.A f.ps.length f.c] 24 #[.int .u64 v.n, .slice v.B v.bs.length v.d, .slice v.A v.ls.length v.c] 29
  have CF := Lib.hid (fun w' (g : Grew w w' none) => rfits_any w' f (hf.grew g) v (hv.grew g))
  have CG := Lib.hid (fun w' (g : Grew w w' none) (A : Option Addr) (hl : Va.Lie w' A [v]) => vgreat_up w' f A 1 [v] (hf.grew g) hl (fun u hu => by rw [List.mem_singleton] at hu; subst hu; exact hv.grew g) (by simp))
  have CE := Lib.hid (fun (h1 : v.cnt ≤ 2000) (h2 : v.byt ≤ 20000) (hm : (meas f v).2 = 0) => (show f.chk = 0 ∧ f.wrg = 0 ∧ fit f v = ((fit f v).1, 0) ∧ (Rd.wr f v).length ≤ 36000 ∧ v.cnt ≤ 2000 from by
    have hc : f.chk = 0 := by
      by_cases hc : f.chk = 0
      · exact hc
      · rw [meas, if_neg hc] at hm; exact absurd hm hc
    have hq : fit f v = ((fit f v).1, 0) := Prod.ext rfl (by rw [← meas_ok hc]; exact hm)
    exact ⟨hc, (chk_zero hc).2, hq, wr_small h1 h2 _ (chk_zero hc).2 hq, h1⟩))
  have HI := Lib.hid (fun (W : World) (gw : Grew w W none) => (show f.In W ∧ v.In W from ⟨hf.grew gw, hv.grew gw⟩))
  have K0 := Lib.hid (show Whole _ _ f.cells 24 from k0)
  have K1 := Lib.hid (show Whole _ _ v.cells 29 from k1)
  have G0 := Lib.hid g0
  clear hf hv k0 k1 g0 ks
  rw [val_eq, vval_eq]
  rw [val_eq, vval_eq] at CF
  rw [val_eq] at CG
  generalize (meas f v).1 = N at *
  generalize (meas f v).2 = E at *
  go_enter Try.func7, Try.ntmps7
  go_wp2_with fail
  generalize (w.alloc (.cells #[.int .i64 f.k, .int .i64 f.s, .int .i64 f.l, .int .i64 f.h, .int .i64 f.t, .slice f.A f.ps.length f.c] 24)).alloc (.cells #[.int .u64 v.n, .slice v.B v.bs.length v.d, .slice v.A v.ls.length v.c] 29) = W at *
  generalize hq : w.heap.size = q at *
  have HQ := Lib.hid hq
  clear hq
  refine (alive7_any W).mono ?_
  rintro e w1 ⟨rfl, g1⟩
  have G1 := Lib.hid (grew_trans G0.out g1)
  have K01 := Lib.hid (K0.out.grew g1 (by simp))
  have K11 := Lib.hid (K1.out.grew g1 (by simp))
  clear g1 G0 K0 K1
  obtain ⟨b0, b1, b2, b3, b4, b5⟩ := (show Whole w1 q #[.int .i64 f.k, .int .i64 f.s, .int .i64 f.l, .int .i64 f.h, .int .i64 f.t, .slice f.A f.ps.length f.c] _ from K01.out).six
  obtain ⟨c0, c1, c2⟩ := (show Whole w1 (q + 1) #[.int .u64 v.n, .slice v.B v.bs.length v.d, .slice v.A v.ls.length v.c] _ from K11.out).three
  go_wp2_with fail
  have hl := Va.Lie.whole (Whole.new w1 #[.int .u64 v.n, .slice v.B v.bs.length v.d, .slice v.A v.ls.length v.c] 29) (ps := [v]) rfl
  have ga := grew_alloc (grew_refl w1 none) (.cells #[.int .u64 v.n, .slice v.B v.bs.length v.d, .slice v.A v.ls.length v.c] 29)
  clear b0 b1 b2 b3 b4 b5 c0 c1 c2
  generalize w1.alloc (.cells #[.int .u64 v.n, .slice v.B v.bs.length v.d, .slice v.A v.ls.length v.c] 29) = w2 at *
  generalize w1.heap.size = ql at *
  refine (CG.out w2 (grew_trans G1.out ga) _ hl).mono ?_
  rintro e w3 ⟨r, rfl, r0, r1, rz, g3⟩
  have G3 := Lib.hid (grew_trans G1.out (grew_trans ga g3))
  have K03 := Lib.hid (K01.out.grew (grew_trans ga g3) (by simp))
  have K13 := Lib.hid (K11.out.grew (grew_trans ga g3) (by simp))
  have RZ := Lib.hid rz
  clear hl ga g3 G1 K01 K11 rz CG
  by_cases hr : 0 < r
  · go_wp2_with fail
    refine (alive7_any w3).mono ?_
    rintro e w4 ⟨rfl, g4⟩
    have G4 := Lib.hid (grew_trans G3.out g4)
    clear g4
    go_wp2_with fail
    go_ret
    exact ⟨rfl, grew_below G4.out (by rw [HQ.out]; exact Nat.le_refl _) (fun _ h => by cases h)⟩
  · obtain ⟨_, hsm⟩ := RZ.out (by omega)
    have SM := Lib.hid (hsm v (by simp))
    clear hsm RZ
    obtain ⟨b0, b1, b2, b3, b4, b5⟩ := (show Whole w3 q #[.int .i64 f.k, .int .i64 f.s, .int .i64 f.l, .int .i64 f.h, .int .i64 f.t, .slice f.A f.ps.length f.c] _ from K03.out).six
    obtain ⟨c0, c1, c2⟩ := (show Whole w3 (q + 1) #[.int .u64 v.n, .slice v.B v.bs.length v.d, .slice v.A v.ls.length v.c] _ from K13.out).three
    go_wp2_with fail
    refine (CF.out w3 G3.out).mono ?_
    rintro e w4 ⟨rfl, g4⟩
    have G4 := Lib.hid (grew_trans G3.out g4)
    have K04 := Lib.hid (K03.out.grew g4 (by simp))
    have K14 := Lib.hid (K13.out.grew g4 (by simp))
    clear g4 b0 b1 b2 b3 b4 b5 c0 c1 c2 G3 K03 K13 CF
    by_cases hE : E = 0
    · subst hE
      have HE := Lib.hid (CE.out SM.out.1 SM.out.2 rfl)
      clear CE SM
      generalize (fit f v).1 = n at *
      have CRW := Lib.hid (fun (Y : World) (gy : Grew w Y none) => rw_any f HE.out.2.1 Y v n (HI.out Y gy).1 (HI.out Y gy).2 HE.out.2.2.1 (Nat.le_trans HE.out.2.2.2.1 (by omega)))
      have CRD := Lib.hid (fun (Y : World) (gy : Grew w Y none) (A : Option Addr) (cp : Nat) (hb : Byt Y Y.heap.size A (Rd.wr f v)) (hl : (Rd.wr f v).length ≤ cp) => rread_any Y Y f (HI.out Y gy).1 HE.out.1 A cp v n (HI.out Y gy).2 HE.out.2.2.1 hb hl (Nat.le_trans HE.out.2.2.2.1 (by omega)) (Nat.le_trans HE.out.2.2.2.2 (by omega)))
      have CWU := Lib.hid (fun (Y : World) (gy : Grew w Y none) (u : Va) (hu : u.In Y) (hn : u.nf = v.nf) => (show Calls Try.prog 10 #[f.val, u.val] Y (fun e w' => ∃ vb, e = .returned (.tuple #[vb, .int .i64 0]) ∧ w'.ownsRow 0 5 1 vb (Rd.wr f v).length (cellsOf (Rd.wr f v)) ∧ (∀ g, vb.ownBlock = some g → Y.heap.size ≤ g) ∧ Grew Y w' none) from by
        have hfu : fit f u = (n, 0) := by rw [fit_same hn]; exact HE.out.2.2.1
        have := write_ok Y f (HI.out Y gy).1 u hu HE.out.2.1 n hfu (by rw [meas_ok HE.out.1]; exact hfu) (by rw [wr_same hn]; exact Nat.le_trans HE.out.2.2.2.1 (by omega))
        rw [wr_same hn] at this
        exact this))
      have CAP := Lib.hid (fun (Y : World) (gy : Grew w Y none) (u : Va) (hu : u.In Y) (hn : u.nf = v.nf) (A : Option Addr) (bs : List UInt8) (cb : Nat) (hb : Byt Y Y.heap.size A bs) (hl : bs.length ≤ 36000) => (show Calls Try.prog 19 #[.slice A bs.length cb, f.val, u.val] Y (fun e w' => ∃ vb, e = .returned (.tuple #[vb, .int .i64 0]) ∧ w'.ownsRow 0 5 1 vb (bs ++ Rd.wr f v).length (cellsOf (bs ++ Rd.wr f v)) ∧ (∀ g, vb.ownBlock = some g → Y.heap.size ≤ g) ∧ Grew Y w' none) from by
        have hfu : fit f u = (n, 0) := by rw [fit_same hn]; exact HE.out.2.2.1
        have := append_ok Y f (HI.out Y gy).1 u hu A bs cb hb HE.out.2.1 n hfu (by rw [meas_ok HE.out.1]; exact hfu) (by rw [wr_same hn]; have := HE.out.2.2.2.1; omega)
        rw [wr_same hn] at this
        exact this))
      have CSM := Lib.hid (fun (Y : World) (gy : Grew w Y none) (u : Va) (hu : u.In Y) (hn : u.nf = v.nf) => (show Calls Try.prog 13 #[u.val, v.val] Y (fun e w' => e = .returned (.bool true) ∧ Grew Y w' none) from by
        have := rsamev_any u v Y hu (HI.out Y gy).2
        rw [(same_nf u v).2 hn] at this
        exact this))
      have HC := Lib.hid HE.out.2.2.2.2
      have HZ := Lib.hid HE.out.2.2.2.1
      clear HE HI
      generalize Rd.wr f v = Z at *
      obtain ⟨b0, b1, b2, b3, b4, b5⟩ := (show Whole w4 q #[.int .i64 f.k, .int .i64 f.s, .int .i64 f.l, .int .i64 f.h, .int .i64 f.t, .slice f.A f.ps.length f.c] _ from K04.out).six
      obtain ⟨c0, c1, c2⟩ := (show Whole w4 (q + 1) #[.int .u64 v.n, .slice v.B v.bs.length v.d, .slice v.A v.ls.length v.c] _ from K14.out).three
      go_wp2_with fail
      refine (CRW.out w4 G4.out).mono ?_
      rintro e w5 ⟨V, rfl, o5, v5, g5⟩
      obtain ⟨Ab, cb, rfl, hcb, hb5⟩ := byt_of_own o5
      have G5 := Lib.hid (grew_trans G4.out g5)
      have K05 := Lib.hid (K04.out.grew g5 (by simp))
      have K15 := Lib.hid (K14.out.grew g5 (by simp))
      have HB5 := Lib.hid hb5
      have HCB := Lib.hid hcb
      clear g5 o5 v5 hb5 hcb b0 b1 b2 b3 b4 b5 c0 c1 c2 G4 K04 K14
      obtain ⟨b0, b1, b2, b3, b4, b5⟩ := (show Whole w5 q #[.int .i64 f.k, .int .i64 f.s, .int .i64 f.l, .int .i64 f.h, .int .i64 f.t, .slice f.A f.ps.length f.c] _ from K05.out).six
      go_wp2_with fail
      refine (CRD.out w5 G5.out Ab cb HB5.out HCB.out).mono ?_
      rintro e w6 ⟨u, kk, rfl, nv, hnf, g6⟩
      rw [vval_eq]
      have ga := grew_alloc (grew_refl w6 none) (.cells #[.int .u64 u.n, .slice u.B u.bs.length u.d, .slice u.A u.ls.length u.c] 29)
      have k8 := Whole.new w6 #[.int .u64 u.n, .slice u.B u.bs.length u.d, .slice u.A u.ls.length u.c] 29
      have g67 := grew_trans g6 ga
      have G7 := Lib.hid (grew_trans G5.out g67)
      have K07 := Lib.hid (K05.out.grew g67 (by simp))
      have K17 := Lib.hid (K15.out.grew g67 (by simp))
      have K87 := Lib.hid (show Whole _ _ u.cells 29 from k8)
      have HB7 := Lib.hid ((HB5.out.grew g67 (fun _ h => by cases h)).more g67.size)
      have HU7 := Lib.hid (show u.In _ ∧ Pl _ u from ⟨nv.1.grew ga, nv.2.2.grew ga⟩)
      have HNF := Lib.hid hnf
      clear ga g67 g6 k8 nv hnf b0 b1 b2 b3 b4 b5 G5 K05 K15 HB5 CRD
      go_upto_region 8 with (fail)
      generalize w6.alloc (.cells #[.int .u64 u.n, .slice u.B u.bs.length u.d, .slice u.A u.ls.length u.c] 29) = w7 at *
      generalize w6.heap.size = z8 at *
      obtain ⟨b0, b1, b2, b3, b4, b5⟩ := (show Whole w7 q #[.int .i64 f.k, .int .i64 f.s, .int .i64 f.l, .int .i64 f.h, .int .i64 f.t, .slice f.A f.ps.length f.c] _ from K07.out).six
      obtain ⟨c0, c1, c2⟩ := (show Whole w7 z8 #[.int .u64 u.n, .slice u.B u.bs.length u.d, .slice u.A u.ls.length u.c] _ from K87.out).three
      have C8 := Lib.hid (CWU.out w7 G7.out u HU7.out.1 HNF.out)
      rw [val_eq, vval_eq] at C8
      clear CWU
      go_wp2_with fail
      refine C8.out.mono ?_
      rintro e w8 ⟨C, rfl, o8, v8, g8⟩
      obtain ⟨A1, c1', rfl, hc1, _⟩ := own_form o8
      have G8 := Lib.hid g8
      have L1 := Lib.hid (show 0 < Z.length → ∃ g, A1 = some ⟨g, 0, none⟩ ∧ w7.heap.size ≤ g ∧ Bys w8 g Z.length from fun h => by
        obtain ⟨g, c, e, _, hb⟩ := own_bys o8 h
        simp at e
        exact ⟨g, e.1, v8 g (by rw [e.1]; rfl), hb⟩)
      have HC1 := Lib.hid hc1
      clear g8 o8 v8 hc1 b0 b1 b2 b3 b4 b5 c0 c1 c2 C8
      go_upto_region 12 with (fail)
      have hzl : Z.length ≤ 36000 := HZ.out
      go_loopw [57] (fun i wr => ∃ j : Nat, j ≤ Z.length ∧ i = .int .i64 j ∧ Hid (Grew w7 wr none ∧ (0 < Z.length → ∃ g, A1 = some ⟨g, 0, none⟩ ∧ w7.heap.size ≤ g ∧ Bys wr g Z.length))) (fun i _ => Z.length - (intOf i).toNat)
      case atStart => exact ⟨0, Nat.zero_le _, rfl, Lib.hid ⟨G8.out, L1.out⟩⟩
      case round =>
        obtain ⟨j, hj, rfl, R⟩ := hrel
        by_cases hlt : j < Z.length
        · obtain ⟨g, hA, hg, hb⟩ := R.out.2 (by omega)
          subst hA
          obtain ⟨⟨x, hx⟩, hz, hset⟩ := hb.at hlt
          have hjc : j < c1' := by have := HC1.out; omega
          have HS := Lib.hid hset
          have HG := Lib.hid hg
          clear hset hg hb
          go_wp2_with fail
          go_roundw
          case rel => exact ⟨j + 1, by omega, by go_num, Lib.hid ⟨grew_own R.out.1 (grew_set (grew_refl _ (some g)) _ _ _) HG.out, fun _ => ⟨g, rfl, HG.out, HS.out _⟩⟩⟩
          case measure => simp [intOf]; omega
        · obtain rfl : j = Z.length := by omega
          have G9 := Lib.hid R.out.1
          clear R L1 G8 hlt hj
          go_upto_region 16 with (fail)
          have K09 := Lib.hid (K07.out.grew G9.out (by simp))
          have K19 := Lib.hid (K17.out.grew G9.out (by simp))
          have K89 := Lib.hid (K87.out.grew G9.out (by simp))
          have HB9 := Lib.hid ((HB7.out.grew G9.out (fun _ h => by cases h)).more G9.out.size)
          have HU9 := Lib.hid (show u.In wr ∧ Pl wr u from ⟨HU7.out.1.grew G9.out, HU7.out.2.grew G9.out⟩)
          have GW9 := Lib.hid (grew_trans G7.out G9.out)
          clear K07 K17 K87 HB7 HU7 G7 G9
          refine act_letterC (fun A1 hA1 => ?_)
          have d2 : A1.eval (.tmp 2) = .pointer (some ⟨q, 0, none⟩) := by rw [← hA1]; rfl
          have d7 : A1.eval (.tmp 7) = .slice Ab Z.length cb := by rw [← hA1]; rfl
          have d8 : A1.eval (.tmp 8) = .pointer (some ⟨z8, 0, none⟩) := by rw [← hA1]; rfl
          have szA1 : A1.tmps.size = 130 := by rw [← hA1]; rfl
          have HA1 := Lib.hid hA1
          clear hA1
          have G0 := Lib.hid (grew_drew (grew_refl wr none))
          refine wp_region_held (S := fun w' => Grew wr w' none) (by kernel_rfl) ?_
          change wpAnyH _ _ _ _ _ _ _ _ (World.drew wr)
          refine wpAnyH_take (i := 0) (v := .slice Ab Z.length cb) rfl (by kernel_rfl) (by kernel_rfl) (by kernel_rfl) (fun _ _ _ h => h) (.inl ⟨rfl, fun w g => run_moveV rfl d7 w⟩) G0.out ?_
          refine act_letter (fun A2 hA2 => ?_)
          replace d2 : A2.eval (.tmp 2) = .pointer (some ⟨q, 0, none⟩) := by rw [← hA2]; exact (ev_ne A1 (m := 68) (n := 2) (.slice Ab Z.length cb) (by decide)).trans d2
          replace d7 : A2.eval (.tmp 7) = .slice Ab Z.length cb := by rw [← hA2]; exact (ev_ne A1 (m := 68) (n := 7) (.slice Ab Z.length cb) (by decide)).trans d7
          replace d8 : A2.eval (.tmp 8) = .pointer (some ⟨z8, 0, none⟩) := by rw [← hA2]; exact (ev_ne A1 (m := 68) (n := 8) (.slice Ab Z.length cb) (by decide)).trans d8
          have e68 : A2.eval (.tmp 68) = .slice Ab Z.length cb := by rw [← hA2]; exact ev_self A1 68 (.slice Ab Z.length cb) (by omega)
          have szA2 : A2.tmps.size = 130 := by rw [← hA2]; exact (sz_put A1 68 (.slice Ab Z.length cb)).trans szA1
          have HA2 := Lib.hid (show A1.put (some 68) (.slice Ab Z.length cb) = A2 from hA2)
          clear hA2 szA1
          have d68 := e68
          clear e68
          refine wpAnyH_take (i := 1) (v := .slice Ab Z.length cb) rfl (by kernel_rfl) (by kernel_rfl) (by kernel_rfl) (fun _ _ _ h => h) (.inl ⟨rfl, fun w g => run_moveV rfl d7 w⟩) G0.out ?_
          refine act_letter (fun A3 hA3 => ?_)
          replace d2 : A3.eval (.tmp 2) = .pointer (some ⟨q, 0, none⟩) := by rw [← hA3]; exact (ev_ne A2 (m := 69) (n := 2) (.slice Ab Z.length cb) (by decide)).trans d2
          replace d8 : A3.eval (.tmp 8) = .pointer (some ⟨z8, 0, none⟩) := by rw [← hA3]; exact (ev_ne A2 (m := 69) (n := 8) (.slice Ab Z.length cb) (by decide)).trans d8
          replace d68 : A3.eval (.tmp 68) = .slice Ab Z.length cb := by rw [← hA3]; exact (ev_ne A2 (m := 69) (n := 68) (.slice Ab Z.length cb) (by decide)).trans d68
          have e69 : A3.eval (.tmp 69) = .slice Ab Z.length cb := by rw [← hA3]; exact ev_self A2 69 (.slice Ab Z.length cb) (by omega)
          have szA3 : A3.tmps.size = 130 := by rw [← hA3]; exact (sz_put A2 69 (.slice Ab Z.length cb)).trans szA2
          have HA3 := Lib.hid (show A2.put (some 69) (.slice Ab Z.length cb) = A3 from hA3)
          clear hA3 szA2 d7
          have d69 := e69
          clear e69
          refine wpAnyH_take (i := 2) (v := .int .i64 (Z.length : Int)) rfl (by kernel_rfl) (by kernel_rfl) (by kernel_rfl) (fun _ _ _ h => h) (.inl ⟨rfl, fun w g => run_len rfl d69 w⟩) G0.out ?_
          refine act_letter (fun A4 hA4 => ?_)
          replace d2 : A4.eval (.tmp 2) = .pointer (some ⟨q, 0, none⟩) := by rw [← hA4]; exact (ev_ne A3 (m := 70) (n := 2) (.int .i64 (Z.length : Int)) (by decide)).trans d2
          replace d8 : A4.eval (.tmp 8) = .pointer (some ⟨z8, 0, none⟩) := by rw [← hA4]; exact (ev_ne A3 (m := 70) (n := 8) (.int .i64 (Z.length : Int)) (by decide)).trans d8
          replace d68 : A4.eval (.tmp 68) = .slice Ab Z.length cb := by rw [← hA4]; exact (ev_ne A3 (m := 70) (n := 68) (.int .i64 (Z.length : Int)) (by decide)).trans d68
          have e70 : A4.eval (.tmp 70) = .int .i64 (Z.length : Int) := by rw [← hA4]; exact ev_self A3 70 (.int .i64 (Z.length : Int)) (by omega)
          have szA4 : A4.tmps.size = 130 := by rw [← hA4]; exact (sz_put A3 70 (.int .i64 (Z.length : Int))).trans szA3
          have HA4 := Lib.hid (show A3.put (some 70) (.int .i64 (Z.length : Int)) = A4 from hA4)
          clear hA4 szA3 d69
          have d70 := e70
          clear e70
          refine wpAnyH_take (i := 3) (v := .int .i64 ((Z.length / 2 : Nat) : Int)) rfl (by kernel_rfl) (by kernel_rfl) (by kernel_rfl) (fun _ _ _ h => h) (.inl ⟨rfl, fun w g => run_quo2 rfl d70 rfl (by omega) w⟩) G0.out ?_
          refine act_letter (fun A5 hA5 => ?_)
          replace d2 : A5.eval (.tmp 2) = .pointer (some ⟨q, 0, none⟩) := by rw [← hA5]; exact (ev_ne A4 (m := 71) (n := 2) (.int .i64 ((Z.length / 2 : Nat) : Int)) (by decide)).trans d2
          replace d8 : A5.eval (.tmp 8) = .pointer (some ⟨z8, 0, none⟩) := by rw [← hA5]; exact (ev_ne A4 (m := 71) (n := 8) (.int .i64 ((Z.length / 2 : Nat) : Int)) (by decide)).trans d8
          replace d68 : A5.eval (.tmp 68) = .slice Ab Z.length cb := by rw [← hA5]; exact (ev_ne A4 (m := 71) (n := 68) (.int .i64 ((Z.length / 2 : Nat) : Int)) (by decide)).trans d68
          have e71 : A5.eval (.tmp 71) = .int .i64 ((Z.length / 2 : Nat) : Int) := by rw [← hA5]; exact ev_self A4 71 (.int .i64 ((Z.length / 2 : Nat) : Int)) (by omega)
          have szA5 : A5.tmps.size = 130 := by rw [← hA5]; exact (sz_put A4 71 (.int .i64 ((Z.length / 2 : Nat) : Int))).trans szA4
          have HA5 := Lib.hid (show A4.put (some 71) (.int .i64 ((Z.length / 2 : Nat) : Int)) = A5 from hA5)
          clear hA5 szA4 d70
          have d71 := e71
          clear e71
          refine wpAnyH_take (i := 4) (v := .slice Ab (Z.length / 2) cb) rfl (by kernel_rfl) (by kernel_rfl) (by kernel_rfl) (fun _ _ _ h => h) (.inl ⟨rfl, fun w g => run_sliceB rfl d68 d71 (by have := HCB.out; omega) w⟩) G0.out ?_
          refine act_letter (fun A6 hA6 => ?_)
          replace d2 : A6.eval (.tmp 2) = .pointer (some ⟨q, 0, none⟩) := by rw [← hA6]; exact (ev_ne A5 (m := 72) (n := 2) (.slice Ab (Z.length / 2) cb) (by decide)).trans d2
          replace d8 : A6.eval (.tmp 8) = .pointer (some ⟨z8, 0, none⟩) := by rw [← hA6]; exact (ev_ne A5 (m := 72) (n := 8) (.slice Ab (Z.length / 2) cb) (by decide)).trans d8
          have e72 : A6.eval (.tmp 72) = .slice Ab (Z.length / 2) cb := by rw [← hA6]; exact ev_self A5 72 (.slice Ab (Z.length / 2) cb) (by omega)
          have szA6 : A6.tmps.size = 130 := by rw [← hA6]; exact (sz_put A5 72 (.slice Ab (Z.length / 2) cb)).trans szA5
          have HA6 := Lib.hid (show A5.put (some 72) (.slice Ab (Z.length / 2) cb) = A6 from hA6)
          clear hA6 szA5 d68 d71
          have d72 := e72
          clear e72
          refine wpAnyH_take (i := 5) (v := f.val) rfl (by kernel_rfl) (by kernel_rfl) (by kernel_rfl) (fun _ _ _ h => h) (.inl ⟨rfl, fun w g => run_form (f := f) rfl d2 (K09.out.grew g (by simp))⟩) G0.out ?_
          refine act_letter (fun A7 hA7 => ?_)
          replace d8 : A7.eval (.tmp 8) = .pointer (some ⟨z8, 0, none⟩) := by rw [← hA7]; exact (ev_ne A6 (m := 73) (n := 8) (f.val) (by decide)).trans d8
          replace d72 : A7.eval (.tmp 72) = .slice Ab (Z.length / 2) cb := by rw [← hA7]; exact (ev_ne A6 (m := 73) (n := 72) (f.val) (by decide)).trans d72
          have e73 : A7.eval (.tmp 73) = f.val := by rw [← hA7]; exact ev_self A6 73 (f.val) (by omega)
          have szA7 : A7.tmps.size = 130 := by rw [← hA7]; exact (sz_put A6 73 (f.val)).trans szA6
          have HA7 := Lib.hid (show A6.put (some 73) (f.val) = A7 from hA7)
          clear hA7 szA6 d2
          have d73 := e73
          clear e73
          refine wpAnyH_take (i := 6) (v := u.val) rfl (by kernel_rfl) (by kernel_rfl) (by kernel_rfl) (fun _ _ _ h => h) (.inl ⟨rfl, fun w g => run_value (v := u) rfl d8 (K89.out.grew g (by simp))⟩) G0.out ?_
          refine act_letter (fun A8 hA8 => ?_)
          replace d72 : A8.eval (.tmp 72) = .slice Ab (Z.length / 2) cb := by rw [← hA8]; exact (ev_ne A7 (m := 74) (n := 72) (u.val) (by decide)).trans d72
          replace d73 : A8.eval (.tmp 73) = f.val := by rw [← hA8]; exact (ev_ne A7 (m := 74) (n := 73) (u.val) (by decide)).trans d73
          have e74 : A8.eval (.tmp 74) = u.val := by rw [← hA8]; exact ev_self A7 74 (u.val) (by omega)
          have szA8 : A8.tmps.size = 130 := by rw [← hA8]; exact (sz_put A7 74 (u.val)).trans szA7
          have HA8 := Lib.hid (show A7.put (some 74) (u.val) = A8 from hA8)
          clear hA8 szA7 d8
          have d74 := e74
          clear e74
          have hht : (Z.take (Z.length / 2)).length = Z.length / 2 := by rw [List.length_take]; omega
          have CA := Lib.hid (fun (Y : World) (gy : Grew wr Y none) => CAP.out Y (grew_trans GW9.out gy) u (HU9.out.1.grew gy) HNF.out Ab (Z.take (Z.length / 2)) cb (((HB9.out.grew gy (fun _ h => by cases h)).more gy.size).take _) (by rw [hht]; omega))
          rw [hht] at CA
          clear CAP
          refine wpAnyH_ready (rs := [7]) (by kernel_rfl) (by simp) ?_
          refine AllReadyH.cons rfl (fun K hK => ?_) AllReadyH.nil
          refine wp_callG (vs := #[.slice Ab (Z.length / 2) cb, f.val, u.val]) rfl (rfl) enter_append (by simp [d72, d73, d74]) ((CA.out _ G0.out).mono ?_)
          rintro e x11 ⟨V11, rfl, o11, v11, g11⟩
          refine ⟨_, rfl, hK.out _ _ (grew_trans G0.out g11) (fun _ => ?_)⟩
          clear hK K
          have G11 := Lib.hid (grew_trans G0.out g11)
          have O11 := Lib.hid o11
          have VN11 := Lib.hid (show ∀ g, V11.ownBlock = some g → wr.heap.size ≤ g from fun g hg => Nat.le_trans G0.out.size (v11 g hg))
          clear o11 v11 CA
          clear g11 G0
          refine act_letter (fun A9 hA9 => ?_)
          have e75 : A9.eval (.tmp 75) = .tuple #[V11, .int .i64 0] := by rw [← hA9]; exact ev_self A8 75 (.tuple #[V11, .int .i64 0]) (by omega)
          have szA9 : A9.tmps.size = 130 := by rw [← hA9]; exact (sz_put A8 75 (.tuple #[V11, .int .i64 0])).trans szA8
          have HA9 := Lib.hid (show A8.put (some 75) (.tuple #[V11, .int .i64 0]) = A9 from hA9)
          clear hA9 szA8 d72 d73 d74
          have d75 := e75
          clear e75
          refine wpAnyH_take (i := 8) (v := .tuple #[V11, .int .i64 0]) rfl (by kernel_rfl) (by kernel_rfl) (by kernel_rfl) (fun _ _ _ h => h) (.inl ⟨rfl, fun w g => run_moveV rfl d75 w⟩) G11.out ?_
          refine act_letter (fun A10 hA10 => ?_)
          have e67 : A10.eval (.tmp 67) = .tuple #[V11, .int .i64 0] := by rw [← hA10]; exact ev_self A9 67 (.tuple #[V11, .int .i64 0]) (by omega)
          have szA10 : A10.tmps.size = 130 := by rw [← hA10]; exact (sz_put A9 67 (.tuple #[V11, .int .i64 0])).trans szA9
          have HA10 := Lib.hid (show A9.put (some 67) (.tuple #[V11, .int .i64 0]) = A10 from hA10)
          clear hA10 szA9 d75
          have d67 := e67
          clear e67
          refine wpAnyH_take (i := 9) (v := V11) rfl (by kernel_rfl) (by kernel_rfl) (by kernel_rfl) (fun _ _ _ h => h) (.inl ⟨rfl, fun w g => run_extr0 rfl d67 w⟩) G11.out ?_
          refine act_letter (fun A11 hA11 => ?_)
          replace d67 : A11.eval (.tmp 67) = .tuple #[V11, .int .i64 0] := by rw [← hA11]; exact (ev_ne A10 (m := 76) (n := 67) (V11) (by decide)).trans d67
          have e76 : A11.eval (.tmp 76) = V11 := by rw [← hA11]; exact ev_self A10 76 (V11) (by omega)
          have szA11 : A11.tmps.size = 130 := by rw [← hA11]; exact (sz_put A10 76 (V11)).trans szA10
          have HA11 := Lib.hid (show A10.put (some 76) (V11) = A11 from hA11)
          clear hA11 szA10
          have d76 := e76
          clear e76
          refine wpAnyH_take (i := 10) (v := .int .i64 0) rfl (by kernel_rfl) (by kernel_rfl) (by kernel_rfl) (fun _ _ _ h => h) (.inl ⟨rfl, fun w g => run_extr1 rfl d67 w⟩) G11.out ?_
          refine act_letter (fun A12 hA12 => ?_)
          replace d76 : A12.eval (.tmp 76) = V11 := by rw [← hA12]; exact (ev_ne A11 (m := 77) (n := 76) (.int .i64 0) (by decide)).trans d76
          have e77 : A12.eval (.tmp 77) = .int .i64 0 := by rw [← hA12]; exact ev_self A11 77 (.int .i64 0) (by omega)
          have szA12 : A12.tmps.size = 130 := by rw [← hA12]; exact (sz_put A11 77 (.int .i64 0)).trans szA11
          have HA12 := Lib.hid (show A11.put (some 77) (.int .i64 0) = A12 from hA12)
          clear hA12 szA11 d67
          have d77 := e77
          clear e77
          refine wpAnyH_take (i := 11) (v := V11) rfl (by kernel_rfl) (by kernel_rfl) (by kernel_rfl) (fun _ _ _ h => h) (.inl ⟨rfl, fun w g => run_asg rfl d76 w⟩) G11.out ?_
          refine act_letter (fun A13 hA13 => ?_)
          replace d77 : A13.eval (.tmp 77) = .int .i64 0 := by rw [← hA13]; exact (ev_ne A12 (m := 14) (n := 77) (V11) (by decide)).trans d77
          have e14 : A13.eval (.tmp 14) = V11 := by rw [← hA13]; exact ev_self A12 14 (V11) (by omega)
          have szA13 : A13.tmps.size = 130 := by rw [← hA13]; exact (sz_put A12 14 (V11)).trans szA12
          have HA13 := Lib.hid (show A12.put (some 14) (V11) = A13 from hA13)
          clear hA13 szA12 d76
          have d14 := e14
          clear e14
          refine wpAnyH_take (i := 12) (v := .int .i64 0) rfl (by kernel_rfl) (by kernel_rfl) (by kernel_rfl) (fun _ _ _ h => h) (.inl ⟨rfl, fun w g => run_asg rfl d77 w⟩) G11.out ?_
          refine act_letter (fun A14 hA14 => ?_)
          replace d14 : A14.eval (.tmp 14) = V11 := by rw [← hA14]; exact (ev_ne A13 (m := 15) (n := 14) (.int .i64 0) (by decide)).trans d14
          have e15 : A14.eval (.tmp 15) = .int .i64 0 := by rw [← hA14]; exact ev_self A13 15 (.int .i64 0) (by omega)
          have szA14 : A14.tmps.size = 130 := by rw [← hA14]; exact (sz_put A13 15 (.int .i64 0)).trans szA13
          have HA14 := Lib.hid (show A13.put (some 15) (.int .i64 0) = A14 from hA14)
          clear hA14 szA13 d77
          have d15 := e15
          clear e15
          have GA := G11
          refine wpAnyH_done (by kernel_rfl) ?_ _
          rw [← HA14.out, ← HA13.out, ← HA12.out, ← HA11.out, ← HA10.out, ← HA9.out, ← HA8.out, ← HA7.out, ← HA6.out, ← HA5.out, ← HA4.out, ← HA3.out, ← HA2.out, ← HA1.out]
          clear HA2 HA3 HA4 HA5 HA6 HA7 HA8 HA9 HA10 HA11 HA12 HA13 HA14 HA1 d14 d15 szA14
          simp only [Act.put, List.setIfInBounds_toArray, List.set_cons_zero, List.set_cons_succ]
          clear G11
          have hM : (Z.take (Z.length / 2) ++ Z).length = Z.length / 2 + Z.length := by rw [List.length_append, hht]
          obtain ⟨A2, c2, rfl, hc2, _⟩ := own_form O11.out
          have L2 := Lib.hid (show 0 < Z.length / 2 + Z.length → ∃ g, A2 = some ⟨g, 0, none⟩ ∧ wr.heap.size ≤ g ∧ Bys x11 g (Z.length / 2 + Z.length) from fun h => by
            obtain ⟨g, c, e, _, hb⟩ := own_bys O11.out (by omega)
            rw [hM] at hb
            simp at e
            exact ⟨g, e.1, VN11.out g (by rw [e.1]; rfl), hb⟩)
          rw [hM] at hc2 ⊢
          have HC2 := Lib.hid hc2
          clear hc2 O11 VN11 hM hht
          obtain ⟨M, hMM⟩ : ∃ M, M = Z.length / 2 + Z.length := ⟨_, rfl⟩
          rw [← hMM] at L2 HC2 ⊢
          have hMl : M ≤ 54000 := by omega
          have HMM := Lib.hid hMM
          clear hMM
          generalize x11 = X at *
          have pq : IntKind.i64.wrap ((Z.length : Int) / 2) = (Z.length : Int) / 2 := IntWalk.i64_in _ (by omega)
          have pw : IntKind.i64.wrap ((Z.length : Int) / 2 + Z.length) = (M : Int) := by rw [show (Z.length : Int) / 2 + Z.length = (M : Int) by have := HMM.out; omega]; exact IntWalk.i64_in _ (by omega)
          go_upto_region 20 with (fail)
          clear pq pw
          go_loopw [93] (fun i wx => ∃ j : Nat, j ≤ M ∧ i = .int .i64 j ∧ Hid (Grew wr wx none ∧ (0 < M → ∃ g, A2 = some ⟨g, 0, none⟩ ∧ wr.heap.size ≤ g ∧ Bys wx g M))) (fun i _ => M - (intOf i).toNat)
          case atStart => exact ⟨0, Nat.zero_le _, rfl, Lib.hid ⟨GA.out, L2.out⟩⟩
          case round =>
            obtain ⟨j, hj, rfl, R⟩ := hrel
            by_cases hlt : j < M
            · obtain ⟨g, hA, hg, hb⟩ := R.out.2 (by omega)
              subst hA
              obtain ⟨⟨x, hx⟩, hz, hset⟩ := hb.at hlt
              have hjc : j < c2 := by have := HC2.out; omega
              have HS := Lib.hid hset
              have HG := Lib.hid hg
              clear hset hg hb
              go_wp2_with fail
              go_roundw
              case rel => exact ⟨j + 1, by omega, by go_num, Lib.hid ⟨grew_own R.out.1 (grew_set (grew_refl _ (some g)) _ _ _) HG.out, fun _ => ⟨g, rfl, HG.out, HS.out _⟩⟩⟩
              case measure => simp [intOf]; omega
            · obtain rfl : j = M := by omega
              have G10 := Lib.hid R.out.1
              clear R L2 GA hlt hj
              have K010 := Lib.hid (show Whole wr q #[.int .i64 f.k, .int .i64 f.s, .int .i64 f.l, .int .i64 f.h, .int .i64 f.t, .slice f.A f.ps.length f.c] _ from K09.out.grew G10.out (by simp))
              have K110 := Lib.hid (K19.out.grew G10.out (by simp))
              have K810 := Lib.hid (K89.out.grew G10.out (by simp))
              have HB10 := Lib.hid ((HB9.out.grew G10.out (fun _ h => by cases h)).more G10.out.size)
              have HU10 := Lib.hid (show u.In wr ∧ Pl wr u from ⟨HU9.out.1.grew G10.out, HU9.out.2.grew G10.out⟩)
              have GW10 := Lib.hid (grew_trans GW9.out G10.out)
              clear K09 K19 K89 HB9 HU9 GW9 G10
              have CV := Lib.hid (vary_nil wr u u HU10.out.1 HU10.out.2 (by rw [cnt_same HNF.out]; exact HC.out))
              rw [vval_eq] at CV
              obtain ⟨c0, c1, c2'⟩ := (show Whole wr z8 #[.int .u64 u.n, .slice u.B u.bs.length u.d, .slice u.A u.ls.length u.c] _ from K810.out).three
              go_wp2_with fail
              refine CV.out.mono ?_
              rintro e w11 ⟨u2, rfl, hu2, hnf2, g11⟩
              rw [vval_eq]
              have ga := grew_alloc (grew_refl w11 none) (.cells #[.int .u64 u2.n, .slice u2.B u2.bs.length u2.d, .slice u2.A u2.ls.length u2.c] 29)
              have k17 := Whole.new w11 #[.int .u64 u2.n, .slice u2.B u2.bs.length u2.d, .slice u2.A u2.ls.length u2.c] 29
              have g12 := grew_trans g11 ga
              have K012 := Lib.hid (show Whole _ _ f.cells 24 from K010.out.grew g12 (by simp))
              have K112 := Lib.hid (K110.out.grew g12 (by simp))
              have K812 := Lib.hid (K810.out.grew g12 (by simp))
              have K17 := Lib.hid (show Whole _ _ u2.cells 29 from k17)
              have HB12 := Lib.hid ((HB10.out.grew g12 (fun _ h => by cases h)).more g12.size)
              have HU12 := Lib.hid (show u.In _ ∧ u2.In _ ∧ u2.nf = v.nf from ⟨HU10.out.1.grew g12, hu2.grew ga, hnf2.trans HNF.out⟩)
              have GW12 := Lib.hid (grew_trans GW10.out g12)
              clear ga k17 g12 g11 hu2 hnf2 c0 c1 c2' CV K010 K110 K810 HB10 HU10 GW10
              go_upto_region 25 with (fail)
              generalize w11.alloc (.cells #[.int .u64 u2.n, .slice u2.B u2.bs.length u2.d, .slice u2.A u2.ls.length u2.c] 29) = w12 at *
              generalize w11.heap.size = z17 at *
              refine act_letterC (fun A1 hA1 => ?_)
              have d2 : A1.eval (.tmp 2) = .pointer (some ⟨q, 0, none⟩) := by rw [← hA1]; rfl
              have d3 : A1.eval (.tmp 3) = .pointer (some ⟨q + 1, 0, none⟩) := by rw [← hA1]; rfl
              have d7 : A1.eval (.tmp 7) = .slice Ab Z.length cb := by rw [← hA1]; rfl
              have d8 : A1.eval (.tmp 8) = .pointer (some ⟨z8, 0, none⟩) := by rw [← hA1]; rfl
              have d17 : A1.eval (.tmp 17) = .pointer (some ⟨z17, 0, none⟩) := by rw [← hA1]; rfl
              have d18 : A1.eval (.tmp 18) = .int .i64 0 := by rw [← hA1]; rfl
              have szA1 : A1.tmps.size = 130 := by rw [← hA1]; rfl
              have HA1 := Lib.hid hA1
              clear hA1
              have G0 := Lib.hid (grew_drew (grew_refl w12 none))
              refine wp_region_held (S := fun w' => Grew w12 w' none) (by kernel_rfl) ?_
              change wpAnyH _ _ _ _ _ _ _ _ (World.drew w12)
              refine wpAnyH_take (i := 0) (v := .int .i64 0) rfl (by kernel_rfl) (by kernel_rfl) (by kernel_rfl) (fun _ _ _ h => h) (.inl ⟨rfl, fun w g => run_moveV rfl d18 w⟩) G0.out ?_
              refine act_letter (fun A2 hA2 => ?_)
              replace d2 : A2.eval (.tmp 2) = .pointer (some ⟨q, 0, none⟩) := by rw [← hA2]; exact (ev_ne A1 (m := 109) (n := 2) (.int .i64 0) (by decide)).trans d2
              replace d3 : A2.eval (.tmp 3) = .pointer (some ⟨q + 1, 0, none⟩) := by rw [← hA2]; exact (ev_ne A1 (m := 109) (n := 3) (.int .i64 0) (by decide)).trans d3
              replace d7 : A2.eval (.tmp 7) = .slice Ab Z.length cb := by rw [← hA2]; exact (ev_ne A1 (m := 109) (n := 7) (.int .i64 0) (by decide)).trans d7
              replace d8 : A2.eval (.tmp 8) = .pointer (some ⟨z8, 0, none⟩) := by rw [← hA2]; exact (ev_ne A1 (m := 109) (n := 8) (.int .i64 0) (by decide)).trans d8
              replace d17 : A2.eval (.tmp 17) = .pointer (some ⟨z17, 0, none⟩) := by rw [← hA2]; exact (ev_ne A1 (m := 109) (n := 17) (.int .i64 0) (by decide)).trans d17
              have e109 : A2.eval (.tmp 109) = .int .i64 0 := by rw [← hA2]; exact ev_self A1 109 (.int .i64 0) (by omega)
              have szA2 : A2.tmps.size = 130 := by rw [← hA2]; exact (sz_put A1 109 (.int .i64 0)).trans szA1
              have HA2 := Lib.hid (show A1.put (some 109) (.int .i64 0) = A2 from hA2)
              clear hA2 szA1 d18
              have d109 := e109
              clear e109
              refine wpAnyH_take (i := 1) (v := .bool true) rfl (by kernel_rfl) (by kernel_rfl) (by kernel_rfl) (fun _ _ _ h => h) (.inl ⟨rfl, fun w g => run_eql (a := 0) (b := 0) rfl d109 rfl w⟩) G0.out ?_
              refine act_letter (fun A3 hA3 => ?_)
              replace d2 : A3.eval (.tmp 2) = .pointer (some ⟨q, 0, none⟩) := by rw [← hA3]; exact (ev_ne A2 (m := 110) (n := 2) (.bool true) (by decide)).trans d2
              replace d3 : A3.eval (.tmp 3) = .pointer (some ⟨q + 1, 0, none⟩) := by rw [← hA3]; exact (ev_ne A2 (m := 110) (n := 3) (.bool true) (by decide)).trans d3
              replace d7 : A3.eval (.tmp 7) = .slice Ab Z.length cb := by rw [← hA3]; exact (ev_ne A2 (m := 110) (n := 7) (.bool true) (by decide)).trans d7
              replace d8 : A3.eval (.tmp 8) = .pointer (some ⟨z8, 0, none⟩) := by rw [← hA3]; exact (ev_ne A2 (m := 110) (n := 8) (.bool true) (by decide)).trans d8
              replace d17 : A3.eval (.tmp 17) = .pointer (some ⟨z17, 0, none⟩) := by rw [← hA3]; exact (ev_ne A2 (m := 110) (n := 17) (.bool true) (by decide)).trans d17
              have e110 : A3.eval (.tmp 110) = .bool true := by rw [← hA3]; exact ev_self A2 110 (.bool true) (by omega)
              have szA3 : A3.tmps.size = 130 := by rw [← hA3]; exact (sz_put A2 110 (.bool true)).trans szA2
              have HA3 := Lib.hid (show A2.put (some 110) (.bool true) = A3 from hA3)
              clear hA3 szA2 d109
              have d110 := e110
              clear e110
              refine wpAnyH_take (i := 2) (v := .bool true) rfl (by kernel_rfl) (by kernel_rfl) (by kernel_rfl) (fun _ _ _ h => h) (.inl ⟨rfl, fun w g => run_moveV rfl d110 w⟩) G0.out ?_
              refine act_letter (fun A4 hA4 => ?_)
              replace d2 : A4.eval (.tmp 2) = .pointer (some ⟨q, 0, none⟩) := by rw [← hA4]; exact (ev_ne A3 (m := 111) (n := 2) (.bool true) (by decide)).trans d2
              replace d3 : A4.eval (.tmp 3) = .pointer (some ⟨q + 1, 0, none⟩) := by rw [← hA4]; exact (ev_ne A3 (m := 111) (n := 3) (.bool true) (by decide)).trans d3
              replace d7 : A4.eval (.tmp 7) = .slice Ab Z.length cb := by rw [← hA4]; exact (ev_ne A3 (m := 111) (n := 7) (.bool true) (by decide)).trans d7
              replace d8 : A4.eval (.tmp 8) = .pointer (some ⟨z8, 0, none⟩) := by rw [← hA4]; exact (ev_ne A3 (m := 111) (n := 8) (.bool true) (by decide)).trans d8
              replace d17 : A4.eval (.tmp 17) = .pointer (some ⟨z17, 0, none⟩) := by rw [← hA4]; exact (ev_ne A3 (m := 111) (n := 17) (.bool true) (by decide)).trans d17
              have e111 : A4.eval (.tmp 111) = .bool true := by rw [← hA4]; exact ev_self A3 111 (.bool true) (by omega)
              have szA4 : A4.tmps.size = 130 := by rw [← hA4]; exact (sz_put A3 111 (.bool true)).trans szA3
              have HA4 := Lib.hid (show A3.put (some 111) (.bool true) = A4 from hA4)
              clear hA4 szA3 d110
              have d111 := e111
              clear e111
              refine wpAnyH_take (i := 3) (v := u.val) rfl (by kernel_rfl) (by kernel_rfl) (by kernel_rfl) (fun _ _ _ h => h) (.inl ⟨wanted_yes (j := 2) (d := 111) rfl rfl d111, fun w g => run_value (v := u) rfl d8 (K812.out.grew g (by simp))⟩) G0.out ?_
              refine act_letter (fun A5 hA5 => ?_)
              replace d2 : A5.eval (.tmp 2) = .pointer (some ⟨q, 0, none⟩) := by rw [← hA5]; exact (ev_ne A4 (m := 112) (n := 2) (u.val) (by decide)).trans d2
              replace d3 : A5.eval (.tmp 3) = .pointer (some ⟨q + 1, 0, none⟩) := by rw [← hA5]; exact (ev_ne A4 (m := 112) (n := 3) (u.val) (by decide)).trans d3
              replace d7 : A5.eval (.tmp 7) = .slice Ab Z.length cb := by rw [← hA5]; exact (ev_ne A4 (m := 112) (n := 7) (u.val) (by decide)).trans d7
              replace d17 : A5.eval (.tmp 17) = .pointer (some ⟨z17, 0, none⟩) := by rw [← hA5]; exact (ev_ne A4 (m := 112) (n := 17) (u.val) (by decide)).trans d17
              replace d111 : A5.eval (.tmp 111) = .bool true := by rw [← hA5]; exact (ev_ne A4 (m := 112) (n := 111) (u.val) (by decide)).trans d111
              have e112 : A5.eval (.tmp 112) = u.val := by rw [← hA5]; exact ev_self A4 112 (u.val) (by omega)
              have szA5 : A5.tmps.size = 130 := by rw [← hA5]; exact (sz_put A4 112 (u.val)).trans szA4
              have HA5 := Lib.hid (show A4.put (some 112) (u.val) = A5 from hA5)
              clear hA5 szA4 d8
              have d112 := e112
              clear e112
              refine wpAnyH_take (i := 4) (v := v.val) rfl (by kernel_rfl) (by kernel_rfl) (by kernel_rfl) (fun _ _ _ h => h) (.inl ⟨wanted_yes (j := 2) (d := 111) rfl rfl d111, fun w g => run_value (v := v) rfl d3 (K112.out.grew g (by simp))⟩) G0.out ?_
              refine act_letter (fun A6 hA6 => ?_)
              replace d2 : A6.eval (.tmp 2) = .pointer (some ⟨q, 0, none⟩) := by rw [← hA6]; exact (ev_ne A5 (m := 113) (n := 2) (v.val) (by decide)).trans d2
              replace d3 : A6.eval (.tmp 3) = .pointer (some ⟨q + 1, 0, none⟩) := by rw [← hA6]; exact (ev_ne A5 (m := 113) (n := 3) (v.val) (by decide)).trans d3
              replace d7 : A6.eval (.tmp 7) = .slice Ab Z.length cb := by rw [← hA6]; exact (ev_ne A5 (m := 113) (n := 7) (v.val) (by decide)).trans d7
              replace d17 : A6.eval (.tmp 17) = .pointer (some ⟨z17, 0, none⟩) := by rw [← hA6]; exact (ev_ne A5 (m := 113) (n := 17) (v.val) (by decide)).trans d17
              replace d111 : A6.eval (.tmp 111) = .bool true := by rw [← hA6]; exact (ev_ne A5 (m := 113) (n := 111) (v.val) (by decide)).trans d111
              replace d112 : A6.eval (.tmp 112) = u.val := by rw [← hA6]; exact (ev_ne A5 (m := 113) (n := 112) (v.val) (by decide)).trans d112
              have e113 : A6.eval (.tmp 113) = v.val := by rw [← hA6]; exact ev_self A5 113 (v.val) (by omega)
              have szA6 : A6.tmps.size = 130 := by rw [← hA6]; exact (sz_put A5 113 (v.val)).trans szA5
              have HA6 := Lib.hid (show A5.put (some 113) (v.val) = A6 from hA6)
              clear hA6 szA5
              have d113 := e113
              clear e113
              refine wpAnyH_ready (rs := [5]) (by kernel_rfl) (by simp) ?_
              refine AllReadyH.cons rfl (fun K hK => ?_) AllReadyH.nil
              refine wp_callG (vs := #[u.val, v.val]) rfl (wanted_yes (j := 2) (d := 111) rfl rfl d111) enter_rsame (by simp [d112, d113]) ((CSM.out _ (grew_trans GW12.out G0.out) u (HU12.out.1.grew G0.out) HNF.out).mono ?_)
              rintro e x21 ⟨rfl, g21⟩
              refine ⟨_, rfl, hK.out _ _ (grew_trans G0.out g21) (fun _ => ?_)⟩
              clear hK K
              have G21 := Lib.hid (grew_trans G0.out g21)
              clear g21 G0
              refine act_letter (fun A7 hA7 => ?_)
              replace d2 : A7.eval (.tmp 2) = .pointer (some ⟨q, 0, none⟩) := by rw [← hA7]; exact (ev_ne A6 (m := 114) (n := 2) (.bool true) (by decide)).trans d2
              replace d3 : A7.eval (.tmp 3) = .pointer (some ⟨q + 1, 0, none⟩) := by rw [← hA7]; exact (ev_ne A6 (m := 114) (n := 3) (.bool true) (by decide)).trans d3
              replace d7 : A7.eval (.tmp 7) = .slice Ab Z.length cb := by rw [← hA7]; exact (ev_ne A6 (m := 114) (n := 7) (.bool true) (by decide)).trans d7
              replace d17 : A7.eval (.tmp 17) = .pointer (some ⟨z17, 0, none⟩) := by rw [← hA7]; exact (ev_ne A6 (m := 114) (n := 17) (.bool true) (by decide)).trans d17
              replace d111 : A7.eval (.tmp 111) = .bool true := by rw [← hA7]; exact (ev_ne A6 (m := 114) (n := 111) (.bool true) (by decide)).trans d111
              have e114 : A7.eval (.tmp 114) = .bool true := by rw [← hA7]; exact ev_self A6 114 (.bool true) (by omega)
              have szA7 : A7.tmps.size = 130 := by rw [← hA7]; exact (sz_put A6 114 (.bool true)).trans szA6
              have HA7 := Lib.hid (show A6.put (some 114) (.bool true) = A7 from hA7)
              clear hA7 szA6 d112 d113
              have d114 := e114
              clear e114
              refine wpAnyH_take (i := 6) (v := .bool true) rfl (by kernel_rfl) (by kernel_rfl) (by kernel_rfl) (fun _ _ _ h => h) (.inl ⟨rfl, fun w g => run_pickT rfl d111 d114 w⟩) G21.out ?_
              refine act_letter (fun A8 hA8 => ?_)
              replace d2 : A8.eval (.tmp 2) = .pointer (some ⟨q, 0, none⟩) := by rw [← hA8]; exact (ev_ne A7 (m := 115) (n := 2) (.bool true) (by decide)).trans d2
              replace d3 : A8.eval (.tmp 3) = .pointer (some ⟨q + 1, 0, none⟩) := by rw [← hA8]; exact (ev_ne A7 (m := 115) (n := 3) (.bool true) (by decide)).trans d3
              replace d7 : A8.eval (.tmp 7) = .slice Ab Z.length cb := by rw [← hA8]; exact (ev_ne A7 (m := 115) (n := 7) (.bool true) (by decide)).trans d7
              replace d17 : A8.eval (.tmp 17) = .pointer (some ⟨z17, 0, none⟩) := by rw [← hA8]; exact (ev_ne A7 (m := 115) (n := 17) (.bool true) (by decide)).trans d17
              have e115 : A8.eval (.tmp 115) = .bool true := by rw [← hA8]; exact ev_self A7 115 (.bool true) (by omega)
              have szA8 : A8.tmps.size = 130 := by rw [← hA8]; exact (sz_put A7 115 (.bool true)).trans szA7
              have HA8 := Lib.hid (show A7.put (some 115) (.bool true) = A8 from hA8)
              clear hA8 szA7 d111 d114
              have d115 := e115
              clear e115
              refine wpAnyH_take (i := 7) (v := .bool true) rfl (by kernel_rfl) (by kernel_rfl) (by kernel_rfl) (fun _ _ _ h => h) (.inl ⟨rfl, fun w g => run_moveV rfl d115 w⟩) G21.out ?_
              refine act_letter (fun A9 hA9 => ?_)
              replace d2 : A9.eval (.tmp 2) = .pointer (some ⟨q, 0, none⟩) := by rw [← hA9]; exact (ev_ne A8 (m := 116) (n := 2) (.bool true) (by decide)).trans d2
              replace d3 : A9.eval (.tmp 3) = .pointer (some ⟨q + 1, 0, none⟩) := by rw [← hA9]; exact (ev_ne A8 (m := 116) (n := 3) (.bool true) (by decide)).trans d3
              replace d7 : A9.eval (.tmp 7) = .slice Ab Z.length cb := by rw [← hA9]; exact (ev_ne A8 (m := 116) (n := 7) (.bool true) (by decide)).trans d7
              replace d17 : A9.eval (.tmp 17) = .pointer (some ⟨z17, 0, none⟩) := by rw [← hA9]; exact (ev_ne A8 (m := 116) (n := 17) (.bool true) (by decide)).trans d17
              have e116 : A9.eval (.tmp 116) = .bool true := by rw [← hA9]; exact ev_self A8 116 (.bool true) (by omega)
              have szA9 : A9.tmps.size = 130 := by rw [← hA9]; exact (sz_put A8 116 (.bool true)).trans szA8
              have HA9 := Lib.hid (show A8.put (some 116) (.bool true) = A9 from hA9)
              clear hA9 szA8 d115
              have d116 := e116
              clear e116
              refine wpAnyH_take (i := 8) (v := u2.val) rfl (by kernel_rfl) (by kernel_rfl) (by kernel_rfl) (fun _ _ _ h => h) (.inl ⟨wanted_yes (j := 7) (d := 116) rfl rfl d116, fun w g => run_value (v := u2) rfl d17 (K17.out.grew g (by simp))⟩) G21.out ?_
              refine act_letter (fun A10 hA10 => ?_)
              replace d2 : A10.eval (.tmp 2) = .pointer (some ⟨q, 0, none⟩) := by rw [← hA10]; exact (ev_ne A9 (m := 117) (n := 2) (u2.val) (by decide)).trans d2
              replace d3 : A10.eval (.tmp 3) = .pointer (some ⟨q + 1, 0, none⟩) := by rw [← hA10]; exact (ev_ne A9 (m := 117) (n := 3) (u2.val) (by decide)).trans d3
              replace d7 : A10.eval (.tmp 7) = .slice Ab Z.length cb := by rw [← hA10]; exact (ev_ne A9 (m := 117) (n := 7) (u2.val) (by decide)).trans d7
              replace d116 : A10.eval (.tmp 116) = .bool true := by rw [← hA10]; exact (ev_ne A9 (m := 117) (n := 116) (u2.val) (by decide)).trans d116
              have e117 : A10.eval (.tmp 117) = u2.val := by rw [← hA10]; exact ev_self A9 117 (u2.val) (by omega)
              have szA10 : A10.tmps.size = 130 := by rw [← hA10]; exact (sz_put A9 117 (u2.val)).trans szA9
              have HA10 := Lib.hid (show A9.put (some 117) (u2.val) = A10 from hA10)
              clear hA10 szA9 d17
              have d117 := e117
              clear e117
              refine wpAnyH_take (i := 9) (v := v.val) rfl (by kernel_rfl) (by kernel_rfl) (by kernel_rfl) (fun _ _ _ h => h) (.inl ⟨wanted_yes (j := 7) (d := 116) rfl rfl d116, fun w g => run_value (v := v) rfl d3 (K112.out.grew g (by simp))⟩) G21.out ?_
              refine act_letter (fun A11 hA11 => ?_)
              replace d2 : A11.eval (.tmp 2) = .pointer (some ⟨q, 0, none⟩) := by rw [← hA11]; exact (ev_ne A10 (m := 118) (n := 2) (v.val) (by decide)).trans d2
              replace d3 : A11.eval (.tmp 3) = .pointer (some ⟨q + 1, 0, none⟩) := by rw [← hA11]; exact (ev_ne A10 (m := 118) (n := 3) (v.val) (by decide)).trans d3
              replace d7 : A11.eval (.tmp 7) = .slice Ab Z.length cb := by rw [← hA11]; exact (ev_ne A10 (m := 118) (n := 7) (v.val) (by decide)).trans d7
              replace d116 : A11.eval (.tmp 116) = .bool true := by rw [← hA11]; exact (ev_ne A10 (m := 118) (n := 116) (v.val) (by decide)).trans d116
              replace d117 : A11.eval (.tmp 117) = u2.val := by rw [← hA11]; exact (ev_ne A10 (m := 118) (n := 117) (v.val) (by decide)).trans d117
              have e118 : A11.eval (.tmp 118) = v.val := by rw [← hA11]; exact ev_self A10 118 (v.val) (by omega)
              have szA11 : A11.tmps.size = 130 := by rw [← hA11]; exact (sz_put A10 118 (v.val)).trans szA10
              have HA11 := Lib.hid (show A10.put (some 118) (v.val) = A11 from hA11)
              clear hA11 szA10
              have d118 := e118
              clear e118
              refine wpAnyH_ready (rs := [10]) (by kernel_rfl) (by simp) ?_
              refine AllReadyH.cons rfl (fun K hK => ?_) AllReadyH.nil
              refine wp_callG (vs := #[u2.val, v.val]) rfl (wanted_yes (j := 7) (d := 116) rfl rfl d116) enter_rsame (by simp [d117, d118]) ((CSM.out _ (grew_trans GW12.out G21.out) u2 (HU12.out.2.1.grew G21.out) HU12.out.2.2).mono ?_)
              rintro e x22 ⟨rfl, g22⟩
              refine ⟨_, rfl, hK.out _ _ (grew_trans G21.out g22) (fun _ => ?_)⟩
              clear hK K
              have G22 := Lib.hid (grew_trans G21.out g22)
              clear g22 G21
              refine act_letter (fun A12 hA12 => ?_)
              replace d2 : A12.eval (.tmp 2) = .pointer (some ⟨q, 0, none⟩) := by rw [← hA12]; exact (ev_ne A11 (m := 119) (n := 2) (.bool true) (by decide)).trans d2
              replace d3 : A12.eval (.tmp 3) = .pointer (some ⟨q + 1, 0, none⟩) := by rw [← hA12]; exact (ev_ne A11 (m := 119) (n := 3) (.bool true) (by decide)).trans d3
              replace d7 : A12.eval (.tmp 7) = .slice Ab Z.length cb := by rw [← hA12]; exact (ev_ne A11 (m := 119) (n := 7) (.bool true) (by decide)).trans d7
              replace d116 : A12.eval (.tmp 116) = .bool true := by rw [← hA12]; exact (ev_ne A11 (m := 119) (n := 116) (.bool true) (by decide)).trans d116
              have e119 : A12.eval (.tmp 119) = .bool true := by rw [← hA12]; exact ev_self A11 119 (.bool true) (by omega)
              have szA12 : A12.tmps.size = 130 := by rw [← hA12]; exact (sz_put A11 119 (.bool true)).trans szA11
              have HA12 := Lib.hid (show A11.put (some 119) (.bool true) = A12 from hA12)
              clear hA12 szA11 d117 d118
              have d119 := e119
              clear e119
              refine wpAnyH_take (i := 11) (v := .bool true) rfl (by kernel_rfl) (by kernel_rfl) (by kernel_rfl) (fun _ _ _ h => h) (.inl ⟨rfl, fun w g => run_pickT rfl d116 d119 w⟩) G22.out ?_
              refine act_letter (fun A13 hA13 => ?_)
              replace d2 : A13.eval (.tmp 2) = .pointer (some ⟨q, 0, none⟩) := by rw [← hA13]; exact (ev_ne A12 (m := 120) (n := 2) (.bool true) (by decide)).trans d2
              replace d3 : A13.eval (.tmp 3) = .pointer (some ⟨q + 1, 0, none⟩) := by rw [← hA13]; exact (ev_ne A12 (m := 120) (n := 3) (.bool true) (by decide)).trans d3
              replace d7 : A13.eval (.tmp 7) = .slice Ab Z.length cb := by rw [← hA13]; exact (ev_ne A12 (m := 120) (n := 7) (.bool true) (by decide)).trans d7
              have e120 : A13.eval (.tmp 120) = .bool true := by rw [← hA13]; exact ev_self A12 120 (.bool true) (by omega)
              have szA13 : A13.tmps.size = 130 := by rw [← hA13]; exact (sz_put A12 120 (.bool true)).trans szA12
              have HA13 := Lib.hid (show A12.put (some 120) (.bool true) = A13 from hA13)
              clear hA13 szA12 d116 d119
              have d120 := e120
              clear e120
              refine wpAnyH_take (i := 12) (v := .bool true) rfl (by kernel_rfl) (by kernel_rfl) (by kernel_rfl) (fun _ _ _ h => h) (.inl ⟨rfl, fun w g => run_moveV rfl d120 w⟩) G22.out ?_
              refine act_letter (fun A14 hA14 => ?_)
              replace d2 : A14.eval (.tmp 2) = .pointer (some ⟨q, 0, none⟩) := by rw [← hA14]; exact (ev_ne A13 (m := 121) (n := 2) (.bool true) (by decide)).trans d2
              replace d3 : A14.eval (.tmp 3) = .pointer (some ⟨q + 1, 0, none⟩) := by rw [← hA14]; exact (ev_ne A13 (m := 121) (n := 3) (.bool true) (by decide)).trans d3
              replace d7 : A14.eval (.tmp 7) = .slice Ab Z.length cb := by rw [← hA14]; exact (ev_ne A13 (m := 121) (n := 7) (.bool true) (by decide)).trans d7
              have e121 : A14.eval (.tmp 121) = .bool true := by rw [← hA14]; exact ev_self A13 121 (.bool true) (by omega)
              have szA14 : A14.tmps.size = 130 := by rw [← hA14]; exact (sz_put A13 121 (.bool true)).trans szA13
              have HA14 := Lib.hid (show A13.put (some 121) (.bool true) = A14 from hA14)
              clear hA14 szA13 d120
              have d121 := e121
              clear e121
              refine wpAnyH_take (i := 13) (v := .slice Ab Z.length cb) rfl (by kernel_rfl) (by kernel_rfl) (by kernel_rfl) (fun _ _ _ h => h) (.inl ⟨wanted_yes (j := 12) (d := 121) rfl rfl d121, fun w g => run_moveV rfl d7 w⟩) G22.out ?_
              refine act_letter (fun A15 hA15 => ?_)
              replace d2 : A15.eval (.tmp 2) = .pointer (some ⟨q, 0, none⟩) := by rw [← hA15]; exact (ev_ne A14 (m := 122) (n := 2) (.slice Ab Z.length cb) (by decide)).trans d2
              replace d3 : A15.eval (.tmp 3) = .pointer (some ⟨q + 1, 0, none⟩) := by rw [← hA15]; exact (ev_ne A14 (m := 122) (n := 3) (.slice Ab Z.length cb) (by decide)).trans d3
              replace d121 : A15.eval (.tmp 121) = .bool true := by rw [← hA15]; exact (ev_ne A14 (m := 122) (n := 121) (.slice Ab Z.length cb) (by decide)).trans d121
              have e122 : A15.eval (.tmp 122) = .slice Ab Z.length cb := by rw [← hA15]; exact ev_self A14 122 (.slice Ab Z.length cb) (by omega)
              have szA15 : A15.tmps.size = 130 := by rw [← hA15]; exact (sz_put A14 122 (.slice Ab Z.length cb)).trans szA14
              have HA15 := Lib.hid (show A14.put (some 122) (.slice Ab Z.length cb) = A15 from hA15)
              clear hA15 szA14 d7
              have d122 := e122
              clear e122
              refine wpAnyH_take (i := 14) (v := .string (txt Z)) rfl (by kernel_rfl) (by kernel_rfl) (by kernel_rfl) (fun _ _ _ h => h) (.inl ⟨wanted_yes (j := 12) (d := 121) rfl rfl d121, fun w g => run_str rfl d122 (HB12.out.grew g (fun _ h => by cases h))⟩) G22.out ?_
              refine act_letter (fun A16 hA16 => ?_)
              replace d2 : A16.eval (.tmp 2) = .pointer (some ⟨q, 0, none⟩) := by rw [← hA16]; exact (ev_ne A15 (m := 123) (n := 2) (.string (txt Z)) (by decide)).trans d2
              replace d3 : A16.eval (.tmp 3) = .pointer (some ⟨q + 1, 0, none⟩) := by rw [← hA16]; exact (ev_ne A15 (m := 123) (n := 3) (.string (txt Z)) (by decide)).trans d3
              replace d121 : A16.eval (.tmp 121) = .bool true := by rw [← hA16]; exact (ev_ne A15 (m := 123) (n := 121) (.string (txt Z)) (by decide)).trans d121
              have e123 : A16.eval (.tmp 123) = .string (txt Z) := by rw [← hA16]; exact ev_self A15 123 (.string (txt Z)) (by omega)
              have szA16 : A16.tmps.size = 130 := by rw [← hA16]; exact (sz_put A15 123 (.string (txt Z))).trans szA15
              have HA16 := Lib.hid (show A15.put (some 123) (.string (txt Z)) = A16 from hA16)
              clear hA16 szA15 d122
              have d123 := e123
              clear e123
              refine wpAnyH_take (i := 15) (v := f.val) rfl (by kernel_rfl) (by kernel_rfl) (by kernel_rfl) (fun _ _ _ h => h) (.inl ⟨wanted_yes (j := 12) (d := 121) rfl rfl d121, fun w g => run_form (f := f) rfl d2 (K012.out.grew g (by simp))⟩) G22.out ?_
              refine act_letter (fun A17 hA17 => ?_)
              replace d3 : A17.eval (.tmp 3) = .pointer (some ⟨q + 1, 0, none⟩) := by rw [← hA17]; exact (ev_ne A16 (m := 124) (n := 3) (f.val) (by decide)).trans d3
              replace d121 : A17.eval (.tmp 121) = .bool true := by rw [← hA17]; exact (ev_ne A16 (m := 124) (n := 121) (f.val) (by decide)).trans d121
              replace d123 : A17.eval (.tmp 123) = .string (txt Z) := by rw [← hA17]; exact (ev_ne A16 (m := 124) (n := 123) (f.val) (by decide)).trans d123
              have e124 : A17.eval (.tmp 124) = f.val := by rw [← hA17]; exact ev_self A16 124 (f.val) (by omega)
              have szA17 : A17.tmps.size = 130 := by rw [← hA17]; exact (sz_put A16 124 (f.val)).trans szA16
              have HA17 := Lib.hid (show A16.put (some 124) (f.val) = A17 from hA17)
              clear hA17 szA16 d2
              have d124 := e124
              clear e124
              refine wpAnyH_take (i := 16) (v := v.val) rfl (by kernel_rfl) (by kernel_rfl) (by kernel_rfl) (fun _ _ _ h => h) (.inl ⟨wanted_yes (j := 12) (d := 121) rfl rfl d121, fun w g => run_value (v := v) rfl d3 (K112.out.grew g (by simp))⟩) G22.out ?_
              refine act_letter (fun A18 hA18 => ?_)
              replace d121 : A18.eval (.tmp 121) = .bool true := by rw [← hA18]; exact (ev_ne A17 (m := 125) (n := 121) (v.val) (by decide)).trans d121
              replace d123 : A18.eval (.tmp 123) = .string (txt Z) := by rw [← hA18]; exact (ev_ne A17 (m := 125) (n := 123) (v.val) (by decide)).trans d123
              replace d124 : A18.eval (.tmp 124) = f.val := by rw [← hA18]; exact (ev_ne A17 (m := 125) (n := 124) (v.val) (by decide)).trans d124
              have e125 : A18.eval (.tmp 125) = v.val := by rw [← hA18]; exact ev_self A17 125 (v.val) (by omega)
              have szA18 : A18.tmps.size = 130 := by rw [← hA18]; exact (sz_put A17 125 (v.val)).trans szA17
              have HA18 := Lib.hid (show A17.put (some 125) (v.val) = A18 from hA18)
              clear hA18 szA17 d3
              have d125 := e125
              clear e125
              refine wpAnyH_ready (rs := [17]) (by kernel_rfl) (by simp) ?_
              refine AllReadyH.cons rfl (fun K hK => ?_) AllReadyH.nil
              refine wp_callG (vs := #[f.val, v.val]) rfl (wanted_yes (j := 12) (d := 121) rfl rfl d121) enter_rw (by simp [d124, d125]) ((CRW.out _ (grew_trans GW12.out G22.out)).mono ?_)
              rintro e x23 ⟨V23, rfl, o23, v23, g23⟩
              refine ⟨_, rfl, hK.out _ _ (grew_trans G22.out g23) (fun _ => ?_)⟩
              clear hK K
              have G23 := Lib.hid (grew_trans G22.out g23)
              clear g23 G22
              refine act_letter (fun A19 hA19 => ?_)
              replace d121 : A19.eval (.tmp 121) = .bool true := by rw [← hA19]; exact (ev_ne A18 (m := 126) (n := 121) (V23) (by decide)).trans d121
              replace d123 : A19.eval (.tmp 123) = .string (txt Z) := by rw [← hA19]; exact (ev_ne A18 (m := 126) (n := 123) (V23) (by decide)).trans d123
              have e126 : A19.eval (.tmp 126) = V23 := by rw [← hA19]; exact ev_self A18 126 (V23) (by omega)
              have szA19 : A19.tmps.size = 130 := by rw [← hA19]; exact (sz_put A18 126 (V23)).trans szA18
              have HA19 := Lib.hid (show A18.put (some 126) (V23) = A19 from hA19)
              clear hA19 szA18 d124 d125
              have d126 := e126
              clear e126
              obtain ⟨Aw, cw, hVw, _, hbw⟩ := byt_of_own o23
              have HBW := Lib.hid hbw
              subst hVw
              clear o23 v23 hbw
              refine wpAnyH_ready (rs := [18]) (by kernel_rfl) (by simp) ?_
              refine AllReadyH.cons rfl (fun K hK => ?_) AllReadyH.nil
              refine wp_runG (wanted_yes (j := 12) (d := 121) rfl rfl d121) (run_str rfl d126 HBW.out) (hK.out _ _ G23.out (fun _ => ?_))
              clear hK K
              refine act_letter (fun A20 hA20 => ?_)
              replace d121 : A20.eval (.tmp 121) = .bool true := by rw [← hA20]; exact (ev_ne A19 (m := 127) (n := 121) (.string (txt Z)) (by decide)).trans d121
              replace d123 : A20.eval (.tmp 123) = .string (txt Z) := by rw [← hA20]; exact (ev_ne A19 (m := 127) (n := 123) (.string (txt Z)) (by decide)).trans d123
              have e127 : A20.eval (.tmp 127) = .string (txt Z) := by rw [← hA20]; exact ev_self A19 127 (.string (txt Z)) (by omega)
              have szA20 : A20.tmps.size = 130 := by rw [← hA20]; exact (sz_put A19 127 (.string (txt Z))).trans szA19
              have HA20 := Lib.hid (show A19.put (some 127) (.string (txt Z)) = A20 from hA20)
              clear hA20 szA19 d126
              have d127 := e127
              clear e127
              refine wpAnyH_take (i := 19) (v := .bool true) rfl (by kernel_rfl) (by kernel_rfl) (by kernel_rfl) (fun _ _ _ h => h) (.inl ⟨wanted_yes (j := 12) (d := 121) rfl rfl d121, fun w g => run_eqs rfl d123 d127 w⟩) G23.out ?_
              refine act_letter (fun A21 hA21 => ?_)
              replace d121 : A21.eval (.tmp 121) = .bool true := by rw [← hA21]; exact (ev_ne A20 (m := 128) (n := 121) (.bool true) (by decide)).trans d121
              have e128 : A21.eval (.tmp 128) = .bool true := by rw [← hA21]; exact ev_self A20 128 (.bool true) (by omega)
              have szA21 : A21.tmps.size = 130 := by rw [← hA21]; exact (sz_put A20 128 (.bool true)).trans szA20
              have HA21 := Lib.hid (show A20.put (some 128) (.bool true) = A21 from hA21)
              clear hA21 szA20 d123 d127
              have d128 := e128
              clear e128
              refine wpAnyH_take (i := 20) (v := .bool true) rfl (by kernel_rfl) (by kernel_rfl) (by kernel_rfl) (fun _ _ _ h => h) (.inl ⟨rfl, fun w g => run_pickT rfl d121 d128 w⟩) G23.out ?_
              refine act_letter (fun A22 hA22 => ?_)
              have e129 : A22.eval (.tmp 129) = .bool true := by rw [← hA22]; exact ev_self A21 129 (.bool true) (by omega)
              have szA22 : A22.tmps.size = 130 := by rw [← hA22]; exact (sz_put A21 129 (.bool true)).trans szA21
              have HA22 := Lib.hid (show A21.put (some 129) (.bool true) = A22 from hA22)
              clear hA22 szA21 d121 d128
              have d129 := e129
              clear e129
              refine wpAnyH_take (i := 21) (v := .bool true) rfl (by kernel_rfl) (by kernel_rfl) (by kernel_rfl) (fun _ _ _ h => h) (.inl ⟨rfl, fun w g => run_asg rfl d129 w⟩) G23.out ?_
              refine act_letter (fun A23 hA23 => ?_)
              have e4 : A23.eval (.tmp 4) = .bool true := by rw [← hA23]; exact ev_self A22 4 (.bool true) (by omega)
              have szA23 : A23.tmps.size = 130 := by rw [← hA23]; exact (sz_put A22 4 (.bool true)).trans szA22
              have HA23 := Lib.hid (show A22.put (some 4) (.bool true) = A23 from hA23)
              clear hA23 szA22 d129
              have d4 := e4
              clear e4
              have GE := Lib.hid (grew_trans GW12.out G23.out)
              refine wpAnyH_done (by kernel_rfl) ?_ _
              rw [← HA23.out, ← HA22.out, ← HA21.out, ← HA20.out, ← HA19.out, ← HA18.out, ← HA17.out, ← HA16.out, ← HA15.out, ← HA14.out, ← HA13.out, ← HA12.out, ← HA11.out, ← HA10.out, ← HA9.out, ← HA8.out, ← HA7.out, ← HA6.out, ← HA5.out, ← HA4.out, ← HA3.out, ← HA2.out, ← HA1.out]
              clear HA2 HA3 HA4 HA5 HA6 HA7 HA8 HA9 HA10 HA11 HA12 HA13 HA14 HA15 HA16 HA17 HA18 HA19 HA20 HA21 HA22 HA23 HA1 d4 szA23
              simp only [Act.put, List.setIfInBounds_toArray, List.set_cons_zero, List.set_cons_succ]
              clear G23
              go_wp2_with fail
              go_ret
              exact ⟨rfl, grew_below GE.out (by rw [HQ.out]; exact Nat.le_refl _) (fun _ h => by cases h)⟩
    · have hb : (E != 0) = true := by simpa using hE
      go_wp2_with fail
      go_ret
      exact ⟨rfl, grew_below G4.out (by rw [HQ.out]; exact Nat.le_refl _) (fun _ h => by cases h)⟩

set_option maxRecDepth 100000 in
theorem writeOwn_lifted (os : Os) (started : os.Started) (H : Type) (enc : TypeId × Value → H) :
    ReturnsInHanded {} Try.checked os 7 .any (Rows.writeOwnSpec.pre6 enc Try.prog Try.f7 Rows.writeOwnRow.domain false) (Rows.writeOwnSpec.post enc Try.prog Try.f7 false true false false) := by
  refine returnsInHanded_of_change_sized (C := Try.checked) own started (by kernel_rfl) Try.func7
    (ChangeSpec.witness6 (enc := enc) (C := Try.checked) false ⟨#[], #[.agg #[.int .i64 0, .int .i64 0, .int .i64 0, .int .i64 0, .int .i64 0, .slice none 0 0], .agg #[.int .u64 0, .slice none 0 0, .slice none 0 0]], []⟩ 8 (by kernel_rfl) (by kernel_rfl) (by kernel_rfl) (by kernel_rfl)) ?_
  intro W base args ds gs before hval0 hW hcnd hsz0 _
  have hval : ∀ (j : Nat) t v, Try.f7.params[j]? = some t → args[j]? = some v → Value.okWide Try.prog W .any base t v := hval0
  have hsz : (DataW.weightsEach Try.prog (Try.f7.params.toList ++ Rows.writeOwnSpec.plain.varTypes Try.prog) (ds ++ gs)).all (· ≤ reachBytes) = true := hsz0
  have hW' := hW
  obtain ⟨p, q, hA0, hV, rfl, hfz, hnd⟩ := hW
  have hA : DataW.TrodAll enc Try.prog W 0 (fun _ => true) true Try.f7.params.toList args.toList ds p := hA0
  rw [Try.params7] at hA hval hsz
  obtain ⟨v0, vs0, d0, ds0, p0, q0, hargs, rfl, rfl, h0, r0⟩ := trodAll_cons hA
  obtain ⟨v1, vs1, d1, ds1, p1, q1, rfl, rfl, rfl, h1, r1⟩ := trodAll_cons r0
  obtain ⟨rfl, rfl, rfl⟩ := trodAll_nil r1
  obtain rfl : args = #[v0, v1] := by cases args; simp_all
  obtain ⟨rfl, rfl⟩ := trodVars_none hV
  have k0 := h0
  have lt0 : ∀ x ∈ p0, x.block < W.heap.size := by obtain ⟨m, hm⟩ := k0; exact DataW.trod_lt m _ _ _ hm
  obtain ⟨f0, rfl, n0⟩ := arg_form (hval 0 24 v0 rfl rfl) h0 hsz (j := 0) rfl rfl
  have k1 := h1
  have lt1 : ∀ x ∈ p1, x.block < W.heap.size := by obtain ⟨m, hm⟩ := k1; exact DataW.trod_lt m _ _ _ hm
  obtain ⟨f1, rfl, n1⟩ := arg_value (hval 1 29 v1 rfl rfl) h1 hsz (j := 1) rfl rfl
  clear hA0 hval0 hsz0
  refine (writeOwn_walk W f0 n0 f1 n1).mono fun e W' ⟨he, bel⟩ => ?_
  subst he
  exact ⟨_, rfl, _, _, _, [], _, [], hW', trodAll_mk1 (shut_bool Try.underlying4 _), (trodAll_cons_mk (Below.trod laidOut (by kernel_rfl) (of_decide_eq_true (by kernel_rfl)) k0 bel lt0) (trodAll_cons_mk (Below.trod laidOut (by kernel_rfl) (of_decide_eq_true (by kernel_rfl)) k1 bel lt1) trodAll_mk0)), rfl, bel.frame _, fun h => by cases h⟩

theorem writeOwn_over : Rows.writeOwnRow.holds Try.pinned (OpenSpec.ofChange Rows.writeOwnSpec) :=
  OpenClaim.holds_of_wide 7 Try.f7 rfl rfl rfl rfl rfl rfl rfl ⟨rfl, rfl, rfl, rfl, rfl⟩ rfl rfl rfl rfl rfl (by kernel_rfl) Try.func7 (by kernel_rfl)
    (of_decide_eq_true (by kernel_rfl)) (by unfold Func.isWrapper; first | (rw [if_pos (by decide +kernel)]; kernel_rfl) | (rw [if_neg (by decide +kernel)]; exact ⟨rfl, rfl⟩))
    (fun os started H enc _ => writeOwn_lifted os started H enc)

theorem writeOwn_holds : Rows.WriteOwnSaid := writeOwn_over
#print axioms writeOwn_holds
end Go.Proofs.Ytibbeodcheefaaa

