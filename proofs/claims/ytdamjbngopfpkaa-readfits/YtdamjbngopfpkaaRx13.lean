/- Reading: Counted, Prefix, Read. -/
import Derived.Test.YtdamjbngopfpkaaRx12
namespace Go.Proofs.Ytdamjbngopfpkaa
open Go.RowKit Va

/-- What first reads. -/
def rdF (f : Fo) (xs : List UInt8) : Rd := if f.chk = 0 then Rd.rd f xs else ⟨f.chk, 0, v0, 0⟩
/-- What is read of all bytes. -/
def rdAll (f : Fo) (xs : List UInt8) : Rd := if (rdF f xs).e = 0 ∧ (rdF f xs).n < xs.length then ⟨6, (rdF f xs).n, v0, (rdF f xs).c⟩ else rdF f xs

theorem rdF_no {f : Fo} {xs : List UInt8} (hx : xs.length ≤ 1000000000000000) (h : (rdF f xs).e ≠ 0) : (rdF f xs).v = v0 := by
  unfold rdF at h ⊢
  by_cases hc : f.chk = 0
  · rw [if_pos hc] at h ⊢
    obtain ⟨hd, hw⟩ := chk_zero hc
    exact (Rd.bd_good f hw hd xs hx).no h
  · rw [if_neg hc]

theorem first_any (w0 w : World) (f : Fo) (hf : f.In w0) (p : Nat) (t : Option Nat) (m c : Int) (xs : List UInt8) (a : Int) (hpre : Pre0 w0 w p t m c xs a) (hm : t ≠ none → c + (rdF f xs).c ≤ m) :
    Calls Try.prog 24 #[tptr t, f.val, .pointer (some ⟨p, 0, none⟩)] w (Got w0 w p t m c xs a (rdF f xs)) := by
  unfold rdF at hm ⊢
  by_cases hc : f.chk = 0
  · rw [if_pos hc] at hm ⊢
    exact first_ok w0 w f hf hc p t m c xs a hpre hm
  · rw [if_neg hc]
    refine (first_no w f (hf.grew hpre.g) hc _ p _ xs a hpre.cr).mono ?_
    rintro e w' ⟨rfl, g⟩
    refine ⟨v0, xs, a, ?_, v0_in _, v0_hi _, rfl, hpre.cr.grew g (by simp) (fun _ h => by cases h), fun h => absurd h hc, ?_, fr_of g⟩
    · have : faI a ⟨f.chk, 0, v0, 0⟩ = a := by unfold faI; rw [if_neg hc]; simp
      rw [this]
    · intro q hq
      have := (hpre.ty q hq).grew g (by simp)
      simpa using this

/-- What told tells. -/
def tlV (v : Va) (e : Int) : Va := if e = 0 then v else v0
def tlI (b y e : Int) : Int := if e = 0 then b else y
theorem told_any (w : World) (v : Va) (b y e : Int) (hy : e = 0 → y = 0) :
    Calls Try.prog 27 #[v.val, .int .i64 b, fault y e] w fun e' w' => e' = .returned (.tuple #[(tlV v e).val, .int .i64 (tlI b y e), .int .i64 e]) ∧ Grew w w' none := by
  unfold tlV tlI
  by_cases he : e = 0
  · rw [if_pos he, if_pos he, hy he, he]
    exact told_ok w v b
  · rw [if_neg he, if_neg he]
    exact told_no w v b y e he
theorem cr_atG (w : World) (p B : Nat) (ys : List UInt8) (a : Int) (h : Cr w p B ys a) :
    Calls Try.prog 26 #[.pointer (some ⟨p, 0, none⟩)] w fun e w' => e = .returned (.int .i64 a) ∧ Grew w w' none :=
  (cr_at w p B ys a h).mono (fun e w' ⟨h1, h2⟩ => ⟨h1, by subst h2; exact grew_refl _ _⟩)
theorem enter_at : ∀ args w, (callFunc 26 args).run Try.prog w = .ok (.enter 26 args) w := fun _ _ => by kernel_rfl
theorem enter_told : ∀ args w, (callFunc 27 args).run Try.prog w = .ok (.enter 27 args) w := fun _ _ => by kernel_rfl

/-- What a call leaves behind. -/
def Done (w : World) (t : Option Nat) (m c : Int) (a : Int) (R : Rd) (e : Ending) (w' : World) : Prop :=
  ∃ v : Va, e = .returned (.tuple #[v.val, .int .i64 (a + R.n), .int .i64 R.e]) ∧ v.In w' ∧ v.Hi w.heap.size ∧ v.nf = R.v ∧ Tly w' t m (c + R.c) ∧ Fr w w' (fun i => t = some i)

set_option maxRecDepth 100000 in
set_option maxHeartbeats 4000000 in
theorem prefix_any (w0 w : World) (f : Fo) (hf : f.In w0) (g0 : Grew w0 w none) (A : Option Addr) (cp : Nat) (xs : List UInt8) (hl : xs.length ≤ cp) (hcp : xs.length ≤ 140737488351232) (hb : Byt w0 w0.heap.size A xs) (a : Int) (h0 : 0 ≤ a) (ha : a + xs.length ≤ 4611686018427387904) :
    Calls Try.prog 19 #[f.val, .slice A xs.length cp, .int .i64 a] w (Done w none 0 0 a (rdF f xs)) := by
  obtain ⟨g1, k0, k1, ks⟩ := two_new w #[.int .i64 f.k, .int .i64 f.s, .int .i64 f.l, .int .i64 f.h, .int .i64 f.t, .slice f.A f.ps.length f.c] 24 #[.int .u64 0, .slice none 0 0, .slice none 0 0] 35
  have HN := Lib.hid hf
  have HG0 := Lib.hid g0
  have HNEW := Lib.hid (fun (W : World) (gw : Grew w W none) => cr_new W A cp xs a hl hcp w0.heap.size (hb.grew (grew_trans g0 gw) (fun _ h => by cases h)) (Nat.le_trans g0.size gw.size) h0 ha)
  have HXL := Lib.hid (show xs.length ≤ 1000000000000000 by omega)
  have HTL0 := Lib.hid (show ∀ q, (none : Option Nat) = some q → w0.heap.size ≤ q from fun q hq => by cases hq)
  have HTL := Lib.hid (show ∀ q, (none : Option Nat) = some q → q < w.heap.size from fun q hq => by cases hq)
  have HTY := Lib.hid (show Tly w none 0 0 from fun q hq => by cases hq)
  have HM := Lib.hid (show (none : Option Nat) ≠ none → 0 + ((rdF f xs).c : Int) ≤ 0 from fun h => absurd rfl h)
  have G1 := Lib.hid g1
  have K0 := Lib.hid k0
  have K1 := Lib.hid k1
  have KS := Lib.hid ks
  clear hf g0 hl hcp hb h0 ha g1 k0 k1 ks
  rw [val_eq]
  go_enter Try.func19, Try.ntmps19
  go_wp2_with fail
  generalize (w.alloc (.cells #[.int .i64 f.k, .int .i64 f.s, .int .i64 f.l, .int .i64 f.h, .int .i64 f.t, .slice f.A f.ps.length f.c] 24)).alloc (.cells #[.int .u64 0, .slice none 0 0, .slice none 0 0] 35) = W at *
  refine (HNEW.out W G1.out).mono ?_
  rintro e X ⟨rfl, hC, g⟩
  generalize hp : W.heap.size = p at *
  have HP := Lib.hid (show p = w.heap.size + 2 from KS.out)
  have K0' := Lib.hid (K0.out.grew g (by simp))
  have K1' := Lib.hid (K1.out.grew g (by simp))
  have GX := Lib.hid (grew_trans G1.out g)
  have HCX := Lib.hid hC
  have HTX := Lib.hid (show Tly X none 0 0 from HTY.out.fr (fr_of GX.out (F := fun _ => False)) (fun _ _ h => h))
  have XS := Lib.hid (show w.heap.size + 3 ≤ X.heap.size by have h1 := hC.lt; have h2 := HP.out; omega)
  obtain ⟨b0, b1, b2, b3, b4, b5⟩ := K0'.out.six
  clear hC g hp K0 K1 G1 HNEW KS
  go_wp2_with fail
  refine (first_any w0 X f HN.out p none 0 0 xs a ⟨grew_trans HG0.out GX.out, HCX.out, HTL0.out, HTX.out⟩ HM.out).mono ?_
  clear b0 b1 b2 b3 b4 b5
  rintro e Y ⟨v, ys, a', rfl, hv, hi, hnf, hC, hx, hT, hF⟩
  have hno := rdF_no (f := f) HXL.out
  generalize rdF f xs = R at *
  have HNO := Lib.hid hno
  have hYF : Fr w Y (fun i => none = some i) := (fr_of GX.out).trans hF (fun i hi e => by
    rcases e with e | e
    · have := HP.out; omega
    · exact e)
  have k1 := K1'.out.fr hF (fun e => by
    rcases e with e | e
    · have := HP.out; omega
    · have := HTL.out _ e; omega)
  have YS := Lib.hid (show w.heap.size + 3 ≤ Y.heap.size from Nat.le_trans XS.out hF.size)
  have HV0 := Lib.hid (show v.In Y ∧ v.Hi (w.heap.size + 2) ∧ v.nf = R.v ∧ Tly Y none 0 (0 + R.c) ∧ Fr w Y (fun i => none = some i) from ⟨hv, hi.mono (by have := XS.out; omega), hnf, hT, hYF⟩)
  have HCY := Lib.hid hC
  have HX := Lib.hid hx
  have KY := Lib.hid k1
  clear hv hi hnf hC hx hT hF hYF k1 hno K0' K1' GX HCX HTX HTY HM
  rw [vval_eq]
  unfold fault
  have hYE : R.e = 0 → faI a R = 0 := fun h => if_pos h
  have hYN : R.e ≠ 0 → faI a R = a + R.n := fun h => if_neg h
  have HYE := Lib.hid hYE
  have HYN := Lib.hid hYN
  clear hYE hYN
  generalize hy : faI a R = y at *
  clear hy
  generalize he : R.e = e at *
  have HE := Lib.hid he
  clear he
  obtain ⟨g3, n1, n2, ns⟩ := two_new Y #[.int .u64 v.n, .slice v.B v.bs.length v.d, .slice v.A v.ls.length v.c] 35 #[.int .i64 y, .int .i64 e] 62
  have GZ := Lib.hid g3
  have NV := Lib.hid n1
  have NF := Lib.hid n2
  have NK := Lib.hid (KY.out.grew g3 (by simp))
  have NC := Lib.hid (HCY.out.grew g3 (by simp) (fun _ h => by cases h))
  clear g3 n1 n2 ns
  go_upto_region 3 with (fail)
  generalize (Y.alloc (.cells #[.int .u64 v.n, .slice v.B v.bs.length v.d, .slice v.A v.ls.length v.c] 35)).alloc (.cells #[.int .i64 y, .int .i64 e] 62) = Z at *
  generalize hz : Y.heap.size = z at *
  have HZL := Lib.hid YS.out
  have HZY := Lib.hid (show Y.heap.size ≤ z + 1 by rw [hz]; omega)
  clear hz
  have HV := Lib.hid (show v.In Z ∧ v.Hi (w.heap.size + 2) ∧ True ∧ Tly Z none 0 (0 + R.c) ∧ Fr w Z (fun i => none = some i) from ⟨HV0.out.1.grew GZ.out, HV0.out.2.1, trivial, HV0.out.2.2.2.1.fr (fr_of GZ.out (F := fun _ => False)) (fun _ _ h => h), HV0.out.2.2.2.2.trans (fr_of GZ.out (F := fun _ => False)) (fun _ _ h => h.elim)⟩)
  have ZV := Lib.hid (show Whole Z z v.cells 35 from NV.out)
  have ZF := Lib.hid (show Whole Z (z + 1) #[.int .i64 y, .int .i64 e] 62 from NF.out)
  have ZK := Lib.hid (show Whole Z (w.heap.size + 1) #[.int .u64 0, .slice none 0 0, .slice none 0 0] 35 from NK.out)
  have ZC := Lib.hid (show Cr Z p w0.heap.size ys a' from NC.out)
  have HNF := Lib.hid (show (tlV v e).nf = R.v by
    unfold tlV
    by_cases h : e = 0
    · rw [if_pos h]; exact HV0.out.2.2.1
    · rw [if_neg h, HNO.out h]; rfl)
  have HPL := Lib.hid (show tlI a' y e = a + R.n by
    unfold tlI
    by_cases h : e = 0
    · rw [if_pos h]; exact (HX.out h).2
    · rw [if_neg h]; exact HYN.out h)
  have HEE := Lib.hid (show e = R.e from HE.out.symm)
  clear HV0 NV NF NK NC GZ HX HCY KY
  have GS := Lib.hid (show (fun w' => Whole w' z v.cells 35 ∧ Whole w' (z + 1) #[.int .i64 y, .int .i64 e] 62) (World.drew Z) from ⟨ZV.out, ZF.out⟩)
  have CD := Lib.hid (show Cr (World.drew Z) p w0.heap.size ys a' from ZC.out)
  have KD := Lib.hid (show Whole (World.drew Z) (w.heap.size + 1) #[.int .u64 0, .slice none 0 0, .slice none 0 0] 35 from ZK.out)
  refine act_letterC (fun A1 hA1 => ?_)
  have d6 : A1.eval (.tmp 6) = .pointer (some ⟨w.heap.size + 1, 0, none⟩) := by rw [← hA1]; rfl
  have d9 : A1.eval (.tmp 9) = .pointer (some ⟨p, 0, none⟩) := by rw [← hA1]; rfl
  have d10 : A1.eval (.tmp 10) = .pointer (some ⟨z, 0, none⟩) := by rw [← hA1]; rfl
  have d11 : A1.eval (.tmp 11) = .pointer (some ⟨z + 1, 0, none⟩) := by rw [← hA1]; rfl
  have szA1 : A1.tmps.size = 29 := by rw [← hA1]; rfl
  have HA1 := Lib.hid hA1
  clear hA1
  refine wp_region_held (S := fun w' => Whole w' z v.cells 35 ∧ Whole w' (z + 1) #[.int .i64 y, .int .i64 e] 62) (by kernel_rfl) ?_
  change wpAnyH _ _ _ _ _ _ _ _ (World.drew Z)
  refine wpAnyH_take (i := 0) (v := v.val) rfl (by kernel_rfl) (by kernel_rfl) (by kernel_rfl) (fun _ _ _ h => h) (.inl ⟨rfl, fun w g => run_loadV rfl d10 g.1⟩) GS.out ?_
  refine act_letter (fun A2 hA2 => ?_)
  replace d6 : A2.eval (.tmp 6) = .pointer (some ⟨w.heap.size + 1, 0, none⟩) := by rw [← hA2]; exact (ev_ne A1 (m := 21) (n := 6) (v.val) (by decide)).trans d6
  replace d9 : A2.eval (.tmp 9) = .pointer (some ⟨p, 0, none⟩) := by rw [← hA2]; exact (ev_ne A1 (m := 21) (n := 9) (v.val) (by decide)).trans d9
  replace d10 : A2.eval (.tmp 10) = .pointer (some ⟨z, 0, none⟩) := by rw [← hA2]; exact (ev_ne A1 (m := 21) (n := 10) (v.val) (by decide)).trans d10
  replace d11 : A2.eval (.tmp 11) = .pointer (some ⟨z + 1, 0, none⟩) := by rw [← hA2]; exact (ev_ne A1 (m := 21) (n := 11) (v.val) (by decide)).trans d11
  have e21 : A2.eval (.tmp 21) = v.val := by rw [← hA2]; exact ev_self A1 21 (v.val) (by omega)
  have szA2 : A2.tmps.size = 29 := by rw [← hA2]; exact (sz_put A1 21 (v.val)).trans szA1
  have HA2 := Lib.hid (show A1.put (some 21) (v.val) = A2 from hA2)
  clear hA2 szA1
  have d21 := e21
  clear e21
  refine wpAnyH_take (i := 1) (v := .pointer (some ⟨p, 0, none⟩)) rfl (by kernel_rfl) (by kernel_rfl) (by kernel_rfl) (fun _ _ _ h => h) (.inl ⟨rfl, fun w g => run_moveV rfl d9 w⟩) GS.out ?_
  refine act_letter (fun A3 hA3 => ?_)
  replace d6 : A3.eval (.tmp 6) = .pointer (some ⟨w.heap.size + 1, 0, none⟩) := by rw [← hA3]; exact (ev_ne A2 (m := 22) (n := 6) (.pointer (some ⟨p, 0, none⟩)) (by decide)).trans d6
  replace d9 : A3.eval (.tmp 9) = .pointer (some ⟨p, 0, none⟩) := by rw [← hA3]; exact (ev_ne A2 (m := 22) (n := 9) (.pointer (some ⟨p, 0, none⟩)) (by decide)).trans d9
  replace d10 : A3.eval (.tmp 10) = .pointer (some ⟨z, 0, none⟩) := by rw [← hA3]; exact (ev_ne A2 (m := 22) (n := 10) (.pointer (some ⟨p, 0, none⟩)) (by decide)).trans d10
  replace d11 : A3.eval (.tmp 11) = .pointer (some ⟨z + 1, 0, none⟩) := by rw [← hA3]; exact (ev_ne A2 (m := 22) (n := 11) (.pointer (some ⟨p, 0, none⟩)) (by decide)).trans d11
  replace d21 : A3.eval (.tmp 21) = v.val := by rw [← hA3]; exact (ev_ne A2 (m := 22) (n := 21) (.pointer (some ⟨p, 0, none⟩)) (by decide)).trans d21
  have e22 : A3.eval (.tmp 22) = .pointer (some ⟨p, 0, none⟩) := by rw [← hA3]; exact ev_self A2 22 (.pointer (some ⟨p, 0, none⟩)) (by omega)
  have szA3 : A3.tmps.size = 29 := by rw [← hA3]; exact (sz_put A2 22 (.pointer (some ⟨p, 0, none⟩))).trans szA2
  have HA3 := Lib.hid (show A2.put (some 22) (.pointer (some ⟨p, 0, none⟩)) = A3 from hA3)
  clear hA3 szA2
  have d22 := e22
  clear e22
  refine wpAnyH_take (i := 3) (v := fault y e) rfl (by kernel_rfl) (by kernel_rfl) (by kernel_rfl) (fun _ _ _ h => h) (.inl ⟨rfl, fun w g => run_loadFa rfl d11 g.2⟩) GS.out ?_
  refine act_letter (fun A4 hA4 => ?_)
  replace d6 : A4.eval (.tmp 6) = .pointer (some ⟨w.heap.size + 1, 0, none⟩) := by rw [← hA4]; exact (ev_ne A3 (m := 24) (n := 6) (fault y e) (by decide)).trans d6
  replace d21 : A4.eval (.tmp 21) = v.val := by rw [← hA4]; exact (ev_ne A3 (m := 24) (n := 21) (fault y e) (by decide)).trans d21
  replace d22 : A4.eval (.tmp 22) = .pointer (some ⟨p, 0, none⟩) := by rw [← hA4]; exact (ev_ne A3 (m := 24) (n := 22) (fault y e) (by decide)).trans d22
  have e24 : A4.eval (.tmp 24) = fault y e := by rw [← hA4]; exact ev_self A3 24 (fault y e) (by omega)
  have szA4 : A4.tmps.size = 29 := by rw [← hA4]; exact (sz_put A3 24 (fault y e)).trans szA3
  have HA4 := Lib.hid (show A3.put (some 24) (fault y e) = A4 from hA4)
  clear hA4 szA3 d9 d10 d11
  have d24 := e24
  clear e24
  refine wpAnyH_ready (rs := [2]) (by kernel_rfl) (by simp) ?_
  refine AllReadyH.cons rfl (fun K hK => ?_) AllReadyH.nil
  refine wp_callG rfl (rfl) enter_at (vs := #[.pointer (some ⟨p, 0, none⟩)]) (by simp [d22]) ((cr_atG _ p _ ys a' CD.out).mono ?_)
  rintro e x1 ⟨rfl, g1⟩
  refine ⟨_, rfl, hK.out _ _ (⟨GS.out.1.grew g1 (by simp), GS.out.2.grew g1 (by simp)⟩) (fun _ => ?_)⟩
  clear hK K
  have S1 := Lib.hid (show (fun w' => Whole w' z v.cells 35 ∧ Whole w' (z + 1) #[.int .i64 y, .int .i64 e] 62) x1 from ⟨GS.out.1.grew g1 (by simp), GS.out.2.grew g1 (by simp)⟩)
  have KA := Lib.hid (KD.out.grew g1 (by simp))
  have GA := Lib.hid (show Grew Z x1 none from grew_trans (grew_drew (grew_refl _ none)) g1)
  clear g1 CD KD
  clear GS
  refine act_letter (fun A5 hA5 => ?_)
  replace d6 : A5.eval (.tmp 6) = .pointer (some ⟨w.heap.size + 1, 0, none⟩) := by rw [← hA5]; exact (ev_ne A4 (m := 23) (n := 6) (.int .i64 a') (by decide)).trans d6
  replace d21 : A5.eval (.tmp 21) = v.val := by rw [← hA5]; exact (ev_ne A4 (m := 23) (n := 21) (.int .i64 a') (by decide)).trans d21
  replace d24 : A5.eval (.tmp 24) = fault y e := by rw [← hA5]; exact (ev_ne A4 (m := 23) (n := 24) (.int .i64 a') (by decide)).trans d24
  have e23 : A5.eval (.tmp 23) = .int .i64 a' := by rw [← hA5]; exact ev_self A4 23 (.int .i64 a') (by omega)
  have szA5 : A5.tmps.size = 29 := by rw [← hA5]; exact (sz_put A4 23 (.int .i64 a')).trans szA4
  have HA5 := Lib.hid (show A4.put (some 23) (.int .i64 a') = A5 from hA5)
  clear hA5 szA4 d22
  have d23 := e23
  clear e23
  refine wpAnyH_ready (rs := [4]) (by kernel_rfl) (by simp) ?_
  refine AllReadyH.cons rfl (fun K hK => ?_) AllReadyH.nil
  refine wp_callG rfl (rfl) enter_told (vs := #[v.val, .int .i64 a', fault y e]) (by simp [d21, d23, d24]) ((told_any _ v a' y e HYE.out).mono ?_)
  rintro e x2 ⟨rfl, g2⟩
  refine ⟨_, rfl, hK.out _ _ (⟨S1.out.1.grew g2 (by simp), S1.out.2.grew g2 (by simp)⟩) (fun _ => ?_)⟩
  clear hK K
  have S2 := Lib.hid (show (fun w' => Whole w' z v.cells 35 ∧ Whole w' (z + 1) #[.int .i64 y, .int .i64 e] 62) x2 from ⟨S1.out.1.grew g2 (by simp), S1.out.2.grew g2 (by simp)⟩)
  have KB := Lib.hid (KA.out.grew g2 (by simp))
  have GB := Lib.hid (show Grew Z x2 none from grew_trans GA.out g2)
  clear g2 KA GA
  clear S1
  refine act_letter (fun A6 hA6 => ?_)
  replace d6 : A6.eval (.tmp 6) = .pointer (some ⟨w.heap.size + 1, 0, none⟩) := by rw [← hA6]; exact (ev_ne A5 (m := 25) (n := 6) (.tuple #[(tlV v e).val, .int .i64 (tlI a' y e), .int .i64 e]) (by decide)).trans d6
  have e25 : A6.eval (.tmp 25) = .tuple #[(tlV v e).val, .int .i64 (tlI a' y e), .int .i64 e] := by rw [← hA6]; exact ev_self A5 25 (.tuple #[(tlV v e).val, .int .i64 (tlI a' y e), .int .i64 e]) (by omega)
  have szA6 : A6.tmps.size = 29 := by rw [← hA6]; exact (sz_put A5 25 (.tuple #[(tlV v e).val, .int .i64 (tlI a' y e), .int .i64 e])).trans szA5
  have HA6 := Lib.hid (show A5.put (some 25) (.tuple #[(tlV v e).val, .int .i64 (tlI a' y e), .int .i64 e]) = A6 from hA6)
  clear hA6 szA5 d21 d24 d23
  have d25 := e25
  clear e25
  refine wpAnyH_take (i := 5) (v := (tlV v e).val) rfl (by kernel_rfl) (by kernel_rfl) (by kernel_rfl) (fun _ _ _ h => h) (.inl ⟨rfl, fun w g => run_ext30 rfl d25 w⟩) S2.out ?_
  refine act_letter (fun A7 hA7 => ?_)
  replace d6 : A7.eval (.tmp 6) = .pointer (some ⟨w.heap.size + 1, 0, none⟩) := by rw [← hA7]; exact (ev_ne A6 (m := 26) (n := 6) ((tlV v e).val) (by decide)).trans d6
  replace d25 : A7.eval (.tmp 25) = .tuple #[(tlV v e).val, .int .i64 (tlI a' y e), .int .i64 e] := by rw [← hA7]; exact (ev_ne A6 (m := 26) (n := 25) ((tlV v e).val) (by decide)).trans d25
  have e26 : A7.eval (.tmp 26) = (tlV v e).val := by rw [← hA7]; exact ev_self A6 26 ((tlV v e).val) (by omega)
  have szA7 : A7.tmps.size = 29 := by rw [← hA7]; exact (sz_put A6 26 ((tlV v e).val)).trans szA6
  have HA7 := Lib.hid (show A6.put (some 26) ((tlV v e).val) = A7 from hA7)
  clear hA7 szA6
  have d26 := e26
  clear e26
  refine wpAnyH_take (i := 6) (v := .int .i64 (tlI a' y e)) rfl (by kernel_rfl) (by kernel_rfl) (by kernel_rfl) (fun _ _ _ h => h) (.inl ⟨rfl, fun w g => run_ext31 rfl d25 w⟩) S2.out ?_
  refine act_letter (fun A8 hA8 => ?_)
  replace d6 : A8.eval (.tmp 6) = .pointer (some ⟨w.heap.size + 1, 0, none⟩) := by rw [← hA8]; exact (ev_ne A7 (m := 27) (n := 6) (.int .i64 (tlI a' y e)) (by decide)).trans d6
  replace d25 : A8.eval (.tmp 25) = .tuple #[(tlV v e).val, .int .i64 (tlI a' y e), .int .i64 e] := by rw [← hA8]; exact (ev_ne A7 (m := 27) (n := 25) (.int .i64 (tlI a' y e)) (by decide)).trans d25
  replace d26 : A8.eval (.tmp 26) = (tlV v e).val := by rw [← hA8]; exact (ev_ne A7 (m := 27) (n := 26) (.int .i64 (tlI a' y e)) (by decide)).trans d26
  have e27 : A8.eval (.tmp 27) = .int .i64 (tlI a' y e) := by rw [← hA8]; exact ev_self A7 27 (.int .i64 (tlI a' y e)) (by omega)
  have szA8 : A8.tmps.size = 29 := by rw [← hA8]; exact (sz_put A7 27 (.int .i64 (tlI a' y e))).trans szA7
  have HA8 := Lib.hid (show A7.put (some 27) (.int .i64 (tlI a' y e)) = A8 from hA8)
  clear hA8 szA7
  have d27 := e27
  clear e27
  refine wpAnyH_take (i := 7) (v := .int .i64 e) rfl (by kernel_rfl) (by kernel_rfl) (by kernel_rfl) (fun _ _ _ h => h) (.inl ⟨rfl, fun w g => run_ext32 rfl d25 w⟩) S2.out ?_
  refine act_letter (fun A9 hA9 => ?_)
  replace d6 : A9.eval (.tmp 6) = .pointer (some ⟨w.heap.size + 1, 0, none⟩) := by rw [← hA9]; exact (ev_ne A8 (m := 28) (n := 6) (.int .i64 e) (by decide)).trans d6
  replace d26 : A9.eval (.tmp 26) = (tlV v e).val := by rw [← hA9]; exact (ev_ne A8 (m := 28) (n := 26) (.int .i64 e) (by decide)).trans d26
  replace d27 : A9.eval (.tmp 27) = .int .i64 (tlI a' y e) := by rw [← hA9]; exact (ev_ne A8 (m := 28) (n := 27) (.int .i64 e) (by decide)).trans d27
  have e28 : A9.eval (.tmp 28) = .int .i64 e := by rw [← hA9]; exact ev_self A8 28 (.int .i64 e) (by omega)
  have szA9 : A9.tmps.size = 29 := by rw [← hA9]; exact (sz_put A8 28 (.int .i64 e)).trans szA8
  have HA9 := Lib.hid (show A8.put (some 28) (.int .i64 e) = A9 from hA9)
  clear hA9 szA8 d25
  have d28 := e28
  clear e28
  refine wpAnyH_ready (rs := [8]) (by kernel_rfl) (by simp) ?_
  refine AllReadyH.cons rfl (fun K hK => ?_) AllReadyH.nil
  refine wp_skipG rfl (w' := put3 x2 (w.heap.size + 1) (.int .u64 (tlV v e).n) (.slice (tlV v e).B (tlV v e).bs.length (tlV v e).d) (.slice (tlV v e).A (tlV v e).ls.length (tlV v e).c)) (run_storeVa rfl d6 d26 KB.out) (hK.out _ _ (⟨S2.out.1.fr (fr_put3 _ _ _ _ _) (by have := HZL.out; omega), S2.out.2.fr (fr_put3 _ _ _ _ _) (by have := HZL.out; omega)⟩) (fun _ => ?_))
  clear hK K
  have S3 := Lib.hid (show (fun w' => Whole w' z v.cells 35 ∧ Whole w' (z + 1) #[.int .i64 y, .int .i64 e] 62) (put3 x2 (w.heap.size + 1) (.int .u64 (tlV v e).n) (.slice (tlV v e).B (tlV v e).bs.length (tlV v e).d) (.slice (tlV v e).A (tlV v e).ls.length (tlV v e).c)) from ⟨S2.out.1.fr (fr_put3 _ _ _ _ _) (by have := HZL.out; omega), S2.out.2.fr (fr_put3 _ _ _ _ _) (by have := HZL.out; omega)⟩)
  clear S2
  refine act_letter (fun A10 hA10 => ?_)
  replace d6 : A10.eval (.tmp 6) = .pointer (some ⟨w.heap.size + 1, 0, none⟩) := by rw [← hA10]; exact d6
  replace d26 : A10.eval (.tmp 26) = (tlV v e).val := by rw [← hA10]; exact d26
  replace d27 : A10.eval (.tmp 27) = .int .i64 (tlI a' y e) := by rw [← hA10]; exact d27
  replace d28 : A10.eval (.tmp 28) = .int .i64 e := by rw [← hA10]; exact d28
  have szA10 : A10.tmps.size = 29 := by rw [← hA10]; exact szA9
  have HA10 := Lib.hid (show A9 = A10 from hA10)
  clear hA10 szA9
  refine wpAnyH_take (i := 9) (v := .int .i64 (tlI a' y e)) rfl (by kernel_rfl) (by kernel_rfl) (by kernel_rfl) (fun _ _ _ h => h) (.inl ⟨rfl, fun w g => run_assign rfl d27 w⟩) S3.out ?_
  refine act_letter (fun A11 hA11 => ?_)
  replace d6 : A11.eval (.tmp 6) = .pointer (some ⟨w.heap.size + 1, 0, none⟩) := by rw [← hA11]; exact (ev_ne A10 (m := 7) (n := 6) (.int .i64 (tlI a' y e)) (by decide)).trans d6
  replace d26 : A11.eval (.tmp 26) = (tlV v e).val := by rw [← hA11]; exact (ev_ne A10 (m := 7) (n := 26) (.int .i64 (tlI a' y e)) (by decide)).trans d26
  replace d27 : A11.eval (.tmp 27) = .int .i64 (tlI a' y e) := by rw [← hA11]; exact (ev_ne A10 (m := 7) (n := 27) (.int .i64 (tlI a' y e)) (by decide)).trans d27
  replace d28 : A11.eval (.tmp 28) = .int .i64 e := by rw [← hA11]; exact (ev_ne A10 (m := 7) (n := 28) (.int .i64 (tlI a' y e)) (by decide)).trans d28
  have e7 : A11.eval (.tmp 7) = .int .i64 (tlI a' y e) := by rw [← hA11]; exact ev_self A10 7 (.int .i64 (tlI a' y e)) (by omega)
  have szA11 : A11.tmps.size = 29 := by rw [← hA11]; exact (sz_put A10 7 (.int .i64 (tlI a' y e))).trans szA10
  have HA11 := Lib.hid (show A10.put (some 7) (.int .i64 (tlI a' y e)) = A11 from hA11)
  clear hA11 szA10
  have d7 := e7
  clear e7
  refine wpAnyH_take (i := 10) (v := .int .i64 e) rfl (by kernel_rfl) (by kernel_rfl) (by kernel_rfl) (fun _ _ _ h => h) (.inl ⟨rfl, fun w g => run_assign rfl d28 w⟩) S3.out ?_
  refine act_letter (fun A12 hA12 => ?_)
  replace d6 : A12.eval (.tmp 6) = .pointer (some ⟨w.heap.size + 1, 0, none⟩) := by rw [← hA12]; exact (ev_ne A11 (m := 8) (n := 6) (.int .i64 e) (by decide)).trans d6
  replace d26 : A12.eval (.tmp 26) = (tlV v e).val := by rw [← hA12]; exact (ev_ne A11 (m := 8) (n := 26) (.int .i64 e) (by decide)).trans d26
  replace d27 : A12.eval (.tmp 27) = .int .i64 (tlI a' y e) := by rw [← hA12]; exact (ev_ne A11 (m := 8) (n := 27) (.int .i64 e) (by decide)).trans d27
  replace d28 : A12.eval (.tmp 28) = .int .i64 e := by rw [← hA12]; exact (ev_ne A11 (m := 8) (n := 28) (.int .i64 e) (by decide)).trans d28
  replace d7 : A12.eval (.tmp 7) = .int .i64 (tlI a' y e) := by rw [← hA12]; exact (ev_ne A11 (m := 8) (n := 7) (.int .i64 e) (by decide)).trans d7
  have e8 : A12.eval (.tmp 8) = .int .i64 e := by rw [← hA12]; exact ev_self A11 8 (.int .i64 e) (by omega)
  have szA12 : A12.tmps.size = 29 := by rw [← hA12]; exact (sz_put A11 8 (.int .i64 e)).trans szA11
  have HA12 := Lib.hid (show A11.put (some 8) (.int .i64 e) = A12 from hA12)
  clear hA12 szA11
  have d8 := e8
  clear e8
  refine wpAnyH_done (by kernel_rfl) ?_ _
  rw [← HA12.out, ← HA11.out, ← HA10.out, ← HA9.out, ← HA8.out, ← HA7.out, ← HA6.out, ← HA5.out, ← HA4.out, ← HA3.out, ← HA2.out, ← HA1.out]
  clear HA2 HA3 HA4 HA5 HA6 HA7 HA8 HA9 HA10 HA11 HA12 HA1 d6 d26 d27 d28 d7 d8 szA12
  simp only [Act.put, List.setIfInBounds_toArray, List.set_cons_zero, List.set_cons_succ]
  clear S3
  go_wp2_with fail
  have r1 := KB.out.put3 (.int .u64 (tlV v e).n) (.slice (tlV v e).B (tlV v e).bs.length (tlV v e).d) (.slice (tlV v e).A (tlV v e).ls.length (tlV v e).c)
  have r3 := fr_put3 x2 (w.heap.size + 1) (.int .u64 (tlV v e).n) (.slice (tlV v e).B (tlV v e).bs.length (tlV v e).d) (.slice (tlV v e).A (tlV v e).ls.length (tlV v e).c)
  refine bodyPost_ret (results_cell_tmps rfl _ _ _ _ _ _ _ rfl r1 Try.underlying35 rfl (by kernel_rfl)) rfl ?_
  obtain ⟨hv, hi, hnf, hty, hfr⟩ := HV.out
  have hzl := HZL.out
  refine ⟨tlV v e, ?_, ?_, ?_, HNF.out, ?_, ?_⟩
  · rw [← HPL.out, ← HEE.out]; rfl
  · refine In.fr (k := w.heap.size + 2) (In.grew ?_ GB.out) r3 ?_ (fun i h => by omega)
    · unfold tlV; split
      · exact hv
      · exact v0_in _
    · unfold tlV; split
      · exact hi
      · exact v0_hi _
  · unfold tlV; split
    · exact hi.mono (by omega)
    · exact v0_hi _
  · exact (hty.fr (fr_of GB.out (F := fun _ => False)) (fun _ _ h => h)).fr r3 (fun q hq e => by have := HTL.out q hq; omega)
  · exact (hfr.trans (fr_of GB.out (F := fun _ => False)) (fun _ _ h => h.elim)).trans r3 (fun i hi e => by omega)

set_option maxRecDepth 100000 in
set_option maxHeartbeats 4000000 in
theorem counted_any (w0 w : World) (f : Fo) (hf : f.In w0) (g0 : Grew w0 w none) (A : Option Addr) (cp : Nat) (xs : List UInt8) (hl : xs.length ≤ cp) (hcp : xs.length ≤ 140737488351232) (hb : Byt w0 w0.heap.size A xs) (a : Int) (h0 : 0 ≤ a) (ha : a + xs.length ≤ 4611686018427387904) (t : Option Nat) (m c : Int) (tl : ∀ q, t = some q → w0.heap.size ≤ q) (ty : Tly w t m c) (hm : t ≠ none → c + (rdF f xs).c ≤ m) :
    Calls Try.prog 11 #[tptr t, f.val, .slice A xs.length cp, .int .i64 a] w (Done w t m c a (rdAll f xs)) := by
  obtain ⟨g1, k0, k1, ks⟩ := two_new w #[.int .i64 f.k, .int .i64 f.s, .int .i64 f.l, .int .i64 f.h, .int .i64 f.t, .slice f.A f.ps.length f.c] 24 #[.int .u64 0, .slice none 0 0, .slice none 0 0] 35
  have HN := Lib.hid hf
  have HG0 := Lib.hid g0
  have HNEW := Lib.hid (fun (W : World) (gw : Grew w W none) => cr_new W A cp xs a hl hcp w0.heap.size (hb.grew (grew_trans g0 gw) (fun _ h => by cases h)) (Nat.le_trans g0.size gw.size) h0 ha)
  have HXL := Lib.hid (show xs.length ≤ 1000000000000000 by omega)
  have HTL0 := Lib.hid tl
  have HTL := Lib.hid (show ∀ q, t = some q → q < w.heap.size from fun q hq => (ty q hq).lt)
  have HTY := Lib.hid ty
  have HM := Lib.hid hm
  have G1 := Lib.hid g1
  have K0 := Lib.hid k0
  have K1 := Lib.hid k1
  have KS := Lib.hid ks
  clear hf g0 hl hcp hb h0 ha g1 k0 k1 ks tl ty hm
  rw [val_eq]
  generalize hRA : rdAll f xs = RA at *
  have HRA := Lib.hid (show RA = if (rdF f xs).e = 0 ∧ (rdF f xs).n < xs.length then ⟨6, (rdF f xs).n, v0, (rdF f xs).c⟩ else rdF f xs from hRA.symm)
  clear hRA
  unfold tptr
  generalize hTV : (t.map fun q => (⟨q, 0, none⟩ : Addr)) = tv at *
  have HTV := Lib.hid hTV
  clear hTV
  go_enter Try.func11, Try.ntmps11
  go_wp2_with fail
  generalize (w.alloc (.cells #[.int .i64 f.k, .int .i64 f.s, .int .i64 f.l, .int .i64 f.h, .int .i64 f.t, .slice f.A f.ps.length f.c] 24)).alloc (.cells #[.int .u64 0, .slice none 0 0, .slice none 0 0] 35) = W at *
  refine (HNEW.out W G1.out).mono ?_
  rintro e X ⟨rfl, hC, g⟩
  generalize hp : W.heap.size = p at *
  have HP := Lib.hid (show p = w.heap.size + 2 from KS.out)
  have K0' := Lib.hid (K0.out.grew g (by simp))
  have K1' := Lib.hid (K1.out.grew g (by simp))
  have GX := Lib.hid (grew_trans G1.out g)
  have HCX := Lib.hid hC
  have HTX := Lib.hid (show Tly X t m c from HTY.out.fr (fr_of GX.out (F := fun _ => False)) (fun _ _ h => h))
  have XS := Lib.hid (show w.heap.size + 3 ≤ X.heap.size by have h1 := hC.lt; have h2 := HP.out; omega)
  obtain ⟨b0, b1, b2, b3, b4, b5⟩ := K0'.out.six
  clear hC g hp K0 K1 G1 HNEW KS
  go_wp2_with fail
  rw [show (Value.pointer tv) = tptr t by rw [← HTV.out]; rfl]
  refine (first_any w0 X f HN.out p t m c xs a ⟨grew_trans HG0.out GX.out, HCX.out, HTL0.out, HTX.out⟩ HM.out).mono ?_
  clear b0 b1 b2 b3 b4 b5
  rintro e Y ⟨v, ys, a', rfl, hv, hi, hnf, hC, hx, hT, hF⟩
  have hno := rdF_no (f := f) HXL.out
  generalize rdF f xs = R at *
  have HNO := Lib.hid hno
  have hYF : Fr w Y (fun i => t = some i) := (fr_of GX.out).trans hF (fun i hi e => by
    rcases e with e | e
    · have := HP.out; omega
    · exact e)
  have k1 := K1'.out.fr hF (fun e => by
    rcases e with e | e
    · have := HP.out; omega
    · have := HTL.out _ e; omega)
  have YS := Lib.hid (show w.heap.size + 3 ≤ Y.heap.size from Nat.le_trans XS.out hF.size)
  have HV0 := Lib.hid (show v.In Y ∧ v.Hi (w.heap.size + 2) ∧ v.nf = R.v ∧ Tly Y t m (c + R.c) ∧ Fr w Y (fun i => t = some i) from ⟨hv, hi.mono (by have := XS.out; omega), hnf, hT, hYF⟩)
  have HCY := Lib.hid hC
  have HX := Lib.hid hx
  have KY := Lib.hid k1
  clear hv hi hnf hC hx hT hF hYF k1 hno K0' K1' GX HCX HTX HTY HM
  rw [vval_eq]
  unfold fault
  have hYE : R.e = 0 → faI a R = 0 := fun h => if_pos h
  have hYN : R.e ≠ 0 → faI a R = a + R.n := fun h => if_neg h
  have HYE := Lib.hid hYE
  have HYN := Lib.hid hYN
  clear hYE hYN
  generalize hy : faI a R = y at *
  clear hy
  generalize he : R.e = e at *
  have HE := Lib.hid he
  clear he
  by_cases hE : e = 0
  · obtain ⟨hys, ha'⟩ := HX.out hE
    have hy0 := HYE.out hE
    subst hy0
    have hlen : ys.length = xs.length - R.n := by rw [hys, List.length_drop]
    by_cases hlt : R.n < xs.length
    · have HR2 := Lib.hid (show RA = ⟨6, R.n, v0, R.c⟩ from HRA.out.trans (if_pos ⟨hE, hlt⟩))
      have hl0 : (0 : Int) < (ys.length : Int) := by omega
      have HAP := Lib.hid ha'
      clear hys ha' hlen hlt HRA
      subst hE
      obtain ⟨g3, n1, n2, ns⟩ := two_new Y #[.int .u64 v.n, .slice v.B v.bs.length v.d, .slice v.A v.ls.length v.c] 35 #[.int .i64 0, .int .i64 0] 62
      have GZ := Lib.hid g3
      have NV := Lib.hid n1
      have NF := Lib.hid n2
      have NK := Lib.hid (KY.out.grew g3 (by simp))
      have NC := Lib.hid (HCY.out.grew g3 (by simp) (fun _ h => by cases h))
      clear g3 n1 n2 ns
      go_wp2_with fail
      generalize (Y.alloc (.cells #[.int .u64 v.n, .slice v.B v.bs.length v.d, .slice v.A v.ls.length v.c] 35)).alloc (.cells #[.int .i64 0, .int .i64 0] 62) = Z at *
      generalize hz : Y.heap.size = z at *
      have HZL := Lib.hid YS.out
      have HZY := Lib.hid (show Y.heap.size ≤ z + 1 by rw [hz]; omega)
      clear hz
      refine (cr_left Z p w0.heap.size ys a' NC.out).mono ?_
      rintro e1 w1 ⟨rfl, rfl⟩
      obtain ⟨d0, d1⟩ := NF.out.two
      have f1 := NF.out.frozen
      go_wp2_with fail
      refine (cr_at Z p w0.heap.size ys a' NC.out).mono ?_
      rintro e1 w1 ⟨rfl, rfl⟩
      go_upto_region 5 with (fail)
      clear d0 d1 f1
      obtain ⟨y, hy⟩ : ∃ y : Int, a' = y := ⟨_, rfl⟩
      obtain ⟨e, he⟩ : ∃ e : Int, (6 : Int) = e := ⟨_, rfl⟩
      have NF2 := Lib.hid (show Whole (put2 Z (z + 1) (.int .i64 y) (.int .i64 e)) (z + 1) #[.int .i64 y, .int .i64 e] 62 from NF.out.put2 _ _)
      have F2 := Lib.hid (fr_put2 Z (z + 1) (.int .i64 y) (.int .i64 e))
      have e6 : e ≠ 0 := by omega
      rw [show (6 : Int) = e from he]
      rw [show (Z.setCell ⟨z + 1, 0, none⟩ (.int .i64 a')).setCell ⟨z + 1, 1, none⟩ (.int .i64 e) = put2 Z (z + 1) (.int .i64 y) (.int .i64 e) by rw [hy]; rfl]
      have HZL' := HZL.out
      have HPP := HP.out
      have HV := Lib.hid (show v.In (put2 Z (z + 1) (.int .i64 y) (.int .i64 e)) ∧ v.Hi (w.heap.size + 2) ∧ True ∧ Tly (put2 Z (z + 1) (.int .i64 y) (.int .i64 e)) t m (c + R.c) ∧ Fr w (put2 Z (z + 1) (.int .i64 y) (.int .i64 e)) (fun i => t = some i) from ⟨In.fr2 (HV0.out.1.grew GZ.out) F2.out ((HV0.out.1).offn (fun i h => by subst h; exact HZY.out)), HV0.out.2.1, trivial, (HV0.out.2.2.2.1.fr (fr_of GZ.out (F := fun _ => False)) (fun _ _ h => h)).fr F2.out (fun q hq h => by have := HTL.out q hq; omega), (HV0.out.2.2.2.2.trans (fr_of GZ.out (F := fun _ => False)) (fun _ _ h => h.elim)).trans F2.out (fun i hi h => by omega)⟩)
      have ZV := Lib.hid (show Whole (put2 Z (z + 1) (.int .i64 y) (.int .i64 e)) z v.cells 35 from NV.out.fr F2.out (by omega))
      have ZF := Lib.hid (show Whole (put2 Z (z + 1) (.int .i64 y) (.int .i64 e)) (z + 1) #[.int .i64 y, .int .i64 e] 62 from NF2.out)
      have ZK := Lib.hid (show Whole (put2 Z (z + 1) (.int .i64 y) (.int .i64 e)) (w.heap.size + 1) #[.int .u64 0, .slice none 0 0, .slice none 0 0] 35 from NK.out.fr F2.out (by omega))
      have ZC := Lib.hid (show Cr (put2 Z (z + 1) (.int .i64 y) (.int .i64 e)) p w0.heap.size ys a' from NC.out.fr F2.out (by omega) (fun i h => by have := HG0.out.size; omega))
      have HNF := Lib.hid (show (tlV v e).nf = v0 by unfold tlV; rw [if_neg e6]; rfl)
      have HPL := Lib.hid (show tlI a' y e = a + R.n by unfold tlI; rw [if_neg e6, ← hy]; exact HAP.out)
      have HEE := Lib.hid (show e = 6 from he.symm)
      replace HYE := Lib.hid (show e = 0 → y = 0 from fun h => absurd h e6)
      clear HV0 NV NF NK NC GZ HX HCY KY NF2 hy he e6 HZL' HPP
      generalize put2 Z (z + 1) (.int .i64 y) (.int .i64 e) = Z2 at *
      have GS := Lib.hid (show (fun w' => Whole w' z v.cells 35 ∧ Whole w' (z + 1) #[.int .i64 y, .int .i64 e] 62) (World.drew Z2) from ⟨ZV.out, ZF.out⟩)
      have CD := Lib.hid (show Cr (World.drew Z2) p w0.heap.size ys a' from ZC.out)
      have KD := Lib.hid (show Whole (World.drew Z2) (w.heap.size + 1) #[.int .u64 0, .slice none 0 0, .slice none 0 0] 35 from ZK.out)
      refine act_letterC (fun A1 hA1 => ?_)
      have d8 : A1.eval (.tmp 8) = .pointer (some ⟨w.heap.size + 1, 0, none⟩) := by rw [← hA1]; rfl
      have d11 : A1.eval (.tmp 11) = .pointer (some ⟨p, 0, none⟩) := by rw [← hA1]; rfl
      have d12 : A1.eval (.tmp 12) = .pointer (some ⟨z, 0, none⟩) := by rw [← hA1]; rfl
      have d13 : A1.eval (.tmp 13) = .pointer (some ⟨z + 1, 0, none⟩) := by rw [← hA1]; rfl
      have szA1 : A1.tmps.size = 43 := by rw [← hA1]; rfl
      have HA1 := Lib.hid hA1
      clear hA1
      refine wp_region_held (S := fun w' => Whole w' z v.cells 35 ∧ Whole w' (z + 1) #[.int .i64 y, .int .i64 e] 62) (by kernel_rfl) ?_
      change wpAnyH _ _ _ _ _ _ _ _ (World.drew Z2)
      refine wpAnyH_take (i := 0) (v := v.val) rfl (by kernel_rfl) (by kernel_rfl) (by kernel_rfl) (fun _ _ _ h => h) (.inl ⟨rfl, fun w g => run_loadV rfl d12 g.1⟩) GS.out ?_
      refine act_letter (fun A2 hA2 => ?_)
      replace d8 : A2.eval (.tmp 8) = .pointer (some ⟨w.heap.size + 1, 0, none⟩) := by rw [← hA2]; exact (ev_ne A1 (m := 35) (n := 8) (v.val) (by decide)).trans d8
      replace d11 : A2.eval (.tmp 11) = .pointer (some ⟨p, 0, none⟩) := by rw [← hA2]; exact (ev_ne A1 (m := 35) (n := 11) (v.val) (by decide)).trans d11
      replace d12 : A2.eval (.tmp 12) = .pointer (some ⟨z, 0, none⟩) := by rw [← hA2]; exact (ev_ne A1 (m := 35) (n := 12) (v.val) (by decide)).trans d12
      replace d13 : A2.eval (.tmp 13) = .pointer (some ⟨z + 1, 0, none⟩) := by rw [← hA2]; exact (ev_ne A1 (m := 35) (n := 13) (v.val) (by decide)).trans d13
      have e35 : A2.eval (.tmp 35) = v.val := by rw [← hA2]; exact ev_self A1 35 (v.val) (by omega)
      have szA2 : A2.tmps.size = 43 := by rw [← hA2]; exact (sz_put A1 35 (v.val)).trans szA1
      have HA2 := Lib.hid (show A1.put (some 35) (v.val) = A2 from hA2)
      clear hA2 szA1
      have d35 := e35
      clear e35
      refine wpAnyH_take (i := 1) (v := .pointer (some ⟨p, 0, none⟩)) rfl (by kernel_rfl) (by kernel_rfl) (by kernel_rfl) (fun _ _ _ h => h) (.inl ⟨rfl, fun w g => run_moveV rfl d11 w⟩) GS.out ?_
      refine act_letter (fun A3 hA3 => ?_)
      replace d8 : A3.eval (.tmp 8) = .pointer (some ⟨w.heap.size + 1, 0, none⟩) := by rw [← hA3]; exact (ev_ne A2 (m := 36) (n := 8) (.pointer (some ⟨p, 0, none⟩)) (by decide)).trans d8
      replace d11 : A3.eval (.tmp 11) = .pointer (some ⟨p, 0, none⟩) := by rw [← hA3]; exact (ev_ne A2 (m := 36) (n := 11) (.pointer (some ⟨p, 0, none⟩)) (by decide)).trans d11
      replace d12 : A3.eval (.tmp 12) = .pointer (some ⟨z, 0, none⟩) := by rw [← hA3]; exact (ev_ne A2 (m := 36) (n := 12) (.pointer (some ⟨p, 0, none⟩)) (by decide)).trans d12
      replace d13 : A3.eval (.tmp 13) = .pointer (some ⟨z + 1, 0, none⟩) := by rw [← hA3]; exact (ev_ne A2 (m := 36) (n := 13) (.pointer (some ⟨p, 0, none⟩)) (by decide)).trans d13
      replace d35 : A3.eval (.tmp 35) = v.val := by rw [← hA3]; exact (ev_ne A2 (m := 36) (n := 35) (.pointer (some ⟨p, 0, none⟩)) (by decide)).trans d35
      have e36 : A3.eval (.tmp 36) = .pointer (some ⟨p, 0, none⟩) := by rw [← hA3]; exact ev_self A2 36 (.pointer (some ⟨p, 0, none⟩)) (by omega)
      have szA3 : A3.tmps.size = 43 := by rw [← hA3]; exact (sz_put A2 36 (.pointer (some ⟨p, 0, none⟩))).trans szA2
      have HA3 := Lib.hid (show A2.put (some 36) (.pointer (some ⟨p, 0, none⟩)) = A3 from hA3)
      clear hA3 szA2
      have d36 := e36
      clear e36
      refine wpAnyH_take (i := 3) (v := fault y e) rfl (by kernel_rfl) (by kernel_rfl) (by kernel_rfl) (fun _ _ _ h => h) (.inl ⟨rfl, fun w g => run_loadFa rfl d13 g.2⟩) GS.out ?_
      refine act_letter (fun A4 hA4 => ?_)
      replace d8 : A4.eval (.tmp 8) = .pointer (some ⟨w.heap.size + 1, 0, none⟩) := by rw [← hA4]; exact (ev_ne A3 (m := 38) (n := 8) (fault y e) (by decide)).trans d8
      replace d35 : A4.eval (.tmp 35) = v.val := by rw [← hA4]; exact (ev_ne A3 (m := 38) (n := 35) (fault y e) (by decide)).trans d35
      replace d36 : A4.eval (.tmp 36) = .pointer (some ⟨p, 0, none⟩) := by rw [← hA4]; exact (ev_ne A3 (m := 38) (n := 36) (fault y e) (by decide)).trans d36
      have e38 : A4.eval (.tmp 38) = fault y e := by rw [← hA4]; exact ev_self A3 38 (fault y e) (by omega)
      have szA4 : A4.tmps.size = 43 := by rw [← hA4]; exact (sz_put A3 38 (fault y e)).trans szA3
      have HA4 := Lib.hid (show A3.put (some 38) (fault y e) = A4 from hA4)
      clear hA4 szA3 d11 d12 d13
      have d38 := e38
      clear e38
      refine wpAnyH_ready (rs := [2]) (by kernel_rfl) (by simp) ?_
      refine AllReadyH.cons rfl (fun K hK => ?_) AllReadyH.nil
      refine wp_callG rfl (rfl) enter_at (vs := #[.pointer (some ⟨p, 0, none⟩)]) (by simp [d36]) ((cr_atG _ p _ ys a' CD.out).mono ?_)
      rintro e x1 ⟨rfl, g1⟩
      refine ⟨_, rfl, hK.out _ _ (⟨GS.out.1.grew g1 (by simp), GS.out.2.grew g1 (by simp)⟩) (fun _ => ?_)⟩
      clear hK K
      have S1 := Lib.hid (show (fun w' => Whole w' z v.cells 35 ∧ Whole w' (z + 1) #[.int .i64 y, .int .i64 e] 62) x1 from ⟨GS.out.1.grew g1 (by simp), GS.out.2.grew g1 (by simp)⟩)
      have KA := Lib.hid (KD.out.grew g1 (by simp))
      have GA := Lib.hid (show Grew Z2 x1 none from grew_trans (grew_drew (grew_refl _ none)) g1)
      clear g1 CD KD
      clear GS
      refine act_letter (fun A5 hA5 => ?_)
      replace d8 : A5.eval (.tmp 8) = .pointer (some ⟨w.heap.size + 1, 0, none⟩) := by rw [← hA5]; exact (ev_ne A4 (m := 37) (n := 8) (.int .i64 a') (by decide)).trans d8
      replace d35 : A5.eval (.tmp 35) = v.val := by rw [← hA5]; exact (ev_ne A4 (m := 37) (n := 35) (.int .i64 a') (by decide)).trans d35
      replace d38 : A5.eval (.tmp 38) = fault y e := by rw [← hA5]; exact (ev_ne A4 (m := 37) (n := 38) (.int .i64 a') (by decide)).trans d38
      have e37 : A5.eval (.tmp 37) = .int .i64 a' := by rw [← hA5]; exact ev_self A4 37 (.int .i64 a') (by omega)
      have szA5 : A5.tmps.size = 43 := by rw [← hA5]; exact (sz_put A4 37 (.int .i64 a')).trans szA4
      have HA5 := Lib.hid (show A4.put (some 37) (.int .i64 a') = A5 from hA5)
      clear hA5 szA4 d36
      have d37 := e37
      clear e37
      refine wpAnyH_ready (rs := [4]) (by kernel_rfl) (by simp) ?_
      refine AllReadyH.cons rfl (fun K hK => ?_) AllReadyH.nil
      refine wp_callG rfl (rfl) enter_told (vs := #[v.val, .int .i64 a', fault y e]) (by simp [d35, d37, d38]) ((told_any _ v a' y e HYE.out).mono ?_)
      rintro e x2 ⟨rfl, g2⟩
      refine ⟨_, rfl, hK.out _ _ (⟨S1.out.1.grew g2 (by simp), S1.out.2.grew g2 (by simp)⟩) (fun _ => ?_)⟩
      clear hK K
      have S2 := Lib.hid (show (fun w' => Whole w' z v.cells 35 ∧ Whole w' (z + 1) #[.int .i64 y, .int .i64 e] 62) x2 from ⟨S1.out.1.grew g2 (by simp), S1.out.2.grew g2 (by simp)⟩)
      have KB := Lib.hid (KA.out.grew g2 (by simp))
      have GB := Lib.hid (show Grew Z2 x2 none from grew_trans GA.out g2)
      clear g2 KA GA
      clear S1
      refine act_letter (fun A6 hA6 => ?_)
      replace d8 : A6.eval (.tmp 8) = .pointer (some ⟨w.heap.size + 1, 0, none⟩) := by rw [← hA6]; exact (ev_ne A5 (m := 39) (n := 8) (.tuple #[(tlV v e).val, .int .i64 (tlI a' y e), .int .i64 e]) (by decide)).trans d8
      have e39 : A6.eval (.tmp 39) = .tuple #[(tlV v e).val, .int .i64 (tlI a' y e), .int .i64 e] := by rw [← hA6]; exact ev_self A5 39 (.tuple #[(tlV v e).val, .int .i64 (tlI a' y e), .int .i64 e]) (by omega)
      have szA6 : A6.tmps.size = 43 := by rw [← hA6]; exact (sz_put A5 39 (.tuple #[(tlV v e).val, .int .i64 (tlI a' y e), .int .i64 e])).trans szA5
      have HA6 := Lib.hid (show A5.put (some 39) (.tuple #[(tlV v e).val, .int .i64 (tlI a' y e), .int .i64 e]) = A6 from hA6)
      clear hA6 szA5 d35 d38 d37
      have d39 := e39
      clear e39
      refine wpAnyH_take (i := 5) (v := (tlV v e).val) rfl (by kernel_rfl) (by kernel_rfl) (by kernel_rfl) (fun _ _ _ h => h) (.inl ⟨rfl, fun w g => run_ext30 rfl d39 w⟩) S2.out ?_
      refine act_letter (fun A7 hA7 => ?_)
      replace d8 : A7.eval (.tmp 8) = .pointer (some ⟨w.heap.size + 1, 0, none⟩) := by rw [← hA7]; exact (ev_ne A6 (m := 40) (n := 8) ((tlV v e).val) (by decide)).trans d8
      replace d39 : A7.eval (.tmp 39) = .tuple #[(tlV v e).val, .int .i64 (tlI a' y e), .int .i64 e] := by rw [← hA7]; exact (ev_ne A6 (m := 40) (n := 39) ((tlV v e).val) (by decide)).trans d39
      have e40 : A7.eval (.tmp 40) = (tlV v e).val := by rw [← hA7]; exact ev_self A6 40 ((tlV v e).val) (by omega)
      have szA7 : A7.tmps.size = 43 := by rw [← hA7]; exact (sz_put A6 40 ((tlV v e).val)).trans szA6
      have HA7 := Lib.hid (show A6.put (some 40) ((tlV v e).val) = A7 from hA7)
      clear hA7 szA6
      have d40 := e40
      clear e40
      refine wpAnyH_take (i := 6) (v := .int .i64 (tlI a' y e)) rfl (by kernel_rfl) (by kernel_rfl) (by kernel_rfl) (fun _ _ _ h => h) (.inl ⟨rfl, fun w g => run_ext31 rfl d39 w⟩) S2.out ?_
      refine act_letter (fun A8 hA8 => ?_)
      replace d8 : A8.eval (.tmp 8) = .pointer (some ⟨w.heap.size + 1, 0, none⟩) := by rw [← hA8]; exact (ev_ne A7 (m := 41) (n := 8) (.int .i64 (tlI a' y e)) (by decide)).trans d8
      replace d39 : A8.eval (.tmp 39) = .tuple #[(tlV v e).val, .int .i64 (tlI a' y e), .int .i64 e] := by rw [← hA8]; exact (ev_ne A7 (m := 41) (n := 39) (.int .i64 (tlI a' y e)) (by decide)).trans d39
      replace d40 : A8.eval (.tmp 40) = (tlV v e).val := by rw [← hA8]; exact (ev_ne A7 (m := 41) (n := 40) (.int .i64 (tlI a' y e)) (by decide)).trans d40
      have e41 : A8.eval (.tmp 41) = .int .i64 (tlI a' y e) := by rw [← hA8]; exact ev_self A7 41 (.int .i64 (tlI a' y e)) (by omega)
      have szA8 : A8.tmps.size = 43 := by rw [← hA8]; exact (sz_put A7 41 (.int .i64 (tlI a' y e))).trans szA7
      have HA8 := Lib.hid (show A7.put (some 41) (.int .i64 (tlI a' y e)) = A8 from hA8)
      clear hA8 szA7
      have d41 := e41
      clear e41
      refine wpAnyH_take (i := 7) (v := .int .i64 e) rfl (by kernel_rfl) (by kernel_rfl) (by kernel_rfl) (fun _ _ _ h => h) (.inl ⟨rfl, fun w g => run_ext32 rfl d39 w⟩) S2.out ?_
      refine act_letter (fun A9 hA9 => ?_)
      replace d8 : A9.eval (.tmp 8) = .pointer (some ⟨w.heap.size + 1, 0, none⟩) := by rw [← hA9]; exact (ev_ne A8 (m := 42) (n := 8) (.int .i64 e) (by decide)).trans d8
      replace d40 : A9.eval (.tmp 40) = (tlV v e).val := by rw [← hA9]; exact (ev_ne A8 (m := 42) (n := 40) (.int .i64 e) (by decide)).trans d40
      replace d41 : A9.eval (.tmp 41) = .int .i64 (tlI a' y e) := by rw [← hA9]; exact (ev_ne A8 (m := 42) (n := 41) (.int .i64 e) (by decide)).trans d41
      have e42 : A9.eval (.tmp 42) = .int .i64 e := by rw [← hA9]; exact ev_self A8 42 (.int .i64 e) (by omega)
      have szA9 : A9.tmps.size = 43 := by rw [← hA9]; exact (sz_put A8 42 (.int .i64 e)).trans szA8
      have HA9 := Lib.hid (show A8.put (some 42) (.int .i64 e) = A9 from hA9)
      clear hA9 szA8 d39
      have d42 := e42
      clear e42
      refine wpAnyH_ready (rs := [8]) (by kernel_rfl) (by simp) ?_
      refine AllReadyH.cons rfl (fun K hK => ?_) AllReadyH.nil
      refine wp_skipG rfl (w' := put3 x2 (w.heap.size + 1) (.int .u64 (tlV v e).n) (.slice (tlV v e).B (tlV v e).bs.length (tlV v e).d) (.slice (tlV v e).A (tlV v e).ls.length (tlV v e).c)) (run_storeVa rfl d8 d40 KB.out) (hK.out _ _ (⟨S2.out.1.fr (fr_put3 _ _ _ _ _) (by have := HZL.out; omega), S2.out.2.fr (fr_put3 _ _ _ _ _) (by have := HZL.out; omega)⟩) (fun _ => ?_))
      clear hK K
      have S3 := Lib.hid (show (fun w' => Whole w' z v.cells 35 ∧ Whole w' (z + 1) #[.int .i64 y, .int .i64 e] 62) (put3 x2 (w.heap.size + 1) (.int .u64 (tlV v e).n) (.slice (tlV v e).B (tlV v e).bs.length (tlV v e).d) (.slice (tlV v e).A (tlV v e).ls.length (tlV v e).c)) from ⟨S2.out.1.fr (fr_put3 _ _ _ _ _) (by have := HZL.out; omega), S2.out.2.fr (fr_put3 _ _ _ _ _) (by have := HZL.out; omega)⟩)
      clear S2
      refine act_letter (fun A10 hA10 => ?_)
      replace d8 : A10.eval (.tmp 8) = .pointer (some ⟨w.heap.size + 1, 0, none⟩) := by rw [← hA10]; exact d8
      replace d40 : A10.eval (.tmp 40) = (tlV v e).val := by rw [← hA10]; exact d40
      replace d41 : A10.eval (.tmp 41) = .int .i64 (tlI a' y e) := by rw [← hA10]; exact d41
      replace d42 : A10.eval (.tmp 42) = .int .i64 e := by rw [← hA10]; exact d42
      have szA10 : A10.tmps.size = 43 := by rw [← hA10]; exact szA9
      have HA10 := Lib.hid (show A9 = A10 from hA10)
      clear hA10 szA9
      refine wpAnyH_take (i := 9) (v := .int .i64 (tlI a' y e)) rfl (by kernel_rfl) (by kernel_rfl) (by kernel_rfl) (fun _ _ _ h => h) (.inl ⟨rfl, fun w g => run_assign rfl d41 w⟩) S3.out ?_
      refine act_letter (fun A11 hA11 => ?_)
      replace d8 : A11.eval (.tmp 8) = .pointer (some ⟨w.heap.size + 1, 0, none⟩) := by rw [← hA11]; exact (ev_ne A10 (m := 9) (n := 8) (.int .i64 (tlI a' y e)) (by decide)).trans d8
      replace d40 : A11.eval (.tmp 40) = (tlV v e).val := by rw [← hA11]; exact (ev_ne A10 (m := 9) (n := 40) (.int .i64 (tlI a' y e)) (by decide)).trans d40
      replace d41 : A11.eval (.tmp 41) = .int .i64 (tlI a' y e) := by rw [← hA11]; exact (ev_ne A10 (m := 9) (n := 41) (.int .i64 (tlI a' y e)) (by decide)).trans d41
      replace d42 : A11.eval (.tmp 42) = .int .i64 e := by rw [← hA11]; exact (ev_ne A10 (m := 9) (n := 42) (.int .i64 (tlI a' y e)) (by decide)).trans d42
      have e9 : A11.eval (.tmp 9) = .int .i64 (tlI a' y e) := by rw [← hA11]; exact ev_self A10 9 (.int .i64 (tlI a' y e)) (by omega)
      have szA11 : A11.tmps.size = 43 := by rw [← hA11]; exact (sz_put A10 9 (.int .i64 (tlI a' y e))).trans szA10
      have HA11 := Lib.hid (show A10.put (some 9) (.int .i64 (tlI a' y e)) = A11 from hA11)
      clear hA11 szA10
      have d9 := e9
      clear e9
      refine wpAnyH_take (i := 10) (v := .int .i64 e) rfl (by kernel_rfl) (by kernel_rfl) (by kernel_rfl) (fun _ _ _ h => h) (.inl ⟨rfl, fun w g => run_assign rfl d42 w⟩) S3.out ?_
      refine act_letter (fun A12 hA12 => ?_)
      replace d8 : A12.eval (.tmp 8) = .pointer (some ⟨w.heap.size + 1, 0, none⟩) := by rw [← hA12]; exact (ev_ne A11 (m := 10) (n := 8) (.int .i64 e) (by decide)).trans d8
      replace d40 : A12.eval (.tmp 40) = (tlV v e).val := by rw [← hA12]; exact (ev_ne A11 (m := 10) (n := 40) (.int .i64 e) (by decide)).trans d40
      replace d41 : A12.eval (.tmp 41) = .int .i64 (tlI a' y e) := by rw [← hA12]; exact (ev_ne A11 (m := 10) (n := 41) (.int .i64 e) (by decide)).trans d41
      replace d42 : A12.eval (.tmp 42) = .int .i64 e := by rw [← hA12]; exact (ev_ne A11 (m := 10) (n := 42) (.int .i64 e) (by decide)).trans d42
      replace d9 : A12.eval (.tmp 9) = .int .i64 (tlI a' y e) := by rw [← hA12]; exact (ev_ne A11 (m := 10) (n := 9) (.int .i64 e) (by decide)).trans d9
      have e10 : A12.eval (.tmp 10) = .int .i64 e := by rw [← hA12]; exact ev_self A11 10 (.int .i64 e) (by omega)
      have szA12 : A12.tmps.size = 43 := by rw [← hA12]; exact (sz_put A11 10 (.int .i64 e)).trans szA11
      have HA12 := Lib.hid (show A11.put (some 10) (.int .i64 e) = A12 from hA12)
      clear hA12 szA11
      have d10 := e10
      clear e10
      refine wpAnyH_done (by kernel_rfl) ?_ _
      rw [← HA12.out, ← HA11.out, ← HA10.out, ← HA9.out, ← HA8.out, ← HA7.out, ← HA6.out, ← HA5.out, ← HA4.out, ← HA3.out, ← HA2.out, ← HA1.out]
      clear HA2 HA3 HA4 HA5 HA6 HA7 HA8 HA9 HA10 HA11 HA12 HA1 d8 d40 d41 d42 d9 d10 szA12
      simp only [Act.put, List.setIfInBounds_toArray, List.set_cons_zero, List.set_cons_succ]
      clear S3
      go_wp2_with fail
      have r1 := KB.out.put3 (.int .u64 (tlV v e).n) (.slice (tlV v e).B (tlV v e).bs.length (tlV v e).d) (.slice (tlV v e).A (tlV v e).ls.length (tlV v e).c)
      have r3 := fr_put3 x2 (w.heap.size + 1) (.int .u64 (tlV v e).n) (.slice (tlV v e).B (tlV v e).bs.length (tlV v e).d) (.slice (tlV v e).A (tlV v e).ls.length (tlV v e).c)
      refine bodyPost_ret (results_cell_tmps rfl _ _ _ _ _ _ _ rfl r1 Try.underlying35 rfl (by kernel_rfl)) rfl ?_
      obtain ⟨hv, hi, hnf, hty, hfr⟩ := HV.out
      have hzl := HZL.out
      rw [HR2.out]
      refine ⟨tlV v e, ?_, ?_, ?_, HNF.out, ?_, ?_⟩
      · rw [← HPL.out, ← HEE.out]; rfl
      · refine In.fr (k := w.heap.size + 2) (In.grew ?_ GB.out) r3 ?_ (fun i h => by omega)
        · unfold tlV; split
          · exact hv
          · exact v0_in _
        · unfold tlV; split
          · exact hi
          · exact v0_hi _
      · unfold tlV; split
        · exact hi.mono (by omega)
        · exact v0_hi _
      · exact (hty.fr (fr_of GB.out (F := fun _ => False)) (fun _ _ h => h)).fr r3 (fun q hq e => by have := HTL.out q hq; omega)
      · exact (hfr.trans (fr_of GB.out (F := fun _ => False)) (fun _ _ h => h.elim)).trans r3 (fun i hi e => by omega)
    · have HR2 := Lib.hid (show RA = R from HRA.out.trans (if_neg (fun h => hlt h.2)))
      have hl0 : ys.length = 0 := by omega
      have HAP := Lib.hid ha'
      clear hys ha' hlen hlt HRA
      subst hE
      obtain ⟨g3, n1, n2, ns⟩ := two_new Y #[.int .u64 v.n, .slice v.B v.bs.length v.d, .slice v.A v.ls.length v.c] 35 #[.int .i64 0, .int .i64 0] 62
      have GZ := Lib.hid g3
      have NV := Lib.hid n1
      have NF := Lib.hid n2
      have NK := Lib.hid (KY.out.grew g3 (by simp))
      have NC := Lib.hid (HCY.out.grew g3 (by simp) (fun _ h => by cases h))
      clear g3 n1 n2 ns
      go_wp2_with fail
      generalize (Y.alloc (.cells #[.int .u64 v.n, .slice v.B v.bs.length v.d, .slice v.A v.ls.length v.c] 35)).alloc (.cells #[.int .i64 0, .int .i64 0] 62) = Z at *
      generalize hz : Y.heap.size = z at *
      have HZL := Lib.hid YS.out
      have HZY := Lib.hid (show Y.heap.size ≤ z + 1 by rw [hz]; omega)
      clear hz
      refine (cr_left Z p w0.heap.size ys a' NC.out).mono ?_
      rintro e1 w1 ⟨rfl, rfl⟩
      rw [show ((ys.length : Nat) : Int) = 0 by omega]
      obtain ⟨d0, d1⟩ := NF.out.two
      go_upto_region 5 with (fail)
      clear d0 d1
      obtain ⟨y, hy⟩ : ∃ y : Int, (0 : Int) = y := ⟨_, rfl⟩
      obtain ⟨e, he⟩ : ∃ e : Int, (0 : Int) = e := ⟨_, rfl⟩
      have HV := Lib.hid (show v.In Z ∧ v.Hi (w.heap.size + 2) ∧ True ∧ Tly Z t m (c + R.c) ∧ Fr w Z (fun i => t = some i) from ⟨HV0.out.1.grew GZ.out, HV0.out.2.1, trivial, HV0.out.2.2.2.1.fr (fr_of GZ.out (F := fun _ => False)) (fun _ _ h => h), HV0.out.2.2.2.2.trans (fr_of GZ.out (F := fun _ => False)) (fun _ _ h => h.elim)⟩)
      have ZV := Lib.hid (show Whole Z z v.cells 35 from NV.out)
      have ZF := Lib.hid (show Whole Z (z + 1) #[.int .i64 y, .int .i64 e] 62 from (by rw [← hy, ← he]; exact NF.out))
      have ZK := Lib.hid (show Whole Z (w.heap.size + 1) #[.int .u64 0, .slice none 0 0, .slice none 0 0] 35 from NK.out)
      have ZC := Lib.hid (show Cr Z p w0.heap.size ys a' from NC.out)
      have HNF := Lib.hid (show (tlV v e).nf = R.v by unfold tlV; rw [if_pos he.symm]; exact HV0.out.2.2.1)
      have HPL := Lib.hid (show tlI a' y e = a + R.n by unfold tlI; rw [if_pos he.symm]; exact HAP.out)
      have HEE := Lib.hid (show e = R.e from he.symm.trans HE.out.symm)
      replace HYE := Lib.hid (show e = 0 → y = 0 from fun _ => hy.symm)
      clear HV0 NV NF NK NC GZ HX HCY KY hy he hl0
      have GS := Lib.hid (show (fun w' => Whole w' z v.cells 35 ∧ Whole w' (z + 1) #[.int .i64 y, .int .i64 e] 62) (World.drew Z) from ⟨ZV.out, ZF.out⟩)
      have CD := Lib.hid (show Cr (World.drew Z) p w0.heap.size ys a' from ZC.out)
      have KD := Lib.hid (show Whole (World.drew Z) (w.heap.size + 1) #[.int .u64 0, .slice none 0 0, .slice none 0 0] 35 from ZK.out)
      refine act_letterC (fun A1 hA1 => ?_)
      have d8 : A1.eval (.tmp 8) = .pointer (some ⟨w.heap.size + 1, 0, none⟩) := by rw [← hA1]; rfl
      have d11 : A1.eval (.tmp 11) = .pointer (some ⟨p, 0, none⟩) := by rw [← hA1]; rfl
      have d12 : A1.eval (.tmp 12) = .pointer (some ⟨z, 0, none⟩) := by rw [← hA1]; rfl
      have d13 : A1.eval (.tmp 13) = .pointer (some ⟨z + 1, 0, none⟩) := by rw [← hA1]; rfl
      have szA1 : A1.tmps.size = 43 := by rw [← hA1]; rfl
      have HA1 := Lib.hid hA1
      clear hA1
      refine wp_region_held (S := fun w' => Whole w' z v.cells 35 ∧ Whole w' (z + 1) #[.int .i64 y, .int .i64 e] 62) (by kernel_rfl) ?_
      change wpAnyH _ _ _ _ _ _ _ _ (World.drew Z)
      refine wpAnyH_take (i := 0) (v := v.val) rfl (by kernel_rfl) (by kernel_rfl) (by kernel_rfl) (fun _ _ _ h => h) (.inl ⟨rfl, fun w g => run_loadV rfl d12 g.1⟩) GS.out ?_
      refine act_letter (fun A2 hA2 => ?_)
      replace d8 : A2.eval (.tmp 8) = .pointer (some ⟨w.heap.size + 1, 0, none⟩) := by rw [← hA2]; exact (ev_ne A1 (m := 35) (n := 8) (v.val) (by decide)).trans d8
      replace d11 : A2.eval (.tmp 11) = .pointer (some ⟨p, 0, none⟩) := by rw [← hA2]; exact (ev_ne A1 (m := 35) (n := 11) (v.val) (by decide)).trans d11
      replace d12 : A2.eval (.tmp 12) = .pointer (some ⟨z, 0, none⟩) := by rw [← hA2]; exact (ev_ne A1 (m := 35) (n := 12) (v.val) (by decide)).trans d12
      replace d13 : A2.eval (.tmp 13) = .pointer (some ⟨z + 1, 0, none⟩) := by rw [← hA2]; exact (ev_ne A1 (m := 35) (n := 13) (v.val) (by decide)).trans d13
      have e35 : A2.eval (.tmp 35) = v.val := by rw [← hA2]; exact ev_self A1 35 (v.val) (by omega)
      have szA2 : A2.tmps.size = 43 := by rw [← hA2]; exact (sz_put A1 35 (v.val)).trans szA1
      have HA2 := Lib.hid (show A1.put (some 35) (v.val) = A2 from hA2)
      clear hA2 szA1
      have d35 := e35
      clear e35
      refine wpAnyH_take (i := 1) (v := .pointer (some ⟨p, 0, none⟩)) rfl (by kernel_rfl) (by kernel_rfl) (by kernel_rfl) (fun _ _ _ h => h) (.inl ⟨rfl, fun w g => run_moveV rfl d11 w⟩) GS.out ?_
      refine act_letter (fun A3 hA3 => ?_)
      replace d8 : A3.eval (.tmp 8) = .pointer (some ⟨w.heap.size + 1, 0, none⟩) := by rw [← hA3]; exact (ev_ne A2 (m := 36) (n := 8) (.pointer (some ⟨p, 0, none⟩)) (by decide)).trans d8
      replace d11 : A3.eval (.tmp 11) = .pointer (some ⟨p, 0, none⟩) := by rw [← hA3]; exact (ev_ne A2 (m := 36) (n := 11) (.pointer (some ⟨p, 0, none⟩)) (by decide)).trans d11
      replace d12 : A3.eval (.tmp 12) = .pointer (some ⟨z, 0, none⟩) := by rw [← hA3]; exact (ev_ne A2 (m := 36) (n := 12) (.pointer (some ⟨p, 0, none⟩)) (by decide)).trans d12
      replace d13 : A3.eval (.tmp 13) = .pointer (some ⟨z + 1, 0, none⟩) := by rw [← hA3]; exact (ev_ne A2 (m := 36) (n := 13) (.pointer (some ⟨p, 0, none⟩)) (by decide)).trans d13
      replace d35 : A3.eval (.tmp 35) = v.val := by rw [← hA3]; exact (ev_ne A2 (m := 36) (n := 35) (.pointer (some ⟨p, 0, none⟩)) (by decide)).trans d35
      have e36 : A3.eval (.tmp 36) = .pointer (some ⟨p, 0, none⟩) := by rw [← hA3]; exact ev_self A2 36 (.pointer (some ⟨p, 0, none⟩)) (by omega)
      have szA3 : A3.tmps.size = 43 := by rw [← hA3]; exact (sz_put A2 36 (.pointer (some ⟨p, 0, none⟩))).trans szA2
      have HA3 := Lib.hid (show A2.put (some 36) (.pointer (some ⟨p, 0, none⟩)) = A3 from hA3)
      clear hA3 szA2
      have d36 := e36
      clear e36
      refine wpAnyH_take (i := 3) (v := fault y e) rfl (by kernel_rfl) (by kernel_rfl) (by kernel_rfl) (fun _ _ _ h => h) (.inl ⟨rfl, fun w g => run_loadFa rfl d13 g.2⟩) GS.out ?_
      refine act_letter (fun A4 hA4 => ?_)
      replace d8 : A4.eval (.tmp 8) = .pointer (some ⟨w.heap.size + 1, 0, none⟩) := by rw [← hA4]; exact (ev_ne A3 (m := 38) (n := 8) (fault y e) (by decide)).trans d8
      replace d35 : A4.eval (.tmp 35) = v.val := by rw [← hA4]; exact (ev_ne A3 (m := 38) (n := 35) (fault y e) (by decide)).trans d35
      replace d36 : A4.eval (.tmp 36) = .pointer (some ⟨p, 0, none⟩) := by rw [← hA4]; exact (ev_ne A3 (m := 38) (n := 36) (fault y e) (by decide)).trans d36
      have e38 : A4.eval (.tmp 38) = fault y e := by rw [← hA4]; exact ev_self A3 38 (fault y e) (by omega)
      have szA4 : A4.tmps.size = 43 := by rw [← hA4]; exact (sz_put A3 38 (fault y e)).trans szA3
      have HA4 := Lib.hid (show A3.put (some 38) (fault y e) = A4 from hA4)
      clear hA4 szA3 d11 d12 d13
      have d38 := e38
      clear e38
      refine wpAnyH_ready (rs := [2]) (by kernel_rfl) (by simp) ?_
      refine AllReadyH.cons rfl (fun K hK => ?_) AllReadyH.nil
      refine wp_callG rfl (rfl) enter_at (vs := #[.pointer (some ⟨p, 0, none⟩)]) (by simp [d36]) ((cr_atG _ p _ ys a' CD.out).mono ?_)
      rintro e x1 ⟨rfl, g1⟩
      refine ⟨_, rfl, hK.out _ _ (⟨GS.out.1.grew g1 (by simp), GS.out.2.grew g1 (by simp)⟩) (fun _ => ?_)⟩
      clear hK K
      have S1 := Lib.hid (show (fun w' => Whole w' z v.cells 35 ∧ Whole w' (z + 1) #[.int .i64 y, .int .i64 e] 62) x1 from ⟨GS.out.1.grew g1 (by simp), GS.out.2.grew g1 (by simp)⟩)
      have KA := Lib.hid (KD.out.grew g1 (by simp))
      have GA := Lib.hid (show Grew Z x1 none from grew_trans (grew_drew (grew_refl _ none)) g1)
      clear g1 CD KD
      clear GS
      refine act_letter (fun A5 hA5 => ?_)
      replace d8 : A5.eval (.tmp 8) = .pointer (some ⟨w.heap.size + 1, 0, none⟩) := by rw [← hA5]; exact (ev_ne A4 (m := 37) (n := 8) (.int .i64 a') (by decide)).trans d8
      replace d35 : A5.eval (.tmp 35) = v.val := by rw [← hA5]; exact (ev_ne A4 (m := 37) (n := 35) (.int .i64 a') (by decide)).trans d35
      replace d38 : A5.eval (.tmp 38) = fault y e := by rw [← hA5]; exact (ev_ne A4 (m := 37) (n := 38) (.int .i64 a') (by decide)).trans d38
      have e37 : A5.eval (.tmp 37) = .int .i64 a' := by rw [← hA5]; exact ev_self A4 37 (.int .i64 a') (by omega)
      have szA5 : A5.tmps.size = 43 := by rw [← hA5]; exact (sz_put A4 37 (.int .i64 a')).trans szA4
      have HA5 := Lib.hid (show A4.put (some 37) (.int .i64 a') = A5 from hA5)
      clear hA5 szA4 d36
      have d37 := e37
      clear e37
      refine wpAnyH_ready (rs := [4]) (by kernel_rfl) (by simp) ?_
      refine AllReadyH.cons rfl (fun K hK => ?_) AllReadyH.nil
      refine wp_callG rfl (rfl) enter_told (vs := #[v.val, .int .i64 a', fault y e]) (by simp [d35, d37, d38]) ((told_any _ v a' y e HYE.out).mono ?_)
      rintro e x2 ⟨rfl, g2⟩
      refine ⟨_, rfl, hK.out _ _ (⟨S1.out.1.grew g2 (by simp), S1.out.2.grew g2 (by simp)⟩) (fun _ => ?_)⟩
      clear hK K
      have S2 := Lib.hid (show (fun w' => Whole w' z v.cells 35 ∧ Whole w' (z + 1) #[.int .i64 y, .int .i64 e] 62) x2 from ⟨S1.out.1.grew g2 (by simp), S1.out.2.grew g2 (by simp)⟩)
      have KB := Lib.hid (KA.out.grew g2 (by simp))
      have GB := Lib.hid (show Grew Z x2 none from grew_trans GA.out g2)
      clear g2 KA GA
      clear S1
      refine act_letter (fun A6 hA6 => ?_)
      replace d8 : A6.eval (.tmp 8) = .pointer (some ⟨w.heap.size + 1, 0, none⟩) := by rw [← hA6]; exact (ev_ne A5 (m := 39) (n := 8) (.tuple #[(tlV v e).val, .int .i64 (tlI a' y e), .int .i64 e]) (by decide)).trans d8
      have e39 : A6.eval (.tmp 39) = .tuple #[(tlV v e).val, .int .i64 (tlI a' y e), .int .i64 e] := by rw [← hA6]; exact ev_self A5 39 (.tuple #[(tlV v e).val, .int .i64 (tlI a' y e), .int .i64 e]) (by omega)
      have szA6 : A6.tmps.size = 43 := by rw [← hA6]; exact (sz_put A5 39 (.tuple #[(tlV v e).val, .int .i64 (tlI a' y e), .int .i64 e])).trans szA5
      have HA6 := Lib.hid (show A5.put (some 39) (.tuple #[(tlV v e).val, .int .i64 (tlI a' y e), .int .i64 e]) = A6 from hA6)
      clear hA6 szA5 d35 d38 d37
      have d39 := e39
      clear e39
      refine wpAnyH_take (i := 5) (v := (tlV v e).val) rfl (by kernel_rfl) (by kernel_rfl) (by kernel_rfl) (fun _ _ _ h => h) (.inl ⟨rfl, fun w g => run_ext30 rfl d39 w⟩) S2.out ?_
      refine act_letter (fun A7 hA7 => ?_)
      replace d8 : A7.eval (.tmp 8) = .pointer (some ⟨w.heap.size + 1, 0, none⟩) := by rw [← hA7]; exact (ev_ne A6 (m := 40) (n := 8) ((tlV v e).val) (by decide)).trans d8
      replace d39 : A7.eval (.tmp 39) = .tuple #[(tlV v e).val, .int .i64 (tlI a' y e), .int .i64 e] := by rw [← hA7]; exact (ev_ne A6 (m := 40) (n := 39) ((tlV v e).val) (by decide)).trans d39
      have e40 : A7.eval (.tmp 40) = (tlV v e).val := by rw [← hA7]; exact ev_self A6 40 ((tlV v e).val) (by omega)
      have szA7 : A7.tmps.size = 43 := by rw [← hA7]; exact (sz_put A6 40 ((tlV v e).val)).trans szA6
      have HA7 := Lib.hid (show A6.put (some 40) ((tlV v e).val) = A7 from hA7)
      clear hA7 szA6
      have d40 := e40
      clear e40
      refine wpAnyH_take (i := 6) (v := .int .i64 (tlI a' y e)) rfl (by kernel_rfl) (by kernel_rfl) (by kernel_rfl) (fun _ _ _ h => h) (.inl ⟨rfl, fun w g => run_ext31 rfl d39 w⟩) S2.out ?_
      refine act_letter (fun A8 hA8 => ?_)
      replace d8 : A8.eval (.tmp 8) = .pointer (some ⟨w.heap.size + 1, 0, none⟩) := by rw [← hA8]; exact (ev_ne A7 (m := 41) (n := 8) (.int .i64 (tlI a' y e)) (by decide)).trans d8
      replace d39 : A8.eval (.tmp 39) = .tuple #[(tlV v e).val, .int .i64 (tlI a' y e), .int .i64 e] := by rw [← hA8]; exact (ev_ne A7 (m := 41) (n := 39) (.int .i64 (tlI a' y e)) (by decide)).trans d39
      replace d40 : A8.eval (.tmp 40) = (tlV v e).val := by rw [← hA8]; exact (ev_ne A7 (m := 41) (n := 40) (.int .i64 (tlI a' y e)) (by decide)).trans d40
      have e41 : A8.eval (.tmp 41) = .int .i64 (tlI a' y e) := by rw [← hA8]; exact ev_self A7 41 (.int .i64 (tlI a' y e)) (by omega)
      have szA8 : A8.tmps.size = 43 := by rw [← hA8]; exact (sz_put A7 41 (.int .i64 (tlI a' y e))).trans szA7
      have HA8 := Lib.hid (show A7.put (some 41) (.int .i64 (tlI a' y e)) = A8 from hA8)
      clear hA8 szA7
      have d41 := e41
      clear e41
      refine wpAnyH_take (i := 7) (v := .int .i64 e) rfl (by kernel_rfl) (by kernel_rfl) (by kernel_rfl) (fun _ _ _ h => h) (.inl ⟨rfl, fun w g => run_ext32 rfl d39 w⟩) S2.out ?_
      refine act_letter (fun A9 hA9 => ?_)
      replace d8 : A9.eval (.tmp 8) = .pointer (some ⟨w.heap.size + 1, 0, none⟩) := by rw [← hA9]; exact (ev_ne A8 (m := 42) (n := 8) (.int .i64 e) (by decide)).trans d8
      replace d40 : A9.eval (.tmp 40) = (tlV v e).val := by rw [← hA9]; exact (ev_ne A8 (m := 42) (n := 40) (.int .i64 e) (by decide)).trans d40
      replace d41 : A9.eval (.tmp 41) = .int .i64 (tlI a' y e) := by rw [← hA9]; exact (ev_ne A8 (m := 42) (n := 41) (.int .i64 e) (by decide)).trans d41
      have e42 : A9.eval (.tmp 42) = .int .i64 e := by rw [← hA9]; exact ev_self A8 42 (.int .i64 e) (by omega)
      have szA9 : A9.tmps.size = 43 := by rw [← hA9]; exact (sz_put A8 42 (.int .i64 e)).trans szA8
      have HA9 := Lib.hid (show A8.put (some 42) (.int .i64 e) = A9 from hA9)
      clear hA9 szA8 d39
      have d42 := e42
      clear e42
      refine wpAnyH_ready (rs := [8]) (by kernel_rfl) (by simp) ?_
      refine AllReadyH.cons rfl (fun K hK => ?_) AllReadyH.nil
      refine wp_skipG rfl (w' := put3 x2 (w.heap.size + 1) (.int .u64 (tlV v e).n) (.slice (tlV v e).B (tlV v e).bs.length (tlV v e).d) (.slice (tlV v e).A (tlV v e).ls.length (tlV v e).c)) (run_storeVa rfl d8 d40 KB.out) (hK.out _ _ (⟨S2.out.1.fr (fr_put3 _ _ _ _ _) (by have := HZL.out; omega), S2.out.2.fr (fr_put3 _ _ _ _ _) (by have := HZL.out; omega)⟩) (fun _ => ?_))
      clear hK K
      have S3 := Lib.hid (show (fun w' => Whole w' z v.cells 35 ∧ Whole w' (z + 1) #[.int .i64 y, .int .i64 e] 62) (put3 x2 (w.heap.size + 1) (.int .u64 (tlV v e).n) (.slice (tlV v e).B (tlV v e).bs.length (tlV v e).d) (.slice (tlV v e).A (tlV v e).ls.length (tlV v e).c)) from ⟨S2.out.1.fr (fr_put3 _ _ _ _ _) (by have := HZL.out; omega), S2.out.2.fr (fr_put3 _ _ _ _ _) (by have := HZL.out; omega)⟩)
      clear S2
      refine act_letter (fun A10 hA10 => ?_)
      replace d8 : A10.eval (.tmp 8) = .pointer (some ⟨w.heap.size + 1, 0, none⟩) := by rw [← hA10]; exact d8
      replace d40 : A10.eval (.tmp 40) = (tlV v e).val := by rw [← hA10]; exact d40
      replace d41 : A10.eval (.tmp 41) = .int .i64 (tlI a' y e) := by rw [← hA10]; exact d41
      replace d42 : A10.eval (.tmp 42) = .int .i64 e := by rw [← hA10]; exact d42
      have szA10 : A10.tmps.size = 43 := by rw [← hA10]; exact szA9
      have HA10 := Lib.hid (show A9 = A10 from hA10)
      clear hA10 szA9
      refine wpAnyH_take (i := 9) (v := .int .i64 (tlI a' y e)) rfl (by kernel_rfl) (by kernel_rfl) (by kernel_rfl) (fun _ _ _ h => h) (.inl ⟨rfl, fun w g => run_assign rfl d41 w⟩) S3.out ?_
      refine act_letter (fun A11 hA11 => ?_)
      replace d8 : A11.eval (.tmp 8) = .pointer (some ⟨w.heap.size + 1, 0, none⟩) := by rw [← hA11]; exact (ev_ne A10 (m := 9) (n := 8) (.int .i64 (tlI a' y e)) (by decide)).trans d8
      replace d40 : A11.eval (.tmp 40) = (tlV v e).val := by rw [← hA11]; exact (ev_ne A10 (m := 9) (n := 40) (.int .i64 (tlI a' y e)) (by decide)).trans d40
      replace d41 : A11.eval (.tmp 41) = .int .i64 (tlI a' y e) := by rw [← hA11]; exact (ev_ne A10 (m := 9) (n := 41) (.int .i64 (tlI a' y e)) (by decide)).trans d41
      replace d42 : A11.eval (.tmp 42) = .int .i64 e := by rw [← hA11]; exact (ev_ne A10 (m := 9) (n := 42) (.int .i64 (tlI a' y e)) (by decide)).trans d42
      have e9 : A11.eval (.tmp 9) = .int .i64 (tlI a' y e) := by rw [← hA11]; exact ev_self A10 9 (.int .i64 (tlI a' y e)) (by omega)
      have szA11 : A11.tmps.size = 43 := by rw [← hA11]; exact (sz_put A10 9 (.int .i64 (tlI a' y e))).trans szA10
      have HA11 := Lib.hid (show A10.put (some 9) (.int .i64 (tlI a' y e)) = A11 from hA11)
      clear hA11 szA10
      have d9 := e9
      clear e9
      refine wpAnyH_take (i := 10) (v := .int .i64 e) rfl (by kernel_rfl) (by kernel_rfl) (by kernel_rfl) (fun _ _ _ h => h) (.inl ⟨rfl, fun w g => run_assign rfl d42 w⟩) S3.out ?_
      refine act_letter (fun A12 hA12 => ?_)
      replace d8 : A12.eval (.tmp 8) = .pointer (some ⟨w.heap.size + 1, 0, none⟩) := by rw [← hA12]; exact (ev_ne A11 (m := 10) (n := 8) (.int .i64 e) (by decide)).trans d8
      replace d40 : A12.eval (.tmp 40) = (tlV v e).val := by rw [← hA12]; exact (ev_ne A11 (m := 10) (n := 40) (.int .i64 e) (by decide)).trans d40
      replace d41 : A12.eval (.tmp 41) = .int .i64 (tlI a' y e) := by rw [← hA12]; exact (ev_ne A11 (m := 10) (n := 41) (.int .i64 e) (by decide)).trans d41
      replace d42 : A12.eval (.tmp 42) = .int .i64 e := by rw [← hA12]; exact (ev_ne A11 (m := 10) (n := 42) (.int .i64 e) (by decide)).trans d42
      replace d9 : A12.eval (.tmp 9) = .int .i64 (tlI a' y e) := by rw [← hA12]; exact (ev_ne A11 (m := 10) (n := 9) (.int .i64 e) (by decide)).trans d9
      have e10 : A12.eval (.tmp 10) = .int .i64 e := by rw [← hA12]; exact ev_self A11 10 (.int .i64 e) (by omega)
      have szA12 : A12.tmps.size = 43 := by rw [← hA12]; exact (sz_put A11 10 (.int .i64 e)).trans szA11
      have HA12 := Lib.hid (show A11.put (some 10) (.int .i64 e) = A12 from hA12)
      clear hA12 szA11
      have d10 := e10
      clear e10
      refine wpAnyH_done (by kernel_rfl) ?_ _
      rw [← HA12.out, ← HA11.out, ← HA10.out, ← HA9.out, ← HA8.out, ← HA7.out, ← HA6.out, ← HA5.out, ← HA4.out, ← HA3.out, ← HA2.out, ← HA1.out]
      clear HA2 HA3 HA4 HA5 HA6 HA7 HA8 HA9 HA10 HA11 HA12 HA1 d8 d40 d41 d42 d9 d10 szA12
      simp only [Act.put, List.setIfInBounds_toArray, List.set_cons_zero, List.set_cons_succ]
      clear S3
      go_wp2_with fail
      have r1 := KB.out.put3 (.int .u64 (tlV v e).n) (.slice (tlV v e).B (tlV v e).bs.length (tlV v e).d) (.slice (tlV v e).A (tlV v e).ls.length (tlV v e).c)
      have r3 := fr_put3 x2 (w.heap.size + 1) (.int .u64 (tlV v e).n) (.slice (tlV v e).B (tlV v e).bs.length (tlV v e).d) (.slice (tlV v e).A (tlV v e).ls.length (tlV v e).c)
      refine bodyPost_ret (results_cell_tmps rfl _ _ _ _ _ _ _ rfl r1 Try.underlying35 rfl (by kernel_rfl)) rfl ?_
      obtain ⟨hv, hi, hnf, hty, hfr⟩ := HV.out
      have hzl := HZL.out
      rw [HR2.out]
      refine ⟨tlV v e, ?_, ?_, ?_, HNF.out, ?_, ?_⟩
      · rw [← HPL.out, ← HEE.out]; rfl
      · refine In.fr (k := w.heap.size + 2) (In.grew ?_ GB.out) r3 ?_ (fun i h => by omega)
        · unfold tlV; split
          · exact hv
          · exact v0_in _
        · unfold tlV; split
          · exact hi
          · exact v0_hi _
      · unfold tlV; split
        · exact hi.mono (by omega)
        · exact v0_hi _
      · exact (hty.fr (fr_of GB.out (F := fun _ => False)) (fun _ _ h => h)).fr r3 (fun q hq e => by have := HTL.out q hq; omega)
      · exact (hfr.trans (fr_of GB.out (F := fun _ => False)) (fun _ _ h => h.elim)).trans r3 (fun i hi e => by omega)
  · have HR2 := Lib.hid (show RA = R from HRA.out.trans (if_neg (fun h => hE h.1)))
    have hb : (e == 0) = false := by simpa using hE
    obtain ⟨g3, n1, n2, ns⟩ := two_new Y #[.int .u64 v.n, .slice v.B v.bs.length v.d, .slice v.A v.ls.length v.c] 35 #[.int .i64 y, .int .i64 e] 62
    have GZ := Lib.hid g3
    have NV := Lib.hid n1
    have NF := Lib.hid n2
    have NK := Lib.hid (KY.out.grew g3 (by simp))
    have NC := Lib.hid (HCY.out.grew g3 (by simp) (fun _ h => by cases h))
    clear g3 n1 n2 ns
    go_upto_region 5 with (fail)
    generalize (Y.alloc (.cells #[.int .u64 v.n, .slice v.B v.bs.length v.d, .slice v.A v.ls.length v.c] 35)).alloc (.cells #[.int .i64 y, .int .i64 e] 62) = Z at *
    generalize hz : Y.heap.size = z at *
    have HZL := Lib.hid YS.out
    have HZY := Lib.hid (show Y.heap.size ≤ z + 1 by rw [hz]; omega)
    clear hz
    have HV := Lib.hid (show v.In Z ∧ v.Hi (w.heap.size + 2) ∧ True ∧ Tly Z t m (c + R.c) ∧ Fr w Z (fun i => t = some i) from ⟨HV0.out.1.grew GZ.out, HV0.out.2.1, trivial, HV0.out.2.2.2.1.fr (fr_of GZ.out (F := fun _ => False)) (fun _ _ h => h), HV0.out.2.2.2.2.trans (fr_of GZ.out (F := fun _ => False)) (fun _ _ h => h.elim)⟩)
    have ZV := Lib.hid (show Whole Z z v.cells 35 from NV.out)
    have ZF := Lib.hid (show Whole Z (z + 1) #[.int .i64 y, .int .i64 e] 62 from NF.out)
    have ZK := Lib.hid (show Whole Z (w.heap.size + 1) #[.int .u64 0, .slice none 0 0, .slice none 0 0] 35 from NK.out)
    have ZC := Lib.hid (show Cr Z p w0.heap.size ys a' from NC.out)
    have HNF := Lib.hid (show (tlV v e).nf = R.v by unfold tlV; rw [if_neg hE, HNO.out hE]; rfl)
    have HPL := Lib.hid (show tlI a' y e = a + R.n by unfold tlI; rw [if_neg hE]; exact HYN.out hE)
    have HEE := Lib.hid (show e = R.e from HE.out.symm)
    clear HV0 NV NF NK NC GZ HX HCY KY hE hb
    have GS := Lib.hid (show (fun w' => Whole w' z v.cells 35 ∧ Whole w' (z + 1) #[.int .i64 y, .int .i64 e] 62) (World.drew Z) from ⟨ZV.out, ZF.out⟩)
    have CD := Lib.hid (show Cr (World.drew Z) p w0.heap.size ys a' from ZC.out)
    have KD := Lib.hid (show Whole (World.drew Z) (w.heap.size + 1) #[.int .u64 0, .slice none 0 0, .slice none 0 0] 35 from ZK.out)
    refine act_letterC (fun A1 hA1 => ?_)
    have d8 : A1.eval (.tmp 8) = .pointer (some ⟨w.heap.size + 1, 0, none⟩) := by rw [← hA1]; rfl
    have d11 : A1.eval (.tmp 11) = .pointer (some ⟨p, 0, none⟩) := by rw [← hA1]; rfl
    have d12 : A1.eval (.tmp 12) = .pointer (some ⟨z, 0, none⟩) := by rw [← hA1]; rfl
    have d13 : A1.eval (.tmp 13) = .pointer (some ⟨z + 1, 0, none⟩) := by rw [← hA1]; rfl
    have szA1 : A1.tmps.size = 43 := by rw [← hA1]; rfl
    have HA1 := Lib.hid hA1
    clear hA1
    refine wp_region_held (S := fun w' => Whole w' z v.cells 35 ∧ Whole w' (z + 1) #[.int .i64 y, .int .i64 e] 62) (by kernel_rfl) ?_
    change wpAnyH _ _ _ _ _ _ _ _ (World.drew Z)
    refine wpAnyH_take (i := 0) (v := v.val) rfl (by kernel_rfl) (by kernel_rfl) (by kernel_rfl) (fun _ _ _ h => h) (.inl ⟨rfl, fun w g => run_loadV rfl d12 g.1⟩) GS.out ?_
    refine act_letter (fun A2 hA2 => ?_)
    replace d8 : A2.eval (.tmp 8) = .pointer (some ⟨w.heap.size + 1, 0, none⟩) := by rw [← hA2]; exact (ev_ne A1 (m := 35) (n := 8) (v.val) (by decide)).trans d8
    replace d11 : A2.eval (.tmp 11) = .pointer (some ⟨p, 0, none⟩) := by rw [← hA2]; exact (ev_ne A1 (m := 35) (n := 11) (v.val) (by decide)).trans d11
    replace d12 : A2.eval (.tmp 12) = .pointer (some ⟨z, 0, none⟩) := by rw [← hA2]; exact (ev_ne A1 (m := 35) (n := 12) (v.val) (by decide)).trans d12
    replace d13 : A2.eval (.tmp 13) = .pointer (some ⟨z + 1, 0, none⟩) := by rw [← hA2]; exact (ev_ne A1 (m := 35) (n := 13) (v.val) (by decide)).trans d13
    have e35 : A2.eval (.tmp 35) = v.val := by rw [← hA2]; exact ev_self A1 35 (v.val) (by omega)
    have szA2 : A2.tmps.size = 43 := by rw [← hA2]; exact (sz_put A1 35 (v.val)).trans szA1
    have HA2 := Lib.hid (show A1.put (some 35) (v.val) = A2 from hA2)
    clear hA2 szA1
    have d35 := e35
    clear e35
    refine wpAnyH_take (i := 1) (v := .pointer (some ⟨p, 0, none⟩)) rfl (by kernel_rfl) (by kernel_rfl) (by kernel_rfl) (fun _ _ _ h => h) (.inl ⟨rfl, fun w g => run_moveV rfl d11 w⟩) GS.out ?_
    refine act_letter (fun A3 hA3 => ?_)
    replace d8 : A3.eval (.tmp 8) = .pointer (some ⟨w.heap.size + 1, 0, none⟩) := by rw [← hA3]; exact (ev_ne A2 (m := 36) (n := 8) (.pointer (some ⟨p, 0, none⟩)) (by decide)).trans d8
    replace d11 : A3.eval (.tmp 11) = .pointer (some ⟨p, 0, none⟩) := by rw [← hA3]; exact (ev_ne A2 (m := 36) (n := 11) (.pointer (some ⟨p, 0, none⟩)) (by decide)).trans d11
    replace d12 : A3.eval (.tmp 12) = .pointer (some ⟨z, 0, none⟩) := by rw [← hA3]; exact (ev_ne A2 (m := 36) (n := 12) (.pointer (some ⟨p, 0, none⟩)) (by decide)).trans d12
    replace d13 : A3.eval (.tmp 13) = .pointer (some ⟨z + 1, 0, none⟩) := by rw [← hA3]; exact (ev_ne A2 (m := 36) (n := 13) (.pointer (some ⟨p, 0, none⟩)) (by decide)).trans d13
    replace d35 : A3.eval (.tmp 35) = v.val := by rw [← hA3]; exact (ev_ne A2 (m := 36) (n := 35) (.pointer (some ⟨p, 0, none⟩)) (by decide)).trans d35
    have e36 : A3.eval (.tmp 36) = .pointer (some ⟨p, 0, none⟩) := by rw [← hA3]; exact ev_self A2 36 (.pointer (some ⟨p, 0, none⟩)) (by omega)
    have szA3 : A3.tmps.size = 43 := by rw [← hA3]; exact (sz_put A2 36 (.pointer (some ⟨p, 0, none⟩))).trans szA2
    have HA3 := Lib.hid (show A2.put (some 36) (.pointer (some ⟨p, 0, none⟩)) = A3 from hA3)
    clear hA3 szA2
    have d36 := e36
    clear e36
    refine wpAnyH_take (i := 3) (v := fault y e) rfl (by kernel_rfl) (by kernel_rfl) (by kernel_rfl) (fun _ _ _ h => h) (.inl ⟨rfl, fun w g => run_loadFa rfl d13 g.2⟩) GS.out ?_
    refine act_letter (fun A4 hA4 => ?_)
    replace d8 : A4.eval (.tmp 8) = .pointer (some ⟨w.heap.size + 1, 0, none⟩) := by rw [← hA4]; exact (ev_ne A3 (m := 38) (n := 8) (fault y e) (by decide)).trans d8
    replace d35 : A4.eval (.tmp 35) = v.val := by rw [← hA4]; exact (ev_ne A3 (m := 38) (n := 35) (fault y e) (by decide)).trans d35
    replace d36 : A4.eval (.tmp 36) = .pointer (some ⟨p, 0, none⟩) := by rw [← hA4]; exact (ev_ne A3 (m := 38) (n := 36) (fault y e) (by decide)).trans d36
    have e38 : A4.eval (.tmp 38) = fault y e := by rw [← hA4]; exact ev_self A3 38 (fault y e) (by omega)
    have szA4 : A4.tmps.size = 43 := by rw [← hA4]; exact (sz_put A3 38 (fault y e)).trans szA3
    have HA4 := Lib.hid (show A3.put (some 38) (fault y e) = A4 from hA4)
    clear hA4 szA3 d11 d12 d13
    have d38 := e38
    clear e38
    refine wpAnyH_ready (rs := [2]) (by kernel_rfl) (by simp) ?_
    refine AllReadyH.cons rfl (fun K hK => ?_) AllReadyH.nil
    refine wp_callG rfl (rfl) enter_at (vs := #[.pointer (some ⟨p, 0, none⟩)]) (by simp [d36]) ((cr_atG _ p _ ys a' CD.out).mono ?_)
    rintro e x1 ⟨rfl, g1⟩
    refine ⟨_, rfl, hK.out _ _ (⟨GS.out.1.grew g1 (by simp), GS.out.2.grew g1 (by simp)⟩) (fun _ => ?_)⟩
    clear hK K
    have S1 := Lib.hid (show (fun w' => Whole w' z v.cells 35 ∧ Whole w' (z + 1) #[.int .i64 y, .int .i64 e] 62) x1 from ⟨GS.out.1.grew g1 (by simp), GS.out.2.grew g1 (by simp)⟩)
    have KA := Lib.hid (KD.out.grew g1 (by simp))
    have GA := Lib.hid (show Grew Z x1 none from grew_trans (grew_drew (grew_refl _ none)) g1)
    clear g1 CD KD
    clear GS
    refine act_letter (fun A5 hA5 => ?_)
    replace d8 : A5.eval (.tmp 8) = .pointer (some ⟨w.heap.size + 1, 0, none⟩) := by rw [← hA5]; exact (ev_ne A4 (m := 37) (n := 8) (.int .i64 a') (by decide)).trans d8
    replace d35 : A5.eval (.tmp 35) = v.val := by rw [← hA5]; exact (ev_ne A4 (m := 37) (n := 35) (.int .i64 a') (by decide)).trans d35
    replace d38 : A5.eval (.tmp 38) = fault y e := by rw [← hA5]; exact (ev_ne A4 (m := 37) (n := 38) (.int .i64 a') (by decide)).trans d38
    have e37 : A5.eval (.tmp 37) = .int .i64 a' := by rw [← hA5]; exact ev_self A4 37 (.int .i64 a') (by omega)
    have szA5 : A5.tmps.size = 43 := by rw [← hA5]; exact (sz_put A4 37 (.int .i64 a')).trans szA4
    have HA5 := Lib.hid (show A4.put (some 37) (.int .i64 a') = A5 from hA5)
    clear hA5 szA4 d36
    have d37 := e37
    clear e37
    refine wpAnyH_ready (rs := [4]) (by kernel_rfl) (by simp) ?_
    refine AllReadyH.cons rfl (fun K hK => ?_) AllReadyH.nil
    refine wp_callG rfl (rfl) enter_told (vs := #[v.val, .int .i64 a', fault y e]) (by simp [d35, d37, d38]) ((told_any _ v a' y e HYE.out).mono ?_)
    rintro e x2 ⟨rfl, g2⟩
    refine ⟨_, rfl, hK.out _ _ (⟨S1.out.1.grew g2 (by simp), S1.out.2.grew g2 (by simp)⟩) (fun _ => ?_)⟩
    clear hK K
    have S2 := Lib.hid (show (fun w' => Whole w' z v.cells 35 ∧ Whole w' (z + 1) #[.int .i64 y, .int .i64 e] 62) x2 from ⟨S1.out.1.grew g2 (by simp), S1.out.2.grew g2 (by simp)⟩)
    have KB := Lib.hid (KA.out.grew g2 (by simp))
    have GB := Lib.hid (show Grew Z x2 none from grew_trans GA.out g2)
    clear g2 KA GA
    clear S1
    refine act_letter (fun A6 hA6 => ?_)
    replace d8 : A6.eval (.tmp 8) = .pointer (some ⟨w.heap.size + 1, 0, none⟩) := by rw [← hA6]; exact (ev_ne A5 (m := 39) (n := 8) (.tuple #[(tlV v e).val, .int .i64 (tlI a' y e), .int .i64 e]) (by decide)).trans d8
    have e39 : A6.eval (.tmp 39) = .tuple #[(tlV v e).val, .int .i64 (tlI a' y e), .int .i64 e] := by rw [← hA6]; exact ev_self A5 39 (.tuple #[(tlV v e).val, .int .i64 (tlI a' y e), .int .i64 e]) (by omega)
    have szA6 : A6.tmps.size = 43 := by rw [← hA6]; exact (sz_put A5 39 (.tuple #[(tlV v e).val, .int .i64 (tlI a' y e), .int .i64 e])).trans szA5
    have HA6 := Lib.hid (show A5.put (some 39) (.tuple #[(tlV v e).val, .int .i64 (tlI a' y e), .int .i64 e]) = A6 from hA6)
    clear hA6 szA5 d35 d38 d37
    have d39 := e39
    clear e39
    refine wpAnyH_take (i := 5) (v := (tlV v e).val) rfl (by kernel_rfl) (by kernel_rfl) (by kernel_rfl) (fun _ _ _ h => h) (.inl ⟨rfl, fun w g => run_ext30 rfl d39 w⟩) S2.out ?_
    refine act_letter (fun A7 hA7 => ?_)
    replace d8 : A7.eval (.tmp 8) = .pointer (some ⟨w.heap.size + 1, 0, none⟩) := by rw [← hA7]; exact (ev_ne A6 (m := 40) (n := 8) ((tlV v e).val) (by decide)).trans d8
    replace d39 : A7.eval (.tmp 39) = .tuple #[(tlV v e).val, .int .i64 (tlI a' y e), .int .i64 e] := by rw [← hA7]; exact (ev_ne A6 (m := 40) (n := 39) ((tlV v e).val) (by decide)).trans d39
    have e40 : A7.eval (.tmp 40) = (tlV v e).val := by rw [← hA7]; exact ev_self A6 40 ((tlV v e).val) (by omega)
    have szA7 : A7.tmps.size = 43 := by rw [← hA7]; exact (sz_put A6 40 ((tlV v e).val)).trans szA6
    have HA7 := Lib.hid (show A6.put (some 40) ((tlV v e).val) = A7 from hA7)
    clear hA7 szA6
    have d40 := e40
    clear e40
    refine wpAnyH_take (i := 6) (v := .int .i64 (tlI a' y e)) rfl (by kernel_rfl) (by kernel_rfl) (by kernel_rfl) (fun _ _ _ h => h) (.inl ⟨rfl, fun w g => run_ext31 rfl d39 w⟩) S2.out ?_
    refine act_letter (fun A8 hA8 => ?_)
    replace d8 : A8.eval (.tmp 8) = .pointer (some ⟨w.heap.size + 1, 0, none⟩) := by rw [← hA8]; exact (ev_ne A7 (m := 41) (n := 8) (.int .i64 (tlI a' y e)) (by decide)).trans d8
    replace d39 : A8.eval (.tmp 39) = .tuple #[(tlV v e).val, .int .i64 (tlI a' y e), .int .i64 e] := by rw [← hA8]; exact (ev_ne A7 (m := 41) (n := 39) (.int .i64 (tlI a' y e)) (by decide)).trans d39
    replace d40 : A8.eval (.tmp 40) = (tlV v e).val := by rw [← hA8]; exact (ev_ne A7 (m := 41) (n := 40) (.int .i64 (tlI a' y e)) (by decide)).trans d40
    have e41 : A8.eval (.tmp 41) = .int .i64 (tlI a' y e) := by rw [← hA8]; exact ev_self A7 41 (.int .i64 (tlI a' y e)) (by omega)
    have szA8 : A8.tmps.size = 43 := by rw [← hA8]; exact (sz_put A7 41 (.int .i64 (tlI a' y e))).trans szA7
    have HA8 := Lib.hid (show A7.put (some 41) (.int .i64 (tlI a' y e)) = A8 from hA8)
    clear hA8 szA7
    have d41 := e41
    clear e41
    refine wpAnyH_take (i := 7) (v := .int .i64 e) rfl (by kernel_rfl) (by kernel_rfl) (by kernel_rfl) (fun _ _ _ h => h) (.inl ⟨rfl, fun w g => run_ext32 rfl d39 w⟩) S2.out ?_
    refine act_letter (fun A9 hA9 => ?_)
    replace d8 : A9.eval (.tmp 8) = .pointer (some ⟨w.heap.size + 1, 0, none⟩) := by rw [← hA9]; exact (ev_ne A8 (m := 42) (n := 8) (.int .i64 e) (by decide)).trans d8
    replace d40 : A9.eval (.tmp 40) = (tlV v e).val := by rw [← hA9]; exact (ev_ne A8 (m := 42) (n := 40) (.int .i64 e) (by decide)).trans d40
    replace d41 : A9.eval (.tmp 41) = .int .i64 (tlI a' y e) := by rw [← hA9]; exact (ev_ne A8 (m := 42) (n := 41) (.int .i64 e) (by decide)).trans d41
    have e42 : A9.eval (.tmp 42) = .int .i64 e := by rw [← hA9]; exact ev_self A8 42 (.int .i64 e) (by omega)
    have szA9 : A9.tmps.size = 43 := by rw [← hA9]; exact (sz_put A8 42 (.int .i64 e)).trans szA8
    have HA9 := Lib.hid (show A8.put (some 42) (.int .i64 e) = A9 from hA9)
    clear hA9 szA8 d39
    have d42 := e42
    clear e42
    refine wpAnyH_ready (rs := [8]) (by kernel_rfl) (by simp) ?_
    refine AllReadyH.cons rfl (fun K hK => ?_) AllReadyH.nil
    refine wp_skipG rfl (w' := put3 x2 (w.heap.size + 1) (.int .u64 (tlV v e).n) (.slice (tlV v e).B (tlV v e).bs.length (tlV v e).d) (.slice (tlV v e).A (tlV v e).ls.length (tlV v e).c)) (run_storeVa rfl d8 d40 KB.out) (hK.out _ _ (⟨S2.out.1.fr (fr_put3 _ _ _ _ _) (by have := HZL.out; omega), S2.out.2.fr (fr_put3 _ _ _ _ _) (by have := HZL.out; omega)⟩) (fun _ => ?_))
    clear hK K
    have S3 := Lib.hid (show (fun w' => Whole w' z v.cells 35 ∧ Whole w' (z + 1) #[.int .i64 y, .int .i64 e] 62) (put3 x2 (w.heap.size + 1) (.int .u64 (tlV v e).n) (.slice (tlV v e).B (tlV v e).bs.length (tlV v e).d) (.slice (tlV v e).A (tlV v e).ls.length (tlV v e).c)) from ⟨S2.out.1.fr (fr_put3 _ _ _ _ _) (by have := HZL.out; omega), S2.out.2.fr (fr_put3 _ _ _ _ _) (by have := HZL.out; omega)⟩)
    clear S2
    refine act_letter (fun A10 hA10 => ?_)
    replace d8 : A10.eval (.tmp 8) = .pointer (some ⟨w.heap.size + 1, 0, none⟩) := by rw [← hA10]; exact d8
    replace d40 : A10.eval (.tmp 40) = (tlV v e).val := by rw [← hA10]; exact d40
    replace d41 : A10.eval (.tmp 41) = .int .i64 (tlI a' y e) := by rw [← hA10]; exact d41
    replace d42 : A10.eval (.tmp 42) = .int .i64 e := by rw [← hA10]; exact d42
    have szA10 : A10.tmps.size = 43 := by rw [← hA10]; exact szA9
    have HA10 := Lib.hid (show A9 = A10 from hA10)
    clear hA10 szA9
    refine wpAnyH_take (i := 9) (v := .int .i64 (tlI a' y e)) rfl (by kernel_rfl) (by kernel_rfl) (by kernel_rfl) (fun _ _ _ h => h) (.inl ⟨rfl, fun w g => run_assign rfl d41 w⟩) S3.out ?_
    refine act_letter (fun A11 hA11 => ?_)
    replace d8 : A11.eval (.tmp 8) = .pointer (some ⟨w.heap.size + 1, 0, none⟩) := by rw [← hA11]; exact (ev_ne A10 (m := 9) (n := 8) (.int .i64 (tlI a' y e)) (by decide)).trans d8
    replace d40 : A11.eval (.tmp 40) = (tlV v e).val := by rw [← hA11]; exact (ev_ne A10 (m := 9) (n := 40) (.int .i64 (tlI a' y e)) (by decide)).trans d40
    replace d41 : A11.eval (.tmp 41) = .int .i64 (tlI a' y e) := by rw [← hA11]; exact (ev_ne A10 (m := 9) (n := 41) (.int .i64 (tlI a' y e)) (by decide)).trans d41
    replace d42 : A11.eval (.tmp 42) = .int .i64 e := by rw [← hA11]; exact (ev_ne A10 (m := 9) (n := 42) (.int .i64 (tlI a' y e)) (by decide)).trans d42
    have e9 : A11.eval (.tmp 9) = .int .i64 (tlI a' y e) := by rw [← hA11]; exact ev_self A10 9 (.int .i64 (tlI a' y e)) (by omega)
    have szA11 : A11.tmps.size = 43 := by rw [← hA11]; exact (sz_put A10 9 (.int .i64 (tlI a' y e))).trans szA10
    have HA11 := Lib.hid (show A10.put (some 9) (.int .i64 (tlI a' y e)) = A11 from hA11)
    clear hA11 szA10
    have d9 := e9
    clear e9
    refine wpAnyH_take (i := 10) (v := .int .i64 e) rfl (by kernel_rfl) (by kernel_rfl) (by kernel_rfl) (fun _ _ _ h => h) (.inl ⟨rfl, fun w g => run_assign rfl d42 w⟩) S3.out ?_
    refine act_letter (fun A12 hA12 => ?_)
    replace d8 : A12.eval (.tmp 8) = .pointer (some ⟨w.heap.size + 1, 0, none⟩) := by rw [← hA12]; exact (ev_ne A11 (m := 10) (n := 8) (.int .i64 e) (by decide)).trans d8
    replace d40 : A12.eval (.tmp 40) = (tlV v e).val := by rw [← hA12]; exact (ev_ne A11 (m := 10) (n := 40) (.int .i64 e) (by decide)).trans d40
    replace d41 : A12.eval (.tmp 41) = .int .i64 (tlI a' y e) := by rw [← hA12]; exact (ev_ne A11 (m := 10) (n := 41) (.int .i64 e) (by decide)).trans d41
    replace d42 : A12.eval (.tmp 42) = .int .i64 e := by rw [← hA12]; exact (ev_ne A11 (m := 10) (n := 42) (.int .i64 e) (by decide)).trans d42
    replace d9 : A12.eval (.tmp 9) = .int .i64 (tlI a' y e) := by rw [← hA12]; exact (ev_ne A11 (m := 10) (n := 9) (.int .i64 e) (by decide)).trans d9
    have e10 : A12.eval (.tmp 10) = .int .i64 e := by rw [← hA12]; exact ev_self A11 10 (.int .i64 e) (by omega)
    have szA12 : A12.tmps.size = 43 := by rw [← hA12]; exact (sz_put A11 10 (.int .i64 e)).trans szA11
    have HA12 := Lib.hid (show A11.put (some 10) (.int .i64 e) = A12 from hA12)
    clear hA12 szA11
    have d10 := e10
    clear e10
    refine wpAnyH_done (by kernel_rfl) ?_ _
    rw [← HA12.out, ← HA11.out, ← HA10.out, ← HA9.out, ← HA8.out, ← HA7.out, ← HA6.out, ← HA5.out, ← HA4.out, ← HA3.out, ← HA2.out, ← HA1.out]
    clear HA2 HA3 HA4 HA5 HA6 HA7 HA8 HA9 HA10 HA11 HA12 HA1 d8 d40 d41 d42 d9 d10 szA12
    simp only [Act.put, List.setIfInBounds_toArray, List.set_cons_zero, List.set_cons_succ]
    clear S3
    go_wp2_with fail
    have r1 := KB.out.put3 (.int .u64 (tlV v e).n) (.slice (tlV v e).B (tlV v e).bs.length (tlV v e).d) (.slice (tlV v e).A (tlV v e).ls.length (tlV v e).c)
    have r3 := fr_put3 x2 (w.heap.size + 1) (.int .u64 (tlV v e).n) (.slice (tlV v e).B (tlV v e).bs.length (tlV v e).d) (.slice (tlV v e).A (tlV v e).ls.length (tlV v e).c)
    refine bodyPost_ret (results_cell_tmps rfl _ _ _ _ _ _ _ rfl r1 Try.underlying35 rfl (by kernel_rfl)) rfl ?_
    obtain ⟨hv, hi, hnf, hty, hfr⟩ := HV.out
    have hzl := HZL.out
    rw [HR2.out]
    refine ⟨tlV v e, ?_, ?_, ?_, HNF.out, ?_, ?_⟩
    · rw [← HPL.out, ← HEE.out]; rfl
    · refine In.fr (k := w.heap.size + 2) (In.grew ?_ GB.out) r3 ?_ (fun i h => by omega)
      · unfold tlV; split
        · exact hv
        · exact v0_in _
      · unfold tlV; split
        · exact hi
        · exact v0_hi _
    · unfold tlV; split
      · exact hi.mono (by omega)
      · exact v0_hi _
    · exact (hty.fr (fr_of GB.out (F := fun _ => False)) (fun _ _ h => h)).fr r3 (fun q hq e => by have := HTL.out q hq; omega)
    · exact (hfr.trans (fr_of GB.out (F := fun _ => False)) (fun _ _ h => h.elim)).trans r3 (fun i hi e => by omega)
end Go.Proofs.Ytdamjbngopfpkaa

