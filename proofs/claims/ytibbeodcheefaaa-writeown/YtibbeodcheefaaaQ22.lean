/- Reading: Counted, Prefix, Read. -/
import Derived.Test.YtibbeodcheefaaaQ21
import Derived.Test.YtibbeodcheefaaaQ11
import Derived.Test.YtibbeodcheefaaaQ1
import Derived.Laws.Strings
import Derived.Test.YtibbeodcheefaaaRows
import Derived.ProofKit
import Derived.OpenShut
import Derived.ShutString
import Derived.ChangeOld
import Derived.Below
import Derived.SizedLaws
import Derived.Deep.SlicePairs
import Derived.Deep.Slices
import Derived.Deep.Fields
import Derived.ChangeSame
import Derived.Laws.IdiomArrays
import Derived.Test.YtibbeodcheefaaaQ8
import Derived.Test.YtibbeodcheefaaaQ14
import Derived.Deep.Cut
namespace Go.Proofs.Ytibbeodcheefaaa
open Go.RowKit Va

/-- What first reads. -/
def rdF (f : Fo) (xs : List UInt8) : Rd := if f.chk = 0 then Rd.rd f xs else ⟨f.chk, 0, v0, 0⟩
/-- What is read of all bytes. -/
def rdAll (f : Fo) (xs : List UInt8) : Rd := if (rdF f xs).e = 0 ∧ (rdF f xs).n < xs.length then ⟨6, (rdF f xs).n, v0, (rdF f xs).c⟩ else rdF f xs

set_option maxRecDepth 100000 in
theorem rdF_no {f : Fo} {xs : List UInt8} (hx : xs.length ≤ 1000000000000000) (h : (rdF f xs).e ≠ 0) : (rdF f xs).v = v0 := by
  unfold rdF at h ⊢
  by_cases hc : f.chk = 0
  · rw [if_pos hc] at h ⊢
    obtain ⟨hd, hw⟩ := chk_zero hc
    exact (Rd.bd_good f hw hd xs hx).no h
  · rw [if_neg hc]

set_option maxRecDepth 100000 in
theorem first_any (w0 w : World) (f : Fo) (hf : f.In w0) (p : Nat) (t : Option Nat) (m c : Int) (xs : List UInt8) (a : Int) (hpre : Pre0 w0 w p t m c xs a) (hm : t ≠ none → c + (rdF f xs).c ≤ m) :
    Calls Try.prog 40 #[tptr t, f.val, .pointer (some ⟨p, 0, none⟩)] w (Got w0 w p t m c xs a (rdF f xs)) := by
  unfold rdF at hm ⊢
  by_cases hc : f.chk = 0
  · rw [if_pos hc] at hm ⊢
    exact first_ok w0 w f hf hc p t m c xs a hpre hm
  · rw [if_neg hc]
    refine (first_no w f (hf.grew hpre.g) hc _ p _ xs a hpre.cr).mono ?_
    rintro e w' ⟨rfl, g⟩
    refine ⟨v0, xs, a, ?_, v0_in _, v0_hi _, rfl, hpre.cr.grew g (by simp) (fun _ h => by cases h), fun h => absurd h hc, ?_, fr_of g⟩
    · have : faI a ⟨f.chk, 0, v0, 0⟩ = a := by unfold faI; rw [if_neg hc]; simp
      rw [this]
    · intro q hq
      have := (hpre.ty q hq).grew g (by simp)
      simpa using this

/-- What told tells. -/
def tlV (v : Va) (e : Int) : Va := if e = 0 then v else v0
def tlI (b y e : Int) : Int := if e = 0 then b else y
set_option maxRecDepth 100000 in
theorem told_any (w : World) (v : Va) (b y e : Int) (hy : e = 0 → y = 0) :
    Calls Try.prog 43 #[v.val, .int .i64 b, fault y e] w fun e' w' => e' = .returned (.tuple #[(tlV v e).val, .int .i64 (tlI b y e), .int .i64 e]) ∧ Grew w w' none := by
  unfold tlV tlI
  by_cases he : e = 0
  · rw [if_pos he, if_pos he, hy he, he]
    exact told_ok w v b
  · rw [if_neg he, if_neg he]
    exact told_no w v b y e he
set_option maxRecDepth 100000 in
theorem cr_atG (w : World) (p B : Nat) (ys : List UInt8) (a : Int) (h : Cr w p B ys a) :
    Calls Try.prog 42 #[.pointer (some ⟨p, 0, none⟩)] w fun e w' => e = .returned (.int .i64 a) ∧ Grew w w' none :=
  (cr_at w p B ys a h).mono (fun e w' ⟨h1, h2⟩ => ⟨h1, by subst h2; exact grew_refl _ _⟩)
set_option maxRecDepth 100000 in
theorem enter_at : ∀ args w, (callFunc 42 args).run Try.prog w = .ok (.enter 42 args) w := fun _ _ => by kernel_rfl
set_option maxRecDepth 100000 in
theorem enter_told : ∀ args w, (callFunc 43 args).run Try.prog w = .ok (.enter 43 args) w := fun _ _ => by kernel_rfl

/-- What a call leaves behind. -/
def Done (w : World) (t : Option Nat) (m c : Int) (a : Int) (R : Rd) (e : Ending) (w' : World) : Prop :=
  ∃ v : Va, e = .returned (.tuple #[v.val, .int .i64 (a + R.n), .int .i64 R.e]) ∧ v.In w' ∧ v.Hi w.heap.size ∧ v.nf = R.v ∧ Tly w' t m (c + R.c) ∧ Fr w w' (fun i => t = some i)

set_option maxRecDepth 100000 in
set_option maxHeartbeats 4000000 in
theorem counted_any (w0 w : World) (f : Fo) (hf : f.In w0) (g0 : Grew w0 w none) (A : Option Addr) (cp : Nat) (xs : List UInt8) (hl : xs.length ≤ cp) (hcp : xs.length ≤ 140737488351232) (hb : Byt w0 w0.heap.size A xs) (a : Int) (h0 : 0 ≤ a) (ha : a + xs.length ≤ 4611686018427387904) (t : Option Nat) (m c : Int) (tl : ∀ q, t = some q → w0.heap.size ≤ q) (ty : Tly w t m c) (hm : t ≠ none → c + (rdF f xs).c ≤ m) :
    Calls Try.prog 24 #[tptr t, f.val, .slice A xs.length cp, .int .i64 a] w (Done w t m c a (rdAll f xs)) := by
  obtain ⟨g1, k0, k1, ks⟩ := two_new w #[.int .i64 f.k, .int .i64 f.s, .int .i64 f.l, .int .i64 f.h, .int .i64 f.t, .slice f.A f.ps.length f.c] 24 #[.int .u64 0, .slice none 0 0, .slice none 0 0] 29
  have HN := Lib.hid hf
  have HG0 := Lib.hid g0
  have HNEW := Lib.hid (fun (W : World) (gw : Grew w W none) => cr_new W A cp xs a hl hcp w0.heap.size (hb.grew (grew_trans g0 gw) (fun _ h => by cases h)) (Nat.le_trans g0.size gw.size) h0 ha)
  have HXL := Lib.hid (show xs.length ≤ 1000000000000000 by omega)
  have HTL0 := Lib.hid tl
  have HTL := Lib.hid (show ∀ q, t = some q → q < w.heap.size from fun q hq => (ty q hq).lt)
  have HTY := Lib.hid ty
  have HM := Lib.hid hm
  have G1 := Lib.hid g1
  have K0 := Lib.hid k0
  have K1 := Lib.hid k1
  have KS := Lib.hid ks
  clear hf g0 hl hcp hb h0 ha g1 k0 k1 ks tl ty hm
  rw [val_eq]
  generalize hRA : rdAll f xs = RA at *
  have HRA := Lib.hid (show RA = if (rdF f xs).e = 0 ∧ (rdF f xs).n < xs.length then ⟨6, (rdF f xs).n, v0, (rdF f xs).c⟩ else rdF f xs from hRA.symm)
  clear hRA
  unfold tptr
  generalize hTV : (t.map fun q => (⟨q, 0, none⟩ : Addr)) = tv at *
  have HTV := Lib.hid hTV
  clear hTV
  go_enter Try.func24, Try.ntmps24
  go_wp2_with fail
  generalize (w.alloc (.cells #[.int .i64 f.k, .int .i64 f.s, .int .i64 f.l, .int .i64 f.h, .int .i64 f.t, .slice f.A f.ps.length f.c] 24)).alloc (.cells #[.int .u64 0, .slice none 0 0, .slice none 0 0] 29) = W at *
  refine (HNEW.out W G1.out).mono ?_
  rintro e X ⟨rfl, hC, g⟩
  generalize hp : W.heap.size = p at *
  have HP := Lib.hid (show p = w.heap.size + 2 from KS.out)
  have K0' := Lib.hid (K0.out.grew g (by simp))
  have K1' := Lib.hid (K1.out.grew g (by simp))
  have GX := Lib.hid (grew_trans G1.out g)
  have HCX := Lib.hid hC
  have HTX := Lib.hid (show Tly X t m c from HTY.out.fr (fr_of GX.out (F := fun _ => False)) (fun _ _ h => h))
  have XS := Lib.hid (show w.heap.size + 3 ≤ X.heap.size by have h1 := hC.lt; have h2 := HP.out; omega)
  obtain ⟨b0, b1, b2, b3, b4, b5⟩ := K0'.out.six
  clear hC g hp K0 K1 G1 HNEW KS
  go_wp2_with fail
  rw [show (Value.pointer tv) = tptr t by rw [← HTV.out]; rfl]
  refine (first_any w0 X f HN.out p t m c xs a ⟨grew_trans HG0.out GX.out, HCX.out, HTL0.out, HTX.out⟩ HM.out).mono ?_
  clear b0 b1 b2 b3 b4 b5
  rintro e Y ⟨v, ys, a', rfl, hv, hi, hnf, hC, hx, hT, hF⟩
  have hno := rdF_no (f := f) HXL.out
  generalize rdF f xs = R at *
  have HNO := Lib.hid hno
  have hYF : Fr w Y (fun i => t = some i) := (fr_of GX.out).trans hF (fun i hi e => by
    rcases e with e | e
    · have := HP.out; omega
    · exact e)
  have k1 := K1'.out.fr hF (fun e => by
    rcases e with e | e
    · have := HP.out; omega
    · have := HTL.out _ e; omega)
  have YS := Lib.hid (show w.heap.size + 3 ≤ Y.heap.size from Nat.le_trans XS.out hF.size)
  have HV0 := Lib.hid (show v.In Y ∧ v.Hi (w.heap.size + 2) ∧ v.nf = R.v ∧ Tly Y t m (c + R.c) ∧ Fr w Y (fun i => t = some i) from ⟨hv, hi.mono (by have := XS.out; omega), hnf, hT, hYF⟩)
  have HCY := Lib.hid hC
  have HX := Lib.hid hx
  have KY := Lib.hid k1
  clear hv hi hnf hC hx hT hF hYF k1 hno K0' K1' GX HCX HTX HTY HM
  rw [vval_eq]
  unfold fault
  have hYE : R.e = 0 → faI a R = 0 := fun h => if_pos h
  have hYN : R.e ≠ 0 → faI a R = a + R.n := fun h => if_neg h
  have HYE := Lib.hid hYE
  have HYN := Lib.hid hYN
  clear hYE hYN
  generalize hy : faI a R = y at *
  clear hy
  generalize he : R.e = e at *
  have HE := Lib.hid he
  clear he
  by_cases hE : e = 0
  · obtain ⟨hys, ha'⟩ := HX.out hE
    have hy0 := HYE.out hE
    subst hy0
    have hlen : ys.length = xs.length - R.n := by rw [hys, List.length_drop]
    by_cases hlt : R.n < xs.length
    · have HR2 := Lib.hid (show RA = ⟨6, R.n, v0, R.c⟩ from HRA.out.trans (if_pos ⟨hE, hlt⟩))
      have hl0 : (0 : Int) < (ys.length : Int) := by omega
      have HAP := Lib.hid ha'
      clear hys ha' hlen hlt HRA
      subst hE
      obtain ⟨g3, n1, n2, ns⟩ := two_new Y #[.int .u64 v.n, .slice v.B v.bs.length v.d, .slice v.A v.ls.length v.c] 29 #[.int .i64 0, .int .i64 0] 78
      have GZ := Lib.hid g3
      have NV := Lib.hid n1
      have NF := Lib.hid n2
      have NK := Lib.hid (KY.out.grew g3 (by simp))
      have NC := Lib.hid (HCY.out.grew g3 (by simp) (fun _ h => by cases h))
      clear g3 n1 n2 ns
      go_wp2_with fail
      generalize (Y.alloc (.cells #[.int .u64 v.n, .slice v.B v.bs.length v.d, .slice v.A v.ls.length v.c] 29)).alloc (.cells #[.int .i64 0, .int .i64 0] 78) = Z at *
      generalize hz : Y.heap.size = z at *
      have HZL := Lib.hid YS.out
      have HZY := Lib.hid (show Y.heap.size ≤ z + 1 by rw [hz]; omega)
      clear hz
      refine (cr_left Z p w0.heap.size ys a' NC.out).mono ?_
      rintro e1 w1 ⟨rfl, rfl⟩
      obtain ⟨d0, d1⟩ := NF.out.two
      have f1 := NF.out.frozen
      go_wp2_with fail
      refine (cr_at Z p w0.heap.size ys a' NC.out).mono ?_
      rintro e1 w1 ⟨rfl, rfl⟩
      go_upto_region 5 with (fail)
      clear d0 d1 f1
      obtain ⟨y, hy⟩ : ∃ y : Int, a' = y := ⟨_, rfl⟩
      obtain ⟨e, he⟩ : ∃ e : Int, (6 : Int) = e := ⟨_, rfl⟩
      have NF2 := Lib.hid (show Whole (put2 Z (z + 1) (.int .i64 y) (.int .i64 e)) (z + 1) #[.int .i64 y, .int .i64 e] 78 from NF.out.put2 _ _)
      have F2 := Lib.hid (fr_put2 Z (z + 1) (.int .i64 y) (.int .i64 e))
      have e6 : e ≠ 0 := by omega
      rw [show (6 : Int) = e from he]
      rw [show (Z.setCell ⟨z + 1, 0, none⟩ (.int .i64 a')).setCell ⟨z + 1, 1, none⟩ (.int .i64 e) = put2 Z (z + 1) (.int .i64 y) (.int .i64 e) by rw [hy]; rfl]
      have HZL' := HZL.out
      have HPP := HP.out
      have HV := Lib.hid (show v.In (put2 Z (z + 1) (.int .i64 y) (.int .i64 e)) ∧ v.Hi (w.heap.size + 2) ∧ True ∧ Tly (put2 Z (z + 1) (.int .i64 y) (.int .i64 e)) t m (c + R.c) ∧ Fr w (put2 Z (z + 1) (.int .i64 y) (.int .i64 e)) (fun i => t = some i) from ⟨In.fr2 (HV0.out.1.grew GZ.out) F2.out ((HV0.out.1).offn (fun i h => by subst h; exact HZY.out)), HV0.out.2.1, trivial, (HV0.out.2.2.2.1.fr (fr_of GZ.out (F := fun _ => False)) (fun _ _ h => h)).fr F2.out (fun q hq h => by have := HTL.out q hq; omega), (HV0.out.2.2.2.2.trans (fr_of GZ.out (F := fun _ => False)) (fun _ _ h => h.elim)).trans F2.out (fun i hi h => by omega)⟩)
      have ZV := Lib.hid (show Whole (put2 Z (z + 1) (.int .i64 y) (.int .i64 e)) z v.cells 29 from NV.out.fr F2.out (by omega))
      have ZF := Lib.hid (show Whole (put2 Z (z + 1) (.int .i64 y) (.int .i64 e)) (z + 1) #[.int .i64 y, .int .i64 e] 78 from NF2.out)
      have ZK := Lib.hid (show Whole (put2 Z (z + 1) (.int .i64 y) (.int .i64 e)) (w.heap.size + 1) #[.int .u64 0, .slice none 0 0, .slice none 0 0] 29 from NK.out.fr F2.out (by omega))
      have ZC := Lib.hid (show Cr (put2 Z (z + 1) (.int .i64 y) (.int .i64 e)) p w0.heap.size ys a' from NC.out.fr F2.out (by omega) (fun i h => by have := HG0.out.size; omega))
      have HNF := Lib.hid (show (tlV v e).nf = v0 by unfold tlV; rw [if_neg e6]; rfl)
      have HPL := Lib.hid (show tlI a' y e = a + R.n by unfold tlI; rw [if_neg e6, ← hy]; exact HAP.out)
      have HEE := Lib.hid (show e = 6 from he.symm)
      replace HYE := Lib.hid (show e = 0 → y = 0 from fun h => absurd h e6)
      clear HV0 NV NF NK NC GZ HX HCY KY NF2 hy he e6 HZL' HPP
      generalize put2 Z (z + 1) (.int .i64 y) (.int .i64 e) = Z2 at *
      have GS := Lib.hid (show (fun w' => Whole w' z v.cells 29 ∧ Whole w' (z + 1) #[.int .i64 y, .int .i64 e] 78) (World.drew Z2) from ⟨ZV.out, ZF.out⟩)
      have CD := Lib.hid (show Cr (World.drew Z2) p w0.heap.size ys a' from ZC.out)
      have KD := Lib.hid (show Whole (World.drew Z2) (w.heap.size + 1) #[.int .u64 0, .slice none 0 0, .slice none 0 0] 29 from ZK.out)
      refine act_letterC (fun A1 hA1 => ?_)
      have d8 : A1.eval (.tmp 8) = .pointer (some ⟨w.heap.size + 1, 0, none⟩) := by rw [← hA1]; rfl
      have d11 : A1.eval (.tmp 11) = .pointer (some ⟨p, 0, none⟩) := by rw [← hA1]; rfl
      have d12 : A1.eval (.tmp 12) = .pointer (some ⟨z, 0, none⟩) := by rw [← hA1]; rfl
      have d13 : A1.eval (.tmp 13) = .pointer (some ⟨z + 1, 0, none⟩) := by rw [← hA1]; rfl
      have szA1 : A1.tmps.size = 43 := by rw [← hA1]; rfl
      have HA1 := Lib.hid hA1
      clear hA1
      refine wp_region_held (S := fun w' => Whole w' z v.cells 29 ∧ Whole w' (z + 1) #[.int .i64 y, .int .i64 e] 78) (by kernel_rfl) ?_
      change wpAnyH _ _ _ _ _ _ _ _ (World.drew Z2)
      refine wpAnyH_take (i := 0) (v := v.val) rfl (by kernel_rfl) (by kernel_rfl) (by kernel_rfl) (fun _ _ _ h => h) (.inl ⟨rfl, fun w g => run_loadV rfl d12 g.1⟩) GS.out ?_
      refine act_letter (fun A2 hA2 => ?_)
      replace d8 : A2.eval (.tmp 8) = .pointer (some ⟨w.heap.size + 1, 0, none⟩) := by rw [← hA2]; exact (ev_ne A1 (m := 35) (n := 8) (v.val) (by decide)).trans d8
      replace d11 : A2.eval (.tmp 11) = .pointer (some ⟨p, 0, none⟩) := by rw [← hA2]; exact (ev_ne A1 (m := 35) (n := 11) (v.val) (by decide)).trans d11
      replace d12 : A2.eval (.tmp 12) = .pointer (some ⟨z, 0, none⟩) := by rw [← hA2]; exact (ev_ne A1 (m := 35) (n := 12) (v.val) (by decide)).trans d12
      replace d13 : A2.eval (.tmp 13) = .pointer (some ⟨z + 1, 0, none⟩) := by rw [← hA2]; exact (ev_ne A1 (m := 35) (n := 13) (v.val) (by decide)).trans d13
      have e35 : A2.eval (.tmp 35) = v.val := by rw [← hA2]; exact ev_self A1 35 (v.val) (by omega)
      have szA2 : A2.tmps.size = 43 := by rw [← hA2]; exact (sz_put A1 35 (v.val)).trans szA1
      have HA2 := Lib.hid (show A1.put (some 35) (v.val) = A2 from hA2)
      clear hA2 szA1
      have d35 := e35
      clear e35
      refine wpAnyH_take (i := 1) (v := .pointer (some ⟨p, 0, none⟩)) rfl (by kernel_rfl) (by kernel_rfl) (by kernel_rfl) (fun _ _ _ h => h) (.inl ⟨rfl, fun w g => run_moveV rfl d11 w⟩) GS.out ?_
      refine act_letter (fun A3 hA3 => ?_)
      replace d8 : A3.eval (.tmp 8) = .pointer (some ⟨w.heap.size + 1, 0, none⟩) := by rw [← hA3]; exact (ev_ne A2 (m := 36) (n := 8) (.pointer (some ⟨p, 0, none⟩)) (by decide)).trans d8
      replace d11 : A3.eval (.tmp 11) = .pointer (some ⟨p, 0, none⟩) := by rw [← hA3]; exact (ev_ne A2 (m := 36) (n := 11) (.pointer (some ⟨p, 0, none⟩)) (by decide)).trans d11
      replace d12 : A3.eval (.tmp 12) = .pointer (some ⟨z, 0, none⟩) := by rw [← hA3]; exact (ev_ne A2 (m := 36) (n := 12) (.pointer (some ⟨p, 0, none⟩)) (by decide)).trans d12
      replace d13 : A3.eval (.tmp 13) = .pointer (some ⟨z + 1, 0, none⟩) := by rw [← hA3]; exact (ev_ne A2 (m := 36) (n := 13) (.pointer (some ⟨p, 0, none⟩)) (by decide)).trans d13
      replace d35 : A3.eval (.tmp 35) = v.val := by rw [← hA3]; exact (ev_ne A2 (m := 36) (n := 35) (.pointer (some ⟨p, 0, none⟩)) (by decide)).trans d35
      have e36 : A3.eval (.tmp 36) = .pointer (some ⟨p, 0, none⟩) := by rw [← hA3]; exact ev_self A2 36 (.pointer (some ⟨p, 0, none⟩)) (by omega)
      have szA3 : A3.tmps.size = 43 := by rw [← hA3]; exact (sz_put A2 36 (.pointer (some ⟨p, 0, none⟩))).trans szA2
      have HA3 := Lib.hid (show A2.put (some 36) (.pointer (some ⟨p, 0, none⟩)) = A3 from hA3)
      clear hA3 szA2
      have d36 := e36
      clear e36
      refine wpAnyH_take (i := 3) (v := fault y e) rfl (by kernel_rfl) (by kernel_rfl) (by kernel_rfl) (fun _ _ _ h => h) (.inl ⟨rfl, fun w g => run_loadFa rfl d13 g.2⟩) GS.out ?_
      refine act_letter (fun A4 hA4 => ?_)
      replace d8 : A4.eval (.tmp 8) = .pointer (some ⟨w.heap.size + 1, 0, none⟩) := by rw [← hA4]; exact (ev_ne A3 (m := 38) (n := 8) (fault y e) (by decide)).trans d8
      replace d35 : A4.eval (.tmp 35) = v.val := by rw [← hA4]; exact (ev_ne A3 (m := 38) (n := 35) (fault y e) (by decide)).trans d35
      replace d36 : A4.eval (.tmp 36) = .pointer (some ⟨p, 0, none⟩) := by rw [← hA4]; exact (ev_ne A3 (m := 38) (n := 36) (fault y e) (by decide)).trans d36
      have e38 : A4.eval (.tmp 38) = fault y e := by rw [← hA4]; exact ev_self A3 38 (fault y e) (by omega)
      have szA4 : A4.tmps.size = 43 := by rw [← hA4]; exact (sz_put A3 38 (fault y e)).trans szA3
      have HA4 := Lib.hid (show A3.put (some 38) (fault y e) = A4 from hA4)
      clear hA4 szA3 d11 d12 d13
      have d38 := e38
      clear e38
      refine wpAnyH_ready (rs := [2]) (by kernel_rfl) (by simp) ?_
      refine AllReadyH.cons rfl (fun K hK => ?_) AllReadyH.nil
      refine wp_callG rfl (rfl) enter_at (vs := #[.pointer (some ⟨p, 0, none⟩)]) (by simp [d36]) ((cr_atG _ p _ ys a' CD.out).mono ?_)
      rintro e x1 ⟨rfl, g1⟩
      refine ⟨_, rfl, hK.out _ _ (⟨GS.out.1.grew g1 (by simp), GS.out.2.grew g1 (by simp)⟩) (fun _ => ?_)⟩
      clear hK K
      have S1 := Lib.hid (show (fun w' => Whole w' z v.cells 29 ∧ Whole w' (z + 1) #[.int .i64 y, .int .i64 e] 78) x1 from ⟨GS.out.1.grew g1 (by simp), GS.out.2.grew g1 (by simp)⟩)
      have KA := Lib.hid (KD.out.grew g1 (by simp))
      have GA := Lib.hid (show Grew Z2 x1 none from grew_trans (grew_drew (grew_refl _ none)) g1)
      clear g1 CD KD
      clear GS
      refine act_letter (fun A5 hA5 => ?_)
      replace d8 : A5.eval (.tmp 8) = .pointer (some ⟨w.heap.size + 1, 0, none⟩) := by rw [← hA5]; exact (ev_ne A4 (m := 37) (n := 8) (.int .i64 a') (by decide)).trans d8
      replace d35 : A5.eval (.tmp 35) = v.val := by rw [← hA5]; exact (ev_ne A4 (m := 37) (n := 35) (.int .i64 a') (by decide)).trans d35
      replace d38 : A5.eval (.tmp 38) = fault y e := by rw [← hA5]; exact (ev_ne A4 (m := 37) (n := 38) (.int .i64 a') (by decide)).trans d38
      have e37 : A5.eval (.tmp 37) = .int .i64 a' := by rw [← hA5]; exact ev_self A4 37 (.int .i64 a') (by omega)
      have szA5 : A5.tmps.size = 43 := by rw [← hA5]; exact (sz_put A4 37 (.int .i64 a')).trans szA4
      have HA5 := Lib.hid (show A4.put (some 37) (.int .i64 a') = A5 from hA5)
      clear hA5 szA4 d36
      have d37 := e37
      clear e37
      refine wpAnyH_ready (rs := [4]) (by kernel_rfl) (by simp) ?_
      refine AllReadyH.cons rfl (fun K hK => ?_) AllReadyH.nil
      refine wp_callG rfl (rfl) enter_told (vs := #[v.val, .int .i64 a', fault y e]) (by simp [d35, d37, d38]) ((told_any _ v a' y e HYE.out).mono ?_)
      rintro e x2 ⟨rfl, g2⟩
      refine ⟨_, rfl, hK.out _ _ (⟨S1.out.1.grew g2 (by simp), S1.out.2.grew g2 (by simp)⟩) (fun _ => ?_)⟩
      clear hK K
      have S2 := Lib.hid (show (fun w' => Whole w' z v.cells 29 ∧ Whole w' (z + 1) #[.int .i64 y, .int .i64 e] 78) x2 from ⟨S1.out.1.grew g2 (by simp), S1.out.2.grew g2 (by simp)⟩)
      have KB := Lib.hid (KA.out.grew g2 (by simp))
      have GB := Lib.hid (show Grew Z2 x2 none from grew_trans GA.out g2)
      clear g2 KA GA
      clear S1
      refine act_letter (fun A6 hA6 => ?_)
      replace d8 : A6.eval (.tmp 8) = .pointer (some ⟨w.heap.size + 1, 0, none⟩) := by rw [← hA6]; exact (ev_ne A5 (m := 39) (n := 8) (.tuple #[(tlV v e).val, .int .i64 (tlI a' y e), .int .i64 e]) (by decide)).trans d8
      have e39 : A6.eval (.tmp 39) = .tuple #[(tlV v e).val, .int .i64 (tlI a' y e), .int .i64 e] := by rw [← hA6]; exact ev_self A5 39 (.tuple #[(tlV v e).val, .int .i64 (tlI a' y e), .int .i64 e]) (by omega)
      have szA6 : A6.tmps.size = 43 := by rw [← hA6]; exact (sz_put A5 39 (.tuple #[(tlV v e).val, .int .i64 (tlI a' y e), .int .i64 e])).trans szA5
      have HA6 := Lib.hid (show A5.put (some 39) (.tuple #[(tlV v e).val, .int .i64 (tlI a' y e), .int .i64 e]) = A6 from hA6)
      clear hA6 szA5 d35 d38 d37
      have d39 := e39
      clear e39
      refine wpAnyH_take (i := 5) (v := (tlV v e).val) rfl (by kernel_rfl) (by kernel_rfl) (by kernel_rfl) (fun _ _ _ h => h) (.inl ⟨rfl, fun w g => run_ext30 rfl d39 w⟩) S2.out ?_
      refine act_letter (fun A7 hA7 => ?_)
      replace d8 : A7.eval (.tmp 8) = .pointer (some ⟨w.heap.size + 1, 0, none⟩) := by rw [← hA7]; exact (ev_ne A6 (m := 40) (n := 8) ((tlV v e).val) (by decide)).trans d8
      replace d39 : A7.eval (.tmp 39) = .tuple #[(tlV v e).val, .int .i64 (tlI a' y e), .int .i64 e] := by rw [← hA7]; exact (ev_ne A6 (m := 40) (n := 39) ((tlV v e).val) (by decide)).trans d39
      have e40 : A7.eval (.tmp 40) = (tlV v e).val := by rw [← hA7]; exact ev_self A6 40 ((tlV v e).val) (by omega)
      have szA7 : A7.tmps.size = 43 := by rw [← hA7]; exact (sz_put A6 40 ((tlV v e).val)).trans szA6
      have HA7 := Lib.hid (show A6.put (some 40) ((tlV v e).val) = A7 from hA7)
      clear hA7 szA6
      have d40 := e40
      clear e40
      refine wpAnyH_take (i := 6) (v := .int .i64 (tlI a' y e)) rfl (by kernel_rfl) (by kernel_rfl) (by kernel_rfl) (fun _ _ _ h => h) (.inl ⟨rfl, fun w g => run_ext31 rfl d39 w⟩) S2.out ?_
      refine act_letter (fun A8 hA8 => ?_)
      replace d8 : A8.eval (.tmp 8) = .pointer (some ⟨w.heap.size + 1, 0, none⟩) := by rw [← hA8]; exact (ev_ne A7 (m := 41) (n := 8) (.int .i64 (tlI a' y e)) (by decide)).trans d8
      replace d39 : A8.eval (.tmp 39) = .tuple #[(tlV v e).val, .int .i64 (tlI a' y e), .int .i64 e] := by rw [← hA8]; exact (ev_ne A7 (m := 41) (n := 39) (.int .i64 (tlI a' y e)) (by decide)).trans d39
      replace d40 : A8.eval (.tmp 40) = (tlV v e).val := by rw [← hA8]; exact (ev_ne A7 (m := 41) (n := 40) (.int .i64 (tlI a' y e)) (by decide)).trans d40
      have e41 : A8.eval (.tmp 41) = .int .i64 (tlI a' y e) := by rw [← hA8]; exact ev_self A7 41 (.int .i64 (tlI a' y e)) (by omega)
      have szA8 : A8.tmps.size = 43 := by rw [← hA8]; exact (sz_put A7 41 (.int .i64 (tlI a' y e))).trans szA7
      have HA8 := Lib.hid (show A7.put (some 41) (.int .i64 (tlI a' y e)) = A8 from hA8)
      clear hA8 szA7
      have d41 := e41
      clear e41
      refine wpAnyH_take (i := 7) (v := .int .i64 e) rfl (by kernel_rfl) (by kernel_rfl) (by kernel_rfl) (fun _ _ _ h => h) (.inl ⟨rfl, fun w g => run_ext32 rfl d39 w⟩) S2.out ?_
      refine act_letter (fun A9 hA9 => ?_)
      replace d8 : A9.eval (.tmp 8) = .pointer (some ⟨w.heap.size + 1, 0, none⟩) := by rw [← hA9]; exact (ev_ne A8 (m := 42) (n := 8) (.int .i64 e) (by decide)).trans d8
      replace d40 : A9.eval (.tmp 40) = (tlV v e).val := by rw [← hA9]; exact (ev_ne A8 (m := 42) (n := 40) (.int .i64 e) (by decide)).trans d40
      replace d41 : A9.eval (.tmp 41) = .int .i64 (tlI a' y e) := by rw [← hA9]; exact (ev_ne A8 (m := 42) (n := 41) (.int .i64 e) (by decide)).trans d41
      have e42 : A9.eval (.tmp 42) = .int .i64 e := by rw [← hA9]; exact ev_self A8 42 (.int .i64 e) (by omega)
      have szA9 : A9.tmps.size = 43 := by rw [← hA9]; exact (sz_put A8 42 (.int .i64 e)).trans szA8
      have HA9 := Lib.hid (show A8.put (some 42) (.int .i64 e) = A9 from hA9)
      clear hA9 szA8 d39
      have d42 := e42
      clear e42
      refine wpAnyH_ready (rs := [8]) (by kernel_rfl) (by simp) ?_
      refine AllReadyH.cons rfl (fun K hK => ?_) AllReadyH.nil
      refine wp_skipG rfl (w' := put3 x2 (w.heap.size + 1) (.int .u64 (tlV v e).n) (.slice (tlV v e).B (tlV v e).bs.length (tlV v e).d) (.slice (tlV v e).A (tlV v e).ls.length (tlV v e).c)) (run_storeVa rfl d8 d40 KB.out) (hK.out _ _ (⟨S2.out.1.fr (fr_put3 _ _ _ _ _) (by have := HZL.out; omega), S2.out.2.fr (fr_put3 _ _ _ _ _) (by have := HZL.out; omega)⟩) (fun _ => ?_))
      clear hK K
      have S3 := Lib.hid (show (fun w' => Whole w' z v.cells 29 ∧ Whole w' (z + 1) #[.int .i64 y, .int .i64 e] 78) (put3 x2 (w.heap.size + 1) (.int .u64 (tlV v e).n) (.slice (tlV v e).B (tlV v e).bs.length (tlV v e).d) (.slice (tlV v e).A (tlV v e).ls.length (tlV v e).c)) from ⟨S2.out.1.fr (fr_put3 _ _ _ _ _) (by have := HZL.out; omega), S2.out.2.fr (fr_put3 _ _ _ _ _) (by have := HZL.out; omega)⟩)
      clear S2
      refine act_letter (fun A10 hA10 => ?_)
      replace d8 : A10.eval (.tmp 8) = .pointer (some ⟨w.heap.size + 1, 0, none⟩) := by rw [← hA10]; exact d8
      replace d40 : A10.eval (.tmp 40) = (tlV v e).val := by rw [← hA10]; exact d40
      replace d41 : A10.eval (.tmp 41) = .int .i64 (tlI a' y e) := by rw [← hA10]; exact d41
      replace d42 : A10.eval (.tmp 42) = .int .i64 e := by rw [← hA10]; exact d42
      have szA10 : A10.tmps.size = 43 := by rw [← hA10]; exact szA9
      have HA10 := Lib.hid (show A9 = A10 from hA10)
      clear hA10 szA9
      refine wpAnyH_take (i := 9) (v := .int .i64 (tlI a' y e)) rfl (by kernel_rfl) (by kernel_rfl) (by kernel_rfl) (fun _ _ _ h => h) (.inl ⟨rfl, fun w g => run_assign rfl d41 w⟩) S3.out ?_
      refine act_letter (fun A11 hA11 => ?_)
      replace d8 : A11.eval (.tmp 8) = .pointer (some ⟨w.heap.size + 1, 0, none⟩) := by rw [← hA11]; exact (ev_ne A10 (m := 9) (n := 8) (.int .i64 (tlI a' y e)) (by decide)).trans d8
      replace d40 : A11.eval (.tmp 40) = (tlV v e).val := by rw [← hA11]; exact (ev_ne A10 (m := 9) (n := 40) (.int .i64 (tlI a' y e)) (by decide)).trans d40
      replace d41 : A11.eval (.tmp 41) = .int .i64 (tlI a' y e) := by rw [← hA11]; exact (ev_ne A10 (m := 9) (n := 41) (.int .i64 (tlI a' y e)) (by decide)).trans d41
      replace d42 : A11.eval (.tmp 42) = .int .i64 e := by rw [← hA11]; exact (ev_ne A10 (m := 9) (n := 42) (.int .i64 (tlI a' y e)) (by decide)).trans d42
      have e9 : A11.eval (.tmp 9) = .int .i64 (tlI a' y e) := by rw [← hA11]; exact ev_self A10 9 (.int .i64 (tlI a' y e)) (by omega)
      have szA11 : A11.tmps.size = 43 := by rw [← hA11]; exact (sz_put A10 9 (.int .i64 (tlI a' y e))).trans szA10
      have HA11 := Lib.hid (show A10.put (some 9) (.int .i64 (tlI a' y e)) = A11 from hA11)
      clear hA11 szA10
      have d9 := e9
      clear e9
      refine wpAnyH_take (i := 10) (v := .int .i64 e) rfl (by kernel_rfl) (by kernel_rfl) (by kernel_rfl) (fun _ _ _ h => h) (.inl ⟨rfl, fun w g => run_assign rfl d42 w⟩) S3.out ?_
      refine act_letter (fun A12 hA12 => ?_)
      replace d8 : A12.eval (.tmp 8) = .pointer (some ⟨w.heap.size + 1, 0, none⟩) := by rw [← hA12]; exact (ev_ne A11 (m := 10) (n := 8) (.int .i64 e) (by decide)).trans d8
      replace d40 : A12.eval (.tmp 40) = (tlV v e).val := by rw [← hA12]; exact (ev_ne A11 (m := 10) (n := 40) (.int .i64 e) (by decide)).trans d40
      replace d41 : A12.eval (.tmp 41) = .int .i64 (tlI a' y e) := by rw [← hA12]; exact (ev_ne A11 (m := 10) (n := 41) (.int .i64 e) (by decide)).trans d41
      replace d42 : A12.eval (.tmp 42) = .int .i64 e := by rw [← hA12]; exact (ev_ne A11 (m := 10) (n := 42) (.int .i64 e) (by decide)).trans d42
      replace d9 : A12.eval (.tmp 9) = .int .i64 (tlI a' y e) := by rw [← hA12]; exact (ev_ne A11 (m := 10) (n := 9) (.int .i64 e) (by decide)).trans d9
      have e10 : A12.eval (.tmp 10) = .int .i64 e := by rw [← hA12]; exact ev_self A11 10 (.int .i64 e) (by omega)
      have szA12 : A12.tmps.size = 43 := by rw [← hA12]; exact (sz_put A11 10 (.int .i64 e)).trans szA11
      have HA12 := Lib.hid (show A11.put (some 10) (.int .i64 e) = A12 from hA12)
      clear hA12 szA11
      have d10 := e10
      clear e10
      refine wpAnyH_done (by kernel_rfl) ?_ _
      rw [← HA12.out, ← HA11.out, ← HA10.out, ← HA9.out, ← HA8.out, ← HA7.out, ← HA6.out, ← HA5.out, ← HA4.out, ← HA3.out, ← HA2.out, ← HA1.out]
      clear HA2 HA3 HA4 HA5 HA6 HA7 HA8 HA9 HA10 HA11 HA12 HA1 d8 d40 d41 d42 d9 d10 szA12
      simp only [Act.put, List.setIfInBounds_toArray, List.set_cons_zero, List.set_cons_succ]
      clear S3
      go_wp2_with fail
      have r1 := KB.out.put3 (.int .u64 (tlV v e).n) (.slice (tlV v e).B (tlV v e).bs.length (tlV v e).d) (.slice (tlV v e).A (tlV v e).ls.length (tlV v e).c)
      have r3 := fr_put3 x2 (w.heap.size + 1) (.int .u64 (tlV v e).n) (.slice (tlV v e).B (tlV v e).bs.length (tlV v e).d) (.slice (tlV v e).A (tlV v e).ls.length (tlV v e).c)
      refine bodyPost_ret (results_cell_tmps rfl _ _ _ _ _ _ _ rfl r1 Try.underlying29 rfl (by kernel_rfl)) rfl ?_
      obtain ⟨hv, hi, hnf, hty, hfr⟩ := HV.out
      have hzl := HZL.out
      rw [HR2.out]
      refine ⟨tlV v e, ?_, ?_, ?_, HNF.out, ?_, ?_⟩
      · rw [← HPL.out, ← HEE.out]; rfl
      · refine In.fr (k := w.heap.size + 2) (In.grew ?_ GB.out) r3 ?_ (fun i h => by omega)
        · unfold tlV; split
          · exact hv
          · exact v0_in _
        · unfold tlV; split
          · exact hi
          · exact v0_hi _
      · unfold tlV; split
        · exact hi.mono (by omega)
        · exact v0_hi _
      · exact (hty.fr (fr_of GB.out (F := fun _ => False)) (fun _ _ h => h)).fr r3 (fun q hq e => by have := HTL.out q hq; omega)
      · exact (hfr.trans (fr_of GB.out (F := fun _ => False)) (fun _ _ h => h.elim)).trans r3 (fun i hi e => by omega)
    · have HR2 := Lib.hid (show RA = R from HRA.out.trans (if_neg (fun h => hlt h.2)))
      have hl0 : ys.length = 0 := by omega
      have HAP := Lib.hid ha'
      clear hys ha' hlen hlt HRA
      subst hE
      obtain ⟨g3, n1, n2, ns⟩ := two_new Y #[.int .u64 v.n, .slice v.B v.bs.length v.d, .slice v.A v.ls.length v.c] 29 #[.int .i64 0, .int .i64 0] 78
      have GZ := Lib.hid g3
      have NV := Lib.hid n1
      have NF := Lib.hid n2
      have NK := Lib.hid (KY.out.grew g3 (by simp))
      have NC := Lib.hid (HCY.out.grew g3 (by simp) (fun _ h => by cases h))
      clear g3 n1 n2 ns
      go_wp2_with fail
      generalize (Y.alloc (.cells #[.int .u64 v.n, .slice v.B v.bs.length v.d, .slice v.A v.ls.length v.c] 29)).alloc (.cells #[.int .i64 0, .int .i64 0] 78) = Z at *
      generalize hz : Y.heap.size = z at *
      have HZL := Lib.hid YS.out
      have HZY := Lib.hid (show Y.heap.size ≤ z + 1 by rw [hz]; omega)
      clear hz
      refine (cr_left Z p w0.heap.size ys a' NC.out).mono ?_
      rintro e1 w1 ⟨rfl, rfl⟩
      rw [show ((ys.length : Nat) : Int) = 0 by omega]
      obtain ⟨d0, d1⟩ := NF.out.two
      go_upto_region 5 with (fail)
      clear d0 d1
      obtain ⟨y, hy⟩ : ∃ y : Int, (0 : Int) = y := ⟨_, rfl⟩
      obtain ⟨e, he⟩ : ∃ e : Int, (0 : Int) = e := ⟨_, rfl⟩
      have HV := Lib.hid (show v.In Z ∧ v.Hi (w.heap.size + 2) ∧ True ∧ Tly Z t m (c + R.c) ∧ Fr w Z (fun i => t = some i) from ⟨HV0.out.1.grew GZ.out, HV0.out.2.1, trivial, HV0.out.2.2.2.1.fr (fr_of GZ.out (F := fun _ => False)) (fun _ _ h => h), HV0.out.2.2.2.2.trans (fr_of GZ.out (F := fun _ => False)) (fun _ _ h => h.elim)⟩)
      have ZV := Lib.hid (show Whole Z z v.cells 29 from NV.out)
      have ZF := Lib.hid (show Whole Z (z + 1) #[.int .i64 y, .int .i64 e] 78 from (by rw [← hy, ← he]; exact NF.out))
      have ZK := Lib.hid (show Whole Z (w.heap.size + 1) #[.int .u64 0, .slice none 0 0, .slice none 0 0] 29 from NK.out)
      have ZC := Lib.hid (show Cr Z p w0.heap.size ys a' from NC.out)
      have HNF := Lib.hid (show (tlV v e).nf = R.v by unfold tlV; rw [if_pos he.symm]; exact HV0.out.2.2.1)
      have HPL := Lib.hid (show tlI a' y e = a + R.n by unfold tlI; rw [if_pos he.symm]; exact HAP.out)
      have HEE := Lib.hid (show e = R.e from he.symm.trans HE.out.symm)
      replace HYE := Lib.hid (show e = 0 → y = 0 from fun _ => hy.symm)
      clear HV0 NV NF NK NC GZ HX HCY KY hy he hl0
      have GS := Lib.hid (show (fun w' => Whole w' z v.cells 29 ∧ Whole w' (z + 1) #[.int .i64 y, .int .i64 e] 78) (World.drew Z) from ⟨ZV.out, ZF.out⟩)
      have CD := Lib.hid (show Cr (World.drew Z) p w0.heap.size ys a' from ZC.out)
      have KD := Lib.hid (show Whole (World.drew Z) (w.heap.size + 1) #[.int .u64 0, .slice none 0 0, .slice none 0 0] 29 from ZK.out)
      refine act_letterC (fun A1 hA1 => ?_)
      have d8 : A1.eval (.tmp 8) = .pointer (some ⟨w.heap.size + 1, 0, none⟩) := by rw [← hA1]; rfl
      have d11 : A1.eval (.tmp 11) = .pointer (some ⟨p, 0, none⟩) := by rw [← hA1]; rfl
      have d12 : A1.eval (.tmp 12) = .pointer (some ⟨z, 0, none⟩) := by rw [← hA1]; rfl
      have d13 : A1.eval (.tmp 13) = .pointer (some ⟨z + 1, 0, none⟩) := by rw [← hA1]; rfl
      have szA1 : A1.tmps.size = 43 := by rw [← hA1]; rfl
      have HA1 := Lib.hid hA1
      clear hA1
      refine wp_region_held (S := fun w' => Whole w' z v.cells 29 ∧ Whole w' (z + 1) #[.int .i64 y, .int .i64 e] 78) (by kernel_rfl) ?_
      change wpAnyH _ _ _ _ _ _ _ _ (World.drew Z)
      refine wpAnyH_take (i := 0) (v := v.val) rfl (by kernel_rfl) (by kernel_rfl) (by kernel_rfl) (fun _ _ _ h => h) (.inl ⟨rfl, fun w g => run_loadV rfl d12 g.1⟩) GS.out ?_
      refine act_letter (fun A2 hA2 => ?_)
      replace d8 : A2.eval (.tmp 8) = .pointer (some ⟨w.heap.size + 1, 0, none⟩) := by rw [← hA2]; exact (ev_ne A1 (m := 35) (n := 8) (v.val) (by decide)).trans d8
      replace d11 : A2.eval (.tmp 11) = .pointer (some ⟨p, 0, none⟩) := by rw [← hA2]; exact (ev_ne A1 (m := 35) (n := 11) (v.val) (by decide)).trans d11
      replace d12 : A2.eval (.tmp 12) = .pointer (some ⟨z, 0, none⟩) := by rw [← hA2]; exact (ev_ne A1 (m := 35) (n := 12) (v.val) (by decide)).trans d12
      replace d13 : A2.eval (.tmp 13) = .pointer (some ⟨z + 1, 0, none⟩) := by rw [← hA2]; exact (ev_ne A1 (m := 35) (n := 13) (v.val) (by decide)).trans d13
      have e35 : A2.eval (.tmp 35) = v.val := by rw [← hA2]; exact ev_self A1 35 (v.val) (by omega)
      have szA2 : A2.tmps.size = 43 := by rw [← hA2]; exact (sz_put A1 35 (v.val)).trans szA1
      have HA2 := Lib.hid (show A1.put (some 35) (v.val) = A2 from hA2)
      clear hA2 szA1
      have d35 := e35
      clear e35
      refine wpAnyH_take (i := 1) (v := .pointer (some ⟨p, 0, none⟩)) rfl (by kernel_rfl) (by kernel_rfl) (by kernel_rfl) (fun _ _ _ h => h) (.inl ⟨rfl, fun w g => run_moveV rfl d11 w⟩) GS.out ?_
      refine act_letter (fun A3 hA3 => ?_)
      replace d8 : A3.eval (.tmp 8) = .pointer (some ⟨w.heap.size + 1, 0, none⟩) := by rw [← hA3]; exact (ev_ne A2 (m := 36) (n := 8) (.pointer (some ⟨p, 0, none⟩)) (by decide)).trans d8
      replace d11 : A3.eval (.tmp 11) = .pointer (some ⟨p, 0, none⟩) := by rw [← hA3]; exact (ev_ne A2 (m := 36) (n := 11) (.pointer (some ⟨p, 0, none⟩)) (by decide)).trans d11
      replace d12 : A3.eval (.tmp 12) = .pointer (some ⟨z, 0, none⟩) := by rw [← hA3]; exact (ev_ne A2 (m := 36) (n := 12) (.pointer (some ⟨p, 0, none⟩)) (by decide)).trans d12
      replace d13 : A3.eval (.tmp 13) = .pointer (some ⟨z + 1, 0, none⟩) := by rw [← hA3]; exact (ev_ne A2 (m := 36) (n := 13) (.pointer (some ⟨p, 0, none⟩)) (by decide)).trans d13
      replace d35 : A3.eval (.tmp 35) = v.val := by rw [← hA3]; exact (ev_ne A2 (m := 36) (n := 35) (.pointer (some ⟨p, 0, none⟩)) (by decide)).trans d35
      have e36 : A3.eval (.tmp 36) = .pointer (some ⟨p, 0, none⟩) := by rw [← hA3]; exact ev_self A2 36 (.pointer (some ⟨p, 0, none⟩)) (by omega)
      have szA3 : A3.tmps.size = 43 := by rw [← hA3]; exact (sz_put A2 36 (.pointer (some ⟨p, 0, none⟩))).trans szA2
      have HA3 := Lib.hid (show A2.put (some 36) (.pointer (some ⟨p, 0, none⟩)) = A3 from hA3)
      clear hA3 szA2
      have d36 := e36
      clear e36
      refine wpAnyH_take (i := 3) (v := fault y e) rfl (by kernel_rfl) (by kernel_rfl) (by kernel_rfl) (fun _ _ _ h => h) (.inl ⟨rfl, fun w g => run_loadFa rfl d13 g.2⟩) GS.out ?_
      refine act_letter (fun A4 hA4 => ?_)
      replace d8 : A4.eval (.tmp 8) = .pointer (some ⟨w.heap.size + 1, 0, none⟩) := by rw [← hA4]; exact (ev_ne A3 (m := 38) (n := 8) (fault y e) (by decide)).trans d8
      replace d35 : A4.eval (.tmp 35) = v.val := by rw [← hA4]; exact (ev_ne A3 (m := 38) (n := 35) (fault y e) (by decide)).trans d35
      replace d36 : A4.eval (.tmp 36) = .pointer (some ⟨p, 0, none⟩) := by rw [← hA4]; exact (ev_ne A3 (m := 38) (n := 36) (fault y e) (by decide)).trans d36
      have e38 : A4.eval (.tmp 38) = fault y e := by rw [← hA4]; exact ev_self A3 38 (fault y e) (by omega)
      have szA4 : A4.tmps.size = 43 := by rw [← hA4]; exact (sz_put A3 38 (fault y e)).trans szA3
      have HA4 := Lib.hid (show A3.put (some 38) (fault y e) = A4 from hA4)
      clear hA4 szA3 d11 d12 d13
      have d38 := e38
      clear e38
      refine wpAnyH_ready (rs := [2]) (by kernel_rfl) (by simp) ?_
      refine AllReadyH.cons rfl (fun K hK => ?_) AllReadyH.nil
      refine wp_callG rfl (rfl) enter_at (vs := #[.pointer (some ⟨p, 0, none⟩)]) (by simp [d36]) ((cr_atG _ p _ ys a' CD.out).mono ?_)
      rintro e x1 ⟨rfl, g1⟩
      refine ⟨_, rfl, hK.out _ _ (⟨GS.out.1.grew g1 (by simp), GS.out.2.grew g1 (by simp)⟩) (fun _ => ?_)⟩
      clear hK K
      have S1 := Lib.hid (show (fun w' => Whole w' z v.cells 29 ∧ Whole w' (z + 1) #[.int .i64 y, .int .i64 e] 78) x1 from ⟨GS.out.1.grew g1 (by simp), GS.out.2.grew g1 (by simp)⟩)
      have KA := Lib.hid (KD.out.grew g1 (by simp))
      have GA := Lib.hid (show Grew Z x1 none from grew_trans (grew_drew (grew_refl _ none)) g1)
      clear g1 CD KD
      clear GS
      refine act_letter (fun A5 hA5 => ?_)
      replace d8 : A5.eval (.tmp 8) = .pointer (some ⟨w.heap.size + 1, 0, none⟩) := by rw [← hA5]; exact (ev_ne A4 (m := 37) (n := 8) (.int .i64 a') (by decide)).trans d8
      replace d35 : A5.eval (.tmp 35) = v.val := by rw [← hA5]; exact (ev_ne A4 (m := 37) (n := 35) (.int .i64 a') (by decide)).trans d35
      replace d38 : A5.eval (.tmp 38) = fault y e := by rw [← hA5]; exact (ev_ne A4 (m := 37) (n := 38) (.int .i64 a') (by decide)).trans d38
      have e37 : A5.eval (.tmp 37) = .int .i64 a' := by rw [← hA5]; exact ev_self A4 37 (.int .i64 a') (by omega)
      have szA5 : A5.tmps.size = 43 := by rw [← hA5]; exact (sz_put A4 37 (.int .i64 a')).trans szA4
      have HA5 := Lib.hid (show A4.put (some 37) (.int .i64 a') = A5 from hA5)
      clear hA5 szA4 d36
      have d37 := e37
      clear e37
      refine wpAnyH_ready (rs := [4]) (by kernel_rfl) (by simp) ?_
      refine AllReadyH.cons rfl (fun K hK => ?_) AllReadyH.nil
      refine wp_callG rfl (rfl) enter_told (vs := #[v.val, .int .i64 a', fault y e]) (by simp [d35, d37, d38]) ((told_any _ v a' y e HYE.out).mono ?_)
      rintro e x2 ⟨rfl, g2⟩
      refine ⟨_, rfl, hK.out _ _ (⟨S1.out.1.grew g2 (by simp), S1.out.2.grew g2 (by simp)⟩) (fun _ => ?_)⟩
      clear hK K
      have S2 := Lib.hid (show (fun w' => Whole w' z v.cells 29 ∧ Whole w' (z + 1) #[.int .i64 y, .int .i64 e] 78) x2 from ⟨S1.out.1.grew g2 (by simp), S1.out.2.grew g2 (by simp)⟩)
      have KB := Lib.hid (KA.out.grew g2 (by simp))
      have GB := Lib.hid (show Grew Z x2 none from grew_trans GA.out g2)
      clear g2 KA GA
      clear S1
      refine act_letter (fun A6 hA6 => ?_)
      replace d8 : A6.eval (.tmp 8) = .pointer (some ⟨w.heap.size + 1, 0, none⟩) := by rw [← hA6]; exact (ev_ne A5 (m := 39) (n := 8) (.tuple #[(tlV v e).val, .int .i64 (tlI a' y e), .int .i64 e]) (by decide)).trans d8
      have e39 : A6.eval (.tmp 39) = .tuple #[(tlV v e).val, .int .i64 (tlI a' y e), .int .i64 e] := by rw [← hA6]; exact ev_self A5 39 (.tuple #[(tlV v e).val, .int .i64 (tlI a' y e), .int .i64 e]) (by omega)
      have szA6 : A6.tmps.size = 43 := by rw [← hA6]; exact (sz_put A5 39 (.tuple #[(tlV v e).val, .int .i64 (tlI a' y e), .int .i64 e])).trans szA5
      have HA6 := Lib.hid (show A5.put (some 39) (.tuple #[(tlV v e).val, .int .i64 (tlI a' y e), .int .i64 e]) = A6 from hA6)
      clear hA6 szA5 d35 d38 d37
      have d39 := e39
      clear e39
      refine wpAnyH_take (i := 5) (v := (tlV v e).val) rfl (by kernel_rfl) (by kernel_rfl) (by kernel_rfl) (fun _ _ _ h => h) (.inl ⟨rfl, fun w g => run_ext30 rfl d39 w⟩) S2.out ?_
      refine act_letter (fun A7 hA7 => ?_)
      replace d8 : A7.eval (.tmp 8) = .pointer (some ⟨w.heap.size + 1, 0, none⟩) := by rw [← hA7]; exact (ev_ne A6 (m := 40) (n := 8) ((tlV v e).val) (by decide)).trans d8
      replace d39 : A7.eval (.tmp 39) = .tuple #[(tlV v e).val, .int .i64 (tlI a' y e), .int .i64 e] := by rw [← hA7]; exact (ev_ne A6 (m := 40) (n := 39) ((tlV v e).val) (by decide)).trans d39
      have e40 : A7.eval (.tmp 40) = (tlV v e).val := by rw [← hA7]; exact ev_self A6 40 ((tlV v e).val) (by omega)
      have szA7 : A7.tmps.size = 43 := by rw [← hA7]; exact (sz_put A6 40 ((tlV v e).val)).trans szA6
      have HA7 := Lib.hid (show A6.put (some 40) ((tlV v e).val) = A7 from hA7)
      clear hA7 szA6
      have d40 := e40
      clear e40
      refine wpAnyH_take (i := 6) (v := .int .i64 (tlI a' y e)) rfl (by kernel_rfl) (by kernel_rfl) (by kernel_rfl) (fun _ _ _ h => h) (.inl ⟨rfl, fun w g => run_ext31 rfl d39 w⟩) S2.out ?_
      refine act_letter (fun A8 hA8 => ?_)
      replace d8 : A8.eval (.tmp 8) = .pointer (some ⟨w.heap.size + 1, 0, none⟩) := by rw [← hA8]; exact (ev_ne A7 (m := 41) (n := 8) (.int .i64 (tlI a' y e)) (by decide)).trans d8
      replace d39 : A8.eval (.tmp 39) = .tuple #[(tlV v e).val, .int .i64 (tlI a' y e), .int .i64 e] := by rw [← hA8]; exact (ev_ne A7 (m := 41) (n := 39) (.int .i64 (tlI a' y e)) (by decide)).trans d39
      replace d40 : A8.eval (.tmp 40) = (tlV v e).val := by rw [← hA8]; exact (ev_ne A7 (m := 41) (n := 40) (.int .i64 (tlI a' y e)) (by decide)).trans d40
      have e41 : A8.eval (.tmp 41) = .int .i64 (tlI a' y e) := by rw [← hA8]; exact ev_self A7 41 (.int .i64 (tlI a' y e)) (by omega)
      have szA8 : A8.tmps.size = 43 := by rw [← hA8]; exact (sz_put A7 41 (.int .i64 (tlI a' y e))).trans szA7
      have HA8 := Lib.hid (show A7.put (some 41) (.int .i64 (tlI a' y e)) = A8 from hA8)
      clear hA8 szA7
      have d41 := e41
      clear e41
      refine wpAnyH_take (i := 7) (v := .int .i64 e) rfl (by kernel_rfl) (by kernel_rfl) (by kernel_rfl) (fun _ _ _ h => h) (.inl ⟨rfl, fun w g => run_ext32 rfl d39 w⟩) S2.out ?_
      refine act_letter (fun A9 hA9 => ?_)
      replace d8 : A9.eval (.tmp 8) = .pointer (some ⟨w.heap.size + 1, 0, none⟩) := by rw [← hA9]; exact (ev_ne A8 (m := 42) (n := 8) (.int .i64 e) (by decide)).trans d8
      replace d40 : A9.eval (.tmp 40) = (tlV v e).val := by rw [← hA9]; exact (ev_ne A8 (m := 42) (n := 40) (.int .i64 e) (by decide)).trans d40
      replace d41 : A9.eval (.tmp 41) = .int .i64 (tlI a' y e) := by rw [← hA9]; exact (ev_ne A8 (m := 42) (n := 41) (.int .i64 e) (by decide)).trans d41
      have e42 : A9.eval (.tmp 42) = .int .i64 e := by rw [← hA9]; exact ev_self A8 42 (.int .i64 e) (by omega)
      have szA9 : A9.tmps.size = 43 := by rw [← hA9]; exact (sz_put A8 42 (.int .i64 e)).trans szA8
      have HA9 := Lib.hid (show A8.put (some 42) (.int .i64 e) = A9 from hA9)
      clear hA9 szA8 d39
      have d42 := e42
      clear e42
      refine wpAnyH_ready (rs := [8]) (by kernel_rfl) (by simp) ?_
      refine AllReadyH.cons rfl (fun K hK => ?_) AllReadyH.nil
      refine wp_skipG rfl (w' := put3 x2 (w.heap.size + 1) (.int .u64 (tlV v e).n) (.slice (tlV v e).B (tlV v e).bs.length (tlV v e).d) (.slice (tlV v e).A (tlV v e).ls.length (tlV v e).c)) (run_storeVa rfl d8 d40 KB.out) (hK.out _ _ (⟨S2.out.1.fr (fr_put3 _ _ _ _ _) (by have := HZL.out; omega), S2.out.2.fr (fr_put3 _ _ _ _ _) (by have := HZL.out; omega)⟩) (fun _ => ?_))
      clear hK K
      have S3 := Lib.hid (show (fun w' => Whole w' z v.cells 29 ∧ Whole w' (z + 1) #[.int .i64 y, .int .i64 e] 78) (put3 x2 (w.heap.size + 1) (.int .u64 (tlV v e).n) (.slice (tlV v e).B (tlV v e).bs.length (tlV v e).d) (.slice (tlV v e).A (tlV v e).ls.length (tlV v e).c)) from ⟨S2.out.1.fr (fr_put3 _ _ _ _ _) (by have := HZL.out; omega), S2.out.2.fr (fr_put3 _ _ _ _ _) (by have := HZL.out; omega)⟩)
      clear S2
      refine act_letter (fun A10 hA10 => ?_)
      replace d8 : A10.eval (.tmp 8) = .pointer (some ⟨w.heap.size + 1, 0, none⟩) := by rw [← hA10]; exact d8
      replace d40 : A10.eval (.tmp 40) = (tlV v e).val := by rw [← hA10]; exact d40
      replace d41 : A10.eval (.tmp 41) = .int .i64 (tlI a' y e) := by rw [← hA10]; exact d41
      replace d42 : A10.eval (.tmp 42) = .int .i64 e := by rw [← hA10]; exact d42
      have szA10 : A10.tmps.size = 43 := by rw [← hA10]; exact szA9
      have HA10 := Lib.hid (show A9 = A10 from hA10)
      clear hA10 szA9
      refine wpAnyH_take (i := 9) (v := .int .i64 (tlI a' y e)) rfl (by kernel_rfl) (by kernel_rfl) (by kernel_rfl) (fun _ _ _ h => h) (.inl ⟨rfl, fun w g => run_assign rfl d41 w⟩) S3.out ?_
      refine act_letter (fun A11 hA11 => ?_)
      replace d8 : A11.eval (.tmp 8) = .pointer (some ⟨w.heap.size + 1, 0, none⟩) := by rw [← hA11]; exact (ev_ne A10 (m := 9) (n := 8) (.int .i64 (tlI a' y e)) (by decide)).trans d8
      replace d40 : A11.eval (.tmp 40) = (tlV v e).val := by rw [← hA11]; exact (ev_ne A10 (m := 9) (n := 40) (.int .i64 (tlI a' y e)) (by decide)).trans d40
      replace d41 : A11.eval (.tmp 41) = .int .i64 (tlI a' y e) := by rw [← hA11]; exact (ev_ne A10 (m := 9) (n := 41) (.int .i64 (tlI a' y e)) (by decide)).trans d41
      replace d42 : A11.eval (.tmp 42) = .int .i64 e := by rw [← hA11]; exact (ev_ne A10 (m := 9) (n := 42) (.int .i64 (tlI a' y e)) (by decide)).trans d42
      have e9 : A11.eval (.tmp 9) = .int .i64 (tlI a' y e) := by rw [← hA11]; exact ev_self A10 9 (.int .i64 (tlI a' y e)) (by omega)
      have szA11 : A11.tmps.size = 43 := by rw [← hA11]; exact (sz_put A10 9 (.int .i64 (tlI a' y e))).trans szA10
      have HA11 := Lib.hid (show A10.put (some 9) (.int .i64 (tlI a' y e)) = A11 from hA11)
      clear hA11 szA10
      have d9 := e9
      clear e9
      refine wpAnyH_take (i := 10) (v := .int .i64 e) rfl (by kernel_rfl) (by kernel_rfl) (by kernel_rfl) (fun _ _ _ h => h) (.inl ⟨rfl, fun w g => run_assign rfl d42 w⟩) S3.out ?_
      refine act_letter (fun A12 hA12 => ?_)
      replace d8 : A12.eval (.tmp 8) = .pointer (some ⟨w.heap.size + 1, 0, none⟩) := by rw [← hA12]; exact (ev_ne A11 (m := 10) (n := 8) (.int .i64 e) (by decide)).trans d8
      replace d40 : A12.eval (.tmp 40) = (tlV v e).val := by rw [← hA12]; exact (ev_ne A11 (m := 10) (n := 40) (.int .i64 e) (by decide)).trans d40
      replace d41 : A12.eval (.tmp 41) = .int .i64 (tlI a' y e) := by rw [← hA12]; exact (ev_ne A11 (m := 10) (n := 41) (.int .i64 e) (by decide)).trans d41
      replace d42 : A12.eval (.tmp 42) = .int .i64 e := by rw [← hA12]; exact (ev_ne A11 (m := 10) (n := 42) (.int .i64 e) (by decide)).trans d42
      replace d9 : A12.eval (.tmp 9) = .int .i64 (tlI a' y e) := by rw [← hA12]; exact (ev_ne A11 (m := 10) (n := 9) (.int .i64 e) (by decide)).trans d9
      have e10 : A12.eval (.tmp 10) = .int .i64 e := by rw [← hA12]; exact ev_self A11 10 (.int .i64 e) (by omega)
      have szA12 : A12.tmps.size = 43 := by rw [← hA12]; exact (sz_put A11 10 (.int .i64 e)).trans szA11
      have HA12 := Lib.hid (show A11.put (some 10) (.int .i64 e) = A12 from hA12)
      clear hA12 szA11
      have d10 := e10
      clear e10
      refine wpAnyH_done (by kernel_rfl) ?_ _
      rw [← HA12.out, ← HA11.out, ← HA10.out, ← HA9.out, ← HA8.out, ← HA7.out, ← HA6.out, ← HA5.out, ← HA4.out, ← HA3.out, ← HA2.out, ← HA1.out]
      clear HA2 HA3 HA4 HA5 HA6 HA7 HA8 HA9 HA10 HA11 HA12 HA1 d8 d40 d41 d42 d9 d10 szA12
      simp only [Act.put, List.setIfInBounds_toArray, List.set_cons_zero, List.set_cons_succ]
      clear S3
      go_wp2_with fail
      have r1 := KB.out.put3 (.int .u64 (tlV v e).n) (.slice (tlV v e).B (tlV v e).bs.length (tlV v e).d) (.slice (tlV v e).A (tlV v e).ls.length (tlV v e).c)
      have r3 := fr_put3 x2 (w.heap.size + 1) (.int .u64 (tlV v e).n) (.slice (tlV v e).B (tlV v e).bs.length (tlV v e).d) (.slice (tlV v e).A (tlV v e).ls.length (tlV v e).c)
      refine bodyPost_ret (results_cell_tmps rfl _ _ _ _ _ _ _ rfl r1 Try.underlying29 rfl (by kernel_rfl)) rfl ?_
      obtain ⟨hv, hi, hnf, hty, hfr⟩ := HV.out
      have hzl := HZL.out
      rw [HR2.out]
      refine ⟨tlV v e, ?_, ?_, ?_, HNF.out, ?_, ?_⟩
      · rw [← HPL.out, ← HEE.out]; rfl
      · refine In.fr (k := w.heap.size + 2) (In.grew ?_ GB.out) r3 ?_ (fun i h => by omega)
        · unfold tlV; split
          · exact hv
          · exact v0_in _
        · unfold tlV; split
          · exact hi
          · exact v0_hi _
      · unfold tlV; split
        · exact hi.mono (by omega)
        · exact v0_hi _
      · exact (hty.fr (fr_of GB.out (F := fun _ => False)) (fun _ _ h => h)).fr r3 (fun q hq e => by have := HTL.out q hq; omega)
      · exact (hfr.trans (fr_of GB.out (F := fun _ => False)) (fun _ _ h => h.elim)).trans r3 (fun i hi e => by omega)
  · have HR2 := Lib.hid (show RA = R from HRA.out.trans (if_neg (fun h => hE h.1)))
    have hb : (e == 0) = false := by simpa using hE
    obtain ⟨g3, n1, n2, ns⟩ := two_new Y #[.int .u64 v.n, .slice v.B v.bs.length v.d, .slice v.A v.ls.length v.c] 29 #[.int .i64 y, .int .i64 e] 78
    have GZ := Lib.hid g3
    have NV := Lib.hid n1
    have NF := Lib.hid n2
    have NK := Lib.hid (KY.out.grew g3 (by simp))
    have NC := Lib.hid (HCY.out.grew g3 (by simp) (fun _ h => by cases h))
    clear g3 n1 n2 ns
    go_upto_region 5 with (fail)
    generalize (Y.alloc (.cells #[.int .u64 v.n, .slice v.B v.bs.length v.d, .slice v.A v.ls.length v.c] 29)).alloc (.cells #[.int .i64 y, .int .i64 e] 78) = Z at *
    generalize hz : Y.heap.size = z at *
    have HZL := Lib.hid YS.out
    have HZY := Lib.hid (show Y.heap.size ≤ z + 1 by rw [hz]; omega)
    clear hz
    have HV := Lib.hid (show v.In Z ∧ v.Hi (w.heap.size + 2) ∧ True ∧ Tly Z t m (c + R.c) ∧ Fr w Z (fun i => t = some i) from ⟨HV0.out.1.grew GZ.out, HV0.out.2.1, trivial, HV0.out.2.2.2.1.fr (fr_of GZ.out (F := fun _ => False)) (fun _ _ h => h), HV0.out.2.2.2.2.trans (fr_of GZ.out (F := fun _ => False)) (fun _ _ h => h.elim)⟩)
    have ZV := Lib.hid (show Whole Z z v.cells 29 from NV.out)
    have ZF := Lib.hid (show Whole Z (z + 1) #[.int .i64 y, .int .i64 e] 78 from NF.out)
    have ZK := Lib.hid (show Whole Z (w.heap.size + 1) #[.int .u64 0, .slice none 0 0, .slice none 0 0] 29 from NK.out)
    have ZC := Lib.hid (show Cr Z p w0.heap.size ys a' from NC.out)
    have HNF := Lib.hid (show (tlV v e).nf = R.v by unfold tlV; rw [if_neg hE, HNO.out hE]; rfl)
    have HPL := Lib.hid (show tlI a' y e = a + R.n by unfold tlI; rw [if_neg hE]; exact HYN.out hE)
    have HEE := Lib.hid (show e = R.e from HE.out.symm)
    clear HV0 NV NF NK NC GZ HX HCY KY hE hb
    have GS := Lib.hid (show (fun w' => Whole w' z v.cells 29 ∧ Whole w' (z + 1) #[.int .i64 y, .int .i64 e] 78) (World.drew Z) from ⟨ZV.out, ZF.out⟩)
    have CD := Lib.hid (show Cr (World.drew Z) p w0.heap.size ys a' from ZC.out)
    have KD := Lib.hid (show Whole (World.drew Z) (w.heap.size + 1) #[.int .u64 0, .slice none 0 0, .slice none 0 0] 29 from ZK.out)
    refine act_letterC (fun A1 hA1 => ?_)
    have d8 : A1.eval (.tmp 8) = .pointer (some ⟨w.heap.size + 1, 0, none⟩) := by rw [← hA1]; rfl
    have d11 : A1.eval (.tmp 11) = .pointer (some ⟨p, 0, none⟩) := by rw [← hA1]; rfl
    have d12 : A1.eval (.tmp 12) = .pointer (some ⟨z, 0, none⟩) := by rw [← hA1]; rfl
    have d13 : A1.eval (.tmp 13) = .pointer (some ⟨z + 1, 0, none⟩) := by rw [← hA1]; rfl
    have szA1 : A1.tmps.size = 43 := by rw [← hA1]; rfl
    have HA1 := Lib.hid hA1
    clear hA1
    refine wp_region_held (S := fun w' => Whole w' z v.cells 29 ∧ Whole w' (z + 1) #[.int .i64 y, .int .i64 e] 78) (by kernel_rfl) ?_
    change wpAnyH _ _ _ _ _ _ _ _ (World.drew Z)
    refine wpAnyH_take (i := 0) (v := v.val) rfl (by kernel_rfl) (by kernel_rfl) (by kernel_rfl) (fun _ _ _ h => h) (.inl ⟨rfl, fun w g => run_loadV rfl d12 g.1⟩) GS.out ?_
    refine act_letter (fun A2 hA2 => ?_)
    replace d8 : A2.eval (.tmp 8) = .pointer (some ⟨w.heap.size + 1, 0, none⟩) := by rw [← hA2]; exact (ev_ne A1 (m := 35) (n := 8) (v.val) (by decide)).trans d8
    replace d11 : A2.eval (.tmp 11) = .pointer (some ⟨p, 0, none⟩) := by rw [← hA2]; exact (ev_ne A1 (m := 35) (n := 11) (v.val) (by decide)).trans d11
    replace d12 : A2.eval (.tmp 12) = .pointer (some ⟨z, 0, none⟩) := by rw [← hA2]; exact (ev_ne A1 (m := 35) (n := 12) (v.val) (by decide)).trans d12
    replace d13 : A2.eval (.tmp 13) = .pointer (some ⟨z + 1, 0, none⟩) := by rw [← hA2]; exact (ev_ne A1 (m := 35) (n := 13) (v.val) (by decide)).trans d13
    have e35 : A2.eval (.tmp 35) = v.val := by rw [← hA2]; exact ev_self A1 35 (v.val) (by omega)
    have szA2 : A2.tmps.size = 43 := by rw [← hA2]; exact (sz_put A1 35 (v.val)).trans szA1
    have HA2 := Lib.hid (show A1.put (some 35) (v.val) = A2 from hA2)
    clear hA2 szA1
    have d35 := e35
    clear e35
    refine wpAnyH_take (i := 1) (v := .pointer (some ⟨p, 0, none⟩)) rfl (by kernel_rfl) (by kernel_rfl) (by kernel_rfl) (fun _ _ _ h => h) (.inl ⟨rfl, fun w g => run_moveV rfl d11 w⟩) GS.out ?_
    refine act_letter (fun A3 hA3 => ?_)
    replace d8 : A3.eval (.tmp 8) = .pointer (some ⟨w.heap.size + 1, 0, none⟩) := by rw [← hA3]; exact (ev_ne A2 (m := 36) (n := 8) (.pointer (some ⟨p, 0, none⟩)) (by decide)).trans d8
    replace d11 : A3.eval (.tmp 11) = .pointer (some ⟨p, 0, none⟩) := by rw [← hA3]; exact (ev_ne A2 (m := 36) (n := 11) (.pointer (some ⟨p, 0, none⟩)) (by decide)).trans d11
    replace d12 : A3.eval (.tmp 12) = .pointer (some ⟨z, 0, none⟩) := by rw [← hA3]; exact (ev_ne A2 (m := 36) (n := 12) (.pointer (some ⟨p, 0, none⟩)) (by decide)).trans d12
    replace d13 : A3.eval (.tmp 13) = .pointer (some ⟨z + 1, 0, none⟩) := by rw [← hA3]; exact (ev_ne A2 (m := 36) (n := 13) (.pointer (some ⟨p, 0, none⟩)) (by decide)).trans d13
    replace d35 : A3.eval (.tmp 35) = v.val := by rw [← hA3]; exact (ev_ne A2 (m := 36) (n := 35) (.pointer (some ⟨p, 0, none⟩)) (by decide)).trans d35
    have e36 : A3.eval (.tmp 36) = .pointer (some ⟨p, 0, none⟩) := by rw [← hA3]; exact ev_self A2 36 (.pointer (some ⟨p, 0, none⟩)) (by omega)
    have szA3 : A3.tmps.size = 43 := by rw [← hA3]; exact (sz_put A2 36 (.pointer (some ⟨p, 0, none⟩))).trans szA2
    have HA3 := Lib.hid (show A2.put (some 36) (.pointer (some ⟨p, 0, none⟩)) = A3 from hA3)
    clear hA3 szA2
    have d36 := e36
    clear e36
    refine wpAnyH_take (i := 3) (v := fault y e) rfl (by kernel_rfl) (by kernel_rfl) (by kernel_rfl) (fun _ _ _ h => h) (.inl ⟨rfl, fun w g => run_loadFa rfl d13 g.2⟩) GS.out ?_
    refine act_letter (fun A4 hA4 => ?_)
    replace d8 : A4.eval (.tmp 8) = .pointer (some ⟨w.heap.size + 1, 0, none⟩) := by rw [← hA4]; exact (ev_ne A3 (m := 38) (n := 8) (fault y e) (by decide)).trans d8
    replace d35 : A4.eval (.tmp 35) = v.val := by rw [← hA4]; exact (ev_ne A3 (m := 38) (n := 35) (fault y e) (by decide)).trans d35
    replace d36 : A4.eval (.tmp 36) = .pointer (some ⟨p, 0, none⟩) := by rw [← hA4]; exact (ev_ne A3 (m := 38) (n := 36) (fault y e) (by decide)).trans d36
    have e38 : A4.eval (.tmp 38) = fault y e := by rw [← hA4]; exact ev_self A3 38 (fault y e) (by omega)
    have szA4 : A4.tmps.size = 43 := by rw [← hA4]; exact (sz_put A3 38 (fault y e)).trans szA3
    have HA4 := Lib.hid (show A3.put (some 38) (fault y e) = A4 from hA4)
    clear hA4 szA3 d11 d12 d13
    have d38 := e38
    clear e38
    refine wpAnyH_ready (rs := [2]) (by kernel_rfl) (by simp) ?_
    refine AllReadyH.cons rfl (fun K hK => ?_) AllReadyH.nil
    refine wp_callG rfl (rfl) enter_at (vs := #[.pointer (some ⟨p, 0, none⟩)]) (by simp [d36]) ((cr_atG _ p _ ys a' CD.out).mono ?_)
    rintro e x1 ⟨rfl, g1⟩
    refine ⟨_, rfl, hK.out _ _ (⟨GS.out.1.grew g1 (by simp), GS.out.2.grew g1 (by simp)⟩) (fun _ => ?_)⟩
    clear hK K
    have S1 := Lib.hid (show (fun w' => Whole w' z v.cells 29 ∧ Whole w' (z + 1) #[.int .i64 y, .int .i64 e] 78) x1 from ⟨GS.out.1.grew g1 (by simp), GS.out.2.grew g1 (by simp)⟩)
    have KA := Lib.hid (KD.out.grew g1 (by simp))
    have GA := Lib.hid (show Grew Z x1 none from grew_trans (grew_drew (grew_refl _ none)) g1)
    clear g1 CD KD
    clear GS
    refine act_letter (fun A5 hA5 => ?_)
    replace d8 : A5.eval (.tmp 8) = .pointer (some ⟨w.heap.size + 1, 0, none⟩) := by rw [← hA5]; exact (ev_ne A4 (m := 37) (n := 8) (.int .i64 a') (by decide)).trans d8
    replace d35 : A5.eval (.tmp 35) = v.val := by rw [← hA5]; exact (ev_ne A4 (m := 37) (n := 35) (.int .i64 a') (by decide)).trans d35
    replace d38 : A5.eval (.tmp 38) = fault y e := by rw [← hA5]; exact (ev_ne A4 (m := 37) (n := 38) (.int .i64 a') (by decide)).trans d38
    have e37 : A5.eval (.tmp 37) = .int .i64 a' := by rw [← hA5]; exact ev_self A4 37 (.int .i64 a') (by omega)
    have szA5 : A5.tmps.size = 43 := by rw [← hA5]; exact (sz_put A4 37 (.int .i64 a')).trans szA4
    have HA5 := Lib.hid (show A4.put (some 37) (.int .i64 a') = A5 from hA5)
    clear hA5 szA4 d36
    have d37 := e37
    clear e37
    refine wpAnyH_ready (rs := [4]) (by kernel_rfl) (by simp) ?_
    refine AllReadyH.cons rfl (fun K hK => ?_) AllReadyH.nil
    refine wp_callG rfl (rfl) enter_told (vs := #[v.val, .int .i64 a', fault y e]) (by simp [d35, d37, d38]) ((told_any _ v a' y e HYE.out).mono ?_)
    rintro e x2 ⟨rfl, g2⟩
    refine ⟨_, rfl, hK.out _ _ (⟨S1.out.1.grew g2 (by simp), S1.out.2.grew g2 (by simp)⟩) (fun _ => ?_)⟩
    clear hK K
    have S2 := Lib.hid (show (fun w' => Whole w' z v.cells 29 ∧ Whole w' (z + 1) #[.int .i64 y, .int .i64 e] 78) x2 from ⟨S1.out.1.grew g2 (by simp), S1.out.2.grew g2 (by simp)⟩)
    have KB := Lib.hid (KA.out.grew g2 (by simp))
    have GB := Lib.hid (show Grew Z x2 none from grew_trans GA.out g2)
    clear g2 KA GA
    clear S1
    refine act_letter (fun A6 hA6 => ?_)
    replace d8 : A6.eval (.tmp 8) = .pointer (some ⟨w.heap.size + 1, 0, none⟩) := by rw [← hA6]; exact (ev_ne A5 (m := 39) (n := 8) (.tuple #[(tlV v e).val, .int .i64 (tlI a' y e), .int .i64 e]) (by decide)).trans d8
    have e39 : A6.eval (.tmp 39) = .tuple #[(tlV v e).val, .int .i64 (tlI a' y e), .int .i64 e] := by rw [← hA6]; exact ev_self A5 39 (.tuple #[(tlV v e).val, .int .i64 (tlI a' y e), .int .i64 e]) (by omega)
    have szA6 : A6.tmps.size = 43 := by rw [← hA6]; exact (sz_put A5 39 (.tuple #[(tlV v e).val, .int .i64 (tlI a' y e), .int .i64 e])).trans szA5
    have HA6 := Lib.hid (show A5.put (some 39) (.tuple #[(tlV v e).val, .int .i64 (tlI a' y e), .int .i64 e]) = A6 from hA6)
    clear hA6 szA5 d35 d38 d37
    have d39 := e39
    clear e39
    refine wpAnyH_take (i := 5) (v := (tlV v e).val) rfl (by kernel_rfl) (by kernel_rfl) (by kernel_rfl) (fun _ _ _ h => h) (.inl ⟨rfl, fun w g => run_ext30 rfl d39 w⟩) S2.out ?_
    refine act_letter (fun A7 hA7 => ?_)
    replace d8 : A7.eval (.tmp 8) = .pointer (some ⟨w.heap.size + 1, 0, none⟩) := by rw [← hA7]; exact (ev_ne A6 (m := 40) (n := 8) ((tlV v e).val) (by decide)).trans d8
    replace d39 : A7.eval (.tmp 39) = .tuple #[(tlV v e).val, .int .i64 (tlI a' y e), .int .i64 e] := by rw [← hA7]; exact (ev_ne A6 (m := 40) (n := 39) ((tlV v e).val) (by decide)).trans d39
    have e40 : A7.eval (.tmp 40) = (tlV v e).val := by rw [← hA7]; exact ev_self A6 40 ((tlV v e).val) (by omega)
    have szA7 : A7.tmps.size = 43 := by rw [← hA7]; exact (sz_put A6 40 ((tlV v e).val)).trans szA6
    have HA7 := Lib.hid (show A6.put (some 40) ((tlV v e).val) = A7 from hA7)
    clear hA7 szA6
    have d40 := e40
    clear e40
    refine wpAnyH_take (i := 6) (v := .int .i64 (tlI a' y e)) rfl (by kernel_rfl) (by kernel_rfl) (by kernel_rfl) (fun _ _ _ h => h) (.inl ⟨rfl, fun w g => run_ext31 rfl d39 w⟩) S2.out ?_
    refine act_letter (fun A8 hA8 => ?_)
    replace d8 : A8.eval (.tmp 8) = .pointer (some ⟨w.heap.size + 1, 0, none⟩) := by rw [← hA8]; exact (ev_ne A7 (m := 41) (n := 8) (.int .i64 (tlI a' y e)) (by decide)).trans d8
    replace d39 : A8.eval (.tmp 39) = .tuple #[(tlV v e).val, .int .i64 (tlI a' y e), .int .i64 e] := by rw [← hA8]; exact (ev_ne A7 (m := 41) (n := 39) (.int .i64 (tlI a' y e)) (by decide)).trans d39
    replace d40 : A8.eval (.tmp 40) = (tlV v e).val := by rw [← hA8]; exact (ev_ne A7 (m := 41) (n := 40) (.int .i64 (tlI a' y e)) (by decide)).trans d40
    have e41 : A8.eval (.tmp 41) = .int .i64 (tlI a' y e) := by rw [← hA8]; exact ev_self A7 41 (.int .i64 (tlI a' y e)) (by omega)
    have szA8 : A8.tmps.size = 43 := by rw [← hA8]; exact (sz_put A7 41 (.int .i64 (tlI a' y e))).trans szA7
    have HA8 := Lib.hid (show A7.put (some 41) (.int .i64 (tlI a' y e)) = A8 from hA8)
    clear hA8 szA7
    have d41 := e41
    clear e41
    refine wpAnyH_take (i := 7) (v := .int .i64 e) rfl (by kernel_rfl) (by kernel_rfl) (by kernel_rfl) (fun _ _ _ h => h) (.inl ⟨rfl, fun w g => run_ext32 rfl d39 w⟩) S2.out ?_
    refine act_letter (fun A9 hA9 => ?_)
    replace d8 : A9.eval (.tmp 8) = .pointer (some ⟨w.heap.size + 1, 0, none⟩) := by rw [← hA9]; exact (ev_ne A8 (m := 42) (n := 8) (.int .i64 e) (by decide)).trans d8
    replace d40 : A9.eval (.tmp 40) = (tlV v e).val := by rw [← hA9]; exact (ev_ne A8 (m := 42) (n := 40) (.int .i64 e) (by decide)).trans d40
    replace d41 : A9.eval (.tmp 41) = .int .i64 (tlI a' y e) := by rw [← hA9]; exact (ev_ne A8 (m := 42) (n := 41) (.int .i64 e) (by decide)).trans d41
    have e42 : A9.eval (.tmp 42) = .int .i64 e := by rw [← hA9]; exact ev_self A8 42 (.int .i64 e) (by omega)
    have szA9 : A9.tmps.size = 43 := by rw [← hA9]; exact (sz_put A8 42 (.int .i64 e)).trans szA8
    have HA9 := Lib.hid (show A8.put (some 42) (.int .i64 e) = A9 from hA9)
    clear hA9 szA8 d39
    have d42 := e42
    clear e42
    refine wpAnyH_ready (rs := [8]) (by kernel_rfl) (by simp) ?_
    refine AllReadyH.cons rfl (fun K hK => ?_) AllReadyH.nil
    refine wp_skipG rfl (w' := put3 x2 (w.heap.size + 1) (.int .u64 (tlV v e).n) (.slice (tlV v e).B (tlV v e).bs.length (tlV v e).d) (.slice (tlV v e).A (tlV v e).ls.length (tlV v e).c)) (run_storeVa rfl d8 d40 KB.out) (hK.out _ _ (⟨S2.out.1.fr (fr_put3 _ _ _ _ _) (by have := HZL.out; omega), S2.out.2.fr (fr_put3 _ _ _ _ _) (by have := HZL.out; omega)⟩) (fun _ => ?_))
    clear hK K
    have S3 := Lib.hid (show (fun w' => Whole w' z v.cells 29 ∧ Whole w' (z + 1) #[.int .i64 y, .int .i64 e] 78) (put3 x2 (w.heap.size + 1) (.int .u64 (tlV v e).n) (.slice (tlV v e).B (tlV v e).bs.length (tlV v e).d) (.slice (tlV v e).A (tlV v e).ls.length (tlV v e).c)) from ⟨S2.out.1.fr (fr_put3 _ _ _ _ _) (by have := HZL.out; omega), S2.out.2.fr (fr_put3 _ _ _ _ _) (by have := HZL.out; omega)⟩)
    clear S2
    refine act_letter (fun A10 hA10 => ?_)
    replace d8 : A10.eval (.tmp 8) = .pointer (some ⟨w.heap.size + 1, 0, none⟩) := by rw [← hA10]; exact d8
    replace d40 : A10.eval (.tmp 40) = (tlV v e).val := by rw [← hA10]; exact d40
    replace d41 : A10.eval (.tmp 41) = .int .i64 (tlI a' y e) := by rw [← hA10]; exact d41
    replace d42 : A10.eval (.tmp 42) = .int .i64 e := by rw [← hA10]; exact d42
    have szA10 : A10.tmps.size = 43 := by rw [← hA10]; exact szA9
    have HA10 := Lib.hid (show A9 = A10 from hA10)
    clear hA10 szA9
    refine wpAnyH_take (i := 9) (v := .int .i64 (tlI a' y e)) rfl (by kernel_rfl) (by kernel_rfl) (by kernel_rfl) (fun _ _ _ h => h) (.inl ⟨rfl, fun w g => run_assign rfl d41 w⟩) S3.out ?_
    refine act_letter (fun A11 hA11 => ?_)
    replace d8 : A11.eval (.tmp 8) = .pointer (some ⟨w.heap.size + 1, 0, none⟩) := by rw [← hA11]; exact (ev_ne A10 (m := 9) (n := 8) (.int .i64 (tlI a' y e)) (by decide)).trans d8
    replace d40 : A11.eval (.tmp 40) = (tlV v e).val := by rw [← hA11]; exact (ev_ne A10 (m := 9) (n := 40) (.int .i64 (tlI a' y e)) (by decide)).trans d40
    replace d41 : A11.eval (.tmp 41) = .int .i64 (tlI a' y e) := by rw [← hA11]; exact (ev_ne A10 (m := 9) (n := 41) (.int .i64 (tlI a' y e)) (by decide)).trans d41
    replace d42 : A11.eval (.tmp 42) = .int .i64 e := by rw [← hA11]; exact (ev_ne A10 (m := 9) (n := 42) (.int .i64 (tlI a' y e)) (by decide)).trans d42
    have e9 : A11.eval (.tmp 9) = .int .i64 (tlI a' y e) := by rw [← hA11]; exact ev_self A10 9 (.int .i64 (tlI a' y e)) (by omega)
    have szA11 : A11.tmps.size = 43 := by rw [← hA11]; exact (sz_put A10 9 (.int .i64 (tlI a' y e))).trans szA10
    have HA11 := Lib.hid (show A10.put (some 9) (.int .i64 (tlI a' y e)) = A11 from hA11)
    clear hA11 szA10
    have d9 := e9
    clear e9
    refine wpAnyH_take (i := 10) (v := .int .i64 e) rfl (by kernel_rfl) (by kernel_rfl) (by kernel_rfl) (fun _ _ _ h => h) (.inl ⟨rfl, fun w g => run_assign rfl d42 w⟩) S3.out ?_
    refine act_letter (fun A12 hA12 => ?_)
    replace d8 : A12.eval (.tmp 8) = .pointer (some ⟨w.heap.size + 1, 0, none⟩) := by rw [← hA12]; exact (ev_ne A11 (m := 10) (n := 8) (.int .i64 e) (by decide)).trans d8
    replace d40 : A12.eval (.tmp 40) = (tlV v e).val := by rw [← hA12]; exact (ev_ne A11 (m := 10) (n := 40) (.int .i64 e) (by decide)).trans d40
    replace d41 : A12.eval (.tmp 41) = .int .i64 (tlI a' y e) := by rw [← hA12]; exact (ev_ne A11 (m := 10) (n := 41) (.int .i64 e) (by decide)).trans d41
    replace d42 : A12.eval (.tmp 42) = .int .i64 e := by rw [← hA12]; exact (ev_ne A11 (m := 10) (n := 42) (.int .i64 e) (by decide)).trans d42
    replace d9 : A12.eval (.tmp 9) = .int .i64 (tlI a' y e) := by rw [← hA12]; exact (ev_ne A11 (m := 10) (n := 9) (.int .i64 e) (by decide)).trans d9
    have e10 : A12.eval (.tmp 10) = .int .i64 e := by rw [← hA12]; exact ev_self A11 10 (.int .i64 e) (by omega)
    have szA12 : A12.tmps.size = 43 := by rw [← hA12]; exact (sz_put A11 10 (.int .i64 e)).trans szA11
    have HA12 := Lib.hid (show A11.put (some 10) (.int .i64 e) = A12 from hA12)
    clear hA12 szA11
    have d10 := e10
    clear e10
    refine wpAnyH_done (by kernel_rfl) ?_ _
    rw [← HA12.out, ← HA11.out, ← HA10.out, ← HA9.out, ← HA8.out, ← HA7.out, ← HA6.out, ← HA5.out, ← HA4.out, ← HA3.out, ← HA2.out, ← HA1.out]
    clear HA2 HA3 HA4 HA5 HA6 HA7 HA8 HA9 HA10 HA11 HA12 HA1 d8 d40 d41 d42 d9 d10 szA12
    simp only [Act.put, List.setIfInBounds_toArray, List.set_cons_zero, List.set_cons_succ]
    clear S3
    go_wp2_with fail
    have r1 := KB.out.put3 (.int .u64 (tlV v e).n) (.slice (tlV v e).B (tlV v e).bs.length (tlV v e).d) (.slice (tlV v e).A (tlV v e).ls.length (tlV v e).c)
    have r3 := fr_put3 x2 (w.heap.size + 1) (.int .u64 (tlV v e).n) (.slice (tlV v e).B (tlV v e).bs.length (tlV v e).d) (.slice (tlV v e).A (tlV v e).ls.length (tlV v e).c)
    refine bodyPost_ret (results_cell_tmps rfl _ _ _ _ _ _ _ rfl r1 Try.underlying29 rfl (by kernel_rfl)) rfl ?_
    obtain ⟨hv, hi, hnf, hty, hfr⟩ := HV.out
    have hzl := HZL.out
    rw [HR2.out]
    refine ⟨tlV v e, ?_, ?_, ?_, HNF.out, ?_, ?_⟩
    · rw [← HPL.out, ← HEE.out]; rfl
    · refine In.fr (k := w.heap.size + 2) (In.grew ?_ GB.out) r3 ?_ (fun i h => by omega)
      · unfold tlV; split
        · exact hv
        · exact v0_in _
      · unfold tlV; split
        · exact hi
        · exact v0_hi _
    · unfold tlV; split
      · exact hi.mono (by omega)
      · exact v0_hi _
    · exact (hty.fr (fr_of GB.out (F := fun _ => False)) (fun _ _ h => h)).fr r3 (fun q hq e => by have := HTL.out q hq; omega)
    · exact (hfr.trans (fr_of GB.out (F := fun _ => False)) (fun _ _ h => h.elim)).trans r3 (fun i hi e => by omega)
end Go.Proofs.Ytibbeodcheefaaa


/- Reading: Read. -/
namespace Go.Proofs.Ytibbeodcheefaaa
open Go.RowKit Va

set_option maxRecDepth 100000 in
set_option maxHeartbeats 1000000 in
/-- Read: Counted of no tally. -/
theorem read_hi (w : World) (f : Fo) (hf : f.In w) (A : Option Addr) (cp : Nat) (xs : List UInt8) (hl : xs.length ≤ cp) (hcp : xs.length ≤ 140737488351232) (hb : Byt w w.heap.size A xs) (a : Int) (h0 : 0 ≤ a) (ha : a + xs.length ≤ 4611686018427387904) :
    Calls Try.prog 12 #[f.val, .slice A xs.length cp, .int .i64 a] w fun e w' => ∃ v : Va, e = .returned (.tuple #[v.val, .int .i64 (a + (rdAll f xs).n), .int .i64 (rdAll f xs).e]) ∧ v.In w' ∧ v.nf = (rdAll f xs).v ∧ Grew w w' none ∧ v.Hi w.heap.size := by
  obtain ⟨g1, k0, k1, ks⟩ := two_new w #[.int .i64 f.k, .int .i64 f.s, .int .i64 f.l, .int .i64 f.h, .int .i64 f.t, .slice f.A f.ps.length f.c] 24 #[.int .u64 0, .slice none 0 0, .slice none 0 0] 29
  have HC := Lib.hid (fun (W : World) (g : Grew w W none) => counted_any w W f hf g A cp xs hl hcp hb a h0 ha none 0 0 (fun q hq => by cases hq) (fun q hq => by cases hq) (fun h => absurd rfl h))
  have G1 := Lib.hid g1
  have K1 := Lib.hid k1
  have KS := Lib.hid ks
  clear hf hl hcp hb h0 ha g1 k0 k1 ks
  rw [val_eq]
  generalize hRA : rdAll f xs = R at *
  clear hRA
  go_enter Try.func12, Try.ntmps12
  go_wp2_with fail
  generalize (w.alloc (.cells #[.int .i64 f.k, .int .i64 f.s, .int .i64 f.l, .int .i64 f.h, .int .i64 f.t, .slice f.A f.ps.length f.c] 24)).alloc (.cells #[.int .u64 0, .slice none 0 0, .slice none 0 0] 29) = W at *
  refine (HC.out W G1.out).mono ?_
  rintro e X ⟨v, rfl, hv, hi, hnf, hT, hF⟩
  have g : Grew W X none := grew_fr (grew_refl _ _) hF (fun i h => by cases h)
  have k1 := K1.out.grew g (by simp)
  have K1' := Lib.hid k1
  obtain ⟨c0, c1, c2⟩ := k1.three
  have f1 := k1.frozen
  have GX := Lib.hid (grew_trans G1.out g)
  have HV := Lib.hid (show v.In X ∧ v.Hi W.heap.size ∧ v.nf = R.v from ⟨hv, hi, hnf⟩)
  clear hv hi hnf hT hF g k1 K1 G1 HC
  rw [vval_eq]
  go_wp2_with fail
  have r1 := K1'.out.put3 (.int .u64 v.n) (.slice v.B v.bs.length v.d) (.slice v.A v.ls.length v.c)
  refine bodyPost_ret (results_cell_tmps rfl _ _ _ _ _ _ _ rfl r1 Try.underlying29 rfl (by kernel_rfl)) rfl ?_
  obtain ⟨hv, hi, hnf⟩ := HV.out
  have hks := KS.out
  exact ⟨v, rfl, hv.fr (fr_put3 _ _ _ _ _) hi (fun i h => by omega), hnf, grew_put3 GX.out (by omega) _ _ _, hi.mono (by omega)⟩

set_option maxRecDepth 100000 in
theorem read_any (w : World) (f : Fo) (hf : f.In w) (A : Option Addr) (cp : Nat) (xs : List UInt8) (hl : xs.length ≤ cp) (hcp : xs.length ≤ 140737488351232) (hb : Byt w w.heap.size A xs) (a : Int) (h0 : 0 ≤ a) (ha : a + xs.length ≤ 4611686018427387904) :
    Calls Try.prog 12 #[f.val, .slice A xs.length cp, .int .i64 a] w fun e w' => ∃ v : Va, e = .returned (.tuple #[v.val, .int .i64 (a + (rdAll f xs).n), .int .i64 (rdAll f xs).e]) ∧ v.In w' ∧ v.nf = (rdAll f xs).v ∧ Grew w w' none :=
  (read_hi w f hf A cp xs hl hcp hb a h0 ha).mono (fun _ _ ⟨v, h1, h2, h3, h4, _⟩ => ⟨v, h1, h2, h3, h4⟩)

end Go.Proofs.Ytibbeodcheefaaa


/- The document's Same of values. -/
namespace Go.Proofs.Ytibbeodcheefaaa
open Go.RowKit Va

set_option maxRecDepth 100000 in
set_option maxHeartbeats 1000000 in
theorem rsamev_any (a : Va) : ∀ (b : Va) (w : World), a.In w → b.In w →
    Calls Try.prog 13 #[a.val, b.val] w fun e w' => e = .returned (.bool (same a b)) ∧ Grew w w' none := by
  induction a using Va.ind with
  | H n B d bs A c ls ih =>
  intro u w ha hu
  have IH := Lib.hid ih
  have HA := Lib.hid ha
  have HU := Lib.hid hu
  have hE : same (.mk n B d bs A c ls) u = (decide (n = u.n) && decide (bs = u.bs) && decide (ls.length = u.ls.length) && sames ls u.ls) := by rw [same]
  have HE := Lib.hid hE
  generalize same (.mk n B d bs A c ls) u = E at *
  have hz := ha.list.2.2
  have hz2 := hu.list.2.2
  simp only [Va.ls] at hz
  clear ih hE
  have hg2 := grew_alloc (grew_alloc (grew_refl w none) (.cells #[.int .u64 n, .slice B bs.length d, .slice A ls.length c] 29)) (.cells #[.int .u64 u.n, .slice u.B u.bs.length u.d, .slice u.A u.ls.length u.c] 29)
  have hcv1 : (convert 26 9 (.slice B bs.length d)).run Try.prog ((w.alloc (.cells #[.int .u64 n, .slice B bs.length d, .slice A ls.length c] 29)).alloc (.cells #[.int .u64 u.n, .slice u.B u.bs.length u.d, .slice u.A u.ls.length u.c] 29)) = .ok (.string (txt bs)) ((w.alloc (.cells #[.int .u64 n, .slice B bs.length d, .slice A ls.length c] 29)).alloc (.cells #[.int .u64 u.n, .slice u.B u.bs.length u.d, .slice u.A u.ls.length u.c] 29)) := conv_txt (P := Try.prog) _ Try.underlying26 Try.underlying5 Try.underlying9 (ha.grew hg2).bytes.1 rfl d
  have hcv2 := conv_txt (P := Try.prog) _ Try.underlying26 Try.underlying5 Try.underlying9 (hu.grew hg2).bytes.1 rfl u.d
  clear ha hu
  change Calls Try.prog 13 #[.agg #[.int .u64 n, .slice B bs.length d, .slice A ls.length c], .agg #[.int .u64 u.n, .slice u.B u.bs.length u.d, .slice u.A u.ls.length u.c]] w _
  by_cases hn : n = u.n
  · by_cases hb : bs = u.bs
    · by_cases hl : ls.length = u.ls.length
      · have HE2 := Lib.hid (show E = sames ls u.ls by rw [HE.out, decide_eq_true hn, decide_eq_true hb, decide_eq_true hl]; rfl)
        have hnb : (n != u.n) = false := by simpa using hn
        have htt : txt u.bs = txt bs := by rw [hb]
        rw [htt] at hcv2
        clear htt
        generalize txt bs = T1 at *
        have hlb : ((ls.length : Int) != (u.ls.length : Int)) = false := by simp; omega
        have HLN := Lib.hid hl
        have HNB := Lib.hid (show n = u.n ∧ bs = u.bs from ⟨hn, hb⟩)
        clear hn hb hl HE
        have hw2 := Whole.new_at (w.alloc (.cells #[.int .u64 n, .slice B bs.length d, .slice A ls.length c] 29)) #[.int .u64 u.n, .slice u.B u.bs.length u.d, .slice u.A u.ls.length u.c] 29 (p := w.heap.size + 1) (by simp)
        have hw1 := (Whole.new w #[.int .u64 n, .slice B bs.length d, .slice A ls.length c] 29).grew (grew_alloc (grew_refl _ none) (.cells #[.int .u64 u.n, .slice u.B u.bs.length u.d, .slice u.A u.ls.length u.c] 29)) (by simp)
        have HR := Lib.hid (show Grew w _ none ∧ Whole _ w.heap.size _ 29 ∧ Whole _ (w.heap.size + 1) _ 29 ∧ sames (ls.drop 0) (u.ls.drop 0) = E from ⟨hg2, hw1, hw2, HE2.out.symm⟩)
        clear hw1 hw2 hg2
        go_enter Try.func13, Try.ntmps13
        go_wp2_with fail
        clear hcv1 hcv2 hnb hlb
        generalize (w.alloc (.cells #[.int .u64 n, .slice B bs.length d, .slice A ls.length c] 29)).alloc (.cells #[.int .u64 u.n, .slice u.B u.bs.length u.d, .slice u.A u.ls.length u.c] 29) = W2 at *
        generalize w.heap.size + 1 = q2 at *
        generalize w.heap.size = q1 at *
        go_loopw [5] (fun i wr => ∃ (j : Nat), j ≤ ls.length ∧ i = .int .i64 j ∧ Hid (Grew w wr none ∧ Whole wr q1 #[.int .u64 n, .slice B bs.length d, .slice A ls.length c] 29 ∧ Whole wr q2 #[.int .u64 u.n, .slice u.B u.bs.length u.d, .slice u.A u.ls.length u.c] 29 ∧ sames (ls.drop j) (u.ls.drop j) = E)) (fun i _ => ls.length - (intOf i).toNat)
        case atStart => exact ⟨0, Nat.zero_le _, rfl, HR⟩
        case round =>
          obtain ⟨j, hj, rfl, R⟩ := hrel
          obtain ⟨a0, a1, a2⟩ := R.out.2.1.three
          by_cases hlt : j < ls.length
          · have hlu : j < u.ls.length := by have := HLN.out; omega
            go_wp2_with fail
            obtain ⟨b1, o1, p, hA, hp, hpm, d0, d1, d2⟩ := (HA.out.list.1.grew R.out.1).at hlt
            obtain ⟨b2, o2, r, hB, hr, hrm, e0, e1, e2⟩ := (HU.out.list.1.grew R.out.1).at hlu
            obtain ⟨k0, k1, k2⟩ := R.out.2.2.1.three
            simp only [Va.A] at hA
            subst hA
            rw [hB] at k2
            change ls[j]? = some p at hp
            have hI := IH.out p hpm r
            have hIp := (HA.out.grew R.out.1).parts p hpm
            have hIr := (HU.out.grew R.out.1).parts r hrm
            have hs : sames (ls.drop j) (u.ls.drop j) = (same p r && sames (ls.drop (j + 1)) (u.ls.drop (j + 1))) := by
              rw [Va.drop_at hp, Va.drop_at hr, sames]
            have hS := R.out.2.2.2
            rw [hs] at hS
            generalize same p r = Z at *
            have HCV : Hid (∀ x, Calls Try.prog 13 #[.agg #[.int .u64 p.n, .slice p.B p.bs.length p.d, .slice p.A p.ls.length p.c], .agg #[.int .u64 r.n, .slice r.B r.bs.length r.d, .slice r.A r.ls.length r.c]] (World.pad wr x) fun e w'' => e = .returned (.bool Z) ∧ Grew (World.pad wr x) w'' none) := Lib.hid (fun x => hI _ (hIp.grew (grew_pad _ _)) (hIr.grew (grew_pad _ _)))
            have HS := Lib.hid hS
            have l2 : ∀ x, (World.pad wr x).cell? ⟨q1, 2, none⟩ = some (.slice (some ⟨b1, o1, none⟩) ls.length c) := fun x => pad_cell a2 x
            have l3 : ∀ x, (World.pad wr x).cell? ⟨q2, 2, none⟩ = some (.slice (some ⟨b2, o2, none⟩) u.ls.length u.c) := fun x => pad_cell k2 x
            have f0 := fun x => pad_cell d0 x
            have f1 := fun x => pad_cell d1 x
            have f2 := fun x => pad_cell d2 x
            have g0 := fun x => pad_cell e0 x
            have g1 := fun x => pad_cell e1 x
            have g2 := fun x => pad_cell e2 x
            have i0 : (0 : Int) ≤ (j : Int) := by omega
            have i1 : (j : Int) < (ls.length : Int) := by omega
            have i2 : (j : Int) < (u.ls.length : Int) := by omega
            clear d0 d1 d2 e0 e1 e2 a0 a1 a2 k0 k1 k2 hB hI hIp hIr hs hS hp hpm hr hrm
            refine wp_region_pad (by kernel_rfl) (by kernel_rfl) ?_
            repeat (go_big_quiet_step ((go_at_call 13; exact pad_call (HCV.out _))))
            refine wpQuiet_nil ?_
            rintro _ ⟨xq, rfl⟩
            clear l2 l3 f0 f1 f2 g0 g1 g2
            have HG := Lib.hid (show Grew w (World.pad wr xq) none ∧ Whole (World.pad wr xq) q1 _ _ ∧ Whole (World.pad wr xq) q2 _ _ from ⟨grew_trans R.out.1 (grew_pad _ _), R.out.2.1.grew (grew_pad _ _) (by simp), R.out.2.2.1.grew (grew_pad _ _) (by simp)⟩)
            clear R
            cases Z with
            | true =>
              have HR2 := Lib.hid (show Grew w (World.pad wr xq) none ∧ Whole (World.pad wr xq) q1 #[.int .u64 n, .slice B bs.length d, .slice (some ⟨b1, o1, none⟩) ls.length c] 29 ∧ Whole (World.pad wr xq) q2 #[.int .u64 u.n, .slice u.B u.bs.length u.d, .slice u.A u.ls.length u.c] 29 ∧ sames (ls.drop (j + 1)) (u.ls.drop (j + 1)) = E from ⟨HG.out.1, HG.out.2.1, HG.out.2.2, by have := HS.out; simpa using this⟩)
              clear HS HG
              go_wp2_with fail
              go_roundw
              case rel => exact ⟨j + 1, by omega, by go_num, HR2⟩
              case measure => simp [intOf]; omega
            | false =>
              have HE3 := Lib.hid (show E = false by have := HS.out; simpa using this.symm)
              go_wp2_with fail
              go_ret
              exact ⟨by rw [HE3.out]; rfl, HG.out.1⟩
          · have HE3 := Lib.hid (show E = true by
              have h3 := R.out.2.2.2
              have : j = ls.length := by omega
              rw [this, List.drop_length, sames] at h3
              exact h3.symm)
            have HG := Lib.hid R.out.1
            clear R
            go_wp2_with fail
            go_ret
            exact ⟨by rw [HE3.out]; rfl, HG.out⟩
      · have HE2 := Lib.hid (show E = false by rw [HE.out, decide_eq_false hl]; simp)
        have hnb : (n != u.n) = false := by simpa using hn
        have htt : txt u.bs = txt bs := by rw [hb]
        rw [htt] at hcv2
        clear htt
        generalize txt bs = T1 at *
        have hlb : ((ls.length : Int) != (u.ls.length : Int)) = true := by simp; omega
        have HG := Lib.hid hg2
        clear hn hb hl HE hg2
        go_enter Try.func13, Try.ntmps13
        go_wp2_with fail
        go_ret
        exact ⟨by rw [HE2.out]; rfl, HG.out⟩
    · have HE2 := Lib.hid (show E = false by rw [HE.out, decide_eq_false hb]; simp)
      have hnb : (n != u.n) = false := by simpa using hn
      have htb : ¬ (txt bs).toList = (txt u.bs).toList := fun e => hb (by rw [ByteArray.toList_eq, ByteArray.toList_eq] at e; simpa [txt] using e)
      have HG := Lib.hid hg2
      clear hn hb HE hg2
      generalize txt bs = T1 at *
      generalize txt u.bs = T2 at *
      go_enter Try.func13, Try.ntmps13
      go_wp2_with fail
      go_ret
      exact ⟨by rw [HE2.out]; rfl, HG.out⟩
  · have HE2 := Lib.hid (show E = false by rw [HE.out, decide_eq_false hn]; simp)
    have hnb : (n != u.n) = true := by simpa using hn
    have HG := Lib.hid hg2
    clear hn HE hg2 hcv1 hcv2
    go_enter Try.func13, Try.ntmps13
    go_wp2_with fail
    go_ret
    exact ⟨by rw [HE2.out]; rfl, HG.out⟩

theorem sames_refl {ls : List Va} (h : ∀ p ∈ ls, same p p = true) : sames ls ls = true := by
  induction ls with
  | nil => rw [sames]
  | cons p ps ih => rw [sames, h p (by simp), ih (fun q hq => h q (by simp [hq]))]; rfl
theorem samev_refl (v : Va) : same v v = true := by
  induction v using Va.ind with
  | H n B d bs A c ls ih => rw [same]; simp [Va.n, Va.bs, Va.ls, sames_refl ih]
/-- Where things lie plays no part. -/
theorem samev_self (n : Int) (B B' : Option Addr) (d d' : Nat) (bs : List UInt8) (A A' : Option Addr) (c c' : Nat) (ls : List Va) : same (.mk n B d bs A c ls) (.mk n B' d' bs A' c' ls) = true := by
  rw [same]; simp [Va.n, Va.bs, Va.ls, sames_refl (fun p _ => samev_refl p)]
end Go.Proofs.Ytibbeodcheefaaa


/- How arguments that came in are opened: bytes, numbers, acts. -/
namespace Go.Proofs.Ytibbeodcheefaaa
open Go.ChangeShapes Go.WideShapes Go.ChangeAt Go.RowKit Go.Deep

set_option maxRecDepth 100000 in
theorem own : ownKnob Try.prog.godebug = none := by kernel_rfl
set_option maxRecDepth 100000 in
theorem laidOut : laidOutB Try.prog = true := by kernel_rfl
set_option maxRecDepth 100000 in
theorem bytes_u8 : Try.prog.bytesOf 5 = 1 := by kernel_rfl
set_option maxRecDepth 100000 in
theorem bytes_int : Try.prog.bytesOf 3 = 8 := by kernel_rfl
set_option maxRecDepth 100000 in
theorem cells_u8 : Try.prog.cellsOf 5 = 1 := by kernel_rfl
set_option maxRecDepth 100000 in
theorem cells_int : Try.prog.cellsOf 3 = 1 := by kernel_rfl

set_option maxRecDepth 100000 in
theorem add_zero_of_cell {w : World} {a : Addr} {n : Nat} {v : Value} (h : w.cell? (a.add n) = some v) : n = 0 → a.spot = none := by
  intro e
  subst e
  have := World.cell?_spot h
  simpa [Addr.add] using this

set_option maxRecDepth 100000 in
theorem add_form (b o n : Nat) : (⟨b, o, none⟩ : Addr).add n = ⟨b, o + n, none⟩ := by
  unfold Addr.add
  split <;> simp_all

section
variable {H : Type} {enc : TypeId × Value → H} {W : World} {v : Value} {d : DataW H} {p : List MemPlace} {base : Nat} {ts : List TypeId} {ds : List (DataW H)}

set_option maxRecDepth 100000 in
/-- Bytes that came in. -/
theorem arg_bytes (hv : Value.okWide Try.prog W .any base 26 v) (h : DataW.Trod enc Try.prog W 0 (fun _ => true) true 26 v d p)
    (hsz : (DataW.weightsEach Try.prog ts ds).all (· ≤ reachBytes) = true) {j : Nat} (hj : ts[j]? = some 26) (hd : ds[j]? = some d) :
    ∃ (A : Option Addr) (c : Nat) (xs : List UInt8), v = .slice A xs.length c ∧ xs.length ≤ c ∧ c ≤ 140737488351232 ∧ Byt W W.heap.size A xs := by
  obtain ⟨A, n, c, rfl⟩ := okWide_slice Try.underlying26 hv
  obtain ⟨fuel, hf⟩ := h
  rcases open_ints Try.underlying26 Try.underlying5 cells_u8 hf with ⟨hcs, _⟩ | ⟨x, l, c', zs, hcs, _, hl, hm, hz, hx, hcell, hwz⟩
  · simp [Value.cells] at hcs
    obtain ⟨rfl, rfl, rfl⟩ := hcs
    exact ⟨none, 0, [], rfl, Nat.le_refl _, by omega, fun h => by simp at h⟩
  · simp [Value.cells] at hcs
    obtain ⟨rfl, rfl, rfl⟩ := hcs
    simp only [Prod.mk.injEq] at hx
    obtain ⟨rfl, rfl⟩ := hx
    simp only [if_true] at hz
    have hreach : c ≤ 140737488351232 := by
      have := sized_slice hsz hj hd Try.underlying26
      rw [bytes_u8] at this
      simp only [lits, List.length_map, List.length_take, List.length_drop, reachBytes] at this
      omega
    have hle : ((zs.take n).map fun z => UInt8.ofNat z.toNat).length = n := by
      rw [List.length_map, List.length_take]; omega
    refine ⟨some x, c, (zs.take n).map fun z => UInt8.ofNat z.toNat, by rw [hle], by rw [hle]; exact hl, hreach, ?_⟩
    intro hn
    rw [hle] at hn ⊢
    obtain ⟨b, o, s⟩ := x
    have hs : s = none := by
      have := add_zero_of_cell (hcell 0 (by omega)) rfl
      exact this
    subst hs
    refine ⟨b, o, rfl, ?_, fun i hi => ?_⟩
    · have := World.block_lt_of_cell? _ _ (hcell 0 (by omega))
      rwa [add_form] at this
    · have h1 := hcell i (by omega)
      rw [add_form] at h1
      rw [h1]
      have hi' : i < zs.length := by omega
      have hm : zs[i] ∈ zs := List.getElem_mem hi'
      have hw := hwz _ hm
      have hb := bounds_u8 hw
      simp only [List.getD, List.getElem?_map, List.getElem?_take_of_lt hi, List.getElem?_eq_getElem hi', Option.map_some, Option.getD_some]
      congr 2
      simp
      omega

/-- Numbers that came in. -/
def Nums (w : World) (A : Option Addr) (zs : List Int) : Prop :=
  0 < zs.length → ∃ b o, A = some ⟨b, o, none⟩ ∧ b < w.heap.size ∧ ∀ i, i < zs.length → w.cell? ⟨b, o + i, none⟩ = some (.int .i64 (zs.getD i 0))

set_option maxRecDepth 100000 in
theorem arg_ints (hv : Value.okWide Try.prog W .any base 42 v) (h : DataW.Trod enc Try.prog W 0 (fun _ => true) true 42 v d p)
    (hsz : (DataW.weightsEach Try.prog ts ds).all (· ≤ reachBytes) = true) {j : Nat} (hj : ts[j]? = some 42) (hd : ds[j]? = some d) :
    ∃ (A : Option Addr) (c : Nat) (zs : List Int), v = .slice A zs.length c ∧ zs.length ≤ c ∧ c ≤ 140737488351232 ∧ Nums W A zs ∧ ∀ z ∈ zs, (Lit.int .i64 z).wf = true := by
  obtain ⟨A, n, c, rfl⟩ := okWide_slice Try.underlying42 hv
  obtain ⟨fuel, hf⟩ := h
  rcases open_ints Try.underlying42 Try.underlying3 cells_int hf with ⟨hcs, _⟩ | ⟨x, l, c', zs, hcs, _, hl, hm, hz, hx, hcell, hwz⟩
  · simp [Value.cells] at hcs
    obtain ⟨rfl, rfl, rfl⟩ := hcs
    exact ⟨none, 0, [], rfl, Nat.le_refl _, by omega, fun h => by simp at h, fun z hz => by simp at hz⟩
  · simp [Value.cells] at hcs
    obtain ⟨rfl, rfl, rfl⟩ := hcs
    simp only [Prod.mk.injEq] at hx
    obtain ⟨rfl, rfl⟩ := hx
    simp only [if_true] at hz
    have hreach : c ≤ 140737488351232 := by
      have := sized_slice hsz hj hd Try.underlying42
      rw [bytes_int] at this
      simp only [lits, List.length_map, List.length_take, List.length_drop, reachBytes] at this
      omega
    have hle : (zs.take n).length = n := by rw [List.length_take]; omega
    refine ⟨some x, c, zs.take n, by rw [hle], by rw [hle]; exact hl, hreach, ?_, fun z hz => hwz z (List.mem_of_mem_take hz)⟩
    intro hn
    rw [hle] at hn ⊢
    obtain ⟨b, o, s⟩ := x
    have hs : s = none := add_zero_of_cell (hcell 0 (by omega)) rfl
    subst hs
    refine ⟨b, o, rfl, ?_, fun i hi => ?_⟩
    · have := World.block_lt_of_cell? _ _ (hcell 0 (by omega))
      rwa [add_form] at this
    · have h1 := hcell i (by omega)
      rw [add_form] at h1
      rw [h1]
      simp [List.getD, List.getElem?_take_of_lt hi]

end
end Go.Proofs.Ytibbeodcheefaaa


/- Forms that came in: as values, as lists of them; rows of four numbers. -/
namespace Go.Proofs.Ytibbeodcheefaaa
open Go.ChangeShapes Go.WideShapes Go.ChangeAt Go.RowKit Go.Deep Fo

instance : Inhabited Fo := ⟨.mk 0 0 0 0 0 none 0 []⟩
set_option maxRecDepth 100000 in
theorem bytes_form : Try.prog.bytesOf 24 = 64 := by kernel_rfl
set_option maxRecDepth 100000 in
theorem cells_form : Try.prog.cellsOf 24 = 6 := by kernel_rfl
set_option maxRecDepth 100000 in
theorem cells_forms : Try.prog.cellsOf 22 = 1 := by kernel_rfl
set_option maxRecDepth 100000 in
theorem weightsAll_mem {H : Type} {P : Program} {e : TypeId} {ds : List (DataW H)} {d : DataW H} (hd : d ∈ ds) {n : Nat} (hn : n ∈ d.weights P e) : n ∈ DataW.weightsAll P e ds := by
  induction ds with
  | nil => simp at hd
  | cons x xs ih =>
    rw [DataW.weightsAll, List.mem_append]
    rcases List.mem_cons.1 hd with rfl | h
    · exact .inl hn
    · exact .inr (ih h)

section
variable {H : Type} {enc : TypeId × Value → H} {W : World} {v : Value} {d : DataW H} {p : List MemPlace} {base : Nat} {ts : List TypeId} {ds : List (DataW H)}

set_option maxRecDepth 100000 in
/-- A list of forms, each of which is opened as told. -/
theorem forms_step {fuel : Nat} {x : DataW H × List MemPlace} (h : DataW.trod enc Try.prog W 0 (fun _ => true) true fuel 22 [v] = some x) (hw : ∀ n ∈ x.1.weights Try.prog 22, n ≤ reachBytes)
    (ih : ∀ m, m < fuel → ∀ (cs : List Value) (x : DataW H × List MemPlace), DataW.trod enc Try.prog W 0 (fun _ => true) true m 24 cs = some x → (∀ n ∈ x.1.weights Try.prog 24, n ≤ reachBytes) → ∃ f : Fo, cs = f.cells.toList ∧ f.In W) :
    ∃ (A : Option Addr) (c : Nat) (ps : List Fo), v = .slice A ps.length c ∧ ps.length ≤ c ∧ c ≤ 2199023255488 ∧ Lie W A ps ∧ ∀ p ∈ ps, p.In W := by
  rcases DataW.trod_slice Try.underlying22 h with ⟨hcs, _⟩ | ⟨a, len, cap, elems, rest, n, hfu, hcs, rfl, _, hl, _, hlen, hel, hsp, _⟩
  · simp at hcs
    subst hcs
    exact ⟨none, 0, [], rfl, Nat.le_refl _, by omega, Lie.nil _ _, fun p hp => by simp at hp⟩
  · simp at hcs
    subst hcs
    obtain ⟨hrl, _⟩ := hsp rfl
    rw [cells_form] at hel
    rw [DataW.weights, Try.underlying22] at hw
    simp only [List.length_map, bytes_form] at hw
    have hreach := hw _ (List.mem_cons_self)
    have each : ∀ i, i < len → ∃ f : Fo, f.In W ∧ ∀ j u, f.cells[j]? = some u → W.cell? (a.add (i * 6 + j)) = some u := by
      intro i hi
      have he := hel i hi
      have hie : i < elems.length := by omega
      rw [List.getElem?_eq_getElem hie] at he
      obtain ⟨cs', hc, ht⟩ := Option.bind_eq_some_iff.1 he
      obtain ⟨_, hcl, hat⟩ := World.cells?_some hc
      obtain ⟨f, rfl, hf⟩ := ih n (by omega) cs' _ ht (fun k hk => hw k (List.mem_cons_of_mem _ (List.mem_append_left _ (weightsAll_mem (List.mem_map_of_mem (List.getElem_mem hie)) hk))))
      refine ⟨f, hf, fun j u hj => ?_⟩
      have hj6 : j < 6 := by
        rcases Nat.lt_or_ge j 6 with h | h
        · exact h
        · rw [Array.getElem?_eq_none (by simpa [Fo.cells] using h)] at hj; cases hj
      have := hat j hj6
      rw [add_add] at this
      rw [this, ← hj]
      simp
    obtain ⟨q, hq⟩ := choose_lt each
    have hlr : ((List.range len).map q).length = len := by simp
    refine ⟨some a, cap, (List.range len).map q, by rw [hlr], by rw [hlr]; exact hl, ?_, ?_, ?_⟩
    · simp only [reachBytes] at hreach
      omega
    · intro hn
      rw [hlr] at hn
      obtain ⟨b, o, s⟩ := a
      have hc0 := (hq 0 (by omega)).2 0 _ rfl
      have hs : s = none := add_zero_of_cell hc0 rfl
      subst hs
      refine ⟨b, o, rfl, fun i p hi j u hu => ?_⟩
      have hil : i < len := by
        rcases Nat.lt_or_ge i len with h | h
        · exact h
        · rw [List.getElem?_eq_none (by rw [hlr]; exact h)] at hi; cases hi
      have e : p = q i := by
        rw [List.getElem?_map, List.getElem?_range hil] at hi
        simpa using hi.symm
      subst e
      have := (hq i hil).2 j u hu
      rw [add_form] at this
      rw [Nat.add_assoc]
      exact this
    · intro p hp
      obtain ⟨i, hi, rfl⟩ := List.mem_map.1 hp
      exact (hq i (List.mem_range.1 hi)).1

set_option maxRecDepth 100000 in
/-- A form's cells. -/
theorem form_open : ∀ (fuel : Nat) (cs : List Value) (x : DataW H × List MemPlace), DataW.trod enc Try.prog W 0 (fun _ => true) true fuel 24 cs = some x → (∀ n ∈ x.1.weights Try.prog 24, n ≤ reachBytes) → ∃ f : Fo, cs = f.cells.toList ∧ f.In W := by
  intro fuel
  induction fuel using Nat.strongRecOn with
  | _ fuel ih =>
  intro cs x h hw
  obtain ⟨ys, k, rfl, rfl, hlen, hyl, hfld⟩ := DataW.trod_struct Try.underlying24 h
  rw [cells_form] at hlen
  match cs, hlen, ys, hyl with
  | [v0, v1, v2, v3, v4, v5], _, [y0, y1, y2, y3, y4, y5], _ =>
    have g0 := hfld 0 _ rfl
    have g1 := hfld 1 _ rfl
    have g2 := hfld 2 _ rfl
    have g3 := hfld 3 _ rfl
    have g4 := hfld 4 _ rfl
    have g5 := hfld 5 _ rfl
    simp [cells_int, cells_forms] at g0 g1 g2 g3 g4 g5
    obtain ⟨a0, e0, _, _⟩ := DataW.trod_int Try.underlying3 g0
    obtain ⟨a1, e1, _, _⟩ := DataW.trod_int Try.underlying3 g1
    obtain ⟨a2, e2, _, _⟩ := DataW.trod_int Try.underlying3 g2
    obtain ⟨a3, e3, _, _⟩ := DataW.trod_int Try.underlying3 g3
    obtain ⟨a4, e4, _, _⟩ := DataW.trod_int Try.underlying3 g4
    simp at e0 e1 e2 e3 e4
    rw [DataW.weights, Try.underlying24] at hw
    simp [DataW.weightsEach] at hw
    obtain ⟨A, c, ps, e5, h1, h2, h3, h4⟩ := forms_step g5 (fun n hn => hw n (by simp [hn])) (fun m hm => ih m (by omega))
    subst e0 e1 e2 e3 e4 e5
    exact ⟨.mk a0 a1 a2 a3 a4 A c ps, rfl, .mk h1 (by omega) h3 h4⟩

set_option maxRecDepth 100000 in
theorem weight_of (hsz : (DataW.weightsEach Try.prog ts ds).all (· ≤ reachBytes) = true) {j : Nat} {t : TypeId} (hj : ts[j]? = some t) (hd : ds[j]? = some d) : ∀ n ∈ d.weights Try.prog t, n ≤ reachBytes := by
  intro n hn
  have := List.all_eq_true.1 hsz _ (DataW.weights_mem_each hj hd n hn)
  simpa using this

set_option maxRecDepth 100000 in
/-- A form that came in. -/
theorem arg_form (hv : Value.okWide Try.prog W .any base 24 v) (h : DataW.Trod enc Try.prog W 0 (fun _ => true) true 24 v d p)
    (hsz : (DataW.weightsEach Try.prog ts ds).all (· ≤ reachBytes) = true) {j : Nat} (hj : ts[j]? = some 24) (hd : ds[j]? = some d) : ∃ f : Fo, v = f.val ∧ f.In W := by
  obtain ⟨cs, rfl, _⟩ := okWide_struct Try.underlying24 hv
  obtain ⟨fuel, hf⟩ := h
  obtain ⟨f, hcs, hin⟩ := form_open fuel _ _ hf (weight_of hsz hj hd)
  refine ⟨f, ?_, hin⟩
  simp [Value.cells] at hcs
  rw [Fo.val]
  congr 1

set_option maxRecDepth 100000 in
/-- Forms that came in. -/
theorem arg_forms (hv : Value.okWide Try.prog W .any base 22 v) (h : DataW.Trod enc Try.prog W 0 (fun _ => true) true 22 v d p)
    (hsz : (DataW.weightsEach Try.prog ts ds).all (· ≤ reachBytes) = true) {j : Nat} (hj : ts[j]? = some 22) (hd : ds[j]? = some d) :
    ∃ (A : Option Addr) (c : Nat) (ps : List Fo), v = .slice A ps.length c ∧ ps.length ≤ c ∧ c ≤ 2199023255488 ∧ Lie W A ps ∧ ∀ p ∈ ps, p.In W := by
  obtain ⟨A, n, c, rfl⟩ := okWide_slice Try.underlying22 hv
  obtain ⟨fuel, hf⟩ := h
  exact forms_step hf (weight_of hsz hj hd) (fun m _ => form_open m)

end
end Go.Proofs.Ytibbeodcheefaaa


/- Values that came in: as values, as lists of them. -/
namespace Go.Proofs.Ytibbeodcheefaaa
open Go.ChangeShapes Go.WideShapes Go.ChangeAt Go.RowKit Go.Deep

instance : Inhabited Va := ⟨.mk 0 none 0 [] none 0 []⟩
set_option maxRecDepth 100000 in
theorem bytes_value : Try.prog.bytesOf 29 = 56 := by kernel_rfl
set_option maxRecDepth 100000 in
theorem cells_value : Try.prog.cellsOf 29 = 3 := by kernel_rfl
set_option maxRecDepth 100000 in
theorem cells_values : Try.prog.cellsOf 27 = 1 := by kernel_rfl
set_option maxRecDepth 100000 in
theorem cells_bytes : Try.prog.cellsOf 26 = 1 := by kernel_rfl
set_option maxRecDepth 100000 in
theorem cells_u64 : Try.prog.cellsOf 25 = 1 := by kernel_rfl

section
variable {H : Type} {enc : TypeId × Value → H} {W : World} {v : Value} {d : DataW H} {p : List MemPlace} {base : Nat} {ts : List TypeId} {ds : List (DataW H)}

set_option maxRecDepth 100000 in
/-- Bytes in a field. -/
theorem bytes_step {fuel : Nat} {x : DataW H × List MemPlace} (h : DataW.trod enc Try.prog W 0 (fun _ => true) true fuel 26 [v] = some x) (hw : ∀ n ∈ x.1.weights Try.prog 26, n ≤ reachBytes) :
    ∃ (A : Option Addr) (c : Nat) (xs : List UInt8), v = .slice A xs.length c ∧ xs.length ≤ c ∧ c ≤ 140737488351232 ∧ Byt W W.heap.size A xs := by
  rcases open_ints Try.underlying26 Try.underlying5 cells_u8 h with ⟨hcs, _⟩ | ⟨a, l, c, zs, hcs, _, hl, hm, hz, hx, hcell, hwz⟩
  · simp at hcs
    subst hcs
    exact ⟨none, 0, [], rfl, Nat.le_refl _, by omega, fun h => by simp at h⟩
  · simp at hcs
    subst hcs
    subst hx
    simp only [if_true] at hz
    rw [DataW.weights, Try.underlying26] at hw
    simp only [lits, List.length_map, List.length_take, List.length_drop, bytes_u8] at hw
    have hreach := hw _ (List.mem_cons_self)
    simp only [reachBytes] at hreach
    have hle : ((zs.take l).map fun z => UInt8.ofNat z.toNat).length = l := by
      rw [List.length_map, List.length_take]; omega
    refine ⟨some a, c, (zs.take l).map fun z => UInt8.ofNat z.toNat, by rw [hle], by rw [hle]; exact hl, by omega, ?_⟩
    intro hn
    rw [hle] at hn ⊢
    obtain ⟨b, o, s⟩ := a
    have hs : s = none := add_zero_of_cell (hcell 0 (by omega)) rfl
    subst hs
    refine ⟨b, o, rfl, ?_, fun i hi => ?_⟩
    · have := World.block_lt_of_cell? _ _ (hcell 0 (by omega))
      rwa [add_form] at this
    · have h1 := hcell i (by omega)
      rw [add_form] at h1
      rw [h1]
      have hi' : i < zs.length := by omega
      have hm : zs[i] ∈ zs := List.getElem_mem hi'
      have hw := hwz _ hm
      have hb := bounds_u8 hw
      simp only [List.getD, List.getElem?_map, List.getElem?_take_of_lt hi, List.getElem?_eq_getElem hi', Option.map_some, Option.getD_some]
      congr 2
      simp
      omega

set_option maxRecDepth 100000 in
/-- A list of values, each of which is opened as told. -/
theorem values_step {fuel : Nat} {x : DataW H × List MemPlace} (h : DataW.trod enc Try.prog W 0 (fun _ => true) true fuel 27 [v] = some x) (hw : ∀ n ∈ x.1.weights Try.prog 27, n ≤ reachBytes)
    (ih : ∀ m, m < fuel → ∀ (cs : List Value) (x : DataW H × List MemPlace), DataW.trod enc Try.prog W 0 (fun _ => true) true m 29 cs = some x → (∀ n ∈ x.1.weights Try.prog 29, n ≤ reachBytes) → ∃ f : Va, cs = f.cells.toList ∧ f.In W) :
    ∃ (A : Option Addr) (c : Nat) (ps : List Va), v = .slice A ps.length c ∧ ps.length ≤ c ∧ c ≤ 2513169434843 ∧ Va.Lie W A ps ∧ ∀ p ∈ ps, p.In W := by
  rcases DataW.trod_slice Try.underlying27 h with ⟨hcs, _⟩ | ⟨a, len, cap, elems, rest, n, hfu, hcs, rfl, _, hl, _, hlen, hel, hsp, _⟩
  · simp at hcs
    subst hcs
    exact ⟨none, 0, [], rfl, Nat.le_refl _, by omega, Va.Lie.nil _ _, fun p hp => by simp at hp⟩
  · simp at hcs
    subst hcs
    obtain ⟨hrl, _⟩ := hsp rfl
    rw [cells_value] at hel
    rw [DataW.weights, Try.underlying27] at hw
    simp only [List.length_map, bytes_value] at hw
    have hreach := hw _ (List.mem_cons_self)
    have each : ∀ i, i < len → ∃ f : Va, f.In W ∧ ∀ j u, f.cells[j]? = some u → W.cell? (a.add (i * 3 + j)) = some u := by
      intro i hi
      have he := hel i hi
      have hie : i < elems.length := by omega
      rw [List.getElem?_eq_getElem hie] at he
      obtain ⟨cs', hc, ht⟩ := Option.bind_eq_some_iff.1 he
      obtain ⟨_, hcl, hat⟩ := World.cells?_some hc
      obtain ⟨f, rfl, hf⟩ := ih n (by omega) cs' _ ht (fun k hk => hw k (List.mem_cons_of_mem _ (List.mem_append_left _ (weightsAll_mem (List.mem_map_of_mem (List.getElem_mem hie)) hk))))
      refine ⟨f, hf, fun j u hj => ?_⟩
      have hj3 : j < 3 := by
        rcases Nat.lt_or_ge j 3 with h | h
        · exact h
        · rw [Array.getElem?_eq_none (by simpa [Va.cells] using h)] at hj; cases hj
      have := hat j hj3
      rw [add_add] at this
      rw [this, ← hj]
      simp
    obtain ⟨q, hq⟩ := choose_lt each
    have hlr : ((List.range len).map q).length = len := by simp
    refine ⟨some a, cap, (List.range len).map q, by rw [hlr], by rw [hlr]; exact hl, ?_, ?_, ?_⟩
    · simp only [reachBytes] at hreach
      omega
    · intro hn
      rw [hlr] at hn
      obtain ⟨b, o, s⟩ := a
      have hc0 := (hq 0 (by omega)).2 0 _ rfl
      have hs : s = none := add_zero_of_cell hc0 rfl
      subst hs
      refine ⟨b, o, rfl, fun i p hi j u hu => ?_⟩
      have hil : i < len := by
        rcases Nat.lt_or_ge i len with h | h
        · exact h
        · rw [List.getElem?_eq_none (by rw [hlr]; exact h)] at hi; cases hi
      have e : p = q i := by
        rw [List.getElem?_map, List.getElem?_range hil] at hi
        simpa using hi.symm
      subst e
      have := (hq i hil).2 j u hu
      rw [add_form] at this
      rw [Nat.add_assoc]
      exact this
    · intro p hp
      obtain ⟨i, hi, rfl⟩ := List.mem_map.1 hp
      exact (hq i (List.mem_range.1 hi)).1

set_option maxRecDepth 100000 in
/-- A value's cells. -/
theorem value_open : ∀ (fuel : Nat) (cs : List Value) (x : DataW H × List MemPlace), DataW.trod enc Try.prog W 0 (fun _ => true) true fuel 29 cs = some x → (∀ n ∈ x.1.weights Try.prog 29, n ≤ reachBytes) → ∃ f : Va, cs = f.cells.toList ∧ f.In W := by
  intro fuel
  induction fuel using Nat.strongRecOn with
  | _ fuel ih =>
  intro cs x h hw
  obtain ⟨ys, k, rfl, rfl, hlen, hyl, hfld⟩ := DataW.trod_struct Try.underlying29 h
  rw [cells_value] at hlen
  match cs, hlen, ys, hyl with
  | [v0, v1, v2], _, [y0, y1, y2], _ =>
    have g0 := hfld 0 _ rfl
    have g1 := hfld 1 _ rfl
    have g2 := hfld 2 _ rfl
    simp [cells_u64, cells_bytes, cells_values] at g0 g1 g2
    obtain ⟨a0, e0, _, w0⟩ := DataW.trod_int Try.underlying25 g0
    simp at e0
    rw [DataW.weights, Try.underlying29] at hw
    simp [DataW.weightsEach] at hw
    obtain ⟨B, dd, bs, e1, b1, b2, b3⟩ := bytes_step g1 (fun n hn => hw n (by simp [hn]))
    obtain ⟨A, c, ps, e2, h1, h2, h3, h4⟩ := values_step g2 (fun n hn => hw n (by simp [hn])) (fun m hm => ih m (by omega))
    subst e0 e1 e2
    exact ⟨.mk a0 B dd bs A c ps, rfl, .mk (bounds_u64 w0) b3 ⟨b1, by omega⟩ h1 (by omega) h3 h4⟩

set_option maxRecDepth 100000 in
/-- A value that came in. -/
theorem arg_value (hv : Value.okWide Try.prog W .any base 29 v) (h : DataW.Trod enc Try.prog W 0 (fun _ => true) true 29 v d p)
    (hsz : (DataW.weightsEach Try.prog ts ds).all (· ≤ reachBytes) = true) {j : Nat} (hj : ts[j]? = some 29) (hd : ds[j]? = some d) : ∃ f : Va, v = f.val ∧ f.In W := by
  obtain ⟨cs, rfl, _⟩ := okWide_struct Try.underlying29 hv
  obtain ⟨fuel, hf⟩ := h
  obtain ⟨f, hcs, hin⟩ := value_open fuel _ _ hf (weight_of hsz hj hd)
  refine ⟨f, ?_, hin⟩
  simp [Value.cells] at hcs
  rw [Va.val]
  congr 1

set_option maxRecDepth 100000 in
/-- Values that came in. -/
theorem arg_values (hv : Value.okWide Try.prog W .any base 27 v) (h : DataW.Trod enc Try.prog W 0 (fun _ => true) true 27 v d p)
    (hsz : (DataW.weightsEach Try.prog ts ds).all (· ≤ reachBytes) = true) {j : Nat} (hj : ts[j]? = some 27) (hd : ds[j]? = some d) :
    ∃ (A : Option Addr) (c : Nat) (ps : List Va), v = .slice A ps.length c ∧ ps.length ≤ c ∧ c ≤ 2513169434843 ∧ Va.Lie W A ps ∧ ∀ p ∈ ps, p.In W := by
  obtain ⟨A, n, c, rfl⟩ := okWide_slice Try.underlying27 hv
  obtain ⟨fuel, hf⟩ := h
  exact values_step hf (weight_of hsz hj hd) (fun m _ => value_open m)
end
end Go.Proofs.Ytibbeodcheefaaa


/- The statements' own examples, what is too great, a base that may be. -/
namespace Go.Proofs.Ytibbeodcheefaaa
open Go.RowKit Va

set_option maxRecDepth 100000 in
theorem nf_parts {v u : Va} (h : v.nf = u) : v.n = u.n ∧ v.bs = u.bs ∧ nfs v.ls = u.ls := by
  subst h
  cases v
  rw [nf]
  exact ⟨rfl, rfl, rfl⟩

set_option maxRecDepth 100000 in
/-- Great of a form alone. -/
theorem gr0_any (w : World) (f : Fo) (hf : f.In w) :
    Calls Try.prog 9 #[f.val, .slice none 0 0] w fun e w' => e = .returned (.int .i64 (if 500 < f.cnt then 1 else 0)) ∧ Grew w w' none := by
  have HF := Lib.hid hf
  clear hf
  rw [val_eq]
  have hd : ∀ r : Int, r = (if 500 < f.cnt then (1 : Int) else 0) → r = (if 500 < f.cnt then (1 : Int) else 0) := fun _ h => h
  generalize hR : (if 500 < f.cnt then (1 : Int) else 0) = R at *
  have HR := Lib.hid hR
  clear hd hR
  go_enter Try.func9, Try.ntmps9
  go_wp2_with fail
  refine (count_any f 500 _ (by omega) (by omega) (HF.out.grew (grew_alloc (grew_refl _ _) _))).mono ?_
  rintro e w1 ⟨rfl, g1⟩
  have HG1 := Lib.hid (grew_trans (grew_alloc (grew_refl w none) _) g1)
  clear g1
  generalize hC : min (f.cnt : Int) (500 + 1) = C at *
  have HC := Lib.hid hC
  clear hC
  by_cases hC : 500 < C
  · have e : R = 1 := by rw [← HR.out, if_pos (by have := HC.out; omega)]
    subst e
    go_wp2_with fail
    go_ret
    exact ⟨rfl, HG1.out⟩
  · have e : R = 0 := by rw [← HR.out, if_neg (by have := HC.out; omega)]
    subst e
    go_wp2_with fail
    go_loopw [12] (fun i wr => i = .int .i64 0 ∧ Hid (Grew w wr none)) (fun _ _ => 0)
    case atStart => exact ⟨rfl, HG1⟩
    case round =>
      obtain ⟨rfl, R⟩ := hrel
      go_wp2_with fail
      go_ret
      exact ⟨rfl, R.out⟩

def plc (a : Int) : Int := (IntKind.u64.wrap a).tmod 1099511627776
set_option maxRecDepth 100000 in
theorem plc_bd (a : Int) : 0 ≤ plc a ∧ plc a < 1099511627776 := by
  have h0 : 0 ≤ IntKind.u64.wrap a := by rw [IntKind.wrap_u64]; omega
  unfold plc
  rw [Int.tmod_eq_emod_of_nonneg h0]
  omega
/-- The examples' form. -/
def f0 (A : Option Addr) : Fo := .mk 3 0 0 0 0 A 2 [.mk 0 1 0 0 0 none 0 [], .mk 1 1 1 3 1 none 0 []]
set_option maxRecDepth 100000 in
theorem ex1 (A : Option Addr) : rdAll (f0 A) [7, 2, 8, 9] = ⟨0, 4, vL [vN 7, vB [8, 9]], 3⟩ := by kernel_rfl
set_option maxRecDepth 100000 in
theorem ex2 (A : Option Addr) : rdAll (f0 A) [7, 4, 8] = ⟨5, 1, v0, 3⟩ := by kernel_rfl
set_option maxRecDepth 100000 in
theorem ex3 (A : Option Addr) : rdAll (f0 A) [7, 2, 8] = ⟨4, 3, v0, 3⟩ := by kernel_rfl
set_option maxRecDepth 100000 in
theorem ex4 (A : Option Addr) : rdAll (f0 A) [7, 1, 8, 9] = ⟨6, 3, v0, 3⟩ := by kernel_rfl
end Go.Proofs.Ytibbeodcheefaaa


/- The statements' own examples are told. -/
namespace Go.Proofs.Ytibbeodcheefaaa
open Go.RowKit Va

set_option maxRecDepth 100000 in
theorem read_ex (w : World) (f : Fo) (hf : f.In w) (A : Option Addr) (cp : Nat) (xs : List UInt8) (hl : xs.length ≤ cp) (hcp : xs.length ≤ 100) (hb : Byt w w.heap.size A xs) (e : Int) (n : Nat) (v' : Va) (c : Nat) (h : rdAll f xs = ⟨e, n, v', c⟩) (N : Int) (hN : N = n) (L : Nat) (hL : L = xs.length) :
    Calls Try.prog 12 #[f.val, .slice A L cp, .int .i64 0] w fun e' w' => ∃ v : Va, e' = .returned (.tuple #[v.val, .int .i64 N, .int .i64 e]) ∧ v.In w' ∧ v.nf = v' ∧ Grew w w' none := by
  have key := read_any w f hf A cp xs hl (by omega) hb 0 (by omega) (by omega)
  rw [h] at key
  subst hL
  refine key.mono ?_
  rintro e' w' ⟨v, rfl, h1, h2, h3⟩
  exact ⟨v, by rw [hN]; simp, h1, h2, h3⟩

set_option maxRecDepth 100000 in
theorem byt_new (w : World) (cs : Array Value) (xs : List UInt8) (h : cs.toList = cellsOf xs) : Byt (w.alloc (.cells cs 5)) (w.alloc (.cells cs 5)).heap.size (some ⟨w.heap.size, 0, none⟩) xs :=
  (Byt.of_whole (Whole.new w cs 5) h).more (by simp)

set_option maxRecDepth 100000 in
theorem pair_of {v : Va} (h : v.nf = vL [vN 7, vB [8, 9]]) : ∃ l1 l2, v.ls = [l1, l2] ∧ l1.n = 7 ∧ l2.bs = [8, 9] := by
  obtain ⟨_, _, h3⟩ := nf_parts h
  change nfs v.ls = [vN 7, vB [8, 9]] at h3
  rcases hl : v.ls with _ | ⟨l1, _ | ⟨l2, _ | ⟨l3, r⟩⟩⟩
  · rw [hl] at h3; simp [nfs] at h3
  · rw [hl] at h3; simp [nfs] at h3
  · rw [hl] at h3
    simp only [nfs, List.cons.injEq, and_true] at h3
    exact ⟨l1, l2, rfl, (nf_parts h3.1).1, (nf_parts h3.2).2.1⟩
  · rw [hl] at h3; simp [nfs] at h3

end Go.Proofs.Ytibbeodcheefaaa

