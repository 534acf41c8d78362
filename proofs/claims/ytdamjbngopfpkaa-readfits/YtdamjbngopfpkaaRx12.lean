/- Reading: told, kindSteps, first. -/
import Derived.Test.YtdamjbngopfpkaaRx11
import Derived.Laws.EntriesVeiled
namespace Go.Proofs.Ytdamjbngopfpkaa
open Go.RowKit Va

set_option maxHeartbeats 1000000 in
theorem told_ok (w : World) (v : Va) (b : Int) :
    Calls Try.prog 27 #[v.val, .int .i64 b, fault 0 0] w fun e w' => e = .returned (.tuple #[v.val, .int .i64 b, .int .i64 0]) ∧ Grew w w' none := by
  rw [vval_eq]
  unfold fault
  obtain ⟨g0, k0, k1, k2, ks⟩ := three_new w #[.int .u64 v.n, .slice v.B v.bs.length v.d, .slice v.A v.ls.length v.c] 35 #[.int .i64 0, .int .i64 0] 62 #[.int .u64 0, .slice none 0 0, .slice none 0 0] 35
  have K2 := Lib.hid k2
  have G0 := Lib.hid g0
  obtain ⟨c0, c1, c2⟩ := k0.three
  obtain ⟨e0, e1, e2⟩ := k2.three
  have f2 := k2.frozen
  obtain ⟨d0, d1⟩ := k1.two
  clear g0 k0 k1 k2 ks
  go_enter Try.func27, Try.ntmps27
  go_upto_region 3 with (fail)
  generalize ((w.alloc (.cells #[.int .u64 v.n, .slice v.B v.bs.length v.d, .slice v.A v.ls.length v.c] 35)).alloc (.cells #[.int .i64 0, .int .i64 0] 62)).alloc (.cells #[.int .u64 0, .slice none 0 0, .slice none 0 0] 35) = W at *
  go_wp2_with fail
  refine bodyPost_ret (results_cell_tmps rfl _ _ _ _ _ _ _ rfl (K2.out.put3 (.int .u64 v.n) (.slice v.B v.bs.length v.d) (.slice v.A v.ls.length v.c)) Try.underlying35 rfl (by kernel_rfl)) rfl ?_
  exact ⟨rfl, grew_put3 G0.out (by omega) _ _ _⟩

set_option maxHeartbeats 1000000 in
theorem told_no (w : World) (v : Va) (b y e : Int) (he : e ≠ 0) :
    Calls Try.prog 27 #[v.val, .int .i64 b, fault y e] w fun e' w' => e' = .returned (.tuple #[v0.val, .int .i64 y, .int .i64 e]) ∧ Grew w w' none := by
  rw [vval_eq]
  unfold fault
  obtain ⟨g0, k0, k1, k2, ks⟩ := three_new w #[.int .u64 v.n, .slice v.B v.bs.length v.d, .slice v.A v.ls.length v.c] 35 #[.int .i64 y, .int .i64 e] 62 #[.int .u64 0, .slice none 0 0, .slice none 0 0] 35
  have K2 := Lib.hid k2
  have G0 := Lib.hid g0
  obtain ⟨e0, e1, e2⟩ := k2.three
  have f2 := k2.frozen
  obtain ⟨d0, d1⟩ := k1.two
  clear g0 k0 k1 k2 ks
  have hb : (e != 0) = true := by simpa using he
  go_enter Try.func27, Try.ntmps27
  go_upto_region 2 with (fail)
  generalize ((w.alloc (.cells #[.int .u64 v.n, .slice v.B v.bs.length v.d, .slice v.A v.ls.length v.c] 35)).alloc (.cells #[.int .i64 y, .int .i64 e] 62)).alloc (.cells #[.int .u64 0, .slice none 0 0, .slice none 0 0] 35) = W at *
  go_region
  go_wp2_with fail
  refine bodyPost_ret (results_cell_tmps rfl _ _ _ _ _ _ _ rfl (K2.out.put3 (.int .u64 0) (.slice none 0 0) (.slice none 0 0)) Try.underlying35 rfl (by kernel_rfl)) rfl ?_
  exact ⟨rfl, grew_drew (grew_put3 G0.out (by omega) _ _ _)⟩

/-- The steps. -/
def ksteps : Array Value := #[.func (.func 44) #[] #[], .func (.func 45) #[] #[], .func (.func 46) #[] #[], .func (.func 47) #[] #[], .func (.func 48) #[] #[], .func (.func 49) #[] #[]]

theorem ksteps_any (w : World) : Calls Try.prog 36 #[] w fun e w' => e = .returned (.agg ksteps) ∧ Grew w w' none := by
  go_enter Try.func36, Try.ntmps36
  go_wp2_with fail
  refine bodyPost_ret (results_cell_row rfl _ _ w.heap.size _ _ _ _ rfl (Whole.new _ _ _) Try.underlying75 rfl (by kernel_rfl)) rfl ⟨rfl, ?_⟩
  exact grew_alloc (grew_refl _ _) _

set_option maxRecDepth 100000 in
set_option maxHeartbeats 2000000 in
theorem first_no (w : World) (f : Fo) (hf : f.In w) (hk : f.chk ≠ 0) (tv : Value) (p B : Nat) (xs : List UInt8) (a : Int) (hc : Cr w p B xs a) :
    Calls Try.prog 24 #[tv, f.val, .pointer (some ⟨p, 0, none⟩)] w fun e w' => e = .returned (.tuple #[v0.val, fault a f.chk]) ∧ Grew w w' none := by
  obtain ⟨g0, k0, k1, k2, ks⟩ := three_new w #[.int .i64 f.k, .int .i64 f.s, .int .i64 f.l, .int .i64 f.h, .int .i64 f.t, .slice f.A f.ps.length f.c] 24 #[.int .u64 0, .slice none 0 0, .slice none 0 0] 35 #[.int .i64 0, .int .i64 0] 62
  have HF := Lib.hid (hf.grew g0)
  have HC := Lib.hid (hc.grew g0 (by simp) (fun _ h => by cases h))
  have G0 := Lib.hid g0
  have K1 := Lib.hid k1
  have K2 := Lib.hid k2
  have hb : (f.chk != 0) = true := by simpa using hk
  clear hf hc g0 k0 k1 k2 ks hk
  rw [val_eq]
  go_enter Try.func24, Try.ntmps24
  go_wp2_with fail
  generalize ((w.alloc (.cells #[.int .i64 f.k, .int .i64 f.s, .int .i64 f.l, .int .i64 f.h, .int .i64 f.t, .slice f.A f.ps.length f.c] 24)).alloc (.cells #[.int .u64 0, .slice none 0 0, .slice none 0 0] 35)).alloc (.cells #[.int .i64 0, .int .i64 0] 62) = W at *
  refine (check_any W f HF.out).mono ?_
  rintro e X ⟨rfl, g⟩
  have k1 := K1.out.grew g (by simp)
  have k2 := K2.out.grew g (by simp)
  have C1 := Lib.hid (HC.out.grew g (by simp) (fun _ h => by cases h))
  have G1 := Lib.hid (grew_trans G0.out g)
  have K1' := Lib.hid k1
  have K2' := Lib.hid k2
  clear g k1 k2 K1 K2 HC G0 HF
  go_wp2_with fail
  refine (cr_at X p B xs a C1.out).mono ?_
  rintro e w1 ⟨rfl, rfl⟩
  obtain ⟨c0, c1, c2⟩ := K1'.out.three
  obtain ⟨d0, d1⟩ := K2'.out.two
  have f1 := K1'.out.frozen
  have f2 := K2'.out.frozen
  generalize hch : f.chk = ch at *
  go_wp2_with fail
  obtain ⟨r1, r2, r3⟩ := put32 K1'.out K2'.out (by omega) (.int .u64 0) (.slice none 0 0) (.slice none 0 0) (.int .i64 a) (.int .i64 ch)
  refine bodyPost_ret (results_cells rfl _ _ _ _ _ _ _ _ _ _ _ _ rfl r1 Try.underlying35 rfl (by kernel_rfl) rfl r2 Try.underlying62 rfl (by kernel_rfl)) rfl ?_
  exact ⟨by rw [hch]; rfl, grew_fr G1.out r3 (fun i hi => by rcases hi with rfl | rfl <;> omega)⟩

/-- What a first call asks. -/
structure Pre0 (w0 w : World) (p : Nat) (t : Option Nat) (m c : Int) (xs : List UInt8) (a : Int) : Prop where
  g : Grew w0 w none
  cr : Cr w p w0.heap.size xs a
  tl : ∀ q, t = some q → w0.heap.size ≤ q
  ty : Tly w t m c
def tptr (t : Option Nat) : Value := .pointer (t.map fun q => ⟨q, 0, none⟩)

set_option maxRecDepth 100000 in
set_option maxHeartbeats 2000000 in
theorem first_ok (w0 w : World) (f : Fo) (hf : f.In w0) (hk : f.chk = 0) (p : Nat) (t : Option Nat) (m c : Int) (xs : List UInt8) (a : Int) (hpre : Pre0 w0 w p t m c xs a) (hm : t ≠ none → c + (Rd.rd f xs).c ≤ m) :
    Calls Try.prog 24 #[tptr t, f.val, .pointer (some ⟨p, 0, none⟩)] w (Got w0 w p t m c xs a (Rd.rd f xs)) := by
  obtain ⟨hd8, hw0⟩ := chk_zero hk
  obtain ⟨g0, k0, k1, k2, ks⟩ := three_new w #[.int .i64 f.k, .int .i64 f.s, .int .i64 f.l, .int .i64 f.h, .int .i64 f.t, .slice f.A f.ps.length f.c] 24 #[.int .u64 0, .slice none 0 0, .slice none 0 0] 35 #[.int .i64 0, .int .i64 0] 62
  have HR := Lib.hid (fun r => reads_any w0 r t f hw0 hd8 hf)
  have HF := Lib.hid (hf.grew (grew_trans hpre.g g0))
  have HP := Lib.hid hpre
  have HFT := Lib.hid (show ∀ i, Ft p t i → i < w.heap.size from fun i hi => by
    rcases hi with rfl | ht
    · exact hpre.cr.lt
    · exact (hpre.ty i ht).lt)
  have HM := Lib.hid hm
  have G0 := Lib.hid g0
  have K0 := Lib.hid k0
  have K1 := Lib.hid k1
  have K2 := Lib.hid k2
  have KS := Lib.hid ks
  clear hf g0 k0 k1 k2 ks hpre hm hd8 hw0
  rw [val_eq]
  unfold tptr
  generalize hTV : (t.map fun q => (⟨q, 0, none⟩ : Addr)) = tv at *
  have HTV := Lib.hid hTV
  clear hTV
  go_enter Try.func24, Try.ntmps24
  go_wp2_with fail
  generalize ((w.alloc (.cells #[.int .i64 f.k, .int .i64 f.s, .int .i64 f.l, .int .i64 f.h, .int .i64 f.t, .slice f.A f.ps.length f.c] 24)).alloc (.cells #[.int .u64 0, .slice none 0 0, .slice none 0 0] 35)).alloc (.cells #[.int .i64 0, .int .i64 0] 62) = W at *
  refine (check_any W f HF.out).mono ?_
  rintro e X ⟨rfl, g⟩
  rw [hk]
  have K0' := Lib.hid (K0.out.grew g (by simp))
  have K1' := Lib.hid (K1.out.grew g (by simp))
  have K2' := Lib.hid (K2.out.grew g (by simp))
  have G1 := Lib.hid (grew_trans G0.out g)
  have XS := Lib.hid (show w.heap.size + 3 ≤ X.heap.size by rw [← KS.out]; exact g.size)
  clear g hk K0 K1 K2 G0 HF KS
  go_wp2_with fail
  refine (ksteps_any X).mono ?_
  rintro e Y ⟨rfl, g⟩
  unfold ksteps
  have K0'' := Lib.hid (K0'.out.grew g (by simp))
  have K1'' := Lib.hid (K1'.out.grew g (by simp))
  have K2'' := Lib.hid (K2'.out.grew g (by simp))
  have G2 := Lib.hid (grew_trans G1.out g)
  have YS := Lib.hid (show w.heap.size + 3 ≤ Y.heap.size from Nat.le_trans XS.out g.size)
  clear g K0' K1' K2' G1 XS
  go_upto_region 5 with (fail)
  have g3 := grew_alloc (grew_refl Y none) (.cells #[.pointer tv, .func (.func 44) #[] #[], .func (.func 45) #[] #[], .func (.func 46) #[] #[], .func (.func 47) #[] #[], .func (.func 48) #[] #[], .func (.func 49) #[] #[]] 78)
  have K1 := Lib.hid (K1''.out.grew g3 (by simp))
  have K2 := Lib.hid (K2''.out.grew g3 (by simp))
  obtain ⟨b0, b1, b2, b3, b4, b5⟩ := (K0''.out.grew g3 (by simp)).six
  have G3 := Lib.hid (grew_trans G2.out g3)
  have RD := Lib.hid (Whole.new Y (rcells t) 78)
  unfold rcells at RD
  rw [HTV.out] at RD
  have ZS := Lib.hid (show w.heap.size + 3 ≤ (Y.alloc (.cells #[.pointer tv, .func (.func 44) #[] #[], .func (.func 45) #[] #[], .func (.func 46) #[] #[], .func (.func 47) #[] #[], .func (.func 48) #[] #[], .func (.func 49) #[] #[]] 78)).heap.size from Nat.le_trans YS.out g3.size)
  clear g3 K0'' K1'' K2'' G2 YS
  generalize Y.alloc (.cells #[.pointer tv, .func (.func 44) #[] #[], .func (.func 45) #[] #[], .func (.func 46) #[] #[], .func (.func 47) #[] #[], .func (.func 48) #[] #[], .func (.func 49) #[] #[]] 78) = Z at *
  generalize Y.heap.size = r at *
  go_wp2_with fail
  clear b0 b1 b2 b3 b4 b5
  have hp0 := HP.out
  have hfz : ∀ F, Fr w Z F := fun F => fr_of G3.out
  have PZ : Pre w0 Z r p t m c xs a := ⟨grew_trans hp0.g G3.out, by rw [rcells, HTV.out]; exact RD.out, hp0.cr.grew G3.out (by simp) (fun _ h => by cases h), hp0.tl, hp0.ty.fr (hfz (fun _ => False)) (fun _ _ h => h)⟩
  refine (HR.out r Z p m c xs a PZ HM.out).mono ?_
  clear PZ hp0 hfz
  rintro e X ⟨v, ys, a', rfl, hv, hi, hnf, hC, hx, hT, hF⟩
  generalize Rd.rd f xs = S at *
  have hlo : ∀ i, w.heap.size ≤ i → ¬ Ft p t i := fun i hi e => by have := HFT.out i e; omega
  have k1 := K1.out.fr hF (hlo _ (by omega))
  have k2 := K2.out.fr hF (hlo _ (by omega))
  have HV := Lib.hid (show v.In X ∧ v.Hi Z.heap.size ∧ v.nf = S.v ∧ Cr X p w0.heap.size ys a' ∧ (S.e = 0 → ys = xs.drop S.n ∧ a' = a + S.n) ∧ Tly X t m (c + S.c) ∧ Fr w X (Ft p t) from ⟨hv, hi, hnf, hC, hx, hT, (fr_of G3.out).trans hF (fun _ _ e => e)⟩)
  obtain ⟨c0, c1, c2⟩ := k1.three
  obtain ⟨d0, d1⟩ := k2.two
  have f1 := k1.frozen
  have f2 := k2.frozen
  have K1' := Lib.hid k1
  have K2' := Lib.hid k2
  clear hv hi hnf hC hx hT hF hlo k1 k2 K1 K2
  rw [vval_eq]
  unfold fault
  generalize hfa : faI a S = fa at *
  generalize hfe : S.e = fe at *
  have HFA := Lib.hid hfa
  have HFE := Lib.hid hfe
  clear hfa hfe
  go_wp2_with fail
  obtain ⟨r1, r2, r3⟩ := put32 K1'.out K2'.out (by omega) (.int .u64 v.n) (.slice v.B v.bs.length v.d) (.slice v.A v.ls.length v.c) (.int .i64 fa) (.int .i64 fe)
  refine bodyPost_ret (results_cells rfl _ _ _ _ _ _ _ _ _ _ _ _ rfl r1 Try.underlying35 rfl (by kernel_rfl) rfl r2 Try.underlying62 rfl (by kernel_rfl)) rfl ?_
  obtain ⟨hv, hi, hnf, hC, hx, hT, hF⟩ := HV.out
  have hzs := ZS.out
  exact got_close (v := v) (k := Z.heap.size) hF hC hT r3 (by omega) (by omega) HFT.out hv hi (by omega) (by omega) hnf (by rw [HFE.out]; exact hx) (by rw [HFA.out, HFE.out]; rfl)
end Go.Proofs.Ytdamjbngopfpkaa

