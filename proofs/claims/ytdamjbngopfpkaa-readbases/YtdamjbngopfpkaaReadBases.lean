/- From another place on all places are so much further on, and nothing else changes: for every form, bytes and base the law returns true. No condition. -/
import Derived.Test.YtdamjbngopfpkaaLw6
namespace Go.Proofs.Ytdamjbngopfpkaa
open Go.ChangeShapes Go.WideShapes Go.ChangeAt Go.RowKit Va

set_option maxRecDepth 100000 in
set_option maxHeartbeats 2000000 in
theorem readBases_walk (w : World) (f : Fo) (hf : f.In w) (A : Option Addr) (c : Nat) (xs : List UInt8) (hl : xs.length ≤ c) (hc : c ≤ 140737488351232) (hb : Byt w w.heap.size A xs) (base : Int) (_hw : (Lit.int .i64 base).wf = true) :
    Calls Try.prog 6 #[f.val, .slice A xs.length c, .int .i64 base] w fun e w' => e = .returned (.bool true) ∧ Below w.heap.size w w' := by
  obtain ⟨p0, p1⟩ := plc_bd base
  have CR := Lib.hid (fun w' (g : Grew w w' none) (a : Int) (h0 : 0 ≤ a) (h1 : a < 1099511627776) => read_any w' f (hf.grew g) A c xs hl hc ((hb.grew g (fun _ h => by cases h)).more g.size) a h0 (by omega))
  have CG := Lib.hid (fun w' (g : Grew w w' none) => great6_any w' f (hf.grew g) A c xs.length)
  have CP := Lib.hid (fun w' => place6_any w' base)
  obtain ⟨hn, -, -⟩ := rdAll_good (f := f) (xs := xs) (by omega)
  have hnb : ((rdAll f xs).n : Int) ≤ 140737488351232 := by omega
  have hn0 : (0 : Int) ≤ ((rdAll f xs).n : Int) := by omega
  generalize rdAll f xs = R at *
  generalize plc base = pb at *
  generalize hN : (R.n : Int) = N at *
  generalize hRe : R.e = E at *
  clear hf hl hc hb hn hN hRe
  rw [val_eq] at *
  have HW := Lib.hid (Whole.new w #[.int .i64 f.k, .int .i64 f.s, .int .i64 f.l, .int .i64 f.h, .int .i64 f.t, .slice f.A f.ps.length f.c] 24)
  have HG := Lib.hid (grew_alloc (grew_refl w none) (.cells #[.int .i64 f.k, .int .i64 f.s, .int .i64 f.l, .int .i64 f.h, .int .i64 f.t, .slice f.A f.ps.length f.c] 24))
  go_enter Try.func6, Try.ntmps6
  go_wp2_with fail
  generalize w.alloc (.cells #[.int .i64 f.k, .int .i64 f.s, .int .i64 f.l, .int .i64 f.h, .int .i64 f.t, .slice f.A f.ps.length f.c] 24) = W at *
  generalize w.heap.size = q at *
  refine (alive6_any W).mono ?_
  rintro e w1 ⟨rfl, g1⟩
  have HG1 := Lib.hid (grew_trans HG.out g1)
  have HW1 := Lib.hid (HW.out.grew g1 (by simp))
  obtain ⟨b0, b1, b2, b3, b4, b5⟩ := HW1.out.six
  clear g1 HG HW
  go_wp2_with fail
  refine (CG.out w1 HG1.out).mono ?_
  rintro e w2 ⟨rfl, g2⟩
  have HG2 := Lib.hid (grew_trans HG1.out g2)
  have HW2 := Lib.hid (HW1.out.grew g2 (by simp))
  clear g2 HG1 HW1 b0 b1 b2 b3 b4 b5 CG
  by_cases hbig : 500 < f.cnt ∨ 2000 < xs.length
  · rw [decide_eq_true hbig]
    go_wp2_with fail
    refine (alive6_any w2).mono ?_
    rintro e w3 ⟨rfl, g3⟩
    have HG3 := Lib.hid (grew_trans HG2.out g3)
    clear g3
    go_wp2_with fail
    go_ret
    exact ⟨rfl, grew_below HG3.out (Nat.le_refl _) (fun _ h => by cases h)⟩
  · rw [decide_eq_false hbig]
    clear hbig
    go_wp2_with fail
    refine (CP.out w2).mono ?_
    rintro e w3 ⟨rfl, rfl⟩
    clear CP
    obtain ⟨b0, b1, b2, b3, b4, b5⟩ := HW2.out.six
    go_wp2_with fail
    refine (CR.out w2 HG2.out 0 (by omega) (by omega)).mono ?_
    rintro e w3 ⟨v, rfl, hv, hnf, g3⟩
    have HG3 := Lib.hid (grew_trans HG2.out g3)
    have HW3 := Lib.hid (HW2.out.grew g3 (by simp))
    have HV := Lib.hid (show v.In w3 ∧ v.nf = R.v from ⟨hv, hnf⟩)
    clear hv hnf g3 b0 b1 b2 b3 b4 b5
    rw [vval_eq, Int.zero_add]
    go_upto_region 5 with (fail)
    have ga := grew_alloc (grew_refl w3 none) (.cells #[.int .u64 v.n, .slice v.B v.bs.length v.d, .slice v.A v.ls.length v.c] 35)
    have NV := Lib.hid (Whole.new w3 #[.int .u64 v.n, .slice v.B v.bs.length v.d, .slice v.A v.ls.length v.c] 35)
    have HG4 := Lib.hid (grew_trans HG3.out ga)
    obtain ⟨b0, b1, b2, b3, b4, b5⟩ := (HW3.out.grew ga (by simp)).six
    have HV4 := Lib.hid (show v.In _ ∧ v.nf = R.v from ⟨HV.out.1.grew ga, HV.out.2⟩)
    clear ga HG3 HW3 HV
    generalize w3.alloc (.cells #[.int .u64 v.n, .slice v.B v.bs.length v.d, .slice v.A v.ls.length v.c] 35) = w4 at *
    generalize w3.heap.size = z at *
    go_wp2_with fail
    refine (CR.out w4 HG4.out pb p0 p1).mono ?_
    rintro e w5 ⟨u, rfl, hu, hnu, g5⟩
    have HG5 := Lib.hid (grew_trans HG4.out g5)
    have NV5 := Lib.hid (NV.out.grew g5 (by simp))
    have HV5 := Lib.hid (show v.In w5 ∧ v.nf = R.v ∧ u.In w5 ∧ u.nf = R.v from ⟨HV4.out.1.grew g5, HV4.out.2, hu, hnu⟩)
    clear hu hnu g5 b0 b1 b2 b3 b4 b5 HG4 NV HV4
    rw [vval_eq, Int.add_comm pb N]
    go_upto_region 6 with (fail)
    have ga := grew_alloc (grew_refl w5 none) (.cells #[.int .u64 u.n, .slice u.B u.bs.length u.d, .slice u.A u.ls.length u.c] 35)
    obtain ⟨e0, e1, e2⟩ := (Whole.new w5 #[.int .u64 u.n, .slice u.B u.bs.length u.d, .slice u.A u.ls.length u.c] 35).three
    obtain ⟨d0, d1, d2⟩ := (NV5.out.grew ga (by simp)).three
    have HG6 := Lib.hid (grew_trans HG5.out ga)
    have CS := Lib.hid (rsamev_any v u _ (HV5.out.1.grew ga) (HV5.out.2.2.1.grew ga))
    have HSM := Lib.hid (same_of HV5.out.2.1 HV5.out.2.2.2)
    clear ga HG5 HV5 NV5
    rw [vval_eq, vval_eq] at CS
    generalize w5.alloc (.cells #[.int .u64 u.n, .slice u.B u.bs.length u.d, .slice u.A u.ls.length u.c] 35) = w6 at *
    generalize w5.heap.size = z2 at *
    go_wp2_with fail
    refine CS.out.mono ?_
    rintro e w7 ⟨rfl, g7⟩
    rw [HSM.out]
    have HG7 := Lib.hid (grew_trans HG6.out g7)
    clear g7 d0 d1 d2 e0 e1 e2 CS
    go_wp2_with fail
    go_ret
    refine ⟨by simp, grew_below HG7.out (Nat.le_refl _) (fun _ h => by cases h)⟩

set_option maxRecDepth 100000 in
theorem readBases_lifted (os : Os) (started : os.Started) (H : Type) (enc : TypeId × Value → H) :
    ReturnsInHanded {} Try.checked os 6 .any (Rows.readBasesSpec.pre6 enc Try.prog Try.f6 Rows.readBasesRow.domain false) (Rows.readBasesSpec.post enc Try.prog Try.f6 false true false false) := by
  refine returnsInHanded_of_change_sized (C := Try.checked) own started (by kernel_rfl) Try.func6
    (ChangeSpec.witness6 (enc := enc) (C := Try.checked) false ⟨#[], #[.agg #[.int .i64 0, .int .i64 0, .int .i64 0, .int .i64 0, .int .i64 0, .slice none 0 0], .slice none 0 0, .int .i64 0], []⟩ 8 (by kernel_rfl) (by kernel_rfl) (by kernel_rfl) (by kernel_rfl)) ?_
  intro W base args ds gs before hval0 hW hcnd hsz0 _
  have hval : ∀ (j : Nat) t v, Try.f6.params[j]? = some t → args[j]? = some v → Value.okWide Try.prog W .any base t v := hval0
  have hsz : (DataW.weightsEach Try.prog (Try.f6.params.toList ++ Rows.readBasesSpec.plain.varTypes Try.prog) (ds ++ gs)).all (· ≤ reachBytes) = true := hsz0
  have hW' := hW
  obtain ⟨p, q, hA0, hV, rfl, hfz, hnd⟩ := hW
  have hA : DataW.TrodAll enc Try.prog W 0 (fun _ => true) true Try.f6.params.toList args.toList ds p := hA0
  rw [Try.params6] at hA hval hsz
  obtain ⟨v0, vs0, d0, ds0, p0, q0, hargs, rfl, rfl, h0, r0⟩ := trodAll_cons hA
  obtain ⟨v1, vs1, d1, ds1, p1, q1, rfl, rfl, rfl, h1, r1⟩ := trodAll_cons r0
  obtain ⟨v2, vs2, d2, ds2, p2, q2, rfl, rfl, rfl, h2, r2⟩ := trodAll_cons r1
  obtain ⟨rfl, rfl, rfl⟩ := trodAll_nil r2
  obtain rfl : args = #[v0, v1, v2] := by cases args; simp_all
  obtain ⟨rfl, rfl⟩ := trodVars_none hV
  have k0 := h0
  have lt0 : ∀ x ∈ p0, x.block < W.heap.size := by obtain ⟨m, hm⟩ := k0; exact DataW.trod_lt m _ _ _ hm
  obtain ⟨f0, rfl, n0⟩ := arg_form (hval 0 24 v0 rfl rfl) h0 hsz (j := 0) rfl rfl
  have k1 := h1
  have lt1 : ∀ x ∈ p1, x.block < W.heap.size := by obtain ⟨m, hm⟩ := k1; exact DataW.trod_lt m _ _ _ hm
  obtain ⟨A1, c1, x1, rfl, l1, m1, b1⟩ := arg_bytes (hval 1 25 v1 rfl rfl) h1 hsz (j := 1) rfl rfl
  obtain ⟨a2, rfl, rfl, rfl, w2⟩ := open_int Try.underlying3 (hval 2 3 v2 rfl rfl) h2
  clear hA0 hval0 hsz0
  refine (readBases_walk W f0 n0 A1 c1 x1 l1 m1 b1 a2 w2).mono fun e W' ⟨he, bel⟩ => ?_
  subst he
  exact ⟨_, rfl, _, _, _, [], _, [], hW', trodAll_mk1 (shut_bool Try.underlying4 _), (trodAll_cons_mk (Below.trod laidOut (by kernel_rfl) (of_decide_eq_true (by kernel_rfl)) k0 bel lt0) (trodAll_cons_mk (Below.trod laidOut (by kernel_rfl) (of_decide_eq_true (by kernel_rfl)) k1 bel lt1) (trodAll_cons_mk (shut_int Try.underlying3 w2) trodAll_mk0))), rfl, bel.frame _, fun h => by cases h⟩

theorem readBases_over : Rows.readBasesRow.holds Try.pinned (OpenSpec.ofChange Rows.readBasesSpec) :=
  OpenClaim.holds_of_wide 6 Try.f6 rfl rfl rfl rfl rfl rfl rfl ⟨rfl, rfl, rfl, rfl, rfl⟩ rfl rfl rfl rfl rfl (by kernel_rfl) Try.func6 (by kernel_rfl)
    (of_decide_eq_true (by kernel_rfl)) (by unfold Func.isWrapper; first | (rw [if_pos (by decide +kernel)]; kernel_rfl) | (rw [if_neg (by decide +kernel)]; exact ⟨rfl, rfl⟩))
    (fun os started H enc _ => readBases_lifted os started H enc)

theorem readBases_holds : Rows.ReadBasesSaid := readBases_over
#print axioms readBases_holds
end Go.Proofs.Ytdamjbngopfpkaa

